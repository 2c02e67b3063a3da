/- The laws of cart: CartLost. -/
import Derived.Test.YtppclmidnomkjaaCartLaw3
import Derived.Test.YtppclmidnomkjaaOpenParts
namespace Go.Proofs.Ytppclmidnomkjaa
set_option linter.unusedVariables false
set_option linter.unusedSimpArgs false
open Go Go.RowKit
theorem cl0 : (⟨[], (min (max 50 0) 1024 : Int).toNat, false⟩ : CS) = ⟨[], 50, false⟩ := rfl
theorem cl_lose (s : CS) (h : s.lost = false) : s.lose = (true, { s with lost := true }) := by unfold CS.lose; rw [if_neg (by rw [h]; decide)]
theorem cl_lose2 (s : CS) : CS.lose { s with lost := true } = (false, { s with lost := true }) := by unfold CS.lose; rw [if_pos rfl]
theorem cl_read (s : CS) (p : Int) : CS.read { s with lost := true } p = ([], 9) := by unfold CS.read; rw [if_pos rfl]
theorem cl_rot (s : CS) (p : Int) : CS.rot { s with lost := true } p = (false, { s with lost := true }) := by unfold CS.rot; rw [if_pos (.inl rfl)]
theorem cl_tear (s : CS) (p : Int) : CS.tear { s with lost := true } p = (false, { s with lost := true }) := by unfold CS.tear; rw [if_pos (.inl rfl)]
theorem cl_room (s : CS) : CS.room { s with lost := true } = 0 := by unfold CS.room; rw [if_pos rfl]
theorem cl_app (s : CS) (b : List UInt8) : CS.append { s with lost := true } b = (0, if b.length < 1 ∨ 256 < b.length then 1 else 9, { s with lost := true }) := by
  unfold CS.append; split
  · rfl
  · rw [if_pos rfl]
set_option maxHeartbeats 4000000 in
set_option maxRecDepth 10000 in
theorem cartLost_any (A : Option Addr) (n c : Nat) (f : Nat → PartR) (hnc : n ≤ c) (hc : c ≤ maxLen) (z : Int) (hz : I64 z) (A2 : Option Addr) (n2 c2 : Nat) (b : List UInt8) (hn2 : b.length = n2) (hnc2 : n2 ≤ c2) (hc2 : c2 ≤ maxLen) (w : World) (hp : Parts w w.heap.size A n f) (hr2 : Rd w w.heap.size A2 b) :
    Calls Try.prog 7 #[.slice A n c, .int .i64 z, .slice A2 n2 c2] w fun e w' => e = .returned (.bool true) ∧ Below w.heap.size w w' := by
  replace hp := Lib.hid hp
  replace hr2 := Lib.hid hr2
  replace hn2 := Lib.hid hn2
  unfold maxLen at hc hc2
  have hz' := hz
  unfold I64 at hz'
  go_enter Try.func7, Try.ntmps7
  go_wp2_with fail
  refine (cnew_any 50 (by unfold I64; decide) w).mono ?_
  rw [cl0]
  rintro e w2 ⟨rfl, hd2, hb2⟩
  obtain ⟨lo, hlo⟩ : ∃ lo, lo = w.heap.size := ⟨_, rfl⟩
  rw [← hlo] at hd2
  rw [← hlo]
  have hlw : w.heap.size ≤ lo := by omega
  replace hlo := Lib.hid hlo
  replace hd2 := Lib.hid hd2
  replace hb2 := Lib.hid hb2
  go_wp2_with fail
  go_loopw [8, 9] (fun kv i wr => ∃ (k : Nat) (s : CS), i = .int .i64 k ∧ kv = .int .i64 s.recs.length ∧ k ≤ n ∧ k ≤ 40 ∧ s.recs.length ≤ k ∧ Hid (s.lost = false ∧ s.most = 50) ∧ Hid (Ct wr lo wr.heap.size lo s) ∧ Hid (Below w.heap.size w wr)) (fun _ i _ => n - (intOf i).toNat)
  case atStart => exact ⟨0, _, rfl, rfl, Nat.zero_le _, by decide, Nat.le_refl _, Lib.hid ⟨rfl, rfl⟩, hd2, hb2⟩
  case round =>
    obtain ⟨k, s, rfl, rfl, hk, hk40, hsk, hs, hd3, hb3⟩ := hrel
    clear hd2 hb2
    by_cases hlt : k < n ∧ k < 40
    · obtain ⟨h1, h2⟩ := hlt
      obtain ⟨bb, o, rfl, hbB, hat⟩ := hp.out.1 (by omega)
      have c0 := (hat.below hbB hb3.out) k h1
      obtain ⟨hlc, hcm, hrd⟩ := hp.out.2 k h1
      have hrd3 := Lib.hid ((hrd.below hb3.out).more hb3.out.size)
      clear hat hrd
      obtain ⟨q, hq⟩ : ∃ q, f k = q := ⟨_, rfl⟩
      rw [hq] at c0 hlc hcm hrd3
      obtain ⟨A3, c3, l⟩ := q
      clear hq
      try simp only at c0 hlc hcm hrd3
      obtain ⟨m, hm⟩ : ∃ m, l.length = m := ⟨_, rfl⟩
      rw [hm] at c0 hlc
      go_wp2_with fail
      refine (cappend_any lo _ lo s A3 m c3 l hm (by omega) _ hd3.out hrd3.out).mono ?_
      replace hm := Lib.hid hm
      rcases app_cases s l hs.out.1 (by rw [hs.out.2]; omega) with ⟨g1, g2⟩ | ⟨g1, g2⟩
      · rw [g2]
        rintro e w4 ⟨rfl, hd4, hch⟩
        have hb4 := Lib.hid (hch.from_ hb3.out hlw hd3.out.lw)
        replace hd4 := Lib.hid hd4
        clear hch hd3 hb3 hrd3 g1 g2 c0
        go_wp2_with fail
        go_roundw
        case rel => exact ⟨k + 1, s, by go_num, rfl, by omega, by omega, by omega, hs, hd4, hb4⟩
        case measure => simp [intOf]; omega
      · rw [g2]
        rintro e w4 ⟨rfl, hd4, hch⟩
        have hb4 := Lib.hid (hch.from_ hb3.out hlw hd3.out.lw)
        obtain ⟨s', hs'⟩ : ∃ s', { s with recs := s.recs ++ [(l, false)] } = s' := ⟨_, rfl⟩
        replace hd4 : Hid (Ct w4 lo w4.heap.size lo s') := Lib.hid (by rw [← hs']; exact hd4)
        have hsl : Hid (s'.recs.length = s.recs.length + 1) := Lib.hid (by rw [← hs']; simp)
        have hs2 : Hid (s'.lost = false ∧ s'.most = 50) := Lib.hid (by rw [← hs']; exact hs.out)
        clear hch hd3 hb3 hrd3 g1 g2 c0 hs hs'
        go_wp2_with fail
        go_roundw
        case rel => exact ⟨k + 1, s', by go_num, by rw [hsl.out]; go_num, by omega, by omega, by rw [hsl.out]; omega, hs2, hd4, hb4⟩
        case measure => simp [intOf]; omega
    · have hl3 := Lib.hid (cl_lose s hs.out.1)
      have hlost := Lib.hid hs.out.1
      have hr3 : (s.recs.length : Int) ≤ 40 := by omega
      clear hs
      by_cases h1 : k < n
      · have h2 : ¬ k < 40 := by omega
        clear hlt
        go_wp2_with fail
        refine (clost_any lo _ lo s _ hd3.out).mono ?_
        rw [hlost.out]
        rintro e w4 ⟨rfl, rfl⟩
        go_wp2_with fail
        refine (close_any lo _ lo s _ hd3.out).mono ?_
        rw [hl3.out]
        rintro e w5 ⟨rfl, hd5, hch⟩
        have hb5 := Lib.hid (hch.from_ hb3.out hlw hd3.out.lw)
        replace hd5 := Lib.hid hd5
        clear hch hb3 hd3
        go_wp2_with fail
        refine (clost_any lo _ lo _ _ hd5.out).mono ?_
        rintro e w6 ⟨rfl, rfl⟩
        go_wp2_with fail
        refine (close_any lo _ lo _ _ hd5.out).mono ?_
        rw [cl_lose2]
        rintro e w7 ⟨rfl, hd7, hch⟩
        have hb7 := Lib.hid (hch.from_ hb5.out hlw hd5.out.lw)
        replace hd7 := Lib.hid hd7
        clear hch hb5 hd5
        go_wp2_with fail
        refine (cread_any lo _ lo _ z hz _ hd7.out).mono ?_
        rw [cl_read]
        rintro e w8 ⟨v8, rfl, ho8, hbb⟩
        obtain ⟨A8, c8, rfl, -, -, -, -⟩ := ho8.form
        have hd8 := Lib.hid (hd7.out.below hbb)
        have hb8 := Lib.hid (hb7.out.trans (hbb.mono hb7.out.size))
        have hrb := Lib.hid ((hr2.out.below hb8.out).more hb8.out.size)
        clear ho8 hbb hb7 hd7
        go_wp2_with fail
        refine (cappend_any lo _ lo _ A2 n2 c2 b hn2.out (by unfold maxLen; omega) _ hd8.out hrb.out).mono ?_
        rw [cl_app, hn2.out]
        rintro e w9 ⟨rfl, hd9, hch⟩
        have hb9 := Lib.hid (hch.from_ hb8.out hlw hd8.out.lw)
        replace hd9 := Lib.hid hd9
        clear hch hb8 hd8 hrb
        rcases (by omega : n2 < 1 ∨ (1 ≤ n2 ∧ 256 < n2) ∨ (1 ≤ n2 ∧ n2 ≤ 256)) with hq | ⟨hq, hq2⟩ | ⟨hq, hq2⟩
        · rw [if_pos (.inl hq)]
          go_wp2_with fail
          refine (awake07_any _).mono ?_
          rintro e w10 ⟨rfl, hba⟩
          have hb10 := Lib.hid (hb9.out.trans (hba.mono hb9.out.size))
          have hd10 := Lib.hid (hd9.out.below hba)
          clear hba hb9 hd9
          go_wp2_with fail
          refine (crot_any lo _ lo _ z hz _ hd10.out).mono ?_
          rw [cl_rot]
          rintro e w11 ⟨rfl, hd11, hch⟩
          have hb11 := Lib.hid (hch.from_ hb10.out hlw hd10.out.lw)
          replace hd11 := Lib.hid hd11
          clear hch hb10 hd10
          go_wp2_with fail
          refine (ctear_any lo _ lo _ z hz _ hd11.out).mono ?_
          rw [cl_tear]
          rintro e w12 ⟨rfl, hd12, hch⟩
          have hb12 := Lib.hid (hch.from_ hb11.out hlw hd11.out.lw)
          replace hd12 := Lib.hid hd12
          clear hch hb11 hd11
          go_wp2_with fail
          refine (clen_any lo _ lo _ _ hd12.out).mono ?_
          rintro e w13 ⟨rfl, rfl⟩
          go_wp2_with fail
          refine (croom_any lo _ lo _ _ hd12.out).mono ?_
          rw [cl_room]
          rintro e w14 ⟨rfl, nq, rfl⟩
          go_wp2
          go_ret
          exact ⟨rfl, below_dn hb12.out _⟩
        · rw [if_pos (.inr hq2)]
          go_wp2_with fail
          refine (awake07_any _).mono ?_
          rintro e w10 ⟨rfl, hba⟩
          have hb10 := Lib.hid (hb9.out.trans (hba.mono hb9.out.size))
          have hd10 := Lib.hid (hd9.out.below hba)
          clear hba hb9 hd9
          go_wp2_with fail
          refine (crot_any lo _ lo _ z hz _ hd10.out).mono ?_
          rw [cl_rot]
          rintro e w11 ⟨rfl, hd11, hch⟩
          have hb11 := Lib.hid (hch.from_ hb10.out hlw hd10.out.lw)
          replace hd11 := Lib.hid hd11
          clear hch hb10 hd10
          go_wp2_with fail
          refine (ctear_any lo _ lo _ z hz _ hd11.out).mono ?_
          rw [cl_tear]
          rintro e w12 ⟨rfl, hd12, hch⟩
          have hb12 := Lib.hid (hch.from_ hb11.out hlw hd11.out.lw)
          replace hd12 := Lib.hid hd12
          clear hch hb11 hd11
          go_wp2_with fail
          refine (clen_any lo _ lo _ _ hd12.out).mono ?_
          rintro e w13 ⟨rfl, rfl⟩
          go_wp2_with fail
          refine (croom_any lo _ lo _ _ hd12.out).mono ?_
          rw [cl_room]
          rintro e w14 ⟨rfl, nq, rfl⟩
          go_wp2
          go_ret
          exact ⟨rfl, below_dn hb12.out _⟩
        · rw [if_neg (by omega)]
          go_wp2_with fail
          refine (awake07_any _).mono ?_
          rintro e w10 ⟨rfl, hba⟩
          have hb10 := Lib.hid (hb9.out.trans (hba.mono hb9.out.size))
          have hd10 := Lib.hid (hd9.out.below hba)
          clear hba hb9 hd9
          go_wp2_with fail
          refine (crot_any lo _ lo _ z hz _ hd10.out).mono ?_
          rw [cl_rot]
          rintro e w11 ⟨rfl, hd11, hch⟩
          have hb11 := Lib.hid (hch.from_ hb10.out hlw hd10.out.lw)
          replace hd11 := Lib.hid hd11
          clear hch hb10 hd10
          go_wp2_with fail
          refine (ctear_any lo _ lo _ z hz _ hd11.out).mono ?_
          rw [cl_tear]
          rintro e w12 ⟨rfl, hd12, hch⟩
          have hb12 := Lib.hid (hch.from_ hb11.out hlw hd11.out.lw)
          replace hd12 := Lib.hid hd12
          clear hch hb11 hd11
          go_wp2_with fail
          refine (clen_any lo _ lo _ _ hd12.out).mono ?_
          rintro e w13 ⟨rfl, rfl⟩
          go_wp2_with fail
          refine (croom_any lo _ lo _ _ hd12.out).mono ?_
          rw [cl_room]
          rintro e w14 ⟨rfl, nq, rfl⟩
          go_wp2
          go_ret
          exact ⟨rfl, below_dn hb12.out _⟩
      · clear hlt
        go_wp2_with fail
        refine (clost_any lo _ lo s _ hd3.out).mono ?_
        rw [hlost.out]
        rintro e w4 ⟨rfl, rfl⟩
        go_wp2_with fail
        refine (close_any lo _ lo s _ hd3.out).mono ?_
        rw [hl3.out]
        rintro e w5 ⟨rfl, hd5, hch⟩
        have hb5 := Lib.hid (hch.from_ hb3.out hlw hd3.out.lw)
        replace hd5 := Lib.hid hd5
        clear hch hb3 hd3
        go_wp2_with fail
        refine (clost_any lo _ lo _ _ hd5.out).mono ?_
        rintro e w6 ⟨rfl, rfl⟩
        go_wp2_with fail
        refine (close_any lo _ lo _ _ hd5.out).mono ?_
        rw [cl_lose2]
        rintro e w7 ⟨rfl, hd7, hch⟩
        have hb7 := Lib.hid (hch.from_ hb5.out hlw hd5.out.lw)
        replace hd7 := Lib.hid hd7
        clear hch hb5 hd5
        go_wp2_with fail
        refine (cread_any lo _ lo _ z hz _ hd7.out).mono ?_
        rw [cl_read]
        rintro e w8 ⟨v8, rfl, ho8, hbb⟩
        obtain ⟨A8, c8, rfl, -, -, -, -⟩ := ho8.form
        have hd8 := Lib.hid (hd7.out.below hbb)
        have hb8 := Lib.hid (hb7.out.trans (hbb.mono hb7.out.size))
        have hrb := Lib.hid ((hr2.out.below hb8.out).more hb8.out.size)
        clear ho8 hbb hb7 hd7
        go_wp2_with fail
        refine (cappend_any lo _ lo _ A2 n2 c2 b hn2.out (by unfold maxLen; omega) _ hd8.out hrb.out).mono ?_
        rw [cl_app, hn2.out]
        rintro e w9 ⟨rfl, hd9, hch⟩
        have hb9 := Lib.hid (hch.from_ hb8.out hlw hd8.out.lw)
        replace hd9 := Lib.hid hd9
        clear hch hb8 hd8 hrb
        rcases (by omega : n2 < 1 ∨ (1 ≤ n2 ∧ 256 < n2) ∨ (1 ≤ n2 ∧ n2 ≤ 256)) with hq | ⟨hq, hq2⟩ | ⟨hq, hq2⟩
        · rw [if_pos (.inl hq)]
          go_wp2_with fail
          refine (awake07_any _).mono ?_
          rintro e w10 ⟨rfl, hba⟩
          have hb10 := Lib.hid (hb9.out.trans (hba.mono hb9.out.size))
          have hd10 := Lib.hid (hd9.out.below hba)
          clear hba hb9 hd9
          go_wp2_with fail
          refine (crot_any lo _ lo _ z hz _ hd10.out).mono ?_
          rw [cl_rot]
          rintro e w11 ⟨rfl, hd11, hch⟩
          have hb11 := Lib.hid (hch.from_ hb10.out hlw hd10.out.lw)
          replace hd11 := Lib.hid hd11
          clear hch hb10 hd10
          go_wp2_with fail
          refine (ctear_any lo _ lo _ z hz _ hd11.out).mono ?_
          rw [cl_tear]
          rintro e w12 ⟨rfl, hd12, hch⟩
          have hb12 := Lib.hid (hch.from_ hb11.out hlw hd11.out.lw)
          replace hd12 := Lib.hid hd12
          clear hch hb11 hd11
          go_wp2_with fail
          refine (clen_any lo _ lo _ _ hd12.out).mono ?_
          rintro e w13 ⟨rfl, rfl⟩
          go_wp2_with fail
          refine (croom_any lo _ lo _ _ hd12.out).mono ?_
          rw [cl_room]
          rintro e w14 ⟨rfl, nq, rfl⟩
          go_wp2
          go_ret
          exact ⟨rfl, below_dn hb12.out _⟩
        · rw [if_pos (.inr hq2)]
          go_wp2_with fail
          refine (awake07_any _).mono ?_
          rintro e w10 ⟨rfl, hba⟩
          have hb10 := Lib.hid (hb9.out.trans (hba.mono hb9.out.size))
          have hd10 := Lib.hid (hd9.out.below hba)
          clear hba hb9 hd9
          go_wp2_with fail
          refine (crot_any lo _ lo _ z hz _ hd10.out).mono ?_
          rw [cl_rot]
          rintro e w11 ⟨rfl, hd11, hch⟩
          have hb11 := Lib.hid (hch.from_ hb10.out hlw hd10.out.lw)
          replace hd11 := Lib.hid hd11
          clear hch hb10 hd10
          go_wp2_with fail
          refine (ctear_any lo _ lo _ z hz _ hd11.out).mono ?_
          rw [cl_tear]
          rintro e w12 ⟨rfl, hd12, hch⟩
          have hb12 := Lib.hid (hch.from_ hb11.out hlw hd11.out.lw)
          replace hd12 := Lib.hid hd12
          clear hch hb11 hd11
          go_wp2_with fail
          refine (clen_any lo _ lo _ _ hd12.out).mono ?_
          rintro e w13 ⟨rfl, rfl⟩
          go_wp2_with fail
          refine (croom_any lo _ lo _ _ hd12.out).mono ?_
          rw [cl_room]
          rintro e w14 ⟨rfl, nq, rfl⟩
          go_wp2
          go_ret
          exact ⟨rfl, below_dn hb12.out _⟩
        · rw [if_neg (by omega)]
          go_wp2_with fail
          refine (awake07_any _).mono ?_
          rintro e w10 ⟨rfl, hba⟩
          have hb10 := Lib.hid (hb9.out.trans (hba.mono hb9.out.size))
          have hd10 := Lib.hid (hd9.out.below hba)
          clear hba hb9 hd9
          go_wp2_with fail
          refine (crot_any lo _ lo _ z hz _ hd10.out).mono ?_
          rw [cl_rot]
          rintro e w11 ⟨rfl, hd11, hch⟩
          have hb11 := Lib.hid (hch.from_ hb10.out hlw hd10.out.lw)
          replace hd11 := Lib.hid hd11
          clear hch hb10 hd10
          go_wp2_with fail
          refine (ctear_any lo _ lo _ z hz _ hd11.out).mono ?_
          rw [cl_tear]
          rintro e w12 ⟨rfl, hd12, hch⟩
          have hb12 := Lib.hid (hch.from_ hb11.out hlw hd11.out.lw)
          replace hd12 := Lib.hid hd12
          clear hch hb11 hd11
          go_wp2_with fail
          refine (clen_any lo _ lo _ _ hd12.out).mono ?_
          rintro e w13 ⟨rfl, rfl⟩
          go_wp2_with fail
          refine (croom_any lo _ lo _ _ hd12.out).mono ?_
          rw [cl_room]
          rintro e w14 ⟨rfl, nq, rfl⟩
          go_wp2
          go_ret
          exact ⟨rfl, below_dn hb12.out _⟩
end Go.Proofs.Ytppclmidnomkjaa
