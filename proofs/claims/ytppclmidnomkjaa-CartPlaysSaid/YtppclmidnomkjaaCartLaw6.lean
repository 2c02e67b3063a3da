/- The laws of cart: CartPlays. -/
import Derived.Test.YtppclmidnomkjaaCartDoes
import Derived.Test.YtppclmidnomkjaaOpenActs
import Derived.Deep.CutBlock
namespace Go.Proofs.Ytppclmidnomkjaa
set_option linter.unusedVariables false
set_option linter.unusedSimpArgs false
open Go Go.RowKit
set_option maxHeartbeats 2000000 in
set_option maxRecDepth 10000 in
theorem calike_any (lo g gr : Nat) (s : CS) (w : World) (h : Cb w lo g gr s) :
    Calls Try.prog 18 #[.pointer (some ⟨g, 0, none⟩), .pointer (some ⟨gr, 0, none⟩)] w fun e w' => e = .returned (.bool true) ∧ ∃ n, w' = w.drewN n := by
  obtain ⟨hct, hrt⟩ := h
  obtain ⟨A1, c1, A2, c2, hh, hg, hs, hz, q0, q1, q2, q3, hc1, hm1, hc2, hm2⟩ := hrt.open_
  have hrl := hrt.ok.recs
  have hmo := hrt.ok.most
  replace hct := Lib.hid hct
  replace hrt := Lib.hid hrt
  replace hh := Lib.hid hh
  replace hs := Lib.hid hs
  replace hz := Lib.hid hz
  go_enter Try.func18, Try.ntmps18
  go_wp2_with fail
  go_quiet ((first
    | (go_at_call 24; exact Calls.quiet_of_same (clen_any lo _ g s _ (hct.out.drewN _)))
    | (go_at_call 25; exact Calls.quiet_of (croom_any lo _ g s _ (hct.out.drewN _)))
    | (go_at_call 46; exact Calls.quiet_of (rroom_any lo gr s _ (hrt.out.drewN _)))
    | (go_at_call 27; exact Calls.quiet_of_same (clost_any lo _ g s _ (hct.out.drewN _)))))
  go_wp2
  go_ret
  exact ⟨rfl, _, rfl⟩
set_option maxHeartbeats 4000000 in
set_option maxRecDepth 10000 in
theorem cartPlays_any (most : Int) (hmost : I64 most) (A : Option Addr) (n c : Nat) (hnc : n ≤ c) (hcm : c ≤ maxLen) (f : Nat → ActR) (w : World) (ha : Acts w w.heap.size A n f) :
    Calls Try.prog 3 #[.int .i64 most, .slice A n c] w fun e w' => e = .returned (.bool true) ∧ Below w.heap.size w w' := by
  replace ha := Lib.hid ha
  unfold maxLen at hcm
  go_enter Try.func3, Try.ntmps3
  go_upto_block 0 with (first
    | (go_at_call 15; refine (cnew_any most hmost w).mono ?_; rintro e w1 ⟨rfl, hd1, hb1⟩; replace hd1 := Lib.hid hd1; replace hb1 := Lib.hid hb1)
    | (go_at_call 16; refine (rnew_any most hmost w1).mono ?_; rintro e w2 ⟨rfl, hr2, hb2⟩; replace hr2 := Lib.hid hr2; replace hb2 := Lib.hid hb2))
  obtain ⟨lo, hlo⟩ : ∃ lo, lo = w.heap.size := ⟨_, rfl⟩
  rw [← hlo] at hd1 ⊢
  have hlw : w.heap.size ≤ lo := by omega
  obtain ⟨gr, hgr⟩ : ∃ gr, w1.heap.size = gr := ⟨_, rfl⟩
  have hlo1 : lo ≤ w1.heap.size := hd1.out.lw
  have h2 : Hid (Cb w2 lo lo gr ⟨[], (min (max most 0) 1024).toNat, false⟩) := Lib.hid ⟨(hd1.out.below hb2.out).more (hd1.out.below hb2.out).bounds.2.2 (Nat.le_refl _), by
    rw [← hgr]
    obtain ⟨v1, v2, a, b, c, d, e⟩ := hr2.out
    exact ⟨v1, v2, a, hlo1, row_more c hlo1, row_more d hlo1, e⟩⟩
  have hb3 := Lib.hid (hb1.out.trans (hb2.out.mono hb1.out.size))
  rw [hgr]
  replace hgr := Lib.hid hgr
  replace hlo := Lib.hid hlo
  clear hd1 hb1 hr2 hb2
  go_cut [7] (fun i wx => ∃ s : CS, Hid (Cb wx lo lo gr s) ∧ Hid (Below w.heap.size w wx))
  case first =>
    go_wp2_with fail
    go_loopw [7] (fun i wr => ∃ (k : Nat) (s : CS), i = .int .i64 k ∧ k ≤ n ∧ k ≤ 80 ∧ Hid (Cb wr lo lo gr s) ∧ Hid (Below w.heap.size w wr)) (fun i _ => n - (intOf i).toNat)
    case atStart => exact ⟨0, _, rfl, Nat.zero_le _, by decide, h2, hb3⟩
    case round =>
      obtain ⟨k, s, rfl, hk, hk80, h3, hb4⟩ := hrel
      clear h2 hb3
      by_cases hlt : k < n
      · by_cases h80 : k < 80
        · obtain ⟨b, o, rfl, hbB, hat⟩ := ha.out.1 (by omega)
          obtain ⟨c0, c1, c2⟩ := (hat.below hbB hb4.out) k hlt
          obtain ⟨hz, hlc, hcm2, hrd⟩ := ha.out.2 k hlt
          replace hrd := Lib.hid ((hrd.below hb4.out).more hlw)
          replace hat := Lib.hid hat
          replace hz := Lib.hid hz
          obtain ⟨q, hq⟩ : ∃ q, f k = q := ⟨_, rfl⟩
          rw [hq] at c0 c1 c2 hz hrd hlc hcm2
          obtain ⟨d, z, A2, cc, l⟩ := q
          clear hq
          try simp only at c0 c1 c2 hz hrd hlc hcm2
          have hlm := Lib.hid (Nat.le_trans hlc hcm2)
          go_wp2_with fail
          refine (does_any lo lo gr s d z hz.out A2 l.length cc l rfl hlm.out wr h3.out hrd.out).mono ?_
          rintro e w4 ⟨rfl, s4, h4, hT4⟩
          have hb5 := Lib.hid (hT4.from_ hb4.out hlw h3.out.1.lw)
          replace h4 := Lib.hid h4
          clear h3 c0 c1 c2 hrd hT4 hb4 hlc hcm2 hlm
          go_wp2_with fail
          refine (calike_any lo lo gr s4 w4 h4.out).mono ?_
          rintro e w5 ⟨rfl, nq, rfl⟩
          go_wp2_with fail
          go_roundw
          case rel => exact ⟨k + 1, s4, by go_num, by omega, by omega, Lib.hid ⟨h4.out.1.drewN nq, h4.out.2.drewN nq⟩, Lib.hid (below_dn hb5.out nq)⟩
          case measure => simp [intOf]; omega
        · go_wp2_with fail
          go_meet
          exact ⟨s, h3, hb4⟩
      · go_wp2_with fail
        go_meet
        exact ⟨s, h3, hb4⟩
  case rest =>
    obtain ⟨s, h3, hb4⟩ := hcut
    clear h2 hb3 ha
    have hrl := h3.out.1.ok.recs
    have hmo := h3.out.1.ok.most
    obtain ⟨N, hN⟩ : ∃ N, s.recs.length = N := ⟨_, rfl⟩
    rw [hN] at hrl
    go_wp2_with fail
    go_loopw [8] (fun i wr => ∃ z : Int, i = .int .i64 z ∧ -1 ≤ z ∧ z ≤ N + 1 ∧ Hid (Cb wr lo lo gr s) ∧ Hid (Below w.heap.size w wr)) (fun i _ => match i with | .int _ z => (N + 1 - z).toNat | _ => 0)
    case atStart => exact ⟨-1, rfl, by omega, by omega, h3, hb4⟩
    case round =>
      obtain ⟨z, rfl, hz1, hz2, h5, hb5⟩ := hrel
      clear h3 hb4
      obtain ⟨A1, c1, A2, c2, -, -, -, -, q0, -, -, -, hc1, hm1, hc2, hm2⟩ := h5.out.2.open_
      rw [hN] at q0
      have hI : Hid (I64 z) := Lib.hid (by unfold I64; omega)
      replace hN := Lib.hid hN
      by_cases hzN : z ≤ N
      · go_wp2_with fail
        refine (cread_any lo _ lo s z hI.out _ h5.out.1).mono ?_
        obtain ⟨res, hres⟩ : ∃ res, s.read z = res := ⟨_, rfl⟩
        rw [hres]
        rintro e w6 ⟨v6, rfl, ho6, hbb⟩
        have h6 : Hid (Cb w6 lo lo gr s) := Lib.hid ⟨(h5.out.1.below hbb).more (h5.out.1.below hbb).bounds.2.2 (Nat.le_refl _), h5.out.2.below hbb⟩
        have hb6 := Lib.hid (hb5.out.trans (hbb.mono hb5.out.size))
        obtain ⟨A6, c6, rfl, -, -, hR6, -⟩ := ho6.form
        have hcv := run_str_at (n := res.1.length) c6 hR6 rfl
        replace hres := Lib.hid hres
        replace hR6 := Lib.hid hR6
        clear ho6 hbb h5 hb5 q0
        go_wp2_with fail
        refine (rread_any lo gr s z _ h6.out.2).mono ?_
        rw [hres.out]
        rintro e w7 ⟨rfl, rfl⟩
        go_wp2_with fail
        go_roundw
        case rel => exact ⟨z + 1, rfl, by omega, by omega, h6, hb6⟩
        case measure => simp; omega
      · go_wp2_with fail
        refine (awake07_any _).mono ?_
        rintro e w9 ⟨rfl, hb9⟩
        replace hb9 := Lib.hid hb9
        go_wp2_with fail
        go_ret
        exact ⟨rfl, hb5.out.trans (hb9.out.mono hb5.out.size)⟩
end Go.Proofs.Ytppclmidnomkjaa
