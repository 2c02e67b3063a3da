/- The laws of cart: CartOwn. -/
import Derived.Test.YtppclmidnomkjaaCartLaw
import Derived.Deep.DeepCutAuto
namespace Go.Proofs.Ytppclmidnomkjaa
set_option linter.unusedVariables false
set_option linter.unusedSimpArgs false
open Go Go.RowKit
theorem OB.set_other {w : World} {base : Nat} {v : Value} {l : List UInt8} (h : OB w base v l) (g j : Nat) (u : Value) (hn : v.ownBlock ≠ some g) : OB (w.setCell ⟨g, j, none⟩ u) base v l := row_set_other h g j u hn
theorem OB.under {w w' : World} {v : Value} {l : List UInt8} {base B : Nat} (h : OB w base v l) (hl : ∀ k, v.ownBlock = some k → base ≤ k ∧ k < B) (hb : Below B w w') : OB w' base v l :=
  row_keep h (fun k hk => hb.block k (hl k hk).2)
theorem OB.len {w : World} {base n c : Nat} {A : Option Addr} {l : List UInt8} (h : OB w base (.slice A n c) l) : l.length = n := by
  rcases h.2 with ⟨e, h0⟩ | ⟨g, cap, cur, e, -⟩
  · injection e with _ e _; omega
  · injection e with _ e _; exact e.symm
theorem co0 : (⟨[], (min (max 3 0) 1024 : Int).toNat, false⟩ : CS) = ⟨[], 3, false⟩ := rfl
theorem co1 (l : List UInt8) (h : l = []) : CS.append ⟨[], 3, false⟩ l = (0, 1, ⟨[], 3, false⟩) := by subst h; rfl
theorem co2 (l : List UInt8) (h : 1 ≤ l.length) (h2 : l.length ≤ 256) : CS.append ⟨[], 3, false⟩ l = (0, 0, ⟨[(l, false)], 3, false⟩) := by
  unfold CS.append; rw [if_neg (by omega)]; rfl
theorem co3 (l : List UInt8) : CS.read ⟨[(l, false)], 3, false⟩ 0 = (l, 0) := rfl
set_option maxHeartbeats 4000000 in
set_option maxRecDepth 10000 in
theorem cartOwn_any (A : Option Addr) (n c : Nat) (b : List UInt8) (hn : b.length = n) (hnc : n ≤ c) (hnb : n ≤ 140737488355328) (t : UInt8) (w : World) (hr : Rd w w.heap.size A b) :
    Calls Try.prog 5 #[.slice A n c, .int .u8 (U t)] w fun e w' => e = .returned (.bool true) ∧ Below w.heap.size w w' := by
  have ho1 := Lib.hid (OB.empty w w.heap.size (Nat.le_refl _))
  have hr' := Lib.hid (hr.alloc (Nat.le_refl _) (.cells #[] 5))
  have hb0 := Lib.hid ((Below.refl w.heap.size w).alloc (Nat.le_refl _) (.cells #[] 5))
  replace hr := Lib.hid hr
  replace hn := Lib.hid hn
  go_enter Try.func5, Try.ntmps5
  go_upto_if 21 with (at_builtin; refine wpl_append rfl (.tmp 16) (.tmp 17) rfl w.heap.size (.slice (some ⟨w.heap.size, 0, none⟩) 0 0) [] rfl ho1.out w.heap.size A c b (by rw [hn.out]; rfl) hr'.out (by simp; rw [hn.out]; omega) (by simp) ?_; intro v1 w1 hown1 hg1 _; rw [List.nil_append] at hown1; obtain ⟨Ax, cx, rfl, hcx, hcm, -, -⟩ := hown1.form; have hb1 := Lib.hid (below_app ho1.out hb0.out (by simp) hg1); replace hown1 := Lib.hid hown1; clear hg1; rw [hn.out] at hown1; rw [hn.out])
  rw [hn.out] at hcx
  have hrb : Rd w1 w1.heap.size Ax b := (OB.rd hown1.out).1
  clear hr' hb0 ho1
  go_cut [5] (fun v wx => ∃ (m : Nat) (l : List UInt8), v = .slice Ax m cx ∧ wx = w1 ∧ Hid (l.length = m) ∧ m ≤ 256 ∧ Hid (OB w1 w.heap.size (.slice Ax m cx) l))
  case first =>
    by_cases hbig : 256 < n
    · have hcut := Lib.hid (row_cut hown1.out (m := 256) (by omega))
      have hcl : Hid ((b.take 256).length = 256) := Lib.hid (by rw [List.length_take, hn.out]; omega)
      clear hrb
      have h256 : (256 : Int) ≤ cx := by omega
      go_wp2_with fail
      go_meet
      exact ⟨256, _, rfl, rfl, hcl, Nat.le_refl _, hcut⟩
    · clear hrb
      go_wp2_with fail
      go_meet
      exact ⟨n, b, rfl, rfl, hn, by omega, hown1⟩
  case rest =>
    obtain ⟨m, l, rfl, rfl, hl, hm, hx⟩ := hcut
    clear hrb hown1 hr hn hcx
    have hcv := run_str_at (n := m) cx (OB.rd hx.out).1 hl.out
    go_wp2_with fail
    clear hcv
    refine (cnew_any 3 (by unfold I64; decide) wc).mono ?_
    rw [co0]
    rintro e w2 ⟨rfl, hd2, hb2⟩
    have hx2 := Lib.hid (hx.out.below hb2)
    have hlx := Lib.hid (hx.out.lt)
    have hbw2 := Lib.hid (hb1.out.trans (hb2.mono hb1.out.size))
    have hlw := hb1.out.size
    obtain ⟨lo, hlo⟩ : ∃ lo, lo = wc.heap.size := ⟨_, rfl⟩
    rw [← hlo] at hd2 hlx hlw
    rw [← hlo]
    replace hlo := Lib.hid hlo
    replace hd2 := Lib.hid hd2
    clear hb2 hx hb1
    go_wp2_with fail
    refine (cappend_any lo _ lo _ Ax m cx l hl.out (by unfold maxLen; omega) _ hd2.out (OB.rd hx2.out).1).mono ?_
    rcases l with _ | ⟨l0, lr⟩
    · obtain rfl : m = 0 := hl.out.symm
      rw [co1 [] rfl]
      rintro e w3 ⟨rfl, hd3, hch⟩
      have hb3 := Lib.hid (hch.from_ hbw2.out hlw hd2.out.lw)
      clear hch hd3
      go_wp2_with fail
      refine (awake07_any _).mono ?_
      rintro e w9 ⟨rfl, hba⟩
      have hb10 := Lib.hid (hb3.out.trans (hba.mono hb3.out.size))
      clear hba
      go_wp2_with fail
      go_ret
      exact ⟨rfl, hb10.out⟩
    · obtain ⟨l, hll⟩ : ∃ l, l0 :: lr = l := ⟨_, rfl⟩
      rw [hll] at hl hx2 ⊢
      have hm1 : 1 ≤ m := by rw [← hl.out, ← hll]; simp
      rw [co2 l (by rw [hl.out]; omega) (by rw [hl.out]; omega)]
      rintro e w3 ⟨rfl, hd3, hch⟩
      have hx3 := Lib.hid (hx2.out.under hlx.out (hch.below hd2.out.lw))
      have hbw3 := Lib.hid (hch.from_ hbw2.out hlw hd2.out.lw)
      obtain ⟨hi3, hhi⟩ : ∃ hi3, hi3 = w3.heap.size := ⟨_, rfl⟩
      rw [← hhi] at hd3
      replace hhi := Lib.hid hhi
      replace hd3 := Lib.hid hd3
      clear hch hx2 hbw2 hd2 hll
      go_wp2_with fail
      go_loopw [10] (fun i wr => ∃ (k : Nat) (x : List UInt8), i = .int .i64 k ∧ k ≤ m ∧ Hid (OB wr w.heap.size (.slice Ax m cx) x) ∧ Hid (Ct wr lo hi3 lo ⟨[(l, false)], 3, false⟩) ∧ Hid (Below w.heap.size w wr)) (fun i _ => m - (intOf i).toNat)
      case atStart => exact ⟨0, l, rfl, Nat.zero_le _, hx3, hd3, hbw3⟩
      case round =>
        obtain ⟨k, x, rfl, hk, hx4, hd4, hb4⟩ := hrel
        clear hx3 hd3 hbw3
        have hxl := hx4.out.len
        by_cases hlt : k < m
        · obtain ⟨g, rfl, hg1, hg2, hcell, hfr, hst⟩ := OB.store hx4.out (k := k) (by omega)
          have hst := Lib.hid (hst (x[k] ^^^ t))
          have hg3 := (hlx.out g rfl).2
          generalize x[k] = z at *
          go_wp2
          go_roundw
          case rel => exact ⟨k + 1, x.set k (z ^^^ t), by go_num, by omega, hst, Lib.hid (hd4.out.set ⟨g, k, none⟩ (.inl hg3) _), Lib.hid (hb4.out.setCell (show w.heap.size ≤ g from hg1) _)⟩
          case measure => simp [intOf]; omega
        · obtain rfl : k = m := by omega
          clear hx4 hxl hlx
          rename World => wq
          go_wp2_with fail
          refine (cread_any lo _ lo _ 0 (by unfold I64; decide) _ hd4.out).mono ?_
          rw [co3]
          rintro e w5 ⟨v5, rfl, ho5, hbb⟩
          have hd5 := Lib.hid (hd4.out.below hbb)
          have hb5 := Lib.hid (hb4.out.trans (hbb.mono hb4.out.size))
          have hhi5 := Lib.hid hd4.out.bounds.2.2
          obtain ⟨A5, c5, rfl, -, -, hR5, -⟩ := ho5.form
          have hll := hl.out
          rw [hll] at ho5
          rw [hll]
          have hcv5 := run_str_at (n := k) c5 hR5 hll
          replace ho5 := Lib.hid ho5
          clear hR5 hbb hd4 hb4 hll
          go_wp2_with fail
          clear hcv5
          go_loopw [13] (fun i wr => ∃ (j : Nat) (y : List UInt8), i = .int .i64 j ∧ j ≤ k ∧ Hid (OB wr wq.heap.size (.slice A5 k c5) y) ∧ Hid (Ct wr lo hi3 lo ⟨[(l, false)], 3, false⟩) ∧ Hid (Below w.heap.size w wr)) (fun i _ => k - (intOf i).toNat)
          case atStart => exact ⟨0, l, rfl, Nat.zero_le _, ho5, hd5, hb5⟩
          case round =>
            obtain ⟨j, y, rfl, hj, hy6, hd6, hb6⟩ := hrel
            clear ho5 hd5 hb5
            have hyl := hy6.out.len
            by_cases hlt2 : j < k
            · obtain ⟨g, rfl, hg1, hg2, hcell, hfr, hst⟩ := OB.store hy6.out (k := j) (by omega)
              have hst := Lib.hid (hst (y[j] ^^^ t))
              have hg3 : hi3 ≤ g := Nat.le_trans hhi5.out hg1
              have hgw : w.heap.size ≤ g := by have := hd6.out.bounds; omega
              generalize y[j] = z at *
              go_wp2
              go_roundw
              case rel => exact ⟨j + 1, y.set j (z ^^^ t), by go_num, by omega, hst, Lib.hid (hd6.out.set ⟨g, j, none⟩ (.inr hg3) _), Lib.hid (hb6.out.setCell hgw _)⟩
              case measure => simp [intOf]; omega
            · obtain rfl : j = k := by omega
              clear hy6 hyl
              go_wp2_with fail
              refine (cread_any lo _ lo _ 0 (by unfold I64; decide) _ hd6.out).mono ?_
              rw [co3]
              rintro e w7 ⟨v7, rfl, ho7, hbb⟩
              have hb7 := Lib.hid (hb6.out.trans (hbb.mono hb6.out.size))
              obtain ⟨A7, c7, rfl, -, -, hR7, -⟩ := ho7.form
              have hll := hl.out
              rw [hll]
              replace hR7 := Lib.hid hR7
              clear ho7 hbb hd6 hb6
              go_wp2_with fail
              refine (awake07_any _).mono ?_
              rintro e w9 ⟨rfl, hba⟩
              have hcv := run_str_at (n := j) c7 (hR7.out.below hba) hll
              have hb10 := Lib.hid (hb7.out.trans (hba.mono hb7.out.size))
              clear hba hR7 hb7 hll
              go_wp2_with fail
              go_ret
              exact ⟨rfl, hb10.out⟩
end Go.Proofs.Ytppclmidnomkjaa
