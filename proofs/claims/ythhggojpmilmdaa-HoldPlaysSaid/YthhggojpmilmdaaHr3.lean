/- hold: the reference's oldest, Drop, Get. -/
import Derived.Test.YthhggojpmilmdaaHr2
import Derived.Test.YthhggojpmilmdaaHrM
namespace Go.Proofs.Ythhggojpmilmdaa
set_option linter.unusedVariables false
set_option linter.unusedSimpArgs false
open Go Go.RowKit
def minAt (R : List Rt) (m i : Nat) : Prop := ∃ x, R[m]? = some x ∧ ∀ (j : Nat) (y : Rt), j < i → R[j]? = some y → x.2 ≤ y.2
set_option maxHeartbeats 2000000 in
set_option maxRecDepth 10000 in
theorem oldest_any (lo g : Nat) (vk vd vw : Value) (now q : Nat) (R : List Rt) (hR : R.length ≤ 100000) (hp : 0 < R.length) (w : World) (h : Hid (Rh w lo g vk vd vw now q R)) :
    Calls Try.prog 32 #[.pointer (some ⟨g, 0, none⟩)] w fun e w' => (∃ m : Nat, e = .returned (.int .i64 m) ∧ m < R.length ∧ minAt R m R.length) ∧ GrM w w' := by
  obtain ⟨Ak, ck, Ad, cd, Aw, cw, rfl, rfl, rfl⟩ := h.out.form
  obtain ⟨n, hn⟩ : ∃ n, R.length = n := ⟨_, rfl⟩
  have h' := h.out
  rw [hn] at h' hR hp ⊢
  replace h := Lib.hid h'
  have hn' := Lib.hid hn
  clear h' hn
  have hcells : Hid (∀ wr, GrM w wr → Rh wr lo g (.slice Ak n ck) (.slice Ad n cd) (.slice Aw n cw) now q R) := Lib.hid (fun wr hb => (Rh.gr hb h).out)
  go_enter Try.func32, Try.ntmps32
  go_wp2_with fail
  go_loopw [3, 4] (fun a z wr => ∃ (i : Nat) (t : Int), a = .int .i64 t ∧ z = .int .i64 i ∧ i ≤ n ∧ Hid ((i = 0 ∧ t = -1) ∨ (0 < i ∧ ∃ m : Nat, t = m ∧ m < i ∧ minAt R m i)) ∧ Hid (GrM w wr)) (fun _ z _ => n - (intOf z).toNat)
  case atStart => exact ⟨0, _, rfl, rfl, Nat.zero_le _, Lib.hid (.inl ⟨rfl, rfl⟩), Lib.hid (GrM.refl _)⟩
  case round =>
    obtain ⟨i, t, rfl, rfl, hi, hor, hgr⟩ := hrel
    have hrh := hcells.out wr hgr.out
    have cg0 := blk_cell (j := 2) hrh.blk rfl
    by_cases hlt : i < n
    · have ii : (i : Int) < (n : Int) := by omega
      have hiN : i < R.length := by rw [hn'.out]; exact hlt
      obtain ⟨x, hx⟩ : ∃ x, R[i]? = some x := ⟨_, List.getElem?_eq_getElem hiN⟩
      obtain ⟨wd, hwd⟩ : ∃ wd, wd = wr.drew := ⟨_, rfl⟩
      have hgd : Hid (GrM w wd) := Lib.hid (by rw [hwd]; exact hgr.out.trans (Below.refl _ _).drew)
      have hrd := hcells.out wd hgd.out
      have cgd := blk_cell (j := 2) hrd.blk rfl
      obtain ⟨bk, bd, bw, rfl, rfl, rfl, -, -, -, -, -, hc⟩ := hrd.cells (by omega)
      have ci := (hc i x hx).2.2
      rcases hor.out with ⟨h0, rfl⟩ | ⟨hpos, m, rfl, hmi, x0, hx0, hmin⟩
      · subst h0
        clear hc ci cgd hrd hrh
        go_upto_region 5 with (fail)
        refine wpR_region (Eq) 9999 (by kernel_rfl) ?_
        (rw [← hwd]; replace hwd := Lib.hid hwd)
        refine wpR_take (i := 0) (v := ?_) (⟨fun _ => rfl, Eq.trans⟩) (some 14) rfl (by kernel_rfl) (by kernel_rfl) (by kernel_rfl) (by kernel_rfl) (by kernel_rfl) (fun _ _ _ h => h) (by kernel_rfl) (fun w' hw' => ?_) ?_
        rotate_left
        · go_simp; with_reducible rfl
        simp only [Act.put, List.setIfInBounds_toArray, List.set_cons_zero, List.set_cons_succ]
        refine wpR_take (i := 1) (v := ?_) (⟨fun _ => rfl, Eq.trans⟩) (some 15) rfl (by kernel_rfl) (by kernel_rfl) (by kernel_rfl) (by kernel_rfl) (by kernel_rfl) (fun _ _ _ h => h) (by kernel_rfl) (fun w' hw' => ?_) ?_
        rotate_left
        · go_simp; with_reducible rfl
        simp only [Act.put, List.setIfInBounds_toArray, List.set_cons_zero, List.set_cons_succ]
        refine wpR_take (i := 2) (v := ?_) (⟨fun _ => rfl, Eq.trans⟩) (some 16) rfl (by kernel_rfl) (by kernel_rfl) (by kernel_rfl) (by kernel_rfl) (by kernel_rfl) (fun _ _ _ h => h) (by kernel_rfl) (fun w' hw' => ?_) ?_
        rotate_left
        · go_simp; with_reducible rfl
        simp only [Act.put, List.setIfInBounds_toArray, List.set_cons_zero, List.set_cons_succ]
        refine wpR_skip (i := 3) (⟨fun _ => rfl, Eq.trans⟩) (some 17) rfl (by kernel_rfl) (by kernel_rfl) (by kernel_rfl) (by kernel_rfl) (by kernel_rfl) (fun _ _ _ h => h) (by kernel_rfl) ?_
        simp only [Act.put, List.setIfInBounds_toArray, List.set_cons_zero, List.set_cons_succ]
        refine wpR_skip (i := 4) (⟨fun _ => rfl, Eq.trans⟩) (some 18) rfl (by kernel_rfl) (by kernel_rfl) (by kernel_rfl) (by kernel_rfl) (by kernel_rfl) (fun _ _ _ h => h) (by kernel_rfl) ?_
        simp only [Act.put, List.setIfInBounds_toArray, List.set_cons_zero, List.set_cons_succ]
        refine wpR_skip (i := 5) (⟨fun _ => rfl, Eq.trans⟩) (some 19) rfl (by kernel_rfl) (by kernel_rfl) (by kernel_rfl) (by kernel_rfl) (by kernel_rfl) (fun _ _ _ h => h) (by kernel_rfl) ?_
        simp only [Act.put, List.setIfInBounds_toArray, List.set_cons_zero, List.set_cons_succ]
        refine wpR_skip (i := 6) (⟨fun _ => rfl, Eq.trans⟩) (some 20) rfl (by kernel_rfl) (by kernel_rfl) (by kernel_rfl) (by kernel_rfl) (by kernel_rfl) (fun _ _ _ h => h) (by kernel_rfl) ?_
        simp only [Act.put, List.setIfInBounds_toArray, List.set_cons_zero, List.set_cons_succ]
        refine wpR_skip (i := 7) (⟨fun _ => rfl, Eq.trans⟩) (some 21) rfl (by kernel_rfl) (by kernel_rfl) (by kernel_rfl) (by kernel_rfl) (by kernel_rfl) (fun _ _ _ h => h) (by kernel_rfl) ?_
        simp only [Act.put, List.setIfInBounds_toArray, List.set_cons_zero, List.set_cons_succ]
        refine wpR_skip (i := 8) (⟨fun _ => rfl, Eq.trans⟩) (some 22) rfl (by kernel_rfl) (by kernel_rfl) (by kernel_rfl) (by kernel_rfl) (by kernel_rfl) (fun _ _ _ h => h) (by kernel_rfl) ?_
        simp only [Act.put, List.setIfInBounds_toArray, List.set_cons_zero, List.set_cons_succ]
        refine wpR_skip (i := 9) (⟨fun _ => rfl, Eq.trans⟩) (some 23) rfl (by kernel_rfl) (by kernel_rfl) (by kernel_rfl) (by kernel_rfl) (by kernel_rfl) (fun _ _ _ h => h) (by kernel_rfl) ?_
        simp only [Act.put, List.setIfInBounds_toArray, List.set_cons_zero, List.set_cons_succ]
        refine wpR_skip (i := 10) (⟨fun _ => rfl, Eq.trans⟩) (some 24) rfl (by kernel_rfl) (by kernel_rfl) (by kernel_rfl) (by kernel_rfl) (by kernel_rfl) (fun _ _ _ h => h) (by kernel_rfl) ?_
        simp only [Act.put, List.setIfInBounds_toArray, List.set_cons_zero, List.set_cons_succ]
        refine wpR_skip (i := 11) (⟨fun _ => rfl, Eq.trans⟩) (some 25) rfl (by kernel_rfl) (by kernel_rfl) (by kernel_rfl) (by kernel_rfl) (by kernel_rfl) (fun _ _ _ h => h) (by kernel_rfl) ?_
        simp only [Act.put, List.setIfInBounds_toArray, List.set_cons_zero, List.set_cons_succ]
        refine wpR_skip (i := 12) (⟨fun _ => rfl, Eq.trans⟩) (some 26) rfl (by kernel_rfl) (by kernel_rfl) (by kernel_rfl) (by kernel_rfl) (by kernel_rfl) (fun _ _ _ h => h) (by kernel_rfl) ?_
        simp only [Act.put, List.setIfInBounds_toArray, List.set_cons_zero, List.set_cons_succ]
        refine wpR_skip (i := 13) (⟨fun _ => rfl, Eq.trans⟩) (some 27) rfl (by kernel_rfl) (by kernel_rfl) (by kernel_rfl) (by kernel_rfl) (by kernel_rfl) (fun _ _ _ h => h) (by kernel_rfl) ?_
        simp only [Act.put, List.setIfInBounds_toArray, List.set_cons_zero, List.set_cons_succ]
        refine wpR_skip (i := 14) (⟨fun _ => rfl, Eq.trans⟩) (some 28) rfl (by kernel_rfl) (by kernel_rfl) (by kernel_rfl) (by kernel_rfl) (by kernel_rfl) (fun _ _ _ h => h) (by kernel_rfl) ?_
        simp only [Act.put, List.setIfInBounds_toArray, List.set_cons_zero, List.set_cons_succ]
        refine wpR_skip (i := 15) (⟨fun _ => rfl, Eq.trans⟩) (some 29) rfl (by kernel_rfl) (by kernel_rfl) (by kernel_rfl) (by kernel_rfl) (by kernel_rfl) (fun _ _ _ h => h) (by kernel_rfl) ?_
        simp only [Act.put, List.setIfInBounds_toArray, List.set_cons_zero, List.set_cons_succ]
        refine wpR_skip (i := 16) (⟨fun _ => rfl, Eq.trans⟩) (some 30) rfl (by kernel_rfl) (by kernel_rfl) (by kernel_rfl) (by kernel_rfl) (by kernel_rfl) (fun _ _ _ h => h) (by kernel_rfl) ?_
        simp only [Act.put, List.setIfInBounds_toArray, List.set_cons_zero, List.set_cons_succ]
        refine wpR_skip (i := 17) (⟨fun _ => rfl, Eq.trans⟩) (some 31) rfl (by kernel_rfl) (by kernel_rfl) (by kernel_rfl) (by kernel_rfl) (by kernel_rfl) (fun _ _ _ h => h) (by kernel_rfl) ?_
        simp only [Act.put, List.setIfInBounds_toArray, List.set_cons_zero, List.set_cons_succ]
        refine wpR_take (i := 18) (v := ?_) (⟨fun _ => rfl, Eq.trans⟩) (some 32) rfl (by kernel_rfl) (by kernel_rfl) (by kernel_rfl) (by kernel_rfl) (by kernel_rfl) (fun _ _ _ h => h) (by kernel_rfl) (fun w' hw' => ?_) ?_
        rotate_left
        · go_simp; with_reducible rfl
        simp only [Act.put, List.setIfInBounds_toArray, List.set_cons_zero, List.set_cons_succ]
        refine wpR_done (by kernel_rfl) ?_ _
        go_wp2_with fail
        go_roundw
        case rel => exact ⟨1, 0, by go_num, by go_num, by omega, Lib.hid (.inr ⟨by omega, 0, rfl, by omega, x, hx, fun j y hj hy => by
          obtain rfl : j = 0 := by omega
          rw [hx] at hy
          injection hy with hy
          rw [hy]
          exact Nat.le_refl _⟩), hgd⟩
        case measure => simp [intOf]; omega
      · have cm := (hc m x0 hx0).2.2
        have im0 : decide ((m : Int) < 0) = false := decide_eq_false (by omega)
        have imn : (m : Int) < (n : Int) := by omega
        have imp : (0 : Int) ≤ (m : Int) := by omega
        have iip : (0 : Int) ≤ (i : Int) := by omega
        replace hx := Lib.hid hx
        replace hx0 := Lib.hid hx0
        replace hmin := Lib.hid hmin
        clear hc hrd hrh
        by_cases hcmp : x.2 < x0.2
        · have ic : decide ((x.2 : Int) < (x0.2 : Int)) = true := decide_eq_true (by omega)
          have icn : decide (x.2 < x0.2) = true := decide_eq_true hcmp
          have hcmp' := Lib.hid hcmp
          generalize hx2 : x.2 = xa at *
          generalize hx3 : x0.2 = xb at *
          replace hx2 := Lib.hid hx2
          replace hx3 := Lib.hid hx3
          · go_upto_region 5 with (fail)
            refine wpR_region (Eq) 9999 (by kernel_rfl) ?_
            (rw [← hwd]; replace hwd := Lib.hid hwd)
            refine wpR_take (i := 0) (v := ?_) (⟨fun _ => rfl, Eq.trans⟩) (some 14) rfl (by kernel_rfl) (by kernel_rfl) (by kernel_rfl) (by kernel_rfl) (by kernel_rfl) (fun _ _ _ h => h) (by kernel_rfl) (fun w' hw' => ?_) ?_
            rotate_left
            · go_simp; with_reducible rfl
            simp only [Act.put, List.setIfInBounds_toArray, List.set_cons_zero, List.set_cons_succ]
            refine wpR_take (i := 1) (v := ?_) (⟨fun _ => rfl, Eq.trans⟩) (some 15) rfl (by kernel_rfl) (by kernel_rfl) (by kernel_rfl) (by kernel_rfl) (by kernel_rfl) (fun _ _ _ h => h) (by kernel_rfl) (fun w' hw' => ?_) ?_
            rotate_left
            · go_simp; with_reducible rfl
            simp only [Act.put, List.setIfInBounds_toArray, List.set_cons_zero, List.set_cons_succ]
            refine wpR_take (i := 2) (v := ?_) (⟨fun _ => rfl, Eq.trans⟩) (some 16) rfl (by kernel_rfl) (by kernel_rfl) (by kernel_rfl) (by kernel_rfl) (by kernel_rfl) (fun _ _ _ h => h) (by kernel_rfl) (fun w' hw' => ?_) ?_
            rotate_left
            · go_simp; with_reducible rfl
            simp only [Act.put, List.setIfInBounds_toArray, List.set_cons_zero, List.set_cons_succ]
            refine wpR_take (i := 3) (v := ?_) (⟨fun _ => rfl, Eq.trans⟩) (some 17) rfl (by kernel_rfl) (by kernel_rfl) (by kernel_rfl) (by kernel_rfl) (by kernel_rfl) (fun _ _ _ h => h) (by kernel_rfl) (fun w' hw' => ?_) ?_
            rotate_left
            · go_simp; with_reducible rfl
            simp only [Act.put, List.setIfInBounds_toArray, List.set_cons_zero, List.set_cons_succ]
            refine wpR_take (i := 4) (v := ?_) (⟨fun _ => rfl, Eq.trans⟩) (some 18) rfl (by kernel_rfl) (by kernel_rfl) (by kernel_rfl) (by kernel_rfl) (by kernel_rfl) (fun _ _ _ h => h) (by kernel_rfl) (fun w' hw' => ?_) ?_
            rotate_left
            · go_simp; with_reducible rfl
            simp only [Act.put, List.setIfInBounds_toArray, List.set_cons_zero, List.set_cons_succ]
            refine wpR_take (i := 5) (v := ?_) (⟨fun _ => rfl, Eq.trans⟩) (some 19) rfl (by kernel_rfl) (by kernel_rfl) (by kernel_rfl) (by kernel_rfl) (by kernel_rfl) (fun _ _ _ h => h) (by kernel_rfl) (fun w' hw' => ?_) ?_
            rotate_left
            · go_simp; with_reducible rfl
            simp only [Act.put, List.setIfInBounds_toArray, List.set_cons_zero, List.set_cons_succ]
            refine wpR_take (i := 6) (v := ?_) (⟨fun _ => rfl, Eq.trans⟩) (some 20) rfl (by kernel_rfl) (by kernel_rfl) (by kernel_rfl) (by kernel_rfl) (by kernel_rfl) (fun _ _ _ h => h) (by kernel_rfl) (fun w' hw' => ?_) ?_
            rotate_left
            · subst hw'; go_simp; with_reducible rfl
            simp only [Act.put, List.setIfInBounds_toArray, List.set_cons_zero, List.set_cons_succ]
            refine wpR_take (i := 7) (v := ?_) (⟨fun _ => rfl, Eq.trans⟩) (some 21) rfl (by kernel_rfl) (by kernel_rfl) (by kernel_rfl) (by kernel_rfl) (by kernel_rfl) (fun _ _ _ h => h) (by kernel_rfl) (fun w' hw' => ?_) ?_
            rotate_left
            · go_simp; with_reducible rfl
            simp only [Act.put, List.setIfInBounds_toArray, List.set_cons_zero, List.set_cons_succ]
            refine wpR_take (i := 8) (v := ?_) (⟨fun _ => rfl, Eq.trans⟩) (some 22) rfl (by kernel_rfl) (by kernel_rfl) (by kernel_rfl) (by kernel_rfl) (by kernel_rfl) (fun _ _ _ h => h) (by kernel_rfl) (fun w' hw' => ?_) ?_
            rotate_left
            · go_simp; with_reducible rfl
            simp only [Act.put, List.setIfInBounds_toArray, List.set_cons_zero, List.set_cons_succ]
            refine wpR_take (i := 9) (v := ?_) (⟨fun _ => rfl, Eq.trans⟩) (some 23) rfl (by kernel_rfl) (by kernel_rfl) (by kernel_rfl) (by kernel_rfl) (by kernel_rfl) (fun _ _ _ h => h) (by kernel_rfl) (fun w' hw' => ?_) ?_
            rotate_left
            · subst hw'; go_simp; with_reducible rfl
            simp only [Act.put, List.setIfInBounds_toArray, List.set_cons_zero, List.set_cons_succ]
            refine wpR_take (i := 10) (v := ?_) (⟨fun _ => rfl, Eq.trans⟩) (some 24) rfl (by kernel_rfl) (by kernel_rfl) (by kernel_rfl) (by kernel_rfl) (by kernel_rfl) (fun _ _ _ h => h) (by kernel_rfl) (fun w' hw' => ?_) ?_
            rotate_left
            · go_simp; with_reducible rfl
            simp only [Act.put, List.setIfInBounds_toArray, List.set_cons_zero, List.set_cons_succ]
            refine wpR_take (i := 11) (v := ?_) (⟨fun _ => rfl, Eq.trans⟩) (some 25) rfl (by kernel_rfl) (by kernel_rfl) (by kernel_rfl) (by kernel_rfl) (by kernel_rfl) (fun _ _ _ h => h) (by kernel_rfl) (fun w' hw' => ?_) ?_
            rotate_left
            · go_simp; with_reducible rfl
            simp only [Act.put, List.setIfInBounds_toArray, List.set_cons_zero, List.set_cons_succ]
            refine wpR_take (i := 12) (v := ?_) (⟨fun _ => rfl, Eq.trans⟩) (some 26) rfl (by kernel_rfl) (by kernel_rfl) (by kernel_rfl) (by kernel_rfl) (by kernel_rfl) (fun _ _ _ h => h) (by kernel_rfl) (fun w' hw' => ?_) ?_
            rotate_left
            · go_simp; with_reducible rfl
            simp only [Act.put, List.setIfInBounds_toArray, List.set_cons_zero, List.set_cons_succ]
            refine wpR_take (i := 13) (v := ?_) (⟨fun _ => rfl, Eq.trans⟩) (some 27) rfl (by kernel_rfl) (by kernel_rfl) (by kernel_rfl) (by kernel_rfl) (by kernel_rfl) (fun _ _ _ h => h) (by kernel_rfl) (fun w' hw' => ?_) ?_
            rotate_left
            · subst hw'; go_simp; with_reducible rfl
            simp only [Act.put, List.setIfInBounds_toArray, List.set_cons_zero, List.set_cons_succ]
            refine wpR_take (i := 14) (v := ?_) (⟨fun _ => rfl, Eq.trans⟩) (some 28) rfl (by kernel_rfl) (by kernel_rfl) (by kernel_rfl) (by kernel_rfl) (by kernel_rfl) (fun _ _ _ h => h) (by kernel_rfl) (fun w' hw' => ?_) ?_
            rotate_left
            · go_simp; with_reducible rfl
            simp only [Act.put, List.setIfInBounds_toArray, List.set_cons_zero, List.set_cons_succ]
            refine wpR_take (i := 15) (v := ?_) (⟨fun _ => rfl, Eq.trans⟩) (some 29) rfl (by kernel_rfl) (by kernel_rfl) (by kernel_rfl) (by kernel_rfl) (by kernel_rfl) (fun _ _ _ h => h) (by kernel_rfl) (fun w' hw' => ?_) ?_
            rotate_left
            · go_simp; with_reducible rfl
            simp only [Act.put, List.setIfInBounds_toArray, List.set_cons_zero, List.set_cons_succ]
            refine wpR_take (i := 16) (v := ?_) (⟨fun _ => rfl, Eq.trans⟩) (some 30) rfl (by kernel_rfl) (by kernel_rfl) (by kernel_rfl) (by kernel_rfl) (by kernel_rfl) (fun _ _ _ h => h) (by kernel_rfl) (fun w' hw' => ?_) ?_
            rotate_left
            · subst hw'; go_simp; with_reducible rfl
            simp only [Act.put, List.setIfInBounds_toArray, List.set_cons_zero, List.set_cons_succ]
            refine wpR_take (i := 17) (v := ?_) (⟨fun _ => rfl, Eq.trans⟩) (some 31) rfl (by kernel_rfl) (by kernel_rfl) (by kernel_rfl) (by kernel_rfl) (by kernel_rfl) (fun _ _ _ h => h) (by kernel_rfl) (fun w' hw' => ?_) ?_
            rotate_left
            · go_simp; with_reducible rfl
            simp only [Act.put, List.setIfInBounds_toArray, List.set_cons_zero, List.set_cons_succ]
            refine wpR_take (i := 18) (v := ?_) (⟨fun _ => rfl, Eq.trans⟩) (some 32) rfl (by kernel_rfl) (by kernel_rfl) (by kernel_rfl) (by kernel_rfl) (by kernel_rfl) (fun _ _ _ h => h) (by kernel_rfl) (fun w' hw' => ?_) ?_
            rotate_left
            · go_simp; with_reducible rfl
            simp only [Act.put, List.setIfInBounds_toArray, List.set_cons_zero, List.set_cons_succ]
            refine wpR_done (by kernel_rfl) ?_ _
            go_wp2_with fail
            go_roundw
            case rel => exact ⟨i + 1, i, by go_num, by go_num, by omega, Lib.hid (.inr ⟨by omega, i, rfl, by omega, x, hx.out, fun j y hj hy => by
              rcases Nat.lt_succ_iff_lt_or_eq.1 hj with hj | rfl
              · have := hmin.out j y hj hy
                have := hcmp'.out
                rw [hx2.out]
                omega
              · have := hx.out
                rw [this] at hy
                injection hy with hy
                rw [hy]
                exact Nat.le_refl _⟩), hgd⟩
            case measure => simp [intOf]; omega
        · have ic : decide ((x.2 : Int) < (x0.2 : Int)) = false := decide_eq_false (by omega)
          have icn : decide (x.2 < x0.2) = false := decide_eq_false hcmp
          have hcmp' := Lib.hid hcmp
          clear hcmp
          generalize hx2 : x.2 = xa at *
          generalize hx3 : x0.2 = xb at *
          replace hx2 := Lib.hid hx2
          replace hx3 := Lib.hid hx3
          · go_upto_region 5 with (fail)
            refine wpR_region (Eq) 9999 (by kernel_rfl) ?_
            (rw [← hwd]; replace hwd := Lib.hid hwd)
            refine wpR_take (i := 0) (v := ?_) (⟨fun _ => rfl, Eq.trans⟩) (some 14) rfl (by kernel_rfl) (by kernel_rfl) (by kernel_rfl) (by kernel_rfl) (by kernel_rfl) (fun _ _ _ h => h) (by kernel_rfl) (fun w' hw' => ?_) ?_
            rotate_left
            · go_simp; with_reducible rfl
            simp only [Act.put, List.setIfInBounds_toArray, List.set_cons_zero, List.set_cons_succ]
            refine wpR_take (i := 1) (v := ?_) (⟨fun _ => rfl, Eq.trans⟩) (some 15) rfl (by kernel_rfl) (by kernel_rfl) (by kernel_rfl) (by kernel_rfl) (by kernel_rfl) (fun _ _ _ h => h) (by kernel_rfl) (fun w' hw' => ?_) ?_
            rotate_left
            · go_simp; with_reducible rfl
            simp only [Act.put, List.setIfInBounds_toArray, List.set_cons_zero, List.set_cons_succ]
            refine wpR_take (i := 2) (v := ?_) (⟨fun _ => rfl, Eq.trans⟩) (some 16) rfl (by kernel_rfl) (by kernel_rfl) (by kernel_rfl) (by kernel_rfl) (by kernel_rfl) (fun _ _ _ h => h) (by kernel_rfl) (fun w' hw' => ?_) ?_
            rotate_left
            · go_simp; with_reducible rfl
            simp only [Act.put, List.setIfInBounds_toArray, List.set_cons_zero, List.set_cons_succ]
            refine wpR_take (i := 3) (v := ?_) (⟨fun _ => rfl, Eq.trans⟩) (some 17) rfl (by kernel_rfl) (by kernel_rfl) (by kernel_rfl) (by kernel_rfl) (by kernel_rfl) (fun _ _ _ h => h) (by kernel_rfl) (fun w' hw' => ?_) ?_
            rotate_left
            · go_simp; with_reducible rfl
            simp only [Act.put, List.setIfInBounds_toArray, List.set_cons_zero, List.set_cons_succ]
            refine wpR_take (i := 4) (v := ?_) (⟨fun _ => rfl, Eq.trans⟩) (some 18) rfl (by kernel_rfl) (by kernel_rfl) (by kernel_rfl) (by kernel_rfl) (by kernel_rfl) (fun _ _ _ h => h) (by kernel_rfl) (fun w' hw' => ?_) ?_
            rotate_left
            · go_simp; with_reducible rfl
            simp only [Act.put, List.setIfInBounds_toArray, List.set_cons_zero, List.set_cons_succ]
            refine wpR_take (i := 5) (v := ?_) (⟨fun _ => rfl, Eq.trans⟩) (some 19) rfl (by kernel_rfl) (by kernel_rfl) (by kernel_rfl) (by kernel_rfl) (by kernel_rfl) (fun _ _ _ h => h) (by kernel_rfl) (fun w' hw' => ?_) ?_
            rotate_left
            · go_simp; with_reducible rfl
            simp only [Act.put, List.setIfInBounds_toArray, List.set_cons_zero, List.set_cons_succ]
            refine wpR_take (i := 6) (v := ?_) (⟨fun _ => rfl, Eq.trans⟩) (some 20) rfl (by kernel_rfl) (by kernel_rfl) (by kernel_rfl) (by kernel_rfl) (by kernel_rfl) (fun _ _ _ h => h) (by kernel_rfl) (fun w' hw' => ?_) ?_
            rotate_left
            · subst hw'; go_simp; with_reducible rfl
            simp only [Act.put, List.setIfInBounds_toArray, List.set_cons_zero, List.set_cons_succ]
            refine wpR_take (i := 7) (v := ?_) (⟨fun _ => rfl, Eq.trans⟩) (some 21) rfl (by kernel_rfl) (by kernel_rfl) (by kernel_rfl) (by kernel_rfl) (by kernel_rfl) (fun _ _ _ h => h) (by kernel_rfl) (fun w' hw' => ?_) ?_
            rotate_left
            · go_simp; with_reducible rfl
            simp only [Act.put, List.setIfInBounds_toArray, List.set_cons_zero, List.set_cons_succ]
            refine wpR_take (i := 8) (v := ?_) (⟨fun _ => rfl, Eq.trans⟩) (some 22) rfl (by kernel_rfl) (by kernel_rfl) (by kernel_rfl) (by kernel_rfl) (by kernel_rfl) (fun _ _ _ h => h) (by kernel_rfl) (fun w' hw' => ?_) ?_
            rotate_left
            · go_simp; with_reducible rfl
            simp only [Act.put, List.setIfInBounds_toArray, List.set_cons_zero, List.set_cons_succ]
            refine wpR_take (i := 9) (v := ?_) (⟨fun _ => rfl, Eq.trans⟩) (some 23) rfl (by kernel_rfl) (by kernel_rfl) (by kernel_rfl) (by kernel_rfl) (by kernel_rfl) (fun _ _ _ h => h) (by kernel_rfl) (fun w' hw' => ?_) ?_
            rotate_left
            · subst hw'; go_simp; with_reducible rfl
            simp only [Act.put, List.setIfInBounds_toArray, List.set_cons_zero, List.set_cons_succ]
            refine wpR_take (i := 10) (v := ?_) (⟨fun _ => rfl, Eq.trans⟩) (some 24) rfl (by kernel_rfl) (by kernel_rfl) (by kernel_rfl) (by kernel_rfl) (by kernel_rfl) (fun _ _ _ h => h) (by kernel_rfl) (fun w' hw' => ?_) ?_
            rotate_left
            · go_simp; with_reducible rfl
            simp only [Act.put, List.setIfInBounds_toArray, List.set_cons_zero, List.set_cons_succ]
            refine wpR_take (i := 11) (v := ?_) (⟨fun _ => rfl, Eq.trans⟩) (some 25) rfl (by kernel_rfl) (by kernel_rfl) (by kernel_rfl) (by kernel_rfl) (by kernel_rfl) (fun _ _ _ h => h) (by kernel_rfl) (fun w' hw' => ?_) ?_
            rotate_left
            · go_simp; with_reducible rfl
            simp only [Act.put, List.setIfInBounds_toArray, List.set_cons_zero, List.set_cons_succ]
            refine wpR_take (i := 12) (v := ?_) (⟨fun _ => rfl, Eq.trans⟩) (some 26) rfl (by kernel_rfl) (by kernel_rfl) (by kernel_rfl) (by kernel_rfl) (by kernel_rfl) (fun _ _ _ h => h) (by kernel_rfl) (fun w' hw' => ?_) ?_
            rotate_left
            · go_simp; with_reducible rfl
            simp only [Act.put, List.setIfInBounds_toArray, List.set_cons_zero, List.set_cons_succ]
            refine wpR_take (i := 13) (v := ?_) (⟨fun _ => rfl, Eq.trans⟩) (some 27) rfl (by kernel_rfl) (by kernel_rfl) (by kernel_rfl) (by kernel_rfl) (by kernel_rfl) (fun _ _ _ h => h) (by kernel_rfl) (fun w' hw' => ?_) ?_
            rotate_left
            · subst hw'; go_simp; with_reducible rfl
            simp only [Act.put, List.setIfInBounds_toArray, List.set_cons_zero, List.set_cons_succ]
            refine wpR_take (i := 14) (v := ?_) (⟨fun _ => rfl, Eq.trans⟩) (some 28) rfl (by kernel_rfl) (by kernel_rfl) (by kernel_rfl) (by kernel_rfl) (by kernel_rfl) (fun _ _ _ h => h) (by kernel_rfl) (fun w' hw' => ?_) ?_
            rotate_left
            · go_simp; with_reducible rfl
            simp only [Act.put, List.setIfInBounds_toArray, List.set_cons_zero, List.set_cons_succ]
            refine wpR_take (i := 15) (v := ?_) (⟨fun _ => rfl, Eq.trans⟩) (some 29) rfl (by kernel_rfl) (by kernel_rfl) (by kernel_rfl) (by kernel_rfl) (by kernel_rfl) (fun _ _ _ h => h) (by kernel_rfl) (fun w' hw' => ?_) ?_
            rotate_left
            · go_simp; with_reducible rfl
            simp only [Act.put, List.setIfInBounds_toArray, List.set_cons_zero, List.set_cons_succ]
            refine wpR_take (i := 16) (v := ?_) (⟨fun _ => rfl, Eq.trans⟩) (some 30) rfl (by kernel_rfl) (by kernel_rfl) (by kernel_rfl) (by kernel_rfl) (by kernel_rfl) (fun _ _ _ h => h) (by kernel_rfl) (fun w' hw' => ?_) ?_
            rotate_left
            · subst hw'; go_simp; with_reducible rfl
            simp only [Act.put, List.setIfInBounds_toArray, List.set_cons_zero, List.set_cons_succ]
            refine wpR_take (i := 17) (v := ?_) (⟨fun _ => rfl, Eq.trans⟩) (some 31) rfl (by kernel_rfl) (by kernel_rfl) (by kernel_rfl) (by kernel_rfl) (by kernel_rfl) (fun _ _ _ h => h) (by kernel_rfl) (fun w' hw' => ?_) ?_
            rotate_left
            · go_simp; with_reducible rfl
            simp only [Act.put, List.setIfInBounds_toArray, List.set_cons_zero, List.set_cons_succ]
            refine wpR_take (i := 18) (v := ?_) (⟨fun _ => rfl, Eq.trans⟩) (some 32) rfl (by kernel_rfl) (by kernel_rfl) (by kernel_rfl) (by kernel_rfl) (by kernel_rfl) (fun _ _ _ h => h) (by kernel_rfl) (fun w' hw' => ?_) ?_
            rotate_left
            · go_simp; with_reducible rfl
            simp only [Act.put, List.setIfInBounds_toArray, List.set_cons_zero, List.set_cons_succ]
            refine wpR_done (by kernel_rfl) ?_ _
            go_wp2_with fail
            go_roundw
            case rel => exact ⟨i + 1, m, by go_num, by go_num, by omega, Lib.hid (.inr ⟨by omega, m, rfl, by omega, x0, hx0.out, fun j y hj hy => by
              rcases Nat.lt_succ_iff_lt_or_eq.1 hj with hj | rfl
              · have := hmin.out j y hj hy
                rw [hx3.out]
                omega
              · have := hx.out
                rw [this] at hy
                injection hy with hy
                rw [← hy, hx2.out, hx3.out]
                have := hcmp'.out
                omega⟩), hgd⟩
            case measure => simp [intOf]; omega
    · obtain rfl : i = n := by omega
      have ii : decide ((i : Int) < (i : Int)) = false := decide_eq_false (by omega)
      rcases hor.out with ⟨h0, rfl⟩ | ⟨hpos, m, rfl, hmi, hmin⟩
      · omega
      · go_wp2_with fail
        go_ret
        exact ⟨⟨m, rfl, hmi, hmin⟩, hgr.out⟩
set_option maxHeartbeats 1000000 in
set_option maxRecDepth 10000 in
theorem rdrop17_no (lo g : Nat) (vk vd vw : Value) (now q : Nat) (R : List Rt) (hR : R.length ≤ 100000) (k : List UInt8) (hk : hasR R k = false) (w : World) (h : Hid (Rh w lo g vk vd vw now q R)) :
    Calls Try.prog 13 #[.pointer (some ⟨g, 0, none⟩), .string (bs k)] w fun e w' => e = .returned (.bool false) ∧ w' = w := by
  have his := ris17_any lo g vk vd vw now q R (by omega) k w h
  rw [isK_no hk] at his
  replace his := Lib.hid his
  clear hk
  go_enter Try.func13, Try.ntmps13
  go_wp2_with (go_at_call 28; go_must (refine his.out.mono ?_); rintro en w1 ⟨rfl, hee⟩; rw [hee]; clear hee)
  go_ret
  exact ⟨rfl, rfl⟩
set_option maxHeartbeats 1000000 in
set_option maxRecDepth 10000 in
theorem rdrop17_yes (lo g : Nat) (vk vd vw : Value) (now q : Nat) (R : List Rt) (hR : R.length ≤ 100000) (k : List UInt8) (m : Nat) (hm : isK R k = m) (w : World) (hlo : Hid (lo ≤ w.heap.size)) (h : Hid (Rh w lo g vk vd vw now q R)) :
    Calls Try.prog 13 #[.pointer (some ⟨g, 0, none⟩), .string (bs k)] w fun e w' => e = .returned (.bool true) ∧ (∃ uk ud uw, Hid (Rh w' lo g uk ud uw now q (R.eraseIdx m))) ∧ TChg lo rts w w' := by
  have his := ris17_any lo g vk vd vw now q R (by omega) k w h
  rw [hm] at his
  replace his := Lib.hid his
  have hgo := Lib.hid (goes_any lo g vk vd vw now q R hR m w hlo h)
  have im : decide ((m : Int) < 0) = false := decide_eq_false (by omega)
  clear hm
  go_enter Try.func13, Try.ntmps13
  go_wp2_with (first
    | (go_at_call 28; go_must (refine his.out.mono ?_); rintro en w1 ⟨rfl, hee⟩; rw [hee]; clear hee)
    | (go_at_call 30; go_must (refine hgo.out.mono ?_); rintro en w2 ⟨⟨vv, rfl⟩, hh2, ht2⟩))
  go_ret
  exact ⟨rfl, hh2, ht2⟩
set_option maxHeartbeats 1000000 in
set_option maxRecDepth 10000 in
theorem rget17_no (lo g : Nat) (vk vd vw : Value) (now q : Nat) (R : List Rt) (hR : R.length ≤ 100000) (k : List UInt8) (hk : hasR R k = false) (w : World) (h : Hid (Rh w lo g vk vd vw now q R)) :
    Calls Try.prog 11 #[.pointer (some ⟨g, 0, none⟩), .string (bs k)] w fun e w' => e = .returned (.tuple #[.string (bs []), .bool false]) ∧ w' = w := by
  have his := ris17_any lo g vk vd vw now q R (by omega) k w h
  rw [isK_no hk] at his
  replace his := Lib.hid his
  clear hk
  go_enter Try.func11, Try.ntmps11
  go_wp2_with (go_at_call 28; go_must (refine his.out.mono ?_); rintro en w1 ⟨rfl, hee⟩; rw [hee]; clear hee)
  go_ret2
  exact ⟨rfl, rfl⟩
theorem Rh.setW {w : World} {lo g n bw m t now q : Nat} {Ak Ad : Option Addr} {ck cd cw : Nat} {R : List Rt} {x : Rt} (h : Rh w lo g (.slice Ak n ck) (.slice Ad n cd) (.slice (some ⟨bw, 0, none⟩) n cw) now q R) (hx : R[m]? = some x) :
    Rh (w.setCell ⟨bw, m, none⟩ (.int .i64 t)) lo g (.slice Ak n ck) (.slice Ad n cd) (.slice (some ⟨bw, 0, none⟩) n cw) now q (R.set m (x.1, t)) := by
  obtain ⟨Ak', ck', Ad', cd', Aw', cw', e1, e2, e3⟩ := h.form
  injection e3 with _ hnn _
  have hpos : 0 < n := by have := (List.getElem?_eq_some_iff.1 hx).1; omega
  obtain ⟨bk1, bd1, bw1, f1, f2, f3, l1, l2, l3, b3, ⟨cs, hbw⟩, -⟩ := h.cells hpos
  injection f3 with f3
  injection f3 with f3
  subst f3
  have h2 := h.own.1 2 _ rfl
  simp only [List.length_map] at h2
  rw [← hnn] at h2
  obtain ⟨bz, cz, g1, -, -, -, -, -, -, -, hst⟩ := row_at h2 hpos
  injection g1 with g1 _ _
  injection g1 with g1
  injection g1 with g1
  subst g1
  have hgw : g ≠ bw := fun e => by
    have := h.blk
    rw [e, hbw] at this
    injection this with this
    injection this with _ hT _
    exact absurd hT (by decide)
  have m1 : (R.set m (x.1, t)).map (fun x => sV x.1.1) = R.map (fun x => sV x.1.1) := by
    rw [List.map_set]
    exact List.ext_getElem? (fun j => by
      rw [List.getElem?_set]
      split
      · next hj => subst hj; split <;> rename_i hl <;> rw [List.getElem?_map, hx] <;> first | rfl | (rw [List.length_map] at hl; exact absurd (List.getElem?_eq_some_iff.1 hx).1 hl)
      · rfl)
  have m2 : (R.set m (x.1, t)).map (fun x => sV x.1.2) = R.map (fun x => sV x.1.2) := by
    rw [List.map_set]
    exact List.ext_getElem? (fun j => by
      rw [List.getElem?_set]
      split
      · next hj => subst hj; split <;> rename_i hl <;> rw [List.getElem?_map, hx] <;> first | rfl | (rw [List.length_map] at hl; exact absurd (List.getElem?_eq_some_iff.1 hx).1 hl)
      · rfl)
  refine ⟨(blk_other hgw m _).trans h.blk, h.lg, fun i y hy => ?_, fun i j y z hij hy hz => ?_⟩
  · have hne : ∀ v xs len, w.ownsRow lo 9 1 v len xs → v.ownBlock ≠ some bw := fun v xs len ho => row_ne ho hbw (by decide)
    match i, hy with
    | 0, hy =>
      injection hy with hy; subst hy
      show (w.setCell ⟨bw, m, none⟩ (.int .i64 t)).ownsRow lo 9 1 _ ((R.set m (x.1, t)).map (fun x => sV x.1.1)).length ((R.set m (x.1, t)).map (fun x => sV x.1.1))
      rw [m1]
      exact row_set_other (h.own.1 0 _ rfl) bw m _ (hne _ _ _ (h.own.1 0 _ rfl))
    | 1, hy =>
      injection hy with hy; subst hy
      show (w.setCell ⟨bw, m, none⟩ (.int .i64 t)).ownsRow lo 9 1 _ ((R.set m (x.1, t)).map (fun x => sV x.1.2)).length ((R.set m (x.1, t)).map (fun x => sV x.1.2))
      rw [m2]
      exact row_set_other (h.own.1 1 _ rfl) bw m _ (hne _ _ _ (h.own.1 1 _ rfl))
    | 2, hy =>
      injection hy with hy; subst hy
      show (w.setCell ⟨bw, m, none⟩ (.int .i64 t)).ownsRow lo 3 1 _ ((R.set m (x.1, t)).map (fun x => iV x.2)).length ((R.set m (x.1, t)).map (fun x => iV x.2))
      rw [List.length_map, List.length_set, ← hnn, List.map_set]
      exact hst m (.int .i64 t)
    | _ + 3, hy => cases hy
  · match i, j, hy, hz with
    | 0, 0, _, _ => exact absurd rfl hij
    | 1, 1, _, _ => exact absurd rfl hij
    | 2, 2, _, _ => exact absurd rfl hij
    | 0, 1, hy, hz => injection hy with hy; injection hz with hz; subst hy hz; have hh := h.own.2 0 1 _ _ (by decide) rfl rfl; exact hh
    | 0, 2, hy, hz => injection hy with hy; injection hz with hz; subst hy hz; have hh := h.own.2 0 2 _ _ (by decide) rfl rfl; exact hh
    | 1, 0, hy, hz => injection hy with hy; injection hz with hz; subst hy hz; have hh := h.own.2 1 0 _ _ (by decide) rfl rfl; exact hh
    | 1, 2, hy, hz => injection hy with hy; injection hz with hz; subst hy hz; have hh := h.own.2 1 2 _ _ (by decide) rfl rfl; exact hh
    | 2, 0, hy, hz => injection hy with hy; injection hz with hz; subst hy hz; have hh := h.own.2 2 0 _ _ (by decide) rfl rfl; exact hh
    | 2, 1, hy, hz => injection hy with hy; injection hz with hz; subst hy hz; have hh := h.own.2 2 1 _ _ (by decide) rfl rfl; exact hh
    | _ + 3, _, hy, _ => cases hy
    | _, _ + 3, _, hz => cases hz
theorem Rh.tick {w : World} {lo g : Nat} {vk vd vw : Value} {now q : Nat} {R : List Rt} (h : Rh w lo g vk vd vw now q R) (t : Nat) : Rh (w.setCell ⟨g, 3, none⟩ (.int .i64 t)) lo g vk vd vw t q R ∧ TChg lo [55] w (w.setCell ⟨g, 3, none⟩ (.int .i64 t)) := by
  have tc : TChg lo [55] w (w.setCell ⟨g, 3, none⟩ (.int .i64 t)) := TChg.of_set h.blk (by simp) h.lg 3 _
  refine ⟨⟨blk_set h.blk 3 _, h.lg, h.own.tchg tc (fun j y hy => by
    match j, hy with
    | 0, hy => injection hy with hy; subst hy; simp
    | 1, hy => injection hy with hy; subst hy; simp
    | 2, hy => injection hy with hy; subst hy; simp
    | _ + 3, hy => cases hy)⟩, tc⟩
set_option maxHeartbeats 1000000 in
set_option maxRecDepth 10000 in
theorem rget17_yes (lo g : Nat) (vk vd vw : Value) (now q : Nat) (hnow : now ≤ 1000000) (R : List Rt) (hR : R.length ≤ 100000) (k : List UInt8) (m : Nat) (x : Rt) (hm : isK R k = m) (hx : R[m]? = some x) (w : World) (h : Hid (Rh w lo g vk vd vw now q R)) :
    Calls Try.prog 11 #[.pointer (some ⟨g, 0, none⟩), .string (bs k)] w fun e w' => e = .returned (.tuple #[.string (bs x.1.2), .bool true]) ∧ (∃ uk ud uw, Hid (Rh w' lo g uk ud uw (now + 1) q (R.set m (x.1, now + 1)))) ∧ TChg lo rts w w' := by
  have his := ris17_any lo g vk vd vw now q R (by omega) k w h
  rw [hm] at his
  replace his := Lib.hid his
  have im : decide ((m : Int) < 0) = false := decide_eq_false (by omega)
  obtain ⟨Ak, ck, Ad, cd, Aw, cw, rfl, rfl, rfl⟩ := h.out.form
  obtain ⟨n, hn⟩ : ∃ n, R.length = n := ⟨_, rfl⟩
  have hmn : m < n := by rw [← hn]; exact (List.getElem?_eq_some_iff.1 hx).1
  have h' := h.out
  rw [hn] at h'
  obtain ⟨hti, tc1⟩ := h'.tick (now + 1)
  have c3 := blk_cell (j := 3) h'.blk rfl
  have f3 := blk_free h'.blk 3
  have hw3 : IntKind.i64.wrap ((now : Int) + 1) = ((now + 1 : Nat) : Int) := by rw [IntKind.wrap_i64]; omega
  have imn : (m : Int) < (n : Int) := by omega
  have imp : (0 : Int) ≤ (m : Int) := by omega
  have e1 : ((now + 1 : Nat) : Int) = (now : Int) + 1 := by omega
  replace hn := Lib.hid hn
  clear h h' hm
  replace hx := Lib.hid hx
  rw [e1] at hw3 hti tc1
  have hti' := Lib.hid hti
  clear hti
  replace e1 := Lib.hid e1
  go_enter Try.func11, Try.ntmps11
  go_upto_region 5 with (go_at_call 28; go_must (refine his.out.mono ?_); rintro en w1 ⟨rfl, hee⟩; rw [hee]; clear hee)
  clear c3 f3
  generalize hW1 : w.setCell ⟨g, 3, none⟩ (.int .i64 ((now : Int) + 1)) = W1 at hti' tc1 ⊢
  replace hW1 := Lib.hid hW1
  obtain ⟨wd, hwd⟩ : ∃ wd, wd = W1.drew := ⟨_, rfl⟩
  have hgd : GrM W1 wd := by rw [hwd]; exact (Below.refl _ _).drew
  have hrd := Rh.gr hgd hti'
  have htd : Hid (TChg lo [55] w wd) := Lib.hid (tc1.trans (TChg.of_below hgd))
  obtain ⟨bk, bd, bw, rfl, rfl, rfl, -, -, -, hlw, ⟨csw, hbw⟩, hc⟩ := hrd.out.cells (by omega)
  have hset := Lib.hid (hrd.out.setW (t := now + 1) hx.out)
  have d2 := blk_cell (j := 2) hrd.out.blk rfl
  have d3 := blk_cell (j := 3) hrd.out.blk rfl
  have cw3 := (hc m x hx.out).2.2
  have fw := blk_free hbw m
  have tset : Hid (TChg lo [3] wd (wd.setCell ⟨bw, m, none⟩ (.int .i64 ((now : Int) + 1)))) := Lib.hid (TChg.of_set hbw (by simp) hlw m _)
  rw [e1.out] at hset d3
  clear hc hbw hgd tc1
  refine wpR_region (Eq) 10 (by kernel_rfl) ?_
  (rw [← hwd]; replace hwd := Lib.hid hwd)
  refine wpR_take (i := 0) (v := ?_) (⟨fun _ => rfl, Eq.trans⟩) (some 19) rfl (by kernel_rfl) (by kernel_rfl) (by kernel_rfl) (by kernel_rfl) (by kernel_rfl) (fun _ _ _ h => h) (by kernel_rfl) (fun w' hw' => ?_) ?_
  rotate_left
  · go_simp; with_reducible rfl
  simp only [Act.put, List.setIfInBounds_toArray, List.set_cons_zero, List.set_cons_succ]
  refine wpR_take (i := 1) (v := ?_) (⟨fun _ => rfl, Eq.trans⟩) (some 20) rfl (by kernel_rfl) (by kernel_rfl) (by kernel_rfl) (by kernel_rfl) (by kernel_rfl) (fun _ _ _ h => h) (by kernel_rfl) (fun w' hw' => ?_) ?_
  rotate_left
  · go_simp; with_reducible rfl
  simp only [Act.put, List.setIfInBounds_toArray, List.set_cons_zero, List.set_cons_succ]
  refine wpR_take (i := 2) (v := ?_) (⟨fun _ => rfl, Eq.trans⟩) (some 21) rfl (by kernel_rfl) (by kernel_rfl) (by kernel_rfl) (by kernel_rfl) (by kernel_rfl) (fun _ _ _ h => h) (by kernel_rfl) (fun w' hw' => ?_) ?_
  rotate_left
  · go_simp; with_reducible rfl
  simp only [Act.put, List.setIfInBounds_toArray, List.set_cons_zero, List.set_cons_succ]
  refine wpR_take (i := 3) (v := ?_) (⟨fun _ => rfl, Eq.trans⟩) (some 22) rfl (by kernel_rfl) (by kernel_rfl) (by kernel_rfl) (by kernel_rfl) (by kernel_rfl) (fun _ _ _ h => h) (by kernel_rfl) (fun w' hw' => ?_) ?_
  rotate_left
  · subst hw'; go_simp; with_reducible rfl
  simp only [Act.put, List.setIfInBounds_toArray, List.set_cons_zero, List.set_cons_succ]
  refine wpR_take (i := 4) (v := ?_) (⟨fun _ => rfl, Eq.trans⟩) (some 23) rfl (by kernel_rfl) (by kernel_rfl) (by kernel_rfl) (by kernel_rfl) (by kernel_rfl) (fun _ _ _ h => h) (by kernel_rfl) (fun w' hw' => ?_) ?_
  rotate_left
  · go_simp; with_reducible rfl
  simp only [Act.put, List.setIfInBounds_toArray, List.set_cons_zero, List.set_cons_succ]
  refine wpR_take (i := 5) (v := ?_) (⟨fun _ => rfl, Eq.trans⟩) (some 24) rfl (by kernel_rfl) (by kernel_rfl) (by kernel_rfl) (by kernel_rfl) (by kernel_rfl) (fun _ _ _ h => h) (by kernel_rfl) (fun w' hw' => ?_) ?_
  rotate_left
  · go_simp; with_reducible rfl
  simp only [Act.put, List.setIfInBounds_toArray, List.set_cons_zero, List.set_cons_succ]
  refine wpR_take (i := 6) (v := ?_) (⟨fun _ => rfl, Eq.trans⟩) (some 25) rfl (by kernel_rfl) (by kernel_rfl) (by kernel_rfl) (by kernel_rfl) (by kernel_rfl) (fun _ _ _ h => h) (by kernel_rfl) (fun w' hw' => ?_) ?_
  rotate_left
  · go_simp; with_reducible rfl
  simp only [Act.put, List.setIfInBounds_toArray, List.set_cons_zero, List.set_cons_succ]
  refine wpR_take (i := 7) (v := ?_) (⟨fun _ => rfl, Eq.trans⟩) (some 26) rfl (by kernel_rfl) (by kernel_rfl) (by kernel_rfl) (by kernel_rfl) (by kernel_rfl) (fun _ _ _ h => h) (by kernel_rfl) (fun w' hw' => ?_) ?_
  rotate_left
  · go_simp; with_reducible rfl
  simp only [Act.put, List.setIfInBounds_toArray, List.set_cons_zero, List.set_cons_succ]
  refine wpR_take (i := 8) (v := ?_) (⟨fun _ => rfl, Eq.trans⟩) (some 27) rfl (by kernel_rfl) (by kernel_rfl) (by kernel_rfl) (by kernel_rfl) (by kernel_rfl) (fun _ _ _ h => h) (by kernel_rfl) (fun w' hw' => ?_) ?_
  rotate_left
  · subst hw'; go_simp; with_reducible rfl
  simp only [Act.put, List.setIfInBounds_toArray, List.set_cons_zero, List.set_cons_succ]
  refine wpR_take (i := 9) (v := ?_) (⟨fun _ => rfl, Eq.trans⟩) (some 28) rfl (by kernel_rfl) (by kernel_rfl) (by kernel_rfl) (by kernel_rfl) (by kernel_rfl) (fun _ _ _ h => h) (by kernel_rfl) (fun w' hw' => ?_) ?_
  rotate_left
  · go_simp; with_reducible rfl
  simp only [Act.put, List.setIfInBounds_toArray, List.set_cons_zero, List.set_cons_succ]
  refine wpR_one 10 rfl (by kernel_rfl) (by kernel_rfl) (fun K hK => ?_)
  go_simp
  refine hK _ _ (fun h => absurd h (by decide)) ?_
  clear hK K
  try simp only [Act.put, List.setIfInBounds_toArray, List.set_cons_zero, List.set_cons_succ]
  refine wpR_done (by kernel_rfl) ?_ _
  generalize hW2 : wd.setCell ⟨bw, m, none⟩ (.int .i64 ((now : Int) + 1)) = W2 at hset tset ⊢
  replace hW2 := Lib.hid hW2
  obtain ⟨bk2, bd2, bw2, q1, q2, q3, -, -, -, -, -, hc2⟩ := hset.out.cells (by omega)
  injection q2 with q2
  injection q2 with q2
  subst q2
  have cd2 := (hc2 m (x.1, now + 1) (by rw [List.getElem?_set_self (by rw [hn.out]; exact hmn)])).2.1
  have e2 := blk_cell (j := 1) hset.out.blk rfl
  clear hc2 d2 d3 cw3 fw
  go_wp2_with fail
  go_ret2
  exact ⟨rfl, ⟨_, _, _, hset⟩, (htd.out.mono (Nat.le_refl _) (by simp)).trans (tset.out.mono (Nat.le_refl _) (by simp))⟩
end Go.Proofs.Ythhggojpmilmdaa
