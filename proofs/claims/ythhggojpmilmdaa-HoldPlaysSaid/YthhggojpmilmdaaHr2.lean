/- hold: the reference's goes. -/
import Derived.Test.YthhggojpmilmdaaHr1
namespace Go.Proofs.Ythhggojpmilmdaa
set_option linter.unusedVariables false
set_option linter.unusedSimpArgs false
open Go Go.RowKit
def cutR (R : List Rt) (m i : Nat) : List Rt := (R.take i).eraseIdx m
theorem cut_same {R : List Rt} {m i : Nat} {x : Rt} (hx : R[i]? = some x) (h : i = m) : cutR R m (i + 1) = cutR R m i := by
  have hl : (R.take i).length = i := by rw [List.length_take]; have := (List.getElem?_eq_some_iff.1 hx).1; omega
  unfold cutR
  rw [List.take_add_one, hx, ← h, List.eraseIdx_of_length_le (show (R.take i).length ≤ i by omega)]
  show (R.take i ++ [x]).eraseIdx i = _
  rw [List.eraseIdx_append_of_length_le (by omega), hl, Nat.sub_self]
  simp
theorem cut_more {R : List Rt} {m i : Nat} {x : Rt} (hx : R[i]? = some x) (h : i ≠ m) : cutR R m (i + 1) = cutR R m i ++ [x] := by
  have hl : (R.take i).length = i := by rw [List.length_take]; have := (List.getElem?_eq_some_iff.1 hx).1; omega
  unfold cutR
  rw [List.take_add_one, hx]
  show (R.take i ++ [x]).eraseIdx m = _
  rcases Nat.lt_or_ge m i with hm | hm
  · rw [List.eraseIdx_append_of_lt_length (by omega)]
  · rw [List.eraseIdx_of_length_le (by rw [List.length_append, hl]; simp; omega), List.eraseIdx_of_length_le (show (R.take i).length ≤ m by omega)]
theorem rows_cut {w : World} {B m i : Nat} {R : List Rt} {x : Rt} (hx : R[i]? = some x) (h : i ≠ m) {k d v y1 y2 y3 : Value} {lk ld lw l1 l2 l3 : List Value} (e1 : (cutR R m i).map (fun x => sV x.1.1) = lk) (e2 : (cutR R m i).map (fun x => sV x.1.2) = ld) (e3 : (cutR R m i).map (fun x => iV x.2) = lw)
    (hS : Own B ([(9, k, lk ++ [sV x.1.1]), (9, d, ld ++ [sV x.1.2]), (3, v, lw ++ [iV x.2]), (9, y1, l1), (9, y2, l2), (3, y3, l3)] : List Rw) w) : Own B (rowsR k d v (cutR R m (i + 1))) w := by
  subst e1 e2 e3
  have := hS.take 3
  rw [cut_more hx h]
  unfold rowsR
  simpa using this
theorem cut_len (R : List Rt) (m i : Nat) : (cutR R m i).length ≤ R.length := by
  unfold cutR
  have h1 := List.length_eraseIdx_le (R.take i) m
  have h2 := List.length_take_le i R
  have h3 : (R.take i).length ≤ R.length := by rw [List.length_take]; omega
  omega
set_option maxHeartbeats 8000000 in
set_option maxRecDepth 10000 in
theorem goes_any (lo g : Nat) (vk vd vw : Value) (now q : Nat) (R : List Rt) (hR : R.length ≤ 100000) (m : Nat) (w : World) (hlo : Hid (lo ≤ w.heap.size)) (h : Hid (Rh w lo g vk vd vw now q R)) :
    Calls Try.prog 30 #[.pointer (some ⟨g, 0, none⟩), .int .i64 m] w fun e w' => (∃ v, e = .returned v) ∧ (∃ uk ud uw, Hid (Rh w' lo g uk ud uw now q (R.eraseIdx m))) ∧ TChg lo rts w w' := by
  obtain ⟨Ak, ck, Ad, cd, Aw, cw, rfl, rfl, rfl⟩ := h.out.form
  obtain ⟨n, hn⟩ : ∃ n, R.length = n := ⟨_, rfl⟩
  have h' := h.out
  rw [hn] at h' hR
  replace h := Lib.hid h'
  have hn' := Lib.hid hn
  clear h' hn
  obtain ⟨B0, hB0⟩ : ∃ B0, w.heap.size = B0 := ⟨_, rfl⟩
  have hcells : Hid (∀ wr, Below B0 w wr → Rh wr lo g (.slice Ak n ck) (.slice Ad n cd) (.slice Aw n cw) now q R) := Lib.hid (fun wr hb => h.out.tchg (lo' := 0) (ts := []) (TChg.of_below (by rw [hB0]; exact hb)) (by simp))
  obtain ⟨w1, hw1⟩ : ∃ w1, w1 = ((w.alloc (.cells #[] 9)).alloc (.cells #[] 9)).alloc (.cells #[] 3) := ⟨_, rfl⟩
  have hb1 : Hid (Below B0 w w1) := Lib.hid (by rw [hw1, ← hB0]; exact ((GrM.alloc _ _).trans (GrM.alloc _ _)).trans (GrM.alloc _ _))
  have ho1 : Hid (Own B0 (rowsR (.slice (some ⟨w.heap.size, 0, none⟩) 0 0) (.slice (some ⟨w.heap.size + 1, 0, none⟩) 0 0) (.slice (some ⟨w.heap.size + 1 + 1, 0, none⟩) 0 0) (cutR R m 0)) w1) := Lib.hid (by
    have e : cutR R m 0 = [] := by unfold cutR; simp
    rw [e, hw1]
    have o1 := World.ownsRow.alloc (World.ownsRow.alloc (World.ownsRow_made (base := B0) (size := 1) (e := 9) w #[] 0 (by omega) (by simp [maxLen]) rfl) (.cells #[] 9)) (.cells #[] 3)
    have o2 := World.ownsRow.alloc (World.ownsRow_made (base := B0) (size := 1) (e := 9) (w.alloc (.cells #[] 9)) #[] 0 (by simp; omega) (by simp [maxLen]) rfl) (.cells #[] 3)
    have o3 := World.ownsRow_made (base := B0) (size := 1) (e := 3) ((w.alloc (.cells #[] 9)).alloc (.cells #[] 9)) #[] 0 (by simp; omega) (by simp [maxLen]) rfl
    simp only [World.size_alloc] at o2 o3
    refine ⟨fun i x hx => ?_, fun i j x y hij hx hy b hb => ?_⟩
    · match i, hx with
      | 0, hx => injection hx with hx; subst hx; exact o1
      | 1, hx => injection hx with hx; subst hx; exact o2
      | 2, hx => injection hx with hx; subst hx; exact o3
      | _ + 3, hx => cases hx
    · match i, j, hx, hy with
      | 0, 0, _, _ => exact absurd rfl hij
      | 1, 1, _, _ => exact absurd rfl hij
      | 2, 2, _, _ => exact absurd rfl hij
      | 0, 1, hx, hy => injection hx with hx; injection hy with hy; subst hx hy; simp [Value.ownBlock] at hb ⊢; omega
      | 0, 2, hx, hy => injection hx with hx; injection hy with hy; subst hx hy; simp [Value.ownBlock] at hb ⊢; omega
      | 1, 0, hx, hy => injection hx with hx; injection hy with hy; subst hx hy; simp [Value.ownBlock] at hb ⊢; omega
      | 1, 2, hx, hy => injection hx with hx; injection hy with hy; subst hx hy; simp [Value.ownBlock] at hb ⊢; omega
      | 2, 0, hx, hy => injection hx with hx; injection hy with hy; subst hx hy; simp [Value.ownBlock] at hb ⊢; omega
      | 2, 1, hx, hy => injection hx with hx; injection hy with hy; subst hx hy; simp [Value.ownBlock] at hb ⊢; omega
      | _ + 3, _, hx, _ => cases hx
      | _, _ + 3, _, hy => cases hy)
  have hlB : Hid (lo ≤ B0) := Lib.hid (by rw [← hB0]; exact hlo.out)
  have hgB : Hid (g < B0) := Lib.hid (by rw [← hB0]; exact blk_lt h.out.blk)
  replace hB0 := Lib.hid hB0
  have hw1' := Lib.hid hw1.symm
  replace hw1 := Lib.hid hw1
  go_enter Try.func30, Try.ntmps30
  go_upto_region 1 with (fail)
  rw [hw1'.out]
  go_wp2_with fail
  go_loopw [4, 5, 6, 7] (fun a1 a2 a3 z wr => ∃ (i : Nat) (ks ds ws : Value), ks = a1 ∧ ds = a2 ∧ ws = a3 ∧ z = .int .i64 i ∧ i ≤ n ∧ Hid (Own B0 (rowsR ks ds ws (cutR R m i)) wr) ∧ Hid (Below B0 w wr)) (fun _ _ _ z _ => n - (intOf z).toNat)
  case atStart => exact ⟨0, _, _, _, rfl, rfl, rfl, rfl, Nat.zero_le _, ho1, hb1⟩
  case round =>
    obtain ⟨i, ks, ds, ws, rfl, rfl, rfl, rfl, hi, hos, hgr⟩ := hrel
    clear ho1 hb1
    have hrh := hcells.out wr hgr.out
    have cg0 := blk_cell (j := 0) hrh.blk rfl
    by_cases hlt : i < n
    · have ii : (i : Int) < (n : Int) := by omega
      by_cases hat : i = m
      · have ia : ((i : Int) == (m : Int)) = true := by subst hat; simp
        have ian : (i == m) = true := by subst hat; simp
        obtain ⟨x, hx⟩ : ∃ x, R[i]? = some x := ⟨_, List.getElem?_eq_getElem (by rw [hn'.out]; exact hlt)⟩
        replace hx := Lib.hid hx
        replace hat := Lib.hid hat
        go_wp2_with fail
        go_roundw
        case rel => exact ⟨i + 1, _, _, _, rfl, rfl, rfl, by go_num, by omega, by rw [cut_same hx.out hat.out]; exact hos, hgr⟩
        case measure => simp [intOf]; omega
      · have ia : ((i : Int) == (m : Int)) = false := beq_false_of_ne (by omega)
        have ian : (i == m) = false := beq_false_of_ne hat
        obtain ⟨x, hx⟩ : ∃ x, R[i]? = some x := ⟨_, List.getElem?_eq_getElem (by rw [hn'.out]; exact hlt)⟩
        go_upto_region 5 with (fail)
        obtain ⟨wd, hwd⟩ : ∃ wd, wd = wr.drew := ⟨_, rfl⟩
        have hgd : Below B0 wr wd := by rw [hwd]; exact (Below.refl _ _).drew
        have hrd := hcells.out wd (hgr.out.trans hgd)
        have hosd : Hid (Own B0 (rowsR ks ds ws (cutR R m i)) wd) := Lib.hid (by rw [hwd]; exact hos.out)
        have hZwd : Hid (B0 ≤ wd.heap.size) := Lib.hid (by have h1 := (hgr.out.trans hgd).size; have := hB0.out; omega)
        obtain ⟨bk, bd, bw, rfl, rfl, rfl, -, -, -, -, -, hc⟩ := hrd.cells (by omega)
        obtain ⟨bk2, bd2, bw2, f1, f2, f3, l1, l2, l3, -, -, -⟩ := h.out.cells (by omega)
        injection f1 with f1; injection f1 with f1; subst f1
        injection f2 with f2; injection f2 with f2; subst f2
        injection f3 with f3; injection f3 with f3; subst f3
        obtain ⟨ck, cdd, cww⟩ := hc i x hx
        have hlbk : Hid (bk < B0) := Lib.hid (by have := hB0.out; omega)
        have hlbd : Hid (bd < B0) := Lib.hid (by have := hB0.out; omega)
        have hlbw : Hid (bw < B0) := Lib.hid (by have := hB0.out; omega)
        replace ck := Lib.hid ck
        replace cdd := Lib.hid cdd
        replace cww := Lib.hid cww
        have hblk := Lib.hid hrd.blk
        have hSwd : Hid (Own B0 ([(9, ks, (cutR R m i).map (fun x => sV x.1.1)), (9, ds, (cutR R m i).map (fun x => sV x.1.2)), (3, ws, (cutR R m i).map (fun x => iV x.2)), (9, .slice none 0 0, []), (9, .slice none 0 0, []), (3, .slice none 0 0, [])] : List Rw) wd) := Lib.hid (((hosd.out.nils 9).nils 9).nils 3)
        have hcl := cut_len R m i
        have hlk : Hid (((cutR R m i).map (fun x => sV x.1.1)).length ≤ 1000000) := Lib.hid (by rw [List.length_map]; have := hn'.out; omega)
        have hld : Hid (((cutR R m i).map (fun x => sV x.1.2)).length ≤ 1000000) := Lib.hid (by rw [List.length_map]; have := hn'.out; omega)
        have hlw : Hid (((cutR R m i).map (fun x => iV x.2)).length ≤ 1000000) := Lib.hid (by rw [List.length_map]; have := hn'.out; omega)
        have hPwd : Hid (Below B0 wd wd) := Lib.hid (Below.refl _ _)
        have hgrd : Hid (Below B0 w wd) := Lib.hid (hgr.out.trans hgd)
        replace hgr := hgrd
        obtain ⟨lk, hlke⟩ : ∃ lk, (cutR R m i).map (fun x => sV x.1.1) = lk := ⟨_, rfl⟩
        obtain ⟨ld, hlde⟩ : ∃ ld, (cutR R m i).map (fun x => sV x.1.2) = ld := ⟨_, rfl⟩
        obtain ⟨lw, hlwe⟩ : ∃ lw, (cutR R m i).map (fun x => iV x.2) = lw := ⟨_, rfl⟩
        rw [hlke, hlde, hlwe] at hSwd
        rw [hlke] at hlk
        rw [hlde] at hld
        rw [hlwe] at hlw
        replace hlke := Lib.hid hlke
        replace hlde := Lib.hid hlde
        replace hlwe := Lib.hid hlwe
        replace hat := Lib.hid hat
        replace hx := Lib.hid hx
        clear hc hrd hrh cg0 hosd hos hgd l1 l2 l3 hcl hgrd
        refine wpR_region (Below B0) 9999 (by kernel_rfl) ?_
        (rw [← hwd]; replace hwd := Lib.hid hwd)
        refine wpR_take (i := 0) (v := ?_) (⟨fun x => Below.refl _ x, fun h1 h2 => h1.trans h2⟩) (some 23) rfl (by kernel_rfl) (by kernel_rfl) (by kernel_rfl) (by kernel_rfl) (by kernel_rfl) (fun _ _ _ h => h) (by kernel_rfl) (fun w' hw' => ?_) ?_
        rotate_left
        · go_simp; with_reducible rfl
        simp only [Act.put, List.setIfInBounds_toArray, List.set_cons_zero, List.set_cons_succ]
        refine wpR_take (i := 1) (v := ?_) (⟨fun x => Below.refl _ x, fun h1 h2 => h1.trans h2⟩) (some 24) rfl (by kernel_rfl) (by kernel_rfl) (by kernel_rfl) (by kernel_rfl) (by kernel_rfl) (fun _ _ _ h => h) (by kernel_rfl) (fun w' hw' => ?_) ?_
        rotate_left
        · go_simp; with_reducible rfl
        simp only [Act.put, List.setIfInBounds_toArray, List.set_cons_zero, List.set_cons_succ]
        refine wpR_take (i := 2) (v := ?_) (⟨fun x => Below.refl _ x, fun h1 h2 => h1.trans h2⟩) (some 25) rfl (by kernel_rfl) (by kernel_rfl) (by kernel_rfl) (by kernel_rfl) (by kernel_rfl) (fun _ _ _ h => h) (by kernel_rfl) (fun w' hw' => ?_) ?_
        rotate_left
        · go_simp; with_reducible rfl
        simp only [Act.put, List.setIfInBounds_toArray, List.set_cons_zero, List.set_cons_succ]
        refine wpR_take (i := 3) (v := ?_) (⟨fun x => Below.refl _ x, fun h1 h2 => h1.trans h2⟩) (some 26) rfl (by kernel_rfl) (by kernel_rfl) (by kernel_rfl) (by kernel_rfl) (by kernel_rfl) (fun _ _ _ h => h) (by kernel_rfl) (fun w' hw' => ?_) ?_
        rotate_left
        · go_simp; with_reducible rfl
        simp only [Act.put, List.setIfInBounds_toArray, List.set_cons_zero, List.set_cons_succ]
        refine wpR_take (i := 4) (v := ?_) (⟨fun x => Below.refl _ x, fun h1 h2 => h1.trans h2⟩) (some 27) rfl (by kernel_rfl) (by kernel_rfl) (by kernel_rfl) (by kernel_rfl) (by kernel_rfl) (fun _ _ _ h => h) (by kernel_rfl) (fun w' hw' => ?_) ?_
        rotate_left
        · have qb := (hw'.block g hgB.out).trans hblk.out; have qc := blk_cell (j := 0) qb rfl; go_simp; with_reducible rfl
        simp only [Act.put, List.setIfInBounds_toArray, List.set_cons_zero, List.set_cons_succ]
        refine wpR_take (i := 5) (v := ?_) (⟨fun x => Below.refl _ x, fun h1 h2 => h1.trans h2⟩) (some 28) rfl (by kernel_rfl) (by kernel_rfl) (by kernel_rfl) (by kernel_rfl) (by kernel_rfl) (fun _ _ _ h => h) (by kernel_rfl) (fun w' hw' => ?_) ?_
        rotate_left
        · go_simp; with_reducible rfl
        simp only [Act.put, List.setIfInBounds_toArray, List.set_cons_zero, List.set_cons_succ]
        refine wpR_take (i := 6) (v := ?_) (⟨fun x => Below.refl _ x, fun h1 h2 => h1.trans h2⟩) (some 29) rfl (by kernel_rfl) (by kernel_rfl) (by kernel_rfl) (by kernel_rfl) (by kernel_rfl) (fun _ _ _ h => h) (by kernel_rfl) (fun w' hw' => ?_) ?_
        rotate_left
        · go_simp; with_reducible rfl
        simp only [Act.put, List.setIfInBounds_toArray, List.set_cons_zero, List.set_cons_succ]
        refine wpR_take (i := 7) (v := ?_) (⟨fun x => Below.refl _ x, fun h1 h2 => h1.trans h2⟩) (some 30) rfl (by kernel_rfl) (by kernel_rfl) (by kernel_rfl) (by kernel_rfl) (by kernel_rfl) (fun _ _ _ h => h) (by kernel_rfl) (fun w' hw' => ?_) ?_
        rotate_left
        · have q := (Below.cell hw' (p := ⟨bk, i, none⟩) hlbk.out).trans ck.out; go_simp; with_reducible rfl
        simp only [Act.put, List.setIfInBounds_toArray, List.set_cons_zero, List.set_cons_succ]
        refine wpR_take (i := 10) (v := ?_) (⟨fun x => Below.refl _ x, fun h1 h2 => h1.trans h2⟩) (some 33) rfl (by kernel_rfl) (by kernel_rfl) (by kernel_rfl) (by kernel_rfl) (by kernel_rfl) (fun _ _ _ h => h) (by kernel_rfl) (fun w' hw' => ?_) ?_
        rotate_left
        · go_simp; with_reducible rfl
        simp only [Act.put, List.setIfInBounds_toArray, List.set_cons_zero, List.set_cons_succ]
        refine wpR_take (i := 11) (v := ?_) (⟨fun x => Below.refl _ x, fun h1 h2 => h1.trans h2⟩) (some 34) rfl (by kernel_rfl) (by kernel_rfl) (by kernel_rfl) (by kernel_rfl) (by kernel_rfl) (fun _ _ _ h => h) (by kernel_rfl) (fun w' hw' => ?_) ?_
        rotate_left
        · go_simp; with_reducible rfl
        simp only [Act.put, List.setIfInBounds_toArray, List.set_cons_zero, List.set_cons_succ]
        refine wpR_take (i := 12) (v := ?_) (⟨fun x => Below.refl _ x, fun h1 h2 => h1.trans h2⟩) (some 35) rfl (by kernel_rfl) (by kernel_rfl) (by kernel_rfl) (by kernel_rfl) (by kernel_rfl) (fun _ _ _ h => h) (by kernel_rfl) (fun w' hw' => ?_) ?_
        rotate_left
        · go_simp; with_reducible rfl
        simp only [Act.put, List.setIfInBounds_toArray, List.set_cons_zero, List.set_cons_succ]
        refine wpR_take (i := 13) (v := ?_) (⟨fun x => Below.refl _ x, fun h1 h2 => h1.trans h2⟩) (some 36) rfl (by kernel_rfl) (by kernel_rfl) (by kernel_rfl) (by kernel_rfl) (by kernel_rfl) (fun _ _ _ h => h) (by kernel_rfl) (fun w' hw' => ?_) ?_
        rotate_left
        · go_simp; with_reducible rfl
        simp only [Act.put, List.setIfInBounds_toArray, List.set_cons_zero, List.set_cons_succ]
        refine wpR_take (i := 14) (v := ?_) (⟨fun x => Below.refl _ x, fun h1 h2 => h1.trans h2⟩) (some 37) rfl (by kernel_rfl) (by kernel_rfl) (by kernel_rfl) (by kernel_rfl) (by kernel_rfl) (fun _ _ _ h => h) (by kernel_rfl) (fun w' hw' => ?_) ?_
        rotate_left
        · have qb := (hw'.block g hgB.out).trans hblk.out; have qc := blk_cell (j := 1) qb rfl; go_simp; with_reducible rfl
        simp only [Act.put, List.setIfInBounds_toArray, List.set_cons_zero, List.set_cons_succ]
        refine wpR_take (i := 15) (v := ?_) (⟨fun x => Below.refl _ x, fun h1 h2 => h1.trans h2⟩) (some 38) rfl (by kernel_rfl) (by kernel_rfl) (by kernel_rfl) (by kernel_rfl) (by kernel_rfl) (fun _ _ _ h => h) (by kernel_rfl) (fun w' hw' => ?_) ?_
        rotate_left
        · go_simp; with_reducible rfl
        simp only [Act.put, List.setIfInBounds_toArray, List.set_cons_zero, List.set_cons_succ]
        refine wpR_take (i := 16) (v := ?_) (⟨fun x => Below.refl _ x, fun h1 h2 => h1.trans h2⟩) (some 39) rfl (by kernel_rfl) (by kernel_rfl) (by kernel_rfl) (by kernel_rfl) (by kernel_rfl) (fun _ _ _ h => h) (by kernel_rfl) (fun w' hw' => ?_) ?_
        rotate_left
        · go_simp; with_reducible rfl
        simp only [Act.put, List.setIfInBounds_toArray, List.set_cons_zero, List.set_cons_succ]
        refine wpR_take (i := 17) (v := ?_) (⟨fun x => Below.refl _ x, fun h1 h2 => h1.trans h2⟩) (some 40) rfl (by kernel_rfl) (by kernel_rfl) (by kernel_rfl) (by kernel_rfl) (by kernel_rfl) (fun _ _ _ h => h) (by kernel_rfl) (fun w' hw' => ?_) ?_
        rotate_left
        · have q := (Below.cell hw' (p := ⟨bd, i, none⟩) hlbd.out).trans cdd.out; go_simp; with_reducible rfl
        simp only [Act.put, List.setIfInBounds_toArray, List.set_cons_zero, List.set_cons_succ]
        refine wpR_take (i := 20) (v := ?_) (⟨fun x => Below.refl _ x, fun h1 h2 => h1.trans h2⟩) (some 43) rfl (by kernel_rfl) (by kernel_rfl) (by kernel_rfl) (by kernel_rfl) (by kernel_rfl) (fun _ _ _ h => h) (by kernel_rfl) (fun w' hw' => ?_) ?_
        rotate_left
        · go_simp; with_reducible rfl
        simp only [Act.put, List.setIfInBounds_toArray, List.set_cons_zero, List.set_cons_succ]
        refine wpR_take (i := 21) (v := ?_) (⟨fun x => Below.refl _ x, fun h1 h2 => h1.trans h2⟩) (some 44) rfl (by kernel_rfl) (by kernel_rfl) (by kernel_rfl) (by kernel_rfl) (by kernel_rfl) (fun _ _ _ h => h) (by kernel_rfl) (fun w' hw' => ?_) ?_
        rotate_left
        · go_simp; with_reducible rfl
        simp only [Act.put, List.setIfInBounds_toArray, List.set_cons_zero, List.set_cons_succ]
        refine wpR_take (i := 22) (v := ?_) (⟨fun x => Below.refl _ x, fun h1 h2 => h1.trans h2⟩) (some 45) rfl (by kernel_rfl) (by kernel_rfl) (by kernel_rfl) (by kernel_rfl) (by kernel_rfl) (fun _ _ _ h => h) (by kernel_rfl) (fun w' hw' => ?_) ?_
        rotate_left
        · go_simp; with_reducible rfl
        simp only [Act.put, List.setIfInBounds_toArray, List.set_cons_zero, List.set_cons_succ]
        refine wpR_take (i := 23) (v := ?_) (⟨fun x => Below.refl _ x, fun h1 h2 => h1.trans h2⟩) (some 46) rfl (by kernel_rfl) (by kernel_rfl) (by kernel_rfl) (by kernel_rfl) (by kernel_rfl) (fun _ _ _ h => h) (by kernel_rfl) (fun w' hw' => ?_) ?_
        rotate_left
        · go_simp; with_reducible rfl
        simp only [Act.put, List.setIfInBounds_toArray, List.set_cons_zero, List.set_cons_succ]
        refine wpR_take (i := 24) (v := ?_) (⟨fun x => Below.refl _ x, fun h1 h2 => h1.trans h2⟩) (some 47) rfl (by kernel_rfl) (by kernel_rfl) (by kernel_rfl) (by kernel_rfl) (by kernel_rfl) (fun _ _ _ h => h) (by kernel_rfl) (fun w' hw' => ?_) ?_
        rotate_left
        · have qb := (hw'.block g hgB.out).trans hblk.out; have qc := blk_cell (j := 2) qb rfl; go_simp; with_reducible rfl
        simp only [Act.put, List.setIfInBounds_toArray, List.set_cons_zero, List.set_cons_succ]
        refine wpR_take (i := 25) (v := ?_) (⟨fun x => Below.refl _ x, fun h1 h2 => h1.trans h2⟩) (some 48) rfl (by kernel_rfl) (by kernel_rfl) (by kernel_rfl) (by kernel_rfl) (by kernel_rfl) (fun _ _ _ h => h) (by kernel_rfl) (fun w' hw' => ?_) ?_
        rotate_left
        · go_simp; with_reducible rfl
        simp only [Act.put, List.setIfInBounds_toArray, List.set_cons_zero, List.set_cons_succ]
        refine wpR_take (i := 26) (v := ?_) (⟨fun x => Below.refl _ x, fun h1 h2 => h1.trans h2⟩) (some 49) rfl (by kernel_rfl) (by kernel_rfl) (by kernel_rfl) (by kernel_rfl) (by kernel_rfl) (fun _ _ _ h => h) (by kernel_rfl) (fun w' hw' => ?_) ?_
        rotate_left
        · go_simp; with_reducible rfl
        simp only [Act.put, List.setIfInBounds_toArray, List.set_cons_zero, List.set_cons_succ]
        refine wpR_take (i := 27) (v := ?_) (⟨fun x => Below.refl _ x, fun h1 h2 => h1.trans h2⟩) (some 50) rfl (by kernel_rfl) (by kernel_rfl) (by kernel_rfl) (by kernel_rfl) (by kernel_rfl) (fun _ _ _ h => h) (by kernel_rfl) (fun w' hw' => ?_) ?_
        rotate_left
        · have q := (Below.cell hw' (p := ⟨bw, i, none⟩) hlbw.out).trans cww.out; go_simp; with_reducible rfl
        simp only [Act.put, List.setIfInBounds_toArray, List.set_cons_zero, List.set_cons_succ]
        refine wpR_three 8 18 28 rfl rfl rfl (by kernel_rfl) (by kernel_rfl) (by kernel_rfl) (by kernel_rfl) (fun K hK => ?_) (fun K hK => ?_) (fun K hK => ?_)
        · go_simp
          obtain ⟨q8, hq8⟩ : ∃ q8, wd.heap.size = q8 := ⟨_, rfl⟩
          obtain ⟨Y1, hY1⟩ : ∃ Y1, Y1 = wd.alloc (.cells #[.string (bs x.1.1)] 9) := ⟨_, rfl⟩
          have hSY1 : Hid (Own B0 ([(9, ks, lk), (9, ds, ld), (3, ws, lw), (9, .slice (some ⟨q8, 0, none⟩) 1 1, [sV x.1.1]), (9, .slice none 0 0, []), (3, .slice none 0 0, [])] : List Rw) Y1) := Lib.hid (by rw [hY1, ← hq8]; exact Own.lit (i := 3) hSwd.out rfl hZwd.out)
          have hrY1 : Below B0 wd Y1 := by rw [hY1]; exact (Below.refl B0 wd).alloc hZwd.out _
          have hZY1 : Hid (B0 ≤ Y1.heap.size) := Lib.hid (Nat.le_trans hZwd.out (by rw [hY1]; simp))
          have hPY1 : Hid (Below B0 wd Y1) := Lib.hid (hrY1)
          rw [← hY1, hq8]
          replace hY1 := Lib.hid hY1
          replace hq8 := Lib.hid hq8
          refine hK _ _ (fun _ => hrY1) ?_
          clear hK K
          clear hrY1
          try simp only [Act.put, List.setIfInBounds_toArray, List.set_cons_zero, List.set_cons_succ]
          refine wpR_three 9 18 28 rfl rfl rfl (by kernel_rfl) (by kernel_rfl) (by kernel_rfl) (by kernel_rfl) (fun K hK => ?_) (fun K hK => ?_) (fun K hK => ?_)
          · refine wp_ownS (.tmp 23) (.tmp 31) rfl hSY1.out 0 3 ks (lk) (some ⟨q8, 0, none⟩) (sV x.1.1) rfl rfl rfl rfl rfl hlk.out hZY1.out ?_
            intro v9 Y2 hSY2 hgY2
            have hrY2 : Below B0 Y1 Y2 := (Below.refl B0 Y1).grown hgY2 hZY1.out (fun j hj => (World.ownsRow.lt (hSY1.out.1 0 _ rfl) j hj).1)
            have hZY2 : Hid (B0 ≤ Y2.heap.size) := Lib.hid (Nat.le_trans hZY1.out hgY2.size)
            replace hSY2 : Hid (Own B0 ([(9, v9, lk ++ [sV x.1.1]), (9, ds, ld), (3, ws, lw), (9, .slice (some ⟨q8, 0, none⟩) 1 1, [sV x.1.1]), (9, .slice none 0 0, []), (3, .slice none 0 0, [])] : List Rw) Y2) := Lib.hid hSY2
            have hPY2 : Hid (Below B0 wd Y2) := Lib.hid ((hPY1.out).trans hrY2)
            refine hK _ _ (fun _ => hrY2) ?_
            clear hK K
            clear hrY2 hgY2
            try simp only [Act.put, List.setIfInBounds_toArray, List.set_cons_zero, List.set_cons_succ]
            refine wpR_two 18 28 rfl rfl (by kernel_rfl) (by kernel_rfl) (by kernel_rfl) (fun K hK => ?_) (fun K hK => ?_)
            · go_simp
              obtain ⟨q18, hq18⟩ : ∃ q18, Y2.heap.size = q18 := ⟨_, rfl⟩
              obtain ⟨Y3, hY3⟩ : ∃ Y3, Y3 = Y2.alloc (.cells #[.string (bs x.1.2)] 9) := ⟨_, rfl⟩
              have hSY3 : Hid (Own B0 ([(9, v9, lk ++ [sV x.1.1]), (9, ds, ld), (3, ws, lw), (9, .slice (some ⟨q8, 0, none⟩) 1 1, [sV x.1.1]), (9, .slice (some ⟨q18, 0, none⟩) 1 1, [sV x.1.2]), (3, .slice none 0 0, [])] : List Rw) Y3) := Lib.hid (by rw [hY3, ← hq18]; exact Own.lit (i := 4) hSY2.out rfl hZY2.out)
              have hrY3 : Below B0 Y2 Y3 := by rw [hY3]; exact (Below.refl B0 Y2).alloc hZY2.out _
              have hZY3 : Hid (B0 ≤ Y3.heap.size) := Lib.hid (Nat.le_trans hZY2.out (by rw [hY3]; simp))
              have hPY3 : Hid (Below B0 wd Y3) := Lib.hid ((hPY2.out).trans hrY3)
              rw [← hY3, hq18]
              replace hY3 := Lib.hid hY3
              replace hq18 := Lib.hid hq18
              refine hK _ _ (fun _ => hrY3) ?_
              clear hK K
              clear hrY3
              try simp only [Act.put, List.setIfInBounds_toArray, List.set_cons_zero, List.set_cons_succ]
              refine wpR_two 19 28 rfl rfl (by kernel_rfl) (by kernel_rfl) (by kernel_rfl) (fun K hK => ?_) (fun K hK => ?_)
              · refine wp_ownS (.tmp 33) (.tmp 41) rfl hSY3.out 1 4 ds (ld) (some ⟨q18, 0, none⟩) (sV x.1.2) rfl rfl rfl rfl rfl hld.out hZY3.out ?_
                intro v19 Y4 hSY4 hgY4
                have hrY4 : Below B0 Y3 Y4 := (Below.refl B0 Y3).grown hgY4 hZY3.out (fun j hj => (World.ownsRow.lt (hSY3.out.1 1 _ rfl) j hj).1)
                have hZY4 : Hid (B0 ≤ Y4.heap.size) := Lib.hid (Nat.le_trans hZY3.out hgY4.size)
                replace hSY4 : Hid (Own B0 ([(9, v9, lk ++ [sV x.1.1]), (9, v19, ld ++ [sV x.1.2]), (3, ws, lw), (9, .slice (some ⟨q8, 0, none⟩) 1 1, [sV x.1.1]), (9, .slice (some ⟨q18, 0, none⟩) 1 1, [sV x.1.2]), (3, .slice none 0 0, [])] : List Rw) Y4) := Lib.hid hSY4
                have hPY4 : Hid (Below B0 wd Y4) := Lib.hid ((hPY3.out).trans hrY4)
                refine hK _ _ (fun _ => hrY4) ?_
                clear hK K
                clear hrY4 hgY4
                try simp only [Act.put, List.setIfInBounds_toArray, List.set_cons_zero, List.set_cons_succ]
                refine wpR_one 28 rfl (by kernel_rfl) (by kernel_rfl) (fun K hK => ?_)
                go_simp
                obtain ⟨q28, hq28⟩ : ∃ q28, Y4.heap.size = q28 := ⟨_, rfl⟩
                obtain ⟨Y5, hY5⟩ : ∃ Y5, Y5 = Y4.alloc (.cells #[.int .i64 x.2] 3) := ⟨_, rfl⟩
                have hSY5 : Hid (Own B0 ([(9, v9, lk ++ [sV x.1.1]), (9, v19, ld ++ [sV x.1.2]), (3, ws, lw), (9, .slice (some ⟨q8, 0, none⟩) 1 1, [sV x.1.1]), (9, .slice (some ⟨q18, 0, none⟩) 1 1, [sV x.1.2]), (3, .slice (some ⟨q28, 0, none⟩) 1 1, [iV x.2])] : List Rw) Y5) := Lib.hid (by rw [hY5, ← hq28]; exact Own.lit (i := 5) hSY4.out rfl hZY4.out)
                have hrY5 : Below B0 Y4 Y5 := by rw [hY5]; exact (Below.refl B0 Y4).alloc hZY4.out _
                have hZY5 : Hid (B0 ≤ Y5.heap.size) := Lib.hid (Nat.le_trans hZY4.out (by rw [hY5]; simp))
                have hPY5 : Hid (Below B0 wd Y5) := Lib.hid ((hPY4.out).trans hrY5)
                rw [← hY5, hq28]
                replace hY5 := Lib.hid hY5
                replace hq28 := Lib.hid hq28
                refine hK _ _ (fun _ => hrY5) ?_
                clear hK K
                clear hrY5
                try simp only [Act.put, List.setIfInBounds_toArray, List.set_cons_zero, List.set_cons_succ]
                refine wpR_one 29 rfl (by kernel_rfl) (by kernel_rfl) (fun K hK => ?_)
                refine wp_ownI (.tmp 43) (.tmp 51) rfl hSY5.out 2 5 ws (lw) (some ⟨q28, 0, none⟩) (iV x.2) rfl rfl rfl rfl rfl hlw.out hZY5.out ?_
                intro v29 Y6 hSY6 hgY6
                have hrY6 : Below B0 Y5 Y6 := (Below.refl B0 Y5).grown hgY6 hZY5.out (fun j hj => (World.ownsRow.lt (hSY5.out.1 2 _ rfl) j hj).1)
                have hZY6 : Hid (B0 ≤ Y6.heap.size) := Lib.hid (Nat.le_trans hZY5.out hgY6.size)
                replace hSY6 : Hid (Own B0 ([(9, v9, lk ++ [sV x.1.1]), (9, v19, ld ++ [sV x.1.2]), (3, v29, lw ++ [iV x.2]), (9, .slice (some ⟨q8, 0, none⟩) 1 1, [sV x.1.1]), (9, .slice (some ⟨q18, 0, none⟩) 1 1, [sV x.1.2]), (3, .slice (some ⟨q28, 0, none⟩) 1 1, [iV x.2])] : List Rw) Y6) := Lib.hid hSY6
                have hPY6 : Hid (Below B0 wd Y6) := Lib.hid ((hPY5.out).trans hrY6)
                refine hK _ _ (fun _ => hrY6) ?_
                clear hK K
                clear hrY6 hgY6
                try simp only [Act.put, List.setIfInBounds_toArray, List.set_cons_zero, List.set_cons_succ]
                refine wpR_take (i := 30) (v := ?_) (⟨fun x => Below.refl _ x, fun h1 h2 => h1.trans h2⟩) (some 4) rfl (by kernel_rfl) (by kernel_rfl) (by kernel_rfl) (by kernel_rfl) (by kernel_rfl) (fun _ _ _ h => h) (by kernel_rfl) (fun w' hw' => ?_) ?_
                rotate_left
                · go_simp; with_reducible rfl
                simp only [Act.put, List.setIfInBounds_toArray, List.set_cons_zero, List.set_cons_succ]
                refine wpR_take (i := 31) (v := ?_) (⟨fun x => Below.refl _ x, fun h1 h2 => h1.trans h2⟩) (some 5) rfl (by kernel_rfl) (by kernel_rfl) (by kernel_rfl) (by kernel_rfl) (by kernel_rfl) (fun _ _ _ h => h) (by kernel_rfl) (fun w' hw' => ?_) ?_
                rotate_left
                · go_simp; with_reducible rfl
                simp only [Act.put, List.setIfInBounds_toArray, List.set_cons_zero, List.set_cons_succ]
                refine wpR_take (i := 32) (v := ?_) (⟨fun x => Below.refl _ x, fun h1 h2 => h1.trans h2⟩) (some 6) rfl (by kernel_rfl) (by kernel_rfl) (by kernel_rfl) (by kernel_rfl) (by kernel_rfl) (fun _ _ _ h => h) (by kernel_rfl) (fun w' hw' => ?_) ?_
                rotate_left
                · go_simp; with_reducible rfl
                simp only [Act.put, List.setIfInBounds_toArray, List.set_cons_zero, List.set_cons_succ]
                refine wpR_done (by kernel_rfl) ?_ _
                go_wp2_with fail
                go_roundw
                case rel => exact ⟨i + 1, _, _, _, rfl, rfl, rfl, by go_num, by omega, Lib.hid (rows_cut hx.out hat.out hlke.out hlde.out hlwe.out hSY6.out), Lib.hid (hgr.out.trans hPY6.out)⟩
                case measure => simp [intOf]; omega
              · go_simp
                obtain ⟨q28, hq28⟩ : ∃ q28, Y3.heap.size = q28 := ⟨_, rfl⟩
                obtain ⟨Y4, hY4⟩ : ∃ Y4, Y4 = Y3.alloc (.cells #[.int .i64 x.2] 3) := ⟨_, rfl⟩
                have hSY4 : Hid (Own B0 ([(9, v9, lk ++ [sV x.1.1]), (9, ds, ld), (3, ws, lw), (9, .slice (some ⟨q8, 0, none⟩) 1 1, [sV x.1.1]), (9, .slice (some ⟨q18, 0, none⟩) 1 1, [sV x.1.2]), (3, .slice (some ⟨q28, 0, none⟩) 1 1, [iV x.2])] : List Rw) Y4) := Lib.hid (by rw [hY4, ← hq28]; exact Own.lit (i := 5) hSY3.out rfl hZY3.out)
                have hrY4 : Below B0 Y3 Y4 := by rw [hY4]; exact (Below.refl B0 Y3).alloc hZY3.out _
                have hZY4 : Hid (B0 ≤ Y4.heap.size) := Lib.hid (Nat.le_trans hZY3.out (by rw [hY4]; simp))
                have hPY4 : Hid (Below B0 wd Y4) := Lib.hid ((hPY3.out).trans hrY4)
                rw [← hY4, hq28]
                replace hY4 := Lib.hid hY4
                replace hq28 := Lib.hid hq28
                refine hK _ _ (fun _ => hrY4) ?_
                clear hK K
                clear hrY4
                try simp only [Act.put, List.setIfInBounds_toArray, List.set_cons_zero, List.set_cons_succ]
                refine wpR_one 19 rfl (by kernel_rfl) (by kernel_rfl) (fun K hK => ?_)
                refine wp_ownS (.tmp 33) (.tmp 41) rfl hSY4.out 1 4 ds (ld) (some ⟨q18, 0, none⟩) (sV x.1.2) rfl rfl rfl rfl rfl hld.out hZY4.out ?_
                intro v19 Y5 hSY5 hgY5
                have hrY5 : Below B0 Y4 Y5 := (Below.refl B0 Y4).grown hgY5 hZY4.out (fun j hj => (World.ownsRow.lt (hSY4.out.1 1 _ rfl) j hj).1)
                have hZY5 : Hid (B0 ≤ Y5.heap.size) := Lib.hid (Nat.le_trans hZY4.out hgY5.size)
                replace hSY5 : Hid (Own B0 ([(9, v9, lk ++ [sV x.1.1]), (9, v19, ld ++ [sV x.1.2]), (3, ws, lw), (9, .slice (some ⟨q8, 0, none⟩) 1 1, [sV x.1.1]), (9, .slice (some ⟨q18, 0, none⟩) 1 1, [sV x.1.2]), (3, .slice (some ⟨q28, 0, none⟩) 1 1, [iV x.2])] : List Rw) Y5) := Lib.hid hSY5
                have hPY5 : Hid (Below B0 wd Y5) := Lib.hid ((hPY4.out).trans hrY5)
                refine hK _ _ (fun _ => hrY5) ?_
                clear hK K
                clear hrY5 hgY5
                try simp only [Act.put, List.setIfInBounds_toArray, List.set_cons_zero, List.set_cons_succ]
                refine wpR_one 29 rfl (by kernel_rfl) (by kernel_rfl) (fun K hK => ?_)
                refine wp_ownI (.tmp 43) (.tmp 51) rfl hSY5.out 2 5 ws (lw) (some ⟨q28, 0, none⟩) (iV x.2) rfl rfl rfl rfl rfl hlw.out hZY5.out ?_
                intro v29 Y6 hSY6 hgY6
                have hrY6 : Below B0 Y5 Y6 := (Below.refl B0 Y5).grown hgY6 hZY5.out (fun j hj => (World.ownsRow.lt (hSY5.out.1 2 _ rfl) j hj).1)
                have hZY6 : Hid (B0 ≤ Y6.heap.size) := Lib.hid (Nat.le_trans hZY5.out hgY6.size)
                replace hSY6 : Hid (Own B0 ([(9, v9, lk ++ [sV x.1.1]), (9, v19, ld ++ [sV x.1.2]), (3, v29, lw ++ [iV x.2]), (9, .slice (some ⟨q8, 0, none⟩) 1 1, [sV x.1.1]), (9, .slice (some ⟨q18, 0, none⟩) 1 1, [sV x.1.2]), (3, .slice (some ⟨q28, 0, none⟩) 1 1, [iV x.2])] : List Rw) Y6) := Lib.hid hSY6
                have hPY6 : Hid (Below B0 wd Y6) := Lib.hid ((hPY5.out).trans hrY6)
                refine hK _ _ (fun _ => hrY6) ?_
                clear hK K
                clear hrY6 hgY6
                try simp only [Act.put, List.setIfInBounds_toArray, List.set_cons_zero, List.set_cons_succ]
                refine wpR_take (i := 30) (v := ?_) (⟨fun x => Below.refl _ x, fun h1 h2 => h1.trans h2⟩) (some 4) rfl (by kernel_rfl) (by kernel_rfl) (by kernel_rfl) (by kernel_rfl) (by kernel_rfl) (fun _ _ _ h => h) (by kernel_rfl) (fun w' hw' => ?_) ?_
                rotate_left
                · go_simp; with_reducible rfl
                simp only [Act.put, List.setIfInBounds_toArray, List.set_cons_zero, List.set_cons_succ]
                refine wpR_take (i := 31) (v := ?_) (⟨fun x => Below.refl _ x, fun h1 h2 => h1.trans h2⟩) (some 5) rfl (by kernel_rfl) (by kernel_rfl) (by kernel_rfl) (by kernel_rfl) (by kernel_rfl) (fun _ _ _ h => h) (by kernel_rfl) (fun w' hw' => ?_) ?_
                rotate_left
                · go_simp; with_reducible rfl
                simp only [Act.put, List.setIfInBounds_toArray, List.set_cons_zero, List.set_cons_succ]
                refine wpR_take (i := 32) (v := ?_) (⟨fun x => Below.refl _ x, fun h1 h2 => h1.trans h2⟩) (some 6) rfl (by kernel_rfl) (by kernel_rfl) (by kernel_rfl) (by kernel_rfl) (by kernel_rfl) (fun _ _ _ h => h) (by kernel_rfl) (fun w' hw' => ?_) ?_
                rotate_left
                · go_simp; with_reducible rfl
                simp only [Act.put, List.setIfInBounds_toArray, List.set_cons_zero, List.set_cons_succ]
                refine wpR_done (by kernel_rfl) ?_ _
                go_wp2_with fail
                go_roundw
                case rel => exact ⟨i + 1, _, _, _, rfl, rfl, rfl, by go_num, by omega, Lib.hid (rows_cut hx.out hat.out hlke.out hlde.out hlwe.out hSY6.out), Lib.hid (hgr.out.trans hPY6.out)⟩
                case measure => simp [intOf]; omega
            · go_simp
              obtain ⟨q28, hq28⟩ : ∃ q28, Y2.heap.size = q28 := ⟨_, rfl⟩
              obtain ⟨Y3, hY3⟩ : ∃ Y3, Y3 = Y2.alloc (.cells #[.int .i64 x.2] 3) := ⟨_, rfl⟩
              have hSY3 : Hid (Own B0 ([(9, v9, lk ++ [sV x.1.1]), (9, ds, ld), (3, ws, lw), (9, .slice (some ⟨q8, 0, none⟩) 1 1, [sV x.1.1]), (9, .slice none 0 0, []), (3, .slice (some ⟨q28, 0, none⟩) 1 1, [iV x.2])] : List Rw) Y3) := Lib.hid (by rw [hY3, ← hq28]; exact Own.lit (i := 5) hSY2.out rfl hZY2.out)
              have hrY3 : Below B0 Y2 Y3 := by rw [hY3]; exact (Below.refl B0 Y2).alloc hZY2.out _
              have hZY3 : Hid (B0 ≤ Y3.heap.size) := Lib.hid (Nat.le_trans hZY2.out (by rw [hY3]; simp))
              have hPY3 : Hid (Below B0 wd Y3) := Lib.hid ((hPY2.out).trans hrY3)
              rw [← hY3, hq28]
              replace hY3 := Lib.hid hY3
              replace hq28 := Lib.hid hq28
              refine hK _ _ (fun _ => hrY3) ?_
              clear hK K
              clear hrY3
              try simp only [Act.put, List.setIfInBounds_toArray, List.set_cons_zero, List.set_cons_succ]
              refine wpR_one 18 rfl (by kernel_rfl) (by kernel_rfl) (fun K hK => ?_)
              go_simp
              obtain ⟨q18, hq18⟩ : ∃ q18, Y3.heap.size = q18 := ⟨_, rfl⟩
              obtain ⟨Y4, hY4⟩ : ∃ Y4, Y4 = Y3.alloc (.cells #[.string (bs x.1.2)] 9) := ⟨_, rfl⟩
              have hSY4 : Hid (Own B0 ([(9, v9, lk ++ [sV x.1.1]), (9, ds, ld), (3, ws, lw), (9, .slice (some ⟨q8, 0, none⟩) 1 1, [sV x.1.1]), (9, .slice (some ⟨q18, 0, none⟩) 1 1, [sV x.1.2]), (3, .slice (some ⟨q28, 0, none⟩) 1 1, [iV x.2])] : List Rw) Y4) := Lib.hid (by rw [hY4, ← hq18]; exact Own.lit (i := 4) hSY3.out rfl hZY3.out)
              have hrY4 : Below B0 Y3 Y4 := by rw [hY4]; exact (Below.refl B0 Y3).alloc hZY3.out _
              have hZY4 : Hid (B0 ≤ Y4.heap.size) := Lib.hid (Nat.le_trans hZY3.out (by rw [hY4]; simp))
              have hPY4 : Hid (Below B0 wd Y4) := Lib.hid ((hPY3.out).trans hrY4)
              rw [← hY4, hq18]
              replace hY4 := Lib.hid hY4
              replace hq18 := Lib.hid hq18
              refine hK _ _ (fun _ => hrY4) ?_
              clear hK K
              clear hrY4
              try simp only [Act.put, List.setIfInBounds_toArray, List.set_cons_zero, List.set_cons_succ]
              refine wpR_one 19 rfl (by kernel_rfl) (by kernel_rfl) (fun K hK => ?_)
              refine wp_ownS (.tmp 33) (.tmp 41) rfl hSY4.out 1 4 ds (ld) (some ⟨q18, 0, none⟩) (sV x.1.2) rfl rfl rfl rfl rfl hld.out hZY4.out ?_
              intro v19 Y5 hSY5 hgY5
              have hrY5 : Below B0 Y4 Y5 := (Below.refl B0 Y4).grown hgY5 hZY4.out (fun j hj => (World.ownsRow.lt (hSY4.out.1 1 _ rfl) j hj).1)
              have hZY5 : Hid (B0 ≤ Y5.heap.size) := Lib.hid (Nat.le_trans hZY4.out hgY5.size)
              replace hSY5 : Hid (Own B0 ([(9, v9, lk ++ [sV x.1.1]), (9, v19, ld ++ [sV x.1.2]), (3, ws, lw), (9, .slice (some ⟨q8, 0, none⟩) 1 1, [sV x.1.1]), (9, .slice (some ⟨q18, 0, none⟩) 1 1, [sV x.1.2]), (3, .slice (some ⟨q28, 0, none⟩) 1 1, [iV x.2])] : List Rw) Y5) := Lib.hid hSY5
              have hPY5 : Hid (Below B0 wd Y5) := Lib.hid ((hPY4.out).trans hrY5)
              refine hK _ _ (fun _ => hrY5) ?_
              clear hK K
              clear hrY5 hgY5
              try simp only [Act.put, List.setIfInBounds_toArray, List.set_cons_zero, List.set_cons_succ]
              refine wpR_one 29 rfl (by kernel_rfl) (by kernel_rfl) (fun K hK => ?_)
              refine wp_ownI (.tmp 43) (.tmp 51) rfl hSY5.out 2 5 ws (lw) (some ⟨q28, 0, none⟩) (iV x.2) rfl rfl rfl rfl rfl hlw.out hZY5.out ?_
              intro v29 Y6 hSY6 hgY6
              have hrY6 : Below B0 Y5 Y6 := (Below.refl B0 Y5).grown hgY6 hZY5.out (fun j hj => (World.ownsRow.lt (hSY5.out.1 2 _ rfl) j hj).1)
              have hZY6 : Hid (B0 ≤ Y6.heap.size) := Lib.hid (Nat.le_trans hZY5.out hgY6.size)
              replace hSY6 : Hid (Own B0 ([(9, v9, lk ++ [sV x.1.1]), (9, v19, ld ++ [sV x.1.2]), (3, v29, lw ++ [iV x.2]), (9, .slice (some ⟨q8, 0, none⟩) 1 1, [sV x.1.1]), (9, .slice (some ⟨q18, 0, none⟩) 1 1, [sV x.1.2]), (3, .slice (some ⟨q28, 0, none⟩) 1 1, [iV x.2])] : List Rw) Y6) := Lib.hid hSY6
              have hPY6 : Hid (Below B0 wd Y6) := Lib.hid ((hPY5.out).trans hrY6)
              refine hK _ _ (fun _ => hrY6) ?_
              clear hK K
              clear hrY6 hgY6
              try simp only [Act.put, List.setIfInBounds_toArray, List.set_cons_zero, List.set_cons_succ]
              refine wpR_take (i := 30) (v := ?_) (⟨fun x => Below.refl _ x, fun h1 h2 => h1.trans h2⟩) (some 4) rfl (by kernel_rfl) (by kernel_rfl) (by kernel_rfl) (by kernel_rfl) (by kernel_rfl) (fun _ _ _ h => h) (by kernel_rfl) (fun w' hw' => ?_) ?_
              rotate_left
              · go_simp; with_reducible rfl
              simp only [Act.put, List.setIfInBounds_toArray, List.set_cons_zero, List.set_cons_succ]
              refine wpR_take (i := 31) (v := ?_) (⟨fun x => Below.refl _ x, fun h1 h2 => h1.trans h2⟩) (some 5) rfl (by kernel_rfl) (by kernel_rfl) (by kernel_rfl) (by kernel_rfl) (by kernel_rfl) (fun _ _ _ h => h) (by kernel_rfl) (fun w' hw' => ?_) ?_
              rotate_left
              · go_simp; with_reducible rfl
              simp only [Act.put, List.setIfInBounds_toArray, List.set_cons_zero, List.set_cons_succ]
              refine wpR_take (i := 32) (v := ?_) (⟨fun x => Below.refl _ x, fun h1 h2 => h1.trans h2⟩) (some 6) rfl (by kernel_rfl) (by kernel_rfl) (by kernel_rfl) (by kernel_rfl) (by kernel_rfl) (fun _ _ _ h => h) (by kernel_rfl) (fun w' hw' => ?_) ?_
              rotate_left
              · go_simp; with_reducible rfl
              simp only [Act.put, List.setIfInBounds_toArray, List.set_cons_zero, List.set_cons_succ]
              refine wpR_done (by kernel_rfl) ?_ _
              go_wp2_with fail
              go_roundw
              case rel => exact ⟨i + 1, _, _, _, rfl, rfl, rfl, by go_num, by omega, Lib.hid (rows_cut hx.out hat.out hlke.out hlde.out hlwe.out hSY6.out), Lib.hid (hgr.out.trans hPY6.out)⟩
              case measure => simp [intOf]; omega
          · go_simp
            obtain ⟨q18, hq18⟩ : ∃ q18, Y1.heap.size = q18 := ⟨_, rfl⟩
            obtain ⟨Y2, hY2⟩ : ∃ Y2, Y2 = Y1.alloc (.cells #[.string (bs x.1.2)] 9) := ⟨_, rfl⟩
            have hSY2 : Hid (Own B0 ([(9, ks, lk), (9, ds, ld), (3, ws, lw), (9, .slice (some ⟨q8, 0, none⟩) 1 1, [sV x.1.1]), (9, .slice (some ⟨q18, 0, none⟩) 1 1, [sV x.1.2]), (3, .slice none 0 0, [])] : List Rw) Y2) := Lib.hid (by rw [hY2, ← hq18]; exact Own.lit (i := 4) hSY1.out rfl hZY1.out)
            have hrY2 : Below B0 Y1 Y2 := by rw [hY2]; exact (Below.refl B0 Y1).alloc hZY1.out _
            have hZY2 : Hid (B0 ≤ Y2.heap.size) := Lib.hid (Nat.le_trans hZY1.out (by rw [hY2]; simp))
            have hPY2 : Hid (Below B0 wd Y2) := Lib.hid ((hPY1.out).trans hrY2)
            rw [← hY2, hq18]
            replace hY2 := Lib.hid hY2
            replace hq18 := Lib.hid hq18
            refine hK _ _ (fun _ => hrY2) ?_
            clear hK K
            clear hrY2
            try simp only [Act.put, List.setIfInBounds_toArray, List.set_cons_zero, List.set_cons_succ]
            refine wpR_two 9 28 rfl rfl (by kernel_rfl) (by kernel_rfl) (by kernel_rfl) (fun K hK => ?_) (fun K hK => ?_)
            · refine wp_ownS (.tmp 23) (.tmp 31) rfl hSY2.out 0 3 ks (lk) (some ⟨q8, 0, none⟩) (sV x.1.1) rfl rfl rfl rfl rfl hlk.out hZY2.out ?_
              intro v9 Y3 hSY3 hgY3
              have hrY3 : Below B0 Y2 Y3 := (Below.refl B0 Y2).grown hgY3 hZY2.out (fun j hj => (World.ownsRow.lt (hSY2.out.1 0 _ rfl) j hj).1)
              have hZY3 : Hid (B0 ≤ Y3.heap.size) := Lib.hid (Nat.le_trans hZY2.out hgY3.size)
              replace hSY3 : Hid (Own B0 ([(9, v9, lk ++ [sV x.1.1]), (9, ds, ld), (3, ws, lw), (9, .slice (some ⟨q8, 0, none⟩) 1 1, [sV x.1.1]), (9, .slice (some ⟨q18, 0, none⟩) 1 1, [sV x.1.2]), (3, .slice none 0 0, [])] : List Rw) Y3) := Lib.hid hSY3
              have hPY3 : Hid (Below B0 wd Y3) := Lib.hid ((hPY2.out).trans hrY3)
              refine hK _ _ (fun _ => hrY3) ?_
              clear hK K
              clear hrY3 hgY3
              try simp only [Act.put, List.setIfInBounds_toArray, List.set_cons_zero, List.set_cons_succ]
              refine wpR_two 19 28 rfl rfl (by kernel_rfl) (by kernel_rfl) (by kernel_rfl) (fun K hK => ?_) (fun K hK => ?_)
              · refine wp_ownS (.tmp 33) (.tmp 41) rfl hSY3.out 1 4 ds (ld) (some ⟨q18, 0, none⟩) (sV x.1.2) rfl rfl rfl rfl rfl hld.out hZY3.out ?_
                intro v19 Y4 hSY4 hgY4
                have hrY4 : Below B0 Y3 Y4 := (Below.refl B0 Y3).grown hgY4 hZY3.out (fun j hj => (World.ownsRow.lt (hSY3.out.1 1 _ rfl) j hj).1)
                have hZY4 : Hid (B0 ≤ Y4.heap.size) := Lib.hid (Nat.le_trans hZY3.out hgY4.size)
                replace hSY4 : Hid (Own B0 ([(9, v9, lk ++ [sV x.1.1]), (9, v19, ld ++ [sV x.1.2]), (3, ws, lw), (9, .slice (some ⟨q8, 0, none⟩) 1 1, [sV x.1.1]), (9, .slice (some ⟨q18, 0, none⟩) 1 1, [sV x.1.2]), (3, .slice none 0 0, [])] : List Rw) Y4) := Lib.hid hSY4
                have hPY4 : Hid (Below B0 wd Y4) := Lib.hid ((hPY3.out).trans hrY4)
                refine hK _ _ (fun _ => hrY4) ?_
                clear hK K
                clear hrY4 hgY4
                try simp only [Act.put, List.setIfInBounds_toArray, List.set_cons_zero, List.set_cons_succ]
                refine wpR_one 28 rfl (by kernel_rfl) (by kernel_rfl) (fun K hK => ?_)
                go_simp
                obtain ⟨q28, hq28⟩ : ∃ q28, Y4.heap.size = q28 := ⟨_, rfl⟩
                obtain ⟨Y5, hY5⟩ : ∃ Y5, Y5 = Y4.alloc (.cells #[.int .i64 x.2] 3) := ⟨_, rfl⟩
                have hSY5 : Hid (Own B0 ([(9, v9, lk ++ [sV x.1.1]), (9, v19, ld ++ [sV x.1.2]), (3, ws, lw), (9, .slice (some ⟨q8, 0, none⟩) 1 1, [sV x.1.1]), (9, .slice (some ⟨q18, 0, none⟩) 1 1, [sV x.1.2]), (3, .slice (some ⟨q28, 0, none⟩) 1 1, [iV x.2])] : List Rw) Y5) := Lib.hid (by rw [hY5, ← hq28]; exact Own.lit (i := 5) hSY4.out rfl hZY4.out)
                have hrY5 : Below B0 Y4 Y5 := by rw [hY5]; exact (Below.refl B0 Y4).alloc hZY4.out _
                have hZY5 : Hid (B0 ≤ Y5.heap.size) := Lib.hid (Nat.le_trans hZY4.out (by rw [hY5]; simp))
                have hPY5 : Hid (Below B0 wd Y5) := Lib.hid ((hPY4.out).trans hrY5)
                rw [← hY5, hq28]
                replace hY5 := Lib.hid hY5
                replace hq28 := Lib.hid hq28
                refine hK _ _ (fun _ => hrY5) ?_
                clear hK K
                clear hrY5
                try simp only [Act.put, List.setIfInBounds_toArray, List.set_cons_zero, List.set_cons_succ]
                refine wpR_one 29 rfl (by kernel_rfl) (by kernel_rfl) (fun K hK => ?_)
                refine wp_ownI (.tmp 43) (.tmp 51) rfl hSY5.out 2 5 ws (lw) (some ⟨q28, 0, none⟩) (iV x.2) rfl rfl rfl rfl rfl hlw.out hZY5.out ?_
                intro v29 Y6 hSY6 hgY6
                have hrY6 : Below B0 Y5 Y6 := (Below.refl B0 Y5).grown hgY6 hZY5.out (fun j hj => (World.ownsRow.lt (hSY5.out.1 2 _ rfl) j hj).1)
                have hZY6 : Hid (B0 ≤ Y6.heap.size) := Lib.hid (Nat.le_trans hZY5.out hgY6.size)
                replace hSY6 : Hid (Own B0 ([(9, v9, lk ++ [sV x.1.1]), (9, v19, ld ++ [sV x.1.2]), (3, v29, lw ++ [iV x.2]), (9, .slice (some ⟨q8, 0, none⟩) 1 1, [sV x.1.1]), (9, .slice (some ⟨q18, 0, none⟩) 1 1, [sV x.1.2]), (3, .slice (some ⟨q28, 0, none⟩) 1 1, [iV x.2])] : List Rw) Y6) := Lib.hid hSY6
                have hPY6 : Hid (Below B0 wd Y6) := Lib.hid ((hPY5.out).trans hrY6)
                refine hK _ _ (fun _ => hrY6) ?_
                clear hK K
                clear hrY6 hgY6
                try simp only [Act.put, List.setIfInBounds_toArray, List.set_cons_zero, List.set_cons_succ]
                refine wpR_take (i := 30) (v := ?_) (⟨fun x => Below.refl _ x, fun h1 h2 => h1.trans h2⟩) (some 4) rfl (by kernel_rfl) (by kernel_rfl) (by kernel_rfl) (by kernel_rfl) (by kernel_rfl) (fun _ _ _ h => h) (by kernel_rfl) (fun w' hw' => ?_) ?_
                rotate_left
                · go_simp; with_reducible rfl
                simp only [Act.put, List.setIfInBounds_toArray, List.set_cons_zero, List.set_cons_succ]
                refine wpR_take (i := 31) (v := ?_) (⟨fun x => Below.refl _ x, fun h1 h2 => h1.trans h2⟩) (some 5) rfl (by kernel_rfl) (by kernel_rfl) (by kernel_rfl) (by kernel_rfl) (by kernel_rfl) (fun _ _ _ h => h) (by kernel_rfl) (fun w' hw' => ?_) ?_
                rotate_left
                · go_simp; with_reducible rfl
                simp only [Act.put, List.setIfInBounds_toArray, List.set_cons_zero, List.set_cons_succ]
                refine wpR_take (i := 32) (v := ?_) (⟨fun x => Below.refl _ x, fun h1 h2 => h1.trans h2⟩) (some 6) rfl (by kernel_rfl) (by kernel_rfl) (by kernel_rfl) (by kernel_rfl) (by kernel_rfl) (fun _ _ _ h => h) (by kernel_rfl) (fun w' hw' => ?_) ?_
                rotate_left
                · go_simp; with_reducible rfl
                simp only [Act.put, List.setIfInBounds_toArray, List.set_cons_zero, List.set_cons_succ]
                refine wpR_done (by kernel_rfl) ?_ _
                go_wp2_with fail
                go_roundw
                case rel => exact ⟨i + 1, _, _, _, rfl, rfl, rfl, by go_num, by omega, Lib.hid (rows_cut hx.out hat.out hlke.out hlde.out hlwe.out hSY6.out), Lib.hid (hgr.out.trans hPY6.out)⟩
                case measure => simp [intOf]; omega
              · go_simp
                obtain ⟨q28, hq28⟩ : ∃ q28, Y3.heap.size = q28 := ⟨_, rfl⟩
                obtain ⟨Y4, hY4⟩ : ∃ Y4, Y4 = Y3.alloc (.cells #[.int .i64 x.2] 3) := ⟨_, rfl⟩
                have hSY4 : Hid (Own B0 ([(9, v9, lk ++ [sV x.1.1]), (9, ds, ld), (3, ws, lw), (9, .slice (some ⟨q8, 0, none⟩) 1 1, [sV x.1.1]), (9, .slice (some ⟨q18, 0, none⟩) 1 1, [sV x.1.2]), (3, .slice (some ⟨q28, 0, none⟩) 1 1, [iV x.2])] : List Rw) Y4) := Lib.hid (by rw [hY4, ← hq28]; exact Own.lit (i := 5) hSY3.out rfl hZY3.out)
                have hrY4 : Below B0 Y3 Y4 := by rw [hY4]; exact (Below.refl B0 Y3).alloc hZY3.out _
                have hZY4 : Hid (B0 ≤ Y4.heap.size) := Lib.hid (Nat.le_trans hZY3.out (by rw [hY4]; simp))
                have hPY4 : Hid (Below B0 wd Y4) := Lib.hid ((hPY3.out).trans hrY4)
                rw [← hY4, hq28]
                replace hY4 := Lib.hid hY4
                replace hq28 := Lib.hid hq28
                refine hK _ _ (fun _ => hrY4) ?_
                clear hK K
                clear hrY4
                try simp only [Act.put, List.setIfInBounds_toArray, List.set_cons_zero, List.set_cons_succ]
                refine wpR_one 19 rfl (by kernel_rfl) (by kernel_rfl) (fun K hK => ?_)
                refine wp_ownS (.tmp 33) (.tmp 41) rfl hSY4.out 1 4 ds (ld) (some ⟨q18, 0, none⟩) (sV x.1.2) rfl rfl rfl rfl rfl hld.out hZY4.out ?_
                intro v19 Y5 hSY5 hgY5
                have hrY5 : Below B0 Y4 Y5 := (Below.refl B0 Y4).grown hgY5 hZY4.out (fun j hj => (World.ownsRow.lt (hSY4.out.1 1 _ rfl) j hj).1)
                have hZY5 : Hid (B0 ≤ Y5.heap.size) := Lib.hid (Nat.le_trans hZY4.out hgY5.size)
                replace hSY5 : Hid (Own B0 ([(9, v9, lk ++ [sV x.1.1]), (9, v19, ld ++ [sV x.1.2]), (3, ws, lw), (9, .slice (some ⟨q8, 0, none⟩) 1 1, [sV x.1.1]), (9, .slice (some ⟨q18, 0, none⟩) 1 1, [sV x.1.2]), (3, .slice (some ⟨q28, 0, none⟩) 1 1, [iV x.2])] : List Rw) Y5) := Lib.hid hSY5
                have hPY5 : Hid (Below B0 wd Y5) := Lib.hid ((hPY4.out).trans hrY5)
                refine hK _ _ (fun _ => hrY5) ?_
                clear hK K
                clear hrY5 hgY5
                try simp only [Act.put, List.setIfInBounds_toArray, List.set_cons_zero, List.set_cons_succ]
                refine wpR_one 29 rfl (by kernel_rfl) (by kernel_rfl) (fun K hK => ?_)
                refine wp_ownI (.tmp 43) (.tmp 51) rfl hSY5.out 2 5 ws (lw) (some ⟨q28, 0, none⟩) (iV x.2) rfl rfl rfl rfl rfl hlw.out hZY5.out ?_
                intro v29 Y6 hSY6 hgY6
                have hrY6 : Below B0 Y5 Y6 := (Below.refl B0 Y5).grown hgY6 hZY5.out (fun j hj => (World.ownsRow.lt (hSY5.out.1 2 _ rfl) j hj).1)
                have hZY6 : Hid (B0 ≤ Y6.heap.size) := Lib.hid (Nat.le_trans hZY5.out hgY6.size)
                replace hSY6 : Hid (Own B0 ([(9, v9, lk ++ [sV x.1.1]), (9, v19, ld ++ [sV x.1.2]), (3, v29, lw ++ [iV x.2]), (9, .slice (some ⟨q8, 0, none⟩) 1 1, [sV x.1.1]), (9, .slice (some ⟨q18, 0, none⟩) 1 1, [sV x.1.2]), (3, .slice (some ⟨q28, 0, none⟩) 1 1, [iV x.2])] : List Rw) Y6) := Lib.hid hSY6
                have hPY6 : Hid (Below B0 wd Y6) := Lib.hid ((hPY5.out).trans hrY6)
                refine hK _ _ (fun _ => hrY6) ?_
                clear hK K
                clear hrY6 hgY6
                try simp only [Act.put, List.setIfInBounds_toArray, List.set_cons_zero, List.set_cons_succ]
                refine wpR_take (i := 30) (v := ?_) (⟨fun x => Below.refl _ x, fun h1 h2 => h1.trans h2⟩) (some 4) rfl (by kernel_rfl) (by kernel_rfl) (by kernel_rfl) (by kernel_rfl) (by kernel_rfl) (fun _ _ _ h => h) (by kernel_rfl) (fun w' hw' => ?_) ?_
                rotate_left
                · go_simp; with_reducible rfl
                simp only [Act.put, List.setIfInBounds_toArray, List.set_cons_zero, List.set_cons_succ]
                refine wpR_take (i := 31) (v := ?_) (⟨fun x => Below.refl _ x, fun h1 h2 => h1.trans h2⟩) (some 5) rfl (by kernel_rfl) (by kernel_rfl) (by kernel_rfl) (by kernel_rfl) (by kernel_rfl) (fun _ _ _ h => h) (by kernel_rfl) (fun w' hw' => ?_) ?_
                rotate_left
                · go_simp; with_reducible rfl
                simp only [Act.put, List.setIfInBounds_toArray, List.set_cons_zero, List.set_cons_succ]
                refine wpR_take (i := 32) (v := ?_) (⟨fun x => Below.refl _ x, fun h1 h2 => h1.trans h2⟩) (some 6) rfl (by kernel_rfl) (by kernel_rfl) (by kernel_rfl) (by kernel_rfl) (by kernel_rfl) (fun _ _ _ h => h) (by kernel_rfl) (fun w' hw' => ?_) ?_
                rotate_left
                · go_simp; with_reducible rfl
                simp only [Act.put, List.setIfInBounds_toArray, List.set_cons_zero, List.set_cons_succ]
                refine wpR_done (by kernel_rfl) ?_ _
                go_wp2_with fail
                go_roundw
                case rel => exact ⟨i + 1, _, _, _, rfl, rfl, rfl, by go_num, by omega, Lib.hid (rows_cut hx.out hat.out hlke.out hlde.out hlwe.out hSY6.out), Lib.hid (hgr.out.trans hPY6.out)⟩
                case measure => simp [intOf]; omega
            · go_simp
              obtain ⟨q28, hq28⟩ : ∃ q28, Y2.heap.size = q28 := ⟨_, rfl⟩
              obtain ⟨Y3, hY3⟩ : ∃ Y3, Y3 = Y2.alloc (.cells #[.int .i64 x.2] 3) := ⟨_, rfl⟩
              have hSY3 : Hid (Own B0 ([(9, ks, lk), (9, ds, ld), (3, ws, lw), (9, .slice (some ⟨q8, 0, none⟩) 1 1, [sV x.1.1]), (9, .slice (some ⟨q18, 0, none⟩) 1 1, [sV x.1.2]), (3, .slice (some ⟨q28, 0, none⟩) 1 1, [iV x.2])] : List Rw) Y3) := Lib.hid (by rw [hY3, ← hq28]; exact Own.lit (i := 5) hSY2.out rfl hZY2.out)
              have hrY3 : Below B0 Y2 Y3 := by rw [hY3]; exact (Below.refl B0 Y2).alloc hZY2.out _
              have hZY3 : Hid (B0 ≤ Y3.heap.size) := Lib.hid (Nat.le_trans hZY2.out (by rw [hY3]; simp))
              have hPY3 : Hid (Below B0 wd Y3) := Lib.hid ((hPY2.out).trans hrY3)
              rw [← hY3, hq28]
              replace hY3 := Lib.hid hY3
              replace hq28 := Lib.hid hq28
              refine hK _ _ (fun _ => hrY3) ?_
              clear hK K
              clear hrY3
              try simp only [Act.put, List.setIfInBounds_toArray, List.set_cons_zero, List.set_cons_succ]
              refine wpR_one 9 rfl (by kernel_rfl) (by kernel_rfl) (fun K hK => ?_)
              refine wp_ownS (.tmp 23) (.tmp 31) rfl hSY3.out 0 3 ks (lk) (some ⟨q8, 0, none⟩) (sV x.1.1) rfl rfl rfl rfl rfl hlk.out hZY3.out ?_
              intro v9 Y4 hSY4 hgY4
              have hrY4 : Below B0 Y3 Y4 := (Below.refl B0 Y3).grown hgY4 hZY3.out (fun j hj => (World.ownsRow.lt (hSY3.out.1 0 _ rfl) j hj).1)
              have hZY4 : Hid (B0 ≤ Y4.heap.size) := Lib.hid (Nat.le_trans hZY3.out hgY4.size)
              replace hSY4 : Hid (Own B0 ([(9, v9, lk ++ [sV x.1.1]), (9, ds, ld), (3, ws, lw), (9, .slice (some ⟨q8, 0, none⟩) 1 1, [sV x.1.1]), (9, .slice (some ⟨q18, 0, none⟩) 1 1, [sV x.1.2]), (3, .slice (some ⟨q28, 0, none⟩) 1 1, [iV x.2])] : List Rw) Y4) := Lib.hid hSY4
              have hPY4 : Hid (Below B0 wd Y4) := Lib.hid ((hPY3.out).trans hrY4)
              refine hK _ _ (fun _ => hrY4) ?_
              clear hK K
              clear hrY4 hgY4
              try simp only [Act.put, List.setIfInBounds_toArray, List.set_cons_zero, List.set_cons_succ]
              refine wpR_one 19 rfl (by kernel_rfl) (by kernel_rfl) (fun K hK => ?_)
              refine wp_ownS (.tmp 33) (.tmp 41) rfl hSY4.out 1 4 ds (ld) (some ⟨q18, 0, none⟩) (sV x.1.2) rfl rfl rfl rfl rfl hld.out hZY4.out ?_
              intro v19 Y5 hSY5 hgY5
              have hrY5 : Below B0 Y4 Y5 := (Below.refl B0 Y4).grown hgY5 hZY4.out (fun j hj => (World.ownsRow.lt (hSY4.out.1 1 _ rfl) j hj).1)
              have hZY5 : Hid (B0 ≤ Y5.heap.size) := Lib.hid (Nat.le_trans hZY4.out hgY5.size)
              replace hSY5 : Hid (Own B0 ([(9, v9, lk ++ [sV x.1.1]), (9, v19, ld ++ [sV x.1.2]), (3, ws, lw), (9, .slice (some ⟨q8, 0, none⟩) 1 1, [sV x.1.1]), (9, .slice (some ⟨q18, 0, none⟩) 1 1, [sV x.1.2]), (3, .slice (some ⟨q28, 0, none⟩) 1 1, [iV x.2])] : List Rw) Y5) := Lib.hid hSY5
              have hPY5 : Hid (Below B0 wd Y5) := Lib.hid ((hPY4.out).trans hrY5)
              refine hK _ _ (fun _ => hrY5) ?_
              clear hK K
              clear hrY5 hgY5
              try simp only [Act.put, List.setIfInBounds_toArray, List.set_cons_zero, List.set_cons_succ]
              refine wpR_one 29 rfl (by kernel_rfl) (by kernel_rfl) (fun K hK => ?_)
              refine wp_ownI (.tmp 43) (.tmp 51) rfl hSY5.out 2 5 ws (lw) (some ⟨q28, 0, none⟩) (iV x.2) rfl rfl rfl rfl rfl hlw.out hZY5.out ?_
              intro v29 Y6 hSY6 hgY6
              have hrY6 : Below B0 Y5 Y6 := (Below.refl B0 Y5).grown hgY6 hZY5.out (fun j hj => (World.ownsRow.lt (hSY5.out.1 2 _ rfl) j hj).1)
              have hZY6 : Hid (B0 ≤ Y6.heap.size) := Lib.hid (Nat.le_trans hZY5.out hgY6.size)
              replace hSY6 : Hid (Own B0 ([(9, v9, lk ++ [sV x.1.1]), (9, v19, ld ++ [sV x.1.2]), (3, v29, lw ++ [iV x.2]), (9, .slice (some ⟨q8, 0, none⟩) 1 1, [sV x.1.1]), (9, .slice (some ⟨q18, 0, none⟩) 1 1, [sV x.1.2]), (3, .slice (some ⟨q28, 0, none⟩) 1 1, [iV x.2])] : List Rw) Y6) := Lib.hid hSY6
              have hPY6 : Hid (Below B0 wd Y6) := Lib.hid ((hPY5.out).trans hrY6)
              refine hK _ _ (fun _ => hrY6) ?_
              clear hK K
              clear hrY6 hgY6
              try simp only [Act.put, List.setIfInBounds_toArray, List.set_cons_zero, List.set_cons_succ]
              refine wpR_take (i := 30) (v := ?_) (⟨fun x => Below.refl _ x, fun h1 h2 => h1.trans h2⟩) (some 4) rfl (by kernel_rfl) (by kernel_rfl) (by kernel_rfl) (by kernel_rfl) (by kernel_rfl) (fun _ _ _ h => h) (by kernel_rfl) (fun w' hw' => ?_) ?_
              rotate_left
              · go_simp; with_reducible rfl
              simp only [Act.put, List.setIfInBounds_toArray, List.set_cons_zero, List.set_cons_succ]
              refine wpR_take (i := 31) (v := ?_) (⟨fun x => Below.refl _ x, fun h1 h2 => h1.trans h2⟩) (some 5) rfl (by kernel_rfl) (by kernel_rfl) (by kernel_rfl) (by kernel_rfl) (by kernel_rfl) (fun _ _ _ h => h) (by kernel_rfl) (fun w' hw' => ?_) ?_
              rotate_left
              · go_simp; with_reducible rfl
              simp only [Act.put, List.setIfInBounds_toArray, List.set_cons_zero, List.set_cons_succ]
              refine wpR_take (i := 32) (v := ?_) (⟨fun x => Below.refl _ x, fun h1 h2 => h1.trans h2⟩) (some 6) rfl (by kernel_rfl) (by kernel_rfl) (by kernel_rfl) (by kernel_rfl) (by kernel_rfl) (fun _ _ _ h => h) (by kernel_rfl) (fun w' hw' => ?_) ?_
              rotate_left
              · go_simp; with_reducible rfl
              simp only [Act.put, List.setIfInBounds_toArray, List.set_cons_zero, List.set_cons_succ]
              refine wpR_done (by kernel_rfl) ?_ _
              go_wp2_with fail
              go_roundw
              case rel => exact ⟨i + 1, _, _, _, rfl, rfl, rfl, by go_num, by omega, Lib.hid (rows_cut hx.out hat.out hlke.out hlde.out hlwe.out hSY6.out), Lib.hid (hgr.out.trans hPY6.out)⟩
              case measure => simp [intOf]; omega
          · go_simp
            obtain ⟨q28, hq28⟩ : ∃ q28, Y1.heap.size = q28 := ⟨_, rfl⟩
            obtain ⟨Y2, hY2⟩ : ∃ Y2, Y2 = Y1.alloc (.cells #[.int .i64 x.2] 3) := ⟨_, rfl⟩
            have hSY2 : Hid (Own B0 ([(9, ks, lk), (9, ds, ld), (3, ws, lw), (9, .slice (some ⟨q8, 0, none⟩) 1 1, [sV x.1.1]), (9, .slice none 0 0, []), (3, .slice (some ⟨q28, 0, none⟩) 1 1, [iV x.2])] : List Rw) Y2) := Lib.hid (by rw [hY2, ← hq28]; exact Own.lit (i := 5) hSY1.out rfl hZY1.out)
            have hrY2 : Below B0 Y1 Y2 := by rw [hY2]; exact (Below.refl B0 Y1).alloc hZY1.out _
            have hZY2 : Hid (B0 ≤ Y2.heap.size) := Lib.hid (Nat.le_trans hZY1.out (by rw [hY2]; simp))
            have hPY2 : Hid (Below B0 wd Y2) := Lib.hid ((hPY1.out).trans hrY2)
            rw [← hY2, hq28]
            replace hY2 := Lib.hid hY2
            replace hq28 := Lib.hid hq28
            refine hK _ _ (fun _ => hrY2) ?_
            clear hK K
            clear hrY2
            try simp only [Act.put, List.setIfInBounds_toArray, List.set_cons_zero, List.set_cons_succ]
            refine wpR_two 9 18 rfl rfl (by kernel_rfl) (by kernel_rfl) (by kernel_rfl) (fun K hK => ?_) (fun K hK => ?_)
            · refine wp_ownS (.tmp 23) (.tmp 31) rfl hSY2.out 0 3 ks (lk) (some ⟨q8, 0, none⟩) (sV x.1.1) rfl rfl rfl rfl rfl hlk.out hZY2.out ?_
              intro v9 Y3 hSY3 hgY3
              have hrY3 : Below B0 Y2 Y3 := (Below.refl B0 Y2).grown hgY3 hZY2.out (fun j hj => (World.ownsRow.lt (hSY2.out.1 0 _ rfl) j hj).1)
              have hZY3 : Hid (B0 ≤ Y3.heap.size) := Lib.hid (Nat.le_trans hZY2.out hgY3.size)
              replace hSY3 : Hid (Own B0 ([(9, v9, lk ++ [sV x.1.1]), (9, ds, ld), (3, ws, lw), (9, .slice (some ⟨q8, 0, none⟩) 1 1, [sV x.1.1]), (9, .slice none 0 0, []), (3, .slice (some ⟨q28, 0, none⟩) 1 1, [iV x.2])] : List Rw) Y3) := Lib.hid hSY3
              have hPY3 : Hid (Below B0 wd Y3) := Lib.hid ((hPY2.out).trans hrY3)
              refine hK _ _ (fun _ => hrY3) ?_
              clear hK K
              clear hrY3 hgY3
              try simp only [Act.put, List.setIfInBounds_toArray, List.set_cons_zero, List.set_cons_succ]
              refine wpR_one 18 rfl (by kernel_rfl) (by kernel_rfl) (fun K hK => ?_)
              go_simp
              obtain ⟨q18, hq18⟩ : ∃ q18, Y3.heap.size = q18 := ⟨_, rfl⟩
              obtain ⟨Y4, hY4⟩ : ∃ Y4, Y4 = Y3.alloc (.cells #[.string (bs x.1.2)] 9) := ⟨_, rfl⟩
              have hSY4 : Hid (Own B0 ([(9, v9, lk ++ [sV x.1.1]), (9, ds, ld), (3, ws, lw), (9, .slice (some ⟨q8, 0, none⟩) 1 1, [sV x.1.1]), (9, .slice (some ⟨q18, 0, none⟩) 1 1, [sV x.1.2]), (3, .slice (some ⟨q28, 0, none⟩) 1 1, [iV x.2])] : List Rw) Y4) := Lib.hid (by rw [hY4, ← hq18]; exact Own.lit (i := 4) hSY3.out rfl hZY3.out)
              have hrY4 : Below B0 Y3 Y4 := by rw [hY4]; exact (Below.refl B0 Y3).alloc hZY3.out _
              have hZY4 : Hid (B0 ≤ Y4.heap.size) := Lib.hid (Nat.le_trans hZY3.out (by rw [hY4]; simp))
              have hPY4 : Hid (Below B0 wd Y4) := Lib.hid ((hPY3.out).trans hrY4)
              rw [← hY4, hq18]
              replace hY4 := Lib.hid hY4
              replace hq18 := Lib.hid hq18
              refine hK _ _ (fun _ => hrY4) ?_
              clear hK K
              clear hrY4
              try simp only [Act.put, List.setIfInBounds_toArray, List.set_cons_zero, List.set_cons_succ]
              refine wpR_one 19 rfl (by kernel_rfl) (by kernel_rfl) (fun K hK => ?_)
              refine wp_ownS (.tmp 33) (.tmp 41) rfl hSY4.out 1 4 ds (ld) (some ⟨q18, 0, none⟩) (sV x.1.2) rfl rfl rfl rfl rfl hld.out hZY4.out ?_
              intro v19 Y5 hSY5 hgY5
              have hrY5 : Below B0 Y4 Y5 := (Below.refl B0 Y4).grown hgY5 hZY4.out (fun j hj => (World.ownsRow.lt (hSY4.out.1 1 _ rfl) j hj).1)
              have hZY5 : Hid (B0 ≤ Y5.heap.size) := Lib.hid (Nat.le_trans hZY4.out hgY5.size)
              replace hSY5 : Hid (Own B0 ([(9, v9, lk ++ [sV x.1.1]), (9, v19, ld ++ [sV x.1.2]), (3, ws, lw), (9, .slice (some ⟨q8, 0, none⟩) 1 1, [sV x.1.1]), (9, .slice (some ⟨q18, 0, none⟩) 1 1, [sV x.1.2]), (3, .slice (some ⟨q28, 0, none⟩) 1 1, [iV x.2])] : List Rw) Y5) := Lib.hid hSY5
              have hPY5 : Hid (Below B0 wd Y5) := Lib.hid ((hPY4.out).trans hrY5)
              refine hK _ _ (fun _ => hrY5) ?_
              clear hK K
              clear hrY5 hgY5
              try simp only [Act.put, List.setIfInBounds_toArray, List.set_cons_zero, List.set_cons_succ]
              refine wpR_one 29 rfl (by kernel_rfl) (by kernel_rfl) (fun K hK => ?_)
              refine wp_ownI (.tmp 43) (.tmp 51) rfl hSY5.out 2 5 ws (lw) (some ⟨q28, 0, none⟩) (iV x.2) rfl rfl rfl rfl rfl hlw.out hZY5.out ?_
              intro v29 Y6 hSY6 hgY6
              have hrY6 : Below B0 Y5 Y6 := (Below.refl B0 Y5).grown hgY6 hZY5.out (fun j hj => (World.ownsRow.lt (hSY5.out.1 2 _ rfl) j hj).1)
              have hZY6 : Hid (B0 ≤ Y6.heap.size) := Lib.hid (Nat.le_trans hZY5.out hgY6.size)
              replace hSY6 : Hid (Own B0 ([(9, v9, lk ++ [sV x.1.1]), (9, v19, ld ++ [sV x.1.2]), (3, v29, lw ++ [iV x.2]), (9, .slice (some ⟨q8, 0, none⟩) 1 1, [sV x.1.1]), (9, .slice (some ⟨q18, 0, none⟩) 1 1, [sV x.1.2]), (3, .slice (some ⟨q28, 0, none⟩) 1 1, [iV x.2])] : List Rw) Y6) := Lib.hid hSY6
              have hPY6 : Hid (Below B0 wd Y6) := Lib.hid ((hPY5.out).trans hrY6)
              refine hK _ _ (fun _ => hrY6) ?_
              clear hK K
              clear hrY6 hgY6
              try simp only [Act.put, List.setIfInBounds_toArray, List.set_cons_zero, List.set_cons_succ]
              refine wpR_take (i := 30) (v := ?_) (⟨fun x => Below.refl _ x, fun h1 h2 => h1.trans h2⟩) (some 4) rfl (by kernel_rfl) (by kernel_rfl) (by kernel_rfl) (by kernel_rfl) (by kernel_rfl) (fun _ _ _ h => h) (by kernel_rfl) (fun w' hw' => ?_) ?_
              rotate_left
              · go_simp; with_reducible rfl
              simp only [Act.put, List.setIfInBounds_toArray, List.set_cons_zero, List.set_cons_succ]
              refine wpR_take (i := 31) (v := ?_) (⟨fun x => Below.refl _ x, fun h1 h2 => h1.trans h2⟩) (some 5) rfl (by kernel_rfl) (by kernel_rfl) (by kernel_rfl) (by kernel_rfl) (by kernel_rfl) (fun _ _ _ h => h) (by kernel_rfl) (fun w' hw' => ?_) ?_
              rotate_left
              · go_simp; with_reducible rfl
              simp only [Act.put, List.setIfInBounds_toArray, List.set_cons_zero, List.set_cons_succ]
              refine wpR_take (i := 32) (v := ?_) (⟨fun x => Below.refl _ x, fun h1 h2 => h1.trans h2⟩) (some 6) rfl (by kernel_rfl) (by kernel_rfl) (by kernel_rfl) (by kernel_rfl) (by kernel_rfl) (fun _ _ _ h => h) (by kernel_rfl) (fun w' hw' => ?_) ?_
              rotate_left
              · go_simp; with_reducible rfl
              simp only [Act.put, List.setIfInBounds_toArray, List.set_cons_zero, List.set_cons_succ]
              refine wpR_done (by kernel_rfl) ?_ _
              go_wp2_with fail
              go_roundw
              case rel => exact ⟨i + 1, _, _, _, rfl, rfl, rfl, by go_num, by omega, Lib.hid (rows_cut hx.out hat.out hlke.out hlde.out hlwe.out hSY6.out), Lib.hid (hgr.out.trans hPY6.out)⟩
              case measure => simp [intOf]; omega
            · go_simp
              obtain ⟨q18, hq18⟩ : ∃ q18, Y2.heap.size = q18 := ⟨_, rfl⟩
              obtain ⟨Y3, hY3⟩ : ∃ Y3, Y3 = Y2.alloc (.cells #[.string (bs x.1.2)] 9) := ⟨_, rfl⟩
              have hSY3 : Hid (Own B0 ([(9, ks, lk), (9, ds, ld), (3, ws, lw), (9, .slice (some ⟨q8, 0, none⟩) 1 1, [sV x.1.1]), (9, .slice (some ⟨q18, 0, none⟩) 1 1, [sV x.1.2]), (3, .slice (some ⟨q28, 0, none⟩) 1 1, [iV x.2])] : List Rw) Y3) := Lib.hid (by rw [hY3, ← hq18]; exact Own.lit (i := 4) hSY2.out rfl hZY2.out)
              have hrY3 : Below B0 Y2 Y3 := by rw [hY3]; exact (Below.refl B0 Y2).alloc hZY2.out _
              have hZY3 : Hid (B0 ≤ Y3.heap.size) := Lib.hid (Nat.le_trans hZY2.out (by rw [hY3]; simp))
              have hPY3 : Hid (Below B0 wd Y3) := Lib.hid ((hPY2.out).trans hrY3)
              rw [← hY3, hq18]
              replace hY3 := Lib.hid hY3
              replace hq18 := Lib.hid hq18
              refine hK _ _ (fun _ => hrY3) ?_
              clear hK K
              clear hrY3
              try simp only [Act.put, List.setIfInBounds_toArray, List.set_cons_zero, List.set_cons_succ]
              refine wpR_one 9 rfl (by kernel_rfl) (by kernel_rfl) (fun K hK => ?_)
              refine wp_ownS (.tmp 23) (.tmp 31) rfl hSY3.out 0 3 ks (lk) (some ⟨q8, 0, none⟩) (sV x.1.1) rfl rfl rfl rfl rfl hlk.out hZY3.out ?_
              intro v9 Y4 hSY4 hgY4
              have hrY4 : Below B0 Y3 Y4 := (Below.refl B0 Y3).grown hgY4 hZY3.out (fun j hj => (World.ownsRow.lt (hSY3.out.1 0 _ rfl) j hj).1)
              have hZY4 : Hid (B0 ≤ Y4.heap.size) := Lib.hid (Nat.le_trans hZY3.out hgY4.size)
              replace hSY4 : Hid (Own B0 ([(9, v9, lk ++ [sV x.1.1]), (9, ds, ld), (3, ws, lw), (9, .slice (some ⟨q8, 0, none⟩) 1 1, [sV x.1.1]), (9, .slice (some ⟨q18, 0, none⟩) 1 1, [sV x.1.2]), (3, .slice (some ⟨q28, 0, none⟩) 1 1, [iV x.2])] : List Rw) Y4) := Lib.hid hSY4
              have hPY4 : Hid (Below B0 wd Y4) := Lib.hid ((hPY3.out).trans hrY4)
              refine hK _ _ (fun _ => hrY4) ?_
              clear hK K
              clear hrY4 hgY4
              try simp only [Act.put, List.setIfInBounds_toArray, List.set_cons_zero, List.set_cons_succ]
              refine wpR_one 19 rfl (by kernel_rfl) (by kernel_rfl) (fun K hK => ?_)
              refine wp_ownS (.tmp 33) (.tmp 41) rfl hSY4.out 1 4 ds (ld) (some ⟨q18, 0, none⟩) (sV x.1.2) rfl rfl rfl rfl rfl hld.out hZY4.out ?_
              intro v19 Y5 hSY5 hgY5
              have hrY5 : Below B0 Y4 Y5 := (Below.refl B0 Y4).grown hgY5 hZY4.out (fun j hj => (World.ownsRow.lt (hSY4.out.1 1 _ rfl) j hj).1)
              have hZY5 : Hid (B0 ≤ Y5.heap.size) := Lib.hid (Nat.le_trans hZY4.out hgY5.size)
              replace hSY5 : Hid (Own B0 ([(9, v9, lk ++ [sV x.1.1]), (9, v19, ld ++ [sV x.1.2]), (3, ws, lw), (9, .slice (some ⟨q8, 0, none⟩) 1 1, [sV x.1.1]), (9, .slice (some ⟨q18, 0, none⟩) 1 1, [sV x.1.2]), (3, .slice (some ⟨q28, 0, none⟩) 1 1, [iV x.2])] : List Rw) Y5) := Lib.hid hSY5
              have hPY5 : Hid (Below B0 wd Y5) := Lib.hid ((hPY4.out).trans hrY5)
              refine hK _ _ (fun _ => hrY5) ?_
              clear hK K
              clear hrY5 hgY5
              try simp only [Act.put, List.setIfInBounds_toArray, List.set_cons_zero, List.set_cons_succ]
              refine wpR_one 29 rfl (by kernel_rfl) (by kernel_rfl) (fun K hK => ?_)
              refine wp_ownI (.tmp 43) (.tmp 51) rfl hSY5.out 2 5 ws (lw) (some ⟨q28, 0, none⟩) (iV x.2) rfl rfl rfl rfl rfl hlw.out hZY5.out ?_
              intro v29 Y6 hSY6 hgY6
              have hrY6 : Below B0 Y5 Y6 := (Below.refl B0 Y5).grown hgY6 hZY5.out (fun j hj => (World.ownsRow.lt (hSY5.out.1 2 _ rfl) j hj).1)
              have hZY6 : Hid (B0 ≤ Y6.heap.size) := Lib.hid (Nat.le_trans hZY5.out hgY6.size)
              replace hSY6 : Hid (Own B0 ([(9, v9, lk ++ [sV x.1.1]), (9, v19, ld ++ [sV x.1.2]), (3, v29, lw ++ [iV x.2]), (9, .slice (some ⟨q8, 0, none⟩) 1 1, [sV x.1.1]), (9, .slice (some ⟨q18, 0, none⟩) 1 1, [sV x.1.2]), (3, .slice (some ⟨q28, 0, none⟩) 1 1, [iV x.2])] : List Rw) Y6) := Lib.hid hSY6
              have hPY6 : Hid (Below B0 wd Y6) := Lib.hid ((hPY5.out).trans hrY6)
              refine hK _ _ (fun _ => hrY6) ?_
              clear hK K
              clear hrY6 hgY6
              try simp only [Act.put, List.setIfInBounds_toArray, List.set_cons_zero, List.set_cons_succ]
              refine wpR_take (i := 30) (v := ?_) (⟨fun x => Below.refl _ x, fun h1 h2 => h1.trans h2⟩) (some 4) rfl (by kernel_rfl) (by kernel_rfl) (by kernel_rfl) (by kernel_rfl) (by kernel_rfl) (fun _ _ _ h => h) (by kernel_rfl) (fun w' hw' => ?_) ?_
              rotate_left
              · go_simp; with_reducible rfl
              simp only [Act.put, List.setIfInBounds_toArray, List.set_cons_zero, List.set_cons_succ]
              refine wpR_take (i := 31) (v := ?_) (⟨fun x => Below.refl _ x, fun h1 h2 => h1.trans h2⟩) (some 5) rfl (by kernel_rfl) (by kernel_rfl) (by kernel_rfl) (by kernel_rfl) (by kernel_rfl) (fun _ _ _ h => h) (by kernel_rfl) (fun w' hw' => ?_) ?_
              rotate_left
              · go_simp; with_reducible rfl
              simp only [Act.put, List.setIfInBounds_toArray, List.set_cons_zero, List.set_cons_succ]
              refine wpR_take (i := 32) (v := ?_) (⟨fun x => Below.refl _ x, fun h1 h2 => h1.trans h2⟩) (some 6) rfl (by kernel_rfl) (by kernel_rfl) (by kernel_rfl) (by kernel_rfl) (by kernel_rfl) (fun _ _ _ h => h) (by kernel_rfl) (fun w' hw' => ?_) ?_
              rotate_left
              · go_simp; with_reducible rfl
              simp only [Act.put, List.setIfInBounds_toArray, List.set_cons_zero, List.set_cons_succ]
              refine wpR_done (by kernel_rfl) ?_ _
              go_wp2_with fail
              go_roundw
              case rel => exact ⟨i + 1, _, _, _, rfl, rfl, rfl, by go_num, by omega, Lib.hid (rows_cut hx.out hat.out hlke.out hlde.out hlwe.out hSY6.out), Lib.hid (hgr.out.trans hPY6.out)⟩
              case measure => simp [intOf]; omega
        · go_simp
          obtain ⟨q18, hq18⟩ : ∃ q18, wd.heap.size = q18 := ⟨_, rfl⟩
          obtain ⟨Y1, hY1⟩ : ∃ Y1, Y1 = wd.alloc (.cells #[.string (bs x.1.2)] 9) := ⟨_, rfl⟩
          have hSY1 : Hid (Own B0 ([(9, ks, lk), (9, ds, ld), (3, ws, lw), (9, .slice none 0 0, []), (9, .slice (some ⟨q18, 0, none⟩) 1 1, [sV x.1.2]), (3, .slice none 0 0, [])] : List Rw) Y1) := Lib.hid (by rw [hY1, ← hq18]; exact Own.lit (i := 4) hSwd.out rfl hZwd.out)
          have hrY1 : Below B0 wd Y1 := by rw [hY1]; exact (Below.refl B0 wd).alloc hZwd.out _
          have hZY1 : Hid (B0 ≤ Y1.heap.size) := Lib.hid (Nat.le_trans hZwd.out (by rw [hY1]; simp))
          have hPY1 : Hid (Below B0 wd Y1) := Lib.hid (hrY1)
          rw [← hY1, hq18]
          replace hY1 := Lib.hid hY1
          replace hq18 := Lib.hid hq18
          refine hK _ _ (fun _ => hrY1) ?_
          clear hK K
          clear hrY1
          try simp only [Act.put, List.setIfInBounds_toArray, List.set_cons_zero, List.set_cons_succ]
          refine wpR_two 8 28 rfl rfl (by kernel_rfl) (by kernel_rfl) (by kernel_rfl) (fun K hK => ?_) (fun K hK => ?_)
          · go_simp
            obtain ⟨q8, hq8⟩ : ∃ q8, Y1.heap.size = q8 := ⟨_, rfl⟩
            obtain ⟨Y2, hY2⟩ : ∃ Y2, Y2 = Y1.alloc (.cells #[.string (bs x.1.1)] 9) := ⟨_, rfl⟩
            have hSY2 : Hid (Own B0 ([(9, ks, lk), (9, ds, ld), (3, ws, lw), (9, .slice (some ⟨q8, 0, none⟩) 1 1, [sV x.1.1]), (9, .slice (some ⟨q18, 0, none⟩) 1 1, [sV x.1.2]), (3, .slice none 0 0, [])] : List Rw) Y2) := Lib.hid (by rw [hY2, ← hq8]; exact Own.lit (i := 3) hSY1.out rfl hZY1.out)
            have hrY2 : Below B0 Y1 Y2 := by rw [hY2]; exact (Below.refl B0 Y1).alloc hZY1.out _
            have hZY2 : Hid (B0 ≤ Y2.heap.size) := Lib.hid (Nat.le_trans hZY1.out (by rw [hY2]; simp))
            have hPY2 : Hid (Below B0 wd Y2) := Lib.hid ((hPY1.out).trans hrY2)
            rw [← hY2, hq8]
            replace hY2 := Lib.hid hY2
            replace hq8 := Lib.hid hq8
            refine hK _ _ (fun _ => hrY2) ?_
            clear hK K
            clear hrY2
            try simp only [Act.put, List.setIfInBounds_toArray, List.set_cons_zero, List.set_cons_succ]
            refine wpR_two 9 28 rfl rfl (by kernel_rfl) (by kernel_rfl) (by kernel_rfl) (fun K hK => ?_) (fun K hK => ?_)
            · refine wp_ownS (.tmp 23) (.tmp 31) rfl hSY2.out 0 3 ks (lk) (some ⟨q8, 0, none⟩) (sV x.1.1) rfl rfl rfl rfl rfl hlk.out hZY2.out ?_
              intro v9 Y3 hSY3 hgY3
              have hrY3 : Below B0 Y2 Y3 := (Below.refl B0 Y2).grown hgY3 hZY2.out (fun j hj => (World.ownsRow.lt (hSY2.out.1 0 _ rfl) j hj).1)
              have hZY3 : Hid (B0 ≤ Y3.heap.size) := Lib.hid (Nat.le_trans hZY2.out hgY3.size)
              replace hSY3 : Hid (Own B0 ([(9, v9, lk ++ [sV x.1.1]), (9, ds, ld), (3, ws, lw), (9, .slice (some ⟨q8, 0, none⟩) 1 1, [sV x.1.1]), (9, .slice (some ⟨q18, 0, none⟩) 1 1, [sV x.1.2]), (3, .slice none 0 0, [])] : List Rw) Y3) := Lib.hid hSY3
              have hPY3 : Hid (Below B0 wd Y3) := Lib.hid ((hPY2.out).trans hrY3)
              refine hK _ _ (fun _ => hrY3) ?_
              clear hK K
              clear hrY3 hgY3
              try simp only [Act.put, List.setIfInBounds_toArray, List.set_cons_zero, List.set_cons_succ]
              refine wpR_two 19 28 rfl rfl (by kernel_rfl) (by kernel_rfl) (by kernel_rfl) (fun K hK => ?_) (fun K hK => ?_)
              · refine wp_ownS (.tmp 33) (.tmp 41) rfl hSY3.out 1 4 ds (ld) (some ⟨q18, 0, none⟩) (sV x.1.2) rfl rfl rfl rfl rfl hld.out hZY3.out ?_
                intro v19 Y4 hSY4 hgY4
                have hrY4 : Below B0 Y3 Y4 := (Below.refl B0 Y3).grown hgY4 hZY3.out (fun j hj => (World.ownsRow.lt (hSY3.out.1 1 _ rfl) j hj).1)
                have hZY4 : Hid (B0 ≤ Y4.heap.size) := Lib.hid (Nat.le_trans hZY3.out hgY4.size)
                replace hSY4 : Hid (Own B0 ([(9, v9, lk ++ [sV x.1.1]), (9, v19, ld ++ [sV x.1.2]), (3, ws, lw), (9, .slice (some ⟨q8, 0, none⟩) 1 1, [sV x.1.1]), (9, .slice (some ⟨q18, 0, none⟩) 1 1, [sV x.1.2]), (3, .slice none 0 0, [])] : List Rw) Y4) := Lib.hid hSY4
                have hPY4 : Hid (Below B0 wd Y4) := Lib.hid ((hPY3.out).trans hrY4)
                refine hK _ _ (fun _ => hrY4) ?_
                clear hK K
                clear hrY4 hgY4
                try simp only [Act.put, List.setIfInBounds_toArray, List.set_cons_zero, List.set_cons_succ]
                refine wpR_one 28 rfl (by kernel_rfl) (by kernel_rfl) (fun K hK => ?_)
                go_simp
                obtain ⟨q28, hq28⟩ : ∃ q28, Y4.heap.size = q28 := ⟨_, rfl⟩
                obtain ⟨Y5, hY5⟩ : ∃ Y5, Y5 = Y4.alloc (.cells #[.int .i64 x.2] 3) := ⟨_, rfl⟩
                have hSY5 : Hid (Own B0 ([(9, v9, lk ++ [sV x.1.1]), (9, v19, ld ++ [sV x.1.2]), (3, ws, lw), (9, .slice (some ⟨q8, 0, none⟩) 1 1, [sV x.1.1]), (9, .slice (some ⟨q18, 0, none⟩) 1 1, [sV x.1.2]), (3, .slice (some ⟨q28, 0, none⟩) 1 1, [iV x.2])] : List Rw) Y5) := Lib.hid (by rw [hY5, ← hq28]; exact Own.lit (i := 5) hSY4.out rfl hZY4.out)
                have hrY5 : Below B0 Y4 Y5 := by rw [hY5]; exact (Below.refl B0 Y4).alloc hZY4.out _
                have hZY5 : Hid (B0 ≤ Y5.heap.size) := Lib.hid (Nat.le_trans hZY4.out (by rw [hY5]; simp))
                have hPY5 : Hid (Below B0 wd Y5) := Lib.hid ((hPY4.out).trans hrY5)
                rw [← hY5, hq28]
                replace hY5 := Lib.hid hY5
                replace hq28 := Lib.hid hq28
                refine hK _ _ (fun _ => hrY5) ?_
                clear hK K
                clear hrY5
                try simp only [Act.put, List.setIfInBounds_toArray, List.set_cons_zero, List.set_cons_succ]
                refine wpR_one 29 rfl (by kernel_rfl) (by kernel_rfl) (fun K hK => ?_)
                refine wp_ownI (.tmp 43) (.tmp 51) rfl hSY5.out 2 5 ws (lw) (some ⟨q28, 0, none⟩) (iV x.2) rfl rfl rfl rfl rfl hlw.out hZY5.out ?_
                intro v29 Y6 hSY6 hgY6
                have hrY6 : Below B0 Y5 Y6 := (Below.refl B0 Y5).grown hgY6 hZY5.out (fun j hj => (World.ownsRow.lt (hSY5.out.1 2 _ rfl) j hj).1)
                have hZY6 : Hid (B0 ≤ Y6.heap.size) := Lib.hid (Nat.le_trans hZY5.out hgY6.size)
                replace hSY6 : Hid (Own B0 ([(9, v9, lk ++ [sV x.1.1]), (9, v19, ld ++ [sV x.1.2]), (3, v29, lw ++ [iV x.2]), (9, .slice (some ⟨q8, 0, none⟩) 1 1, [sV x.1.1]), (9, .slice (some ⟨q18, 0, none⟩) 1 1, [sV x.1.2]), (3, .slice (some ⟨q28, 0, none⟩) 1 1, [iV x.2])] : List Rw) Y6) := Lib.hid hSY6
                have hPY6 : Hid (Below B0 wd Y6) := Lib.hid ((hPY5.out).trans hrY6)
                refine hK _ _ (fun _ => hrY6) ?_
                clear hK K
                clear hrY6 hgY6
                try simp only [Act.put, List.setIfInBounds_toArray, List.set_cons_zero, List.set_cons_succ]
                refine wpR_take (i := 30) (v := ?_) (⟨fun x => Below.refl _ x, fun h1 h2 => h1.trans h2⟩) (some 4) rfl (by kernel_rfl) (by kernel_rfl) (by kernel_rfl) (by kernel_rfl) (by kernel_rfl) (fun _ _ _ h => h) (by kernel_rfl) (fun w' hw' => ?_) ?_
                rotate_left
                · go_simp; with_reducible rfl
                simp only [Act.put, List.setIfInBounds_toArray, List.set_cons_zero, List.set_cons_succ]
                refine wpR_take (i := 31) (v := ?_) (⟨fun x => Below.refl _ x, fun h1 h2 => h1.trans h2⟩) (some 5) rfl (by kernel_rfl) (by kernel_rfl) (by kernel_rfl) (by kernel_rfl) (by kernel_rfl) (fun _ _ _ h => h) (by kernel_rfl) (fun w' hw' => ?_) ?_
                rotate_left
                · go_simp; with_reducible rfl
                simp only [Act.put, List.setIfInBounds_toArray, List.set_cons_zero, List.set_cons_succ]
                refine wpR_take (i := 32) (v := ?_) (⟨fun x => Below.refl _ x, fun h1 h2 => h1.trans h2⟩) (some 6) rfl (by kernel_rfl) (by kernel_rfl) (by kernel_rfl) (by kernel_rfl) (by kernel_rfl) (fun _ _ _ h => h) (by kernel_rfl) (fun w' hw' => ?_) ?_
                rotate_left
                · go_simp; with_reducible rfl
                simp only [Act.put, List.setIfInBounds_toArray, List.set_cons_zero, List.set_cons_succ]
                refine wpR_done (by kernel_rfl) ?_ _
                go_wp2_with fail
                go_roundw
                case rel => exact ⟨i + 1, _, _, _, rfl, rfl, rfl, by go_num, by omega, Lib.hid (rows_cut hx.out hat.out hlke.out hlde.out hlwe.out hSY6.out), Lib.hid (hgr.out.trans hPY6.out)⟩
                case measure => simp [intOf]; omega
              · go_simp
                obtain ⟨q28, hq28⟩ : ∃ q28, Y3.heap.size = q28 := ⟨_, rfl⟩
                obtain ⟨Y4, hY4⟩ : ∃ Y4, Y4 = Y3.alloc (.cells #[.int .i64 x.2] 3) := ⟨_, rfl⟩
                have hSY4 : Hid (Own B0 ([(9, v9, lk ++ [sV x.1.1]), (9, ds, ld), (3, ws, lw), (9, .slice (some ⟨q8, 0, none⟩) 1 1, [sV x.1.1]), (9, .slice (some ⟨q18, 0, none⟩) 1 1, [sV x.1.2]), (3, .slice (some ⟨q28, 0, none⟩) 1 1, [iV x.2])] : List Rw) Y4) := Lib.hid (by rw [hY4, ← hq28]; exact Own.lit (i := 5) hSY3.out rfl hZY3.out)
                have hrY4 : Below B0 Y3 Y4 := by rw [hY4]; exact (Below.refl B0 Y3).alloc hZY3.out _
                have hZY4 : Hid (B0 ≤ Y4.heap.size) := Lib.hid (Nat.le_trans hZY3.out (by rw [hY4]; simp))
                have hPY4 : Hid (Below B0 wd Y4) := Lib.hid ((hPY3.out).trans hrY4)
                rw [← hY4, hq28]
                replace hY4 := Lib.hid hY4
                replace hq28 := Lib.hid hq28
                refine hK _ _ (fun _ => hrY4) ?_
                clear hK K
                clear hrY4
                try simp only [Act.put, List.setIfInBounds_toArray, List.set_cons_zero, List.set_cons_succ]
                refine wpR_one 19 rfl (by kernel_rfl) (by kernel_rfl) (fun K hK => ?_)
                refine wp_ownS (.tmp 33) (.tmp 41) rfl hSY4.out 1 4 ds (ld) (some ⟨q18, 0, none⟩) (sV x.1.2) rfl rfl rfl rfl rfl hld.out hZY4.out ?_
                intro v19 Y5 hSY5 hgY5
                have hrY5 : Below B0 Y4 Y5 := (Below.refl B0 Y4).grown hgY5 hZY4.out (fun j hj => (World.ownsRow.lt (hSY4.out.1 1 _ rfl) j hj).1)
                have hZY5 : Hid (B0 ≤ Y5.heap.size) := Lib.hid (Nat.le_trans hZY4.out hgY5.size)
                replace hSY5 : Hid (Own B0 ([(9, v9, lk ++ [sV x.1.1]), (9, v19, ld ++ [sV x.1.2]), (3, ws, lw), (9, .slice (some ⟨q8, 0, none⟩) 1 1, [sV x.1.1]), (9, .slice (some ⟨q18, 0, none⟩) 1 1, [sV x.1.2]), (3, .slice (some ⟨q28, 0, none⟩) 1 1, [iV x.2])] : List Rw) Y5) := Lib.hid hSY5
                have hPY5 : Hid (Below B0 wd Y5) := Lib.hid ((hPY4.out).trans hrY5)
                refine hK _ _ (fun _ => hrY5) ?_
                clear hK K
                clear hrY5 hgY5
                try simp only [Act.put, List.setIfInBounds_toArray, List.set_cons_zero, List.set_cons_succ]
                refine wpR_one 29 rfl (by kernel_rfl) (by kernel_rfl) (fun K hK => ?_)
                refine wp_ownI (.tmp 43) (.tmp 51) rfl hSY5.out 2 5 ws (lw) (some ⟨q28, 0, none⟩) (iV x.2) rfl rfl rfl rfl rfl hlw.out hZY5.out ?_
                intro v29 Y6 hSY6 hgY6
                have hrY6 : Below B0 Y5 Y6 := (Below.refl B0 Y5).grown hgY6 hZY5.out (fun j hj => (World.ownsRow.lt (hSY5.out.1 2 _ rfl) j hj).1)
                have hZY6 : Hid (B0 ≤ Y6.heap.size) := Lib.hid (Nat.le_trans hZY5.out hgY6.size)
                replace hSY6 : Hid (Own B0 ([(9, v9, lk ++ [sV x.1.1]), (9, v19, ld ++ [sV x.1.2]), (3, v29, lw ++ [iV x.2]), (9, .slice (some ⟨q8, 0, none⟩) 1 1, [sV x.1.1]), (9, .slice (some ⟨q18, 0, none⟩) 1 1, [sV x.1.2]), (3, .slice (some ⟨q28, 0, none⟩) 1 1, [iV x.2])] : List Rw) Y6) := Lib.hid hSY6
                have hPY6 : Hid (Below B0 wd Y6) := Lib.hid ((hPY5.out).trans hrY6)
                refine hK _ _ (fun _ => hrY6) ?_
                clear hK K
                clear hrY6 hgY6
                try simp only [Act.put, List.setIfInBounds_toArray, List.set_cons_zero, List.set_cons_succ]
                refine wpR_take (i := 30) (v := ?_) (⟨fun x => Below.refl _ x, fun h1 h2 => h1.trans h2⟩) (some 4) rfl (by kernel_rfl) (by kernel_rfl) (by kernel_rfl) (by kernel_rfl) (by kernel_rfl) (fun _ _ _ h => h) (by kernel_rfl) (fun w' hw' => ?_) ?_
                rotate_left
                · go_simp; with_reducible rfl
                simp only [Act.put, List.setIfInBounds_toArray, List.set_cons_zero, List.set_cons_succ]
                refine wpR_take (i := 31) (v := ?_) (⟨fun x => Below.refl _ x, fun h1 h2 => h1.trans h2⟩) (some 5) rfl (by kernel_rfl) (by kernel_rfl) (by kernel_rfl) (by kernel_rfl) (by kernel_rfl) (fun _ _ _ h => h) (by kernel_rfl) (fun w' hw' => ?_) ?_
                rotate_left
                · go_simp; with_reducible rfl
                simp only [Act.put, List.setIfInBounds_toArray, List.set_cons_zero, List.set_cons_succ]
                refine wpR_take (i := 32) (v := ?_) (⟨fun x => Below.refl _ x, fun h1 h2 => h1.trans h2⟩) (some 6) rfl (by kernel_rfl) (by kernel_rfl) (by kernel_rfl) (by kernel_rfl) (by kernel_rfl) (fun _ _ _ h => h) (by kernel_rfl) (fun w' hw' => ?_) ?_
                rotate_left
                · go_simp; with_reducible rfl
                simp only [Act.put, List.setIfInBounds_toArray, List.set_cons_zero, List.set_cons_succ]
                refine wpR_done (by kernel_rfl) ?_ _
                go_wp2_with fail
                go_roundw
                case rel => exact ⟨i + 1, _, _, _, rfl, rfl, rfl, by go_num, by omega, Lib.hid (rows_cut hx.out hat.out hlke.out hlde.out hlwe.out hSY6.out), Lib.hid (hgr.out.trans hPY6.out)⟩
                case measure => simp [intOf]; omega
            · go_simp
              obtain ⟨q28, hq28⟩ : ∃ q28, Y2.heap.size = q28 := ⟨_, rfl⟩
              obtain ⟨Y3, hY3⟩ : ∃ Y3, Y3 = Y2.alloc (.cells #[.int .i64 x.2] 3) := ⟨_, rfl⟩
              have hSY3 : Hid (Own B0 ([(9, ks, lk), (9, ds, ld), (3, ws, lw), (9, .slice (some ⟨q8, 0, none⟩) 1 1, [sV x.1.1]), (9, .slice (some ⟨q18, 0, none⟩) 1 1, [sV x.1.2]), (3, .slice (some ⟨q28, 0, none⟩) 1 1, [iV x.2])] : List Rw) Y3) := Lib.hid (by rw [hY3, ← hq28]; exact Own.lit (i := 5) hSY2.out rfl hZY2.out)
              have hrY3 : Below B0 Y2 Y3 := by rw [hY3]; exact (Below.refl B0 Y2).alloc hZY2.out _
              have hZY3 : Hid (B0 ≤ Y3.heap.size) := Lib.hid (Nat.le_trans hZY2.out (by rw [hY3]; simp))
              have hPY3 : Hid (Below B0 wd Y3) := Lib.hid ((hPY2.out).trans hrY3)
              rw [← hY3, hq28]
              replace hY3 := Lib.hid hY3
              replace hq28 := Lib.hid hq28
              refine hK _ _ (fun _ => hrY3) ?_
              clear hK K
              clear hrY3
              try simp only [Act.put, List.setIfInBounds_toArray, List.set_cons_zero, List.set_cons_succ]
              refine wpR_one 9 rfl (by kernel_rfl) (by kernel_rfl) (fun K hK => ?_)
              refine wp_ownS (.tmp 23) (.tmp 31) rfl hSY3.out 0 3 ks (lk) (some ⟨q8, 0, none⟩) (sV x.1.1) rfl rfl rfl rfl rfl hlk.out hZY3.out ?_
              intro v9 Y4 hSY4 hgY4
              have hrY4 : Below B0 Y3 Y4 := (Below.refl B0 Y3).grown hgY4 hZY3.out (fun j hj => (World.ownsRow.lt (hSY3.out.1 0 _ rfl) j hj).1)
              have hZY4 : Hid (B0 ≤ Y4.heap.size) := Lib.hid (Nat.le_trans hZY3.out hgY4.size)
              replace hSY4 : Hid (Own B0 ([(9, v9, lk ++ [sV x.1.1]), (9, ds, ld), (3, ws, lw), (9, .slice (some ⟨q8, 0, none⟩) 1 1, [sV x.1.1]), (9, .slice (some ⟨q18, 0, none⟩) 1 1, [sV x.1.2]), (3, .slice (some ⟨q28, 0, none⟩) 1 1, [iV x.2])] : List Rw) Y4) := Lib.hid hSY4
              have hPY4 : Hid (Below B0 wd Y4) := Lib.hid ((hPY3.out).trans hrY4)
              refine hK _ _ (fun _ => hrY4) ?_
              clear hK K
              clear hrY4 hgY4
              try simp only [Act.put, List.setIfInBounds_toArray, List.set_cons_zero, List.set_cons_succ]
              refine wpR_one 19 rfl (by kernel_rfl) (by kernel_rfl) (fun K hK => ?_)
              refine wp_ownS (.tmp 33) (.tmp 41) rfl hSY4.out 1 4 ds (ld) (some ⟨q18, 0, none⟩) (sV x.1.2) rfl rfl rfl rfl rfl hld.out hZY4.out ?_
              intro v19 Y5 hSY5 hgY5
              have hrY5 : Below B0 Y4 Y5 := (Below.refl B0 Y4).grown hgY5 hZY4.out (fun j hj => (World.ownsRow.lt (hSY4.out.1 1 _ rfl) j hj).1)
              have hZY5 : Hid (B0 ≤ Y5.heap.size) := Lib.hid (Nat.le_trans hZY4.out hgY5.size)
              replace hSY5 : Hid (Own B0 ([(9, v9, lk ++ [sV x.1.1]), (9, v19, ld ++ [sV x.1.2]), (3, ws, lw), (9, .slice (some ⟨q8, 0, none⟩) 1 1, [sV x.1.1]), (9, .slice (some ⟨q18, 0, none⟩) 1 1, [sV x.1.2]), (3, .slice (some ⟨q28, 0, none⟩) 1 1, [iV x.2])] : List Rw) Y5) := Lib.hid hSY5
              have hPY5 : Hid (Below B0 wd Y5) := Lib.hid ((hPY4.out).trans hrY5)
              refine hK _ _ (fun _ => hrY5) ?_
              clear hK K
              clear hrY5 hgY5
              try simp only [Act.put, List.setIfInBounds_toArray, List.set_cons_zero, List.set_cons_succ]
              refine wpR_one 29 rfl (by kernel_rfl) (by kernel_rfl) (fun K hK => ?_)
              refine wp_ownI (.tmp 43) (.tmp 51) rfl hSY5.out 2 5 ws (lw) (some ⟨q28, 0, none⟩) (iV x.2) rfl rfl rfl rfl rfl hlw.out hZY5.out ?_
              intro v29 Y6 hSY6 hgY6
              have hrY6 : Below B0 Y5 Y6 := (Below.refl B0 Y5).grown hgY6 hZY5.out (fun j hj => (World.ownsRow.lt (hSY5.out.1 2 _ rfl) j hj).1)
              have hZY6 : Hid (B0 ≤ Y6.heap.size) := Lib.hid (Nat.le_trans hZY5.out hgY6.size)
              replace hSY6 : Hid (Own B0 ([(9, v9, lk ++ [sV x.1.1]), (9, v19, ld ++ [sV x.1.2]), (3, v29, lw ++ [iV x.2]), (9, .slice (some ⟨q8, 0, none⟩) 1 1, [sV x.1.1]), (9, .slice (some ⟨q18, 0, none⟩) 1 1, [sV x.1.2]), (3, .slice (some ⟨q28, 0, none⟩) 1 1, [iV x.2])] : List Rw) Y6) := Lib.hid hSY6
              have hPY6 : Hid (Below B0 wd Y6) := Lib.hid ((hPY5.out).trans hrY6)
              refine hK _ _ (fun _ => hrY6) ?_
              clear hK K
              clear hrY6 hgY6
              try simp only [Act.put, List.setIfInBounds_toArray, List.set_cons_zero, List.set_cons_succ]
              refine wpR_take (i := 30) (v := ?_) (⟨fun x => Below.refl _ x, fun h1 h2 => h1.trans h2⟩) (some 4) rfl (by kernel_rfl) (by kernel_rfl) (by kernel_rfl) (by kernel_rfl) (by kernel_rfl) (fun _ _ _ h => h) (by kernel_rfl) (fun w' hw' => ?_) ?_
              rotate_left
              · go_simp; with_reducible rfl
              simp only [Act.put, List.setIfInBounds_toArray, List.set_cons_zero, List.set_cons_succ]
              refine wpR_take (i := 31) (v := ?_) (⟨fun x => Below.refl _ x, fun h1 h2 => h1.trans h2⟩) (some 5) rfl (by kernel_rfl) (by kernel_rfl) (by kernel_rfl) (by kernel_rfl) (by kernel_rfl) (fun _ _ _ h => h) (by kernel_rfl) (fun w' hw' => ?_) ?_
              rotate_left
              · go_simp; with_reducible rfl
              simp only [Act.put, List.setIfInBounds_toArray, List.set_cons_zero, List.set_cons_succ]
              refine wpR_take (i := 32) (v := ?_) (⟨fun x => Below.refl _ x, fun h1 h2 => h1.trans h2⟩) (some 6) rfl (by kernel_rfl) (by kernel_rfl) (by kernel_rfl) (by kernel_rfl) (by kernel_rfl) (fun _ _ _ h => h) (by kernel_rfl) (fun w' hw' => ?_) ?_
              rotate_left
              · go_simp; with_reducible rfl
              simp only [Act.put, List.setIfInBounds_toArray, List.set_cons_zero, List.set_cons_succ]
              refine wpR_done (by kernel_rfl) ?_ _
              go_wp2_with fail
              go_roundw
              case rel => exact ⟨i + 1, _, _, _, rfl, rfl, rfl, by go_num, by omega, Lib.hid (rows_cut hx.out hat.out hlke.out hlde.out hlwe.out hSY6.out), Lib.hid (hgr.out.trans hPY6.out)⟩
              case measure => simp [intOf]; omega
          · go_simp
            obtain ⟨q28, hq28⟩ : ∃ q28, Y1.heap.size = q28 := ⟨_, rfl⟩
            obtain ⟨Y2, hY2⟩ : ∃ Y2, Y2 = Y1.alloc (.cells #[.int .i64 x.2] 3) := ⟨_, rfl⟩
            have hSY2 : Hid (Own B0 ([(9, ks, lk), (9, ds, ld), (3, ws, lw), (9, .slice none 0 0, []), (9, .slice (some ⟨q18, 0, none⟩) 1 1, [sV x.1.2]), (3, .slice (some ⟨q28, 0, none⟩) 1 1, [iV x.2])] : List Rw) Y2) := Lib.hid (by rw [hY2, ← hq28]; exact Own.lit (i := 5) hSY1.out rfl hZY1.out)
            have hrY2 : Below B0 Y1 Y2 := by rw [hY2]; exact (Below.refl B0 Y1).alloc hZY1.out _
            have hZY2 : Hid (B0 ≤ Y2.heap.size) := Lib.hid (Nat.le_trans hZY1.out (by rw [hY2]; simp))
            have hPY2 : Hid (Below B0 wd Y2) := Lib.hid ((hPY1.out).trans hrY2)
            rw [← hY2, hq28]
            replace hY2 := Lib.hid hY2
            replace hq28 := Lib.hid hq28
            refine hK _ _ (fun _ => hrY2) ?_
            clear hK K
            clear hrY2
            try simp only [Act.put, List.setIfInBounds_toArray, List.set_cons_zero, List.set_cons_succ]
            refine wpR_one 8 rfl (by kernel_rfl) (by kernel_rfl) (fun K hK => ?_)
            go_simp
            obtain ⟨q8, hq8⟩ : ∃ q8, Y2.heap.size = q8 := ⟨_, rfl⟩
            obtain ⟨Y3, hY3⟩ : ∃ Y3, Y3 = Y2.alloc (.cells #[.string (bs x.1.1)] 9) := ⟨_, rfl⟩
            have hSY3 : Hid (Own B0 ([(9, ks, lk), (9, ds, ld), (3, ws, lw), (9, .slice (some ⟨q8, 0, none⟩) 1 1, [sV x.1.1]), (9, .slice (some ⟨q18, 0, none⟩) 1 1, [sV x.1.2]), (3, .slice (some ⟨q28, 0, none⟩) 1 1, [iV x.2])] : List Rw) Y3) := Lib.hid (by rw [hY3, ← hq8]; exact Own.lit (i := 3) hSY2.out rfl hZY2.out)
            have hrY3 : Below B0 Y2 Y3 := by rw [hY3]; exact (Below.refl B0 Y2).alloc hZY2.out _
            have hZY3 : Hid (B0 ≤ Y3.heap.size) := Lib.hid (Nat.le_trans hZY2.out (by rw [hY3]; simp))
            have hPY3 : Hid (Below B0 wd Y3) := Lib.hid ((hPY2.out).trans hrY3)
            rw [← hY3, hq8]
            replace hY3 := Lib.hid hY3
            replace hq8 := Lib.hid hq8
            refine hK _ _ (fun _ => hrY3) ?_
            clear hK K
            clear hrY3
            try simp only [Act.put, List.setIfInBounds_toArray, List.set_cons_zero, List.set_cons_succ]
            refine wpR_one 9 rfl (by kernel_rfl) (by kernel_rfl) (fun K hK => ?_)
            refine wp_ownS (.tmp 23) (.tmp 31) rfl hSY3.out 0 3 ks (lk) (some ⟨q8, 0, none⟩) (sV x.1.1) rfl rfl rfl rfl rfl hlk.out hZY3.out ?_
            intro v9 Y4 hSY4 hgY4
            have hrY4 : Below B0 Y3 Y4 := (Below.refl B0 Y3).grown hgY4 hZY3.out (fun j hj => (World.ownsRow.lt (hSY3.out.1 0 _ rfl) j hj).1)
            have hZY4 : Hid (B0 ≤ Y4.heap.size) := Lib.hid (Nat.le_trans hZY3.out hgY4.size)
            replace hSY4 : Hid (Own B0 ([(9, v9, lk ++ [sV x.1.1]), (9, ds, ld), (3, ws, lw), (9, .slice (some ⟨q8, 0, none⟩) 1 1, [sV x.1.1]), (9, .slice (some ⟨q18, 0, none⟩) 1 1, [sV x.1.2]), (3, .slice (some ⟨q28, 0, none⟩) 1 1, [iV x.2])] : List Rw) Y4) := Lib.hid hSY4
            have hPY4 : Hid (Below B0 wd Y4) := Lib.hid ((hPY3.out).trans hrY4)
            refine hK _ _ (fun _ => hrY4) ?_
            clear hK K
            clear hrY4 hgY4
            try simp only [Act.put, List.setIfInBounds_toArray, List.set_cons_zero, List.set_cons_succ]
            refine wpR_one 19 rfl (by kernel_rfl) (by kernel_rfl) (fun K hK => ?_)
            refine wp_ownS (.tmp 33) (.tmp 41) rfl hSY4.out 1 4 ds (ld) (some ⟨q18, 0, none⟩) (sV x.1.2) rfl rfl rfl rfl rfl hld.out hZY4.out ?_
            intro v19 Y5 hSY5 hgY5
            have hrY5 : Below B0 Y4 Y5 := (Below.refl B0 Y4).grown hgY5 hZY4.out (fun j hj => (World.ownsRow.lt (hSY4.out.1 1 _ rfl) j hj).1)
            have hZY5 : Hid (B0 ≤ Y5.heap.size) := Lib.hid (Nat.le_trans hZY4.out hgY5.size)
            replace hSY5 : Hid (Own B0 ([(9, v9, lk ++ [sV x.1.1]), (9, v19, ld ++ [sV x.1.2]), (3, ws, lw), (9, .slice (some ⟨q8, 0, none⟩) 1 1, [sV x.1.1]), (9, .slice (some ⟨q18, 0, none⟩) 1 1, [sV x.1.2]), (3, .slice (some ⟨q28, 0, none⟩) 1 1, [iV x.2])] : List Rw) Y5) := Lib.hid hSY5
            have hPY5 : Hid (Below B0 wd Y5) := Lib.hid ((hPY4.out).trans hrY5)
            refine hK _ _ (fun _ => hrY5) ?_
            clear hK K
            clear hrY5 hgY5
            try simp only [Act.put, List.setIfInBounds_toArray, List.set_cons_zero, List.set_cons_succ]
            refine wpR_one 29 rfl (by kernel_rfl) (by kernel_rfl) (fun K hK => ?_)
            refine wp_ownI (.tmp 43) (.tmp 51) rfl hSY5.out 2 5 ws (lw) (some ⟨q28, 0, none⟩) (iV x.2) rfl rfl rfl rfl rfl hlw.out hZY5.out ?_
            intro v29 Y6 hSY6 hgY6
            have hrY6 : Below B0 Y5 Y6 := (Below.refl B0 Y5).grown hgY6 hZY5.out (fun j hj => (World.ownsRow.lt (hSY5.out.1 2 _ rfl) j hj).1)
            have hZY6 : Hid (B0 ≤ Y6.heap.size) := Lib.hid (Nat.le_trans hZY5.out hgY6.size)
            replace hSY6 : Hid (Own B0 ([(9, v9, lk ++ [sV x.1.1]), (9, v19, ld ++ [sV x.1.2]), (3, v29, lw ++ [iV x.2]), (9, .slice (some ⟨q8, 0, none⟩) 1 1, [sV x.1.1]), (9, .slice (some ⟨q18, 0, none⟩) 1 1, [sV x.1.2]), (3, .slice (some ⟨q28, 0, none⟩) 1 1, [iV x.2])] : List Rw) Y6) := Lib.hid hSY6
            have hPY6 : Hid (Below B0 wd Y6) := Lib.hid ((hPY5.out).trans hrY6)
            refine hK _ _ (fun _ => hrY6) ?_
            clear hK K
            clear hrY6 hgY6
            try simp only [Act.put, List.setIfInBounds_toArray, List.set_cons_zero, List.set_cons_succ]
            refine wpR_take (i := 30) (v := ?_) (⟨fun x => Below.refl _ x, fun h1 h2 => h1.trans h2⟩) (some 4) rfl (by kernel_rfl) (by kernel_rfl) (by kernel_rfl) (by kernel_rfl) (by kernel_rfl) (fun _ _ _ h => h) (by kernel_rfl) (fun w' hw' => ?_) ?_
            rotate_left
            · go_simp; with_reducible rfl
            simp only [Act.put, List.setIfInBounds_toArray, List.set_cons_zero, List.set_cons_succ]
            refine wpR_take (i := 31) (v := ?_) (⟨fun x => Below.refl _ x, fun h1 h2 => h1.trans h2⟩) (some 5) rfl (by kernel_rfl) (by kernel_rfl) (by kernel_rfl) (by kernel_rfl) (by kernel_rfl) (fun _ _ _ h => h) (by kernel_rfl) (fun w' hw' => ?_) ?_
            rotate_left
            · go_simp; with_reducible rfl
            simp only [Act.put, List.setIfInBounds_toArray, List.set_cons_zero, List.set_cons_succ]
            refine wpR_take (i := 32) (v := ?_) (⟨fun x => Below.refl _ x, fun h1 h2 => h1.trans h2⟩) (some 6) rfl (by kernel_rfl) (by kernel_rfl) (by kernel_rfl) (by kernel_rfl) (by kernel_rfl) (fun _ _ _ h => h) (by kernel_rfl) (fun w' hw' => ?_) ?_
            rotate_left
            · go_simp; with_reducible rfl
            simp only [Act.put, List.setIfInBounds_toArray, List.set_cons_zero, List.set_cons_succ]
            refine wpR_done (by kernel_rfl) ?_ _
            go_wp2_with fail
            go_roundw
            case rel => exact ⟨i + 1, _, _, _, rfl, rfl, rfl, by go_num, by omega, Lib.hid (rows_cut hx.out hat.out hlke.out hlde.out hlwe.out hSY6.out), Lib.hid (hgr.out.trans hPY6.out)⟩
            case measure => simp [intOf]; omega
        · go_simp
          obtain ⟨q28, hq28⟩ : ∃ q28, wd.heap.size = q28 := ⟨_, rfl⟩
          obtain ⟨Y1, hY1⟩ : ∃ Y1, Y1 = wd.alloc (.cells #[.int .i64 x.2] 3) := ⟨_, rfl⟩
          have hSY1 : Hid (Own B0 ([(9, ks, lk), (9, ds, ld), (3, ws, lw), (9, .slice none 0 0, []), (9, .slice none 0 0, []), (3, .slice (some ⟨q28, 0, none⟩) 1 1, [iV x.2])] : List Rw) Y1) := Lib.hid (by rw [hY1, ← hq28]; exact Own.lit (i := 5) hSwd.out rfl hZwd.out)
          have hrY1 : Below B0 wd Y1 := by rw [hY1]; exact (Below.refl B0 wd).alloc hZwd.out _
          have hZY1 : Hid (B0 ≤ Y1.heap.size) := Lib.hid (Nat.le_trans hZwd.out (by rw [hY1]; simp))
          have hPY1 : Hid (Below B0 wd Y1) := Lib.hid (hrY1)
          rw [← hY1, hq28]
          replace hY1 := Lib.hid hY1
          replace hq28 := Lib.hid hq28
          refine hK _ _ (fun _ => hrY1) ?_
          clear hK K
          clear hrY1
          try simp only [Act.put, List.setIfInBounds_toArray, List.set_cons_zero, List.set_cons_succ]
          refine wpR_two 8 18 rfl rfl (by kernel_rfl) (by kernel_rfl) (by kernel_rfl) (fun K hK => ?_) (fun K hK => ?_)
          · go_simp
            obtain ⟨q8, hq8⟩ : ∃ q8, Y1.heap.size = q8 := ⟨_, rfl⟩
            obtain ⟨Y2, hY2⟩ : ∃ Y2, Y2 = Y1.alloc (.cells #[.string (bs x.1.1)] 9) := ⟨_, rfl⟩
            have hSY2 : Hid (Own B0 ([(9, ks, lk), (9, ds, ld), (3, ws, lw), (9, .slice (some ⟨q8, 0, none⟩) 1 1, [sV x.1.1]), (9, .slice none 0 0, []), (3, .slice (some ⟨q28, 0, none⟩) 1 1, [iV x.2])] : List Rw) Y2) := Lib.hid (by rw [hY2, ← hq8]; exact Own.lit (i := 3) hSY1.out rfl hZY1.out)
            have hrY2 : Below B0 Y1 Y2 := by rw [hY2]; exact (Below.refl B0 Y1).alloc hZY1.out _
            have hZY2 : Hid (B0 ≤ Y2.heap.size) := Lib.hid (Nat.le_trans hZY1.out (by rw [hY2]; simp))
            have hPY2 : Hid (Below B0 wd Y2) := Lib.hid ((hPY1.out).trans hrY2)
            rw [← hY2, hq8]
            replace hY2 := Lib.hid hY2
            replace hq8 := Lib.hid hq8
            refine hK _ _ (fun _ => hrY2) ?_
            clear hK K
            clear hrY2
            try simp only [Act.put, List.setIfInBounds_toArray, List.set_cons_zero, List.set_cons_succ]
            refine wpR_two 9 18 rfl rfl (by kernel_rfl) (by kernel_rfl) (by kernel_rfl) (fun K hK => ?_) (fun K hK => ?_)
            · refine wp_ownS (.tmp 23) (.tmp 31) rfl hSY2.out 0 3 ks (lk) (some ⟨q8, 0, none⟩) (sV x.1.1) rfl rfl rfl rfl rfl hlk.out hZY2.out ?_
              intro v9 Y3 hSY3 hgY3
              have hrY3 : Below B0 Y2 Y3 := (Below.refl B0 Y2).grown hgY3 hZY2.out (fun j hj => (World.ownsRow.lt (hSY2.out.1 0 _ rfl) j hj).1)
              have hZY3 : Hid (B0 ≤ Y3.heap.size) := Lib.hid (Nat.le_trans hZY2.out hgY3.size)
              replace hSY3 : Hid (Own B0 ([(9, v9, lk ++ [sV x.1.1]), (9, ds, ld), (3, ws, lw), (9, .slice (some ⟨q8, 0, none⟩) 1 1, [sV x.1.1]), (9, .slice none 0 0, []), (3, .slice (some ⟨q28, 0, none⟩) 1 1, [iV x.2])] : List Rw) Y3) := Lib.hid hSY3
              have hPY3 : Hid (Below B0 wd Y3) := Lib.hid ((hPY2.out).trans hrY3)
              refine hK _ _ (fun _ => hrY3) ?_
              clear hK K
              clear hrY3 hgY3
              try simp only [Act.put, List.setIfInBounds_toArray, List.set_cons_zero, List.set_cons_succ]
              refine wpR_one 18 rfl (by kernel_rfl) (by kernel_rfl) (fun K hK => ?_)
              go_simp
              obtain ⟨q18, hq18⟩ : ∃ q18, Y3.heap.size = q18 := ⟨_, rfl⟩
              obtain ⟨Y4, hY4⟩ : ∃ Y4, Y4 = Y3.alloc (.cells #[.string (bs x.1.2)] 9) := ⟨_, rfl⟩
              have hSY4 : Hid (Own B0 ([(9, v9, lk ++ [sV x.1.1]), (9, ds, ld), (3, ws, lw), (9, .slice (some ⟨q8, 0, none⟩) 1 1, [sV x.1.1]), (9, .slice (some ⟨q18, 0, none⟩) 1 1, [sV x.1.2]), (3, .slice (some ⟨q28, 0, none⟩) 1 1, [iV x.2])] : List Rw) Y4) := Lib.hid (by rw [hY4, ← hq18]; exact Own.lit (i := 4) hSY3.out rfl hZY3.out)
              have hrY4 : Below B0 Y3 Y4 := by rw [hY4]; exact (Below.refl B0 Y3).alloc hZY3.out _
              have hZY4 : Hid (B0 ≤ Y4.heap.size) := Lib.hid (Nat.le_trans hZY3.out (by rw [hY4]; simp))
              have hPY4 : Hid (Below B0 wd Y4) := Lib.hid ((hPY3.out).trans hrY4)
              rw [← hY4, hq18]
              replace hY4 := Lib.hid hY4
              replace hq18 := Lib.hid hq18
              refine hK _ _ (fun _ => hrY4) ?_
              clear hK K
              clear hrY4
              try simp only [Act.put, List.setIfInBounds_toArray, List.set_cons_zero, List.set_cons_succ]
              refine wpR_one 19 rfl (by kernel_rfl) (by kernel_rfl) (fun K hK => ?_)
              refine wp_ownS (.tmp 33) (.tmp 41) rfl hSY4.out 1 4 ds (ld) (some ⟨q18, 0, none⟩) (sV x.1.2) rfl rfl rfl rfl rfl hld.out hZY4.out ?_
              intro v19 Y5 hSY5 hgY5
              have hrY5 : Below B0 Y4 Y5 := (Below.refl B0 Y4).grown hgY5 hZY4.out (fun j hj => (World.ownsRow.lt (hSY4.out.1 1 _ rfl) j hj).1)
              have hZY5 : Hid (B0 ≤ Y5.heap.size) := Lib.hid (Nat.le_trans hZY4.out hgY5.size)
              replace hSY5 : Hid (Own B0 ([(9, v9, lk ++ [sV x.1.1]), (9, v19, ld ++ [sV x.1.2]), (3, ws, lw), (9, .slice (some ⟨q8, 0, none⟩) 1 1, [sV x.1.1]), (9, .slice (some ⟨q18, 0, none⟩) 1 1, [sV x.1.2]), (3, .slice (some ⟨q28, 0, none⟩) 1 1, [iV x.2])] : List Rw) Y5) := Lib.hid hSY5
              have hPY5 : Hid (Below B0 wd Y5) := Lib.hid ((hPY4.out).trans hrY5)
              refine hK _ _ (fun _ => hrY5) ?_
              clear hK K
              clear hrY5 hgY5
              try simp only [Act.put, List.setIfInBounds_toArray, List.set_cons_zero, List.set_cons_succ]
              refine wpR_one 29 rfl (by kernel_rfl) (by kernel_rfl) (fun K hK => ?_)
              refine wp_ownI (.tmp 43) (.tmp 51) rfl hSY5.out 2 5 ws (lw) (some ⟨q28, 0, none⟩) (iV x.2) rfl rfl rfl rfl rfl hlw.out hZY5.out ?_
              intro v29 Y6 hSY6 hgY6
              have hrY6 : Below B0 Y5 Y6 := (Below.refl B0 Y5).grown hgY6 hZY5.out (fun j hj => (World.ownsRow.lt (hSY5.out.1 2 _ rfl) j hj).1)
              have hZY6 : Hid (B0 ≤ Y6.heap.size) := Lib.hid (Nat.le_trans hZY5.out hgY6.size)
              replace hSY6 : Hid (Own B0 ([(9, v9, lk ++ [sV x.1.1]), (9, v19, ld ++ [sV x.1.2]), (3, v29, lw ++ [iV x.2]), (9, .slice (some ⟨q8, 0, none⟩) 1 1, [sV x.1.1]), (9, .slice (some ⟨q18, 0, none⟩) 1 1, [sV x.1.2]), (3, .slice (some ⟨q28, 0, none⟩) 1 1, [iV x.2])] : List Rw) Y6) := Lib.hid hSY6
              have hPY6 : Hid (Below B0 wd Y6) := Lib.hid ((hPY5.out).trans hrY6)
              refine hK _ _ (fun _ => hrY6) ?_
              clear hK K
              clear hrY6 hgY6
              try simp only [Act.put, List.setIfInBounds_toArray, List.set_cons_zero, List.set_cons_succ]
              refine wpR_take (i := 30) (v := ?_) (⟨fun x => Below.refl _ x, fun h1 h2 => h1.trans h2⟩) (some 4) rfl (by kernel_rfl) (by kernel_rfl) (by kernel_rfl) (by kernel_rfl) (by kernel_rfl) (fun _ _ _ h => h) (by kernel_rfl) (fun w' hw' => ?_) ?_
              rotate_left
              · go_simp; with_reducible rfl
              simp only [Act.put, List.setIfInBounds_toArray, List.set_cons_zero, List.set_cons_succ]
              refine wpR_take (i := 31) (v := ?_) (⟨fun x => Below.refl _ x, fun h1 h2 => h1.trans h2⟩) (some 5) rfl (by kernel_rfl) (by kernel_rfl) (by kernel_rfl) (by kernel_rfl) (by kernel_rfl) (fun _ _ _ h => h) (by kernel_rfl) (fun w' hw' => ?_) ?_
              rotate_left
              · go_simp; with_reducible rfl
              simp only [Act.put, List.setIfInBounds_toArray, List.set_cons_zero, List.set_cons_succ]
              refine wpR_take (i := 32) (v := ?_) (⟨fun x => Below.refl _ x, fun h1 h2 => h1.trans h2⟩) (some 6) rfl (by kernel_rfl) (by kernel_rfl) (by kernel_rfl) (by kernel_rfl) (by kernel_rfl) (fun _ _ _ h => h) (by kernel_rfl) (fun w' hw' => ?_) ?_
              rotate_left
              · go_simp; with_reducible rfl
              simp only [Act.put, List.setIfInBounds_toArray, List.set_cons_zero, List.set_cons_succ]
              refine wpR_done (by kernel_rfl) ?_ _
              go_wp2_with fail
              go_roundw
              case rel => exact ⟨i + 1, _, _, _, rfl, rfl, rfl, by go_num, by omega, Lib.hid (rows_cut hx.out hat.out hlke.out hlde.out hlwe.out hSY6.out), Lib.hid (hgr.out.trans hPY6.out)⟩
              case measure => simp [intOf]; omega
            · go_simp
              obtain ⟨q18, hq18⟩ : ∃ q18, Y2.heap.size = q18 := ⟨_, rfl⟩
              obtain ⟨Y3, hY3⟩ : ∃ Y3, Y3 = Y2.alloc (.cells #[.string (bs x.1.2)] 9) := ⟨_, rfl⟩
              have hSY3 : Hid (Own B0 ([(9, ks, lk), (9, ds, ld), (3, ws, lw), (9, .slice (some ⟨q8, 0, none⟩) 1 1, [sV x.1.1]), (9, .slice (some ⟨q18, 0, none⟩) 1 1, [sV x.1.2]), (3, .slice (some ⟨q28, 0, none⟩) 1 1, [iV x.2])] : List Rw) Y3) := Lib.hid (by rw [hY3, ← hq18]; exact Own.lit (i := 4) hSY2.out rfl hZY2.out)
              have hrY3 : Below B0 Y2 Y3 := by rw [hY3]; exact (Below.refl B0 Y2).alloc hZY2.out _
              have hZY3 : Hid (B0 ≤ Y3.heap.size) := Lib.hid (Nat.le_trans hZY2.out (by rw [hY3]; simp))
              have hPY3 : Hid (Below B0 wd Y3) := Lib.hid ((hPY2.out).trans hrY3)
              rw [← hY3, hq18]
              replace hY3 := Lib.hid hY3
              replace hq18 := Lib.hid hq18
              refine hK _ _ (fun _ => hrY3) ?_
              clear hK K
              clear hrY3
              try simp only [Act.put, List.setIfInBounds_toArray, List.set_cons_zero, List.set_cons_succ]
              refine wpR_one 9 rfl (by kernel_rfl) (by kernel_rfl) (fun K hK => ?_)
              refine wp_ownS (.tmp 23) (.tmp 31) rfl hSY3.out 0 3 ks (lk) (some ⟨q8, 0, none⟩) (sV x.1.1) rfl rfl rfl rfl rfl hlk.out hZY3.out ?_
              intro v9 Y4 hSY4 hgY4
              have hrY4 : Below B0 Y3 Y4 := (Below.refl B0 Y3).grown hgY4 hZY3.out (fun j hj => (World.ownsRow.lt (hSY3.out.1 0 _ rfl) j hj).1)
              have hZY4 : Hid (B0 ≤ Y4.heap.size) := Lib.hid (Nat.le_trans hZY3.out hgY4.size)
              replace hSY4 : Hid (Own B0 ([(9, v9, lk ++ [sV x.1.1]), (9, ds, ld), (3, ws, lw), (9, .slice (some ⟨q8, 0, none⟩) 1 1, [sV x.1.1]), (9, .slice (some ⟨q18, 0, none⟩) 1 1, [sV x.1.2]), (3, .slice (some ⟨q28, 0, none⟩) 1 1, [iV x.2])] : List Rw) Y4) := Lib.hid hSY4
              have hPY4 : Hid (Below B0 wd Y4) := Lib.hid ((hPY3.out).trans hrY4)
              refine hK _ _ (fun _ => hrY4) ?_
              clear hK K
              clear hrY4 hgY4
              try simp only [Act.put, List.setIfInBounds_toArray, List.set_cons_zero, List.set_cons_succ]
              refine wpR_one 19 rfl (by kernel_rfl) (by kernel_rfl) (fun K hK => ?_)
              refine wp_ownS (.tmp 33) (.tmp 41) rfl hSY4.out 1 4 ds (ld) (some ⟨q18, 0, none⟩) (sV x.1.2) rfl rfl rfl rfl rfl hld.out hZY4.out ?_
              intro v19 Y5 hSY5 hgY5
              have hrY5 : Below B0 Y4 Y5 := (Below.refl B0 Y4).grown hgY5 hZY4.out (fun j hj => (World.ownsRow.lt (hSY4.out.1 1 _ rfl) j hj).1)
              have hZY5 : Hid (B0 ≤ Y5.heap.size) := Lib.hid (Nat.le_trans hZY4.out hgY5.size)
              replace hSY5 : Hid (Own B0 ([(9, v9, lk ++ [sV x.1.1]), (9, v19, ld ++ [sV x.1.2]), (3, ws, lw), (9, .slice (some ⟨q8, 0, none⟩) 1 1, [sV x.1.1]), (9, .slice (some ⟨q18, 0, none⟩) 1 1, [sV x.1.2]), (3, .slice (some ⟨q28, 0, none⟩) 1 1, [iV x.2])] : List Rw) Y5) := Lib.hid hSY5
              have hPY5 : Hid (Below B0 wd Y5) := Lib.hid ((hPY4.out).trans hrY5)
              refine hK _ _ (fun _ => hrY5) ?_
              clear hK K
              clear hrY5 hgY5
              try simp only [Act.put, List.setIfInBounds_toArray, List.set_cons_zero, List.set_cons_succ]
              refine wpR_one 29 rfl (by kernel_rfl) (by kernel_rfl) (fun K hK => ?_)
              refine wp_ownI (.tmp 43) (.tmp 51) rfl hSY5.out 2 5 ws (lw) (some ⟨q28, 0, none⟩) (iV x.2) rfl rfl rfl rfl rfl hlw.out hZY5.out ?_
              intro v29 Y6 hSY6 hgY6
              have hrY6 : Below B0 Y5 Y6 := (Below.refl B0 Y5).grown hgY6 hZY5.out (fun j hj => (World.ownsRow.lt (hSY5.out.1 2 _ rfl) j hj).1)
              have hZY6 : Hid (B0 ≤ Y6.heap.size) := Lib.hid (Nat.le_trans hZY5.out hgY6.size)
              replace hSY6 : Hid (Own B0 ([(9, v9, lk ++ [sV x.1.1]), (9, v19, ld ++ [sV x.1.2]), (3, v29, lw ++ [iV x.2]), (9, .slice (some ⟨q8, 0, none⟩) 1 1, [sV x.1.1]), (9, .slice (some ⟨q18, 0, none⟩) 1 1, [sV x.1.2]), (3, .slice (some ⟨q28, 0, none⟩) 1 1, [iV x.2])] : List Rw) Y6) := Lib.hid hSY6
              have hPY6 : Hid (Below B0 wd Y6) := Lib.hid ((hPY5.out).trans hrY6)
              refine hK _ _ (fun _ => hrY6) ?_
              clear hK K
              clear hrY6 hgY6
              try simp only [Act.put, List.setIfInBounds_toArray, List.set_cons_zero, List.set_cons_succ]
              refine wpR_take (i := 30) (v := ?_) (⟨fun x => Below.refl _ x, fun h1 h2 => h1.trans h2⟩) (some 4) rfl (by kernel_rfl) (by kernel_rfl) (by kernel_rfl) (by kernel_rfl) (by kernel_rfl) (fun _ _ _ h => h) (by kernel_rfl) (fun w' hw' => ?_) ?_
              rotate_left
              · go_simp; with_reducible rfl
              simp only [Act.put, List.setIfInBounds_toArray, List.set_cons_zero, List.set_cons_succ]
              refine wpR_take (i := 31) (v := ?_) (⟨fun x => Below.refl _ x, fun h1 h2 => h1.trans h2⟩) (some 5) rfl (by kernel_rfl) (by kernel_rfl) (by kernel_rfl) (by kernel_rfl) (by kernel_rfl) (fun _ _ _ h => h) (by kernel_rfl) (fun w' hw' => ?_) ?_
              rotate_left
              · go_simp; with_reducible rfl
              simp only [Act.put, List.setIfInBounds_toArray, List.set_cons_zero, List.set_cons_succ]
              refine wpR_take (i := 32) (v := ?_) (⟨fun x => Below.refl _ x, fun h1 h2 => h1.trans h2⟩) (some 6) rfl (by kernel_rfl) (by kernel_rfl) (by kernel_rfl) (by kernel_rfl) (by kernel_rfl) (fun _ _ _ h => h) (by kernel_rfl) (fun w' hw' => ?_) ?_
              rotate_left
              · go_simp; with_reducible rfl
              simp only [Act.put, List.setIfInBounds_toArray, List.set_cons_zero, List.set_cons_succ]
              refine wpR_done (by kernel_rfl) ?_ _
              go_wp2_with fail
              go_roundw
              case rel => exact ⟨i + 1, _, _, _, rfl, rfl, rfl, by go_num, by omega, Lib.hid (rows_cut hx.out hat.out hlke.out hlde.out hlwe.out hSY6.out), Lib.hid (hgr.out.trans hPY6.out)⟩
              case measure => simp [intOf]; omega
          · go_simp
            obtain ⟨q18, hq18⟩ : ∃ q18, Y1.heap.size = q18 := ⟨_, rfl⟩
            obtain ⟨Y2, hY2⟩ : ∃ Y2, Y2 = Y1.alloc (.cells #[.string (bs x.1.2)] 9) := ⟨_, rfl⟩
            have hSY2 : Hid (Own B0 ([(9, ks, lk), (9, ds, ld), (3, ws, lw), (9, .slice none 0 0, []), (9, .slice (some ⟨q18, 0, none⟩) 1 1, [sV x.1.2]), (3, .slice (some ⟨q28, 0, none⟩) 1 1, [iV x.2])] : List Rw) Y2) := Lib.hid (by rw [hY2, ← hq18]; exact Own.lit (i := 4) hSY1.out rfl hZY1.out)
            have hrY2 : Below B0 Y1 Y2 := by rw [hY2]; exact (Below.refl B0 Y1).alloc hZY1.out _
            have hZY2 : Hid (B0 ≤ Y2.heap.size) := Lib.hid (Nat.le_trans hZY1.out (by rw [hY2]; simp))
            have hPY2 : Hid (Below B0 wd Y2) := Lib.hid ((hPY1.out).trans hrY2)
            rw [← hY2, hq18]
            replace hY2 := Lib.hid hY2
            replace hq18 := Lib.hid hq18
            refine hK _ _ (fun _ => hrY2) ?_
            clear hK K
            clear hrY2
            try simp only [Act.put, List.setIfInBounds_toArray, List.set_cons_zero, List.set_cons_succ]
            refine wpR_one 8 rfl (by kernel_rfl) (by kernel_rfl) (fun K hK => ?_)
            go_simp
            obtain ⟨q8, hq8⟩ : ∃ q8, Y2.heap.size = q8 := ⟨_, rfl⟩
            obtain ⟨Y3, hY3⟩ : ∃ Y3, Y3 = Y2.alloc (.cells #[.string (bs x.1.1)] 9) := ⟨_, rfl⟩
            have hSY3 : Hid (Own B0 ([(9, ks, lk), (9, ds, ld), (3, ws, lw), (9, .slice (some ⟨q8, 0, none⟩) 1 1, [sV x.1.1]), (9, .slice (some ⟨q18, 0, none⟩) 1 1, [sV x.1.2]), (3, .slice (some ⟨q28, 0, none⟩) 1 1, [iV x.2])] : List Rw) Y3) := Lib.hid (by rw [hY3, ← hq8]; exact Own.lit (i := 3) hSY2.out rfl hZY2.out)
            have hrY3 : Below B0 Y2 Y3 := by rw [hY3]; exact (Below.refl B0 Y2).alloc hZY2.out _
            have hZY3 : Hid (B0 ≤ Y3.heap.size) := Lib.hid (Nat.le_trans hZY2.out (by rw [hY3]; simp))
            have hPY3 : Hid (Below B0 wd Y3) := Lib.hid ((hPY2.out).trans hrY3)
            rw [← hY3, hq8]
            replace hY3 := Lib.hid hY3
            replace hq8 := Lib.hid hq8
            refine hK _ _ (fun _ => hrY3) ?_
            clear hK K
            clear hrY3
            try simp only [Act.put, List.setIfInBounds_toArray, List.set_cons_zero, List.set_cons_succ]
            refine wpR_one 9 rfl (by kernel_rfl) (by kernel_rfl) (fun K hK => ?_)
            refine wp_ownS (.tmp 23) (.tmp 31) rfl hSY3.out 0 3 ks (lk) (some ⟨q8, 0, none⟩) (sV x.1.1) rfl rfl rfl rfl rfl hlk.out hZY3.out ?_
            intro v9 Y4 hSY4 hgY4
            have hrY4 : Below B0 Y3 Y4 := (Below.refl B0 Y3).grown hgY4 hZY3.out (fun j hj => (World.ownsRow.lt (hSY3.out.1 0 _ rfl) j hj).1)
            have hZY4 : Hid (B0 ≤ Y4.heap.size) := Lib.hid (Nat.le_trans hZY3.out hgY4.size)
            replace hSY4 : Hid (Own B0 ([(9, v9, lk ++ [sV x.1.1]), (9, ds, ld), (3, ws, lw), (9, .slice (some ⟨q8, 0, none⟩) 1 1, [sV x.1.1]), (9, .slice (some ⟨q18, 0, none⟩) 1 1, [sV x.1.2]), (3, .slice (some ⟨q28, 0, none⟩) 1 1, [iV x.2])] : List Rw) Y4) := Lib.hid hSY4
            have hPY4 : Hid (Below B0 wd Y4) := Lib.hid ((hPY3.out).trans hrY4)
            refine hK _ _ (fun _ => hrY4) ?_
            clear hK K
            clear hrY4 hgY4
            try simp only [Act.put, List.setIfInBounds_toArray, List.set_cons_zero, List.set_cons_succ]
            refine wpR_one 19 rfl (by kernel_rfl) (by kernel_rfl) (fun K hK => ?_)
            refine wp_ownS (.tmp 33) (.tmp 41) rfl hSY4.out 1 4 ds (ld) (some ⟨q18, 0, none⟩) (sV x.1.2) rfl rfl rfl rfl rfl hld.out hZY4.out ?_
            intro v19 Y5 hSY5 hgY5
            have hrY5 : Below B0 Y4 Y5 := (Below.refl B0 Y4).grown hgY5 hZY4.out (fun j hj => (World.ownsRow.lt (hSY4.out.1 1 _ rfl) j hj).1)
            have hZY5 : Hid (B0 ≤ Y5.heap.size) := Lib.hid (Nat.le_trans hZY4.out hgY5.size)
            replace hSY5 : Hid (Own B0 ([(9, v9, lk ++ [sV x.1.1]), (9, v19, ld ++ [sV x.1.2]), (3, ws, lw), (9, .slice (some ⟨q8, 0, none⟩) 1 1, [sV x.1.1]), (9, .slice (some ⟨q18, 0, none⟩) 1 1, [sV x.1.2]), (3, .slice (some ⟨q28, 0, none⟩) 1 1, [iV x.2])] : List Rw) Y5) := Lib.hid hSY5
            have hPY5 : Hid (Below B0 wd Y5) := Lib.hid ((hPY4.out).trans hrY5)
            refine hK _ _ (fun _ => hrY5) ?_
            clear hK K
            clear hrY5 hgY5
            try simp only [Act.put, List.setIfInBounds_toArray, List.set_cons_zero, List.set_cons_succ]
            refine wpR_one 29 rfl (by kernel_rfl) (by kernel_rfl) (fun K hK => ?_)
            refine wp_ownI (.tmp 43) (.tmp 51) rfl hSY5.out 2 5 ws (lw) (some ⟨q28, 0, none⟩) (iV x.2) rfl rfl rfl rfl rfl hlw.out hZY5.out ?_
            intro v29 Y6 hSY6 hgY6
            have hrY6 : Below B0 Y5 Y6 := (Below.refl B0 Y5).grown hgY6 hZY5.out (fun j hj => (World.ownsRow.lt (hSY5.out.1 2 _ rfl) j hj).1)
            have hZY6 : Hid (B0 ≤ Y6.heap.size) := Lib.hid (Nat.le_trans hZY5.out hgY6.size)
            replace hSY6 : Hid (Own B0 ([(9, v9, lk ++ [sV x.1.1]), (9, v19, ld ++ [sV x.1.2]), (3, v29, lw ++ [iV x.2]), (9, .slice (some ⟨q8, 0, none⟩) 1 1, [sV x.1.1]), (9, .slice (some ⟨q18, 0, none⟩) 1 1, [sV x.1.2]), (3, .slice (some ⟨q28, 0, none⟩) 1 1, [iV x.2])] : List Rw) Y6) := Lib.hid hSY6
            have hPY6 : Hid (Below B0 wd Y6) := Lib.hid ((hPY5.out).trans hrY6)
            refine hK _ _ (fun _ => hrY6) ?_
            clear hK K
            clear hrY6 hgY6
            try simp only [Act.put, List.setIfInBounds_toArray, List.set_cons_zero, List.set_cons_succ]
            refine wpR_take (i := 30) (v := ?_) (⟨fun x => Below.refl _ x, fun h1 h2 => h1.trans h2⟩) (some 4) rfl (by kernel_rfl) (by kernel_rfl) (by kernel_rfl) (by kernel_rfl) (by kernel_rfl) (fun _ _ _ h => h) (by kernel_rfl) (fun w' hw' => ?_) ?_
            rotate_left
            · go_simp; with_reducible rfl
            simp only [Act.put, List.setIfInBounds_toArray, List.set_cons_zero, List.set_cons_succ]
            refine wpR_take (i := 31) (v := ?_) (⟨fun x => Below.refl _ x, fun h1 h2 => h1.trans h2⟩) (some 5) rfl (by kernel_rfl) (by kernel_rfl) (by kernel_rfl) (by kernel_rfl) (by kernel_rfl) (fun _ _ _ h => h) (by kernel_rfl) (fun w' hw' => ?_) ?_
            rotate_left
            · go_simp; with_reducible rfl
            simp only [Act.put, List.setIfInBounds_toArray, List.set_cons_zero, List.set_cons_succ]
            refine wpR_take (i := 32) (v := ?_) (⟨fun x => Below.refl _ x, fun h1 h2 => h1.trans h2⟩) (some 6) rfl (by kernel_rfl) (by kernel_rfl) (by kernel_rfl) (by kernel_rfl) (by kernel_rfl) (fun _ _ _ h => h) (by kernel_rfl) (fun w' hw' => ?_) ?_
            rotate_left
            · go_simp; with_reducible rfl
            simp only [Act.put, List.setIfInBounds_toArray, List.set_cons_zero, List.set_cons_succ]
            refine wpR_done (by kernel_rfl) ?_ _
            go_wp2_with fail
            go_roundw
            case rel => exact ⟨i + 1, _, _, _, rfl, rfl, rfl, by go_num, by omega, Lib.hid (rows_cut hx.out hat.out hlke.out hlde.out hlwe.out hSY6.out), Lib.hid (hgr.out.trans hPY6.out)⟩
            case measure => simp [intOf]; omega
    · obtain rfl : i = n := by omega
      have ii : decide ((i : Int) < (i : Int)) = false := decide_eq_false (by omega)
      have hcut : cutR R m i = R.eraseIdx m := by unfold cutR; rw [List.take_of_length_le (by rw [hn'.out]; exact Nat.le_refl _)]
      rw [hcut] at hos
      have r0 := hos.out.1 0 _ rfl
      have r1 := hos.out.1 1 _ rfl
      have r2 := hos.out.1 2 _ rfl
      dsimp only at r0 r1 r2
      rw [List.length_map] at r0 r1 r2
      generalize hl : (R.eraseIdx m).length = ln at r0 r1 r2
      obtain ⟨A1, c1, rfl, -, -⟩ := row_form r0
      obtain ⟨A2, c2, rfl, -, -⟩ := row_form r1
      obtain ⟨A3, c3, rfl, -, -⟩ := row_form r2
      clear r0 r1 r2
      replace hl := Lib.hid hl
      have b0 := hrh.blk
      have k0 := blk_cell (j := 0) b0 rfl
      have z0 := blk_free b0 0
      have b1 := blk_set b0 0 (.slice A1 ln c1)
      have k1 := blk_cell (j := 1) (v := .slice Ad i cd) b1 rfl
      have z1 := blk_free b1 1
      have b2 := blk_set b1 1 (.slice A2 ln c2)
      have k2 := blk_cell (j := 2) (v := .slice Aw i cw) b2 rfl
      have z2 := blk_free b2 2
      have b3 := Lib.hid (blk_set b2 2 (.slice A3 ln c3))
      have tc : TChg lo [55] wr (((wr.setCell ⟨g, 0, none⟩ (.slice A1 ln c1)).setCell ⟨g, 1, none⟩ (.slice A2 ln c2)).setCell ⟨g, 2, none⟩ (.slice A3 ln c3)) :=
        ((TChg.of_set b0 (by simp) hrh.lg 0 _).trans (TChg.of_set b1 (by simp) hrh.lg 1 _)).trans (TChg.of_set b2 (by simp) hrh.lg 2 _)
      have hfin : Hid (Rh (((wr.setCell ⟨g, 0, none⟩ (.slice A1 ln c1)).setCell ⟨g, 1, none⟩ (.slice A2 ln c2)).setCell ⟨g, 2, none⟩ (.slice A3 ln c3)) lo g (.slice A1 ln c1) (.slice A2 ln c2) (.slice A3 ln c3) now q (R.eraseIdx m)) := Lib.hid ⟨b3.out, hrh.lg, (hos.out.tchg tc (fun j y hy => by
        match j, hy with
        | 0, hy => injection hy with hy; subst hy; simp
        | 1, hy => injection hy with hy; subst hy; simp
        | 2, hy => injection hy with hy; subst hy; simp
        | _ + 3, hy => cases hy)).more hlB.out⟩
      have htt : Hid (TChg lo rts w (((wr.setCell ⟨g, 0, none⟩ (.slice A1 ln c1)).setCell ⟨g, 1, none⟩ (.slice A2 ln c2)).setCell ⟨g, 2, none⟩ (.slice A3 ln c3))) := Lib.hid ((TChg.of_below (by rw [hB0.out]; exact hgr.out)).trans (tc.mono (Nat.le_refl _) (by simp)))
      clear b0 b1 b2 tc hos hrh
      go_wp2_with fail
      go_end0
      exact ⟨⟨_, rfl⟩, ⟨_, _, _, hfin⟩, htt.out⟩
end Go.Proofs.Ythhggojpmilmdaa
