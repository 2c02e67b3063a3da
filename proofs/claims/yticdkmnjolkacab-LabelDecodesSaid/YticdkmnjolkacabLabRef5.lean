/- The reference's Good of records. -/
import Derived.Test.YticdkmnjolkacabLabRef4
import Derived.Test.YticdkmnjolkacabLabRef2
import Derived.Test.YticdkmnjolkacabLabRef1
import Derived.Deep.QuietTactic
import Derived.BigQuiet
namespace Go.Proofs.Yticdkmnjolkacab
set_option linter.unusedVariables false
set_option linter.unusedSimpArgs false
open Go Go.RowKit
theorem same_bare2 (r : Rc) : sameR r (bare2 r) = (r.cart == 0) := by
  unfold sameR bare2
  rw [Bool.eq_iff_iff, decide_eq_true_iff, beq_iff_eq]
  cases r
  simp
theorem goodB_kind (r : Rc) (h : inB r.kind 1 3 = false) : goodB r = false := by
  have h2 : ¬ (1 ≤ r.kind ∧ r.kind ≤ 3) := by unfold inB at h; simpa using h
  exact goodB_no r (by omega) (by omega) (by omega)
set_option maxHeartbeats 8000000 in
set_option maxRecDepth 20000 in
theorem rgood_no (r : Rc) (A : Option Addr) (c : Nat) (hok : r.Ok) (hk : inB r.kind 1 3 = false) (w : World) (h : Rd w w.heap.size A r.data) :
    Calls Try.prog 22 #[r.agg A c] w fun e w' => e = .returned (.bool (goodB r)) ∧ Below w.heap.size w w' := by
  have hq0 := (Below.refl w.heap.size w).alloc (Nat.le_refl _) (.cells #[.int .i64 r.kind, .int .i64 r.cart, .string (bs r.key), .int .i64 r.gen, .int .i64 r.group, .int .i64 r.groups, .int .i64 r.index, .int .i64 r.size, .string (bs r.sum), .slice A r.data.length c] 34)
  have hB0 := heap_alloc_new w (.cells #[.int .i64 r.kind, .int .i64 r.cart, .string (bs r.key), .int .i64 r.gen, .int .i64 r.group, .int .i64 r.groups, .int .i64 r.index, .int .i64 r.size, .string (bs r.sum), .slice A r.data.length c] 34)
  have hR0 := h.up hq0
  obtain ⟨wd, hwd⟩ : ∃ wd, wd = (w.alloc (.cells #[.int .i64 r.kind, .int .i64 r.cart, .string (bs r.key), .int .i64 r.gen, .int .i64 r.group, .int .i64 r.groups, .int .i64 r.index, .int .i64 r.size, .string (bs r.sum), .slice A r.data.length c] 34)).drew := ⟨_, rfl⟩
  have hq : Hid (Below w.heap.size w wd) := Lib.hid (by rw [hwd]; exact hq0.drew)
  have hB : Hid (wd.heap[w.heap.size]? = some (.cells #[.int .i64 r.kind, .int .i64 r.cart, .string (bs r.key), .int .i64 r.gen, .int .i64 r.group, .int .i64 r.groups, .int .i64 r.index, .int .i64 r.size, .string (bs r.sum), .slice A r.data.length c] 34 (0, 0))) := Lib.hid (by rw [hwd]; exact hB0)
  have hR : Hid (Rd wd wd.heap.size A r.data) := Lib.hid (by rw [hwd]; exact hR0.drewN 1)
  obtain ⟨N, hN⟩ : ∃ N, w.heap.size = N := ⟨_, rfl⟩
  rw [hN] at hB
  replace hN := Lib.hid hN
  clear hq0 hB0 hR0 h
  replace hok := Lib.hid hok
  have hres := Lib.hid (goodB_kind r hk)
  have hkin := Lib.hid hk
  clear hk
  unfold Rc.agg
  go_enter Try.func22, Try.ntmps22
  go_wp2_with fail
  rw [hN.out]
  refine wpR_region (Upd (fun _ => False)) 9999 (by kernel_rfl) ?_
  (rw [← hwd]; replace hwd := Lib.hid hwd)
  refine wpR_take (i := 0) (v := ?_) (Upd.road _) (some 3) rfl (by kernel_rfl) (by kernel_rfl) (by kernel_rfl) (by kernel_rfl) (by kernel_rfl) (fun _ _ _ h => h) (by kernel_rfl) (fun w' hw' => ?_) ?_
  rotate_left
  · go_simp; with_reducible rfl
  simp only [Act.put, List.setIfInBounds_toArray, List.set_cons_zero, List.set_cons_succ]
  refine wpR_take (i := 1) (v := ?_) (Upd.road _) (some 4) rfl (by kernel_rfl) (by kernel_rfl) (by kernel_rfl) (by kernel_rfl) (by kernel_rfl) (fun _ _ _ h => h) (by kernel_rfl) (fun w' hw' => ?_) ?_
  rotate_left
  · have qb := (hw'.2.2.2.2 _ (blk_lt hB.out) (by first | omega | exact (fun h => h))).trans hB.out; have q0 := blk_cell (j := 0) (v := .int .i64 r.kind) qb rfl; clear qb; go_simp; with_reducible rfl
  simp only [Act.put, List.setIfInBounds_toArray, List.set_cons_zero, List.set_cons_succ]
  refine wpR_one 2 rfl (by kernel_rfl) (by kernel_rfl) (fun K hK => ?_)
  go_simp
  refine (rin_any r.kind 1 3 _).mono ?_
  rw [hkin.out]
  rintro e w1 ⟨rfl, rfl⟩
  refine hK _ _ (fun _ => Upd.refl _ _) ?_
  clear hK K
  try simp only [Act.put, List.setIfInBounds_toArray, List.set_cons_zero, List.set_cons_succ]
  refine wpR_take (i := 3) (v := ?_) (Upd.road _) (some 6) rfl (by kernel_rfl) (by kernel_rfl) (by kernel_rfl) (by kernel_rfl) (by kernel_rfl) (fun _ _ _ h => h) (by kernel_rfl) (fun w' hw' => ?_) ?_
  rotate_left
  · go_simp; with_reducible rfl
  simp only [Act.put, List.setIfInBounds_toArray, List.set_cons_zero, List.set_cons_succ]
  refine wpR_take (i := 4) (v := ?_) (Upd.road _) (some 7) rfl (by kernel_rfl) (by kernel_rfl) (by kernel_rfl) (by kernel_rfl) (by kernel_rfl) (fun _ _ _ h => h) (by kernel_rfl) (fun w' hw' => ?_) ?_
  rotate_left
  · go_simp; with_reducible rfl
  simp only [Act.put, List.setIfInBounds_toArray, List.set_cons_zero, List.set_cons_succ]
  refine wpR_skip (i := 5) (Upd.road _) (some 8) rfl (by kernel_rfl) (by kernel_rfl) (by kernel_rfl) (by kernel_rfl) (by kernel_rfl) (fun _ _ _ h => h) (by kernel_rfl) ?_
  simp only [Act.put, List.setIfInBounds_toArray, List.set_cons_zero, List.set_cons_succ]
  refine wpR_skip (i := 6) (Upd.road _) (some 9) rfl (by kernel_rfl) (by kernel_rfl) (by kernel_rfl) (by kernel_rfl) (by kernel_rfl) (fun _ _ _ h => h) (by kernel_rfl) ?_
  simp only [Act.put, List.setIfInBounds_toArray, List.set_cons_zero, List.set_cons_succ]
  refine wpR_skip (i := 7) (Upd.road _) (some 10) rfl (by kernel_rfl) (by kernel_rfl) (by kernel_rfl) (by kernel_rfl) (by kernel_rfl) (fun _ _ _ h => h) (by kernel_rfl) ?_
  simp only [Act.put, List.setIfInBounds_toArray, List.set_cons_zero, List.set_cons_succ]
  refine wpR_skip (i := 8) (Upd.road _) (some 11) rfl (by kernel_rfl) (by kernel_rfl) (by kernel_rfl) (by kernel_rfl) (by kernel_rfl) (fun _ _ _ h => h) (by kernel_rfl) ?_
  simp only [Act.put, List.setIfInBounds_toArray, List.set_cons_zero, List.set_cons_succ]
  refine wpR_skip (i := 9) (Upd.road _) (some 12) rfl (by kernel_rfl) (by kernel_rfl) (by kernel_rfl) (by kernel_rfl) (by kernel_rfl) (fun _ _ _ h => h) (by kernel_rfl) ?_
  simp only [Act.put, List.setIfInBounds_toArray, List.set_cons_zero, List.set_cons_succ]
  refine wpR_take (i := 10) (v := ?_) (Upd.road _) (some 13) rfl (by kernel_rfl) (by kernel_rfl) (by kernel_rfl) (by kernel_rfl) (by kernel_rfl) (fun _ _ _ h => h) (by kernel_rfl) (fun w' hw' => ?_) ?_
  rotate_left
  · go_simp; with_reducible rfl
  simp only [Act.put, List.setIfInBounds_toArray, List.set_cons_zero, List.set_cons_succ]
  refine wpR_done (by kernel_rfl) ?_ _
  go_wp2_with fail
  go_ret
  exact ⟨by rw [hres.out]; first | done | rfl, hq.out⟩
set_option maxHeartbeats 8000000 in
set_option maxRecDepth 20000 in
theorem rgood_1 (r : Rc) (A : Option Addr) (c : Nat) (hok : r.Ok) (hk : r.kind = 1) (w : World) (h : Rd w w.heap.size A r.data) :
    Calls Try.prog 22 #[r.agg A c] w fun e w' => e = .returned (.bool (goodB r)) ∧ Below w.heap.size w w' := by
  have hq0 := (Below.refl w.heap.size w).alloc (Nat.le_refl _) (.cells #[.int .i64 r.kind, .int .i64 r.cart, .string (bs r.key), .int .i64 r.gen, .int .i64 r.group, .int .i64 r.groups, .int .i64 r.index, .int .i64 r.size, .string (bs r.sum), .slice A r.data.length c] 34)
  have hB0 := heap_alloc_new w (.cells #[.int .i64 r.kind, .int .i64 r.cart, .string (bs r.key), .int .i64 r.gen, .int .i64 r.group, .int .i64 r.groups, .int .i64 r.index, .int .i64 r.size, .string (bs r.sum), .slice A r.data.length c] 34)
  have hR0 := h.up hq0
  obtain ⟨wd, hwd⟩ : ∃ wd, wd = (w.alloc (.cells #[.int .i64 r.kind, .int .i64 r.cart, .string (bs r.key), .int .i64 r.gen, .int .i64 r.group, .int .i64 r.groups, .int .i64 r.index, .int .i64 r.size, .string (bs r.sum), .slice A r.data.length c] 34)).drew := ⟨_, rfl⟩
  have hq : Hid (Below w.heap.size w wd) := Lib.hid (by rw [hwd]; exact hq0.drew)
  have hB : Hid (wd.heap[w.heap.size]? = some (.cells #[.int .i64 r.kind, .int .i64 r.cart, .string (bs r.key), .int .i64 r.gen, .int .i64 r.group, .int .i64 r.groups, .int .i64 r.index, .int .i64 r.size, .string (bs r.sum), .slice A r.data.length c] 34 (0, 0))) := Lib.hid (by rw [hwd]; exact hB0)
  have hR : Hid (Rd wd wd.heap.size A r.data) := Lib.hid (by rw [hwd]; exact hR0.drewN 1)
  obtain ⟨N, hN⟩ : ∃ N, w.heap.size = N := ⟨_, rfl⟩
  rw [hN] at hB
  replace hN := Lib.hid hN
  clear hq0 hB0 hR0 h
  replace hok := Lib.hid hok
  have hkin : Hid (inB r.kind 1 3 = true) := Lib.hid (by rw [hk]; decide)
  have hgd := Lib.hid (goodB_1 r hk)
  have hbare := Lib.hid (rbare1_any r hk A c wd)
  unfold Rc.agg bare1 at hbare
  have d1 : (r.kind == 1) = true := beq_iff_eq.mpr hk
  replace hk := Lib.hid hk
  cases hsv : sameR r (bare1 r) with
  | false =>
    replace hsv := Lib.hid hsv
    have hres : Hid (goodB r = false) := Lib.hid (by rw [hgd.out, hsv.out, Bool.and_false])
    unfold Rc.agg
    go_enter Try.func22, Try.ntmps22
    go_wp2_with fail
    rw [hN.out]
    refine wpR_region (Upd (fun _ => False)) 9999 (by kernel_rfl) ?_
    (rw [← hwd]; replace hwd := Lib.hid hwd)
    refine wpR_take (i := 0) (v := ?_) (Upd.road _) (some 3) rfl (by kernel_rfl) (by kernel_rfl) (by kernel_rfl) (by kernel_rfl) (by kernel_rfl) (fun _ _ _ h => h) (by kernel_rfl) (fun w' hw' => ?_) ?_
    rotate_left
    · go_simp; with_reducible rfl
    simp only [Act.put, List.setIfInBounds_toArray, List.set_cons_zero, List.set_cons_succ]
    refine wpR_take (i := 1) (v := ?_) (Upd.road _) (some 4) rfl (by kernel_rfl) (by kernel_rfl) (by kernel_rfl) (by kernel_rfl) (by kernel_rfl) (fun _ _ _ h => h) (by kernel_rfl) (fun w' hw' => ?_) ?_
    rotate_left
    · have qb := (hw'.2.2.2.2 _ (blk_lt hB.out) (by first | omega | exact (fun h => h))).trans hB.out; have q0 := blk_cell (j := 0) (v := .int .i64 r.kind) qb rfl; clear qb; go_simp; with_reducible rfl
    simp only [Act.put, List.setIfInBounds_toArray, List.set_cons_zero, List.set_cons_succ]
    refine wpR_one 2 rfl (by kernel_rfl) (by kernel_rfl) (fun K hK => ?_)
    go_simp
    refine (rin_any r.kind 1 3 _).mono ?_
    rw [hkin.out]
    rintro e w1 ⟨rfl, rfl⟩
    refine hK _ _ (fun _ => Upd.refl _ _) ?_
    clear hK K
    try simp only [Act.put, List.setIfInBounds_toArray, List.set_cons_zero, List.set_cons_succ]
    refine wpR_take (i := 3) (v := ?_) (Upd.road _) (some 6) rfl (by kernel_rfl) (by kernel_rfl) (by kernel_rfl) (by kernel_rfl) (by kernel_rfl) (fun _ _ _ h => h) (by kernel_rfl) (fun w' hw' => ?_) ?_
    rotate_left
    · go_simp; with_reducible rfl
    simp only [Act.put, List.setIfInBounds_toArray, List.set_cons_zero, List.set_cons_succ]
    refine wpR_take (i := 4) (v := ?_) (Upd.road _) (some 7) rfl (by kernel_rfl) (by kernel_rfl) (by kernel_rfl) (by kernel_rfl) (by kernel_rfl) (fun _ _ _ h => h) (by kernel_rfl) (fun w' hw' => ?_) ?_
    rotate_left
    · go_simp; with_reducible rfl
    simp only [Act.put, List.setIfInBounds_toArray, List.set_cons_zero, List.set_cons_succ]
    refine wpR_take (i := 5) (v := ?_) (Upd.road _) (some 8) rfl (by kernel_rfl) (by kernel_rfl) (by kernel_rfl) (by kernel_rfl) (by kernel_rfl) (fun _ _ _ h => h) (by kernel_rfl) (fun w' hw' => ?_) ?_
    rotate_left
    · have qb := (hw'.2.2.2.2 _ (blk_lt hB.out) (by first | omega | exact (fun h => h))).trans hB.out; have q0 := blk_cell (j := 0) (v := .int .i64 r.kind) qb rfl; have q1 := blk_cell (j := 1) (v := .int .i64 r.cart) qb rfl; have q2 := blk_cell (j := 2) (v := .string (bs r.key)) qb rfl; have q3 := blk_cell (j := 3) (v := .int .i64 r.gen) qb rfl; have q4 := blk_cell (j := 4) (v := .int .i64 r.group) qb rfl; have q5 := blk_cell (j := 5) (v := .int .i64 r.groups) qb rfl; have q6 := blk_cell (j := 6) (v := .int .i64 r.index) qb rfl; have q7 := blk_cell (j := 7) (v := .int .i64 r.size) qb rfl; have q8 := blk_cell (j := 8) (v := .string (bs r.sum)) qb rfl; have q9 := blk_cell (j := 9) (v := .slice A r.data.length c) qb rfl; clear qb; go_simp; with_reducible rfl
    simp only [Act.put, List.setIfInBounds_toArray, List.set_cons_zero, List.set_cons_succ]
    refine wpR_take (i := 6) (v := ?_) (Upd.road _) (some 9) rfl (by kernel_rfl) (by kernel_rfl) (by kernel_rfl) (by kernel_rfl) (by kernel_rfl) (fun _ _ _ h => h) (by kernel_rfl) (fun w' hw' => ?_) ?_
    rotate_left
    · have qb := (hw'.2.2.2.2 _ (blk_lt hB.out) (by first | omega | exact (fun h => h))).trans hB.out; have q0 := blk_cell (j := 0) (v := .int .i64 r.kind) qb rfl; have q1 := blk_cell (j := 1) (v := .int .i64 r.cart) qb rfl; have q2 := blk_cell (j := 2) (v := .string (bs r.key)) qb rfl; have q3 := blk_cell (j := 3) (v := .int .i64 r.gen) qb rfl; have q4 := blk_cell (j := 4) (v := .int .i64 r.group) qb rfl; have q5 := blk_cell (j := 5) (v := .int .i64 r.groups) qb rfl; have q6 := blk_cell (j := 6) (v := .int .i64 r.index) qb rfl; have q7 := blk_cell (j := 7) (v := .int .i64 r.size) qb rfl; have q8 := blk_cell (j := 8) (v := .string (bs r.sum)) qb rfl; have q9 := blk_cell (j := 9) (v := .slice A r.data.length c) qb rfl; clear qb; go_simp; with_reducible rfl
    simp only [Act.put, List.setIfInBounds_toArray, List.set_cons_zero, List.set_cons_succ]
    refine wpR_one 7 rfl (by kernel_rfl) (by kernel_rfl) (fun K hK => ?_)
    go_simp
    refine hbare.out.mono ?_
    rintro e w2 ⟨rfl, hbb⟩
    refine hK _ _ (fun _ => Upd.of_below hbb) ?_
    clear hK K
    replace hq := Lib.hid (hq.out.trans (hbb.mono hq.out.size))
    replace hB := Lib.hid (blk_below hB.out hbb)
    replace hR := Lib.hid (hR.out.up hbb)
    clear hbb
    try simp only [Act.put, List.setIfInBounds_toArray, List.set_cons_zero, List.set_cons_succ]
    refine wpR_one 8 rfl (by kernel_rfl) (by kernel_rfl) (fun K hK => ?_)
    go_simp
    have hsm := rsame_any r (bare1 r) A none c 0 _ hR.out Rd.nil_
    rw [hsv.out] at hsm
    unfold Rc.agg bare1 at hsm
    refine hsm.mono ?_
    rintro e w3 ⟨rfl, hbb⟩
    refine hK _ _ (fun _ => Upd.of_below hbb) ?_
    clear hK K
    clear hsm
    replace hq := Lib.hid (hq.out.trans (hbb.mono hq.out.size))
    replace hB := Lib.hid (blk_below hB.out hbb)
    replace hR := Lib.hid (hR.out.up hbb)
    clear hbb
    try simp only [Act.put, List.setIfInBounds_toArray, List.set_cons_zero, List.set_cons_succ]
    refine wpR_take (i := 9) (v := ?_) (Upd.road _) (some 12) rfl (by kernel_rfl) (by kernel_rfl) (by kernel_rfl) (by kernel_rfl) (by kernel_rfl) (fun _ _ _ h => h) (by kernel_rfl) (fun w' hw' => ?_) ?_
    rotate_left
    · go_simp; with_reducible rfl
    simp only [Act.put, List.setIfInBounds_toArray, List.set_cons_zero, List.set_cons_succ]
    refine wpR_take (i := 10) (v := ?_) (Upd.road _) (some 13) rfl (by kernel_rfl) (by kernel_rfl) (by kernel_rfl) (by kernel_rfl) (by kernel_rfl) (fun _ _ _ h => h) (by kernel_rfl) (fun w' hw' => ?_) ?_
    rotate_left
    · go_simp; with_reducible rfl
    simp only [Act.put, List.setIfInBounds_toArray, List.set_cons_zero, List.set_cons_succ]
    refine wpR_done (by kernel_rfl) ?_ _
    go_wp2_with fail
    go_ret
    exact ⟨by rw [hres.out]; first | done | rfl, hq.out⟩
  | true =>
    replace hsv := Lib.hid hsv
    unfold Rc.agg
    go_enter Try.func22, Try.ntmps22
    go_wp2_with fail
    rw [hN.out]
    refine wpR_region (Upd (fun _ => False)) 9999 (by kernel_rfl) ?_
    (rw [← hwd]; replace hwd := Lib.hid hwd)
    refine wpR_take (i := 0) (v := ?_) (Upd.road _) (some 3) rfl (by kernel_rfl) (by kernel_rfl) (by kernel_rfl) (by kernel_rfl) (by kernel_rfl) (fun _ _ _ h => h) (by kernel_rfl) (fun w' hw' => ?_) ?_
    rotate_left
    · go_simp; with_reducible rfl
    simp only [Act.put, List.setIfInBounds_toArray, List.set_cons_zero, List.set_cons_succ]
    refine wpR_take (i := 1) (v := ?_) (Upd.road _) (some 4) rfl (by kernel_rfl) (by kernel_rfl) (by kernel_rfl) (by kernel_rfl) (by kernel_rfl) (fun _ _ _ h => h) (by kernel_rfl) (fun w' hw' => ?_) ?_
    rotate_left
    · have qb := (hw'.2.2.2.2 _ (blk_lt hB.out) (by first | omega | exact (fun h => h))).trans hB.out; have q0 := blk_cell (j := 0) (v := .int .i64 r.kind) qb rfl; clear qb; go_simp; with_reducible rfl
    simp only [Act.put, List.setIfInBounds_toArray, List.set_cons_zero, List.set_cons_succ]
    refine wpR_one 2 rfl (by kernel_rfl) (by kernel_rfl) (fun K hK => ?_)
    go_simp
    refine (rin_any r.kind 1 3 _).mono ?_
    rw [hkin.out]
    rintro e w1 ⟨rfl, rfl⟩
    refine hK _ _ (fun _ => Upd.refl _ _) ?_
    clear hK K
    try simp only [Act.put, List.setIfInBounds_toArray, List.set_cons_zero, List.set_cons_succ]
    refine wpR_take (i := 3) (v := ?_) (Upd.road _) (some 6) rfl (by kernel_rfl) (by kernel_rfl) (by kernel_rfl) (by kernel_rfl) (by kernel_rfl) (fun _ _ _ h => h) (by kernel_rfl) (fun w' hw' => ?_) ?_
    rotate_left
    · go_simp; with_reducible rfl
    simp only [Act.put, List.setIfInBounds_toArray, List.set_cons_zero, List.set_cons_succ]
    refine wpR_take (i := 4) (v := ?_) (Upd.road _) (some 7) rfl (by kernel_rfl) (by kernel_rfl) (by kernel_rfl) (by kernel_rfl) (by kernel_rfl) (fun _ _ _ h => h) (by kernel_rfl) (fun w' hw' => ?_) ?_
    rotate_left
    · go_simp; with_reducible rfl
    simp only [Act.put, List.setIfInBounds_toArray, List.set_cons_zero, List.set_cons_succ]
    refine wpR_take (i := 5) (v := ?_) (Upd.road _) (some 8) rfl (by kernel_rfl) (by kernel_rfl) (by kernel_rfl) (by kernel_rfl) (by kernel_rfl) (fun _ _ _ h => h) (by kernel_rfl) (fun w' hw' => ?_) ?_
    rotate_left
    · have qb := (hw'.2.2.2.2 _ (blk_lt hB.out) (by first | omega | exact (fun h => h))).trans hB.out; have q0 := blk_cell (j := 0) (v := .int .i64 r.kind) qb rfl; have q1 := blk_cell (j := 1) (v := .int .i64 r.cart) qb rfl; have q2 := blk_cell (j := 2) (v := .string (bs r.key)) qb rfl; have q3 := blk_cell (j := 3) (v := .int .i64 r.gen) qb rfl; have q4 := blk_cell (j := 4) (v := .int .i64 r.group) qb rfl; have q5 := blk_cell (j := 5) (v := .int .i64 r.groups) qb rfl; have q6 := blk_cell (j := 6) (v := .int .i64 r.index) qb rfl; have q7 := blk_cell (j := 7) (v := .int .i64 r.size) qb rfl; have q8 := blk_cell (j := 8) (v := .string (bs r.sum)) qb rfl; have q9 := blk_cell (j := 9) (v := .slice A r.data.length c) qb rfl; clear qb; go_simp; with_reducible rfl
    simp only [Act.put, List.setIfInBounds_toArray, List.set_cons_zero, List.set_cons_succ]
    refine wpR_take (i := 6) (v := ?_) (Upd.road _) (some 9) rfl (by kernel_rfl) (by kernel_rfl) (by kernel_rfl) (by kernel_rfl) (by kernel_rfl) (fun _ _ _ h => h) (by kernel_rfl) (fun w' hw' => ?_) ?_
    rotate_left
    · have qb := (hw'.2.2.2.2 _ (blk_lt hB.out) (by first | omega | exact (fun h => h))).trans hB.out; have q0 := blk_cell (j := 0) (v := .int .i64 r.kind) qb rfl; have q1 := blk_cell (j := 1) (v := .int .i64 r.cart) qb rfl; have q2 := blk_cell (j := 2) (v := .string (bs r.key)) qb rfl; have q3 := blk_cell (j := 3) (v := .int .i64 r.gen) qb rfl; have q4 := blk_cell (j := 4) (v := .int .i64 r.group) qb rfl; have q5 := blk_cell (j := 5) (v := .int .i64 r.groups) qb rfl; have q6 := blk_cell (j := 6) (v := .int .i64 r.index) qb rfl; have q7 := blk_cell (j := 7) (v := .int .i64 r.size) qb rfl; have q8 := blk_cell (j := 8) (v := .string (bs r.sum)) qb rfl; have q9 := blk_cell (j := 9) (v := .slice A r.data.length c) qb rfl; clear qb; go_simp; with_reducible rfl
    simp only [Act.put, List.setIfInBounds_toArray, List.set_cons_zero, List.set_cons_succ]
    refine wpR_one 7 rfl (by kernel_rfl) (by kernel_rfl) (fun K hK => ?_)
    go_simp
    refine hbare.out.mono ?_
    rintro e w2 ⟨rfl, hbb⟩
    refine hK _ _ (fun _ => Upd.of_below hbb) ?_
    clear hK K
    replace hq := Lib.hid (hq.out.trans (hbb.mono hq.out.size))
    replace hB := Lib.hid (blk_below hB.out hbb)
    replace hR := Lib.hid (hR.out.up hbb)
    clear hbb
    try simp only [Act.put, List.setIfInBounds_toArray, List.set_cons_zero, List.set_cons_succ]
    refine wpR_one 8 rfl (by kernel_rfl) (by kernel_rfl) (fun K hK => ?_)
    go_simp
    have hsm := rsame_any r (bare1 r) A none c 0 _ hR.out Rd.nil_
    rw [hsv.out] at hsm
    unfold Rc.agg bare1 at hsm
    refine hsm.mono ?_
    rintro e w3 ⟨rfl, hbb⟩
    refine hK _ _ (fun _ => Upd.of_below hbb) ?_
    clear hK K
    clear hsm
    replace hq := Lib.hid (hq.out.trans (hbb.mono hq.out.size))
    replace hB := Lib.hid (blk_below hB.out hbb)
    replace hR := Lib.hid (hR.out.up hbb)
    clear hbb
    try simp only [Act.put, List.setIfInBounds_toArray, List.set_cons_zero, List.set_cons_succ]
    refine wpR_take (i := 9) (v := ?_) (Upd.road _) (some 12) rfl (by kernel_rfl) (by kernel_rfl) (by kernel_rfl) (by kernel_rfl) (by kernel_rfl) (fun _ _ _ h => h) (by kernel_rfl) (fun w' hw' => ?_) ?_
    rotate_left
    · go_simp; with_reducible rfl
    simp only [Act.put, List.setIfInBounds_toArray, List.set_cons_zero, List.set_cons_succ]
    refine wpR_take (i := 10) (v := ?_) (Upd.road _) (some 13) rfl (by kernel_rfl) (by kernel_rfl) (by kernel_rfl) (by kernel_rfl) (by kernel_rfl) (fun _ _ _ h => h) (by kernel_rfl) (fun w' hw' => ?_) ?_
    rotate_left
    · go_simp; with_reducible rfl
    simp only [Act.put, List.setIfInBounds_toArray, List.set_cons_zero, List.set_cons_succ]
    refine wpR_done (by kernel_rfl) ?_ _
    have hres : Hid (goodB r = inB r.cart 0 31) := Lib.hid (by rw [hgd.out, hsv.out, Bool.and_true])
    have x0 := blk_cell (j := 0) (v := .int .i64 r.kind) hB.out rfl
    have x1 := blk_cell (j := 1) (v := .int .i64 r.cart) hB.out rfl
    have x2 := blk_cell (j := 2) (v := .string (bs r.key)) hB.out rfl
    have x3 := blk_cell (j := 3) (v := .int .i64 r.gen) hB.out rfl
    have x4 := blk_cell (j := 4) (v := .int .i64 r.group) hB.out rfl
    have x5 := blk_cell (j := 5) (v := .int .i64 r.groups) hB.out rfl
    have x6 := blk_cell (j := 6) (v := .int .i64 r.index) hB.out rfl
    have x7 := blk_cell (j := 7) (v := .int .i64 r.size) hB.out rfl
    have x8 := blk_cell (j := 8) (v := .string (bs r.sum)) hB.out rfl
    have x9 := blk_cell (j := 9) (v := .slice A r.data.length c) hB.out rfl
    go_wp2_with fail
    clear x0 x1 x2 x3 x4 x5 x6 x7 x8 x9
    refine (rin_any r.cart 0 31 _).mono ?_
    rintro e w4 ⟨rfl, rfl⟩
    go_wp2_with fail
    go_ret
    exact ⟨by rw [hres.out]; first | done | rfl, hq.out⟩
set_option maxHeartbeats 8000000 in
set_option maxRecDepth 20000 in
theorem rgood_3 (r : Rc) (A : Option Addr) (c : Nat) (hok : r.Ok) (hk : r.kind = 3) (w : World) (h : Rd w w.heap.size A r.data) :
    Calls Try.prog 22 #[r.agg A c] w fun e w' => e = .returned (.bool (goodB r)) ∧ Below w.heap.size w w' := by
  have hq0 := (Below.refl w.heap.size w).alloc (Nat.le_refl _) (.cells #[.int .i64 r.kind, .int .i64 r.cart, .string (bs r.key), .int .i64 r.gen, .int .i64 r.group, .int .i64 r.groups, .int .i64 r.index, .int .i64 r.size, .string (bs r.sum), .slice A r.data.length c] 34)
  have hB0 := heap_alloc_new w (.cells #[.int .i64 r.kind, .int .i64 r.cart, .string (bs r.key), .int .i64 r.gen, .int .i64 r.group, .int .i64 r.groups, .int .i64 r.index, .int .i64 r.size, .string (bs r.sum), .slice A r.data.length c] 34)
  have hR0 := h.up hq0
  obtain ⟨wd, hwd⟩ : ∃ wd, wd = (w.alloc (.cells #[.int .i64 r.kind, .int .i64 r.cart, .string (bs r.key), .int .i64 r.gen, .int .i64 r.group, .int .i64 r.groups, .int .i64 r.index, .int .i64 r.size, .string (bs r.sum), .slice A r.data.length c] 34)).drew := ⟨_, rfl⟩
  have hq : Hid (Below w.heap.size w wd) := Lib.hid (by rw [hwd]; exact hq0.drew)
  have hB : Hid (wd.heap[w.heap.size]? = some (.cells #[.int .i64 r.kind, .int .i64 r.cart, .string (bs r.key), .int .i64 r.gen, .int .i64 r.group, .int .i64 r.groups, .int .i64 r.index, .int .i64 r.size, .string (bs r.sum), .slice A r.data.length c] 34 (0, 0))) := Lib.hid (by rw [hwd]; exact hB0)
  have hR : Hid (Rd wd wd.heap.size A r.data) := Lib.hid (by rw [hwd]; exact hR0.drewN 1)
  obtain ⟨N, hN⟩ : ∃ N, w.heap.size = N := ⟨_, rfl⟩
  rw [hN] at hB
  replace hN := Lib.hid hN
  clear hq0 hB0 hR0 h
  replace hok := Lib.hid hok
  have hkin : Hid (inB r.kind 1 3 = true) := Lib.hid (by rw [hk]; decide)
  have hgd := Lib.hid (goodB_3 r hk)
  have hbare := Lib.hid (rbare3_any r hk A c wd)
  unfold Rc.agg bare3 at hbare
  have d1 : (r.kind == 1) = false := beq_eq_false_iff_ne.mpr (by omega)
  have d3 : (r.kind == 3) = true := beq_iff_eq.mpr hk
  replace hk := Lib.hid hk
  cases hsv : sameR r (bare3 r) with
  | false =>
    replace hsv := Lib.hid hsv
    have hres : Hid (goodB r = false) := Lib.hid (by rw [hgd.out, hsv.out, Bool.and_false])
    unfold Rc.agg
    go_enter Try.func22, Try.ntmps22
    go_wp2_with fail
    rw [hN.out]
    refine wpR_region (Upd (fun _ => False)) 9999 (by kernel_rfl) ?_
    (rw [← hwd]; replace hwd := Lib.hid hwd)
    refine wpR_take (i := 0) (v := ?_) (Upd.road _) (some 3) rfl (by kernel_rfl) (by kernel_rfl) (by kernel_rfl) (by kernel_rfl) (by kernel_rfl) (fun _ _ _ h => h) (by kernel_rfl) (fun w' hw' => ?_) ?_
    rotate_left
    · go_simp; with_reducible rfl
    simp only [Act.put, List.setIfInBounds_toArray, List.set_cons_zero, List.set_cons_succ]
    refine wpR_take (i := 1) (v := ?_) (Upd.road _) (some 4) rfl (by kernel_rfl) (by kernel_rfl) (by kernel_rfl) (by kernel_rfl) (by kernel_rfl) (fun _ _ _ h => h) (by kernel_rfl) (fun w' hw' => ?_) ?_
    rotate_left
    · have qb := (hw'.2.2.2.2 _ (blk_lt hB.out) (by first | omega | exact (fun h => h))).trans hB.out; have q0 := blk_cell (j := 0) (v := .int .i64 r.kind) qb rfl; clear qb; go_simp; with_reducible rfl
    simp only [Act.put, List.setIfInBounds_toArray, List.set_cons_zero, List.set_cons_succ]
    refine wpR_one 2 rfl (by kernel_rfl) (by kernel_rfl) (fun K hK => ?_)
    go_simp
    refine (rin_any r.kind 1 3 _).mono ?_
    rw [hkin.out]
    rintro e w1 ⟨rfl, rfl⟩
    refine hK _ _ (fun _ => Upd.refl _ _) ?_
    clear hK K
    try simp only [Act.put, List.setIfInBounds_toArray, List.set_cons_zero, List.set_cons_succ]
    refine wpR_take (i := 3) (v := ?_) (Upd.road _) (some 6) rfl (by kernel_rfl) (by kernel_rfl) (by kernel_rfl) (by kernel_rfl) (by kernel_rfl) (fun _ _ _ h => h) (by kernel_rfl) (fun w' hw' => ?_) ?_
    rotate_left
    · go_simp; with_reducible rfl
    simp only [Act.put, List.setIfInBounds_toArray, List.set_cons_zero, List.set_cons_succ]
    refine wpR_take (i := 4) (v := ?_) (Upd.road _) (some 7) rfl (by kernel_rfl) (by kernel_rfl) (by kernel_rfl) (by kernel_rfl) (by kernel_rfl) (fun _ _ _ h => h) (by kernel_rfl) (fun w' hw' => ?_) ?_
    rotate_left
    · go_simp; with_reducible rfl
    simp only [Act.put, List.setIfInBounds_toArray, List.set_cons_zero, List.set_cons_succ]
    refine wpR_take (i := 5) (v := ?_) (Upd.road _) (some 8) rfl (by kernel_rfl) (by kernel_rfl) (by kernel_rfl) (by kernel_rfl) (by kernel_rfl) (fun _ _ _ h => h) (by kernel_rfl) (fun w' hw' => ?_) ?_
    rotate_left
    · have qb := (hw'.2.2.2.2 _ (blk_lt hB.out) (by first | omega | exact (fun h => h))).trans hB.out; have q0 := blk_cell (j := 0) (v := .int .i64 r.kind) qb rfl; have q1 := blk_cell (j := 1) (v := .int .i64 r.cart) qb rfl; have q2 := blk_cell (j := 2) (v := .string (bs r.key)) qb rfl; have q3 := blk_cell (j := 3) (v := .int .i64 r.gen) qb rfl; have q4 := blk_cell (j := 4) (v := .int .i64 r.group) qb rfl; have q5 := blk_cell (j := 5) (v := .int .i64 r.groups) qb rfl; have q6 := blk_cell (j := 6) (v := .int .i64 r.index) qb rfl; have q7 := blk_cell (j := 7) (v := .int .i64 r.size) qb rfl; have q8 := blk_cell (j := 8) (v := .string (bs r.sum)) qb rfl; have q9 := blk_cell (j := 9) (v := .slice A r.data.length c) qb rfl; clear qb; go_simp; with_reducible rfl
    simp only [Act.put, List.setIfInBounds_toArray, List.set_cons_zero, List.set_cons_succ]
    refine wpR_take (i := 6) (v := ?_) (Upd.road _) (some 9) rfl (by kernel_rfl) (by kernel_rfl) (by kernel_rfl) (by kernel_rfl) (by kernel_rfl) (fun _ _ _ h => h) (by kernel_rfl) (fun w' hw' => ?_) ?_
    rotate_left
    · have qb := (hw'.2.2.2.2 _ (blk_lt hB.out) (by first | omega | exact (fun h => h))).trans hB.out; have q0 := blk_cell (j := 0) (v := .int .i64 r.kind) qb rfl; have q1 := blk_cell (j := 1) (v := .int .i64 r.cart) qb rfl; have q2 := blk_cell (j := 2) (v := .string (bs r.key)) qb rfl; have q3 := blk_cell (j := 3) (v := .int .i64 r.gen) qb rfl; have q4 := blk_cell (j := 4) (v := .int .i64 r.group) qb rfl; have q5 := blk_cell (j := 5) (v := .int .i64 r.groups) qb rfl; have q6 := blk_cell (j := 6) (v := .int .i64 r.index) qb rfl; have q7 := blk_cell (j := 7) (v := .int .i64 r.size) qb rfl; have q8 := blk_cell (j := 8) (v := .string (bs r.sum)) qb rfl; have q9 := blk_cell (j := 9) (v := .slice A r.data.length c) qb rfl; clear qb; go_simp; with_reducible rfl
    simp only [Act.put, List.setIfInBounds_toArray, List.set_cons_zero, List.set_cons_succ]
    refine wpR_one 7 rfl (by kernel_rfl) (by kernel_rfl) (fun K hK => ?_)
    go_simp
    refine hbare.out.mono ?_
    rintro e w2 ⟨rfl, hbb⟩
    refine hK _ _ (fun _ => Upd.of_below hbb) ?_
    clear hK K
    replace hq := Lib.hid (hq.out.trans (hbb.mono hq.out.size))
    replace hB := Lib.hid (blk_below hB.out hbb)
    replace hR := Lib.hid (hR.out.up hbb)
    clear hbb
    try simp only [Act.put, List.setIfInBounds_toArray, List.set_cons_zero, List.set_cons_succ]
    refine wpR_one 8 rfl (by kernel_rfl) (by kernel_rfl) (fun K hK => ?_)
    go_simp
    have hsm := rsame_any r (bare3 r) A none c 0 _ hR.out Rd.nil_
    rw [hsv.out] at hsm
    unfold Rc.agg bare3 at hsm
    refine hsm.mono ?_
    rintro e w3 ⟨rfl, hbb⟩
    refine hK _ _ (fun _ => Upd.of_below hbb) ?_
    clear hK K
    clear hsm
    replace hq := Lib.hid (hq.out.trans (hbb.mono hq.out.size))
    replace hB := Lib.hid (blk_below hB.out hbb)
    replace hR := Lib.hid (hR.out.up hbb)
    clear hbb
    try simp only [Act.put, List.setIfInBounds_toArray, List.set_cons_zero, List.set_cons_succ]
    refine wpR_take (i := 9) (v := ?_) (Upd.road _) (some 12) rfl (by kernel_rfl) (by kernel_rfl) (by kernel_rfl) (by kernel_rfl) (by kernel_rfl) (fun _ _ _ h => h) (by kernel_rfl) (fun w' hw' => ?_) ?_
    rotate_left
    · go_simp; with_reducible rfl
    simp only [Act.put, List.setIfInBounds_toArray, List.set_cons_zero, List.set_cons_succ]
    refine wpR_take (i := 10) (v := ?_) (Upd.road _) (some 13) rfl (by kernel_rfl) (by kernel_rfl) (by kernel_rfl) (by kernel_rfl) (by kernel_rfl) (fun _ _ _ h => h) (by kernel_rfl) (fun w' hw' => ?_) ?_
    rotate_left
    · go_simp; with_reducible rfl
    simp only [Act.put, List.setIfInBounds_toArray, List.set_cons_zero, List.set_cons_succ]
    refine wpR_done (by kernel_rfl) ?_ _
    go_wp2_with fail
    go_ret
    exact ⟨by rw [hres.out]; first | done | rfl, hq.out⟩
  | true =>
    replace hsv := Lib.hid hsv
    unfold Rc.agg
    go_enter Try.func22, Try.ntmps22
    go_wp2_with fail
    rw [hN.out]
    refine wpR_region (Upd (fun _ => False)) 9999 (by kernel_rfl) ?_
    (rw [← hwd]; replace hwd := Lib.hid hwd)
    refine wpR_take (i := 0) (v := ?_) (Upd.road _) (some 3) rfl (by kernel_rfl) (by kernel_rfl) (by kernel_rfl) (by kernel_rfl) (by kernel_rfl) (fun _ _ _ h => h) (by kernel_rfl) (fun w' hw' => ?_) ?_
    rotate_left
    · go_simp; with_reducible rfl
    simp only [Act.put, List.setIfInBounds_toArray, List.set_cons_zero, List.set_cons_succ]
    refine wpR_take (i := 1) (v := ?_) (Upd.road _) (some 4) rfl (by kernel_rfl) (by kernel_rfl) (by kernel_rfl) (by kernel_rfl) (by kernel_rfl) (fun _ _ _ h => h) (by kernel_rfl) (fun w' hw' => ?_) ?_
    rotate_left
    · have qb := (hw'.2.2.2.2 _ (blk_lt hB.out) (by first | omega | exact (fun h => h))).trans hB.out; have q0 := blk_cell (j := 0) (v := .int .i64 r.kind) qb rfl; clear qb; go_simp; with_reducible rfl
    simp only [Act.put, List.setIfInBounds_toArray, List.set_cons_zero, List.set_cons_succ]
    refine wpR_one 2 rfl (by kernel_rfl) (by kernel_rfl) (fun K hK => ?_)
    go_simp
    refine (rin_any r.kind 1 3 _).mono ?_
    rw [hkin.out]
    rintro e w1 ⟨rfl, rfl⟩
    refine hK _ _ (fun _ => Upd.refl _ _) ?_
    clear hK K
    try simp only [Act.put, List.setIfInBounds_toArray, List.set_cons_zero, List.set_cons_succ]
    refine wpR_take (i := 3) (v := ?_) (Upd.road _) (some 6) rfl (by kernel_rfl) (by kernel_rfl) (by kernel_rfl) (by kernel_rfl) (by kernel_rfl) (fun _ _ _ h => h) (by kernel_rfl) (fun w' hw' => ?_) ?_
    rotate_left
    · go_simp; with_reducible rfl
    simp only [Act.put, List.setIfInBounds_toArray, List.set_cons_zero, List.set_cons_succ]
    refine wpR_take (i := 4) (v := ?_) (Upd.road _) (some 7) rfl (by kernel_rfl) (by kernel_rfl) (by kernel_rfl) (by kernel_rfl) (by kernel_rfl) (fun _ _ _ h => h) (by kernel_rfl) (fun w' hw' => ?_) ?_
    rotate_left
    · go_simp; with_reducible rfl
    simp only [Act.put, List.setIfInBounds_toArray, List.set_cons_zero, List.set_cons_succ]
    refine wpR_take (i := 5) (v := ?_) (Upd.road _) (some 8) rfl (by kernel_rfl) (by kernel_rfl) (by kernel_rfl) (by kernel_rfl) (by kernel_rfl) (fun _ _ _ h => h) (by kernel_rfl) (fun w' hw' => ?_) ?_
    rotate_left
    · have qb := (hw'.2.2.2.2 _ (blk_lt hB.out) (by first | omega | exact (fun h => h))).trans hB.out; have q0 := blk_cell (j := 0) (v := .int .i64 r.kind) qb rfl; have q1 := blk_cell (j := 1) (v := .int .i64 r.cart) qb rfl; have q2 := blk_cell (j := 2) (v := .string (bs r.key)) qb rfl; have q3 := blk_cell (j := 3) (v := .int .i64 r.gen) qb rfl; have q4 := blk_cell (j := 4) (v := .int .i64 r.group) qb rfl; have q5 := blk_cell (j := 5) (v := .int .i64 r.groups) qb rfl; have q6 := blk_cell (j := 6) (v := .int .i64 r.index) qb rfl; have q7 := blk_cell (j := 7) (v := .int .i64 r.size) qb rfl; have q8 := blk_cell (j := 8) (v := .string (bs r.sum)) qb rfl; have q9 := blk_cell (j := 9) (v := .slice A r.data.length c) qb rfl; clear qb; go_simp; with_reducible rfl
    simp only [Act.put, List.setIfInBounds_toArray, List.set_cons_zero, List.set_cons_succ]
    refine wpR_take (i := 6) (v := ?_) (Upd.road _) (some 9) rfl (by kernel_rfl) (by kernel_rfl) (by kernel_rfl) (by kernel_rfl) (by kernel_rfl) (fun _ _ _ h => h) (by kernel_rfl) (fun w' hw' => ?_) ?_
    rotate_left
    · have qb := (hw'.2.2.2.2 _ (blk_lt hB.out) (by first | omega | exact (fun h => h))).trans hB.out; have q0 := blk_cell (j := 0) (v := .int .i64 r.kind) qb rfl; have q1 := blk_cell (j := 1) (v := .int .i64 r.cart) qb rfl; have q2 := blk_cell (j := 2) (v := .string (bs r.key)) qb rfl; have q3 := blk_cell (j := 3) (v := .int .i64 r.gen) qb rfl; have q4 := blk_cell (j := 4) (v := .int .i64 r.group) qb rfl; have q5 := blk_cell (j := 5) (v := .int .i64 r.groups) qb rfl; have q6 := blk_cell (j := 6) (v := .int .i64 r.index) qb rfl; have q7 := blk_cell (j := 7) (v := .int .i64 r.size) qb rfl; have q8 := blk_cell (j := 8) (v := .string (bs r.sum)) qb rfl; have q9 := blk_cell (j := 9) (v := .slice A r.data.length c) qb rfl; clear qb; go_simp; with_reducible rfl
    simp only [Act.put, List.setIfInBounds_toArray, List.set_cons_zero, List.set_cons_succ]
    refine wpR_one 7 rfl (by kernel_rfl) (by kernel_rfl) (fun K hK => ?_)
    go_simp
    refine hbare.out.mono ?_
    rintro e w2 ⟨rfl, hbb⟩
    refine hK _ _ (fun _ => Upd.of_below hbb) ?_
    clear hK K
    replace hq := Lib.hid (hq.out.trans (hbb.mono hq.out.size))
    replace hB := Lib.hid (blk_below hB.out hbb)
    replace hR := Lib.hid (hR.out.up hbb)
    clear hbb
    try simp only [Act.put, List.setIfInBounds_toArray, List.set_cons_zero, List.set_cons_succ]
    refine wpR_one 8 rfl (by kernel_rfl) (by kernel_rfl) (fun K hK => ?_)
    go_simp
    have hsm := rsame_any r (bare3 r) A none c 0 _ hR.out Rd.nil_
    rw [hsv.out] at hsm
    unfold Rc.agg bare3 at hsm
    refine hsm.mono ?_
    rintro e w3 ⟨rfl, hbb⟩
    refine hK _ _ (fun _ => Upd.of_below hbb) ?_
    clear hK K
    clear hsm
    replace hq := Lib.hid (hq.out.trans (hbb.mono hq.out.size))
    replace hB := Lib.hid (blk_below hB.out hbb)
    replace hR := Lib.hid (hR.out.up hbb)
    clear hbb
    try simp only [Act.put, List.setIfInBounds_toArray, List.set_cons_zero, List.set_cons_succ]
    refine wpR_take (i := 9) (v := ?_) (Upd.road _) (some 12) rfl (by kernel_rfl) (by kernel_rfl) (by kernel_rfl) (by kernel_rfl) (by kernel_rfl) (fun _ _ _ h => h) (by kernel_rfl) (fun w' hw' => ?_) ?_
    rotate_left
    · go_simp; with_reducible rfl
    simp only [Act.put, List.setIfInBounds_toArray, List.set_cons_zero, List.set_cons_succ]
    refine wpR_take (i := 10) (v := ?_) (Upd.road _) (some 13) rfl (by kernel_rfl) (by kernel_rfl) (by kernel_rfl) (by kernel_rfl) (by kernel_rfl) (fun _ _ _ h => h) (by kernel_rfl) (fun w' hw' => ?_) ?_
    rotate_left
    · go_simp; with_reducible rfl
    simp only [Act.put, List.setIfInBounds_toArray, List.set_cons_zero, List.set_cons_succ]
    refine wpR_done (by kernel_rfl) ?_ _
    have hres : Hid (goodB r = nameB r) := Lib.hid (by rw [hgd.out, hsv.out, Bool.and_true])
    unfold nameB at hres
    have x0 := blk_cell (j := 0) (v := .int .i64 r.kind) hB.out rfl
    have x1 := blk_cell (j := 1) (v := .int .i64 r.cart) hB.out rfl
    have x2 := blk_cell (j := 2) (v := .string (bs r.key)) hB.out rfl
    have x3 := blk_cell (j := 3) (v := .int .i64 r.gen) hB.out rfl
    have x4 := blk_cell (j := 4) (v := .int .i64 r.group) hB.out rfl
    have x5 := blk_cell (j := 5) (v := .int .i64 r.groups) hB.out rfl
    have x6 := blk_cell (j := 6) (v := .int .i64 r.index) hB.out rfl
    have x7 := blk_cell (j := 7) (v := .int .i64 r.size) hB.out rfl
    have x8 := blk_cell (j := 8) (v := .string (bs r.sum)) hB.out rfl
    have x9 := blk_cell (j := 9) (v := .slice A r.data.length c) hB.out rfl
    cases h1 : inB r.key.length 1 16 with
    | false =>
      rw [h1] at hres
      replace h1 := Lib.hid h1
      go_wp2_with fail
      clear x0 x1 x2 x3 x4 x5 x6 x7 x8 x9
      refine (rin_any _ 1 16 _).mono ?_
      rw [h1.out]
      rintro e w4 ⟨rfl, rfl⟩
      go_wp2_with fail
      go_ret
      exact ⟨by rw [hres.out]; first | done | rfl, hq.out⟩
    | true =>
      rw [h1, Bool.true_and] at hres
      replace h1 := Lib.hid h1
      go_wp2_with fail
      refine (rin_any _ 1 16 _).mono ?_
      rw [h1.out]
      rintro e w4 ⟨rfl, rfl⟩
      cases h2 : inB r.gen 0 1099511627776 with
      | false =>
        rw [h2] at hres
        replace h2 := Lib.hid h2
        go_wp2_with fail
        clear x0 x1 x2 x3 x4 x5 x6 x7 x8 x9
        refine (rin_any _ 0 1099511627776 _).mono ?_
        rw [h2.out]
        rintro e w5 ⟨rfl, rfl⟩
        go_wp2_with fail
        go_ret
        exact ⟨by rw [hres.out]; first | done | rfl, hq.out⟩
      | true =>
        rw [h2] at hres
        replace h2 := Lib.hid h2
        go_wp2_with fail
        refine (rin_any _ 0 1099511627776 _).mono ?_
        rw [h2.out]
        rintro e w5 ⟨rfl, rfl⟩
        go_wp2_with fail
        go_ret
        exact ⟨by rw [hres.out]; first | done | rfl, hq.out⟩
set_option maxHeartbeats 8000000 in
set_option maxRecDepth 20000 in
theorem rgood_2 (r : Rc) (A : Option Addr) (c : Nat) (hok : r.Ok) (hk : r.kind = 2) (w : World) (h : Rd w w.heap.size A r.data) :
    Calls Try.prog 22 #[r.agg A c] w fun e w' => e = .returned (.bool (goodB r)) ∧ Below w.heap.size w w' := by
  have hq0 := (Below.refl w.heap.size w).alloc (Nat.le_refl _) (.cells #[.int .i64 r.kind, .int .i64 r.cart, .string (bs r.key), .int .i64 r.gen, .int .i64 r.group, .int .i64 r.groups, .int .i64 r.index, .int .i64 r.size, .string (bs r.sum), .slice A r.data.length c] 34)
  have hB0 := heap_alloc_new w (.cells #[.int .i64 r.kind, .int .i64 r.cart, .string (bs r.key), .int .i64 r.gen, .int .i64 r.group, .int .i64 r.groups, .int .i64 r.index, .int .i64 r.size, .string (bs r.sum), .slice A r.data.length c] 34)
  have hR0 := h.up hq0
  obtain ⟨wd, hwd⟩ : ∃ wd, wd = (w.alloc (.cells #[.int .i64 r.kind, .int .i64 r.cart, .string (bs r.key), .int .i64 r.gen, .int .i64 r.group, .int .i64 r.groups, .int .i64 r.index, .int .i64 r.size, .string (bs r.sum), .slice A r.data.length c] 34)).drew := ⟨_, rfl⟩
  have hq : Hid (Below w.heap.size w wd) := Lib.hid (by rw [hwd]; exact hq0.drew)
  have hB : Hid (wd.heap[w.heap.size]? = some (.cells #[.int .i64 r.kind, .int .i64 r.cart, .string (bs r.key), .int .i64 r.gen, .int .i64 r.group, .int .i64 r.groups, .int .i64 r.index, .int .i64 r.size, .string (bs r.sum), .slice A r.data.length c] 34 (0, 0))) := Lib.hid (by rw [hwd]; exact hB0)
  have hR : Hid (Rd wd wd.heap.size A r.data) := Lib.hid (by rw [hwd]; exact hR0.drewN 1)
  obtain ⟨N, hN⟩ : ∃ N, w.heap.size = N := ⟨_, rfl⟩
  rw [hN] at hB
  replace hN := Lib.hid hN
  clear hq0 hB0 hR0 h
  replace hok := Lib.hid hok
  have hkin : Hid (inB r.kind 1 3 = true) := Lib.hid (by rw [hk]; decide)
  have hgd := Lib.hid (goodB_2 r hk)
  have hbare := Lib.hid (rbare2_any r hk A c wd)
  unfold Rc.agg bare2 at hbare
  have d1 : (r.kind == 1) = false := beq_eq_false_iff_ne.mpr (by omega)
  have d3 : (r.kind == 3) = false := beq_eq_false_iff_ne.mpr (by omega)
  replace hk := Lib.hid hk
  have hsz := Lib.hid hok.out.size
  cases hsv : sameR r (bare2 r) with
  | false =>
    replace hsv := Lib.hid hsv
    have hres : Hid (goodB r = false) := Lib.hid (by rw [hgd.out, ← same_bare2, hsv.out]; rfl)
    unfold Rc.agg
    go_enter Try.func22, Try.ntmps22
    go_wp2_with fail
    rw [hN.out]
    refine wpR_region (Upd (fun _ => False)) 9999 (by kernel_rfl) ?_
    (rw [← hwd]; replace hwd := Lib.hid hwd)
    refine wpR_take (i := 0) (v := ?_) (Upd.road _) (some 3) rfl (by kernel_rfl) (by kernel_rfl) (by kernel_rfl) (by kernel_rfl) (by kernel_rfl) (fun _ _ _ h => h) (by kernel_rfl) (fun w' hw' => ?_) ?_
    rotate_left
    · go_simp; with_reducible rfl
    simp only [Act.put, List.setIfInBounds_toArray, List.set_cons_zero, List.set_cons_succ]
    refine wpR_take (i := 1) (v := ?_) (Upd.road _) (some 4) rfl (by kernel_rfl) (by kernel_rfl) (by kernel_rfl) (by kernel_rfl) (by kernel_rfl) (fun _ _ _ h => h) (by kernel_rfl) (fun w' hw' => ?_) ?_
    rotate_left
    · have qb := (hw'.2.2.2.2 _ (blk_lt hB.out) (by first | omega | exact (fun h => h))).trans hB.out; have q0 := blk_cell (j := 0) (v := .int .i64 r.kind) qb rfl; clear qb; go_simp; with_reducible rfl
    simp only [Act.put, List.setIfInBounds_toArray, List.set_cons_zero, List.set_cons_succ]
    refine wpR_one 2 rfl (by kernel_rfl) (by kernel_rfl) (fun K hK => ?_)
    go_simp
    refine (rin_any r.kind 1 3 _).mono ?_
    rw [hkin.out]
    rintro e w1 ⟨rfl, rfl⟩
    refine hK _ _ (fun _ => Upd.refl _ _) ?_
    clear hK K
    try simp only [Act.put, List.setIfInBounds_toArray, List.set_cons_zero, List.set_cons_succ]
    refine wpR_take (i := 3) (v := ?_) (Upd.road _) (some 6) rfl (by kernel_rfl) (by kernel_rfl) (by kernel_rfl) (by kernel_rfl) (by kernel_rfl) (fun _ _ _ h => h) (by kernel_rfl) (fun w' hw' => ?_) ?_
    rotate_left
    · go_simp; with_reducible rfl
    simp only [Act.put, List.setIfInBounds_toArray, List.set_cons_zero, List.set_cons_succ]
    refine wpR_take (i := 4) (v := ?_) (Upd.road _) (some 7) rfl (by kernel_rfl) (by kernel_rfl) (by kernel_rfl) (by kernel_rfl) (by kernel_rfl) (fun _ _ _ h => h) (by kernel_rfl) (fun w' hw' => ?_) ?_
    rotate_left
    · go_simp; with_reducible rfl
    simp only [Act.put, List.setIfInBounds_toArray, List.set_cons_zero, List.set_cons_succ]
    refine wpR_take (i := 5) (v := ?_) (Upd.road _) (some 8) rfl (by kernel_rfl) (by kernel_rfl) (by kernel_rfl) (by kernel_rfl) (by kernel_rfl) (fun _ _ _ h => h) (by kernel_rfl) (fun w' hw' => ?_) ?_
    rotate_left
    · have qb := (hw'.2.2.2.2 _ (blk_lt hB.out) (by first | omega | exact (fun h => h))).trans hB.out; have q0 := blk_cell (j := 0) (v := .int .i64 r.kind) qb rfl; have q1 := blk_cell (j := 1) (v := .int .i64 r.cart) qb rfl; have q2 := blk_cell (j := 2) (v := .string (bs r.key)) qb rfl; have q3 := blk_cell (j := 3) (v := .int .i64 r.gen) qb rfl; have q4 := blk_cell (j := 4) (v := .int .i64 r.group) qb rfl; have q5 := blk_cell (j := 5) (v := .int .i64 r.groups) qb rfl; have q6 := blk_cell (j := 6) (v := .int .i64 r.index) qb rfl; have q7 := blk_cell (j := 7) (v := .int .i64 r.size) qb rfl; have q8 := blk_cell (j := 8) (v := .string (bs r.sum)) qb rfl; have q9 := blk_cell (j := 9) (v := .slice A r.data.length c) qb rfl; clear qb; go_simp; with_reducible rfl
    simp only [Act.put, List.setIfInBounds_toArray, List.set_cons_zero, List.set_cons_succ]
    refine wpR_take (i := 6) (v := ?_) (Upd.road _) (some 9) rfl (by kernel_rfl) (by kernel_rfl) (by kernel_rfl) (by kernel_rfl) (by kernel_rfl) (fun _ _ _ h => h) (by kernel_rfl) (fun w' hw' => ?_) ?_
    rotate_left
    · have qb := (hw'.2.2.2.2 _ (blk_lt hB.out) (by first | omega | exact (fun h => h))).trans hB.out; have q0 := blk_cell (j := 0) (v := .int .i64 r.kind) qb rfl; have q1 := blk_cell (j := 1) (v := .int .i64 r.cart) qb rfl; have q2 := blk_cell (j := 2) (v := .string (bs r.key)) qb rfl; have q3 := blk_cell (j := 3) (v := .int .i64 r.gen) qb rfl; have q4 := blk_cell (j := 4) (v := .int .i64 r.group) qb rfl; have q5 := blk_cell (j := 5) (v := .int .i64 r.groups) qb rfl; have q6 := blk_cell (j := 6) (v := .int .i64 r.index) qb rfl; have q7 := blk_cell (j := 7) (v := .int .i64 r.size) qb rfl; have q8 := blk_cell (j := 8) (v := .string (bs r.sum)) qb rfl; have q9 := blk_cell (j := 9) (v := .slice A r.data.length c) qb rfl; clear qb; go_simp; with_reducible rfl
    simp only [Act.put, List.setIfInBounds_toArray, List.set_cons_zero, List.set_cons_succ]
    refine wpR_one 7 rfl (by kernel_rfl) (by kernel_rfl) (fun K hK => ?_)
    go_simp
    refine hbare.out.mono ?_
    rintro e w2 ⟨rfl, hbb⟩
    refine hK _ _ (fun _ => Upd.of_below hbb) ?_
    clear hK K
    replace hq := Lib.hid (hq.out.trans (hbb.mono hq.out.size))
    replace hB := Lib.hid (blk_below hB.out hbb)
    replace hR := Lib.hid (hR.out.up hbb)
    clear hbb
    try simp only [Act.put, List.setIfInBounds_toArray, List.set_cons_zero, List.set_cons_succ]
    refine wpR_one 8 rfl (by kernel_rfl) (by kernel_rfl) (fun K hK => ?_)
    go_simp
    have hsm := rsame_any r (bare2 r) A A c c _ hR.out hR.out
    rw [hsv.out] at hsm
    unfold Rc.agg bare2 at hsm
    refine hsm.mono ?_
    rintro e w3 ⟨rfl, hbb⟩
    refine hK _ _ (fun _ => Upd.of_below hbb) ?_
    clear hK K
    clear hsm
    replace hq := Lib.hid (hq.out.trans (hbb.mono hq.out.size))
    replace hB := Lib.hid (blk_below hB.out hbb)
    replace hR := Lib.hid (hR.out.up hbb)
    clear hbb
    try simp only [Act.put, List.setIfInBounds_toArray, List.set_cons_zero, List.set_cons_succ]
    refine wpR_take (i := 9) (v := ?_) (Upd.road _) (some 12) rfl (by kernel_rfl) (by kernel_rfl) (by kernel_rfl) (by kernel_rfl) (by kernel_rfl) (fun _ _ _ h => h) (by kernel_rfl) (fun w' hw' => ?_) ?_
    rotate_left
    · go_simp; with_reducible rfl
    simp only [Act.put, List.setIfInBounds_toArray, List.set_cons_zero, List.set_cons_succ]
    refine wpR_take (i := 10) (v := ?_) (Upd.road _) (some 13) rfl (by kernel_rfl) (by kernel_rfl) (by kernel_rfl) (by kernel_rfl) (by kernel_rfl) (fun _ _ _ h => h) (by kernel_rfl) (fun w' hw' => ?_) ?_
    rotate_left
    · go_simp; with_reducible rfl
    simp only [Act.put, List.setIfInBounds_toArray, List.set_cons_zero, List.set_cons_succ]
    refine wpR_done (by kernel_rfl) ?_ _
    go_wp2_with fail
    go_ret
    exact ⟨by rw [hres.out]; first | done | rfl, hq.out⟩
  | true =>
    replace hsv := Lib.hid hsv
    unfold Rc.agg
    go_enter Try.func22, Try.ntmps22
    go_wp2_with fail
    rw [hN.out]
    refine wpR_region (Upd (fun _ => False)) 9999 (by kernel_rfl) ?_
    (rw [← hwd]; replace hwd := Lib.hid hwd)
    refine wpR_take (i := 0) (v := ?_) (Upd.road _) (some 3) rfl (by kernel_rfl) (by kernel_rfl) (by kernel_rfl) (by kernel_rfl) (by kernel_rfl) (fun _ _ _ h => h) (by kernel_rfl) (fun w' hw' => ?_) ?_
    rotate_left
    · go_simp; with_reducible rfl
    simp only [Act.put, List.setIfInBounds_toArray, List.set_cons_zero, List.set_cons_succ]
    refine wpR_take (i := 1) (v := ?_) (Upd.road _) (some 4) rfl (by kernel_rfl) (by kernel_rfl) (by kernel_rfl) (by kernel_rfl) (by kernel_rfl) (fun _ _ _ h => h) (by kernel_rfl) (fun w' hw' => ?_) ?_
    rotate_left
    · have qb := (hw'.2.2.2.2 _ (blk_lt hB.out) (by first | omega | exact (fun h => h))).trans hB.out; have q0 := blk_cell (j := 0) (v := .int .i64 r.kind) qb rfl; clear qb; go_simp; with_reducible rfl
    simp only [Act.put, List.setIfInBounds_toArray, List.set_cons_zero, List.set_cons_succ]
    refine wpR_one 2 rfl (by kernel_rfl) (by kernel_rfl) (fun K hK => ?_)
    go_simp
    refine (rin_any r.kind 1 3 _).mono ?_
    rw [hkin.out]
    rintro e w1 ⟨rfl, rfl⟩
    refine hK _ _ (fun _ => Upd.refl _ _) ?_
    clear hK K
    try simp only [Act.put, List.setIfInBounds_toArray, List.set_cons_zero, List.set_cons_succ]
    refine wpR_take (i := 3) (v := ?_) (Upd.road _) (some 6) rfl (by kernel_rfl) (by kernel_rfl) (by kernel_rfl) (by kernel_rfl) (by kernel_rfl) (fun _ _ _ h => h) (by kernel_rfl) (fun w' hw' => ?_) ?_
    rotate_left
    · go_simp; with_reducible rfl
    simp only [Act.put, List.setIfInBounds_toArray, List.set_cons_zero, List.set_cons_succ]
    refine wpR_take (i := 4) (v := ?_) (Upd.road _) (some 7) rfl (by kernel_rfl) (by kernel_rfl) (by kernel_rfl) (by kernel_rfl) (by kernel_rfl) (fun _ _ _ h => h) (by kernel_rfl) (fun w' hw' => ?_) ?_
    rotate_left
    · go_simp; with_reducible rfl
    simp only [Act.put, List.setIfInBounds_toArray, List.set_cons_zero, List.set_cons_succ]
    refine wpR_take (i := 5) (v := ?_) (Upd.road _) (some 8) rfl (by kernel_rfl) (by kernel_rfl) (by kernel_rfl) (by kernel_rfl) (by kernel_rfl) (fun _ _ _ h => h) (by kernel_rfl) (fun w' hw' => ?_) ?_
    rotate_left
    · have qb := (hw'.2.2.2.2 _ (blk_lt hB.out) (by first | omega | exact (fun h => h))).trans hB.out; have q0 := blk_cell (j := 0) (v := .int .i64 r.kind) qb rfl; have q1 := blk_cell (j := 1) (v := .int .i64 r.cart) qb rfl; have q2 := blk_cell (j := 2) (v := .string (bs r.key)) qb rfl; have q3 := blk_cell (j := 3) (v := .int .i64 r.gen) qb rfl; have q4 := blk_cell (j := 4) (v := .int .i64 r.group) qb rfl; have q5 := blk_cell (j := 5) (v := .int .i64 r.groups) qb rfl; have q6 := blk_cell (j := 6) (v := .int .i64 r.index) qb rfl; have q7 := blk_cell (j := 7) (v := .int .i64 r.size) qb rfl; have q8 := blk_cell (j := 8) (v := .string (bs r.sum)) qb rfl; have q9 := blk_cell (j := 9) (v := .slice A r.data.length c) qb rfl; clear qb; go_simp; with_reducible rfl
    simp only [Act.put, List.setIfInBounds_toArray, List.set_cons_zero, List.set_cons_succ]
    refine wpR_take (i := 6) (v := ?_) (Upd.road _) (some 9) rfl (by kernel_rfl) (by kernel_rfl) (by kernel_rfl) (by kernel_rfl) (by kernel_rfl) (fun _ _ _ h => h) (by kernel_rfl) (fun w' hw' => ?_) ?_
    rotate_left
    · have qb := (hw'.2.2.2.2 _ (blk_lt hB.out) (by first | omega | exact (fun h => h))).trans hB.out; have q0 := blk_cell (j := 0) (v := .int .i64 r.kind) qb rfl; have q1 := blk_cell (j := 1) (v := .int .i64 r.cart) qb rfl; have q2 := blk_cell (j := 2) (v := .string (bs r.key)) qb rfl; have q3 := blk_cell (j := 3) (v := .int .i64 r.gen) qb rfl; have q4 := blk_cell (j := 4) (v := .int .i64 r.group) qb rfl; have q5 := blk_cell (j := 5) (v := .int .i64 r.groups) qb rfl; have q6 := blk_cell (j := 6) (v := .int .i64 r.index) qb rfl; have q7 := blk_cell (j := 7) (v := .int .i64 r.size) qb rfl; have q8 := blk_cell (j := 8) (v := .string (bs r.sum)) qb rfl; have q9 := blk_cell (j := 9) (v := .slice A r.data.length c) qb rfl; clear qb; go_simp; with_reducible rfl
    simp only [Act.put, List.setIfInBounds_toArray, List.set_cons_zero, List.set_cons_succ]
    refine wpR_one 7 rfl (by kernel_rfl) (by kernel_rfl) (fun K hK => ?_)
    go_simp
    refine hbare.out.mono ?_
    rintro e w2 ⟨rfl, hbb⟩
    refine hK _ _ (fun _ => Upd.of_below hbb) ?_
    clear hK K
    replace hq := Lib.hid (hq.out.trans (hbb.mono hq.out.size))
    replace hB := Lib.hid (blk_below hB.out hbb)
    replace hR := Lib.hid (hR.out.up hbb)
    clear hbb
    try simp only [Act.put, List.setIfInBounds_toArray, List.set_cons_zero, List.set_cons_succ]
    refine wpR_one 8 rfl (by kernel_rfl) (by kernel_rfl) (fun K hK => ?_)
    go_simp
    have hsm := rsame_any r (bare2 r) A A c c _ hR.out hR.out
    rw [hsv.out] at hsm
    unfold Rc.agg bare2 at hsm
    refine hsm.mono ?_
    rintro e w3 ⟨rfl, hbb⟩
    refine hK _ _ (fun _ => Upd.of_below hbb) ?_
    clear hK K
    clear hsm
    replace hq := Lib.hid (hq.out.trans (hbb.mono hq.out.size))
    replace hB := Lib.hid (blk_below hB.out hbb)
    replace hR := Lib.hid (hR.out.up hbb)
    clear hbb
    try simp only [Act.put, List.setIfInBounds_toArray, List.set_cons_zero, List.set_cons_succ]
    refine wpR_take (i := 9) (v := ?_) (Upd.road _) (some 12) rfl (by kernel_rfl) (by kernel_rfl) (by kernel_rfl) (by kernel_rfl) (by kernel_rfl) (fun _ _ _ h => h) (by kernel_rfl) (fun w' hw' => ?_) ?_
    rotate_left
    · go_simp; with_reducible rfl
    simp only [Act.put, List.setIfInBounds_toArray, List.set_cons_zero, List.set_cons_succ]
    refine wpR_take (i := 10) (v := ?_) (Upd.road _) (some 13) rfl (by kernel_rfl) (by kernel_rfl) (by kernel_rfl) (by kernel_rfl) (by kernel_rfl) (fun _ _ _ h => h) (by kernel_rfl) (fun w' hw' => ?_) ?_
    rotate_left
    · go_simp; with_reducible rfl
    simp only [Act.put, List.setIfInBounds_toArray, List.set_cons_zero, List.set_cons_succ]
    refine wpR_done (by kernel_rfl) ?_ _
    have hres : Hid (goodB r = (nameB r && shardB r)) := Lib.hid (by rw [hgd.out, ← same_bare2, hsv.out, Bool.true_and])
    unfold nameB at hres
    have x0 := blk_cell (j := 0) (v := .int .i64 r.kind) hB.out rfl
    have x1 := blk_cell (j := 1) (v := .int .i64 r.cart) hB.out rfl
    have x2 := blk_cell (j := 2) (v := .string (bs r.key)) hB.out rfl
    have x3 := blk_cell (j := 3) (v := .int .i64 r.gen) hB.out rfl
    have x4 := blk_cell (j := 4) (v := .int .i64 r.group) hB.out rfl
    have x5 := blk_cell (j := 5) (v := .int .i64 r.groups) hB.out rfl
    have x6 := blk_cell (j := 6) (v := .int .i64 r.index) hB.out rfl
    have x7 := blk_cell (j := 7) (v := .int .i64 r.size) hB.out rfl
    have x8 := blk_cell (j := 8) (v := .string (bs r.sum)) hB.out rfl
    have x9 := blk_cell (j := 9) (v := .slice A r.data.length c) hB.out rfl
    cases h1 : inB r.key.length 1 16 with
    | false =>
      rw [h1] at hres
      replace h1 := Lib.hid h1
      go_wp2_with fail
      clear x0 x1 x2 x3 x4 x5 x6 x7 x8 x9
      refine (rin_any _ 1 16 _).mono ?_
      rw [h1.out]
      rintro e w4 ⟨rfl, rfl⟩
      go_wp2_with fail
      go_ret
      exact ⟨by rw [hres.out]; first | done | rfl, hq.out⟩
    | true =>
      rw [h1, Bool.true_and] at hres
      replace h1 := Lib.hid h1
      go_wp2_with fail
      refine (rin_any _ 1 16 _).mono ?_
      rw [h1.out]
      rintro e w4 ⟨rfl, rfl⟩
      cases h2 : inB r.gen 0 1099511627776 with
      | false =>
        rw [h2] at hres
        replace h2 := Lib.hid h2
        go_wp2_with fail
        clear x0 x1 x2 x3 x4 x5 x6 x7 x8 x9
        refine (rin_any _ 0 1099511627776 _).mono ?_
        rw [h2.out]
        rintro e w5 ⟨rfl, rfl⟩
        go_wp2_with fail
        go_ret
        exact ⟨by rw [hres.out]; first | done | rfl, hq.out⟩
      | true =>
        rw [h2] at hres
        replace h2 := Lib.hid h2
        go_wp2_with fail
        refine (rin_any _ 0 1099511627776 _).mono ?_
        rw [h2.out]
        rintro e w5 ⟨rfl, rfl⟩
        unfold shardB at hres
        go_wp2_with fail
        cases g0 : inB r.size 0 512 with
        | false =>
          rw [g0] at hres
          have hsz1 : (0:Int) ≤ 0 := by decide
          go_quiet ((first | (go_at_call 40; exact Calls.quiet_of_same (rin_any _ _ _ _)) | (go_at_call 42; exact Calls.quiet_of_same (groups_any _ hsz.out _))))
          go_wp2_with fail
          go_ret
          exact ⟨by rw [hres.out]; first | done | rfl, ⟨hq.out.os, hq.out.tape, hq.out.output, hq.out.size, hq.out.block⟩⟩
        | true =>
          have hsz12 : 0 ≤ r.size ∧ r.size ≤ 512 := by have := g0; unfold inB at this; simpa using this
          obtain ⟨hsz1, hsz2⟩ := hsz12
          have hgb := groupsOf_bd r.size g0
          rw [g0, Bool.true_and] at hres
          cases g1 : (r.groups == groupsOf r.size) with
          | false =>
            rw [g1] at hres
            replace hgb := Lib.hid hgb
            go_quiet ((first | (go_at_call 40; exact Calls.quiet_of_same (rin_any _ _ _ _)) | (go_at_call 42; exact Calls.quiet_of_same (rgroups_any _ hsz1 hsz2 _))))
            go_wp2_with fail
            go_ret
            exact ⟨by rw [hres.out]; first | done | rfl, ⟨hq.out.os, hq.out.tape, hq.out.output, hq.out.size, hq.out.block⟩⟩
          | true =>
            rw [g1, Bool.true_and] at hres
            have hg12 : 1 ≤ r.groups ∧ r.groups ≤ 5 := by have := beq_iff_eq.mp g1; omega
            obtain ⟨hg1, hg2⟩ := hg12
            replace hgb := Lib.hid hgb
            by_cases k0 : 0 ≤ r.group
            · by_cases k1 : r.group < r.groups
              · have e0 : decide (0 ≤ r.group) = true := decide_eq_true k0
                have e1 : decide (r.group < r.groups) = true := decide_eq_true k1
                have e2 : inB r.group 0 (r.groups - 1) = true := by unfold inB; simp; omega
                rw [e2, Bool.true_and] at hres
                replace e2 := Lib.hid e2
                cases g4 : inB r.index 0 9 with
                | false =>
                  rw [g4] at hres
                  go_quiet ((first | (go_at_call 40; exact Calls.quiet_of_same (rin_any _ _ _ _)) | (go_at_call 42; exact Calls.quiet_of_same (rgroups_any _ hsz1 hsz2 _))))
                  go_wp2_with fail
                  go_ret
                  exact ⟨by rw [hres.out]; first | done | rfl, ⟨hq.out.os, hq.out.tape, hq.out.output, hq.out.size, hq.out.block⟩⟩
                | true =>
                  rw [g4, Bool.true_and] at hres
                  cases g5 : ((r.sum.length : Int) == 32) with
                  | false =>
                    rw [g5] at hres
                    go_quiet ((first | (go_at_call 40; exact Calls.quiet_of_same (rin_any _ _ _ _)) | (go_at_call 42; exact Calls.quiet_of_same (rgroups_any _ hsz1 hsz2 _))))
                    go_wp2_with fail
                    go_ret
                    exact ⟨by rw [hres.out]; first | done | rfl, ⟨hq.out.os, hq.out.tape, hq.out.output, hq.out.size, hq.out.block⟩⟩
                  | true =>
                    rw [g5, Bool.true_and] at hres
                    cases g6 : ((r.data.length : Int) == 16) with
                    | false =>
                      rw [g6] at hres
                      go_quiet ((first | (go_at_call 40; exact Calls.quiet_of_same (rin_any _ _ _ _)) | (go_at_call 42; exact Calls.quiet_of_same (rgroups_any _ hsz1 hsz2 _))))
                      go_wp2_with fail
                      go_ret
                      exact ⟨by rw [hres.out]; first | done | rfl, ⟨hq.out.os, hq.out.tape, hq.out.output, hq.out.size, hq.out.block⟩⟩
                    | true =>
                      rw [g6] at hres
                      go_quiet ((first | (go_at_call 40; exact Calls.quiet_of_same (rin_any _ _ _ _)) | (go_at_call 42; exact Calls.quiet_of_same (rgroups_any _ hsz1 hsz2 _))))
                      go_wp2_with fail
                      go_ret
                      exact ⟨by rw [hres.out]; first | done | rfl, ⟨hq.out.os, hq.out.tape, hq.out.output, hq.out.size, hq.out.block⟩⟩
              · have e0 : decide (0 ≤ r.group) = true := decide_eq_true k0
                have e1 : decide (r.group < r.groups) = false := decide_eq_false k1
                have e2 : inB r.group 0 (r.groups - 1) = false := by unfold inB; simp; omega
                rw [e2] at hres
                replace e2 := Lib.hid e2
                go_quiet ((first | (go_at_call 40; exact Calls.quiet_of_same (rin_any _ _ _ _)) | (go_at_call 42; exact Calls.quiet_of_same (rgroups_any _ hsz1 hsz2 _))))
                go_wp2_with fail
                go_ret
                exact ⟨by rw [hres.out]; first | done | rfl, ⟨hq.out.os, hq.out.tape, hq.out.output, hq.out.size, hq.out.block⟩⟩
            · have e0 : decide (0 ≤ r.group) = false := decide_eq_false k0
              have e2 : inB r.group 0 (r.groups - 1) = false := by unfold inB; simp; omega
              rw [e2] at hres
              replace e2 := Lib.hid e2
              go_quiet ((first | (go_at_call 40; exact Calls.quiet_of_same (rin_any _ _ _ _)) | (go_at_call 42; exact Calls.quiet_of_same (rgroups_any _ hsz1 hsz2 _))))
              go_wp2_with fail
              go_ret
              exact ⟨by rw [hres.out]; first | done | rfl, ⟨hq.out.os, hq.out.tape, hq.out.output, hq.out.size, hq.out.block⟩⟩
theorem rgood_any (r : Rc) (A : Option Addr) (c : Nat) (hok : r.Ok) (w : World) (h : Rd w w.heap.size A r.data) :
    Calls Try.prog 22 #[r.agg A c] w fun e w' => e = .returned (.bool (goodB r)) ∧ Below w.heap.size w w' := by
  cases hk : inB r.kind 1 3 with
  | false => exact rgood_no r A c hok hk w h
  | true =>
    have h2 : 1 ≤ r.kind ∧ r.kind ≤ 3 := by unfold inB at hk; simpa using hk
    by_cases h1 : r.kind = 1
    · exact rgood_1 r A c hok h1 w h
    · by_cases h3 : r.kind = 3
      · exact rgood_3 r A c hok h3 w h
      · exact rgood_2 r A c hok (by omega) w h
end Go.Proofs.Yticdkmnjolkacab
