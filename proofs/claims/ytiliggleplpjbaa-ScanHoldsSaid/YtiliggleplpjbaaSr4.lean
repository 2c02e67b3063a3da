/- The reference's bare: of a shard. -/
import Derived.Test.YtiliggleplpjbaaSr3
import Derived.Test.YtiliggleplpjbaaReg2
namespace Go.Proofs.Ytiliggleplpjbaa
set_option linter.unusedVariables false
set_option linter.unusedSimpArgs false
open Go Go.RowKit
theorem setLo {lo : Nat} {w0 w : World} (hb : Below lo w0 w) {g j : Nat} (hg : lo ≤ g) (u : Value) : Below lo w0 (w.setCell ⟨g, j, none⟩ u) := hb.setCell (p := ⟨g, j, none⟩) hg u
theorem setLo10 {lo : Nat} {w0 w : World} (h : Below lo w0 w) {g : Nat} (hg : lo ≤ g) (a0 a1 a2 a3 a4 a5 a6 a7 a8 a9 : Value) : Below lo w0 ((((((((((w.setCell ⟨g, 0, none⟩ a0).setCell ⟨g, 1, none⟩ a1).setCell ⟨g, 2, none⟩ a2).setCell ⟨g, 3, none⟩ a3).setCell ⟨g, 4, none⟩ a4).setCell ⟨g, 5, none⟩ a5).setCell ⟨g, 6, none⟩ a6).setCell ⟨g, 7, none⟩ a7).setCell ⟨g, 8, none⟩ a8).setCell ⟨g, 9, none⟩ a9) := (setLo (setLo (setLo (setLo (setLo (setLo (setLo (setLo (setLo (setLo h (g := g) (j := 0) hg a0) (g := g) (j := 1) hg a1) (g := g) (j := 2) hg a2) (g := g) (j := 3) hg a3) (g := g) (j := 4) hg a4) (g := g) (j := 5) hg a5) (g := g) (j := 6) hg a6) (g := g) (j := 7) hg a7) (g := g) (j := 8) hg a8) (g := g) (j := 9) hg a9)
theorem blk_set10 {w : World} {g : Nat} {T : TypeId} {z0 z1 z2 z3 z4 z5 z6 z7 z8 z9 : Value} (h : w.heap[g]? = some (.cells #[z0, z1, z2, z3, z4, z5, z6, z7, z8, z9] T (0, 0))) (a0 a1 a2 a3 a4 a5 a6 a7 a8 a9 : Value) : ((((((((((w.setCell ⟨g, 0, none⟩ a0).setCell ⟨g, 1, none⟩ a1).setCell ⟨g, 2, none⟩ a2).setCell ⟨g, 3, none⟩ a3).setCell ⟨g, 4, none⟩ a4).setCell ⟨g, 5, none⟩ a5).setCell ⟨g, 6, none⟩ a6).setCell ⟨g, 7, none⟩ a7).setCell ⟨g, 8, none⟩ a8).setCell ⟨g, 9, none⟩ a9).heap[g]? = some (.cells #[a0, a1, a2, a3, a4, a5, a6, a7, a8, a9] T (0, 0)) := by
  have h10 := (blk_set (blk_set (blk_set (blk_set (blk_set (blk_set (blk_set (blk_set (blk_set (blk_set h 0 a0) 1 a1) 2 a2) 3 a3) 4 a4) 5 a5) 6 a6) 7 a7) 8 a8) 9 a9)
  simpa using h10
def bare2 (r : Rc) : Rc := ⟨r.kind, 0, r.key, r.gen, r.group, r.groups, r.index, r.size, r.sum, r.data⟩
set_option maxHeartbeats 8000000 in
set_option maxRecDepth 20000 in
theorem rbare2_any (r : Rc) (hk : r.kind = 2) (A : Option Addr) (c : Nat) (w : World) :
    Calls Try.prog 65 #[r.agg A c] w fun e w' => e = .returned ((bare2 r).agg A c) ∧ Below w.heap.size w w' := by
  have hres : Hid ((bare2 r).agg A c = (.agg #[.int .i64 r.kind, .int .i64 0, .string (bs r.key), .int .i64 r.gen, .int .i64 r.group, .int .i64 r.groups, .int .i64 r.index, .int .i64 r.size, .string (bs r.sum), .slice A r.data.length c])) := Lib.hid (by unfold bare2 Rc.agg; rfl)
  rw [hres.out]
  have d1 : (r.kind == 1) = false := beq_eq_false_iff_ne.mpr (by omega)
  have d2 : (r.kind == 2) = true := beq_iff_eq.mpr hk
  replace hk := Lib.hid hk
  have hb1 := (Below.refl w.heap.size w).alloc (Nat.le_refl _) (.cells #[.int .i64 r.kind, .int .i64 r.cart, .string (bs r.key), .int .i64 r.gen, .int .i64 r.group, .int .i64 r.groups, .int .i64 r.index, .int .i64 r.size, .string (bs r.sum), .slice A r.data.length c] 37)
  have hb2 := hb1.alloc hb1.size (.cells #[.int .i64 0, .int .i64 0, .string ⟨#[]⟩, .int .i64 0, .int .i64 0, .int .i64 0, .int .i64 0, .int .i64 0, .string ⟨#[]⟩, .slice none 0 0] 37)
  have hb3 := hb2.alloc hb2.size (.cells #[.int .i64 r.kind, .int .i64 0, .string (bs r.key), .int .i64 r.gen, .int .i64 0, .int .i64 0, .int .i64 0, .int .i64 0, .string ⟨#[]⟩, .slice none 0 0] 37)
  have hB := blk_alloc (blk_alloc (heap_alloc_new w (.cells #[.int .i64 r.kind, .int .i64 r.cart, .string (bs r.key), .int .i64 r.gen, .int .i64 r.group, .int .i64 r.groups, .int .i64 r.index, .int .i64 r.size, .string (bs r.sum), .slice A r.data.length c] 37)) (.cells #[.int .i64 0, .int .i64 0, .string ⟨#[]⟩, .int .i64 0, .int .i64 0, .int .i64 0, .int .i64 0, .int .i64 0, .string ⟨#[]⟩, .slice none 0 0] 37)) (.cells #[.int .i64 r.kind, .int .i64 0, .string (bs r.key), .int .i64 r.gen, .int .i64 0, .int .i64 0, .int .i64 0, .int .i64 0, .string ⟨#[]⟩, .slice none 0 0] 37)
  have hZ := blk_alloc (heap_alloc_new (w.alloc (.cells #[.int .i64 r.kind, .int .i64 r.cart, .string (bs r.key), .int .i64 r.gen, .int .i64 r.group, .int .i64 r.groups, .int .i64 r.index, .int .i64 r.size, .string (bs r.sum), .slice A r.data.length c] 37)) (.cells #[.int .i64 0, .int .i64 0, .string ⟨#[]⟩, .int .i64 0, .int .i64 0, .int .i64 0, .int .i64 0, .int .i64 0, .string ⟨#[]⟩, .slice none 0 0] 37)) (.cells #[.int .i64 r.kind, .int .i64 0, .string (bs r.key), .int .i64 r.gen, .int .i64 0, .int .i64 0, .int .i64 0, .int .i64 0, .string ⟨#[]⟩, .slice none 0 0] 37)
  have hO := heap_alloc_new ((w.alloc (.cells #[.int .i64 r.kind, .int .i64 r.cart, .string (bs r.key), .int .i64 r.gen, .int .i64 r.group, .int .i64 r.groups, .int .i64 r.index, .int .i64 r.size, .string (bs r.sum), .slice A r.data.length c] 37)).alloc (.cells #[.int .i64 0, .int .i64 0, .string ⟨#[]⟩, .int .i64 0, .int .i64 0, .int .i64 0, .int .i64 0, .int .i64 0, .string ⟨#[]⟩, .slice none 0 0] 37)) (.cells #[.int .i64 r.kind, .int .i64 0, .string (bs r.key), .int .i64 r.gen, .int .i64 0, .int .i64 0, .int .i64 0, .int .i64 0, .string ⟨#[]⟩, .slice none 0 0] 37)
  have hsz : (w.alloc (.cells #[.int .i64 r.kind, .int .i64 r.cart, .string (bs r.key), .int .i64 r.gen, .int .i64 r.group, .int .i64 r.groups, .int .i64 r.index, .int .i64 r.size, .string (bs r.sum), .slice A r.data.length c] 37)).heap.size = w.heap.size + 1 := by simp
  have hsz2 : ((w.alloc (.cells #[.int .i64 r.kind, .int .i64 r.cart, .string (bs r.key), .int .i64 r.gen, .int .i64 r.group, .int .i64 r.groups, .int .i64 r.index, .int .i64 r.size, .string (bs r.sum), .slice A r.data.length c] 37)).alloc (.cells #[.int .i64 0, .int .i64 0, .string ⟨#[]⟩, .int .i64 0, .int .i64 0, .int .i64 0, .int .i64 0, .int .i64 0, .string ⟨#[]⟩, .slice none 0 0] 37)).heap.size = w.heap.size + 2 := by simp
  rw [hsz] at hZ
  rw [hsz2] at hO
  obtain ⟨N, hN⟩ : ∃ N, w.heap.size = N := ⟨_, rfl⟩
  rw [hN] at hB hZ hO hb3 ⊢
  obtain ⟨wd, hwd⟩ : ∃ wd, wd = (((w.alloc (.cells #[.int .i64 r.kind, .int .i64 r.cart, .string (bs r.key), .int .i64 r.gen, .int .i64 r.group, .int .i64 r.groups, .int .i64 r.index, .int .i64 r.size, .string (bs r.sum), .slice A r.data.length c] 37)).alloc (.cells #[.int .i64 0, .int .i64 0, .string ⟨#[]⟩, .int .i64 0, .int .i64 0, .int .i64 0, .int .i64 0, .int .i64 0, .string ⟨#[]⟩, .slice none 0 0] 37)).alloc (.cells #[.int .i64 r.kind, .int .i64 0, .string (bs r.key), .int .i64 r.gen, .int .i64 0, .int .i64 0, .int .i64 0, .int .i64 0, .string ⟨#[]⟩, .slice none 0 0] 37)).drew := ⟨_, rfl⟩
  have hB0 : Hid (wd.heap[N]? = some (.cells #[.int .i64 r.kind, .int .i64 r.cart, .string (bs r.key), .int .i64 r.gen, .int .i64 r.group, .int .i64 r.groups, .int .i64 r.index, .int .i64 r.size, .string (bs r.sum), .slice A r.data.length c] 37 (0, 0))) := Lib.hid (by rw [hwd]; exact hB)
  have hZ0 : Hid (wd.heap[N + 1]? = some (.cells #[.int .i64 0, .int .i64 0, .string ⟨#[]⟩, .int .i64 0, .int .i64 0, .int .i64 0, .int .i64 0, .int .i64 0, .string ⟨#[]⟩, .slice none 0 0] 37 (0, 0))) := Lib.hid (by rw [hwd]; exact hZ)
  have hO0 : Hid (wd.heap[N + 2]? = some (.cells #[.int .i64 r.kind, .int .i64 0, .string (bs r.key), .int .i64 r.gen, .int .i64 0, .int .i64 0, .int .i64 0, .int .i64 0, .string ⟨#[]⟩, .slice none 0 0] 37 (0, 0))) := Lib.hid (by rw [hwd]; exact hO)
  have hq0 : Hid (Below N w wd) := Lib.hid (by rw [hwd]; exact hb3.drew)
  have z4 := blk_cell (j := 4) (v := .int .i64 0) hO0.out rfl
  have f4 := blk_free hO0.out 4
  clear hb1 hb2 hb3 hB hZ hO hsz hsz2
  replace hN := Lib.hid hN
  unfold Rc.agg
  go_enter Try.func65, Try.ntmps65
  go_wp2_with fail
  rw [hN.out]
  refine wpR_region (Upd (fun k => k = N + 2)) 23 (by kernel_rfl) ?_
  (rw [← hwd]; replace hwd := Lib.hid hwd)
  refine wpR_take (i := 0) (v := ?_) (Upd.road _) (some 20) rfl (by kernel_rfl) (by kernel_rfl) (by kernel_rfl) (by kernel_rfl) (by kernel_rfl) (fun _ _ _ h => h) (by kernel_rfl) (fun w' hw' => ?_) ?_
  rotate_left
  · go_simp; with_reducible rfl
  simp only [Act.put, List.setIfInBounds_toArray, List.set_cons_zero, List.set_cons_succ]
  refine wpR_take (i := 1) (v := ?_) (Upd.road _) (some 21) rfl (by kernel_rfl) (by kernel_rfl) (by kernel_rfl) (by kernel_rfl) (by kernel_rfl) (fun _ _ _ h => h) (by kernel_rfl) (fun w' hw' => ?_) ?_
  rotate_left
  · have q := blk_cell (j := 4) (v := .int .i64 r.group) ((hw'.2.2.2.2 N (blk_lt hB0.out) (by omega)).trans hB0.out) rfl; go_simp; with_reducible rfl
  simp only [Act.put, List.setIfInBounds_toArray, List.set_cons_zero, List.set_cons_succ]
  refine wpR_take (i := 2) (v := ?_) (Upd.road _) (some 22) rfl (by kernel_rfl) (by kernel_rfl) (by kernel_rfl) (by kernel_rfl) (by kernel_rfl) (fun _ _ _ h => h) (by kernel_rfl) (fun w' hw' => ?_) ?_
  rotate_left
  · go_simp; with_reducible rfl
  simp only [Act.put, List.setIfInBounds_toArray, List.set_cons_zero, List.set_cons_succ]
  refine wpR_take (i := 3) (v := ?_) (Upd.road _) (some 23) rfl (by kernel_rfl) (by kernel_rfl) (by kernel_rfl) (by kernel_rfl) (by kernel_rfl) (fun _ _ _ h => h) (by kernel_rfl) (fun w' hw' => ?_) ?_
  rotate_left
  · have q := blk_cell (j := 5) (v := .int .i64 r.groups) ((hw'.2.2.2.2 N (blk_lt hB0.out) (by omega)).trans hB0.out) rfl; go_simp; with_reducible rfl
  simp only [Act.put, List.setIfInBounds_toArray, List.set_cons_zero, List.set_cons_succ]
  refine wpR_take (i := 4) (v := ?_) (Upd.road _) (some 24) rfl (by kernel_rfl) (by kernel_rfl) (by kernel_rfl) (by kernel_rfl) (by kernel_rfl) (fun _ _ _ h => h) (by kernel_rfl) (fun w' hw' => ?_) ?_
  rotate_left
  · go_simp; with_reducible rfl
  simp only [Act.put, List.setIfInBounds_toArray, List.set_cons_zero, List.set_cons_succ]
  refine wpR_take (i := 5) (v := ?_) (Upd.road _) (some 25) rfl (by kernel_rfl) (by kernel_rfl) (by kernel_rfl) (by kernel_rfl) (by kernel_rfl) (fun _ _ _ h => h) (by kernel_rfl) (fun w' hw' => ?_) ?_
  rotate_left
  · have q := blk_cell (j := 6) (v := .int .i64 r.index) ((hw'.2.2.2.2 N (blk_lt hB0.out) (by omega)).trans hB0.out) rfl; go_simp; with_reducible rfl
  simp only [Act.put, List.setIfInBounds_toArray, List.set_cons_zero, List.set_cons_succ]
  refine wpR_take (i := 6) (v := ?_) (Upd.road _) (some 26) rfl (by kernel_rfl) (by kernel_rfl) (by kernel_rfl) (by kernel_rfl) (by kernel_rfl) (fun _ _ _ h => h) (by kernel_rfl) (fun w' hw' => ?_) ?_
  rotate_left
  · go_simp; with_reducible rfl
  simp only [Act.put, List.setIfInBounds_toArray, List.set_cons_zero, List.set_cons_succ]
  refine wpR_take (i := 7) (v := ?_) (Upd.road _) (some 27) rfl (by kernel_rfl) (by kernel_rfl) (by kernel_rfl) (by kernel_rfl) (by kernel_rfl) (fun _ _ _ h => h) (by kernel_rfl) (fun w' hw' => ?_) ?_
  rotate_left
  · have q := blk_cell (j := 7) (v := .int .i64 r.size) ((hw'.2.2.2.2 N (blk_lt hB0.out) (by omega)).trans hB0.out) rfl; go_simp; with_reducible rfl
  simp only [Act.put, List.setIfInBounds_toArray, List.set_cons_zero, List.set_cons_succ]
  refine wpR_take (i := 8) (v := ?_) (Upd.road _) (some 28) rfl (by kernel_rfl) (by kernel_rfl) (by kernel_rfl) (by kernel_rfl) (by kernel_rfl) (fun _ _ _ h => h) (by kernel_rfl) (fun w' hw' => ?_) ?_
  rotate_left
  · go_simp; with_reducible rfl
  simp only [Act.put, List.setIfInBounds_toArray, List.set_cons_zero, List.set_cons_succ]
  refine wpR_take (i := 9) (v := ?_) (Upd.road _) (some 29) rfl (by kernel_rfl) (by kernel_rfl) (by kernel_rfl) (by kernel_rfl) (by kernel_rfl) (fun _ _ _ h => h) (by kernel_rfl) (fun w' hw' => ?_) ?_
  rotate_left
  · have q := blk_cell (j := 8) (v := .string (bs r.sum)) ((hw'.2.2.2.2 N (blk_lt hB0.out) (by omega)).trans hB0.out) rfl; go_simp; with_reducible rfl
  simp only [Act.put, List.setIfInBounds_toArray, List.set_cons_zero, List.set_cons_succ]
  refine wpR_take (i := 10) (v := ?_) (Upd.road _) (some 30) rfl (by kernel_rfl) (by kernel_rfl) (by kernel_rfl) (by kernel_rfl) (by kernel_rfl) (fun _ _ _ h => h) (by kernel_rfl) (fun w' hw' => ?_) ?_
  rotate_left
  · go_simp; with_reducible rfl
  simp only [Act.put, List.setIfInBounds_toArray, List.set_cons_zero, List.set_cons_succ]
  refine wpR_take (i := 11) (v := ?_) (Upd.road _) (some 31) rfl (by kernel_rfl) (by kernel_rfl) (by kernel_rfl) (by kernel_rfl) (by kernel_rfl) (fun _ _ _ h => h) (by kernel_rfl) (fun w' hw' => ?_) ?_
  rotate_left
  · have q := blk_cell (j := 9) (v := .slice A r.data.length c) ((hw'.2.2.2.2 N (blk_lt hB0.out) (by omega)).trans hB0.out) rfl; go_simp; with_reducible rfl
  simp only [Act.put, List.setIfInBounds_toArray, List.set_cons_zero, List.set_cons_succ]
  refine wpR_take (i := 12) (v := ?_) (Upd.road _) (some 32) rfl (by kernel_rfl) (by kernel_rfl) (by kernel_rfl) (by kernel_rfl) (by kernel_rfl) (fun _ _ _ h => h) (by kernel_rfl) (fun w' hw' => ?_) ?_
  rotate_left
  · go_simp; with_reducible rfl
  simp only [Act.put, List.setIfInBounds_toArray, List.set_cons_zero, List.set_cons_succ]
  refine wpR_one 13 rfl (by kernel_rfl) (by kernel_rfl) (fun K hK => ?_)
  go_simp
  refine hK _ _ (fun _ => Upd.of_grown (blk_grown _ _ _ _) rfl) ?_
  clear hK K
  clear z4 f4
  have hO1 : Hid ((wd.setCell ⟨N + 2, 4, none⟩ (.int .i64 r.group)).heap[N + 2]? = some (.cells #[.int .i64 r.kind, .int .i64 0, .string (bs r.key), .int .i64 r.gen, .int .i64 r.group, .int .i64 0, .int .i64 0, .int .i64 0, .string ⟨#[]⟩, .slice none 0 0] 37 (0, 0))) := Lib.hid (blk_set hO0.out 4 (.int .i64 r.group))
  have hB1 := Lib.hid ((blk_other (w := wd) (g := N + 2) (k := N) (by omega) 4 (.int .i64 r.group)).trans hB0.out)
  have hZ1 := Lib.hid ((blk_other (w := wd) (g := N + 2) (k := N + 1) (by omega) 4 (.int .i64 r.group)).trans hZ0.out)
  have hq1 := Lib.hid (setLo hq0.out (g := N + 2) (j := 4) (by omega) (.int .i64 r.group))
  obtain ⟨ws0, hw1⟩ : ∃ x, (wd.setCell ⟨N + 2, 4, none⟩ (.int .i64 r.group)) = x := ⟨_, rfl⟩
  rw [hw1] at hO1 hB1 hZ1 hq1 ⊢
  replace hw1 := Lib.hid hw1
  have z5 := blk_cell (j := 5) (v := .int .i64 0) hO1.out rfl
  have f5 := blk_free hO1.out 5
  try simp only [Act.put, List.setIfInBounds_toArray, List.set_cons_zero, List.set_cons_succ]
  refine wpR_take (i := 14) (v := ?_) (Upd.road _) (some 33) rfl (by kernel_rfl) (by kernel_rfl) (by kernel_rfl) (by kernel_rfl) (by kernel_rfl) (fun _ _ _ h => h) (by kernel_rfl) (fun w' hw' => ?_) ?_
  rotate_left
  · go_simp; with_reducible rfl
  simp only [Act.put, List.setIfInBounds_toArray, List.set_cons_zero, List.set_cons_succ]
  refine wpR_one 15 rfl (by kernel_rfl) (by kernel_rfl) (fun K hK => ?_)
  go_simp
  refine hK _ _ (fun _ => Upd.of_grown (blk_grown _ _ _ _) rfl) ?_
  clear hK K
  clear z5 f5
  have hO2 : Hid ((ws0.setCell ⟨N + 2, 5, none⟩ (.int .i64 r.groups)).heap[N + 2]? = some (.cells #[.int .i64 r.kind, .int .i64 0, .string (bs r.key), .int .i64 r.gen, .int .i64 r.group, .int .i64 r.groups, .int .i64 0, .int .i64 0, .string ⟨#[]⟩, .slice none 0 0] 37 (0, 0))) := Lib.hid (blk_set hO1.out 5 (.int .i64 r.groups))
  have hB2 := Lib.hid ((blk_other (w := ws0) (g := N + 2) (k := N) (by omega) 5 (.int .i64 r.groups)).trans hB1.out)
  have hZ2 := Lib.hid ((blk_other (w := ws0) (g := N + 2) (k := N + 1) (by omega) 5 (.int .i64 r.groups)).trans hZ1.out)
  have hq2 := Lib.hid (setLo hq1.out (g := N + 2) (j := 5) (by omega) (.int .i64 r.groups))
  obtain ⟨ws1, hw2⟩ : ∃ x, (ws0.setCell ⟨N + 2, 5, none⟩ (.int .i64 r.groups)) = x := ⟨_, rfl⟩
  rw [hw2] at hO2 hB2 hZ2 hq2 ⊢
  replace hw2 := Lib.hid hw2
  have z6 := blk_cell (j := 6) (v := .int .i64 0) hO2.out rfl
  have f6 := blk_free hO2.out 6
  try simp only [Act.put, List.setIfInBounds_toArray, List.set_cons_zero, List.set_cons_succ]
  refine wpR_take (i := 16) (v := ?_) (Upd.road _) (some 34) rfl (by kernel_rfl) (by kernel_rfl) (by kernel_rfl) (by kernel_rfl) (by kernel_rfl) (fun _ _ _ h => h) (by kernel_rfl) (fun w' hw' => ?_) ?_
  rotate_left
  · go_simp; with_reducible rfl
  simp only [Act.put, List.setIfInBounds_toArray, List.set_cons_zero, List.set_cons_succ]
  refine wpR_one 17 rfl (by kernel_rfl) (by kernel_rfl) (fun K hK => ?_)
  go_simp
  refine hK _ _ (fun _ => Upd.of_grown (blk_grown _ _ _ _) rfl) ?_
  clear hK K
  clear z6 f6
  have hO3 : Hid ((ws1.setCell ⟨N + 2, 6, none⟩ (.int .i64 r.index)).heap[N + 2]? = some (.cells #[.int .i64 r.kind, .int .i64 0, .string (bs r.key), .int .i64 r.gen, .int .i64 r.group, .int .i64 r.groups, .int .i64 r.index, .int .i64 0, .string ⟨#[]⟩, .slice none 0 0] 37 (0, 0))) := Lib.hid (blk_set hO2.out 6 (.int .i64 r.index))
  have hB3 := Lib.hid ((blk_other (w := ws1) (g := N + 2) (k := N) (by omega) 6 (.int .i64 r.index)).trans hB2.out)
  have hZ3 := Lib.hid ((blk_other (w := ws1) (g := N + 2) (k := N + 1) (by omega) 6 (.int .i64 r.index)).trans hZ2.out)
  have hq3 := Lib.hid (setLo hq2.out (g := N + 2) (j := 6) (by omega) (.int .i64 r.index))
  obtain ⟨ws2, hw3⟩ : ∃ x, (ws1.setCell ⟨N + 2, 6, none⟩ (.int .i64 r.index)) = x := ⟨_, rfl⟩
  rw [hw3] at hO3 hB3 hZ3 hq3 ⊢
  replace hw3 := Lib.hid hw3
  have z7 := blk_cell (j := 7) (v := .int .i64 0) hO3.out rfl
  have f7 := blk_free hO3.out 7
  try simp only [Act.put, List.setIfInBounds_toArray, List.set_cons_zero, List.set_cons_succ]
  refine wpR_take (i := 18) (v := ?_) (Upd.road _) (some 35) rfl (by kernel_rfl) (by kernel_rfl) (by kernel_rfl) (by kernel_rfl) (by kernel_rfl) (fun _ _ _ h => h) (by kernel_rfl) (fun w' hw' => ?_) ?_
  rotate_left
  · go_simp; with_reducible rfl
  simp only [Act.put, List.setIfInBounds_toArray, List.set_cons_zero, List.set_cons_succ]
  refine wpR_one 19 rfl (by kernel_rfl) (by kernel_rfl) (fun K hK => ?_)
  go_simp
  refine hK _ _ (fun _ => Upd.of_grown (blk_grown _ _ _ _) rfl) ?_
  clear hK K
  clear z7 f7
  have hO4 : Hid ((ws2.setCell ⟨N + 2, 7, none⟩ (.int .i64 r.size)).heap[N + 2]? = some (.cells #[.int .i64 r.kind, .int .i64 0, .string (bs r.key), .int .i64 r.gen, .int .i64 r.group, .int .i64 r.groups, .int .i64 r.index, .int .i64 r.size, .string ⟨#[]⟩, .slice none 0 0] 37 (0, 0))) := Lib.hid (blk_set hO3.out 7 (.int .i64 r.size))
  have hB4 := Lib.hid ((blk_other (w := ws2) (g := N + 2) (k := N) (by omega) 7 (.int .i64 r.size)).trans hB3.out)
  have hZ4 := Lib.hid ((blk_other (w := ws2) (g := N + 2) (k := N + 1) (by omega) 7 (.int .i64 r.size)).trans hZ3.out)
  have hq4 := Lib.hid (setLo hq3.out (g := N + 2) (j := 7) (by omega) (.int .i64 r.size))
  obtain ⟨ws3, hw4⟩ : ∃ x, (ws2.setCell ⟨N + 2, 7, none⟩ (.int .i64 r.size)) = x := ⟨_, rfl⟩
  rw [hw4] at hO4 hB4 hZ4 hq4 ⊢
  replace hw4 := Lib.hid hw4
  have z8 := blk_cell (j := 8) (v := .string ⟨#[]⟩) hO4.out rfl
  have f8 := blk_free hO4.out 8
  try simp only [Act.put, List.setIfInBounds_toArray, List.set_cons_zero, List.set_cons_succ]
  refine wpR_take (i := 20) (v := ?_) (Upd.road _) (some 36) rfl (by kernel_rfl) (by kernel_rfl) (by kernel_rfl) (by kernel_rfl) (by kernel_rfl) (fun _ _ _ h => h) (by kernel_rfl) (fun w' hw' => ?_) ?_
  rotate_left
  · go_simp; with_reducible rfl
  simp only [Act.put, List.setIfInBounds_toArray, List.set_cons_zero, List.set_cons_succ]
  refine wpR_one 21 rfl (by kernel_rfl) (by kernel_rfl) (fun K hK => ?_)
  go_simp
  refine hK _ _ (fun _ => Upd.of_grown (blk_grown _ _ _ _) rfl) ?_
  clear hK K
  clear z8 f8
  have hO5 : Hid ((ws3.setCell ⟨N + 2, 8, none⟩ (.string (bs r.sum))).heap[N + 2]? = some (.cells #[.int .i64 r.kind, .int .i64 0, .string (bs r.key), .int .i64 r.gen, .int .i64 r.group, .int .i64 r.groups, .int .i64 r.index, .int .i64 r.size, .string (bs r.sum), .slice none 0 0] 37 (0, 0))) := Lib.hid (blk_set hO4.out 8 (.string (bs r.sum)))
  have hB5 := Lib.hid ((blk_other (w := ws3) (g := N + 2) (k := N) (by omega) 8 (.string (bs r.sum))).trans hB4.out)
  have hZ5 := Lib.hid ((blk_other (w := ws3) (g := N + 2) (k := N + 1) (by omega) 8 (.string (bs r.sum))).trans hZ4.out)
  have hq5 := Lib.hid (setLo hq4.out (g := N + 2) (j := 8) (by omega) (.string (bs r.sum)))
  obtain ⟨ws4, hw5⟩ : ∃ x, (ws3.setCell ⟨N + 2, 8, none⟩ (.string (bs r.sum))) = x := ⟨_, rfl⟩
  rw [hw5] at hO5 hB5 hZ5 hq5 ⊢
  replace hw5 := Lib.hid hw5
  have z9 := blk_cell (j := 9) (v := .slice none 0 0) hO5.out rfl
  have f9 := blk_free hO5.out 9
  try simp only [Act.put, List.setIfInBounds_toArray, List.set_cons_zero, List.set_cons_succ]
  refine wpR_take (i := 22) (v := ?_) (Upd.road _) (some 37) rfl (by kernel_rfl) (by kernel_rfl) (by kernel_rfl) (by kernel_rfl) (by kernel_rfl) (fun _ _ _ h => h) (by kernel_rfl) (fun w' hw' => ?_) ?_
  rotate_left
  · go_simp; with_reducible rfl
  simp only [Act.put, List.setIfInBounds_toArray, List.set_cons_zero, List.set_cons_succ]
  refine wpR_one 23 rfl (by kernel_rfl) (by kernel_rfl) (fun K hK => ?_)
  go_simp
  refine hK _ _ (fun h => absurd h (by decide)) ?_
  clear hK K
  clear z9 f9
  have hO6 : Hid ((ws4.setCell ⟨N + 2, 9, none⟩ (.slice A r.data.length c)).heap[N + 2]? = some (.cells #[.int .i64 r.kind, .int .i64 0, .string (bs r.key), .int .i64 r.gen, .int .i64 r.group, .int .i64 r.groups, .int .i64 r.index, .int .i64 r.size, .string (bs r.sum), .slice A r.data.length c] 37 (0, 0))) := Lib.hid (blk_set hO5.out 9 (.slice A r.data.length c))
  have hB6 := Lib.hid ((blk_other (w := ws4) (g := N + 2) (k := N) (by omega) 9 (.slice A r.data.length c)).trans hB5.out)
  have hZ6 := Lib.hid ((blk_other (w := ws4) (g := N + 2) (k := N + 1) (by omega) 9 (.slice A r.data.length c)).trans hZ5.out)
  have hq6 := Lib.hid (setLo hq5.out (g := N + 2) (j := 9) (by omega) (.slice A r.data.length c))
  obtain ⟨ws5, hw6⟩ : ∃ x, (ws4.setCell ⟨N + 2, 9, none⟩ (.slice A r.data.length c)) = x := ⟨_, rfl⟩
  rw [hw6] at hO6 hB6 hZ6 hq6 ⊢
  replace hw6 := Lib.hid hw6
  try simp only [Act.put, List.setIfInBounds_toArray, List.set_cons_zero, List.set_cons_succ]
  refine wpR_done (by kernel_rfl) ?_ _
  have y0 := blk_cell (j := 0) (v := .int .i64 r.kind) hO6.out rfl
  have y1 := blk_cell (j := 1) (v := .int .i64 0) hO6.out rfl
  have y2 := blk_cell (j := 2) (v := .string (bs r.key)) hO6.out rfl
  have y3 := blk_cell (j := 3) (v := .int .i64 r.gen) hO6.out rfl
  have y4 := blk_cell (j := 4) (v := .int .i64 r.group) hO6.out rfl
  have y5 := blk_cell (j := 5) (v := .int .i64 r.groups) hO6.out rfl
  have y6 := blk_cell (j := 6) (v := .int .i64 r.index) hO6.out rfl
  have y7 := blk_cell (j := 7) (v := .int .i64 r.size) hO6.out rfl
  have y8 := blk_cell (j := 8) (v := .string (bs r.sum)) hO6.out rfl
  have y9 := blk_cell (j := 9) (v := .slice A r.data.length c) hO6.out rfl
  have z0 := blk_cell (j := 0) (v := .int .i64 0) hZ6.out rfl
  have f0 := blk_free hZ6.out 0
  have z1 := blk_cell (j := 1) (v := .int .i64 0) hZ6.out rfl
  have f1 := blk_free hZ6.out 1
  have z2 := blk_cell (j := 2) (v := .string ⟨#[]⟩) hZ6.out rfl
  have f2 := blk_free hZ6.out 2
  have z3 := blk_cell (j := 3) (v := .int .i64 0) hZ6.out rfl
  have f3 := blk_free hZ6.out 3
  have z4 := blk_cell (j := 4) (v := .int .i64 0) hZ6.out rfl
  have f4 := blk_free hZ6.out 4
  have z5 := blk_cell (j := 5) (v := .int .i64 0) hZ6.out rfl
  have f5 := blk_free hZ6.out 5
  have z6 := blk_cell (j := 6) (v := .int .i64 0) hZ6.out rfl
  have f6 := blk_free hZ6.out 6
  have z7 := blk_cell (j := 7) (v := .int .i64 0) hZ6.out rfl
  have f7 := blk_free hZ6.out 7
  have z8 := blk_cell (j := 8) (v := .string ⟨#[]⟩) hZ6.out rfl
  have f8 := blk_free hZ6.out 8
  have z9 := blk_cell (j := 9) (v := .slice none 0 0) hZ6.out rfl
  have f9 := blk_free hZ6.out 9
  go_wp2_with fail
  have hz := blk_set10 hZ6.out (.int .i64 r.kind) (.int .i64 0) (.string (bs r.key)) (.int .i64 r.gen) (.int .i64 r.group) (.int .i64 r.groups) (.int .i64 r.index) (.int .i64 r.size) (.string (bs r.sum)) (.slice A r.data.length c)
  have hbz := setLo10 hq6.out (g := N + 1) (by omega) (.int .i64 r.kind) (.int .i64 0) (.string (bs r.key)) (.int .i64 r.gen) (.int .i64 r.group) (.int .i64 r.groups) (.int .i64 r.index) (.int .i64 r.size) (.string (bs r.sum)) (.slice A r.data.length c)
  obtain ⟨w7, hw7⟩ : ∃ w7, ((((((((((ws5.setCell ⟨N + 1, 0, none⟩ (.int .i64 r.kind)).setCell ⟨N + 1, 1, none⟩ (.int .i64 0)).setCell ⟨N + 1, 2, none⟩ (.string (bs r.key))).setCell ⟨N + 1, 3, none⟩ (.int .i64 r.gen)).setCell ⟨N + 1, 4, none⟩ (.int .i64 r.group)).setCell ⟨N + 1, 5, none⟩ (.int .i64 r.groups)).setCell ⟨N + 1, 6, none⟩ (.int .i64 r.index)).setCell ⟨N + 1, 7, none⟩ (.int .i64 r.size)).setCell ⟨N + 1, 8, none⟩ (.string (bs r.sum))).setCell ⟨N + 1, 9, none⟩ (.slice A r.data.length c)) = w7 := ⟨_, rfl⟩
  rw [hw7] at hz hbz ⊢
  have r0 := blk_cell (j := 0) (v := .int .i64 r.kind) hz rfl
  have r1 := blk_cell (j := 1) (v := .int .i64 0) hz rfl
  have r2 := blk_cell (j := 2) (v := .string (bs r.key)) hz rfl
  have r3 := blk_cell (j := 3) (v := .int .i64 r.gen) hz rfl
  have r4 := blk_cell (j := 4) (v := .int .i64 r.group) hz rfl
  have r5 := blk_cell (j := 5) (v := .int .i64 r.groups) hz rfl
  have r6 := blk_cell (j := 6) (v := .int .i64 r.index) hz rfl
  have r7 := blk_cell (j := 7) (v := .int .i64 r.size) hz rfl
  have r8 := blk_cell (j := 8) (v := .string (bs r.sum)) hz rfl
  have r9 := blk_cell (j := 9) (v := .slice A r.data.length c) hz rfl
  exact bodyPost_ret (v := (.agg #[.int .i64 r.kind, .int .i64 0, .string (bs r.key), .int .i64 r.gen, .int .i64 r.group, .int .i64 r.groups, .int .i64 r.index, .int .i64 r.size, .string (bs r.sum), .slice A r.data.length c])) (by simp [results, Try.results65, go_sem, r0, r1, r2, r3, r4, r5, r6, r7, r8, r9]) rfl ⟨rfl, hbz⟩
end Go.Proofs.Ytiliggleplpjbaa
