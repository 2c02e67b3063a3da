/- The reference's bare: of a label. -/
import Derived.Test.YtiliggleplpjbaaSl3
namespace Go.Proofs.Ytiliggleplpjbaa
set_option linter.unusedVariables false
set_option linter.unusedSimpArgs false
open Go Go.RowKit
set_option maxHeartbeats 4000000 in
set_option maxRecDepth 20000 in
theorem rbare1_any (r : Rc) (hk : r.kind = 1) (A : Option Addr) (c : Nat) (w : World) :
    Calls Try.prog 65 #[r.agg A c] w fun e w' => e = .returned ((bare1 r).agg none 0) ∧ Below w.heap.size w w' := by
  have hres : Hid ((bare1 r).agg none 0 = (.agg #[.int .i64 1, .int .i64 r.cart, .string ⟨#[]⟩, .int .i64 0, .int .i64 0, .int .i64 0, .int .i64 0, .int .i64 0, .string ⟨#[]⟩, .slice none 0 0])) := Lib.hid (by unfold bare1 Rc.agg; rw [hk]; rfl)
  rw [hres.out]
  have d1 : (r.kind == 1) = true := beq_iff_eq.mpr hk
  replace hk := Lib.hid hk
  have hb1 := (Below.refl w.heap.size w).alloc (Nat.le_refl _) (.cells #[.int .i64 r.kind, .int .i64 r.cart, .string (bs r.key), .int .i64 r.gen, .int .i64 r.group, .int .i64 r.groups, .int .i64 r.index, .int .i64 r.size, .string (bs r.sum), .slice A r.data.length c] 37)
  have hb2 := Lib.hid (hb1.alloc hb1.size (.cells #[.int .i64 1, .int .i64 r.cart, .string ⟨#[]⟩, .int .i64 0, .int .i64 0, .int .i64 0, .int .i64 0, .int .i64 0, .string ⟨#[]⟩, .slice none 0 0] 37))
  have hz := heap_alloc_new (w.alloc (.cells #[.int .i64 r.kind, .int .i64 r.cart, .string (bs r.key), .int .i64 r.gen, .int .i64 r.group, .int .i64 r.groups, .int .i64 r.index, .int .i64 r.size, .string (bs r.sum), .slice A r.data.length c] 37)) (.cells #[.int .i64 1, .int .i64 r.cart, .string ⟨#[]⟩, .int .i64 0, .int .i64 0, .int .i64 0, .int .i64 0, .int .i64 0, .string ⟨#[]⟩, .slice none 0 0] 37)
  have hsz : (w.alloc (.cells #[.int .i64 r.kind, .int .i64 r.cart, .string (bs r.key), .int .i64 r.gen, .int .i64 r.group, .int .i64 r.groups, .int .i64 r.index, .int .i64 r.size, .string (bs r.sum), .slice A r.data.length c] 37)).heap.size = w.heap.size + 1 := by simp
  rw [hsz] at hz
  replace hz := Lib.hid hz
  clear hb1 hsz
  unfold Rc.agg
  go_enter Try.func65, Try.ntmps65
  go_wp2_with fail
  obtain ⟨w7, hw7⟩ : ∃ w7, (w.alloc (.cells #[.int .i64 r.kind, .int .i64 r.cart, .string (bs r.key), .int .i64 r.gen, .int .i64 r.group, .int .i64 r.groups, .int .i64 r.index, .int .i64 r.size, .string (bs r.sum), .slice A r.data.length c] 37)).alloc (.cells #[.int .i64 1, .int .i64 r.cart, .string ⟨#[]⟩, .int .i64 0, .int .i64 0, .int .i64 0, .int .i64 0, .int .i64 0, .string ⟨#[]⟩, .slice none 0 0] 37) = w7 := ⟨_, rfl⟩
  rw [hw7] at hz hb2 ⊢
  replace hw7 := Lib.hid hw7
  have r0 := blk_cell (j := 0) (v := .int .i64 1) hz.out rfl
  have r1 := blk_cell (j := 1) (v := .int .i64 r.cart) hz.out rfl
  have r2 := blk_cell (j := 2) (v := .string ⟨#[]⟩) hz.out rfl
  have r3 := blk_cell (j := 3) (v := .int .i64 0) hz.out rfl
  have r4 := blk_cell (j := 4) (v := .int .i64 0) hz.out rfl
  have r5 := blk_cell (j := 5) (v := .int .i64 0) hz.out rfl
  have r6 := blk_cell (j := 6) (v := .int .i64 0) hz.out rfl
  have r7 := blk_cell (j := 7) (v := .int .i64 0) hz.out rfl
  have r8 := blk_cell (j := 8) (v := .string ⟨#[]⟩) hz.out rfl
  have r9 := blk_cell (j := 9) (v := .slice none 0 0) hz.out rfl
  exact bodyPost_ret (v := (.agg #[.int .i64 1, .int .i64 r.cart, .string ⟨#[]⟩, .int .i64 0, .int .i64 0, .int .i64 0, .int .i64 0, .int .i64 0, .string ⟨#[]⟩, .slice none 0 0])) (by simp [results, Try.results65, go_sem, r0, r1, r2, r3, r4, r5, r6, r7, r8, r9]) rfl ⟨rfl, hb2.out⟩
set_option maxHeartbeats 4000000 in
set_option maxRecDepth 20000 in
theorem rbare3_any (r : Rc) (hk : r.kind = 3) (A : Option Addr) (c : Nat) (w : World) :
    Calls Try.prog 65 #[r.agg A c] w fun e w' => e = .returned ((bare3 r).agg none 0) ∧ Below w.heap.size w w' := by
  have hres : Hid ((bare3 r).agg none 0 = (.agg #[.int .i64 r.kind, .int .i64 0, .string (bs r.key), .int .i64 r.gen, .int .i64 0, .int .i64 0, .int .i64 0, .int .i64 0, .string ⟨#[]⟩, .slice none 0 0])) := Lib.hid (by unfold bare3 Rc.agg; rfl)
  rw [hres.out]
  have d1 : (r.kind == 1) = false := beq_eq_false_iff_ne.mpr (by omega)
  have d2 : (r.kind == 2) = false := beq_eq_false_iff_ne.mpr (by omega)
  replace hk := Lib.hid hk
  have hb1 := (Below.refl w.heap.size w).alloc (Nat.le_refl _) (.cells #[.int .i64 r.kind, .int .i64 r.cart, .string (bs r.key), .int .i64 r.gen, .int .i64 r.group, .int .i64 r.groups, .int .i64 r.index, .int .i64 r.size, .string (bs r.sum), .slice A r.data.length c] 37)
  have hb2 := hb1.alloc hb1.size (.cells #[.int .i64 r.kind, .int .i64 0, .string (bs r.key), .int .i64 r.gen, .int .i64 0, .int .i64 0, .int .i64 0, .int .i64 0, .string ⟨#[]⟩, .slice none 0 0] 37)
  have hb3 := Lib.hid (hb2.alloc hb2.size (.cells #[.int .i64 r.kind, .int .i64 0, .string (bs r.key), .int .i64 r.gen, .int .i64 0, .int .i64 0, .int .i64 0, .int .i64 0, .string ⟨#[]⟩, .slice none 0 0] 37))
  have hz := blk_alloc (heap_alloc_new (w.alloc (.cells #[.int .i64 r.kind, .int .i64 r.cart, .string (bs r.key), .int .i64 r.gen, .int .i64 r.group, .int .i64 r.groups, .int .i64 r.index, .int .i64 r.size, .string (bs r.sum), .slice A r.data.length c] 37)) (.cells #[.int .i64 r.kind, .int .i64 0, .string (bs r.key), .int .i64 r.gen, .int .i64 0, .int .i64 0, .int .i64 0, .int .i64 0, .string ⟨#[]⟩, .slice none 0 0] 37)) (.cells #[.int .i64 r.kind, .int .i64 0, .string (bs r.key), .int .i64 r.gen, .int .i64 0, .int .i64 0, .int .i64 0, .int .i64 0, .string ⟨#[]⟩, .slice none 0 0] 37)
  have hsz : (w.alloc (.cells #[.int .i64 r.kind, .int .i64 r.cart, .string (bs r.key), .int .i64 r.gen, .int .i64 r.group, .int .i64 r.groups, .int .i64 r.index, .int .i64 r.size, .string (bs r.sum), .slice A r.data.length c] 37)).heap.size = w.heap.size + 1 := by simp
  rw [hsz] at hz
  replace hz := Lib.hid hz
  clear hb1 hb2 hsz
  unfold Rc.agg
  go_enter Try.func65, Try.ntmps65
  go_wp2_with fail
  obtain ⟨w7, hw7⟩ : ∃ w7, ((w.alloc (.cells #[.int .i64 r.kind, .int .i64 r.cart, .string (bs r.key), .int .i64 r.gen, .int .i64 r.group, .int .i64 r.groups, .int .i64 r.index, .int .i64 r.size, .string (bs r.sum), .slice A r.data.length c] 37)).alloc (.cells #[.int .i64 r.kind, .int .i64 0, .string (bs r.key), .int .i64 r.gen, .int .i64 0, .int .i64 0, .int .i64 0, .int .i64 0, .string ⟨#[]⟩, .slice none 0 0] 37)).alloc (.cells #[.int .i64 r.kind, .int .i64 0, .string (bs r.key), .int .i64 r.gen, .int .i64 0, .int .i64 0, .int .i64 0, .int .i64 0, .string ⟨#[]⟩, .slice none 0 0] 37) = w7 := ⟨_, rfl⟩
  rw [hw7] at hz hb3 ⊢
  replace hw7 := Lib.hid hw7
  have r0 := blk_cell (j := 0) (v := .int .i64 r.kind) hz.out rfl
  have r1 := blk_cell (j := 1) (v := .int .i64 0) hz.out rfl
  have r2 := blk_cell (j := 2) (v := .string (bs r.key)) hz.out rfl
  have r3 := blk_cell (j := 3) (v := .int .i64 r.gen) hz.out rfl
  have r4 := blk_cell (j := 4) (v := .int .i64 0) hz.out rfl
  have r5 := blk_cell (j := 5) (v := .int .i64 0) hz.out rfl
  have r6 := blk_cell (j := 6) (v := .int .i64 0) hz.out rfl
  have r7 := blk_cell (j := 7) (v := .int .i64 0) hz.out rfl
  have r8 := blk_cell (j := 8) (v := .string ⟨#[]⟩) hz.out rfl
  have r9 := blk_cell (j := 9) (v := .slice none 0 0) hz.out rfl
  exact bodyPost_ret (v := (.agg #[.int .i64 r.kind, .int .i64 0, .string (bs r.key), .int .i64 r.gen, .int .i64 0, .int .i64 0, .int .i64 0, .int .i64 0, .string ⟨#[]⟩, .slice none 0 0])) (by simp [results, Try.results65, go_sem, r0, r1, r2, r3, r4, r5, r6, r7, r8, r9]) rfl ⟨rfl, hb3.out⟩
end Go.Proofs.Ytiliggleplpjbaa
