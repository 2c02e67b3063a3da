/- cat: what no catalog answers. -/
import Derived.Test.YthboeoidgglcgaaCt24
namespace Go.Proofs.Ythboeoidgglcgaa
set_option linter.unusedVariables false
set_option linter.unusedSimpArgs false
open Go Go.RowKit Go.Maps Go.Sort Go.Shelf Go.Proofs
set_option maxRecDepth 10000 in
theorem nil_Notes (w : World) : Calls Try.prog 11 #[.pointer none] w fun e w' => e = .returned (.slice none 0 0) ∧ Gr w w' := by
  go_enter Try.func11, Try.ntmps11
  go_wp2_with fail
  go_ret
  exact ⟨by first | rfl | simp, by first | exact Gr.refl _ | exact Gr.alloc _ _ | exact (Gr.alloc _ _).trans (Gr.alloc _ _)⟩
set_option maxRecDepth 10000 in
theorem nil_Tombs (w : World) : Calls Try.prog 24 #[.pointer none] w fun e w' => e = .returned (.slice none 0 0) ∧ Gr w w' := by
  go_enter Try.func24, Try.ntmps24
  go_wp2_with fail
  go_ret
  exact ⟨by first | rfl | simp, by first | exact Gr.refl _ | exact Gr.alloc _ _ | exact (Gr.alloc _ _).trans (Gr.alloc _ _)⟩
set_option maxRecDepth 10000 in
theorem nil_Entries (w : World) : Calls Try.prog 19 #[.pointer none] w fun e w' => e = .returned (.slice none 0 0) ∧ Gr w w' := by
  go_enter Try.func19, Try.ntmps19
  go_wp2_with fail
  go_ret
  exact ⟨by first | rfl | simp, by first | exact Gr.refl _ | exact Gr.alloc _ _ | exact (Gr.alloc _ _).trans (Gr.alloc _ _)⟩
set_option maxRecDepth 10000 in
theorem nil_Staged (w : World) : Calls Try.prog 18 #[.pointer none] w fun e w' => e = .returned (.slice none 0 0) ∧ Gr w w' := by
  go_enter Try.func18, Try.ntmps18
  go_wp2_with fail
  go_ret
  exact ⟨by first | rfl | simp, by first | exact Gr.refl _ | exact Gr.alloc _ _ | exact (Gr.alloc _ _).trans (Gr.alloc _ _)⟩
set_option maxRecDepth 10000 in
theorem nil_Keys (w : World) : Calls Try.prog 17 #[.pointer none] w fun e w' => e = .returned (.slice none 0 0) ∧ Gr w w' := by
  go_enter Try.func17, Try.ntmps17
  go_wp2_with fail
  go_ret
  exact ⟨by first | rfl | simp, by first | exact Gr.refl _ | exact Gr.alloc _ _ | exact (Gr.alloc _ _).trans (Gr.alloc _ _)⟩
set_option maxRecDepth 10000 in
theorem nil_Used (w : World) : Calls Try.prog 25 #[.pointer none] w fun e w' => e = .returned (.int .i64 0) ∧ Gr w w' := by
  go_enter Try.func25, Try.ntmps25
  go_wp2_with fail
  go_ret
  exact ⟨by first | rfl | simp, by first | exact Gr.refl _ | exact Gr.alloc _ _ | exact (Gr.alloc _ _).trans (Gr.alloc _ _)⟩
set_option maxRecDepth 10000 in
theorem nil_Gen (w : World) : Calls Try.prog 15 #[.pointer none] w fun e w' => e = .returned (.int .i64 0) ∧ Gr w w' := by
  go_enter Try.func15, Try.ntmps15
  go_wp2_with fail
  go_ret
  exact ⟨by first | rfl | simp, by first | exact Gr.refl _ | exact Gr.alloc _ _ | exact (Gr.alloc _ _).trans (Gr.alloc _ _)⟩
set_option maxRecDepth 10000 in
theorem nil_Retired (z : Int) (w : World) : Calls Try.prog 27 #[.pointer none, .int .i64 z] w fun e w' => e = .returned (.bool false) ∧ Gr w w' := by
  go_enter Try.func27, Try.ntmps27
  go_wp2_with fail
  go_ret
  exact ⟨by first | rfl | simp, by first | exact Gr.refl _ | exact Gr.alloc _ _ | exact (Gr.alloc _ _).trans (Gr.alloc _ _)⟩
set_option maxRecDepth 10000 in
theorem nil_Has (k : By) (w : World) : Calls Try.prog 22 #[.pointer none, .string (bs k)] w fun e w' => e = .returned (.bool false) ∧ Gr w w' := by
  go_enter Try.func22, Try.ntmps22
  go_wp2_with fail
  go_ret
  exact ⟨by first | rfl | simp, by first | exact Gr.refl _ | exact Gr.alloc _ _ | exact (Gr.alloc _ _).trans (Gr.alloc _ _)⟩
set_option maxRecDepth 10000 in
theorem nil_Entry (k : By) (w : World) : Calls Try.prog 21 #[.pointer none, .string (bs k)] w fun e w' => e = .returned (.tuple #[entZ, .bool false]) ∧ Gr w w' := by
  unfold entZ
  go_enter Try.func21, Try.ntmps21
  go_wp2_with fail
  have hb5 := heap_alloc_new w (.cells #[.string ⟨#[]⟩, .int .i64 0, .int .i64 0, .string ⟨#[]⟩, .slice none 0 0] 45)
  have r0 := blk_cell (j := 0) hb5 rfl
  have r1 := blk_cell (j := 1) hb5 rfl
  have r2 := blk_cell (j := 2) hb5 rfl
  have r3 := blk_cell (j := 3) hb5 rfl
  have r4 := blk_cell (j := 4) hb5 rfl
  refine bodyPost_ret (v := .tuple #[.agg #[.string ⟨#[]⟩, .int .i64 0, .int .i64 0, .string ⟨#[]⟩, .slice none 0 0], .bool false]) (by simp [results, Try.results21, go_sem, r0, r1, r2, r3, r4]) rfl ?_
  exact ⟨rfl, Gr.alloc _ _⟩
set_option maxRecDepth 10000 in
theorem nil_stagedAt (k : By) (w : World) : Calls Try.prog 44 #[.pointer none, .string (bs k)] w fun e w' => e = .returned (.int .i64 (-1)) ∧ Gr w w' := by
  go_enter Try.func44, Try.ntmps44
  go_wp2_with fail
  go_ret
  exact ⟨by first | rfl | simp, by first | exact Gr.refl _ | exact Gr.alloc _ _ | exact (Gr.alloc _ _).trans (Gr.alloc _ _)⟩
set_option maxRecDepth 10000 in
theorem nil_Data (k : By) (w : World) : Calls Try.prog 20 #[.pointer none, .string (bs k)] w fun e w' => e = .returned (.tuple #[.slice none 0 0, .bool false]) ∧ Gr w w' := by
  go_enter Try.func20, Try.ntmps20
  go_wp2_with (go_at_call 44; go_must (refine (nil_stagedAt k _).mono ?_); rintro e w5 ⟨rfl, hg5⟩)
  go_ret2
  exact ⟨rfl, hg5⟩
set_option maxRecDepth 10000 in
theorem nil_Apply (nk ng nc ns : Int) (ny nu : By) (A A2 : Option Addr) (ld ca lp c2 : Nat) (w : World) : Calls Try.prog 12 #[.pointer none, .agg #[.int .i64 nk, .string (bs ny), .int .i64 ng, .int .i64 nc, .slice A ld ca, .string (bs nu), .int .i64 ns, .slice A2 lp c2]] w fun e w' => e = .returned (.int .i64 1) ∧ Gr w w' := by
  go_enter Try.func12, Try.ntmps12
  go_wp2_with fail
  go_ret
  exact ⟨by first | rfl | simp, by first | exact Gr.refl _ | exact Gr.alloc _ _ | exact (Gr.alloc _ _).trans (Gr.alloc _ _)⟩
end Go.Proofs.Ythboeoidgglcgaa
