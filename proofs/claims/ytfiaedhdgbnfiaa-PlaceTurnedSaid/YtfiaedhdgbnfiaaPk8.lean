/- place: the law's fixed fact. -/
import Derived.Test.YtfiaedhdgbnfiaaPk7
namespace Go.Proofs.Ytfiaedhdgbnfiaa
set_option linter.unusedVariables false
set_option linter.unusedSimpArgs false
open Go Go.RowKit
def l4 : List Fr := [(0, 3), (1, 5), (2, 5), (3, 0)]
theorem may4 : mayL [] l4 = [(0, 3), (1, 5), (2, 5)] := by decide
theorem may4b : mayL [1] l4 = [(0, 3), (2, 5)] := by decide
theorem srt4 : srt [(0, 3), (1, 5), (2, 5)] = [(1, 5), (2, 5), (0, 3)] :=
  sorted_eq ((srt_perm _).trans (by decide)) (srt_sorted _) (by decide)
theorem srt4b : srt [(0, 3), (2, 5)] = [(2, 5), (0, 3)] :=
  sorted_eq ((srt_perm _).trans (by decide)) (srt_sorted _) (by decide)
theorem ok4 : pickOk l4 2 [] = true := by unfold pickOk; rw [may4]; decide
theorem ok4b : pickOk l4 2 [1] = true := by unfold pickOk; rw [may4b]; decide
theorem ok4c : pickOk l4 4 [] = false := by unfold pickOk; rw [may4]; decide
theorem pk4 : pickR l4 2 [] = [1, 2] := by unfold pickR; rw [if_pos ok4]; unfold pickL; rw [may4, srt4]; rfl
theorem pk4b : pickR l4 2 [1] = [2, 0] := by unfold pickR; rw [if_pos ok4b]; unfold pickL; rw [may4b, srt4b]; rfl
theorem Frs.four (w : World) (t : TypeId) : Frs l4 (.slice (some ⟨w.heap.size, 0, none⟩) 4 4) (w.alloc (.cells #[.int .i64 0, .int .i64 3, .int .i64 1, .int .i64 5, .int .i64 2, .int .i64 5, .int .i64 3, .int .i64 0] t)) :=
  ⟨_, _, rfl, Nat.le_refl _, by decide, fun _ => ⟨_, _, rfl, by simp, fun i y hy => by
    match i, hy with
    | 0, hy => simp [l4] at hy; subst hy; exact ⟨cell_new w _ t rfl, cell_new w _ t rfl⟩
    | 1, hy => simp [l4] at hy; subst hy; exact ⟨cell_new w _ t rfl, cell_new w _ t rfl⟩
    | 2, hy => simp [l4] at hy; subst hy; exact ⟨cell_new w _ t rfl, cell_new w _ t rfl⟩
    | 3, hy => simp [l4] at hy; subst hy; exact ⟨cell_new w _ t rfl, cell_new w _ t rfl⟩⟩, fun y hy => by
      simp [l4] at hy; rcases hy with rfl | rfl | rfl | rfl <;> (unfold I64; decide)⟩
set_option maxHeartbeats 4000000 in
set_option maxRecDepth 10000 in
theorem awake14_any (w : World) : Calls Try.prog 10 #[] w fun e w' => e = .returned (.bool true) ∧ Gr w w' := by
  go_enter Try.func10, Try.ntmps10
  go_upto_region 2 with (fail)
  obtain ⟨w1, hw1⟩ : ∃ w1, w1 = w.alloc (.cells #[.int .i64 0, .int .i64 3, .int .i64 1, .int .i64 5, .int .i64 2, .int .i64 5, .int .i64 3, .int .i64 0] 32) := ⟨_, rfl⟩
  have hF : Hid (Frs l4 (.slice (some ⟨w.heap.size, 0, none⟩) 4 4) w1) := Lib.hid (by rw [hw1]; exact Frs.four w _)
  have hg1 : Gr w w1 := by rw [hw1]; exact Gr.alloc _ _
  rw [← hw1]
  replace hw1 := Lib.hid hw1
  go_upto_region 3 with (go_at_call 8; go_must (refine (pick_any l4 2 (by unfold I64; decide) [] _ _ _ hF (Lib.hid (Ints.nil_ _ _ _ (by decide))) (by decide) (by decide)).mono ?_); unfold PickPost; rw [ok4, pk4]; rintro e w2 ⟨v2, rfl, hv2, hg2⟩)
  replace hF := Frs.gr hg2 hF
  go_upto_region 4 with (go_at_call 8; go_must (refine (pick_any l4 2 (by unfold I64; decide) [1] _ _ _ (Frs.gr (Gr.alloc _ _) hF) (Lib.hid (Ints.one _ 1 (by unfold I64; decide) _)) (by decide) (by decide)).mono ?_); unfold PickPost; rw [ok4b, pk4b]; rintro e w3 ⟨v3, rfl, hv3, hg3⟩)
  replace hg3 := (Gr.alloc w2 _).trans hg3
  replace hF := Frs.gr hg3 hF
  replace hv2 := OI.gr hg3 hv2
  go_upto_region 5 with (go_at_call 8; go_must (refine (pick_any l4 4 (by unfold I64; decide) [] _ _ _ hF (Lib.hid (Ints.nil_ _ _ _ (by decide))) (by decide) (by decide)).mono ?_); unfold PickPost; rw [ok4c]; rintro e w4 ⟨v4, rfl, -, hg4⟩)
  replace hv2 := OI.gr hg4 hv2
  replace hv3 := OI.gr hg4 hv3
  have i2 : ([1, 2] == ([1, 2] : List Int)) = true := by decide
  have i3 : ([2, 0] == ([2, 0] : List Int)) = true := by decide
  have cA := Lib.hid (same_any [1, 2] [1, 2] v2 _ (w4.alloc (.cells #[.int .i64 1, .int .i64 2] 3)) (Lib.hid (OI.ints (OI.gr (Gr.alloc w4 _) hv2).out)) (Lib.hid (Ints.two w4 1 2 (by unfold I64; decide) (by unfold I64; decide) _)) (by decide) (by decide))
  have cB : Hid (∀ w5, Gr w4 w5 → Calls Try.prog 11 #[v3, .slice (some ⟨w5.heap.size, 0, none⟩) 2 2] (w5.alloc (.cells #[.int .i64 2, .int .i64 0] 3)) fun e w' => e = .returned (.bool ([2, 0] == ([2, 0] : List Int))) ∧ Gr (w5.alloc (.cells #[.int .i64 2, .int .i64 0] 3)) w') := Lib.hid (fun w5 h5 => same_any [2, 0] [2, 0] v3 _ _ (Lib.hid (OI.ints (OI.gr (Gr.alloc w5 _) (OI.gr h5 hv3)).out)) (Lib.hid (Ints.two w5 2 0 (by unfold I64; decide) (by unfold I64; decide) _)) (by decide) (by decide))
  rw [i2] at cA
  rw [i3] at cB
  have hg := Lib.hid (((hg1.trans hg2).trans hg3).trans hg4)
  clear hv2 hv3 hF hw1 hg1 hg2 hg3 hg4 i2 i3
  go_wp2_with (first
    | (go_at_call 11; refine cA.out.mono ?_; clear cA; rintro e w5 ⟨rfl, hg5⟩; replace hg5 := (Gr.alloc w4 _).trans hg5; replace hg5 := Lib.hid hg5; replace cB := Lib.hid (cB.out w5 hg5.out))
    | (go_at_call 11; go_must (refine cB.out.mono ?_); clear cB; rintro e w6 ⟨rfl, hg6⟩; replace hg6 := Lib.hid ((Gr.alloc w5 _).trans hg6)))
  go_ret
  exact ⟨rfl, hg.out.trans (hg5.out.trans hg6.out)⟩
end Go.Proofs.Ytfiaedhdgbnfiaa
