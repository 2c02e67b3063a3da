/- Regions that draw their order: a fork of four operations. -/
import Derived.Test.YtiliggleplpjbaaReg2
namespace Go.Proofs.Ytiliggleplpjbaa
set_option linter.unusedVariables false
open Go
section
variable {P : Program} {ops : Array Oper} {Q : Exit → Act → World → Prop} {md : Region.Mode} {R : World → World → Prop} {L : Nat}
/-- three operations may come up: each way is walked -/
theorem wpR_three (i j k : Nat) {oi oj ok : Oper} {fuel : Nat} {listed : Array Bool} {a : Act} {w : World} (hi : ops[i]? = some oi) (hj : ops[j]? = some oj) (hk : ops[k]? = some ok) (hr : Region.ready md ops listed = [i, j, k]) (hwi : Region.wanted oi (yielded ops a.tmps) = true) (hwj : Region.wanted oj (yielded ops a.tmps) = true) (hwk : Region.wanted ok (yielded ops a.tmps) = true)
    (h1 : ∀ K : Act → World → Prop, (∀ a' w', (i < L → R w w') → wpR P md ops R L Q fuel (listed.setIfInBounds i true) a' w' → K a' w') → Oper.wp P oi a w K Q)
    (h2 : ∀ K : Act → World → Prop, (∀ a' w', (j < L → R w w') → wpR P md ops R L Q fuel (listed.setIfInBounds j true) a' w' → K a' w') → Oper.wp P oj a w K Q)
    (h3 : ∀ K : Act → World → Prop, (∀ a' w', (k < L → R w w') → wpR P md ops R L Q fuel (listed.setIfInBounds k true) a' w' → K a' w') → Oper.wp P ok a w K Q) : wpR P md ops R L Q (fuel + 1) listed a w := by
  refine ⟨fun h0 => absurd (hr ▸ h0) (by simp), fun m hm => ?_⟩
  rw [hr, List.mem_cons, List.mem_cons, List.mem_singleton] at hm
  rcases hm with rfl | rfl | rfl
  · have := h1 (fun a' w' => (m < L → R w w') ∧ wpR P md ops R L Q fuel (listed.setIfInBounds m true) a' w') (fun _ _ h1 h2 => ⟨h1, h2⟩)
    unfold wpOp
    rw [hi]
    show if Region.wanted oi (yielded ops a.tmps) = true then _ else _
    rw [if_pos hwi]
    exact .inl this
  · have := h2 (fun a' w' => (m < L → R w w') ∧ wpR P md ops R L Q fuel (listed.setIfInBounds m true) a' w') (fun _ _ h1 h2 => ⟨h1, h2⟩)
    unfold wpOp
    rw [hj]
    show if Region.wanted oj (yielded ops a.tmps) = true then _ else _
    rw [if_pos hwj]
    exact .inl this
  · have := h3 (fun a' w' => (m < L → R w w') ∧ wpR P md ops R L Q fuel (listed.setIfInBounds m true) a' w') (fun _ _ h1 h2 => ⟨h1, h2⟩)
    unfold wpOp
    rw [hk]
    show if Region.wanted ok (yielded ops a.tmps) = true then _ else _
    rw [if_pos hwk]
    exact .inl this
end
section
variable {P : Program} {ops : Array Oper} {Q : Exit → Act → World → Prop} {md : Region.Mode} {R : World → World → Prop} {L : Nat}
theorem wpR_four (i j k l : Nat) {oi oj ok ol : Oper} {fuel : Nat} {listed : Array Bool} {a : Act} {w : World} (hi : ops[i]? = some oi) (hj : ops[j]? = some oj) (hk : ops[k]? = some ok) (hl : ops[l]? = some ol) (hr : Region.ready md ops listed = [i, j, k, l]) (hwi : Region.wanted oi (yielded ops a.tmps) = true) (hwj : Region.wanted oj (yielded ops a.tmps) = true) (hwk : Region.wanted ok (yielded ops a.tmps) = true) (hwl : Region.wanted ol (yielded ops a.tmps) = true)
    (h1 : ∀ K : Act → World → Prop, (∀ a' w', (i < L → R w w') → wpR P md ops R L Q fuel (listed.setIfInBounds i true) a' w' → K a' w') → Oper.wp P oi a w K Q)
    (h2 : ∀ K : Act → World → Prop, (∀ a' w', (j < L → R w w') → wpR P md ops R L Q fuel (listed.setIfInBounds j true) a' w' → K a' w') → Oper.wp P oj a w K Q)
    (h3 : ∀ K : Act → World → Prop, (∀ a' w', (k < L → R w w') → wpR P md ops R L Q fuel (listed.setIfInBounds k true) a' w' → K a' w') → Oper.wp P ok a w K Q)
    (h4 : ∀ K : Act → World → Prop, (∀ a' w', (l < L → R w w') → wpR P md ops R L Q fuel (listed.setIfInBounds l true) a' w' → K a' w') → Oper.wp P ol a w K Q) : wpR P md ops R L Q (fuel + 1) listed a w := by
  refine ⟨fun h0 => absurd (hr ▸ h0) (by simp), fun m hm => ?_⟩
  rw [hr, List.mem_cons, List.mem_cons, List.mem_cons, List.mem_singleton] at hm
  rcases hm with rfl | rfl | rfl | rfl
  · have := h1 (fun a' w' => (m < L → R w w') ∧ wpR P md ops R L Q fuel (listed.setIfInBounds m true) a' w') (fun _ _ h1 h2 => ⟨h1, h2⟩)
    unfold wpOp
    rw [hi]
    show if Region.wanted _ (yielded ops a.tmps) = true then _ else _
    rw [if_pos hwi]
    exact .inl this
  · have := h2 (fun a' w' => (m < L → R w w') ∧ wpR P md ops R L Q fuel (listed.setIfInBounds m true) a' w') (fun _ _ h1 h2 => ⟨h1, h2⟩)
    unfold wpOp
    rw [hj]
    show if Region.wanted _ (yielded ops a.tmps) = true then _ else _
    rw [if_pos hwj]
    exact .inl this
  · have := h3 (fun a' w' => (m < L → R w w') ∧ wpR P md ops R L Q fuel (listed.setIfInBounds m true) a' w') (fun _ _ h1 h2 => ⟨h1, h2⟩)
    unfold wpOp
    rw [hk]
    show if Region.wanted _ (yielded ops a.tmps) = true then _ else _
    rw [if_pos hwk]
    exact .inl this
  · have := h4 (fun a' w' => (m < L → R w w') ∧ wpR P md ops R L Q fuel (listed.setIfInBounds m true) a' w') (fun _ _ h1 h2 => ⟨h1, h2⟩)
    unfold wpOp
    rw [hl]
    show if Region.wanted _ (yielded ops a.tmps) = true then _ else _
    rw [if_pos hwl]
    exact .inl this
end
end Go.Proofs.Ytiliggleplpjbaa
