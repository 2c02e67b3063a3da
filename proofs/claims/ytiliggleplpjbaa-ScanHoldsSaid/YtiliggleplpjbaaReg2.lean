/- Regions that draw their order: a fork of two operations. -/
import Derived.Test.YtiliggleplpjbaaReg
namespace Go.Proofs.Ytiliggleplpjbaa
set_option linter.unusedVariables false
open Go
section
variable {P : Program} {ops : Array Oper} {Q : Exit → Act → World → Prop} {md : Region.Mode} {R : World → World → Prop} {L : Nat}
/-- two operations may come up: each way is walked -/
theorem wpR_two (i j : Nat) {oi oj : Oper} {fuel : Nat} {listed : Array Bool} {a : Act} {w : World} (hi : ops[i]? = some oi) (hj : ops[j]? = some oj) (hr : Region.ready md ops listed = [i, j]) (hwi : Region.wanted oi (yielded ops a.tmps) = true) (hwj : Region.wanted oj (yielded ops a.tmps) = true)
    (h1 : ∀ K : Act → World → Prop, (∀ a' w', (i < L → R w w') → wpR P md ops R L Q fuel (listed.setIfInBounds i true) a' w' → K a' w') → Oper.wp P oi a w K Q)
    (h2 : ∀ K : Act → World → Prop, (∀ a' w', (j < L → R w w') → wpR P md ops R L Q fuel (listed.setIfInBounds j true) a' w' → K a' w') → Oper.wp P oj a w K Q) : wpR P md ops R L Q (fuel + 1) listed a w := by
  refine ⟨fun h0 => absurd (hr ▸ h0) (by simp), fun k hk => ?_⟩
  rw [hr, List.mem_cons, List.mem_singleton] at hk
  rcases hk with rfl | rfl
  · have := h1 (fun a' w' => (k < L → R w w') ∧ wpR P md ops R L Q fuel (listed.setIfInBounds k true) a' w') (fun _ _ h1 h2 => ⟨h1, h2⟩)
    unfold wpOp
    rw [hi]
    show if Region.wanted oi (yielded ops a.tmps) = true then _ else _
    rw [if_pos hwi]
    exact .inl this
  · have := h2 (fun a' w' => (k < L → R w w') ∧ wpR P md ops R L Q fuel (listed.setIfInBounds k true) a' w') (fun _ _ h1 h2 => ⟨h1, h2⟩)
    unfold wpOp
    rw [hj]
    show if Region.wanted oj (yielded ops a.tmps) = true then _ else _
    rw [if_pos hwj]
    exact .inl this
/-- from here on a narrower relation -/
theorem wpR_sub {R' : World → World → Prop} (hR : ∀ x y, R' x y → R x y) : ∀ (fuel : Nat) (listed : Array Bool) (a : Act) (w : World), wpR P md ops R' L Q fuel listed a w → wpR P md ops R L Q fuel listed a w
  | 0, _, _, _, h => h
  | fuel + 1, _, _, _, h => ⟨h.1, fun i hi => wpOp_mono (fun a' w' h' => ⟨fun hL => hR _ _ (h'.1 hL), wpR_sub hR fuel _ a' w' h'.2⟩) (h.2 i hi)⟩
end
end Go.Proofs.Ytiliggleplpjbaa
