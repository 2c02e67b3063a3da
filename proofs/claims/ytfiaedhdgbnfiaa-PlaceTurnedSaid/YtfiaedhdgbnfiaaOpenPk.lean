/- Arguments that are lists of cartridges, of numbers. -/
import Derived.Test.YtfiaedhdgbnfiaaOpenTab
import Derived.Test.YtfiaedhdgbnfiaaPk1
import Derived.ChangeSlices
namespace Go.Proofs.Ytfiaedhdgbnfiaa
set_option linter.unusedVariables false
open Go Go.RowKit Go.ChangeShapes Go.WideShapes Go.ChangeAt Go.Deep
section
variable {H : Type} {enc : TypeId × Value → H} {W : World} {base : Nat} {sp : Nat → Bool} {held : Bool}
theorem open_frs {r : Reach} {b0 : Nat} {v : Value} {d : DataW H} {ps : List MemPlace}
    (hval : Value.okWide Try.prog W r b0 22 v) (h0 : DataW.Trod enc Try.prog W base sp held 22 v d ps) (hlt : ∀ x ∈ ps, x.block < W.heap.size) : ∃ L, Hid (Frs L v W) := by
  obtain ⟨A, n, c, F, rfl, lc, cm, tb⟩ := open_tab (ti := 3) Try.underlying22 Try.underlying32 (by kernel_rfl) (by kernel_rfl) (by kernel_rfl) Try.underlying3 (by decide) hval h0 hlt
  exact ⟨_, Lib.hid (Frs.of_tab tb lc cm)⟩
theorem open_ints {r : Reach} {b0 : Nat} {v : Value} {d : DataW H} {ps : List MemPlace}
    (hval : Value.okWide Try.prog W r b0 23 v) (h0 : DataW.Trod enc Try.prog W base sp held 23 v d ps) (hlt : ∀ x ∈ ps, x.block < W.heap.size) : ∃ L, Hid (Ints L v W) := by
  obtain ⟨a0, len, cap, rfl⟩ := okWide_slice Try.underlying23 hval
  obtain ⟨fuel, hf⟩ := h0
  rcases ChangeShapes.open_ints Try.underlying23 Try.underlying3 (by kernel_rfl) hf with ⟨hcs, hx⟩ | ⟨a, len', cap', zs, hcs, hb, hl, hm, hzl, hx, hat, hwf⟩
  · simp [Value.cells] at hcs
    obtain ⟨rfl, rfl, rfl⟩ := hcs
    exact ⟨[], Lib.hid (Ints.nil_ _ _ _ (Nat.zero_le _))⟩
  · simp [Value.cells] at hcs
    obtain ⟨rfl, rfl, rfl⟩ := hcs
    simp only [Prod.mk.injEq] at hx
    have hlz : len ≤ zs.length := by rw [hzl]; split <;> omega
    have htl : (zs.take len).length = len := by rw [List.length_take]; omega
    refine ⟨zs.take len, Lib.hid ⟨some a, cap, by rw [htl], by omega, hm, fun hp => ?_, fun x hx => ?_⟩⟩
    · rw [htl] at hp
      have h00 := hat 0 (by omega)
      have ef := addr_flat h00
      refine ⟨a.block, a.off, by rw [← ef], ?_, fun i x hxi => ?_⟩
      · refine hlt (.cell a.block a.off) ?_
        rw [hx.2]
        exact List.mem_map.mpr ⟨0, List.mem_range.mpr (by omega), by simp⟩
      · rw [List.getElem?_take] at hxi
        split at hxi
        · obtain ⟨hi, e⟩ := List.getElem?_eq_some_iff.mp hxi
          have h1 := hat i hi
          rw [ef, add_flat] at h1
          rw [h1, List.getD_eq_getElem?_getD, hxi]; rfl
        · cases hxi
    · have := i64_of (hwf x (List.mem_of_mem_take hx))
      exact this
end
end Go.Proofs.Ytfiaedhdgbnfiaa
