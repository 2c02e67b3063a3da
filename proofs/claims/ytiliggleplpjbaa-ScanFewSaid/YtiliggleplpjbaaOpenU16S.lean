/- An argument that is a list of uint16. -/
import Derived.Test.YtiliggleplpjbaaOpen
import Derived.Test.YtiliggleplpjbaaSc32
import Derived.Deep.Slices
import Derived.ChangeSame
import Derived.ChangeSlices
import Derived.ChangeArms
namespace Go.Proofs.Ytiliggleplpjbaa
set_option linter.unusedVariables false
open Go Go.RowKit Go.ChangeShapes Go.WideShapes Go.ChangeAt Go.Deep
section
variable {H : Type} {enc : TypeId × Value → H} {P : Program} {W : World} {base : Nat} {sp : Nat → Bool} {held : Bool}
theorem open_u16s {t e : TypeId} (ht : P.underlying t = some (.slice e)) (he : P.underlying e = some (.int .u16)) (hc : P.cellsOf e = 1) {r : Reach} {b0 : Nat} {v : Value} {d : DataW H} {ps : List MemPlace}
    (hval : Value.okWide P W r b0 t v) (h0 : DataW.Trod enc P W base sp held t v d ps) (hlt : ∀ x ∈ ps, x.block < W.heap.size) :
    ∃ (A : Option Addr) (n c : Nat) (l : List Nat), v = .slice A n c ∧ n ≤ c ∧ c ≤ maxLen ∧ (∀ x ∈ l, x < 65536) ∧ RU16 W A n l := by
  obtain ⟨a0, len, cap, rfl⟩ := okWide_slice ht hval
  obtain ⟨fuel, hf⟩ := h0
  rcases open_slice ht hf with ⟨hcs, hx⟩ | ⟨a, len', cap', m, n, D, Pl, hcs, hb, hl, hm, hmm, hx, hi⟩
  · simp [Value.cells] at hcs
    obtain ⟨rfl, rfl, rfl⟩ := hcs
    exact ⟨none, 0, 0, [], rfl, Nat.zero_le _, Nat.zero_le _, fun x h => (by cases h), ⟨rfl, fun h => absurd h (Nat.lt_irrefl _)⟩⟩
  · simp [Value.cells] at hcs
    obtain ⟨rfl, rfl, rfl⟩ := hcs
    simp only [Prod.mk.injEq] at hx
    have hlm : len ≤ m := by rw [hmm]; split <;> omega
    have h1 : ∀ i, ∃ b : Nat, i < len → b < 65536 ∧ W.cell? (a.add i) = some (.int .u16 (b : Int)) := fun i => by
      by_cases hil : i < len
      · obtain ⟨cs', hcc, ht'⟩ := hi i (by omega)
        rw [hc] at hcc
        obtain ⟨_, hcl, hat⟩ := World.cells?_some hcc
        obtain ⟨z, hcs', -, hw⟩ := DataW.trod_int he ht'
        obtain ⟨b, rfl, hb5⟩ := u16_of hw
        have h2 := hat 0 (by omega)
        rw [hcs', Nat.mul_one, show (a.add i).add 0 = a.add i from Go.Deep.add_add a i 0] at h2
        exact ⟨b, fun _ => ⟨by omega, by simpa using h2⟩⟩
      · exact ⟨0, fun h => absurd h hil⟩
    refine ⟨some a, len, cap, (List.range len).map (fun i => (h1 i).choose), rfl, hl, hm, fun x hx => ?_, ⟨by simp, fun hn => ⟨a, rfl, ?_, fun j u hu => ?_⟩⟩⟩
    · obtain ⟨i, hi1, rfl⟩ := List.mem_map.mp hx
      exact ((h1 i).choose_spec (List.mem_range.mp hi1)).1
    · refine hlt (.cell a.block a.off) ?_
      rw [hx.2]
      refine List.mem_append_left _ ?_
      rw [hc]
      exact List.mem_map.mpr ⟨0, List.mem_range.mpr (by omega), by simp⟩
    · rw [List.getElem?_map, List.getElem?_map] at hu
      cases hq : (List.range len)[j]? with
      | none => rw [hq] at hu; cases hu
      | some i =>
        rw [hq] at hu
        have hji : j < len ∧ i = j := by
          have h3 := List.getElem?_eq_some_iff.mp hq
          obtain ⟨h4, h5⟩ := h3
          rw [List.length_range] at h4
          rw [List.getElem_range] at h5
          exact ⟨h4, h5.symm⟩
        obtain ⟨hj, rfl⟩ := hji
        simp only [Option.map_some, Option.some.injEq] at hu
        rw [← hu]
        exact ((h1 i).choose_spec hj).2
end
end Go.Proofs.Ytiliggleplpjbaa
