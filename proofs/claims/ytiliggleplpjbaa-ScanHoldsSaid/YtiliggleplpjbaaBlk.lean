/- A block that is a struct: its cells, one of them stored anew. -/
import Derived.Test.YtiliggleplpjbaaMem
namespace Go.Proofs.Ytiliggleplpjbaa
set_option linter.unusedVariables false
open Go Go.RowKit
section
variable {w w' : World} {g : Nat} {cs : Array Value} {T : TypeId}
theorem blk_cell (hh : w.heap[g]? = some (.cells cs T (0, 0))) {j : Nat} {v : Value} (hj : cs[j]? = some v) : w.cell? ⟨g, j, none⟩ = some v := by
  unfold World.cell?
  rw [hh]
  exact hj
theorem blk_free (hh : w.heap[g]? = some (.cells cs T (0, 0))) (j : Nat) : w.frozen? ⟨g, j, none⟩ = false := by
  simp [World.frozen?, hh]
theorem blk_lt (hh : w.heap[g]? = some (.cells cs T (0, 0))) : g < w.heap.size := (Array.getElem?_eq_some_iff.1 hh).1
theorem blk_set (hh : w.heap[g]? = some (.cells cs T (0, 0))) (j : Nat) (u : Value) : (w.setCell ⟨g, j, none⟩ u).heap[g]? = some (.cells (cs.setIfInBounds j u) T (0, 0)) := by
  simp [World.setCell, Array.getElem?_modify, hh]
theorem blk_other {k : Nat} (hk : k ≠ g) (j : Nat) (u : Value) : (w.setCell ⟨g, j, none⟩ u).heap[k]? = w.heap[k]? := Below.heap_setCell _ _ _ _ (fun e => hk e)
theorem blk_grown (w : World) (g j : Nat) (u : Value) : w.grownBy (w.setCell ⟨g, j, none⟩ u) (some g) :=
  ⟨rfl, rfl, rfl, by simp [World.setCell], fun k _ hk => Below.heap_setCell _ _ _ _ (fun e => hk (congrArg some e))⟩
end
end Go.Proofs.Ytiliggleplpjbaa
