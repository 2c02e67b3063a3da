/- rows: a part in front, what lies behind, clearing. -/
import Derived.Test.YthboeoidgglcgaaGreatTyp
import Derived.Test.YthboeoidgglcgaaGreatTab
import Derived.Lib.SliceRun
import Derived.Deep.MidRow
import Derived.Deep.CutBlock
namespace Go.Proofs.YthboeoidgglcgaaGreat
set_option linter.unusedVariables false
set_option linter.unusedSimpArgs false
open Go Go.RowKit
section
variable {w w' : World} {lo e size n c g : Nat} {A : Option Addr} {xs : List Value}
theorem row_take (ho : w.ownsRow lo e size (.slice A n c) n xs) {m : Nat} (hm : m ≤ n) : w.ownsRow lo e size (.slice A m c) m (xs.take (m * size)) := by
  refine ⟨by rw [List.length_take, ho.1]; exact Nat.min_eq_left (Nat.mul_le_mul_right _ hm), ?_⟩
  rcases ho.2 with ⟨e, h0⟩ | ⟨g, cap, cur, e, h1, h2, h3, h4, h5, h6⟩
  · injection e with e1 e2 e3
    subst e1
    subst e3
    have : m = 0 := by omega
    subst this
    exact .inl ⟨rfl, rfl⟩
  · injection e with e1 e2 e3
    subst e1
    subst e3
    refine .inr ⟨g, c, cur, rfl, h1, h2, by omega, h4, h5, ?_⟩
    rw [← h6, List.take_take, Nat.min_eq_left (Nat.mul_le_mul_right _ hm)]
/-- cells behind the row's own may be stored into -/
theorem row_tail (h : w.ownsRow lo e size (.slice (some ⟨g, 0, none⟩) n c) n xs) (vs : List Value) : ∀ (o : Nat), n * size ≤ o → (w.setCells g o vs).ownsRow lo e size (.slice (some ⟨g, 0, none⟩) n c) n xs ∧ Upd (· = g) w (w.setCells g o vs) := by
  induction vs generalizing w with
  | nil => exact fun o _ => ⟨h, Upd.refl _ _⟩
  | cons v vs ih =>
    intro o ho
    have h1 := (h.stored o v).1
    have hx : xs.set o v = xs := List.set_eq_of_length_le (by have := h.1; omega)
    rw [hx] at h1
    obtain ⟨a, b⟩ := ih h1 (o + 1) (by omega)
    exact ⟨a, (Upd.of_grown (S := (· = g)) (blk_grown w g o v) rfl).trans b⟩
theorem run_clear_row {P : Program} (t : TypeId) (i : TypeInfo) (z : Value) (ht : P.underlying t = some (.slice e)) (hi : P.info? e = some i) (hz : i.zero = some z) (hzs : z.cells.size = size) (hz1 : ∀ u ∈ z.cells.toList, u.oneCell' = true) (hs : 0 < size)
    (h : w.ownsRow lo e size (.slice (some ⟨g, 0, none⟩) n c) n xs) (k c' o : Nat) (ho : o = n * size) (hk : 0 < k) (hkc : n + k ≤ c) :
    ∃ vs, ∀ ty, (Builtin.clear_ #[t] ty #[.slice (some ⟨g, o, none⟩) k c']).run P w = .ok (.tuple #[]) (w.setCells g o vs) := by
  subst ho
  refine ⟨(Builtin.zeroCells z.cells k).toList, fun ty => ?_⟩
  obtain ⟨k, rfl⟩ : ∃ j, k = j + 1 := ⟨k - 1, by omega⟩
  have hzv : ∀ w, (zeroValue e).run P w = .ok z w := fun w => by
    simp [zeroValue, typeInfo, hi, hz]
  rcases h.2 with ⟨e', _⟩ | ⟨g', cap, cur, e', _, hg, h3, h4, h5, h6⟩
  · cases e'
  · injection e' with e1 _ e3
    injection e1 with e1
    injection e1 with e1
    subst e1
    subst e3
    have hl : (Builtin.zeroCells z.cells (k + 1)).toList.length = (k + 1) * size := by simp [Builtin.zeroCells, hzs]
    have hst := run_storeCells_cells (P := P) g (n * size) (Builtin.zeroCells z.cells (k + 1)).toList 0 w (fun j hj => by
        rw [hl] at hj
        rw [cell_of_row w g _ cur e (0, 0) hg]
        have h9 : n * size + 0 + j < cur.size := by
          rw [h5]
          calc n * size + 0 + j < n * size + (k + 1) * size := by omega
            _ = (n + (k + 1)) * size := (Nat.add_mul n (k + 1) size).symm
            _ ≤ c * size := Nat.mul_le_mul_right _ hkc
        rw [Array.getElem?_eq_getElem h9]; rfl)
      (fun j _ => blk_free hg _)
      (fun v hv => by
        simp only [Builtin.zeroCells, Array.toList_map, List.mem_map] at hv
        obtain ⟨a, _, rfl⟩ := hv
        have ha : a % z.cells.size < z.cells.size := Nat.mod_lt _ (by omega)
        rw [getElem!_pos z.cells _ ha]
        exact hz1 _ (by rw [Array.mem_toList_iff]; exact Array.getElem_mem ha))
    simp only [Nat.add_zero] at hst
    simp [Builtin.clear_, run_underlying ht, hzv, hst]
end
end Go.Proofs.YthboeoidgglcgaaGreat
