/- Arguments that are slices of integers, of texts. -/
import Derived.Test.YticdkmnjolkacabOpen
import Derived.Test.YticdkmnjolkacabBytes2
import Derived.Test.YticdkmnjolkacabBulk
import Derived.Deep.Slices
import Derived.Deep.Strs
import Derived.ChangeSlices
namespace Go.Proofs.Yticdkmnjolkacab
set_option linter.unusedVariables false
open Go Go.RowKit Go.ChangeShapes Go.WideShapes Go.ChangeAt Go.Deep
/-- n integers lie behind A, below block B -/
def IAt (w : World) (B : Nat) (A : Option Addr) (n : Nat) (z : Nat → Int) : Prop :=
  (0 < n → ∃ ad, A = some ad ∧ ad.block < B ∧ ∀ i, i < n → w.cell? (ad.add i) = some (.int .i64 (z i))) ∧ ∀ i, i < n → -9223372036854775808 ≤ z i ∧ z i ≤ 9223372036854775807
/-- n texts lie behind A, below block B -/
def SAt (w : World) (B : Nat) (A : Option Addr) (n : Nat) (t : Nat → List UInt8) : Prop :=
  0 < n → ∃ ad, A = some ad ∧ ad.block < B ∧ ∀ i, i < n → w.cell? (ad.add i) = some (.string (bs (t i)))
theorem IAt.get {w w' : World} {B n k : Nat} {A : Option Addr} {z : Nat → Int} (h : IAt w B A n z) (hb : Below B w w') (hk : k < n) : ∃ ad, A = some ad ∧ ad.block < B ∧ w'.cell? (ad.add k) = some (.int .i64 (z k)) := by
  obtain ⟨ad, e, hlt, hc⟩ := h.1 (by omega)
  exact ⟨ad, e, hlt, (hb.cell (p := ad.add k) (by rw [block_of_add]; exact hlt)).trans (hc k hk)⟩
theorem SAt.get {w w' : World} {B n k : Nat} {A : Option Addr} {t : Nat → List UInt8} (h : SAt w B A n t) (hb : Below B w w') (hk : k < n) : ∃ ad, A = some ad ∧ ad.block < B ∧ w'.cell? (ad.add k) = some (.string (bs (t k))) := by
  obtain ⟨ad, e, hlt, hc⟩ := h (by omega)
  exact ⟨ad, e, hlt, (hb.cell (p := ad.add k) (by rw [block_of_add]; exact hlt)).trans (hc k hk)⟩
section
variable {H : Type} {enc : TypeId × Value → H} {P : Program} {W : World} {base : Nat} {sp : Nat → Bool} {held : Bool}
theorem open_is {t e : TypeId} (ht : P.underlying t = some (.slice e)) (he : P.underlying e = some (.int .i64)) (hc : P.cellsOf e = 1) {r : Reach} {b0 : Nat} {v : Value} {d : DataW H} {ps : List MemPlace}
    (hval : Value.okWide P W r b0 t v) (h0 : DataW.Trod enc P W base sp held t v d ps) (hlt : ∀ x ∈ ps, x.block < W.heap.size) :
    ∃ A n c, ∃ z : Nat → Int, v = .slice A n c ∧ n ≤ c ∧ c ≤ maxLen ∧ IAt W W.heap.size A n z := by
  obtain ⟨a0, len, cap, rfl⟩ := okWide_slice ht hval
  obtain ⟨fuel, hf⟩ := h0
  rcases open_ints ht he hc hf with ⟨hcs, hx⟩ | ⟨a, len', cap', zs, hcs, hb, hl, hm, hzl, hx, hat, hwf⟩
  · simp [Value.cells] at hcs
    obtain ⟨rfl, rfl, rfl⟩ := hcs
    exact ⟨none, 0, 0, fun _ => 0, rfl, Nat.zero_le _, Nat.zero_le _, fun h => absurd h (by omega), fun i h => absurd h (by omega)⟩
  · simp [Value.cells] at hcs
    obtain ⟨rfl, rfl, rfl⟩ := hcs
    simp only [Prod.mk.injEq] at hx
    have hlz : len ≤ zs.length := by rw [hzl]; split <;> omega
    refine ⟨some a, len, cap, fun i => zs.getD i 0, rfl, hl, hm, fun hn => ⟨a, rfl, ?_, fun i hi => hat i (by omega)⟩, fun i hi => ?_⟩
    · refine hlt (.cell a.block a.off) ?_
      rw [hx.2]
      exact List.mem_map.mpr ⟨0, List.mem_range.mpr (by omega), by simp⟩
    · refine i64_of (hwf _ ?_)
      show zs.getD i 0 ∈ zs
      rw [List.getD_eq_getElem?_getD, List.getElem?_eq_getElem (by omega)]
      exact List.getElem_mem _
theorem open_ss {t e : TypeId} (ht : P.underlying t = some (.slice e)) (he : P.underlying e = some .string) (hc : P.cellsOf e = 1) {r : Reach} {b0 : Nat} {v : Value} {d : DataW H} {ps : List MemPlace}
    (hval : Value.okWide P W r b0 t v) (h0 : DataW.Trod enc P W base sp held t v d ps) (hlt : ∀ x ∈ ps, x.block < W.heap.size) :
    ∃ A n c, ∃ f : Nat → List UInt8, v = .slice A n c ∧ n ≤ c ∧ c ≤ maxLen ∧ SAt W W.heap.size A n f ∧ ∀ i, i < n → (f i).length + 1 ≤ Rows.uptoBulk d := by
  obtain ⟨a0, len, cap, rfl⟩ := okWide_slice ht hval
  obtain ⟨fuel, hf⟩ := h0
  rcases open_strs ht he hc hf with ⟨hcs, hx⟩ | ⟨a, len', cap', m, Sx, hcs, hb, hl, hm, hmm, hx, hat⟩
  · simp [Value.cells] at hcs
    obtain ⟨rfl, rfl, rfl⟩ := hcs
    exact ⟨none, 0, 0, fun _ => [], rfl, Nat.zero_le _, Nat.zero_le _, fun h => absurd h (by omega), fun i h => absurd h (by omega)⟩
  · simp [Value.cells] at hcs
    obtain ⟨rfl, rfl, rfl⟩ := hcs
    simp only [Prod.mk.injEq] at hx
    have hlm : len ≤ m := by rw [hmm]; split <;> omega
    have ebs : ∀ s : ByteArray, bs s.data.toList = s := fun s => by unfold bs; simp
    refine ⟨some a, len, cap, fun i => (Sx i).data.toList, rfl, hl, hm, fun hn => ⟨a, rfl, ?_, fun i hi => by rw [ebs]; exact (hat i (by omega)).1⟩, fun i hi => ?_⟩
    · refine hlt (.cell a.block a.off) ?_
      rw [hx.2]
      exact List.mem_map.mpr ⟨0, List.mem_range.mpr (by omega), by simp⟩
    · rw [hx.1]
      have h1 : (DataW.lit (.string (Sx i).data.toList) : DataW H) ∈ (List.range len).map fun i => .lit (.string (Sx i).data.toList) := List.mem_map.mpr ⟨i, List.mem_range.mpr hi, rfl⟩
      have h2 := bulk_mem h1
      simp only [Rows.uptoBulk] at h2 ⊢
      omega
end
end Go.Proofs.Yticdkmnjolkacab
