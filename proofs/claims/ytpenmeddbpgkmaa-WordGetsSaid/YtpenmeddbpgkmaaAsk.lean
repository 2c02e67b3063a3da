/- A slice of questions: a Boolean and a number each. -/
import Derived.Test.YtpenmeddbpgkmaaOpen
import Derived.Deep.SlicePairs
import Derived.Test.YtpenmeddbpgkmaaWordLaw
namespace Go.Proofs.Ytpenmeddbpgkmaa
set_option linter.unusedVariables false
open Go Go.RowKit Go.ChangeShapes Go.WideShapes Go.ChangeAt Go.Deep

/-- n questions lie behind A, below block B -/
def Asks (w : World) (B : Nat) (A : Option Addr) (n : Nat) (t : Nat → Bool) (z : Nat → Int) : Prop :=
  0 < n → ∃ ad, A = some ad ∧ ad.block < B ∧ ∀ i, i < n → w.cell? (ad.add (i * 2)) = some (.bool (t i)) ∧ w.cell? (ad.add (i * 2 + 1)) = some (.int .i64 (z i)) ∧ -9223372036854775808 ≤ z i ∧ z i ≤ 9223372036854775807
theorem Asks.keep {w w' : World} {B : Nat} {A : Option Addr} {n : Nat} {t : Nat → Bool} {z : Nat → Int} (h : Asks w B A n t z) (hk : ∀ p : Addr, p.block < B → w'.cell? p = w.cell? p) : Asks w' B A n t z := fun hn => by
  obtain ⟨ad, rfl, hb, hc⟩ := h hn
  refine ⟨ad, rfl, hb, fun i hi => ?_⟩
  rw [hk _ (by rw [block_of_add]; exact hb), hk _ (by rw [block_of_add]; exact hb)]
  exact hc i hi
theorem Asks.below {w w' : World} {B : Nat} {A : Option Addr} {n : Nat} {t : Nat → Bool} {z : Nat → Int} (h : Asks w B A n t z) (hb : Below B w w') : Asks w' B A n t z := h.keep fun _ hp => hb.cell hp
section
variable {H : Type} {enc : TypeId × Value → H} {W : World} {base : Nat} {sp : Nat → Bool} {held : Bool}
theorem open_asks {r : Reach} {b0 : Nat} {v : Value} {d : DataW H} {ps : List MemPlace}
    (hval : Value.okWide Try.prog W r b0 40 v) (h0 : DataW.Trod enc Try.prog W base sp held 40 v d ps) (hlt : ∀ x ∈ ps, x.block < W.heap.size) :
    ∃ A n c, ∃ (t : Nat → Bool) (z : Nat → Int), v = .slice A n c ∧ n ≤ c ∧ c ≤ maxLen ∧ Asks W W.heap.size A n t z := by
  obtain ⟨a0, len, cap, rfl⟩ := okWide_slice Try.underlying40 hval
  obtain ⟨fuel, hf⟩ := h0
  rcases open_slice_pairs Try.underlying40 Try.underlying44 (by kernel_rfl) rfl rfl (by kernel_rfl) (by kernel_rfl) hf with ⟨hcs, hx⟩ | ⟨a, len', cap', m, n, V0, V1, D0, D1, P0, P1, hcs, hb, hl, hm, hmm, hx, hall⟩
  · simp [Value.cells] at hcs
    obtain ⟨rfl, rfl, rfl⟩ := hcs
    exact ⟨none, 0, 0, fun _ => false, fun _ => 0, rfl, Nat.zero_le _, Nat.zero_le _, fun h => absurd h (by omega)⟩
  · simp [Value.cells] at hcs
    obtain ⟨rfl, rfl, rfl⟩ := hcs
    simp only [Prod.mk.injEq] at hx
    have hlm : len ≤ m := by rw [hmm]; split <;> omega
    have h1 : ∀ i, ∃ q : Bool × Int, i < len → W.cell? (a.add (i * 2)) = some (.bool q.1) ∧ W.cell? (a.add (i * 2 + 1)) = some (.int .i64 q.2) ∧ -9223372036854775808 ≤ q.2 ∧ q.2 ≤ 9223372036854775807 := fun i => by
      by_cases hi : i < len
      · obtain ⟨c1, c2, t1, t2⟩ := hall i (by omega)
        obtain ⟨b, e1, -⟩ := DataW.trod_bool Try.underlying4 t1
        obtain ⟨z, e2, -, wz⟩ := DataW.trod_int Try.underlying3 t2
        injection e1 with e1 _
        injection e2 with e2 _
        rw [e1] at c1
        rw [e2] at c2
        exact ⟨(b, z), fun _ => ⟨c1, c2, i64_of wz⟩⟩
      · exact ⟨(false, 0), fun h => absurd h hi⟩
    refine ⟨some a, len, cap, fun i => (Classical.choose (h1 i)).1, fun i => (Classical.choose (h1 i)).2, rfl, hl, hm, fun hn => ⟨a, rfl, ?_, fun i hi => Classical.choose_spec (h1 i) hi⟩⟩
    refine hlt (.cell a.block a.off) ?_
    rw [hx.2]
    exact List.mem_append_left _ (List.mem_map.mpr ⟨0, List.mem_range.mpr (by omega), by simp⟩)
end
end Go.Proofs.Ytpenmeddbpgkmaa
