/- Arguments that are slices of slices of bytes. -/
import Derived.Test.YtppclmidnomkjaaOpenActs
namespace Go.Proofs.Ytppclmidnomkjaa
set_option linter.unusedVariables false
open Go Go.RowKit Go.ChangeShapes Go.WideShapes Go.ChangeAt Go.Deep

structure PartR where
  A : Option Addr
  c : Nat
  l : List UInt8
def PartsAt (w : World) (b o n : Nat) (f : Nat → PartR) : Prop := ∀ i, i < n → w.cell? ⟨b, o + i, none⟩ = some (.slice (f i).A (f i).l.length (f i).c)
/-- n parts lie behind A, below block B, their bytes, too -/
def Parts (w : World) (B : Nat) (A : Option Addr) (n : Nat) (f : Nat → PartR) : Prop :=
  (0 < n → ∃ b o, A = some ⟨b, o, none⟩ ∧ b < B ∧ PartsAt w b o n f) ∧ ∀ i, i < n → (f i).l.length ≤ (f i).c ∧ (f i).c ≤ maxLen ∧ Rd w B (f i).A (f i).l
theorem PartsAt.below {w w' : World} {b o n B : Nat} {f : Nat → PartR} (h : PartsAt w b o n f) (hB : b < B) (hb : Below B w w') : PartsAt w' b o n f := fun i hi => (hb.cell (p := ⟨b, o + i, none⟩) hB).trans (h i hi)
section
variable {H : Type} {enc : TypeId × Value → H} {P : Program} {W : World} {base : Nat} {sp : Nat → Bool} {held : Bool}
theorem open_parts {t e tb : TypeId} (ht : P.underlying t = some (.slice e)) (he : P.underlying e = some (.slice tb)) (hC : P.cellsOf e = 1) (hb8 : P.underlying tb = some (.int .u8)) (hc1 : P.cellsOf tb = 1) {r : Reach} {b0 : Nat} {v : Value} {d : DataW H} {ps : List MemPlace}
    (hval : Value.okWide P W r b0 t v) (h0 : DataW.Trod enc P W base sp held t v d ps) (hlt : ∀ x ∈ ps, x.block < W.heap.size) :
    ∃ A n c, ∃ f : Nat → PartR, v = .slice A n c ∧ n ≤ c ∧ c ≤ maxLen ∧ Parts W W.heap.size A n f ∧ ∀ (tl : List TypeId) (dl : List (DataW H)) (j : Nat), (DataW.weightsEach P tl dl).all (· ≤ reachBytes) = true → tl[j]? = some t → dl[j]? = some d → ∀ i, i < n → (f i).l.length * P.bytesOf tb ≤ reachBytes := by
  obtain ⟨a0, len, cap, rfl⟩ := okWide_slice ht hval
  obtain ⟨fuel, hf⟩ := h0
  rcases open_slice1 ht hC hf with ⟨hcs, hx⟩ | ⟨a, len', cap', m, nf, V, D, Pl, hcs, hb, hl, hm, hmm, hx, hrow⟩
  · simp [Value.cells] at hcs
    obtain ⟨rfl, rfl, rfl⟩ := hcs
    exact ⟨none, 0, 0, fun _ => ⟨none, 0, []⟩, rfl, Nat.zero_le _, Nat.zero_le _, ⟨fun h => absurd h (by omega), fun i h => absurd h (by omega)⟩, fun _ _ _ _ _ _ i h => absurd h (by omega)⟩
  · simp [Value.cells] at hcs
    obtain ⟨rfl, rfl, rfl⟩ := hcs
    simp only [Prod.mk.injEq] at hx
    have hlm : len ≤ m := by rw [hmm]; split <;> omega
    have h1 : ∀ i, ∃ q : PartR, i < len → W.cell? (a.add i) = some (.slice q.A q.l.length q.c) ∧ q.l.length ≤ q.c ∧ q.c ≤ maxLen ∧ Rd W W.heap.size q.A q.l ∧ ((D i = .nil ∧ q.l = []) ∨ ∃ es rest, D i = .slice es rest ∧ es.length = q.l.length) := fun i => by
      by_cases hi' : i < len
      · obtain ⟨hc, hd⟩ := hrow i (by omega)
        obtain ⟨A2, c2, l2, hV, g1, g2, g3, g4⟩ := trod_bytes he hb8 hc1 hd (fun x hx' => hlt x (by
          rw [hx.2]
          exact List.mem_append_right _ (List.mem_flatMap.mpr ⟨i, List.mem_range.mpr (by omega), hx'⟩)))
        exact ⟨⟨A2, c2, l2⟩, fun _ => ⟨by rw [hc, hV], g1, g2, g3, g4⟩⟩
      · exact ⟨⟨none, 0, []⟩, fun h => absurd h hi'⟩
    obtain ⟨f, hf2⟩ : ∃ f : Nat → PartR, ∀ i, i < len → W.cell? (a.add i) = some (.slice (f i).A (f i).l.length (f i).c) ∧ (f i).l.length ≤ (f i).c ∧ (f i).c ≤ maxLen ∧ Rd W W.heap.size (f i).A (f i).l ∧ ((D i = .nil ∧ (f i).l = []) ∨ ∃ es rest, D i = .slice es rest ∧ es.length = (f i).l.length) :=
      ⟨fun i => Classical.choose (h1 i), fun i hi => Classical.choose_spec (h1 i) hi⟩
    refine ⟨some a, len, cap, f, rfl, hl, hm, ⟨fun hn => ?_, fun i hi => ⟨(hf2 i hi).2.1, (hf2 i hi).2.2.1, (hf2 i hi).2.2.2.1⟩⟩, fun tl dl j hw htl hdl i hi => ?_⟩
    rotate_left
    · rcases (hf2 i hi).2.2.2.2 with ⟨-, h0⟩ | ⟨es, rest, hD, he'⟩
      · rw [h0]; simp
      · rw [hx.1] at hdl
        have h3 : (es.length + rest.length) * P.bytesOf tb ≤ reachBytes := by
          refine of_decide_eq_true (List.all_eq_true.1 hw _ (DataW.weights_mem_each htl hdl _ ?_))
          simp only [DataW.weights, ht, List.mem_cons, List.mem_append]
          refine Or.inr (Or.inl (weightsAll_mem (List.mem_map.mpr ⟨i, List.mem_range.mpr hi, hD⟩) _ ?_))
          simp [DataW.weights, he]
        rw [← he']
        exact Nat.le_trans (Nat.mul_le_mul_right _ (Nat.le_add_right _ _)) h3
    have hv00 := (hf2 0 hn).1
    have hflat := addr_flat hv00
    have ea : ∀ k, a.add k = ⟨a.block, a.off + k, none⟩ := fun k => by
      have := add_flat a.block a.off k
      rwa [← hflat] at this
    refine ⟨a.block, a.off, congrArg some hflat, ?_, fun i hi => ?_⟩
    · refine hlt (.cell a.block a.off) ?_
      rw [hx.2]
      exact List.mem_append_left _ (List.mem_map.mpr ⟨0, List.mem_range.mpr (by omega), by simp⟩)
    · rw [← ea]
      exact (hf2 i hi).1
end
end Go.Proofs.Ytppclmidnomkjaa
