/- Arguments that are slices of slices of bytes, as tables. -/
import Derived.Test.YtdgkcgiknfjpjaaOpen
import Derived.Test.YtdgkcgiknfjpjaaBaseB
import Derived.Deep.Slices
import Derived.Deep.Fields
import Derived.ChangeSame
import Derived.SizedLaws
namespace Go.Proofs.Ytdgkcgiknfjpjaa
set_option linter.unusedVariables false
open Go Go.RowKit Go.ChangeShapes Go.WideShapes Go.ChangeAt Go.Deep
structure PartR where
  A : Option Addr
  c : Nat
  l : List UInt8
def PartsAt (w : World) (b o n : Nat) (f : Nat → PartR) : Prop := ∀ i, i < n → w.cell? ⟨b, o + i, none⟩ = some (.slice (f i).A (f i).l.length (f i).c)
/-- n parts lie behind A, below block B, their bytes, too -/
def Parts (w : World) (B : Nat) (A : Option Addr) (n : Nat) (f : Nat → PartR) : Prop :=
  (0 < n → ∃ b o, A = some ⟨b, o, none⟩ ∧ b < B ∧ PartsAt w b o n f) ∧ ∀ i, i < n → (f i).l.length ≤ (f i).c ∧ (f i).c ≤ maxLen ∧ Rd w B (f i).A (f i).l
theorem Parts.rt {w : World} {B n : Nat} {A : Option Addr} {f : Nat → PartR} (h : Parts w B A n f) : RT w B A n ((List.range n).map (fun i => (f i).l)) := by
  refine ⟨by simp, fun hn => ?_⟩
  obtain ⟨b, o, e, hb, hp⟩ := h.1 hn
  refine ⟨b, o, e, hb, fun i l hl => ?_⟩
  have hi : i < n := by
    have := (List.getElem?_eq_some_iff.mp hl).1
    simpa using this
  rw [List.getElem?_map, List.getElem?_range hi] at hl
  simp only [Option.map_some, Option.some.injEq] at hl
  subst hl
  obtain ⟨h1, h2, h3⟩ := h.2 i hi
  exact ⟨_, _, hp i hi, h1, h2, h3⟩
section
variable {H : Type} {enc : TypeId × Value → H} {P : Program} {W : World} {base : Nat} {sp : Nat → Bool} {held : Bool}
theorem addr_flat2 {w : World} {a : Addr} {v : Value} (h : w.cell? (a.add 0) = some v) : a = ⟨a.block, a.off, none⟩ := by
  obtain ⟨b, o, s⟩ := a
  cases s with
  | none => rfl
  | some s =>
    exfalso
    have e : (⟨b, o, some s⟩ : Addr).add 0 = ⟨b, o, some s⟩ := by unfold Addr.add; rw [if_pos rfl]
    rw [e] at h
    unfold World.cell? at h
    simp only [Option.isSome_some, if_true] at h
    split at h <;> cases h
theorem add_flat2 (b o k : Nat) : (⟨b, o, none⟩ : Addr).add k = ⟨b, o + k, none⟩ := by
  unfold Addr.add
  split
  · rename_i h; subst h; rfl
  · rfl
/-- bytes in a field -/
theorem trod_bytes {t e : TypeId} (ht : P.underlying t = some (.slice e)) (he : P.underlying e = some (.int .u8)) (hc : P.cellsOf e = 1) {fuel : Nat} {v : Value} {y : DataW H × List MemPlace}
    (hf : DataW.trod enc P W base sp held fuel t [v] = some y) (hlt : ∀ x ∈ y.2, x.block < W.heap.size) :
    ∃ A c, ∃ l : List UInt8, v = .slice A l.length c ∧ l.length ≤ c ∧ c ≤ maxLen ∧ Rd W W.heap.size A l ∧ ((y.1 = .nil ∧ l = []) ∨ ∃ es rest, y.1 = .slice es rest ∧ es.length = l.length) := by
  rcases open_ints ht he hc hf with ⟨hcs, hx⟩ | ⟨a, len', cap', zs, hcs, _, hl, hm, hz, hx, hcell, hwz⟩
  · injection hcs with hcs _
    subst hcs
    exact ⟨none, 0, [], rfl, Nat.zero_le _, Nat.zero_le _, Rd.nil_, .inl ⟨by rw [hx], rfl⟩⟩
  · injection hcs with hcs _
    subst hcs
    have hzl : len' ≤ zs.length := by rw [hz]; split <;> omega
    have hll : ((zs.take len').map (fun n => UInt8.ofNat n.toNat)).length = len' := by simp; omega
    refine ⟨some a, cap', (zs.take len').map (fun n => UInt8.ofNat n.toNat), by rw [hll], by omega, hm, ⟨by simp, fun hp => ⟨a, rfl, ?_, fun j u hu => ?_⟩⟩, .inr ⟨_, _, by rw [hx], by rw [hll]; simp [lits]; omega⟩⟩
    · rw [hll] at hp
      refine hlt (.cell a.block a.off) ?_
      rw [hx]
      exact List.mem_map.mpr ⟨0, List.mem_range.mpr (by omega), by simp⟩
    · rw [List.getElem?_map, Option.map_eq_some_iff] at hu
      obtain ⟨x, hx', rfl⟩ := hu
      rw [List.getElem?_map, Option.map_eq_some_iff] at hx'
      obtain ⟨n, hn, rfl⟩ := hx'
      rw [List.getElem?_take] at hn
      split at hn
      · have hj : j < zs.length := (List.getElem?_eq_some_iff.mp hn).1
        have hw := hwz n (List.mem_of_getElem? hn)
        rw [hcell j hj, List.getD_eq_getElem?_getD, hn]
        obtain ⟨x, rfl⟩ := u8_of hw
        have : UInt8.ofNat (U x).toNat = x := by unfold U; simp
        rw [this]; rfl
      · cases hn
theorem weightsAll_mem {H : Type} {P : Program} {e : TypeId} : ∀ {l : List (DataW H)} {d : DataW H}, d ∈ l → ∀ n ∈ d.weights P e, n ∈ DataW.weightsAll P e l
  | d' :: r, d, hd, n, hn => by
    simp only [DataW.weightsAll, List.mem_append]
    rcases List.mem_cons.1 hd with rfl | h
    · exact Or.inl hn
    · exact Or.inr (weightsAll_mem h n hn)
theorem open_parts {t e tb : TypeId} (ht : P.underlying t = some (.slice e)) (he : P.underlying e = some (.slice tb)) (hC : P.cellsOf e = 1) (hb8 : P.underlying tb = some (.int .u8)) (hc1 : P.cellsOf tb = 1) {r : Reach} {b0 : Nat} {v : Value} {d : DataW H} {ps : List MemPlace}
    (hval : Value.okWide P W r b0 t v) (h0 : DataW.Trod enc P W base sp held t v d ps) (hlt : ∀ x ∈ ps, x.block < W.heap.size) :
    ∃ A n c, ∃ f : Nat → PartR, v = .slice A n c ∧ n ≤ c ∧ c ≤ maxLen ∧ Parts W W.heap.size A n f ∧ ∀ (tl : List TypeId) (dl : List (DataW H)) (j : Nat), (DataW.weightsEach P tl dl).all (· ≤ reachBytes) = true → tl[j]? = some t → dl[j]? = some d → ∀ i, i < n → (f i).l.length * P.bytesOf tb ≤ reachBytes := by
  obtain ⟨a0, len, cap, rfl⟩ := okWide_slice ht hval
  obtain ⟨fuel, hf⟩ := h0
  rcases open_slice1 ht hC hf with ⟨hcs, hx⟩ | ⟨a, len', cap', m, nf, V, D, Pl, hcs, hb, hl, hm, hmm, hx, hrow⟩
  · simp [Value.cells] at hcs
    obtain ⟨rfl, rfl, rfl⟩ := hcs
    exact ⟨none, 0, 0, fun _ => ⟨none, 0, []⟩, rfl, Nat.zero_le _, Nat.zero_le _, ⟨fun h => absurd h (by omega), fun i h => absurd h (by omega)⟩, fun _ _ _ _ _ _ i h => absurd h (by omega)⟩
  · simp [Value.cells] at hcs
    obtain ⟨rfl, rfl, rfl⟩ := hcs
    simp only [Prod.mk.injEq] at hx
    have hlm : len ≤ m := by rw [hmm]; split <;> omega
    have h1 : ∀ i, ∃ q : PartR, i < len → W.cell? (a.add i) = some (.slice q.A q.l.length q.c) ∧ q.l.length ≤ q.c ∧ q.c ≤ maxLen ∧ Rd W W.heap.size q.A q.l ∧ ((D i = .nil ∧ q.l = []) ∨ ∃ es rest, D i = .slice es rest ∧ es.length = q.l.length) := fun i => by
      by_cases hi' : i < len
      · obtain ⟨hc, hd⟩ := hrow i (by omega)
        obtain ⟨A2, c2, l2, hV, g1, g2, g3, g4⟩ := trod_bytes he hb8 hc1 hd (fun x hx' => hlt x (by
          rw [hx.2]
          exact List.mem_append_right _ (List.mem_flatMap.mpr ⟨i, List.mem_range.mpr (by omega), hx'⟩)))
        exact ⟨⟨A2, c2, l2⟩, fun _ => ⟨by rw [hc, hV], g1, g2, g3, g4⟩⟩
      · exact ⟨⟨none, 0, []⟩, fun h => absurd h hi'⟩
    obtain ⟨f, hf2⟩ : ∃ f : Nat → PartR, ∀ i, i < len → W.cell? (a.add i) = some (.slice (f i).A (f i).l.length (f i).c) ∧ (f i).l.length ≤ (f i).c ∧ (f i).c ≤ maxLen ∧ Rd W W.heap.size (f i).A (f i).l ∧ ((D i = .nil ∧ (f i).l = []) ∨ ∃ es rest, D i = .slice es rest ∧ es.length = (f i).l.length) :=
      ⟨fun i => Classical.choose (h1 i), fun i hi => Classical.choose_spec (h1 i) hi⟩
    refine ⟨some a, len, cap, f, rfl, hl, hm, ⟨fun hn => ?_, fun i hi => ⟨(hf2 i hi).2.1, (hf2 i hi).2.2.1, (hf2 i hi).2.2.2.1⟩⟩, fun tl dl j hw htl hdl i hi => ?_⟩
    rotate_left
    · rcases (hf2 i hi).2.2.2.2 with ⟨-, h0⟩ | ⟨es, rest, hD, he'⟩
      · rw [h0]; simp
      · rw [hx.1] at hdl
        have h3 : (es.length + rest.length) * P.bytesOf tb ≤ reachBytes := by
          refine of_decide_eq_true (List.all_eq_true.1 hw _ (DataW.weights_mem_each htl hdl _ ?_))
          simp only [DataW.weights, ht, List.mem_cons, List.mem_append]
          refine Or.inr (Or.inl (weightsAll_mem (List.mem_map.mpr ⟨i, List.mem_range.mpr hi, hD⟩) _ ?_))
          simp [DataW.weights, he]
        rw [← he']
        exact Nat.le_trans (Nat.mul_le_mul_right _ (Nat.le_add_right _ _)) h3
    have hv00 := (hf2 0 hn).1
    have hflat := addr_flat2 hv00
    have ea : ∀ k, a.add k = ⟨a.block, a.off + k, none⟩ := fun k => by
      have := add_flat2 a.block a.off k
      rwa [← hflat] at this
    refine ⟨a.block, a.off, congrArg some hflat, ?_, fun i hi => ?_⟩
    · refine hlt (.cell a.block a.off) ?_
      rw [hx.2]
      exact List.mem_append_left _ (List.mem_map.mpr ⟨0, List.mem_range.mpr (by omega), by simp⟩)
    · rw [← ea]
      exact (hf2 i hi).1
theorem open_tabs {t e tb : TypeId} (ht : P.underlying t = some (.slice e)) (he : P.underlying e = some (.slice tb)) (hC : P.cellsOf e = 1) (hb8 : P.underlying tb = some (.int .u8)) (hc1 : P.cellsOf tb = 1) {r : Reach} {b0 : Nat} {v : Value} {d : DataW H} {ps : List MemPlace}
    (hval : Value.okWide P W r b0 t v) (h0 : DataW.Trod enc P W base sp held t v d ps) (hlt : ∀ x ∈ ps, x.block < W.heap.size) :
    ∃ A n c, ∃ L : List (List UInt8), v = .slice A n c ∧ n ≤ c ∧ c ≤ maxLen ∧ RT W W.heap.size A n L ∧ ∀ (tl : List TypeId) (dl : List (DataW H)) (j : Nat), (DataW.weightsEach P tl dl).all (· ≤ reachBytes) = true → tl[j]? = some t → dl[j]? = some d → ∀ (i : Nat) (l : List UInt8), L[i]? = some l → l.length * P.bytesOf tb ≤ reachBytes := by
  obtain ⟨A, n, c, f, e, h1, h2, h3, h4⟩ := open_parts ht he hC hb8 hc1 hval h0 hlt
  refine ⟨A, n, c, _, e, h1, h2, h3.rt, fun tl dl j a1 a2 a3 i l hl => ?_⟩
  have hi : i < n := by
    have := (List.getElem?_eq_some_iff.mp hl).1
    simpa using this
  rw [List.getElem?_map, List.getElem?_range hi] at hl
  simp only [Option.map_some, Option.some.injEq] at hl
  subst hl
  exact h4 tl dl j a1 a2 a3 i hi
end
end Go.Proofs.Ytdgkcgiknfjpjaa
