/- Arguments that are slices of structs of a byte, an integer and bytes. -/
import Derived.Test.YtfjhdcppehfiiaaOpenTab
import Derived.SizedLaws
namespace Go.Proofs.Ytfjhdcppehfiiaa
set_option linter.unusedVariables false
open Go Go.RowKit Go.ChangeShapes Go.WideShapes Go.ChangeAt Go.Deep

structure ActR where
  d : UInt8
  z : Int
  A : Option Addr
  c : Nat
  l : List UInt8
def ActsAt (w : World) (b o n : Nat) (f : Nat → ActR) : Prop := ∀ i, i < n → w.cell? ⟨b, o + i * 3, none⟩ = some (.int .u8 (U (f i).d)) ∧ w.cell? ⟨b, o + i * 3 + 1, none⟩ = some (.int .i64 (f i).z) ∧ w.cell? ⟨b, o + i * 3 + 2, none⟩ = some (.slice (f i).A (f i).l.length (f i).c)
/-- n acts lie behind A, below block B, their bytes, too -/
def Acts (w : World) (B : Nat) (A : Option Addr) (n : Nat) (f : Nat → ActR) : Prop :=
  (0 < n → ∃ b o, A = some ⟨b, o, none⟩ ∧ b < B ∧ ActsAt w b o n f) ∧ ∀ i, i < n → I64 (f i).z ∧ (f i).l.length ≤ (f i).c ∧ (f i).c ≤ maxLen ∧ Rd w B (f i).A (f i).l
theorem ActsAt.below {w w' : World} {b o n B : Nat} {f : Nat → ActR} (h : ActsAt w b o n f) (hB : b < B) (hb : Below B w w') : ActsAt w' b o n f := fun i hi => by
  obtain ⟨h1, h2, h3⟩ := h i hi
  exact ⟨(hb.cell (p := ⟨b, o + i * 3, none⟩) hB).trans h1, (hb.cell (p := ⟨b, o + i * 3 + 1, none⟩) hB).trans h2, (hb.cell (p := ⟨b, o + i * 3 + 2, none⟩) hB).trans h3⟩
section
variable {H : Type} {enc : TypeId × Value → H} {P : Program} {W : World} {base : Nat} {sp : Nat → Bool} {held : Bool}
/-- bytes in a field -/
theorem trod_bytes {t e : TypeId} (ht : P.underlying t = some (.slice e)) (he : P.underlying e = some (.int .u8)) (hc : P.cellsOf e = 1) {fuel : Nat} {v : Value} {y : DataW H × List MemPlace}
    (hf : DataW.trod enc P W base sp held fuel t [v] = some y) (hlt : ∀ x ∈ y.2, x.block < W.heap.size) :
    ∃ A c, ∃ l : List UInt8, v = .slice A l.length c ∧ l.length ≤ c ∧ c ≤ maxLen ∧ Rd W W.heap.size A l ∧ ((y.1 = .nil ∧ l = []) ∨ ∃ es rest, y.1 = .slice es rest ∧ es.length = l.length) := by
  rcases open_ints ht he hc hf with ⟨hcs, hx⟩ | ⟨a, len', cap', zs, hcs, _, hl, hm, hz, hx, hcell, hwz⟩
  · injection hcs with hcs _
    subst hcs
    exact ⟨none, 0, [], rfl, Nat.zero_le _, Nat.zero_le _, Rd.nil_, .inl ⟨by rw [hx], rfl⟩⟩
  · injection hcs with hcs _
    subst hcs
    have hzl : len' ≤ zs.length := by rw [hz]; split <;> omega
    have hll : ((zs.take len').map (fun n => UInt8.ofNat n.toNat)).length = len' := by simp; omega
    refine ⟨some a, cap', (zs.take len').map (fun n => UInt8.ofNat n.toNat), by rw [hll], by omega, hm, ⟨by simp, fun hp => ⟨a, rfl, ?_, fun j u hu => ?_⟩⟩, .inr ⟨_, _, by rw [hx], by rw [hll]; simp [lits]; omega⟩⟩
    · rw [hll] at hp
      refine hlt (.cell a.block a.off) ?_
      rw [hx]
      exact List.mem_map.mpr ⟨0, List.mem_range.mpr (by omega), by simp⟩
    · rw [List.getElem?_map, Option.map_eq_some_iff] at hu
      obtain ⟨x, hx', rfl⟩ := hu
      rw [List.getElem?_map, Option.map_eq_some_iff] at hx'
      obtain ⟨n, hn, rfl⟩ := hx'
      rw [List.getElem?_take] at hn
      split at hn
      · have hj : j < zs.length := (List.getElem?_eq_some_iff.mp hn).1
        have hw := hwz n (List.mem_of_getElem? hn)
        rw [hcell j hj, List.getD_eq_getElem?_getD, hn]
        obtain ⟨x, rfl⟩ := u8_of hw
        have : UInt8.ofNat (U x).toNat = x := by unfold U; simp
        rw [this]; rfl
      · cases hn
theorem weightsAll_mem {H : Type} {P : Program} {e : TypeId} : ∀ {l : List (DataW H)} {d : DataW H}, d ∈ l → ∀ n ∈ d.weights P e, n ∈ DataW.weightsAll P e l
  | d' :: r, d, hd, n, hn => by
    simp only [DataW.weightsAll, List.mem_append]
    rcases List.mem_cons.1 hd with rfl | h
    · exact Or.inl hn
    · exact Or.inr (weightsAll_mem h n hn)
theorem open_acts {t e tb ti ts : TypeId} {f0 f1 f2 : Field} (ht : P.underlying t = some (.slice e)) (he : P.underlying e = some (.struct #[f0, f1, f2])) (hone : oneCellFields P #[f0, f1, f2] = true) (hC : P.cellsOf e = 3)
    (h0t : f0.type = tb) (h1t : f1.type = ti) (h2t : f2.type = ts) (hb8 : P.underlying tb = some (.int .u8)) (hi : P.underlying ti = some (.int .i64)) (hs : P.underlying ts = some (.slice tb)) (hc1 : P.cellsOf tb = 1) {r : Reach} {b0 : Nat} {v : Value} {d : DataW H} {ps : List MemPlace}
    (hval : Value.okWide P W r b0 t v) (h0 : DataW.Trod enc P W base sp held t v d ps) (hlt : ∀ x ∈ ps, x.block < W.heap.size) :
    ∃ A n c, ∃ f : Nat → ActR, v = .slice A n c ∧ n ≤ c ∧ c ≤ maxLen ∧ Acts W W.heap.size A n f ∧ ∀ (tl : List TypeId) (dl : List (DataW H)) (j : Nat), (DataW.weightsEach P tl dl).all (· ≤ reachBytes) = true → tl[j]? = some t → dl[j]? = some d → ∀ i, i < n → (f i).l.length * P.bytesOf tb ≤ reachBytes := by
  obtain ⟨a0, len, cap, rfl⟩ := okWide_slice ht hval
  obtain ⟨fuel, hf⟩ := h0
  rcases open_slice_fields ht he hone hC hf with ⟨hcs, hx⟩ | ⟨a, len', cap', m, D, Pl, hcs, hb, hl, hm, hmm, hx, hrow⟩
  · simp [Value.cells] at hcs
    obtain ⟨rfl, rfl, rfl⟩ := hcs
    exact ⟨none, 0, 0, fun _ => ⟨0, 0, none, 0, []⟩, rfl, Nat.zero_le _, Nat.zero_le _, ⟨fun h => absurd h (by omega), fun i h => absurd h (by omega)⟩, fun _ _ _ _ _ _ i h => absurd h (by omega)⟩
  · simp [Value.cells] at hcs
    obtain ⟨rfl, rfl, rfl⟩ := hcs
    simp only [Prod.mk.injEq] at hx
    have hlm : len ≤ m := by rw [hmm]; split <;> omega
    have h1 : ∀ i, ∃ q : ActR, i < len → (W.cell? (a.add (i * 3 + 0)) = some (.int .u8 (U q.d)) ∧ W.cell? (a.add (i * 3 + 1)) = some (.int .i64 q.z) ∧ W.cell? (a.add (i * 3 + 2)) = some (.slice q.A q.l.length q.c)) ∧ I64 q.z ∧ q.l.length ≤ q.c ∧ q.c ≤ maxLen ∧ Rd W W.heap.size q.A q.l ∧ ∃ parts x, D i = .agg parts ∧ parts[2]? = some x ∧ ((x = .nil ∧ q.l = []) ∨ ∃ es rest, x = .slice es rest ∧ es.length = q.l.length) := fun i => by
      by_cases hi' : i < len
      · obtain ⟨ys, n', hag, hpl, -, hfj⟩ := hrow i (by omega)
        obtain ⟨u0, y0, hc0, hy0, t0⟩ := hfj 0 f0 rfl
        obtain ⟨u1, y1, hc1', hy1, t1⟩ := hfj 1 f1 rfl
        obtain ⟨u2, y2, hc2, hy2, t2⟩ := hfj 2 f2 rfl
        rw [h0t] at t0
        rw [h1t] at t1
        rw [h2t] at t2
        obtain ⟨z0, e0, -, wz0⟩ := DataW.trod_int hb8 t0
        obtain ⟨z1, e1, -, wz1⟩ := DataW.trod_int hi t1
        injection e0 with e0 _
        injection e1 with e1 _
        obtain ⟨x0, rfl⟩ := u8_of wz0
        obtain ⟨A2, c2, l2, rfl, g1, g2, g3, g4⟩ := trod_bytes hs hb8 hc1 t2 (fun x hx' => hlt x (by
          rw [hx.2]
          refine List.mem_append_right _ (List.mem_flatMap.mpr ⟨i, List.mem_range.mpr (by omega), ?_⟩)
          rw [hpl]
          exact List.mem_flatMap.mpr ⟨y2, List.mem_of_getElem? hy2, hx'⟩))
        exact ⟨⟨x0, z1, A2, c2, l2⟩, fun _ => ⟨⟨by rw [← e0]; exact hc0, by rw [← e1]; exact hc1', hc2⟩, i64_of wz1, g1, g2, g3, _, y2.1, hag, by rw [List.getElem?_map, hy2]; rfl, g4⟩⟩
      · exact ⟨⟨0, 0, none, 0, []⟩, fun h => absurd h hi'⟩
    obtain ⟨f, hf1, hf2⟩ : ∃ f : Nat → ActR, (∀ i, i < len → W.cell? (a.add (i * 3 + 0)) = some (.int .u8 (U (f i).d)) ∧ W.cell? (a.add (i * 3 + 1)) = some (.int .i64 (f i).z) ∧ W.cell? (a.add (i * 3 + 2)) = some (.slice (f i).A (f i).l.length (f i).c)) ∧ ∀ i, i < len → I64 (f i).z ∧ (f i).l.length ≤ (f i).c ∧ (f i).c ≤ maxLen ∧ Rd W W.heap.size (f i).A (f i).l ∧ ∃ parts x, D i = .agg parts ∧ parts[2]? = some x ∧ ((x = .nil ∧ (f i).l = []) ∨ ∃ es rest, x = .slice es rest ∧ es.length = (f i).l.length) :=
      ⟨fun i => Classical.choose (h1 i), fun i hi => (Classical.choose_spec (h1 i) hi).1, fun i hi => (Classical.choose_spec (h1 i) hi).2⟩
    refine ⟨some a, len, cap, f, rfl, hl, hm, ⟨fun hn => ?_, fun i hi => ⟨(hf2 i hi).1, (hf2 i hi).2.1, (hf2 i hi).2.2.1, (hf2 i hi).2.2.2.1⟩⟩, fun tl dl j hw htl hdl i hi => ?_⟩
    rotate_left
    · obtain ⟨parts, x, hD, hp, hxx⟩ := (hf2 i hi).2.2.2.2
      rcases hxx with ⟨-, h0⟩ | ⟨es, rest, rfl, he'⟩
      · rw [h0]; simp
      · rw [hx.1] at hdl
        have h3 : (es.length + rest.length) * P.bytesOf tb ≤ reachBytes := by
          refine of_decide_eq_true (List.all_eq_true.1 hw _ (DataW.weights_mem_each htl hdl _ ?_))
          simp only [DataW.weights, ht, List.mem_cons, List.mem_append]
          refine Or.inr (Or.inl (weightsAll_mem (List.mem_map.mpr ⟨i, List.mem_range.mpr hi, hD⟩) _ ?_))
          simp only [DataW.weights, he]
          refine DataW.weights_mem_each (j := 2) (t := ts) (d := .slice es rest) (by simp [h2t]) hp _ ?_
          simp [DataW.weights, hs]
        rw [← he']
        exact Nat.le_trans (Nat.mul_le_mul_right _ (Nat.le_add_right _ _)) h3
    have h00 : ∃ v, W.cell? (a.add 0) = some v := by
      have := (hf1 0 hn).1
      rw [Nat.zero_mul] at this
      exact ⟨_, this⟩
    obtain ⟨v00, hv00⟩ := h00
    have hflat := addr_flat hv00
    have ea : ∀ k, a.add k = ⟨a.block, a.off + k, none⟩ := fun k => by
      have := add_flat a.block a.off k
      rwa [← hflat] at this
    refine ⟨a.block, a.off, congrArg some hflat, ?_, fun i hi => ?_⟩
    · refine hlt (.cell a.block a.off) ?_
      rw [hx.2]
      refine List.mem_append_left _ (List.mem_map.mpr ⟨0, List.mem_range.mpr ?_, by simp⟩)
      exact Nat.mul_pos (by omega) (show 0 < 3 by decide)
    · have hh := hf1 i hi
      simp only [ea] at hh
      obtain ⟨e1, e2, e3⟩ := hh
      refine ⟨?_, ?_, ?_⟩
      · rw [show a.off + i * 3 = a.off + (i * 3 + 0) from by omega]; exact e1
      · rw [show a.off + i * 3 + 1 = a.off + (i * 3 + 1) from by omega]; exact e2
      · rw [show a.off + i * 3 + 2 = a.off + (i * 3 + 2) from by omega]; exact e3
end
end Go.Proofs.Ytfjhdcppehfiiaa
