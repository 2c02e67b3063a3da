/- Arguments that are lists of acts: a byte, a text, bytes. -/
import Derived.Test.YthhggojpmilmdaaOpenActs
import Derived.Test.YthhggojpmilmdaaHo1
namespace Go.Proofs.Ythhggojpmilmdaa
set_option linter.unusedVariables false
open Go Go.RowKit Go.ChangeShapes Go.WideShapes Go.ChangeAt Go.Deep
structure ActH where
  d : UInt8
  k : List UInt8
  A : Option Addr
  c : Nat
  l : List UInt8
/-- a slice of acts that reads as Q -/
def ActsH (Q : List ActH) (v : Value) (w : World) : Prop := ∃ A c, v = .slice A Q.length c ∧ Q.length ≤ c ∧ c ≤ maxLen ∧
  (0 < Q.length → ∃ b o, A = some ⟨b, o, none⟩ ∧ b < w.heap.size ∧ ∀ i q, Q[i]? = some q → w.cell? ⟨b, o + i * 3, none⟩ = some (.int .u8 (U q.d)) ∧ w.cell? ⟨b, o + i * 3 + 1, none⟩ = some (.string (bs q.k)) ∧ w.cell? ⟨b, o + i * 3 + 2, none⟩ = some (.slice q.A q.l.length q.c)) ∧
  ∀ q ∈ Q, q.k.length ≤ maxLen ∧ q.l.length ≤ q.c ∧ Rd w w.heap.size q.A q.l
theorem ActsH.gr {Q : List ActH} {v : Value} {w w' : World} (hg : GrM w w') (h : Hid (ActsH Q v w)) : Hid (ActsH Q v w') := Lib.hid (by
  obtain ⟨A, c, e, h1, h2, h3, h4⟩ := h.out
  refine ⟨A, c, e, h1, h2, fun hp => ?_, fun q hq => ⟨(h4 q hq).1, (h4 q hq).2.1, ((h4 q hq).2.2.below hg).more hg.size⟩⟩
  obtain ⟨b, o, e, hb, hc⟩ := h3 hp
  refine ⟨b, o, e, Nat.lt_of_lt_of_le hb hg.size, fun i q hq => ?_⟩
  obtain ⟨a1, a2, a3⟩ := hc i q hq
  exact ⟨(hg.cell (p := ⟨b, o + i * 3, none⟩) hb).trans a1, (hg.cell (p := ⟨b, o + i * 3 + 1, none⟩) hb).trans a2, (hg.cell (p := ⟨b, o + i * 3 + 2, none⟩) hb).trans a3⟩)
theorem bs_back (s : ByteArray) : bs s.data.toList = s := by unfold bs; simp
section
variable {H : Type} {enc : TypeId × Value → H} {P : Program} {W : World} {base : Nat} {sp : Nat → Bool} {held : Bool}
theorem open_actsH {t e tb ti ts t8 : TypeId} {f0 f1 f2 : Field} (ht : P.underlying t = some (.slice e)) (he : P.underlying e = some (.struct #[f0, f1, f2])) (hone : oneCellFields P #[f0, f1, f2] = true) (hC : P.cellsOf e = 3)
    (h0t : f0.type = tb) (h1t : f1.type = ti) (h2t : f2.type = ts) (hb8 : P.underlying tb = some (.int .u8)) (hi : P.underlying ti = some .string) (hs : P.underlying ts = some (.slice t8)) (h8 : P.underlying t8 = some (.int .u8)) (hc1 : P.cellsOf t8 = 1) {r : Reach} {b0 : Nat} {v : Value} {d : DataW H} {ps : List MemPlace}
    (hval : Value.okWide P W r b0 t v) (h0 : DataW.Trod enc P W base sp held t v d ps) (hlt : ∀ x ∈ ps, x.block < W.heap.size) : ∃ Q, Hid (ActsH Q v W) := by
  obtain ⟨a0, len, cap, rfl⟩ := okWide_slice ht hval
  obtain ⟨fuel, hf⟩ := h0
  rcases open_slice_fields ht he hone hC hf with ⟨hcs, hx⟩ | ⟨a, len', cap', m, D, Pl, hcs, hb, hl, hm, hmm, hx, hrow⟩
  · simp [Value.cells] at hcs
    obtain ⟨rfl, rfl, rfl⟩ := hcs
    exact ⟨[], Lib.hid ⟨none, 0, rfl, Nat.zero_le _, Nat.zero_le _, fun h => absurd h (by simp), fun q h => (by cases h)⟩⟩
  · simp [Value.cells] at hcs
    obtain ⟨rfl, rfl, rfl⟩ := hcs
    simp only [Prod.mk.injEq] at hx
    have hlm : len ≤ m := by rw [hmm]; split <;> omega
    have h1 : ∀ i, ∃ q : ActH, i < len → (W.cell? (a.add (i * 3 + 0)) = some (.int .u8 (U q.d)) ∧ W.cell? (a.add (i * 3 + 1)) = some (.string (bs q.k)) ∧ W.cell? (a.add (i * 3 + 2)) = some (.slice q.A q.l.length q.c)) ∧ q.k.length ≤ maxLen ∧ q.l.length ≤ q.c ∧ Rd W W.heap.size q.A q.l := fun i => by
      by_cases hi' : i < len
      · obtain ⟨ys, n', hag, hpl, -, hfj⟩ := hrow i (by omega)
        obtain ⟨u0, y0, hc0, hy0, t0⟩ := hfj 0 f0 rfl
        obtain ⟨u1, y1, hc1', hy1, t1⟩ := hfj 1 f1 rfl
        obtain ⟨u2, y2, hc2, hy2, t2⟩ := hfj 2 f2 rfl
        rw [h0t] at t0
        rw [h1t] at t1
        rw [h2t] at t2
        obtain ⟨z0, e0, -, wz0⟩ := DataW.trod_int hb8 t0
        obtain ⟨x0, rfl⟩ := u8_of wz0
        obtain ⟨z1, e1, -, wz1⟩ := DataW.trod_string hi t1
        injection e0 with e0 _
        injection e1 with e1 _
        obtain ⟨A2, c2, l2, rfl, g1, g2, g3, g4⟩ := trod_bytes hs h8 hc1 t2 (fun x hx' => hlt x (by
          rw [hx.2]
          refine List.mem_append_right _ (List.mem_flatMap.mpr ⟨i, List.mem_range.mpr (by omega), ?_⟩)
          rw [hpl]
          exact List.mem_flatMap.mpr ⟨y2, List.mem_of_getElem? hy2, hx'⟩))
        exact ⟨⟨x0, z1.data.toList, A2, c2, l2⟩, fun _ => ⟨⟨by rw [← e0]; exact hc0, by rw [bs_back, ← e1]; exact hc1', hc2⟩, by rw [Array.length_toList]; exact wz1, g1, g3⟩⟩
      · exact ⟨⟨0, [], none, 0, []⟩, fun h => absurd h hi'⟩
    obtain ⟨f, hf1, hf2⟩ : ∃ f : Nat → ActH, (∀ i, i < len → W.cell? (a.add (i * 3 + 0)) = some (.int .u8 (U (f i).d)) ∧ W.cell? (a.add (i * 3 + 1)) = some (.string (bs (f i).k)) ∧ W.cell? (a.add (i * 3 + 2)) = some (.slice (f i).A (f i).l.length (f i).c)) ∧ ∀ i, i < len → (f i).k.length ≤ maxLen ∧ (f i).l.length ≤ (f i).c ∧ Rd W W.heap.size (f i).A (f i).l :=
      ⟨fun i => Classical.choose (h1 i), fun i hi => (Classical.choose_spec (h1 i) hi).1, fun i hi => (Classical.choose_spec (h1 i) hi).2⟩
    have hql : ((List.range len).map f).length = len := by simp
    refine ⟨(List.range len).map f, Lib.hid ⟨some a, cap, by rw [hql], by omega, hm, fun hn => ?_, fun q hq => ?_⟩⟩
    · rw [hql] at hn
      have h00 : ∃ v, W.cell? (a.add 0) = some v := by
        have := (hf1 0 hn).1
        rw [Nat.zero_mul] at this
        exact ⟨_, this⟩
      obtain ⟨v00, hv00⟩ := h00
      have hflat := addr_flat hv00
      have ea : ∀ k, a.add k = ⟨a.block, a.off + k, none⟩ := fun k => by
        have := add_flat a.block a.off k
        rwa [← hflat] at this
      refine ⟨a.block, a.off, congrArg some hflat, ?_, fun i q hq => ?_⟩
      · refine hlt (.cell a.block a.off) ?_
        rw [hx.2]
        refine List.mem_append_left _ (List.mem_map.mpr ⟨0, List.mem_range.mpr ?_, by simp⟩)
        exact Nat.mul_pos (by omega) (show 0 < 3 by decide)
      · obtain ⟨hi, e⟩ := List.getElem?_eq_some_iff.mp hq
        rw [hql] at hi
        have eq : f i = q := by rw [← e]; simp
        have hh := hf1 i hi
        rw [eq] at hh
        simp only [ea] at hh
        obtain ⟨e1, e2, e3⟩ := hh
        refine ⟨?_, ?_, ?_⟩
        · rw [show a.off + i * 3 = a.off + (i * 3 + 0) from by omega]; exact e1
        · rw [show a.off + i * 3 + 1 = a.off + (i * 3 + 1) from by omega]; exact e2
        · rw [show a.off + i * 3 + 2 = a.off + (i * 3 + 2) from by omega]; exact e3
    · obtain ⟨i, hi, rfl⟩ := List.mem_map.mp hq
      exact hf2 i (List.mem_range.mp hi)
end
end Go.Proofs.Ythhggojpmilmdaa
