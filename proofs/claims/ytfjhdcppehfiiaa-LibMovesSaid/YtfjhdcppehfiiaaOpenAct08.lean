/- Arguments that are lists of acts: a byte, two numbers, bytes. -/
import Derived.Test.YtfjhdcppehfiiaaOpenActs
namespace Go.Proofs.Ytfjhdcppehfiiaa
set_option linter.unusedVariables false
open Go Go.RowKit Go.ChangeShapes Go.WideShapes Go.ChangeAt Go.Deep
structure ActL where
  d : UInt8
  z : Int
  p : Int
  A : Option Addr
  c : Nat
  l : List UInt8
/-- a slice of acts that reads as Q, below block B -/
def ActsL (B : Nat) (Q : List ActL) (v : Value) (w : World) : Prop := ∃ A c, v = .slice A Q.length c ∧ Q.length ≤ c ∧ c ≤ maxLen ∧
  (0 < Q.length → ∃ b o, A = some ⟨b, o, none⟩ ∧ b < B ∧ ∀ i q, Q[i]? = some q → w.cell? ⟨b, o + i * 4, none⟩ = some (.int .u8 (U q.d)) ∧ w.cell? ⟨b, o + i * 4 + 1, none⟩ = some (.int .i64 q.z) ∧ w.cell? ⟨b, o + i * 4 + 2, none⟩ = some (.int .i64 q.p) ∧ w.cell? ⟨b, o + i * 4 + 3, none⟩ = some (.slice q.A q.l.length q.c)) ∧
  ∀ q ∈ Q, I64 q.z ∧ I64 q.p ∧ q.l.length ≤ q.c ∧ q.c ≤ maxLen ∧ Rd w B q.A q.l
theorem ActsL.gr {B : Nat} {Q : List ActL} {v : Value} {w w' : World} (hg : Below B w w') (h : Hid (ActsL B Q v w)) : Hid (ActsL B Q v w') := Lib.hid (by
  obtain ⟨A, c, e, h1, h2, h3, h4⟩ := h.out
  refine ⟨A, c, e, h1, h2, fun hp => ?_, fun q hq => ⟨(h4 q hq).1, (h4 q hq).2.1, (h4 q hq).2.2.1, (h4 q hq).2.2.2.1, ((h4 q hq).2.2.2.2.below hg)⟩⟩
  obtain ⟨b, o, e, hb, hc⟩ := h3 hp
  refine ⟨b, o, e, hb, fun i q hq => ?_⟩
  obtain ⟨a1, a2, a3, a4⟩ := hc i q hq
  exact ⟨(hg.cell (p := ⟨b, o + i * 4, none⟩) hb).trans a1, (hg.cell (p := ⟨b, o + i * 4 + 1, none⟩) hb).trans a2, (hg.cell (p := ⟨b, o + i * 4 + 2, none⟩) hb).trans a3, (hg.cell (p := ⟨b, o + i * 4 + 3, none⟩) hb).trans a4⟩)
section
variable {H : Type} {enc : TypeId × Value → H} {P : Program} {W : World} {base : Nat} {sp : Nat → Bool} {held : Bool}
theorem open_actsL {t e tb ti ts : TypeId} {f0 f1 f2 f3 : Field} (ht : P.underlying t = some (.slice e)) (he : P.underlying e = some (.struct #[f0, f1, f2, f3])) (hone : oneCellFields P #[f0, f1, f2, f3] = true) (hC : P.cellsOf e = 4)
    (h0t : f0.type = tb) (h1t : f1.type = ti) (h2t : f2.type = ti) (h3t : f3.type = ts) (hb8 : P.underlying tb = some (.int .u8)) (hi : P.underlying ti = some (.int .i64)) (hs : P.underlying ts = some (.slice tb)) (hc1 : P.cellsOf tb = 1) {r : Reach} {b0 : Nat} {v : Value} {d : DataW H} {ps : List MemPlace}
    (hval : Value.okWide P W r b0 t v) (h0 : DataW.Trod enc P W base sp held t v d ps) (hlt : ∀ x ∈ ps, x.block < W.heap.size) : ∃ Q, Hid (ActsL W.heap.size Q v W) := by
  obtain ⟨a0, len, cap, rfl⟩ := okWide_slice ht hval
  obtain ⟨fuel, hf⟩ := h0
  rcases open_slice_fields ht he hone hC hf with ⟨hcs, hx⟩ | ⟨a, len', cap', m, D, Pl, hcs, hb, hl, hm, hmm, hx, hrow⟩
  · simp [Value.cells] at hcs
    obtain ⟨rfl, rfl, rfl⟩ := hcs
    exact ⟨[], Lib.hid ⟨none, 0, rfl, Nat.zero_le _, Nat.zero_le _, fun h => absurd h (by simp), fun q h => (by cases h)⟩⟩
  · simp [Value.cells] at hcs
    obtain ⟨rfl, rfl, rfl⟩ := hcs
    simp only [Prod.mk.injEq] at hx
    have hlm : len ≤ m := by rw [hmm]; split <;> omega
    have h1 : ∀ i, ∃ q : ActL, i < len → (W.cell? (a.add (i * 4 + 0)) = some (.int .u8 (U q.d)) ∧ W.cell? (a.add (i * 4 + 1)) = some (.int .i64 q.z) ∧ W.cell? (a.add (i * 4 + 2)) = some (.int .i64 q.p) ∧ W.cell? (a.add (i * 4 + 3)) = some (.slice q.A q.l.length q.c)) ∧ I64 q.z ∧ I64 q.p ∧ q.l.length ≤ q.c ∧ q.c ≤ maxLen ∧ Rd W W.heap.size q.A q.l := fun i => by
      by_cases hi' : i < len
      · obtain ⟨ys, n', hag, hpl, -, hfj⟩ := hrow i (by omega)
        obtain ⟨u0, y0, hc0, hy0, t0⟩ := hfj 0 f0 rfl
        obtain ⟨u1, y1, hc1', hy1, t1⟩ := hfj 1 f1 rfl
        obtain ⟨u2, y2, hc2, hy2, t2⟩ := hfj 2 f2 rfl
        obtain ⟨u3, y3, hc3, hy3, t3⟩ := hfj 3 f3 rfl
        rw [h0t] at t0
        rw [h1t] at t1
        rw [h2t] at t2
        rw [h3t] at t3
        obtain ⟨z0, e0, -, wz0⟩ := DataW.trod_int hb8 t0
        obtain ⟨x0, rfl⟩ := u8_of wz0
        obtain ⟨z1, e1, -, wz1⟩ := DataW.trod_int hi t1
        obtain ⟨z2, e2, -, wz2⟩ := DataW.trod_int hi t2
        injection e0 with e0 _
        injection e1 with e1 _
        injection e2 with e2 _
        obtain ⟨A2, c2, l2, rfl, g1, g2, g3, g4⟩ := trod_bytes hs hb8 hc1 t3 (fun x hx' => hlt x (by
          rw [hx.2]
          refine List.mem_append_right _ (List.mem_flatMap.mpr ⟨i, List.mem_range.mpr (by omega), ?_⟩)
          rw [hpl]
          exact List.mem_flatMap.mpr ⟨y3, List.mem_of_getElem? hy3, hx'⟩))
        exact ⟨⟨x0, z1, z2, A2, c2, l2⟩, fun _ => ⟨⟨by rw [← e0]; exact hc0, by rw [← e1]; exact hc1', by rw [← e2]; exact hc2, hc3⟩, i64_of wz1, i64_of wz2, g1, g2, g3⟩⟩
      · exact ⟨⟨0, 0, 0, none, 0, []⟩, fun h => absurd h hi'⟩
    obtain ⟨f, hf1, hf2⟩ : ∃ f : Nat → ActL, (∀ i, i < len → W.cell? (a.add (i * 4 + 0)) = some (.int .u8 (U (f i).d)) ∧ W.cell? (a.add (i * 4 + 1)) = some (.int .i64 (f i).z) ∧ W.cell? (a.add (i * 4 + 2)) = some (.int .i64 (f i).p) ∧ W.cell? (a.add (i * 4 + 3)) = some (.slice (f i).A (f i).l.length (f i).c)) ∧ ∀ i, i < len → I64 (f i).z ∧ I64 (f i).p ∧ (f i).l.length ≤ (f i).c ∧ (f i).c ≤ maxLen ∧ Rd W W.heap.size (f i).A (f i).l :=
      ⟨fun i => Classical.choose (h1 i), fun i hi => (Classical.choose_spec (h1 i) hi).1, fun i hi => (Classical.choose_spec (h1 i) hi).2⟩
    have hql : ((List.range len).map f).length = len := by simp
    refine ⟨(List.range len).map f, Lib.hid ⟨some a, cap, by rw [hql], by omega, hm, fun hn => ?_, fun q hq => ?_⟩⟩
    · rw [hql] at hn
      have h00 : ∃ v, W.cell? (a.add 0) = some v := by
        have := (hf1 0 hn).1
        rw [Nat.zero_mul] at this
        exact ⟨_, this⟩
      obtain ⟨v00, hv00⟩ := h00
      have hflat := addr_flat hv00
      have ea : ∀ k, a.add k = ⟨a.block, a.off + k, none⟩ := fun k => by
        have := add_flat a.block a.off k
        rwa [← hflat] at this
      refine ⟨a.block, a.off, congrArg some hflat, ?_, fun i q hq => ?_⟩
      · refine hlt (.cell a.block a.off) ?_
        rw [hx.2]
        refine List.mem_append_left _ (List.mem_map.mpr ⟨0, List.mem_range.mpr ?_, by simp⟩)
        exact Nat.mul_pos (by omega) (show 0 < 4 by decide)
      · obtain ⟨hi, e⟩ := List.getElem?_eq_some_iff.mp hq
        rw [hql] at hi
        have eq : f i = q := by rw [← e]; simp
        have hh := hf1 i hi
        rw [eq] at hh
        simp only [ea] at hh
        obtain ⟨e1, e2, e3, e4⟩ := hh
        refine ⟨?_, ?_, ?_, ?_⟩
        · rw [show a.off + i * 4 = a.off + (i * 4 + 0) from by omega]; exact e1
        · rw [show a.off + i * 4 + 1 = a.off + (i * 4 + 1) from by omega]; exact e2
        · rw [show a.off + i * 4 + 2 = a.off + (i * 4 + 2) from by omega]; exact e3
        · rw [show a.off + i * 4 + 3 = a.off + (i * 4 + 3) from by omega]; exact e4
    · obtain ⟨i, hi, rfl⟩ := List.mem_map.mp hq
      exact hf2 i (List.mem_range.mp hi)
end
end Go.Proofs.Ytfjhdcppehfiiaa
