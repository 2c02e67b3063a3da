/- Arguments that are slices of acts on a queue: a byte, an integer, a request. -/
import Derived.Test.YtppclmidnomkjabOpenAsk
import Derived.Test.YtppclmidnomkjabOpenTab
namespace Go.Proofs.Ytppclmidnomkjab
set_option linter.unusedVariables false
open Go Go.RowKit Go.ChangeShapes Go.WideShapes Go.ChangeAt Go.Deep
structure QAct where
  d : UInt8
  n : Int
  q : AskR
def QActsAt (w : World) (b o n : Nat) (f : Nat → QAct) : Prop := ∀ i, i < n → w.cell? ⟨b, o + i * 8, none⟩ = some (.int .u8 (U (f i).d)) ∧ w.cell? ⟨b, o + i * 8 + 1, none⟩ = some (.int .i64 (f i).n) ∧
  ∀ j u, (f i).q.cells[j]? = some u → w.cell? ⟨b, o + i * 8 + (2 + j), none⟩ = some u
/-- n acts lie behind A, below block B -/
def QActs (w : World) (B : Nat) (A : Option Addr) (n : Nat) (f : Nat → QAct) : Prop :=
  (0 < n → ∃ b o, A = some ⟨b, o, none⟩ ∧ b < B ∧ QActsAt w b o n f) ∧ ∀ i, i < n → I64 (f i).n ∧ (f i).q.Ok
section
variable {H : Type} {enc : TypeId × Value → H} {P : Program} {W : World} {base : Nat} {sp : Nat → Bool} {held : Bool}
theorem ask_cells {t ti : TypeId} {fs : Array Field} (ht : P.underlying t = some (.struct fs)) (hone : oneCellFields P fs = true) (hC : P.cellsOf t = 6) (h6 : fs.size = 6)
    (hall : fs.toList.all (fun f => f.type == ti) = true) (hi : P.underlying ti = some (.int .i64)) {fuel : Nat} {cs : List Value} {x : DataW H × List MemPlace}
    (h : DataW.trod enc P W base sp held fuel t cs = some x) : ∃ q : AskR, cs = q.cells ∧ q.Ok := by
  obtain ⟨xs, n, _, hx, hl, hlen, hg⟩ := DataW.trod_struct ht h
  rw [hC] at hl
  have h1 : ∀ j (hj : j < 6), ∃ z : Int, cs[j] = .int .i64 z ∧ I64 z := fun j hj => by
    have hfj : fs[j]? = some (fs[j]'(by omega)) := Array.getElem?_eq_getElem (by omega)
    obtain ⟨ho, hk⟩ := hone_of hone j _ hfj
    have h2 := hg j _ hfj
    rw [ho, hk] at h2
    have hty : (fs[j]'(by omega)).type = ti := by
      have := List.all_eq_true.mp hall (fs[j]'(by omega)) (by simp)
      simpa using this
    have hone' : (cs.drop j).take 1 = [cs[j]] := by
      rw [List.drop_eq_getElem_cons (by omega)]
      rfl
    rw [hone', hty] at h2
    have hys : xs[j]? = some (xs[j]'(by omega)) := List.getElem?_eq_getElem (by omega)
    obtain ⟨z, hz, -, hw⟩ := DataW.trod_int hi (h2.trans hys)
    injection hz with hz _
    exact ⟨z, hz, i64_of hw⟩
  obtain ⟨a, ha, ia⟩ := h1 0 (by decide)
  obtain ⟨b, hb, ib⟩ := h1 1 (by decide)
  obtain ⟨c, hc, ic⟩ := h1 2 (by decide)
  obtain ⟨e, he, ie⟩ := h1 3 (by decide)
  obtain ⟨f, hf', if_⟩ := h1 4 (by decide)
  obtain ⟨g, hg', ig⟩ := h1 5 (by decide)
  refine ⟨⟨a, b, c, e, f, g⟩, ?_, ia, ib, ic, ie, if_, ig⟩
  unfold AskR.cells
  refine List.ext_getElem (by simpa using hl) fun j hj hj' => ?_
  have hj6 : j < 6 := by simpa using hj'
  match j, hj6 with
  | 0, _ => simpa using ha
  | 1, _ => simpa using hb
  | 2, _ => simpa using hc
  | 3, _ => simpa using he
  | 4, _ => simpa using hf'
  | 5, _ => simpa using hg'
theorem open_qacts {t e tb ti ta : TypeId} {f0 f1 f2 : Field} {fs : Array Field} (ht : P.underlying t = some (.slice e)) (he : P.underlying e = some (.struct #[f0, f1, f2])) (hC : P.cellsOf e = 8)
    (h0t : f0.type = tb) (h1t : f1.type = ti) (h2t : f2.type = ta) (h0o : f0.offset = 0) (h1o : f1.offset = 1) (h2o : f2.offset = 2) (hb8 : P.underlying tb = some (.int .u8)) (hi : P.underlying ti = some (.int .i64))
    (hc0 : P.cellsOf tb = 1) (hc1 : P.cellsOf ti = 1) (hta : P.underlying ta = some (.struct fs)) (hone : oneCellFields P fs = true) (hc2 : P.cellsOf ta = 6) (h6 : fs.size = 6)
    (hall : fs.toList.all (fun f => f.type == ti) = true) {r : Reach} {b0 : Nat} {v : Value} {d : DataW H} {ps : List MemPlace}
    (hval : Value.okWide P W r b0 t v) (h0 : DataW.Trod enc P W base sp held t v d ps) (hlt : ∀ x ∈ ps, x.block < W.heap.size) :
    ∃ A n c, ∃ f : Nat → QAct, v = .slice A n c ∧ n ≤ c ∧ c ≤ maxLen ∧ QActs W W.heap.size A n f := by
  obtain ⟨a0, len, cap, rfl⟩ := okWide_slice ht hval
  obtain ⟨fuel, hf⟩ := h0
  rcases open_slice ht hf with ⟨hcs, hx⟩ | ⟨a, len', cap', m, n, D, Pl, hcs, hb, hl, hm, hmm, hx, hrow⟩
  · simp [Value.cells] at hcs
    obtain ⟨rfl, rfl, rfl⟩ := hcs
    exact ⟨none, 0, 0, fun _ => ⟨0, 0, ask0⟩, rfl, Nat.zero_le _, Nat.zero_le _, fun h => absurd h (by omega), fun i h => absurd h (by omega)⟩
  · simp [Value.cells] at hcs
    obtain ⟨rfl, rfl, rfl⟩ := hcs
    simp only [Prod.mk.injEq] at hx
    have hlm : len ≤ m := by rw [hmm]; split <;> omega
    have h1 : ∀ i, ∃ x : QAct, i < len → (W.cell? (a.add (i * 8 + 0)) = some (.int .u8 (U x.d)) ∧ W.cell? (a.add (i * 8 + 1)) = some (.int .i64 x.n) ∧ ∀ j u, x.q.cells[j]? = some u → W.cell? (a.add (i * 8 + (2 + j))) = some u) ∧ I64 x.n ∧ x.q.Ok := fun i => by
      by_cases hi' : i < len
      · obtain ⟨cs', hc, htr⟩ := hrow i (by omega)
        rw [hC] at hc
        obtain ⟨ys, n', -, -, hlc, hyl, hfj⟩ := DataW.trod_struct he htr
        rw [hC] at hlc
        obtain ⟨_, hcl, hat⟩ := World.cells?_some hc
        have t0 := hfj 0 f0 rfl
        have t1 := hfj 1 f1 rfl
        have t2 := hfj 2 f2 rfl
        rw [h0t, h0o, hc0] at t0
        rw [h1t, h1o, hc1] at t1
        rw [h2t, h2o, hc2] at t2
        have hy : ys.length = 3 := hyl
        match cs', hlc with
        | [c0, c1, c2, c3, c4, c5, c6, c7], _ =>
          obtain ⟨z0, e0, -, wz0⟩ := DataW.trod_int hb8 (t0.trans (List.getElem?_eq_getElem (by omega)))
          obtain ⟨z1, e1, -, wz1⟩ := DataW.trod_int hi (t1.trans (List.getElem?_eq_getElem (by omega)))
          obtain ⟨q, e2, hq⟩ := ask_cells hta hone hc2 h6 hall hi (t2.trans (List.getElem?_eq_getElem (by omega)))
          injection e0 with e0 _
          injection e1 with e1 _
          obtain ⟨x0, rfl⟩ := u8_of wz0
          refine ⟨⟨x0, z1, q⟩, fun _ => ⟨⟨?_, ?_, fun j u hu => ?_⟩, i64_of wz1, hq⟩⟩
          · have := hat 0 (by omega)
            rw [Go.Deep.add_add] at this
            rw [this]; simp [e0]
          · have := hat 1 (by omega)
            rw [Go.Deep.add_add] at this
            rw [this]; simp [e1]
          · have hj : j < 6 := by
              have := (List.getElem?_eq_some_iff.1 hu).1
              exact this
            have := hat (2 + j) (by omega)
            rw [Go.Deep.add_add] at this
            rw [this, ← hu, ← e2]
            simp [hj, Nat.add_comm 2 j]
      · exact ⟨⟨0, 0, ask0⟩, fun h => absurd h hi'⟩
    obtain ⟨f, hf1⟩ : ∃ f : Nat → QAct, ∀ i, i < len → (W.cell? (a.add (i * 8 + 0)) = some (.int .u8 (U (f i).d)) ∧ W.cell? (a.add (i * 8 + 1)) = some (.int .i64 (f i).n) ∧ ∀ j u, (f i).q.cells[j]? = some u → W.cell? (a.add (i * 8 + (2 + j))) = some u) ∧ I64 (f i).n ∧ (f i).q.Ok :=
      ⟨fun i => Classical.choose (h1 i), fun i hi' => Classical.choose_spec (h1 i) hi'⟩
    refine ⟨some a, len, cap, f, rfl, hl, hm, fun hp => ?_, fun i hi' => (hf1 i hi').2⟩
    have h00 : ∃ v, W.cell? (a.add 0) = some v := by
      have := (hf1 0 hp).1.1
      rw [Nat.zero_mul] at this
      exact ⟨_, this⟩
    obtain ⟨v00, hv00⟩ := h00
    have hflat := addr_flat hv00
    have ea : ∀ k, a.add k = ⟨a.block, a.off + k, none⟩ := fun k => by
      have := add_flat a.block a.off k
      rwa [← hflat] at this
    refine ⟨a.block, a.off, congrArg some hflat, ?_, fun i hi' => ?_⟩
    · refine hlt (.cell a.block a.off) ?_
      rw [hx.2, hC]
      refine List.mem_append_left _ (List.mem_map.mpr ⟨0, List.mem_range.mpr ?_, by simp⟩)
      exact Nat.mul_pos (by omega) (show 0 < 8 by decide)
    · have hh := (hf1 i hi').1
      simp only [ea] at hh
      obtain ⟨g0, g1, g2⟩ := hh
      refine ⟨?_, ?_, fun j u hu => ?_⟩
      · rw [show a.off + i * 8 = a.off + (i * 8 + 0) from by omega]; exact g0
      · rw [show a.off + i * 8 + 1 = a.off + (i * 8 + 1) from by omega]; exact g1
      · rw [show a.off + i * 8 + (2 + j) = a.off + (i * 8 + (2 + j)) from by omega]; exact g2 j u hu
end
end Go.Proofs.Ytppclmidnomkjab
