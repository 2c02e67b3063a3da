/- Arguments: a slice of notes. -/
import Derived.Test.YthboeoidgglcgaaGreatOpenNoteC
import Derived.Test.YthboeoidgglcgaaGreatNt8
namespace Go.Proofs.YthboeoidgglcgaaGreat
set_option linter.unusedVariables false
open Go Go.RowKit Go.ChangeShapes Go.WideShapes Go.ChangeAt Go.Deep
section
variable {H : Type} {enc : TypeId × Value → H} {P : Program} {W : World} {base : Nat} {sp : Nat → Bool} {held : Bool}
theorem trod_note {ti ts tb te tp tq : TypeId} {gs : Array Field} (hi : P.underlying ti = some (.int .i64)) (hs : P.underlying ts = some .string) (hb : P.underlying tb = some (.slice te)) (he : P.underlying te = some (.int .u8)) (hc1 : P.cellsOf te = 1) (hp : P.underlying tp = some (.slice tq)) (hq : P.underlying tq = some (.struct gs)) (hone2 : oneCellFields P gs = true) (hC2 : P.cellsOf tq = 2) (hg2 : gs.size = 2) (hall : gs.toList.all (fun f => f.type == ti) = true) {n : Nat} (vals : Nat → Value)
    (hv : ∀ j T, [ti, ts, ti, ti, tb, ts, ti, tp][j]? = some T → ∃ y, DataW.trod enc P W base sp held n T [vals j] = some y ∧ ∀ x ∈ y.2, x.block < W.heap.size) :
    ∃ x : Ne, (NeV x W ∧ x.n.Ok) ∧ ∀ j u, x.cells[j]? = some u → vals j = u := by
  have hint : ∀ j, [ti, ts, ti, ti, tb, ts, ti, tp][j]? = some ti → ∃ z : Int, vals j = .int .i64 z ∧ R64 z := fun j hT => by
    obtain ⟨y, h2, -⟩ := hv j ti hT
    obtain ⟨z, hz, -, hw⟩ := DataW.trod_int hi h2
    injection hz with hz _
    exact ⟨z, hz, i64_of hw⟩
  have hstr : ∀ j, [ti, ts, ti, ti, tb, ts, ti, tp][j]? = some ts → ∃ l : List UInt8, vals j = .string (bs l) ∧ l.length ≤ maxLen := fun j hT => by
    obtain ⟨y, h2, -⟩ := hv j ts hT
    obtain ⟨s, hz, -, hw⟩ := DataW.trod_string hs h2
    injection hz with hz _
    exact ⟨s.data.toList, by rw [bs_of_bytes]; exact hz, by rw [Array.length_toList]; exact hw⟩
  obtain ⟨z0, e0, i0⟩ := hint 0 rfl
  obtain ⟨l1, e1, i1⟩ := hstr 1 rfl
  obtain ⟨z2, e2, i2⟩ := hint 2 rfl
  obtain ⟨z3, e3, i3⟩ := hint 3 rfl
  obtain ⟨y4, t4, hs4⟩ := hv 4 tb rfl
  obtain ⟨l5, e5, i5⟩ := hstr 5 rfl
  obtain ⟨z6, e6, i6⟩ := hint 6 rfl
  obtain ⟨y7, t7, hs7⟩ := hv 7 tp rfl
  obtain ⟨lp, A2, c2, e7, hpl⟩ := trod_places hp hq hone2 hC2 hg2 hall hi t7 hs7
  have fin : ∀ (A : Option Addr) (c : Nat) (l : List UInt8), vals 4 = .slice A l.length c → ∀ j u, (Ne.mk (Nt.mk z0 l1 z2 z3 l l5 z6 lp) A c A2 c2).cells[j]? = some u → vals j = u := fun A c l e4 j u hu => by
    unfold Ne.cells at hu
    simp only at hu
    have hj : j < 8 := (List.getElem?_eq_some_iff.mp hu).1
    match j, hj, hu with
    | 0, _, hu => injection hu with hu; rw [← hu]; exact e0
    | 1, _, hu => injection hu with hu; rw [← hu]; exact e1
    | 2, _, hu => injection hu with hu; rw [← hu]; exact e2
    | 3, _, hu => injection hu with hu; rw [← hu]; exact e3
    | 4, _, hu => injection hu with hu; rw [← hu]; exact e4
    | 5, _, hu => injection hu with hu; rw [← hu]; exact e5
    | 6, _, hu => injection hu with hu; rw [← hu]; exact e6
    | 7, _, hu => injection hu with hu; rw [← hu]; exact e7
  rcases open_ints hb he hc1 t4 with ⟨hcs, hx9⟩ | ⟨a, len, cap, zs, hcs, _, hl, hm, hz, hx9, hcell, hwz⟩
  · injection hcs with hcs _
    exact ⟨_, ⟨⟨Byt.nil_ _, hpl⟩, ⟨i0, i2, i3, i6, i1, i5⟩⟩, fin none 0 [] hcs⟩
  · injection hcs with hcs _
    have hlz : len ≤ zs.length := by rw [hz]; split <;> omega
    have hll : ((zs.take len).map (fun z => UInt8.ofNat z.toNat)).length = len := by rw [List.length_map, List.length_take]; omega
    refine ⟨_, ⟨⟨⟨_, _, rfl, by simp only [hll]; exact hl, hm, ?_⟩, hpl⟩, ⟨i0, i2, i3, i6, i1, i5⟩⟩, fin (some a) cap ((zs.take len).map (fun z => UInt8.ofNat z.toNat)) (by rw [hll]; exact hcs)⟩
    refine ⟨by simp, fun hn => ⟨a, rfl, ?_, fun j u hj => ?_⟩⟩
    · refine hs4 (.cell a.block a.off) ?_
      rw [hx9]
      simp only [hll] at hn
      exact List.mem_map.mpr ⟨0, List.mem_range.mpr (by omega), by simp⟩
    · rw [List.getElem?_map, List.getElem?_map] at hj
      cases hq : (zs.take len)[j]? with
      | none => rw [hq] at hj; cases hj
      | some z =>
        rw [hq] at hj
        simp only [Option.map_some, Option.some.injEq] at hj
        have hjl : j < len := by
          have := (List.getElem?_eq_some_iff.1 hq).1
          rw [List.length_take] at this
          omega
        have hzj : zs[j]? = some z := by rw [List.getElem?_take, if_pos hjl] at hq; exact hq
        obtain ⟨x, hxz⟩ := u8_of (hwz z (List.mem_of_getElem? hzj))
        have hc := hcell j (by omega)
        rw [List.getD_eq_getElem?_getD, hzj] at hc
        rw [hc, ← hj, hxz]
        unfold vb U
        simp
theorem open_notes {t e ti ts tb te tp tq : TypeId} {fs gs : Array Field} (ht : P.underlying t = some (.slice e)) (hE : P.underlying e = some (.struct fs)) (hone : oneCellFields P fs = true) (hC : P.cellsOf e = 8) (h8 : fs.size = 8)
    (hty : fs.toList.map (·.type) = [ti, ts, ti, ti, tb, ts, ti, tp]) (hi : P.underlying ti = some (.int .i64)) (hs : P.underlying ts = some .string) (hb : P.underlying tb = some (.slice te)) (he : P.underlying te = some (.int .u8)) (hc1 : P.cellsOf te = 1) (hp : P.underlying tp = some (.slice tq)) (hq : P.underlying tq = some (.struct gs)) (hone2 : oneCellFields P gs = true) (hC2 : P.cellsOf tq = 2) (hg2 : gs.size = 2) (hall : gs.toList.all (fun f => f.type == ti) = true)
    {r : Reach} {b0 : Nat} {v : Value} {d : DataW H} {ps : List MemPlace}
    (hval : Value.okWide P W r b0 t v) (h0 : DataW.Trod enc P W base sp held t v d ps) (hlt : ∀ x ∈ ps, x.block < W.heap.size) : ∃ L, NsV L v W ∧ ∀ n ∈ L, n.Ok := by
  obtain ⟨a0, len, cap, rfl⟩ := okWide_slice ht hval
  obtain ⟨fuel, hf⟩ := h0
  rcases open_slice_fields ht hE hone (by rw [hC, h8]) hf with ⟨hcs, hx⟩ | ⟨a, len', cap', m, D, Pl, hcs, hb0, hl, hm, hmm, hx, hrow⟩
  · simp [Value.cells] at hcs
    obtain ⟨rfl, rfl, rfl⟩ := hcs
    exact ⟨[], ⟨[], none, 0, rfl, rfl, Nat.le_refl _, Nat.zero_le _, fun h => absurd h (by simp), fun x hx => (by cases hx)⟩, fun x hx => (by cases hx)⟩
  · simp [Value.cells] at hcs
    obtain ⟨rfl, rfl, rfl⟩ := hcs
    simp only [Prod.mk.injEq] at hx
    have hlm : len ≤ m := by rw [hmm]; split <;> omega
    have h1 : ∀ i, ∃ x : Ne, i < len → (NeV x W ∧ x.n.Ok) ∧ ∀ j u, x.cells[j]? = some u → W.cell? (a.add (i * 8 + j)) = some u := fun i => by
      by_cases hi' : i < len
      · obtain ⟨ys, n', -, hpl, -, hfj⟩ := hrow i (by omega)
        have hvv : ∀ j, ∃ vj : Value, ∀ T, [ti, ts, ti, ti, tb, ts, ti, tp][j]? = some T → W.cell? (a.add (i * 8 + j)) = some vj ∧ ∃ y, DataW.trod enc P W base sp held n' T [vj] = some y ∧ ∀ x ∈ y.2, x.block < W.heap.size := fun j => by
          by_cases hj : j < 8
          · obtain ⟨vj, y, hc, hy, htr⟩ := hfj j (fs[j]'(by omega)) (Array.getElem?_eq_getElem (by omega))
            refine ⟨vj, fun T hT => ?_⟩
            have hty' : (fs[j]'(by omega)).type = T := by
              rw [← hty, List.getElem?_map] at hT
              have e : fs.toList[j]? = some (fs[j]'(by omega)) := by rw [Array.getElem?_toList]; exact Array.getElem?_eq_getElem (by omega)
              rw [e] at hT
              injection hT
            rw [hty'] at htr
            rw [h8] at hc
            refine ⟨hc, y, htr, fun x hxm => hlt x ?_⟩
            rw [hx.2]
            refine List.mem_append_right _ (List.mem_flatMap.mpr ⟨i, List.mem_range.mpr (by omega), ?_⟩)
            rw [hpl]
            exact List.mem_flatMap.mpr ⟨y, List.mem_of_getElem? hy, hxm⟩
          · exact ⟨.int .i64 0, fun T hT => absurd (List.getElem?_eq_some_iff.mp hT).1 (by simpa using hj)⟩
        obtain ⟨x, hxv, hxc⟩ := trod_note hi hs hb he hc1 hp hq hone2 hC2 hg2 hall (fun j => Classical.choose (hvv j)) (fun j T hT => (Classical.choose_spec (hvv j) T hT).2)
        refine ⟨x, fun _ => ⟨hxv, fun j u hu => ?_⟩⟩
        have hj : j < 8 := (List.getElem?_eq_some_iff.mp hu).1
        have hT : ∃ T, [ti, ts, ti, ti, tb, ts, ti, tp][j]? = some T := ⟨_, List.getElem?_eq_getElem (by simpa using hj)⟩
        obtain ⟨T, hT⟩ := hT
        rw [(Classical.choose_spec (hvv j) T hT).1]
        exact congrArg some (hxc j u hu)
      · exact ⟨⟨⟨0, [], 0, 0, [], [], 0, []⟩, none, 0, none, 0⟩, fun h => absurd h hi'⟩
    let f : Nat → Ne := fun i => Classical.choose (h1 i)
    have hfi : ∀ i, i < len → (NeV (f i) W ∧ (f i).n.Ok) ∧ ∀ j u, (f i).cells[j]? = some u → W.cell? (a.add (i * 8 + j)) = some u := fun i hi => Classical.choose_spec (h1 i) hi
    refine ⟨((List.range len).map f).map (·.n), ⟨(List.range len).map f, some a, cap, rfl, by simp, by simp; exact hl, hm, fun hn => ?_, fun x hxm => ?_⟩, fun x hxm => ?_⟩
    · have hn' : 0 < len := by simpa using hn
      have h00 : W.cell? (a.add 0) = some _ := (hfi 0 hn').2 0 _ rfl
      have hflat := addr_flat h00
      refine ⟨a.block, a.off, congrArg some hflat, ?_, fun i x hxi j u hu => ?_⟩
      · refine hlt (.cell a.block a.off) ?_
        rw [hx.2]
        refine List.mem_append_left _ (List.mem_map.mpr ⟨0, List.mem_range.mpr ?_, by simp⟩)
        rw [h8]
        omega
      · rw [List.getElem?_map, Option.map_eq_some_iff] at hxi
        obtain ⟨i', hi', rfl⟩ := hxi
        obtain ⟨hi2, e2⟩ := List.getElem?_eq_some_iff.mp hi'
        rw [List.getElem_range] at e2
        subst e2
        have := (hfi i (by simpa using hi2)).2 j u hu
        have ea : a.add (i * 8 + j) = ⟨a.block, a.off + (i * 8 + j), none⟩ := by
          have := add_flat a.block a.off (i * 8 + j)
          rwa [← hflat] at this
        rw [show a.off + i * 8 + j = a.off + (i * 8 + j) from by omega, ← ea]
        exact this
    · obtain ⟨i, hi', rfl⟩ := List.mem_map.mp hxm
      exact (hfi i (List.mem_range.mp hi')).1.1
    · obtain ⟨q, hq', rfl⟩ := List.mem_map.mp hxm
      obtain ⟨i, hi', rfl⟩ := List.mem_map.mp hq'
      exact (hfi i (List.mem_range.mp hi')).1.2
end
end Go.Proofs.YthboeoidgglcgaaGreat
