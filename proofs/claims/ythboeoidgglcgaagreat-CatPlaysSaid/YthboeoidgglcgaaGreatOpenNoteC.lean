/- Arguments: a note by value; a slice of notes. -/
import Derived.Test.YthboeoidgglcgaaGreatOpenTab
import Derived.Test.YthboeoidgglcgaaGreatNt1
import Derived.ChangeSlices
namespace Go.Proofs.YthboeoidgglcgaaGreat
set_option linter.unusedVariables false
open Go Go.RowKit Go.ChangeShapes Go.WideShapes Go.ChangeAt Go.Deep
section
variable {H : Type} {enc : TypeId × Value → H} {P : Program} {W : World} {base : Nat} {sp : Nat → Bool} {held : Bool}
theorem bs_of_bytes (s : ByteArray) : bs s.data.toList = s := by unfold bs; simp
theorem open_slice_any {t e : TypeId} (ht : P.underlying t = some (.slice e)) {r : Reach} {b0 : Nat} {v : Value} {d : DataW H} {ps : List MemPlace}
    (hval : Value.okWide P W r b0 t v) (h0 : DataW.Trod enc P W base sp held t v d ps) (hlt : ∀ x ∈ ps, x.block < W.heap.size) : ∃ A n c, v = .slice A n c := okWide_slice ht hval
/-- places out of what was trod -/
theorem trod_places {t e ti : TypeId} {fs : Array Field} (ht : P.underlying t = some (.slice e)) (he : P.underlying e = some (.struct fs)) (hone : oneCellFields P fs = true) (hC : P.cellsOf e = 2) (h2 : fs.size = 2)
    (hall : fs.toList.all (fun f => f.type == ti) = true) (hi : P.underlying ti = some (.int .i64)) {fuel : Nat} {v : Value} {y : DataW H × List MemPlace}
    (hf : DataW.trod enc P W base sp held fuel t [v] = some y) (hlt : ∀ x ∈ y.2, x.block < W.heap.size) : ∃ (l : List (Int × Int)) (A : Option Addr) (c : Nat), v = .slice A l.length c ∧ Pls l (.slice A l.length c) W := by
  rcases open_slice_fields ht he hone (by rw [hC, h2]) hf with ⟨hcs, hx⟩ | ⟨a, len, cap, m, D, Pl, hcs, hb, hl, hm, hmm, hx, hrow⟩
  · injection hcs with hcs _
    exact ⟨[], none, 0, hcs, Pls.nil_ _ _ _ (Nat.zero_le _)⟩
  · injection hcs with hcs _
    subst hcs
    have hlm : len ≤ m := by rw [hmm]; split <;> omega
    have h1 : ∀ i j, ∃ z : Int, i < len → j < 2 → W.cell? (a.add (i * 2 + j)) = some (.int .i64 z) ∧ I64 z := fun i j => by
      by_cases hij : i < len ∧ j < 2
      · obtain ⟨hi', hj'⟩ := hij
        obtain ⟨ys, n', -, -, -, hfj⟩ := hrow i (by omega)
        obtain ⟨u, y, hc, hy, htr⟩ := hfj j (fs[j]'(by omega)) (Array.getElem?_eq_getElem (by omega))
        have hty : (fs[j]'(by omega)).type = ti := by
          have := List.all_eq_true.mp hall (fs[j]'(by omega)) (by simp)
          simpa using this
        rw [hty] at htr
        rw [h2] at hc
        obtain ⟨z, e1, -, wz⟩ := DataW.trod_int hi htr
        injection e1 with e1 _
        exact ⟨z, fun _ _ => ⟨by rw [hc, e1], i64_of wz⟩⟩
      · exact ⟨0, fun h2 h3 => absurd ⟨h2, h3⟩ hij⟩
    have htab : Tab W W.heap.size 2 (some a) len (fun i j => Classical.choose (h1 i j)) := by
      refine ⟨fun hn => ?_, fun i j hi hj => (Classical.choose_spec (h1 i j) hi hj).2⟩
      have h00 : ∃ v, W.cell? (a.add 0) = some v := by
        obtain ⟨z, hz⟩ := h1 0 0
        have := (hz hn (by decide)).1
        rw [Nat.zero_mul] at this
        exact ⟨_, this⟩
      obtain ⟨v00, hv00⟩ := h00
      have hflat := addr_flat hv00
      refine ⟨a.block, a.off, congrArg some hflat, ?_, fun i j hi hj => ?_⟩
      · refine hlt (.cell a.block a.off) ?_
        rw [hx]
        refine List.mem_append_left _ (List.mem_map.mpr ⟨0, List.mem_range.mpr ?_, by simp⟩)
        exact Nat.mul_pos (by omega) (by omega)
      · have := (Classical.choose_spec (h1 i j) hi hj).1
        have ea : a.add (i * 2 + j) = ⟨a.block, a.off + (i * 2 + j), none⟩ := by
          have := add_flat a.block a.off (i * 2 + j)
          rwa [← hflat] at this
        rw [show a.off + i * 2 + j = a.off + (i * 2 + j) from by omega, ← ea]
        exact this
    have hp := Pls.of_tab htab hl hm
    refine ⟨(List.range len).map fun i => (Classical.choose (h1 i 0), Classical.choose (h1 i 1)), some a, cap, by simp, ?_⟩
    have e : ((List.range len).map fun i => (Classical.choose (h1 i 0), Classical.choose (h1 i 1))).length = len := by simp
    rw [e]
    exact hp
theorem open_note {t ti ts tb te tp tq : TypeId} {fs gs : Array Field} (ht : P.underlying t = some (.struct fs)) (hone : oneCellFields P fs = true) (hC : P.cellsOf t = 8)
    (hty : fs.toList.map (·.type) = [ti, ts, ti, ti, tb, ts, ti, tp]) (hi : P.underlying ti = some (.int .i64)) (hs : P.underlying ts = some .string) (hb : P.underlying tb = some (.slice te)) (he : P.underlying te = some (.int .u8)) (hc1 : P.cellsOf te = 1) (hp : P.underlying tp = some (.slice tq)) (hq : P.underlying tq = some (.struct gs)) (hone2 : oneCellFields P gs = true) (hC2 : P.cellsOf tq = 2) (hg2 : gs.size = 2) (hall : gs.toList.all (fun f => f.type == ti) = true)
    {r : Reach} {b0 : Nat} {v : Value} {d : DataW H} {ps : List MemPlace}
    (hval : Value.okWide P W r b0 t v) (h0 : DataW.Trod enc P W base sp held t v d ps) (hlt : ∀ x ∈ ps, x.block < W.heap.size) :
    ∃ (q : Nt) (A : Option Addr) (c : Nat) (A2 : Option Addr) (c2 : Nat), v = q.agg A c A2 c2 ∧ q.Ok ∧ NtV q (q.agg A c A2 c2) W := by
  obtain ⟨cs, rfl, hsz⟩ := okWide_struct ht hval
  obtain ⟨fuel, hf⟩ := h0
  obtain ⟨xs, n, _, hx, _, hlen, hg⟩ := DataW.trod_struct ht hf
  simp only [Prod.mk.injEq] at hx
  rw [hC] at hsz
  have h10 : fs.size = 8 := by
    have := congrArg List.length hty
    simpa using this
  have h1 : ∀ j (hj : j < 8) (T : TypeId), [ti, ts, ti, ti, tb, ts, ti, tp][j]? = some T → ∃ y, xs[j]? = some y ∧ DataW.trod enc P W base sp held n T [cs[j]] = some y := fun j hj T hT => by
    have hfj : fs[j]? = some (fs[j]'(by omega)) := Array.getElem?_eq_getElem (by omega)
    obtain ⟨ho, hk⟩ := hone_of hone j _ hfj
    have h2 := hg j _ hfj
    rw [ho, hk] at h2
    have hty' : (fs[j]'(by omega)).type = T := by
      rw [← hty] at hT
      rw [List.getElem?_map] at hT
      have e : fs.toList[j]? = some (fs[j]'(by omega)) := by rw [Array.getElem?_toList]; exact hfj
      rw [e] at hT
      injection hT
    have hone' : (((Value.agg cs).cells.toList).drop j).take 1 = [cs[j]] := by
      have hl : cs.toList.length = 8 := by simp [hsz]
      simp only [Value.cells]
      rw [List.drop_eq_getElem_cons (by omega)]
      simp
    rw [hone', hty'] at h2
    have hys : xs[j]? = some (xs[j]'(by omega)) := List.getElem?_eq_getElem (by omega)
    exact ⟨_, hys, h2.trans hys⟩
  have hint : ∀ j (hj : j < 8), [ti, ts, ti, ti, tb, ts, ti, tp][j]? = some ti → ∃ z : Int, cs[j] = .int .i64 z ∧ R64 z := fun j hj hT => by
    obtain ⟨y, -, h2⟩ := h1 j hj ti hT
    obtain ⟨z, hz, -, hw⟩ := DataW.trod_int hi h2
    injection hz with hz _
    exact ⟨z, hz, i64_of hw⟩
  have hstr : ∀ j (hj : j < 8), [ti, ts, ti, ti, tb, ts, ti, tp][j]? = some ts → ∃ l : List UInt8, cs[j] = .string (bs l) ∧ l.length ≤ maxLen := fun j hj hT => by
    obtain ⟨y, -, h2⟩ := h1 j hj ts hT
    obtain ⟨s, hz, -, hw⟩ := DataW.trod_string hs h2
    injection hz with hz _
    exact ⟨s.data.toList, by rw [bs_of_bytes]; exact hz, by rw [Array.length_toList]; exact hw⟩
  obtain ⟨z0, e0, i0⟩ := hint 0 (by decide) rfl
  obtain ⟨l1, e1, i1⟩ := hstr 1 (by decide) rfl
  obtain ⟨z2, e2, i2⟩ := hint 2 (by decide) rfl
  obtain ⟨z3, e3, i3⟩ := hint 3 (by decide) rfl
  obtain ⟨y4, hy4, t4⟩ := h1 4 (by decide) tb rfl
  obtain ⟨l5, e5, i5⟩ := hstr 5 (by decide) rfl
  obtain ⟨z6, e6, i6⟩ := hint 6 (by decide) rfl
  obtain ⟨y7, hy7, t7⟩ := h1 7 (by decide) tp rfl
  have hsub : ∀ x ∈ y4.2, x ∈ ps := fun x hxm => by
    rw [hx.2]
    exact List.mem_flatMap.2 ⟨y4, List.mem_of_getElem? hy4, hxm⟩
  have hsub7 : ∀ x ∈ y7.2, x ∈ ps := fun x hxm => by
    rw [hx.2]
    exact List.mem_flatMap.2 ⟨y7, List.mem_of_getElem? hy7, hxm⟩
  obtain ⟨lp, A2, c2, e7, hpl⟩ := trod_places hp hq hone2 hC2 hg2 hall hi t7 (fun x hx => hlt x (hsub7 x hx))
  have fin : ∀ (A : Option Addr) (c : Nat) (l : List UInt8), cs[4] = .slice A l.length c → (Value.agg cs) = (Nt.mk z0 l1 z2 z3 l l5 z6 lp).agg A c A2 c2 := fun A c l e4 => by
    unfold Nt.agg
    congr 1
    refine Array.ext (by simpa using hsz) fun j hj hj' => ?_
    have hj6 : j < 8 := by simpa using hj'
    match j, hj6 with
    | 0, _ => simpa using e0
    | 1, _ => simpa using e1
    | 2, _ => simpa using e2
    | 3, _ => simpa using e3
    | 4, _ => simpa using e4
    | 5, _ => simpa using e5
    | 6, _ => simpa using e6
    | 7, _ => simpa using e7
  rcases open_ints hb he hc1 t4 with ⟨hcs, hx9⟩ | ⟨a, len, cap, zs, hcs, _, hl, hm, hz, hx9, hcell, hwz⟩
  · injection hcs with hcs _
    exact ⟨_, none, 0, A2, c2, fin none 0 [] hcs, ⟨i0, i2, i3, i6, i1, i5⟩, _, _, _, _, rfl, Byt.nil_ _, hpl⟩
  · injection hcs with hcs _
    have hlz : len ≤ zs.length := by rw [hz]; split <;> omega
    have hll : ((zs.take len).map (fun z => UInt8.ofNat z.toNat)).length = len := by rw [List.length_map, List.length_take]; omega
    refine ⟨_, some a, cap, A2, c2, fin (some a) cap ((zs.take len).map (fun z => UInt8.ofNat z.toNat)) (by rw [hll]; exact hcs), ⟨i0, i2, i3, i6, i1, i5⟩, _, _, _, _, rfl, ⟨_, _, rfl, by simp only [hll]; exact hl, hm, ?_⟩, hpl⟩
    refine ⟨by simp, fun hn => ⟨a, rfl, ?_, fun j u hj => ?_⟩⟩
    · refine hlt (.cell a.block a.off) (hsub _ ?_)
      rw [hx9]
      simp only [hll] at hn
      exact List.mem_map.mpr ⟨0, List.mem_range.mpr (by omega), by simp⟩
    · rw [List.getElem?_map, List.getElem?_map] at hj
      cases hq : (zs.take len)[j]? with
      | none => rw [hq] at hj; cases hj
      | some z =>
        rw [hq] at hj
        simp only [Option.map_some, Option.some.injEq] at hj
        have hjl : j < len := by
          have := (List.getElem?_eq_some_iff.1 hq).1
          rw [List.length_take] at this
          omega
        have hzj : zs[j]? = some z := by rw [List.getElem?_take, if_pos hjl] at hq; exact hq
        obtain ⟨x, hxz⟩ := u8_of (hwz z (List.mem_of_getElem? hzj))
        have hc := hcell j (by omega)
        rw [List.getD_eq_getElem?_getD, hzj] at hc
        rw [hc, ← hj, hxz]
        unfold vb U
        simp
end
end Go.Proofs.YthboeoidgglcgaaGreat
