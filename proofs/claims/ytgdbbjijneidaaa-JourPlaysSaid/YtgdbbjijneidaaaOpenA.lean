/- Arguments that are slices of structs of integers. -/
import Derived.Test.YtgdbbjijneidaaaOpen
import Derived.Test.YtgdbbjijneidaaaTab
import Derived.Deep.Slices
import Derived.Deep.Fields
import Derived.ChangeSame
import Derived.Test.YtgdbbjijneidaaaJr1
import Derived.ChangeSlices
import Derived.Test.YtgdbbjijneidaaaJr8
namespace Go.Proofs.Ytgdbbjijneidaaa
set_option linter.unusedVariables false
open Go Go.RowKit Go.ChangeShapes Go.WideShapes Go.ChangeAt Go.Deep
section
variable {H : Type} {enc : TypeId × Value → H} {P : Program} {w : World} {base : Nat} {spare : Nat → Bool} {held : Bool}
theorem open_slice_fields {t e : TypeId} {fs : Array Field} {fuel : Nat} {cs : List Value} {x : DataW H × List MemPlace} (ht : P.underlying t = some (.slice e)) (he : P.underlying e = some (.struct fs))
    (hone : oneCellFields P fs = true) (hC : P.cellsOf e = fs.size) (h : DataW.trod enc P w base spare held fuel t cs = some x) :
    (cs = [.slice none 0 0] ∧ x = (.nil, [])) ∨
    ∃ (a : Addr) (len cap m : Nat) (D : Nat → DataW H) (Pl : Nat → List MemPlace), cs = [.slice (some a) len cap] ∧ base ≤ a.block ∧ len ≤ cap ∧ cap ≤ maxLen ∧ m = (if spare a.block then cap else len) ∧
      x = (.slice ((List.range len).map D) ((List.range (m - len)).map fun j => D (len + j)), MemPlace.row a (m * fs.size) ++ (List.range m).flatMap Pl) ∧
      ∀ i, i < m → ∃ (ys : List (DataW H × List MemPlace)) (n : Nat), D i = .agg (ys.map (·.1)) ∧ Pl i = ys.flatMap (·.2) ∧ ys.length = fs.size ∧
        ∀ (j : Nat) (f : Field), fs[j]? = some f → ∃ (v : Value) (y : DataW H × List MemPlace), w.cell? (a.add (i * fs.size + j)) = some v ∧ ys[j]? = some y ∧ DataW.trod enc P w base spare held n f.type [v] = some y := by
  rcases open_slice ht h with h0 | ⟨a, len, cap, m, n, D, Pl, hcs, hb, hl, hm, hmm, hx, hi⟩
  · exact .inl h0
  · refine .inr ⟨a, len, cap, m, D, Pl, hcs, hb, hl, hm, hmm, by rw [hC] at hx; exact hx, fun i him => ?_⟩
    obtain ⟨cs', hc, ht'⟩ := hi i him
    rw [hC] at hc
    obtain ⟨ys, n', hn', hy, hlen, hyl, hf⟩ := DataW.trod_struct he ht'
    obtain ⟨_, hcl, hat⟩ := World.cells?_some hc
    simp only [Prod.mk.injEq] at hy
    refine ⟨ys, n', hy.1, hy.2, hyl, fun j f hj => ?_⟩
    obtain ⟨ho, hk⟩ := hone_of hone j f hj
    have hjl : j < fs.size := (Array.getElem?_eq_some_iff.1 hj).1
    have hcell := hat j hjl
    have hv : cs'[j]? = some (cs'[j]'(by omega)) := List.getElem?_eq_getElem (by omega)
    have h1 := hf j f hj
    rw [ho, hk] at h1
    have hone' : (cs'.drop j).take 1 = [cs'[j]'(by omega)] := by
      rw [List.drop_eq_getElem_cons (by omega)]
      rfl
    rw [hone'] at h1
    have hys : ys[j]? = some (ys[j]'(by omega)) := List.getElem?_eq_getElem (by omega)
    refine ⟨_, _, ?_, hys, h1.trans hys⟩
    rw [← Go.Deep.add_add, hcell, hv]
end
section
variable {H : Type} {enc : TypeId × Value → H} {P : Program} {W : World} {base : Nat} {sp : Nat → Bool} {held : Bool}
theorem addr_flat {w : World} {a : Addr} {v : Value} (h : w.cell? (a.add 0) = some v) : a = ⟨a.block, a.off, none⟩ := by
  obtain ⟨b, o, s⟩ := a
  cases s with
  | none => rfl
  | some s =>
    exfalso
    have e : (⟨b, o, some s⟩ : Addr).add 0 = ⟨b, o, some s⟩ := by unfold Addr.add; rw [if_pos rfl]
    rw [e] at h
    unfold World.cell? at h
    simp only [Option.isSome_some, if_true] at h
    split at h <;> cases h
theorem add_flat (b o k : Nat) : (⟨b, o, none⟩ : Addr).add k = ⟨b, o + k, none⟩ := by
  unfold Addr.add
  split
  · rename_i h; subst h; rfl
  · rfl
theorem open_tab {t e ti : TypeId} {fs : Array Field} (ht : P.underlying t = some (.slice e)) (he : P.underlying e = some (.struct fs)) (hone : oneCellFields P fs = true) (hC : P.cellsOf e = fs.size)
    (hall : fs.toList.all (fun f => f.type == ti) = true) (hi : P.underlying ti = some (.int .i64)) {r : Reach} {b0 : Nat} {v : Value} {d : DataW H} {ps : List MemPlace} (hs : 0 < fs.size)
    (hval : Value.okWide P W r b0 t v) (h0 : DataW.Trod enc P W base sp held t v d ps) (hlt : ∀ x ∈ ps, x.block < W.heap.size) :
    ∃ A n c, ∃ F : Nat → Nat → Int, v = .slice A n c ∧ n ≤ c ∧ c ≤ maxLen ∧ Tab W W.heap.size fs.size A n F := by
  obtain ⟨a0, len, cap, rfl⟩ := okWide_slice ht hval
  obtain ⟨fuel, hf⟩ := h0
  rcases open_slice_fields ht he hone hC hf with ⟨hcs, hx⟩ | ⟨a, len', cap', m, D, Pl, hcs, hb, hl, hm, hmm, hx, hrow⟩
  · simp [Value.cells] at hcs
    obtain ⟨rfl, rfl, rfl⟩ := hcs
    exact ⟨none, 0, 0, fun _ _ => 0, rfl, Nat.zero_le _, Nat.zero_le _, Tab.nil _ _ _ _ _⟩
  · simp [Value.cells] at hcs
    obtain ⟨rfl, rfl, rfl⟩ := hcs
    simp only [Prod.mk.injEq] at hx
    have hlm : len ≤ m := by rw [hmm]; split <;> omega
    have h1 : ∀ i j, ∃ z : Int, i < len → j < fs.size → W.cell? (a.add (i * fs.size + j)) = some (.int .i64 z) ∧ I64 z := fun i j => by
      by_cases hij : i < len ∧ j < fs.size
      · obtain ⟨hi', hj'⟩ := hij
        obtain ⟨ys, n', -, -, -, hfj⟩ := hrow i (by omega)
        obtain ⟨u, y, hc, hy, htr⟩ := hfj j fs[j] (Array.getElem?_eq_getElem hj')
        have hty : fs[j].type = ti := by
          have := List.all_eq_true.mp hall fs[j] (by simp)
          simpa using this
        rw [hty] at htr
        obtain ⟨z, e1, -, wz⟩ := DataW.trod_int hi htr
        injection e1 with e1 _
        exact ⟨z, fun _ _ => ⟨by rw [hc, e1], i64_of wz⟩⟩
      · exact ⟨0, fun h2 h3 => absurd ⟨h2, h3⟩ hij⟩
    refine ⟨some a, len, cap, fun i j => Classical.choose (h1 i j), rfl, hl, hm, fun hn => ?_, fun i j hi hj => (Classical.choose_spec (h1 i j) hi hj).2⟩
    have h00 : ∃ v, W.cell? (a.add 0) = some v := by
      obtain ⟨z, hz⟩ := h1 0 0
      have := (hz hn hs).1
      rw [Nat.zero_mul] at this
      exact ⟨_, this⟩
    obtain ⟨v00, hv00⟩ := h00
    have hflat := addr_flat hv00
    refine ⟨a.block, a.off, congrArg some hflat, ?_, fun i j hi hj => ?_⟩
    · refine hlt (.cell a.block a.off) ?_
      rw [hx.2]
      refine List.mem_append_left _ (List.mem_map.mpr ⟨0, List.mem_range.mpr ?_, by simp⟩)
      exact Nat.mul_pos (by omega) hs
    · have := (Classical.choose_spec (h1 i j) hi hj).1
      have ea : a.add (i * fs.size + j) = ⟨a.block, a.off + (i * fs.size + j), none⟩ := by
        have := add_flat a.block a.off (i * fs.size + j)
        rwa [← hflat] at this
      rw [show a.off + i * fs.size + j = a.off + (i * fs.size + j) from by omega, ← ea]
      exact this
end
end Go.Proofs.Ytgdbbjijneidaaa
/- Arguments: a note by value; a slice of notes. -/
namespace Go.Proofs.Ytgdbbjijneidaaa
set_option linter.unusedVariables false
open Go Go.RowKit Go.ChangeShapes Go.WideShapes Go.ChangeAt Go.Deep
section
variable {H : Type} {enc : TypeId × Value → H} {P : Program} {W : World} {base : Nat} {sp : Nat → Bool} {held : Bool}
theorem bs_of_bytes (s : ByteArray) : bs s.data.toList = s := by unfold bs; simp
theorem open_slice_any {t e : TypeId} (ht : P.underlying t = some (.slice e)) {r : Reach} {b0 : Nat} {v : Value} {d : DataW H} {ps : List MemPlace}
    (hval : Value.okWide P W r b0 t v) (h0 : DataW.Trod enc P W base sp held t v d ps) (hlt : ∀ x ∈ ps, x.block < W.heap.size) : ∃ A n c, v = .slice A n c := okWide_slice ht hval
/-- places out of what was trod -/
theorem trod_places {t e ti : TypeId} {fs : Array Field} (ht : P.underlying t = some (.slice e)) (he : P.underlying e = some (.struct fs)) (hone : oneCellFields P fs = true) (hC : P.cellsOf e = 2) (h2 : fs.size = 2)
    (hall : fs.toList.all (fun f => f.type == ti) = true) (hi : P.underlying ti = some (.int .i64)) {fuel : Nat} {v : Value} {y : DataW H × List MemPlace}
    (hf : DataW.trod enc P W base sp held fuel t [v] = some y) (hlt : ∀ x ∈ y.2, x.block < W.heap.size) : ∃ (l : List (Int × Int)) (A : Option Addr) (c : Nat), v = .slice A l.length c ∧ Pls l (.slice A l.length c) W := by
  rcases open_slice_fields ht he hone (by rw [hC, h2]) hf with ⟨hcs, hx⟩ | ⟨a, len, cap, m, D, Pl, hcs, hb, hl, hm, hmm, hx, hrow⟩
  · injection hcs with hcs _
    exact ⟨[], none, 0, hcs, Pls.nil_ _ _ _ (Nat.zero_le _)⟩
  · injection hcs with hcs _
    subst hcs
    have hlm : len ≤ m := by rw [hmm]; split <;> omega
    have h1 : ∀ i j, ∃ z : Int, i < len → j < 2 → W.cell? (a.add (i * 2 + j)) = some (.int .i64 z) ∧ I64 z := fun i j => by
      by_cases hij : i < len ∧ j < 2
      · obtain ⟨hi', hj'⟩ := hij
        obtain ⟨ys, n', -, -, -, hfj⟩ := hrow i (by omega)
        obtain ⟨u, y, hc, hy, htr⟩ := hfj j (fs[j]'(by omega)) (Array.getElem?_eq_getElem (by omega))
        have hty : (fs[j]'(by omega)).type = ti := by
          have := List.all_eq_true.mp hall (fs[j]'(by omega)) (by simp)
          simpa using this
        rw [hty] at htr
        rw [h2] at hc
        obtain ⟨z, e1, -, wz⟩ := DataW.trod_int hi htr
        injection e1 with e1 _
        exact ⟨z, fun _ _ => ⟨by rw [hc, e1], i64_of wz⟩⟩
      · exact ⟨0, fun h2 h3 => absurd ⟨h2, h3⟩ hij⟩
    have htab : Tab W W.heap.size 2 (some a) len (fun i j => Classical.choose (h1 i j)) := by
      refine ⟨fun hn => ?_, fun i j hi hj => (Classical.choose_spec (h1 i j) hi hj).2⟩
      have h00 : ∃ v, W.cell? (a.add 0) = some v := by
        obtain ⟨z, hz⟩ := h1 0 0
        have := (hz hn (by decide)).1
        rw [Nat.zero_mul] at this
        exact ⟨_, this⟩
      obtain ⟨v00, hv00⟩ := h00
      have hflat := addr_flat hv00
      refine ⟨a.block, a.off, congrArg some hflat, ?_, fun i j hi hj => ?_⟩
      · refine hlt (.cell a.block a.off) ?_
        rw [hx]
        refine List.mem_append_left _ (List.mem_map.mpr ⟨0, List.mem_range.mpr ?_, by simp⟩)
        exact Nat.mul_pos (by omega) (by omega)
      · have := (Classical.choose_spec (h1 i j) hi hj).1
        have ea : a.add (i * 2 + j) = ⟨a.block, a.off + (i * 2 + j), none⟩ := by
          have := add_flat a.block a.off (i * 2 + j)
          rwa [← hflat] at this
        rw [show a.off + i * 2 + j = a.off + (i * 2 + j) from by omega, ← ea]
        exact this
    have hp := Pls.of_tab htab hl hm
    refine ⟨(List.range len).map fun i => (Classical.choose (h1 i 0), Classical.choose (h1 i 1)), some a, cap, by simp, ?_⟩
    have e : ((List.range len).map fun i => (Classical.choose (h1 i 0), Classical.choose (h1 i 1))).length = len := by simp
    rw [e]
    exact hp
theorem open_note {t ti ts tb te tp tq : TypeId} {fs gs : Array Field} (ht : P.underlying t = some (.struct fs)) (hone : oneCellFields P fs = true) (hC : P.cellsOf t = 8)
    (hty : fs.toList.map (·.type) = [ti, ts, ti, ti, tb, ts, ti, tp]) (hi : P.underlying ti = some (.int .i64)) (hs : P.underlying ts = some .string) (hb : P.underlying tb = some (.slice te)) (he : P.underlying te = some (.int .u8)) (hc1 : P.cellsOf te = 1) (hp : P.underlying tp = some (.slice tq)) (hq : P.underlying tq = some (.struct gs)) (hone2 : oneCellFields P gs = true) (hC2 : P.cellsOf tq = 2) (hg2 : gs.size = 2) (hall : gs.toList.all (fun f => f.type == ti) = true)
    {r : Reach} {b0 : Nat} {v : Value} {d : DataW H} {ps : List MemPlace}
    (hval : Value.okWide P W r b0 t v) (h0 : DataW.Trod enc P W base sp held t v d ps) (hlt : ∀ x ∈ ps, x.block < W.heap.size) :
    ∃ (q : Nt) (A : Option Addr) (c : Nat) (A2 : Option Addr) (c2 : Nat), v = q.agg A c A2 c2 ∧ q.Ok ∧ NtV q (q.agg A c A2 c2) W := by
  obtain ⟨cs, rfl, hsz⟩ := okWide_struct ht hval
  obtain ⟨fuel, hf⟩ := h0
  obtain ⟨xs, n, _, hx, _, hlen, hg⟩ := DataW.trod_struct ht hf
  simp only [Prod.mk.injEq] at hx
  rw [hC] at hsz
  have h10 : fs.size = 8 := by
    have := congrArg List.length hty
    simpa using this
  have h1 : ∀ j (hj : j < 8) (T : TypeId), [ti, ts, ti, ti, tb, ts, ti, tp][j]? = some T → ∃ y, xs[j]? = some y ∧ DataW.trod enc P W base sp held n T [cs[j]] = some y := fun j hj T hT => by
    have hfj : fs[j]? = some (fs[j]'(by omega)) := Array.getElem?_eq_getElem (by omega)
    obtain ⟨ho, hk⟩ := hone_of hone j _ hfj
    have h2 := hg j _ hfj
    rw [ho, hk] at h2
    have hty' : (fs[j]'(by omega)).type = T := by
      rw [← hty] at hT
      rw [List.getElem?_map] at hT
      have e : fs.toList[j]? = some (fs[j]'(by omega)) := by rw [Array.getElem?_toList]; exact hfj
      rw [e] at hT
      injection hT
    have hone' : (((Value.agg cs).cells.toList).drop j).take 1 = [cs[j]] := by
      have hl : cs.toList.length = 8 := by simp [hsz]
      simp only [Value.cells]
      rw [List.drop_eq_getElem_cons (by omega)]
      simp
    rw [hone', hty'] at h2
    have hys : xs[j]? = some (xs[j]'(by omega)) := List.getElem?_eq_getElem (by omega)
    exact ⟨_, hys, h2.trans hys⟩
  have hint : ∀ j (hj : j < 8), [ti, ts, ti, ti, tb, ts, ti, tp][j]? = some ti → ∃ z : Int, cs[j] = .int .i64 z ∧ R64 z := fun j hj hT => by
    obtain ⟨y, -, h2⟩ := h1 j hj ti hT
    obtain ⟨z, hz, -, hw⟩ := DataW.trod_int hi h2
    injection hz with hz _
    exact ⟨z, hz, i64_of hw⟩
  have hstr : ∀ j (hj : j < 8), [ti, ts, ti, ti, tb, ts, ti, tp][j]? = some ts → ∃ l : List UInt8, cs[j] = .string (bs l) ∧ l.length ≤ maxLen := fun j hj hT => by
    obtain ⟨y, -, h2⟩ := h1 j hj ts hT
    obtain ⟨s, hz, -, hw⟩ := DataW.trod_string hs h2
    injection hz with hz _
    exact ⟨s.data.toList, by rw [bs_of_bytes]; exact hz, by rw [Array.length_toList]; exact hw⟩
  obtain ⟨z0, e0, i0⟩ := hint 0 (by decide) rfl
  obtain ⟨l1, e1, i1⟩ := hstr 1 (by decide) rfl
  obtain ⟨z2, e2, i2⟩ := hint 2 (by decide) rfl
  obtain ⟨z3, e3, i3⟩ := hint 3 (by decide) rfl
  obtain ⟨y4, hy4, t4⟩ := h1 4 (by decide) tb rfl
  obtain ⟨l5, e5, i5⟩ := hstr 5 (by decide) rfl
  obtain ⟨z6, e6, i6⟩ := hint 6 (by decide) rfl
  obtain ⟨y7, hy7, t7⟩ := h1 7 (by decide) tp rfl
  have hsub : ∀ x ∈ y4.2, x ∈ ps := fun x hxm => by
    rw [hx.2]
    exact List.mem_flatMap.2 ⟨y4, List.mem_of_getElem? hy4, hxm⟩
  have hsub7 : ∀ x ∈ y7.2, x ∈ ps := fun x hxm => by
    rw [hx.2]
    exact List.mem_flatMap.2 ⟨y7, List.mem_of_getElem? hy7, hxm⟩
  obtain ⟨lp, A2, c2, e7, hpl⟩ := trod_places hp hq hone2 hC2 hg2 hall hi t7 (fun x hx => hlt x (hsub7 x hx))
  have fin : ∀ (A : Option Addr) (c : Nat) (l : List UInt8), cs[4] = .slice A l.length c → (Value.agg cs) = (Nt.mk z0 l1 z2 z3 l l5 z6 lp).agg A c A2 c2 := fun A c l e4 => by
    unfold Nt.agg
    congr 1
    refine Array.ext (by simpa using hsz) fun j hj hj' => ?_
    have hj6 : j < 8 := by simpa using hj'
    match j, hj6 with
    | 0, _ => simpa using e0
    | 1, _ => simpa using e1
    | 2, _ => simpa using e2
    | 3, _ => simpa using e3
    | 4, _ => simpa using e4
    | 5, _ => simpa using e5
    | 6, _ => simpa using e6
    | 7, _ => simpa using e7
  rcases open_ints hb he hc1 t4 with ⟨hcs, hx9⟩ | ⟨a, len, cap, zs, hcs, _, hl, hm, hz, hx9, hcell, hwz⟩
  · injection hcs with hcs _
    exact ⟨_, none, 0, A2, c2, fin none 0 [] hcs, ⟨i0, i2, i3, i6, i1, i5⟩, _, _, _, _, rfl, Byt.nil_ _, hpl⟩
  · injection hcs with hcs _
    have hlz : len ≤ zs.length := by rw [hz]; split <;> omega
    have hll : ((zs.take len).map (fun z => UInt8.ofNat z.toNat)).length = len := by rw [List.length_map, List.length_take]; omega
    refine ⟨_, some a, cap, A2, c2, fin (some a) cap ((zs.take len).map (fun z => UInt8.ofNat z.toNat)) (by rw [hll]; exact hcs), ⟨i0, i2, i3, i6, i1, i5⟩, _, _, _, _, rfl, ⟨_, _, rfl, by simp only [hll]; exact hl, hm, ?_⟩, hpl⟩
    refine ⟨by simp, fun hn => ⟨a, rfl, ?_, fun j u hj => ?_⟩⟩
    · refine hlt (.cell a.block a.off) (hsub _ ?_)
      rw [hx9]
      simp only [hll] at hn
      exact List.mem_map.mpr ⟨0, List.mem_range.mpr (by omega), by simp⟩
    · rw [List.getElem?_map, List.getElem?_map] at hj
      cases hq : (zs.take len)[j]? with
      | none => rw [hq] at hj; cases hj
      | some z =>
        rw [hq] at hj
        simp only [Option.map_some, Option.some.injEq] at hj
        have hjl : j < len := by
          have := (List.getElem?_eq_some_iff.1 hq).1
          rw [List.length_take] at this
          omega
        have hzj : zs[j]? = some z := by rw [List.getElem?_take, if_pos hjl] at hq; exact hq
        obtain ⟨x, hxz⟩ := u8_of (hwz z (List.mem_of_getElem? hzj))
        have hc := hcell j (by omega)
        rw [List.getD_eq_getElem?_getD, hzj] at hc
        rw [hc, ← hj, hxz]
        unfold vb U
        simp
end
end Go.Proofs.Ytgdbbjijneidaaa
/- Arguments: a slice of notes. -/
namespace Go.Proofs.Ytgdbbjijneidaaa
set_option linter.unusedVariables false
open Go Go.RowKit Go.ChangeShapes Go.WideShapes Go.ChangeAt Go.Deep
section
variable {H : Type} {enc : TypeId × Value → H} {P : Program} {W : World} {base : Nat} {sp : Nat → Bool} {held : Bool}
theorem trod_note {ti ts tb te tp tq : TypeId} {gs : Array Field} (hi : P.underlying ti = some (.int .i64)) (hs : P.underlying ts = some .string) (hb : P.underlying tb = some (.slice te)) (he : P.underlying te = some (.int .u8)) (hc1 : P.cellsOf te = 1) (hp : P.underlying tp = some (.slice tq)) (hq : P.underlying tq = some (.struct gs)) (hone2 : oneCellFields P gs = true) (hC2 : P.cellsOf tq = 2) (hg2 : gs.size = 2) (hall : gs.toList.all (fun f => f.type == ti) = true) {n : Nat} (vals : Nat → Value)
    (hv : ∀ j T, [ti, ts, ti, ti, tb, ts, ti, tp][j]? = some T → ∃ y, DataW.trod enc P W base sp held n T [vals j] = some y ∧ ∀ x ∈ y.2, x.block < W.heap.size) :
    ∃ x : Ne, NeV x W ∧ ∀ j u, x.cells[j]? = some u → vals j = u := by
  have hint : ∀ j, [ti, ts, ti, ti, tb, ts, ti, tp][j]? = some ti → ∃ z : Int, vals j = .int .i64 z ∧ R64 z := fun j hT => by
    obtain ⟨y, h2, -⟩ := hv j ti hT
    obtain ⟨z, hz, -, hw⟩ := DataW.trod_int hi h2
    injection hz with hz _
    exact ⟨z, hz, i64_of hw⟩
  have hstr : ∀ j, [ti, ts, ti, ti, tb, ts, ti, tp][j]? = some ts → ∃ l : List UInt8, vals j = .string (bs l) ∧ l.length ≤ maxLen := fun j hT => by
    obtain ⟨y, h2, -⟩ := hv j ts hT
    obtain ⟨s, hz, -, hw⟩ := DataW.trod_string hs h2
    injection hz with hz _
    exact ⟨s.data.toList, by rw [bs_of_bytes]; exact hz, by rw [Array.length_toList]; exact hw⟩
  obtain ⟨z0, e0, i0⟩ := hint 0 rfl
  obtain ⟨l1, e1, i1⟩ := hstr 1 rfl
  obtain ⟨z2, e2, i2⟩ := hint 2 rfl
  obtain ⟨z3, e3, i3⟩ := hint 3 rfl
  obtain ⟨y4, t4, hs4⟩ := hv 4 tb rfl
  obtain ⟨l5, e5, i5⟩ := hstr 5 rfl
  obtain ⟨z6, e6, i6⟩ := hint 6 rfl
  obtain ⟨y7, t7, hs7⟩ := hv 7 tp rfl
  obtain ⟨lp, A2, c2, e7, hpl⟩ := trod_places hp hq hone2 hC2 hg2 hall hi t7 hs7
  have fin : ∀ (A : Option Addr) (c : Nat) (l : List UInt8), vals 4 = .slice A l.length c → ∀ j u, (Ne.mk (Nt.mk z0 l1 z2 z3 l l5 z6 lp) A c A2 c2).cells[j]? = some u → vals j = u := fun A c l e4 j u hu => by
    unfold Ne.cells at hu
    simp only at hu
    have hj : j < 8 := (List.getElem?_eq_some_iff.mp hu).1
    match j, hj, hu with
    | 0, _, hu => injection hu with hu; rw [← hu]; exact e0
    | 1, _, hu => injection hu with hu; rw [← hu]; exact e1
    | 2, _, hu => injection hu with hu; rw [← hu]; exact e2
    | 3, _, hu => injection hu with hu; rw [← hu]; exact e3
    | 4, _, hu => injection hu with hu; rw [← hu]; exact e4
    | 5, _, hu => injection hu with hu; rw [← hu]; exact e5
    | 6, _, hu => injection hu with hu; rw [← hu]; exact e6
    | 7, _, hu => injection hu with hu; rw [← hu]; exact e7
  rcases open_ints hb he hc1 t4 with ⟨hcs, hx9⟩ | ⟨a, len, cap, zs, hcs, _, hl, hm, hz, hx9, hcell, hwz⟩
  · injection hcs with hcs _
    exact ⟨_, ⟨Byt.nil_ _, hpl⟩, fin none 0 [] hcs⟩
  · injection hcs with hcs _
    have hlz : len ≤ zs.length := by rw [hz]; split <;> omega
    have hll : ((zs.take len).map (fun z => UInt8.ofNat z.toNat)).length = len := by rw [List.length_map, List.length_take]; omega
    refine ⟨_, ⟨⟨_, _, rfl, by simp only [hll]; exact hl, hm, ?_⟩, hpl⟩, fin (some a) cap ((zs.take len).map (fun z => UInt8.ofNat z.toNat)) (by rw [hll]; exact hcs)⟩
    refine ⟨by simp, fun hn => ⟨a, rfl, ?_, fun j u hj => ?_⟩⟩
    · refine hs4 (.cell a.block a.off) ?_
      rw [hx9]
      simp only [hll] at hn
      exact List.mem_map.mpr ⟨0, List.mem_range.mpr (by omega), by simp⟩
    · rw [List.getElem?_map, List.getElem?_map] at hj
      cases hq : (zs.take len)[j]? with
      | none => rw [hq] at hj; cases hj
      | some z =>
        rw [hq] at hj
        simp only [Option.map_some, Option.some.injEq] at hj
        have hjl : j < len := by
          have := (List.getElem?_eq_some_iff.1 hq).1
          rw [List.length_take] at this
          omega
        have hzj : zs[j]? = some z := by rw [List.getElem?_take, if_pos hjl] at hq; exact hq
        obtain ⟨x, hxz⟩ := u8_of (hwz z (List.mem_of_getElem? hzj))
        have hc := hcell j (by omega)
        rw [List.getD_eq_getElem?_getD, hzj] at hc
        rw [hc, ← hj, hxz]
        unfold vb U
        simp
theorem open_notes {t e ti ts tb te tp tq : TypeId} {fs gs : Array Field} (ht : P.underlying t = some (.slice e)) (hE : P.underlying e = some (.struct fs)) (hone : oneCellFields P fs = true) (hC : P.cellsOf e = 8) (h8 : fs.size = 8)
    (hty : fs.toList.map (·.type) = [ti, ts, ti, ti, tb, ts, ti, tp]) (hi : P.underlying ti = some (.int .i64)) (hs : P.underlying ts = some .string) (hb : P.underlying tb = some (.slice te)) (he : P.underlying te = some (.int .u8)) (hc1 : P.cellsOf te = 1) (hp : P.underlying tp = some (.slice tq)) (hq : P.underlying tq = some (.struct gs)) (hone2 : oneCellFields P gs = true) (hC2 : P.cellsOf tq = 2) (hg2 : gs.size = 2) (hall : gs.toList.all (fun f => f.type == ti) = true)
    {r : Reach} {b0 : Nat} {v : Value} {d : DataW H} {ps : List MemPlace}
    (hval : Value.okWide P W r b0 t v) (h0 : DataW.Trod enc P W base sp held t v d ps) (hlt : ∀ x ∈ ps, x.block < W.heap.size) : ∃ L, NsV L v W := by
  obtain ⟨a0, len, cap, rfl⟩ := okWide_slice ht hval
  obtain ⟨fuel, hf⟩ := h0
  rcases open_slice_fields ht hE hone (by rw [hC, h8]) hf with ⟨hcs, hx⟩ | ⟨a, len', cap', m, D, Pl, hcs, hb0, hl, hm, hmm, hx, hrow⟩
  · simp [Value.cells] at hcs
    obtain ⟨rfl, rfl, rfl⟩ := hcs
    exact ⟨[], [], none, 0, rfl, rfl, Nat.le_refl _, Nat.zero_le _, fun h => absurd h (by simp), fun x hx => (by cases hx)⟩
  · simp [Value.cells] at hcs
    obtain ⟨rfl, rfl, rfl⟩ := hcs
    simp only [Prod.mk.injEq] at hx
    have hlm : len ≤ m := by rw [hmm]; split <;> omega
    have h1 : ∀ i, ∃ x : Ne, i < len → NeV x W ∧ ∀ j u, x.cells[j]? = some u → W.cell? (a.add (i * 8 + j)) = some u := fun i => by
      by_cases hi' : i < len
      · obtain ⟨ys, n', -, hpl, -, hfj⟩ := hrow i (by omega)
        have hvv : ∀ j, ∃ vj : Value, ∀ T, [ti, ts, ti, ti, tb, ts, ti, tp][j]? = some T → W.cell? (a.add (i * 8 + j)) = some vj ∧ ∃ y, DataW.trod enc P W base sp held n' T [vj] = some y ∧ ∀ x ∈ y.2, x.block < W.heap.size := fun j => by
          by_cases hj : j < 8
          · obtain ⟨vj, y, hc, hy, htr⟩ := hfj j (fs[j]'(by omega)) (Array.getElem?_eq_getElem (by omega))
            refine ⟨vj, fun T hT => ?_⟩
            have hty' : (fs[j]'(by omega)).type = T := by
              rw [← hty, List.getElem?_map] at hT
              have e : fs.toList[j]? = some (fs[j]'(by omega)) := by rw [Array.getElem?_toList]; exact Array.getElem?_eq_getElem (by omega)
              rw [e] at hT
              injection hT
            rw [hty'] at htr
            rw [h8] at hc
            refine ⟨hc, y, htr, fun x hxm => hlt x ?_⟩
            rw [hx.2]
            refine List.mem_append_right _ (List.mem_flatMap.mpr ⟨i, List.mem_range.mpr (by omega), ?_⟩)
            rw [hpl]
            exact List.mem_flatMap.mpr ⟨y, List.mem_of_getElem? hy, hxm⟩
          · exact ⟨.int .i64 0, fun T hT => absurd (List.getElem?_eq_some_iff.mp hT).1 (by simpa using hj)⟩
        obtain ⟨x, hxv, hxc⟩ := trod_note hi hs hb he hc1 hp hq hone2 hC2 hg2 hall (fun j => Classical.choose (hvv j)) (fun j T hT => (Classical.choose_spec (hvv j) T hT).2)
        refine ⟨x, fun _ => ⟨hxv, fun j u hu => ?_⟩⟩
        have hj : j < 8 := (List.getElem?_eq_some_iff.mp hu).1
        have hT : ∃ T, [ti, ts, ti, ti, tb, ts, ti, tp][j]? = some T := ⟨_, List.getElem?_eq_getElem (by simpa using hj)⟩
        obtain ⟨T, hT⟩ := hT
        rw [(Classical.choose_spec (hvv j) T hT).1]
        exact congrArg some (hxc j u hu)
      · exact ⟨⟨⟨0, [], 0, 0, [], [], 0, []⟩, none, 0, none, 0⟩, fun h => absurd h hi'⟩
    let f : Nat → Ne := fun i => Classical.choose (h1 i)
    have hfi : ∀ i, i < len → NeV (f i) W ∧ ∀ j u, (f i).cells[j]? = some u → W.cell? (a.add (i * 8 + j)) = some u := fun i hi => Classical.choose_spec (h1 i) hi
    refine ⟨((List.range len).map f).map (·.n), (List.range len).map f, some a, cap, rfl, by simp, by simp; exact hl, hm, fun hn => ?_, fun x hxm => ?_⟩
    · have hn' : 0 < len := by simpa using hn
      have h00 : W.cell? (a.add 0) = some _ := (hfi 0 hn').2 0 _ rfl
      have hflat := addr_flat h00
      refine ⟨a.block, a.off, congrArg some hflat, ?_, fun i x hxi j u hu => ?_⟩
      · refine hlt (.cell a.block a.off) ?_
        rw [hx.2]
        refine List.mem_append_left _ (List.mem_map.mpr ⟨0, List.mem_range.mpr ?_, by simp⟩)
        rw [h8]
        omega
      · rw [List.getElem?_map, Option.map_eq_some_iff] at hxi
        obtain ⟨i', hi', rfl⟩ := hxi
        obtain ⟨hi2, e2⟩ := List.getElem?_eq_some_iff.mp hi'
        rw [List.getElem_range] at e2
        subst e2
        have := (hfi i (by simpa using hi2)).2 j u hu
        have ea : a.add (i * 8 + j) = ⟨a.block, a.off + (i * 8 + j), none⟩ := by
          have := add_flat a.block a.off (i * 8 + j)
          rwa [← hflat] at this
        rw [show a.off + i * 8 + j = a.off + (i * 8 + j) from by omega, ← ea]
        exact this
    · obtain ⟨i, hi', rfl⟩ := List.mem_map.mp hxm
      exact (hfi i (List.mem_range.mp hi')).1
end
end Go.Proofs.Ytgdbbjijneidaaa
/- Arguments: a slice of acts on a journal. -/
namespace Go.Proofs.Ytgdbbjijneidaaa
set_option linter.unusedVariables false
open Go Go.RowKit Go.ChangeShapes Go.WideShapes Go.ChangeAt Go.Deep
/-- an act: its kind, its number, its note, its list -/
structure ActN where
  d : UInt8
  z : Int
  x : Ne
  A : Option Addr
  m : Nat
  c : Nat
  L : List Nt
def ActN.cells (q : ActN) : List Value := [.int .u8 (U q.d), .int .i64 q.z] ++ q.x.cells ++ [.slice q.A q.m q.c]
/-- n acts lie behind A -/
def ActsN (w : World) (A : Option Addr) (n : Nat) (f : Nat → ActN) : Prop :=
  (0 < n → ∃ b o, A = some ⟨b, o, none⟩ ∧ b < w.heap.size ∧ ∀ i, i < n → ∀ j u, (f i).cells[j]? = some u → w.cell? ⟨b, o + i * 11 + j, none⟩ = some u) ∧ ∀ i, i < n → I64 (f i).z ∧ NeV (f i).x w ∧ NsV (f i).L (.slice (f i).A (f i).m (f i).c) w
theorem drop_take1 {α : Type} (cs : List α) (j : Nat) (h : j < cs.length) : (cs.drop j).take 1 = [cs[j]] := by
  rw [List.drop_eq_getElem_cons h]
  rfl
section
variable {H : Type} {enc : TypeId × Value → H} {P : Program} {W : World} {base : Nat} {sp : Nat → Bool} {held : Bool}
theorem trod_notes {t e ti ts tb te tp tq : TypeId} {fs gs : Array Field} (ht : P.underlying t = some (.slice e)) (hE : P.underlying e = some (.struct fs)) (hone : oneCellFields P fs = true) (hC : P.cellsOf e = 8) (h8 : fs.size = 8)
    (hty : fs.toList.map (·.type) = [ti, ts, ti, ti, tb, ts, ti, tp]) (hi : P.underlying ti = some (.int .i64)) (hs : P.underlying ts = some .string) (hb : P.underlying tb = some (.slice te)) (he : P.underlying te = some (.int .u8)) (hc1 : P.cellsOf te = 1) (hp : P.underlying tp = some (.slice tq)) (hq : P.underlying tq = some (.struct gs)) (hone2 : oneCellFields P gs = true) (hC2 : P.cellsOf tq = 2) (hg2 : gs.size = 2) (hall : gs.toList.all (fun f => f.type == ti) = true)
    {fuel : Nat} {v : Value} {y : DataW H × List MemPlace}
    (hf : DataW.trod enc P W base sp held fuel t [v] = some y) (hlt : ∀ x ∈ y.2, x.block < W.heap.size) : ∃ L, NsV L v W := by
  obtain ⟨d, ps⟩ := y
  rcases open_slice_fields ht hE hone (by rw [hC, h8]) hf with ⟨hcs, hx⟩ | ⟨a, len, cap, m, D, Pl, hcs, hb0, hl, hm, hmm, hx, hrow⟩
  · injection hcs with hcs _
    subst hcs
    exact ⟨[], [], none, 0, rfl, rfl, Nat.le_refl _, Nat.zero_le _, fun h => absurd h (by simp), fun x hx => (by cases hx)⟩
  · injection hcs with hcs _
    subst hcs
    simp only [Prod.mk.injEq] at hx
    have hlm : len ≤ m := by rw [hmm]; split <;> omega
    have h1 : ∀ i, ∃ x : Ne, i < len → NeV x W ∧ ∀ j u, x.cells[j]? = some u → W.cell? (a.add (i * 8 + j)) = some u := fun i => by
      by_cases hi' : i < len
      · obtain ⟨ys, n', -, hpl, -, hfj⟩ := hrow i (by omega)
        have hvv : ∀ j, ∃ vj : Value, ∀ T, [ti, ts, ti, ti, tb, ts, ti, tp][j]? = some T → W.cell? (a.add (i * 8 + j)) = some vj ∧ ∃ y, DataW.trod enc P W base sp held n' T [vj] = some y ∧ ∀ x ∈ y.2, x.block < W.heap.size := fun j => by
          by_cases hj : j < 8
          · obtain ⟨vj, y, hc, hy, htr⟩ := hfj j (fs[j]'(by omega)) (Array.getElem?_eq_getElem (by omega))
            refine ⟨vj, fun T hT => ?_⟩
            have hty' : (fs[j]'(by omega)).type = T := by
              rw [← hty, List.getElem?_map] at hT
              have e : fs.toList[j]? = some (fs[j]'(by omega)) := by rw [Array.getElem?_toList]; exact Array.getElem?_eq_getElem (by omega)
              rw [e] at hT
              injection hT
            rw [hty'] at htr
            rw [h8] at hc
            refine ⟨hc, y, htr, fun x hxm => hlt x ?_⟩
            rw [hx.2]
            refine List.mem_append_right _ (List.mem_flatMap.mpr ⟨i, List.mem_range.mpr (by omega), ?_⟩)
            rw [hpl]
            exact List.mem_flatMap.mpr ⟨y, List.mem_of_getElem? hy, hxm⟩
          · exact ⟨.int .i64 0, fun T hT => absurd (List.getElem?_eq_some_iff.mp hT).1 (by simpa using hj)⟩
        obtain ⟨x, hxv, hxc⟩ := trod_note hi hs hb he hc1 hp hq hone2 hC2 hg2 hall (fun j => Classical.choose (hvv j)) (fun j T hT => (Classical.choose_spec (hvv j) T hT).2)
        refine ⟨x, fun _ => ⟨hxv, fun j u hu => ?_⟩⟩
        have hj : j < 8 := (List.getElem?_eq_some_iff.mp hu).1
        have hT : ∃ T, [ti, ts, ti, ti, tb, ts, ti, tp][j]? = some T := ⟨_, List.getElem?_eq_getElem (by simpa using hj)⟩
        obtain ⟨T, hT⟩ := hT
        rw [(Classical.choose_spec (hvv j) T hT).1]
        exact congrArg some (hxc j u hu)
      · exact ⟨⟨⟨0, [], 0, 0, [], [], 0, []⟩, none, 0, none, 0⟩, fun h => absurd h hi'⟩
    let f : Nat → Ne := fun i => Classical.choose (h1 i)
    have hfi : ∀ i, i < len → NeV (f i) W ∧ ∀ j u, (f i).cells[j]? = some u → W.cell? (a.add (i * 8 + j)) = some u := fun i hi => Classical.choose_spec (h1 i) hi
    refine ⟨((List.range len).map f).map (·.n), (List.range len).map f, some a, cap, rfl, by simp, by simp; exact hl, hm, fun hn => ?_, fun x hxm => ?_⟩
    · have hn' : 0 < len := by simpa using hn
      have h00 : W.cell? (a.add 0) = some _ := (hfi 0 hn').2 0 _ rfl
      have hflat := addr_flat h00
      refine ⟨a.block, a.off, congrArg some hflat, ?_, fun i x hxi j u hu => ?_⟩
      · refine hlt (.cell a.block a.off) ?_
        rw [hx.2]
        refine List.mem_append_left _ (List.mem_map.mpr ⟨0, List.mem_range.mpr ?_, by simp⟩)
        rw [h8]
        omega
      · rw [List.getElem?_map, Option.map_eq_some_iff] at hxi
        obtain ⟨i', hi', rfl⟩ := hxi
        obtain ⟨hi2, e2⟩ := List.getElem?_eq_some_iff.mp hi'
        rw [List.getElem_range] at e2
        subst e2
        have := (hfi i (by simpa using hi2)).2 j u hu
        have ea : a.add (i * 8 + j) = ⟨a.block, a.off + (i * 8 + j), none⟩ := by
          have := add_flat a.block a.off (i * 8 + j)
          rwa [← hflat] at this
        rw [show a.off + i * 8 + j = a.off + (i * 8 + j) from by omega, ← ea]
        exact this
    · obtain ⟨i, hi', rfl⟩ := List.mem_map.mp hxm
      exact (hfi i (List.mem_range.mp hi')).1
theorem open_actsN {t a4 e tl ti ts tb te tp tq : TypeId} {fs gs : Array Field} {f0 f1 f2 f3 : Field} (ht : P.underlying t = some (.slice a4)) (hA : P.underlying a4 = some (.struct #[f0, f1, f2, f3])) (hCA : P.cellsOf a4 = 11)
    (h0t : f0.type = te ∧ f0.offset = 0) (h1t : f1.type = ti ∧ f1.offset = 1) (h2t : f2.type = e ∧ f2.offset = 2) (h3t : f3.type = tl ∧ f3.offset = 10) (hci : P.cellsOf ti = 1) (hcl : P.cellsOf tl = 1) (hL : P.underlying tl = some (.slice e)) (hE : P.underlying e = some (.struct fs)) (hone : oneCellFields P fs = true) (hC : P.cellsOf e = 8) (h8 : fs.size = 8)
    (hty : fs.toList.map (·.type) = [ti, ts, ti, ti, tb, ts, ti, tp]) (hi : P.underlying ti = some (.int .i64)) (hs : P.underlying ts = some .string) (hb : P.underlying tb = some (.slice te)) (he : P.underlying te = some (.int .u8)) (hc1 : P.cellsOf te = 1) (hp : P.underlying tp = some (.slice tq)) (hq : P.underlying tq = some (.struct gs)) (hone2 : oneCellFields P gs = true) (hC2 : P.cellsOf tq = 2) (hg2 : gs.size = 2) (hall : gs.toList.all (fun f => f.type == ti) = true)
    {r : Reach} {b0 : Nat} {v : Value} {d : DataW H} {ps : List MemPlace}
    (hval : Value.okWide P W r b0 t v) (h0 : DataW.Trod enc P W base sp held t v d ps) (hlt : ∀ x ∈ ps, x.block < W.heap.size) : ∃ A n c f, v = .slice A n c ∧ n ≤ c ∧ c ≤ maxLen ∧ ActsN W A n f := by
  obtain ⟨a0, len, cap, rfl⟩ := okWide_slice ht hval
  obtain ⟨fuel, hf⟩ := h0
  rcases open_slice ht hf with ⟨hcs, hx⟩ | ⟨a, len', cap', m, n, D, Pl, hcs, hb0, hl, hm, hmm, hx, hrow⟩
  · simp [Value.cells] at hcs
    obtain ⟨rfl, rfl, rfl⟩ := hcs
    exact ⟨none, 0, 0, fun _ => ⟨0, 0, ⟨⟨0, [], 0, 0, [], [], 0, []⟩, none, 0, none, 0⟩, none, 0, 0, []⟩, rfl, Nat.le_refl _, Nat.zero_le _, fun h => absurd h (by simp), fun i h => absurd h (by omega)⟩
  · simp [Value.cells] at hcs
    obtain ⟨rfl, rfl, rfl⟩ := hcs
    simp only [Prod.mk.injEq] at hx
    have hlm : len ≤ m := by rw [hmm]; split <;> omega
    rw [hCA] at hrow hx
    have h1 : ∀ i, ∃ q : ActN, i < len → (∀ j u, q.cells[j]? = some u → W.cell? (a.add (i * 11 + j)) = some u) ∧ I64 q.z ∧ NeV q.x W ∧ NsV q.L (.slice q.A q.m q.c) W := fun i => by
      by_cases hi' : i < len
      · obtain ⟨cs', hc, ht'⟩ := hrow i (by omega)
        obtain ⟨ys, n', -, hpl, hlen, hyl0, hfj⟩ := DataW.trod_struct hA ht'
        obtain ⟨_, hcl', hat⟩ := World.cells?_some hc
        simp only [Prod.mk.injEq] at hpl
        have hsub : ∀ (j : Nat) (y : DataW H × List MemPlace), ys[j]? = some y → ∀ x ∈ y.2, x.block < W.heap.size := fun j y hy x hxm => hlt x (by
          rw [hx.2]
          refine List.mem_append_right _ (List.mem_flatMap.mpr ⟨i, List.mem_range.mpr (by omega), ?_⟩)
          rw [hpl.2]
          exact List.mem_flatMap.mpr ⟨y, List.mem_of_getElem? hy, hxm⟩)
        have g0 := hfj 0 f0 rfl
        have g1 := hfj 1 f1 rfl
        have g2 := hfj 2 f2 rfl
        have g3 := hfj 3 f3 rfl
        rw [h0t.1, h0t.2, hc1, drop_take1 cs' 0 (by omega)] at g0
        rw [h1t.1, h1t.2, hci, drop_take1 cs' 1 (by omega)] at g1
        rw [h2t.1, h2t.2, hC] at g2
        rw [h3t.1, h3t.2, hcl, drop_take1 cs' 10 (by omega)] at g3
        have some_of : ∀ {o : Option (DataW H × List MemPlace)} {f : Option (DataW H × List MemPlace)} (_ : f = o), o ≠ none → ∃ y, f = some y ∧ o = some y := fun {o f} e hn => by
          cases o with
          | none => exact absurd rfl hn
          | some y => exact ⟨y, e, rfl⟩
        have hyl : ys.length = 4 := by simpa using hyl0
        obtain ⟨y0, t0, e0⟩ := some_of g0 (by simp [hyl])
        obtain ⟨y1, t1, e1⟩ := some_of g1 (by simp [hyl])
        obtain ⟨y2, t2, e2⟩ := some_of g2 (by simp [hyl])
        obtain ⟨y3, t3, e3⟩ := some_of g3 (by simp [hyl])
        obtain ⟨z0, c0, -, wz0⟩ := DataW.trod_int he t0
        obtain ⟨z1, c1, -, wz1⟩ := DataW.trod_int hi t1
        obtain ⟨x0, rfl⟩ := u8_of wz0
        injection c0 with c0 _
        injection c1 with c1 _
        obtain ⟨L, hLv⟩ := trod_notes hL hE hone hC h8 hty hi hs hb he hc1 hp hq hone2 hC2 hg2 hall t3 (hsub 3 y3 e3)
        obtain ⟨zs, n'', -, hpl2, hlen2, hzl0, hfk⟩ := DataW.trod_struct hE t2
        have hzl : zs.length = 8 := by rw [hzl0, h8]
        have hx2 : ∀ j T, [ti, ts, ti, ti, tb, ts, ti, tp][j]? = some T → ∃ y, DataW.trod enc P W base sp held n'' T [(cs'[2 + j]?).getD (.int .i64 0)] = some y ∧ ∀ x ∈ y.2, x.block < W.heap.size := fun j T hT => by
          have hj : j < 8 := (List.getElem?_eq_some_iff.mp hT).1
          have hfj' : fs[j]? = some (fs[j]'(by omega)) := Array.getElem?_eq_getElem (by omega)
          obtain ⟨ho, hk⟩ := hone_of hone j _ hfj'
          have hty' : (fs[j]'(by omega)).type = T := by
            rw [← hty, List.getElem?_map] at hT
            have e : fs.toList[j]? = some (fs[j]'(by omega)) := by rw [Array.getElem?_toList]; exact hfj'
            rw [e] at hT
            injection hT
          have h2 := hfk j _ hfj'
          have hl2 : ((cs'.drop 2).take 8).length = 8 := by simp; omega
          rw [ho, hk, hty', drop_take1 _ j (by omega)] at h2
          have hel : ((cs'.drop 2).take 8)[j]'(by omega) = (cs'[2 + j]?).getD (.int .i64 0) := by
            rw [List.getElem?_eq_getElem (by omega)]
            simp
          rw [hel] at h2
          obtain ⟨y, hy1, hy2⟩ := some_of h2 (by simp; omega)
          refine ⟨y, hy1, fun x hxm => hsub 2 y2 e2 x ?_⟩
          rw [hpl2]
          exact List.mem_flatMap.mpr ⟨y, List.mem_of_getElem? hy2, hxm⟩
        obtain ⟨x, hxv, hxc⟩ := trod_note hi hs hb he hc1 hp hq hone2 hC2 hg2 hall (fun j => (cs'[2 + j]?).getD (.int .i64 0)) hx2
        obtain ⟨AL, mL, cL, eL⟩ : ∃ A m c, cs'[10]'(by omega) = .slice A m c := by
          obtain ⟨E, A, c, -, e, -⟩ := hLv
          exact ⟨A, _, c, e⟩
        rw [eL] at hLv
        refine ⟨⟨x0, z1, x, AL, mL, cL, L⟩, fun _ => ⟨fun j u hu => ?_, i64_of wz1, hxv, hLv⟩⟩
        unfold ActN.cells at hu
        simp only at hu
        have hxl : x.cells.length = 8 := rfl
        have hat' : ∀ k, (hk : k < 11) → W.cell? (a.add (i * 11 + k)) = some (cs'[k]'(by omega)) := fun k hk => by
          rw [← Go.Deep.add_add, hat k (by omega), List.getElem?_eq_getElem (by omega)]
        by_cases hj0 : j = 0
        · subst hj0
          injection hu with hu
          rw [hat' 0 (by omega), c0, hu]
        · by_cases hj1 : j = 1
          · subst hj1
            injection hu with hu
            rw [hat' 1 (by omega), c1, hu]
          · by_cases hj10 : j < 10
            · have h2 : x.cells[j - 2]? = some u := by
                rw [List.getElem?_append_left (by simp [hxl]; omega), List.getElem?_append_right (by simp; omega)] at hu
                simpa using hu
              have h3 := hxc (j - 2) u h2
              rw [show 2 + (j - 2) = j from by omega, List.getElem?_eq_getElem (by omega)] at h3
              rw [hat' j (by omega)]
              exact congrArg some h3
            · have hj : j = 10 := by
                have := (List.getElem?_eq_some_iff.mp hu).1
                simp [hxl] at this
                omega
              subst hj
              rw [hat' 10 (by omega), eL]
              rw [List.getElem?_append_right (by simp [hxl])] at hu
              simpa [hxl] using hu
      · exact ⟨⟨0, 0, ⟨⟨0, [], 0, 0, [], [], 0, []⟩, none, 0, none, 0⟩, none, 0, 0, []⟩, fun h => absurd h hi'⟩
    let f : Nat → ActN := fun i => Classical.choose (h1 i)
    have hfi : ∀ i, i < len → (∀ j u, (f i).cells[j]? = some u → W.cell? (a.add (i * 11 + j)) = some u) ∧ I64 (f i).z ∧ NeV (f i).x W ∧ NsV (f i).L (.slice (f i).A (f i).m (f i).c) W := fun i hi => Classical.choose_spec (h1 i) hi
    refine ⟨some a, len, cap, f, rfl, hl, hm, fun hn => ?_, fun i hi => ⟨(hfi i hi).2.1, (hfi i hi).2.2.1, (hfi i hi).2.2.2⟩⟩
    have h00 : W.cell? (a.add 0) = some _ := (hfi 0 hn).1 0 _ rfl
    have hflat := addr_flat h00
    refine ⟨a.block, a.off, congrArg some hflat, ?_, fun i hi j u hu => ?_⟩
    · refine hlt (.cell a.block a.off) ?_
      rw [hx.2]
      refine List.mem_append_left _ (List.mem_map.mpr ⟨0, List.mem_range.mpr (by omega), by simp⟩)
    · have := (hfi i hi).1 j u hu
      have ea : a.add (i * 11 + j) = ⟨a.block, a.off + (i * 11 + j), none⟩ := by
        have := add_flat a.block a.off (i * 11 + j)
        rwa [← hflat] at this
      rw [show a.off + i * 11 + j = a.off + (i * 11 + j) from by omega, ← ea]
      exact this
end
end Go.Proofs.Ytgdbbjijneidaaa
