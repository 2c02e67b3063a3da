/- Arguments: a slice of finds; a record by value. -/
import Derived.Test.YtiliggleplpjbaaOpenTab
import Derived.Test.YtiliggleplpjbaaSc2
import Derived.Deep.Slices
import Derived.Deep.Fields
import Derived.ChangeSame
import Derived.ChangeSlices
namespace Go.Proofs.Ytiliggleplpjbaa
set_option linter.unusedVariables false
open Go Go.RowKit Go.ChangeShapes Go.WideShapes Go.ChangeAt Go.Deep
theorem drop_take1 {α : Type} (cs : List α) (j : Nat) (h : j < cs.length) : (cs.drop j).take 1 = [cs[j]] := by
  rw [List.drop_eq_getElem_cons h]
  rfl
section
variable {H : Type} {enc : TypeId × Value → H} {P : Program} {W : World} {base : Nat} {sp : Nat → Bool} {held : Bool}
theorem bs_of_bytes (s : ByteArray) : bs s.data.toList = s := by unfold bs; simp
theorem trod_rec {ti ts tb te : TypeId} (hi : P.underlying ti = some (.int .i64)) (hs : P.underlying ts = some .string) (hb : P.underlying tb = some (.slice te)) (he : P.underlying te = some (.int .u8)) (hc1 : P.cellsOf te = 1) {n : Nat} (vals : Nat → Value)
    (hv : ∀ j T, [ti, ti, ts, ti, ti, ti, ti, ti, ts, tb][j]? = some T → ∃ y, DataW.trod enc P W base sp held n T [vals j] = some y ∧ ∀ x ∈ y.2, x.block < W.heap.size) :
    ∃ (q : Rc) (A : Option Addr) (c : Nat), (∀ j u, (q.cells A c)[j]? = some u → vals j = u) ∧ q.Ok ∧ Byt q.data (.slice A q.data.length c) W := by
  have hint : ∀ j, [ti, ti, ts, ti, ti, ti, ti, ti, ts, tb][j]? = some ti → ∃ z : Int, vals j = .int .i64 z ∧ R64 z := fun j hT => by
    obtain ⟨y, h2, -⟩ := hv j ti hT
    obtain ⟨z, hz, -, hw⟩ := DataW.trod_int hi h2
    injection hz with hz _
    exact ⟨z, hz, i64_of hw⟩
  have hstr : ∀ j, [ti, ti, ts, ti, ti, ti, ti, ti, ts, tb][j]? = some ts → ∃ l : List UInt8, vals j = .string (bs l) ∧ l.length ≤ maxLen := fun j hT => by
    obtain ⟨y, h2, -⟩ := hv j ts hT
    obtain ⟨s, hz, -, hw⟩ := DataW.trod_string hs h2
    injection hz with hz _
    exact ⟨s.data.toList, by rw [bs_of_bytes]; exact hz, by rw [Array.length_toList]; exact hw⟩
  obtain ⟨z0, e0, i0⟩ := hint 0 rfl
  obtain ⟨z1, e1, i1⟩ := hint 1 rfl
  obtain ⟨l2, e2, i2⟩ := hstr 2 rfl
  obtain ⟨z3, e3, i3⟩ := hint 3 rfl
  obtain ⟨z4, e4, i4⟩ := hint 4 rfl
  obtain ⟨z5, e5, i5⟩ := hint 5 rfl
  obtain ⟨z6, e6, i6⟩ := hint 6 rfl
  obtain ⟨z7, e7, i7⟩ := hint 7 rfl
  obtain ⟨l8, e8, i8⟩ := hstr 8 rfl
  obtain ⟨y9, t9, hs9⟩ := hv 9 tb rfl
  have fin : ∀ (A : Option Addr) (c : Nat) (l : List UInt8), vals 9 = .slice A l.length c → ∀ j u, ((Rc.mk z0 z1 l2 z3 z4 z5 z6 z7 l8 l).cells A c)[j]? = some u → vals j = u := fun A c l e9 j u hu => by
    unfold Rc.cells at hu
    simp only at hu
    have hj : j < 10 := (Array.getElem?_eq_some_iff.mp hu).1
    match j, hj, hu with
    | 0, _, hu => injection hu with hu; rw [← hu]; exact e0
    | 1, _, hu => injection hu with hu; rw [← hu]; exact e1
    | 2, _, hu => injection hu with hu; rw [← hu]; exact e2
    | 3, _, hu => injection hu with hu; rw [← hu]; exact e3
    | 4, _, hu => injection hu with hu; rw [← hu]; exact e4
    | 5, _, hu => injection hu with hu; rw [← hu]; exact e5
    | 6, _, hu => injection hu with hu; rw [← hu]; exact e6
    | 7, _, hu => injection hu with hu; rw [← hu]; exact e7
    | 8, _, hu => injection hu with hu; rw [← hu]; exact e8
    | 9, _, hu => injection hu with hu; rw [← hu]; exact e9
  rcases open_ints hb he hc1 t9 with ⟨hcs, hx9⟩ | ⟨a, len, cap, zs, hcs, _, hl, hm, hz, hx9, hcell, hwz⟩
  · injection hcs with hcs _
    exact ⟨_, none, 0, fin none 0 [] hcs, ⟨i0, i1, i3, i4, i5, i6, i7, i2, i8⟩, Byt.nil_ _⟩
  · injection hcs with hcs _
    have hlz : len ≤ zs.length := by rw [hz]; split <;> omega
    have hll : ((zs.take len).map (fun z => UInt8.ofNat z.toNat)).length = len := by rw [List.length_map, List.length_take]; omega
    refine ⟨_, some a, cap, fin (some a) cap ((zs.take len).map (fun z => UInt8.ofNat z.toNat)) (by rw [hll]; exact hcs), ⟨i0, i1, i3, i4, i5, i6, i7, i2, i8⟩, ⟨_, _, rfl, by simp only [hll]; exact hl, hm, ?_⟩⟩
    refine ⟨by simp, fun hn => ⟨a, rfl, ?_, fun j u hj => ?_⟩⟩
    · refine hs9 (.cell a.block a.off) ?_
      rw [hx9]
      simp only [hll] at hn
      exact List.mem_map.mpr ⟨0, List.mem_range.mpr (by omega), by simp⟩
    · rw [List.getElem?_map, List.getElem?_map] at hj
      cases hq : (zs.take len)[j]? with
      | none => rw [hq] at hj; cases hj
      | some z =>
        rw [hq] at hj
        simp only [Option.map_some, Option.some.injEq] at hj
        have hjl : j < len := by
          have := (List.getElem?_eq_some_iff.1 hq).1
          rw [List.length_take] at this
          omega
        have hzj : zs[j]? = some z := by rw [List.getElem?_take, if_pos hjl] at hq; exact hq
        obtain ⟨x, hxz⟩ := u8_of (hwz z (List.mem_of_getElem? hzj))
        have hc := hcell j (by omega)
        rw [List.getD_eq_getElem?_getD, hzj] at hc
        rw [hc, ← hj, hxz]
        unfold vb U
        simp
theorem open_rec {t ti ts tb te : TypeId} {fs : Array Field} (ht : P.underlying t = some (.struct fs)) (hone : oneCellFields P fs = true) (hC : P.cellsOf t = 10)
    (hty : fs.toList.map (·.type) = [ti, ti, ts, ti, ti, ti, ti, ti, ts, tb]) (hi : P.underlying ti = some (.int .i64)) (hs : P.underlying ts = some .string) (hb : P.underlying tb = some (.slice te)) (he : P.underlying te = some (.int .u8)) (hc1 : P.cellsOf te = 1)
    {r : Reach} {b0 : Nat} {v : Value} {d : DataW H} {ps : List MemPlace}
    (hval : Value.okWide P W r b0 t v) (h0 : DataW.Trod enc P W base sp held t v d ps) (hlt : ∀ x ∈ ps, x.block < W.heap.size) :
    ∃ (q : Rc) (A : Option Addr) (c : Nat), v = q.agg A c ∧ q.Ok ∧ q.data.length ≤ c ∧ c ≤ maxLen ∧ Rd W W.heap.size A q.data := by
  obtain ⟨cs, rfl, hsz⟩ := okWide_struct ht hval
  obtain ⟨fuel, hf⟩ := h0
  obtain ⟨xs, n, _, hx, _, hlen, hg⟩ := DataW.trod_struct ht hf
  simp only [Prod.mk.injEq] at hx
  rw [hC] at hsz
  have h10 : fs.size = 10 := by
    have := congrArg List.length hty
    simpa using this
  have h1 : ∀ j (hj : j < 10) (T : TypeId), [ti, ti, ts, ti, ti, ti, ti, ti, ts, tb][j]? = some T → ∃ y, xs[j]? = some y ∧ DataW.trod enc P W base sp held n T [cs[j]] = some y := fun j hj T hT => by
    have hfj : fs[j]? = some (fs[j]'(by omega)) := Array.getElem?_eq_getElem (by omega)
    obtain ⟨ho, hk⟩ := hone_of hone j _ hfj
    have h2 := hg j _ hfj
    rw [ho, hk] at h2
    have hty' : (fs[j]'(by omega)).type = T := by
      rw [← hty] at hT
      rw [List.getElem?_map] at hT
      have e : fs.toList[j]? = some (fs[j]'(by omega)) := by rw [Array.getElem?_toList]; exact hfj
      rw [e] at hT
      injection hT
    have hone' : (((Value.agg cs).cells.toList).drop j).take 1 = [cs[j]] := by
      have hl : cs.toList.length = 10 := by simp [hsz]
      simp only [Value.cells]
      rw [List.drop_eq_getElem_cons (by omega)]
      simp
    rw [hone', hty'] at h2
    have hys : xs[j]? = some (xs[j]'(by omega)) := List.getElem?_eq_getElem (by omega)
    exact ⟨_, hys, h2.trans hys⟩
  have hint : ∀ j (hj : j < 10), [ti, ti, ts, ti, ti, ti, ti, ti, ts, tb][j]? = some ti → ∃ z : Int, cs[j] = .int .i64 z ∧ R64 z := fun j hj hT => by
    obtain ⟨y, -, h2⟩ := h1 j hj ti hT
    obtain ⟨z, hz, -, hw⟩ := DataW.trod_int hi h2
    injection hz with hz _
    exact ⟨z, hz, i64_of hw⟩
  have hstr : ∀ j (hj : j < 10), [ti, ti, ts, ti, ti, ti, ti, ti, ts, tb][j]? = some ts → ∃ l : List UInt8, cs[j] = .string (bs l) ∧ l.length ≤ maxLen := fun j hj hT => by
    obtain ⟨y, -, h2⟩ := h1 j hj ts hT
    obtain ⟨s, hz, -, hw⟩ := DataW.trod_string hs h2
    injection hz with hz _
    exact ⟨s.data.toList, by rw [bs_of_bytes]; exact hz, by rw [Array.length_toList]; exact hw⟩
  obtain ⟨z0, e0, i0⟩ := hint 0 (by decide) rfl
  obtain ⟨z1, e1, i1⟩ := hint 1 (by decide) rfl
  obtain ⟨l2, e2, i2⟩ := hstr 2 (by decide) rfl
  obtain ⟨z3, e3, i3⟩ := hint 3 (by decide) rfl
  obtain ⟨z4, e4, i4⟩ := hint 4 (by decide) rfl
  obtain ⟨z5, e5, i5⟩ := hint 5 (by decide) rfl
  obtain ⟨z6, e6, i6⟩ := hint 6 (by decide) rfl
  obtain ⟨z7, e7, i7⟩ := hint 7 (by decide) rfl
  obtain ⟨l8, e8, i8⟩ := hstr 8 (by decide) rfl
  obtain ⟨y9, hy9, t9⟩ := h1 9 (by decide) tb rfl
  have hsub : ∀ x ∈ y9.2, x ∈ ps := fun x hxm => by
    rw [hx.2]
    exact List.mem_flatMap.2 ⟨y9, List.mem_of_getElem? hy9, hxm⟩
  have fin : ∀ (A : Option Addr) (c : Nat) (l : List UInt8), cs[9] = .slice A l.length c → (Value.agg cs) = (Rc.mk z0 z1 l2 z3 z4 z5 z6 z7 l8 l).agg A c := fun A c l e9 => by
    unfold Rc.agg
    congr 1
    refine Array.ext (by simpa using hsz) fun j hj hj' => ?_
    have hj6 : j < 10 := by simpa using hj'
    match j, hj6 with
    | 0, _ => simpa using e0
    | 1, _ => simpa using e1
    | 2, _ => simpa using e2
    | 3, _ => simpa using e3
    | 4, _ => simpa using e4
    | 5, _ => simpa using e5
    | 6, _ => simpa using e6
    | 7, _ => simpa using e7
    | 8, _ => simpa using e8
    | 9, _ => simpa using e9
  rcases open_ints hb he hc1 t9 with ⟨hcs, hx9⟩ | ⟨a, len, cap, zs, hcs, _, hl, hm, hz, hx9, hcell, hwz⟩
  · injection hcs with hcs _
    exact ⟨_, none, 0, fin none 0 [] hcs, ⟨i0, i1, i3, i4, i5, i6, i7, i2, i8⟩, Nat.zero_le _, Nat.zero_le _, Rd.nil_⟩
  · injection hcs with hcs _
    have hlz : len ≤ zs.length := by rw [hz]; split <;> omega
    have hll : ((zs.take len).map (fun z => UInt8.ofNat z.toNat)).length = len := by rw [List.length_map, List.length_take]; omega
    refine ⟨_, some a, cap, fin (some a) cap ((zs.take len).map (fun z => UInt8.ofNat z.toNat)) (by rw [hll]; exact hcs), ⟨i0, i1, i3, i4, i5, i6, i7, i2, i8⟩, by simp only [hll]; exact hl, hm, ?_⟩
    refine ⟨by simp, fun hn => ⟨a, rfl, ?_, fun j u hj => ?_⟩⟩
    · refine hlt (.cell a.block a.off) (hsub _ ?_)
      rw [hx9]
      simp only [hll] at hn
      exact List.mem_map.mpr ⟨0, List.mem_range.mpr (by omega), by simp⟩
    · rw [List.getElem?_map, List.getElem?_map] at hj
      cases hq : (zs.take len)[j]? with
      | none => rw [hq] at hj; cases hj
      | some z =>
        rw [hq] at hj
        simp only [Option.map_some, Option.some.injEq] at hj
        have hjl : j < len := by
          have := (List.getElem?_eq_some_iff.1 hq).1
          rw [List.length_take] at this
          omega
        have hzj : zs[j]? = some z := by rw [List.getElem?_take, if_pos hjl] at hq; exact hq
        obtain ⟨x, hxz⟩ := u8_of (hwz z (List.mem_of_getElem? hzj))
        have hc := hcell j (by omega)
        rw [List.getD_eq_getElem?_getD, hzj] at hc
        rw [hc, ← hj, hxz]
        unfold vb U
        simp
theorem open_founds {t a4 e tp ti ts tb te : TypeId} {fs : Array Field} {f0 f1 g0 g1 : Field} (ht : P.underlying t = some (.slice a4)) (hA : P.underlying a4 = some (.struct #[f0, f1])) (hCA : P.cellsOf a4 = 12)
    (h0t : f0.type = tp ∧ f0.offset = 0) (h1t : f1.type = e ∧ f1.offset = 2) (hP : P.underlying tp = some (.struct #[g0, g1])) (hCP : P.cellsOf tp = 2) (hg0 : g0.type = ti ∧ g0.offset = 0) (hg1 : g1.type = ti ∧ g1.offset = 1) (hci : P.cellsOf ti = 1) (hE : P.underlying e = some (.struct fs)) (hone : oneCellFields P fs = true) (hC : P.cellsOf e = 10)
    (hty : fs.toList.map (·.type) = [ti, ti, ts, ti, ti, ti, ti, ti, ts, tb]) (hi : P.underlying ti = some (.int .i64)) (hs : P.underlying ts = some .string) (hb : P.underlying tb = some (.slice te)) (he : P.underlying te = some (.int .u8)) (hc1 : P.cellsOf te = 1)
    {r : Reach} {b0 : Nat} {v : Value} {d : DataW H} {ps : List MemPlace}
    (hval : Value.okWide P W r b0 t v) (h0 : DataW.Trod enc P W base sp held t v d ps) (hlt : ∀ x ∈ ps, x.block < W.heap.size) : ∃ E : List Fe, FsV E v W ∧ ∀ x ∈ E, FOk x.f := by
  have h8 : fs.size = 10 := by
    have := congrArg List.length hty
    simpa using this
  obtain ⟨a0, len, cap, rfl⟩ := okWide_slice ht hval
  obtain ⟨fuel, hf⟩ := h0
  rcases open_slice ht hf with ⟨hcs, hx⟩ | ⟨a, len', cap', m, n, D, Pl, hcs, hb0, hl, hm, hmm, hx, hrow⟩
  · simp [Value.cells] at hcs
    obtain ⟨rfl, rfl, rfl⟩ := hcs
    exact ⟨[], ⟨none, 0, rfl, Nat.le_refl _, Nat.zero_le _, fun h => absurd h (by simp), fun x hx => (by cases hx)⟩, fun x hx => (by cases hx)⟩
  · simp [Value.cells] at hcs
    obtain ⟨rfl, rfl, rfl⟩ := hcs
    simp only [Prod.mk.injEq] at hx
    have hlm : len ≤ m := by rw [hmm]; split <;> omega
    rw [hCA] at hrow hx
    have h1 : ∀ i, ∃ q : Fe, i < len → (∀ j u, q.cells[j]? = some u → W.cell? (a.add (i * 12 + j)) = some u) ∧ FeV q W ∧ FOk q.f := fun i => by
      by_cases hi' : i < len
      · obtain ⟨cs', hc, ht'⟩ := hrow i (by omega)
        obtain ⟨ys, n', -, hpl, hlen, hyl0, hfj⟩ := DataW.trod_struct hA ht'
        obtain ⟨_, hcl', hat⟩ := World.cells?_some hc
        simp only [Prod.mk.injEq] at hpl
        have hsub : ∀ (j : Nat) (y : DataW H × List MemPlace), ys[j]? = some y → ∀ x ∈ y.2, x.block < W.heap.size := fun j y hy x hxm => hlt x (by
          rw [hx.2]
          refine List.mem_append_right _ (List.mem_flatMap.mpr ⟨i, List.mem_range.mpr (by omega), ?_⟩)
          rw [hpl.2]
          exact List.mem_flatMap.mpr ⟨y, List.mem_of_getElem? hy, hxm⟩)
        have k0 := hfj 0 f0 rfl
        have k1 := hfj 1 f1 rfl
        rw [h0t.1, h0t.2, hCP] at k0
        rw [h1t.1, h1t.2, hC] at k1
        have some_of : ∀ {o : Option (DataW H × List MemPlace)} {f : Option (DataW H × List MemPlace)} (_ : f = o), o ≠ none → ∃ y, f = some y ∧ o = some y := fun {o f} e hn => by
          cases o with
          | none => exact absurd rfl hn
          | some y => exact ⟨y, e, rfl⟩
        have hyl : ys.length = 2 := by simpa using hyl0
        obtain ⟨y0, t0, e0⟩ := some_of k0 (by simp [hyl])
        obtain ⟨y1, t1, e1⟩ := some_of k1 (by simp [hyl])
        -- the place
        obtain ⟨us, m', -, -, -, hul0, hfp⟩ := DataW.trod_struct hP t0
        have hul : us.length = 2 := by simpa using hul0
        have hlp : ((cs'.drop 0).take 2).length = 2 := by simp; omega
        have p0 := hfp 0 g0 rfl
        have p1 := hfp 1 g1 rfl
        rw [hg0.1, hg0.2, hci, drop_take1 _ 0 (by omega)] at p0
        rw [hg1.1, hg1.2, hci, drop_take1 _ 1 (by omega)] at p1
        obtain ⟨u0, s0, -⟩ := some_of p0 (by simp [hul])
        obtain ⟨u1, s1, -⟩ := some_of p1 (by simp [hul])
        obtain ⟨z0, c0, -, wz0⟩ := DataW.trod_int hi s0
        obtain ⟨z1, c1, -, wz1⟩ := DataW.trod_int hi s1
        injection c0 with c0 _
        injection c1 with c1 _
        have d0 : cs'[0]'(by omega) = .int .i64 z0 := by rw [← c0]; simp
        have d1 : cs'[1]'(by omega) = .int .i64 z1 := by rw [← c1]; simp
        -- the record
        obtain ⟨zs, n'', -, hpl2, hlen2, hzl0, hfk⟩ := DataW.trod_struct hE t1
        have hzl : zs.length = 10 := by rw [hzl0, h8]
        have hx2 : ∀ j T, [ti, ti, ts, ti, ti, ti, ti, ti, ts, tb][j]? = some T → ∃ y, DataW.trod enc P W base sp held n'' T [(cs'[2 + j]?).getD (.int .i64 0)] = some y ∧ ∀ x ∈ y.2, x.block < W.heap.size := fun j T hT => by
          have hj : j < 10 := (List.getElem?_eq_some_iff.mp hT).1
          have hfj' : fs[j]? = some (fs[j]'(by omega)) := Array.getElem?_eq_getElem (by omega)
          obtain ⟨ho, hk⟩ := hone_of hone j _ hfj'
          have hty' : (fs[j]'(by omega)).type = T := by
            rw [← hty, List.getElem?_map] at hT
            have e : fs.toList[j]? = some (fs[j]'(by omega)) := by rw [Array.getElem?_toList]; exact hfj'
            rw [e] at hT
            injection hT
          have h2 := hfk j _ hfj'
          have hl2 : ((cs'.drop 2).take 10).length = 10 := by simp; omega
          rw [ho, hk, hty', drop_take1 _ j (by omega)] at h2
          have hel : ((cs'.drop 2).take 10)[j]'(by omega) = (cs'[2 + j]?).getD (.int .i64 0) := by
            rw [List.getElem?_eq_getElem (by omega)]
            simp
          rw [hel] at h2
          obtain ⟨y, hy1, hy2⟩ := some_of h2 (by simp; omega)
          refine ⟨y, hy1, fun x hxm => hsub 1 y1 e1 x ?_⟩
          rw [hpl2]
          exact List.mem_flatMap.mpr ⟨y, List.mem_of_getElem? hy2, hxm⟩
        obtain ⟨q, A, c, hqc, hqo, hqb⟩ := trod_rec hi hs hb he hc1 (fun j => (cs'[2 + j]?).getD (.int .i64 0)) hx2
        refine ⟨⟨⟨z0, z1, q⟩, A, c⟩, fun _ => ⟨fun j u hu => ?_, hqb, ⟨i64_of wz0, i64_of wz1, hqo⟩⟩⟩
        have hat' : ∀ k, (hk : k < 12) → W.cell? (a.add (i * 12 + k)) = some (cs'[k]'(by omega)) := fun k hk => by
          rw [← Go.Deep.add_add, hat k (by omega), List.getElem?_eq_getElem (by omega)]
        have hj12 : j < 12 := (List.getElem?_eq_some_iff.mp hu).1
        have h3 := fun k => hqc k
        match j, hj12, hu with
        | 0, _, hu => injection hu with hu; rw [hat' 0 (by omega), d0, hu]
        | 1, _, hu => injection hu with hu; rw [hat' 1 (by omega), d1, hu]
        | 2, _, hu =>
          injection hu with hu
          have h4 := hqc 0 _ rfl
          rw [List.getElem?_eq_getElem (by omega)] at h4
          rw [hat' 2 (by omega)]
          exact congrArg some (h4.trans hu)
        | 3, _, hu =>
          injection hu with hu
          have h4 := hqc 1 _ rfl
          rw [List.getElem?_eq_getElem (by omega)] at h4
          rw [hat' 3 (by omega)]
          exact congrArg some (h4.trans hu)
        | 4, _, hu =>
          injection hu with hu
          have h4 := hqc 2 _ rfl
          rw [List.getElem?_eq_getElem (by omega)] at h4
          rw [hat' 4 (by omega)]
          exact congrArg some (h4.trans hu)
        | 5, _, hu =>
          injection hu with hu
          have h4 := hqc 3 _ rfl
          rw [List.getElem?_eq_getElem (by omega)] at h4
          rw [hat' 5 (by omega)]
          exact congrArg some (h4.trans hu)
        | 6, _, hu =>
          injection hu with hu
          have h4 := hqc 4 _ rfl
          rw [List.getElem?_eq_getElem (by omega)] at h4
          rw [hat' 6 (by omega)]
          exact congrArg some (h4.trans hu)
        | 7, _, hu =>
          injection hu with hu
          have h4 := hqc 5 _ rfl
          rw [List.getElem?_eq_getElem (by omega)] at h4
          rw [hat' 7 (by omega)]
          exact congrArg some (h4.trans hu)
        | 8, _, hu =>
          injection hu with hu
          have h4 := hqc 6 _ rfl
          rw [List.getElem?_eq_getElem (by omega)] at h4
          rw [hat' 8 (by omega)]
          exact congrArg some (h4.trans hu)
        | 9, _, hu =>
          injection hu with hu
          have h4 := hqc 7 _ rfl
          rw [List.getElem?_eq_getElem (by omega)] at h4
          rw [hat' 9 (by omega)]
          exact congrArg some (h4.trans hu)
        | 10, _, hu =>
          injection hu with hu
          have h4 := hqc 8 _ rfl
          rw [List.getElem?_eq_getElem (by omega)] at h4
          rw [hat' 10 (by omega)]
          exact congrArg some (h4.trans hu)
        | 11, _, hu =>
          injection hu with hu
          have h4 := hqc 9 _ rfl
          rw [List.getElem?_eq_getElem (by omega)] at h4
          rw [hat' 11 (by omega)]
          exact congrArg some (h4.trans hu)
      · exact ⟨⟨⟨0, 0, ⟨0, 0, [], 0, 0, 0, 0, 0, [], []⟩⟩, none, 0⟩, fun h => absurd h hi'⟩
    let f : Nat → Fe := fun i => Classical.choose (h1 i)
    have hfi : ∀ i, i < len → (∀ j u, (f i).cells[j]? = some u → W.cell? (a.add (i * 12 + j)) = some u) ∧ FeV (f i) W ∧ FOk (f i).f := fun i hi => Classical.choose_spec (h1 i) hi
    refine ⟨(List.range len).map f, ⟨some a, cap, by simp, by simp; exact hl, hm, fun hn => ?_, fun x hxm => ?_⟩, fun x hxm => ?_⟩
    · have hn' : 0 < len := by simpa using hn
      have h00 : W.cell? (a.add 0) = some _ := (hfi 0 hn').1 0 _ rfl
      have hflat := addr_flat h00
      refine ⟨a.block, a.off, congrArg some hflat, ?_, fun i x hxi j u hu => ?_⟩
      · refine hlt (.cell a.block a.off) ?_
        rw [hx.2]
        refine List.mem_append_left _ (List.mem_map.mpr ⟨0, List.mem_range.mpr (by omega), by simp⟩)
      · rw [List.getElem?_map, Option.map_eq_some_iff] at hxi
        obtain ⟨i', hi', rfl⟩ := hxi
        obtain ⟨hi2, e2⟩ := List.getElem?_eq_some_iff.mp hi'
        rw [List.getElem_range] at e2
        subst e2
        have := (hfi i (by simpa using hi2)).1 j u hu
        have ea : a.add (i * 12 + j) = ⟨a.block, a.off + (i * 12 + j), none⟩ := by
          have := add_flat a.block a.off (i * 12 + j)
          rwa [← hflat] at this
        rw [show a.off + i * 12 + j = a.off + (i * 12 + j) from by omega, ← ea]
        exact this
    · obtain ⟨i, hi', rfl⟩ := List.mem_map.mp hxm
      exact (hfi i (List.mem_range.mp hi')).2.1
    · obtain ⟨i, hi', rfl⟩ := List.mem_map.mp hxm
      exact (hfi i (List.mem_range.mp hi')).2.2
end
end Go.Proofs.Ytiliggleplpjbaa
