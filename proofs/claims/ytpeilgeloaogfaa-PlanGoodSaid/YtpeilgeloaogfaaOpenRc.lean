/- An argument that is a record, by value. -/
import Derived.Test.YtpeilgeloaogfaaOpen
import Derived.Test.YtpeilgeloaogfaaRc
import Derived.Deep.Slices
import Derived.Deep.Fields
import Derived.ChangeSame
import Derived.ChangeSlices
namespace Go.Proofs.Ytpeilgeloaogfaa
set_option linter.unusedVariables false
open Go Go.RowKit Go.ChangeShapes Go.WideShapes Go.ChangeAt Go.Deep
section
variable {H : Type} {enc : TypeId × Value → H} {P : Program} {W : World} {base : Nat} {sp : Nat → Bool} {held : Bool}
theorem bs_of_bytes (s : ByteArray) : bs s.data.toList = s := by unfold bs; simp
theorem open_rec {t ti ts tb te : TypeId} {fs : Array Field} (ht : P.underlying t = some (.struct fs)) (hone : oneCellFields P fs = true) (hC : P.cellsOf t = 10)
    (hty : fs.toList.map (·.type) = [ti, ti, ts, ti, ti, ti, ti, ti, ts, tb]) (hi : P.underlying ti = some (.int .i64)) (hs : P.underlying ts = some .string) (hb : P.underlying tb = some (.slice te)) (he : P.underlying te = some (.int .u8)) (hc1 : P.cellsOf te = 1)
    {r : Reach} {b0 : Nat} {v : Value} {d : DataW H} {ps : List MemPlace}
    (hval : Value.okWide P W r b0 t v) (h0 : DataW.Trod enc P W base sp held t v d ps) (hlt : ∀ x ∈ ps, x.block < W.heap.size) :
    ∃ (q : Rc) (A : Option Addr) (c : Nat), v = q.agg A c ∧ q.Ok ∧ q.data.length ≤ c ∧ c ≤ maxLen ∧ Rd W W.heap.size A q.data := by
  obtain ⟨cs, rfl, hsz⟩ := okWide_struct ht hval
  obtain ⟨fuel, hf⟩ := h0
  obtain ⟨xs, n, _, hx, _, hlen, hg⟩ := DataW.trod_struct ht hf
  simp only [Prod.mk.injEq] at hx
  rw [hC] at hsz
  have h10 : fs.size = 10 := by
    have := congrArg List.length hty
    simpa using this
  have h1 : ∀ j (hj : j < 10) (T : TypeId), [ti, ti, ts, ti, ti, ti, ti, ti, ts, tb][j]? = some T → ∃ y, xs[j]? = some y ∧ DataW.trod enc P W base sp held n T [cs[j]] = some y := fun j hj T hT => by
    have hfj : fs[j]? = some (fs[j]'(by omega)) := Array.getElem?_eq_getElem (by omega)
    obtain ⟨ho, hk⟩ := hone_of hone j _ hfj
    have h2 := hg j _ hfj
    rw [ho, hk] at h2
    have hty' : (fs[j]'(by omega)).type = T := by
      rw [← hty] at hT
      rw [List.getElem?_map] at hT
      have e : fs.toList[j]? = some (fs[j]'(by omega)) := by rw [Array.getElem?_toList]; exact hfj
      rw [e] at hT
      injection hT
    have hone' : (((Value.agg cs).cells.toList).drop j).take 1 = [cs[j]] := by
      have hl : cs.toList.length = 10 := by simp [hsz]
      simp only [Value.cells]
      rw [List.drop_eq_getElem_cons (by omega)]
      simp
    rw [hone', hty'] at h2
    have hys : xs[j]? = some (xs[j]'(by omega)) := List.getElem?_eq_getElem (by omega)
    exact ⟨_, hys, h2.trans hys⟩
  have hint : ∀ j (hj : j < 10), [ti, ti, ts, ti, ti, ti, ti, ti, ts, tb][j]? = some ti → ∃ z : Int, cs[j] = .int .i64 z ∧ R64 z := fun j hj hT => by
    obtain ⟨y, -, h2⟩ := h1 j hj ti hT
    obtain ⟨z, hz, -, hw⟩ := DataW.trod_int hi h2
    injection hz with hz _
    exact ⟨z, hz, i64_of hw⟩
  have hstr : ∀ j (hj : j < 10), [ti, ti, ts, ti, ti, ti, ti, ti, ts, tb][j]? = some ts → ∃ l : List UInt8, cs[j] = .string (bs l) ∧ l.length ≤ maxLen := fun j hj hT => by
    obtain ⟨y, -, h2⟩ := h1 j hj ts hT
    obtain ⟨s, hz, -, hw⟩ := DataW.trod_string hs h2
    injection hz with hz _
    exact ⟨s.data.toList, by rw [bs_of_bytes]; exact hz, by rw [Array.length_toList]; exact hw⟩
  obtain ⟨z0, e0, i0⟩ := hint 0 (by decide) rfl
  obtain ⟨z1, e1, i1⟩ := hint 1 (by decide) rfl
  obtain ⟨l2, e2, i2⟩ := hstr 2 (by decide) rfl
  obtain ⟨z3, e3, i3⟩ := hint 3 (by decide) rfl
  obtain ⟨z4, e4, i4⟩ := hint 4 (by decide) rfl
  obtain ⟨z5, e5, i5⟩ := hint 5 (by decide) rfl
  obtain ⟨z6, e6, i6⟩ := hint 6 (by decide) rfl
  obtain ⟨z7, e7, i7⟩ := hint 7 (by decide) rfl
  obtain ⟨l8, e8, i8⟩ := hstr 8 (by decide) rfl
  obtain ⟨y9, hy9, t9⟩ := h1 9 (by decide) tb rfl
  have hsub : ∀ x ∈ y9.2, x ∈ ps := fun x hxm => by
    rw [hx.2]
    exact List.mem_flatMap.2 ⟨y9, List.mem_of_getElem? hy9, hxm⟩
  have fin : ∀ (A : Option Addr) (c : Nat) (l : List UInt8), cs[9] = .slice A l.length c → (Value.agg cs) = (Rc.mk z0 z1 l2 z3 z4 z5 z6 z7 l8 l).agg A c := fun A c l e9 => by
    unfold Rc.agg
    congr 1
    refine Array.ext (by simpa using hsz) fun j hj hj' => ?_
    have hj6 : j < 10 := by simpa using hj'
    match j, hj6 with
    | 0, _ => simpa using e0
    | 1, _ => simpa using e1
    | 2, _ => simpa using e2
    | 3, _ => simpa using e3
    | 4, _ => simpa using e4
    | 5, _ => simpa using e5
    | 6, _ => simpa using e6
    | 7, _ => simpa using e7
    | 8, _ => simpa using e8
    | 9, _ => simpa using e9
  rcases open_ints hb he hc1 t9 with ⟨hcs, hx9⟩ | ⟨a, len, cap, zs, hcs, _, hl, hm, hz, hx9, hcell, hwz⟩
  · injection hcs with hcs _
    exact ⟨_, none, 0, fin none 0 [] hcs, ⟨i0, i1, i3, i4, i5, i6, i7, i2, i8⟩, Nat.zero_le _, Nat.zero_le _, Rd.nil_⟩
  · injection hcs with hcs _
    have hlz : len ≤ zs.length := by rw [hz]; split <;> omega
    have hll : ((zs.take len).map (fun z => UInt8.ofNat z.toNat)).length = len := by rw [List.length_map, List.length_take]; omega
    refine ⟨_, some a, cap, fin (some a) cap ((zs.take len).map (fun z => UInt8.ofNat z.toNat)) (by rw [hll]; exact hcs), ⟨i0, i1, i3, i4, i5, i6, i7, i2, i8⟩, by simp only [hll]; exact hl, hm, ?_⟩
    refine ⟨by simp, fun hn => ⟨a, rfl, ?_, fun j u hj => ?_⟩⟩
    · refine hlt (.cell a.block a.off) (hsub _ ?_)
      rw [hx9]
      simp only [hll] at hn
      exact List.mem_map.mpr ⟨0, List.mem_range.mpr (by omega), by simp⟩
    · rw [List.getElem?_map, List.getElem?_map] at hj
      cases hq : (zs.take len)[j]? with
      | none => rw [hq] at hj; cases hj
      | some z =>
        rw [hq] at hj
        simp only [Option.map_some, Option.some.injEq] at hj
        have hjl : j < len := by
          have := (List.getElem?_eq_some_iff.1 hq).1
          rw [List.length_take] at this
          omega
        have hzj : zs[j]? = some z := by rw [List.getElem?_take, if_pos hjl] at hq; exact hq
        obtain ⟨x, hxz⟩ := u8_of (hwz z (List.mem_of_getElem? hzj))
        have hc := hcell j (by omega)
        rw [List.getD_eq_getElem?_getD, hzj] at hc
        rw [hc, ← hj, hxz]
        unfold vb U
        simp
end
end Go.Proofs.Ytpeilgeloaogfaa
