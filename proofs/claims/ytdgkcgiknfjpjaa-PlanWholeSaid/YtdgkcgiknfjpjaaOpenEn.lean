/- An argument that is an entry, by value. -/
import Derived.Test.YtdgkcgiknfjpjaaOpen
import Derived.Test.YtdgkcgiknfjpjaaPlA
import Derived.Deep.Slices
import Derived.Deep.Fields
import Derived.ChangeSame
import Derived.ChangeSlices
namespace Go.Proofs.Ytdgkcgiknfjpjaa
set_option linter.unusedVariables false
open Go Go.RowKit Go.ChangeShapes Go.WideShapes Go.ChangeAt Go.Deep
section
variable {H : Type} {enc : TypeId × Value → H} {P : Program} {W : World} {base : Nat} {sp : Nat → Bool} {held : Bool}
theorem bs_of_bytesP (s : ByteArray) : bs s.data.toList = s := by unfold bs; simp
theorem open_entry {t ti ts tp te : TypeId} {fs : Array Field} (ht : P.underlying t = some (.struct fs)) (hone : oneCellFields P fs = true) (hC : P.cellsOf t = 5)
    (hty : fs.toList.map (·.type) = [ts, ti, ti, ts, tp]) (hi : P.underlying ti = some (.int .i64)) (hs : P.underlying ts = some .string) (hp : P.underlying tp = some (.slice te))
    {r : Reach} {b0 : Nat} {v : Value} {d : DataW H} {ps : List MemPlace}
    (hval : Value.okWide P W r b0 t v) (h0 : DataW.Trod enc P W base sp held t v d ps) (hlt : ∀ x ∈ ps, x.block < W.heap.size) :
    ∃ (e : En) (A : Option Addr) (n c : Nat), v = e.agg A n c ∧ n ≤ c ∧ c ≤ maxLen ∧ R64 e.gen ∧ R64 e.size := by
  obtain ⟨cs, rfl, hsz⟩ := okWide_struct ht hval
  obtain ⟨fuel, hf⟩ := h0
  obtain ⟨xs, n, _, hx, _, hlen, hg⟩ := DataW.trod_struct ht hf
  simp only [Prod.mk.injEq] at hx
  rw [hC] at hsz
  have h5 : fs.size = 5 := by
    have := congrArg List.length hty
    simpa using this
  have h1 : ∀ j (hj : j < 5) (T : TypeId), [ts, ti, ti, ts, tp][j]? = some T → ∃ y, xs[j]? = some y ∧ DataW.trod enc P W base sp held n T [cs[j]] = some y := fun j hj T hT => by
    have hfj : fs[j]? = some (fs[j]'(by omega)) := Array.getElem?_eq_getElem (by omega)
    obtain ⟨ho, hk⟩ := hone_of hone j _ hfj
    have h2 := hg j _ hfj
    rw [ho, hk] at h2
    have hty' : (fs[j]'(by omega)).type = T := by
      rw [← hty] at hT
      rw [List.getElem?_map] at hT
      have e : fs.toList[j]? = some (fs[j]'(by omega)) := by rw [Array.getElem?_toList]; exact hfj
      rw [e] at hT
      injection hT
    have hone' : (((Value.agg cs).cells.toList).drop j).take 1 = [cs[j]] := by
      have hl : cs.toList.length = 5 := by simp [hsz]
      simp only [Value.cells]
      rw [List.drop_eq_getElem_cons (by omega)]
      simp
    rw [hone', hty'] at h2
    have hys : xs[j]? = some (xs[j]'(by omega)) := List.getElem?_eq_getElem (by omega)
    exact ⟨_, hys, h2.trans hys⟩
  have hint : ∀ j (hj : j < 5), [ts, ti, ti, ts, tp][j]? = some ti → ∃ z : Int, cs[j] = .int .i64 z ∧ R64 z := fun j hj hT => by
    obtain ⟨y, -, h2⟩ := h1 j hj ti hT
    obtain ⟨z, hz, -, hw⟩ := DataW.trod_int hi h2
    injection hz with hz _
    exact ⟨z, hz, i64_of hw⟩
  have hstr : ∀ j (hj : j < 5), [ts, ti, ti, ts, tp][j]? = some ts → ∃ l : List UInt8, cs[j] = .string (bs l) := fun j hj hT => by
    obtain ⟨y, -, h2⟩ := h1 j hj ts hT
    obtain ⟨s, hz, -, hw⟩ := DataW.trod_string hs h2
    injection hz with hz _
    exact ⟨s.data.toList, by rw [bs_of_bytesP]; exact hz⟩
  obtain ⟨l0, e0⟩ := hstr 0 (by decide) rfl
  obtain ⟨z1, e1, i1⟩ := hint 1 (by decide) rfl
  obtain ⟨z2, e2, i2⟩ := hint 2 (by decide) rfl
  obtain ⟨l3, e3⟩ := hstr 3 (by decide) rfl
  obtain ⟨y4, hy4, t4⟩ := h1 4 (by decide) tp rfl
  have fin : ∀ (A : Option Addr) (m c : Nat), cs[4] = .slice A m c → (Value.agg cs) = (En.mk l0 z1 z2 l3).agg A m c := fun A m c e4 => by
    unfold En.agg
    congr 1
    refine Array.ext (by simpa using hsz) fun j hj hj' => ?_
    have hj6 : j < 5 := by simpa using hj'
    match j, hj6 with
    | 0, _ => simpa using e0
    | 1, _ => simpa using e1
    | 2, _ => simpa using e2
    | 3, _ => simpa using e3
    | 4, _ => simpa using e4
  rcases open_slice hp t4 with ⟨hcs, hx4⟩ | ⟨a, len, cap, m, n', D, Pl, hcs, hb, hl, hm, hmm, hx4, hi4⟩
  · injection hcs with hcs _
    exact ⟨_, none, 0, 0, fin none 0 0 hcs, Nat.le_refl _, Nat.zero_le _, i1, i2⟩
  · injection hcs with hcs _
    exact ⟨_, some a, len, cap, fin (some a) len cap hcs, hl, hm, i1, i2⟩
end
end Go.Proofs.Ytdgkcgiknfjpjaa
