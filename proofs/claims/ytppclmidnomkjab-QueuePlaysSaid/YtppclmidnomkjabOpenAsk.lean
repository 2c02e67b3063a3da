/- An argument that is a request: six ints, by value. -/
import Derived.Test.YtppclmidnomkjabOpen
import Derived.Test.YtppclmidnomkjabQueue
import Derived.Deep.Fields
import Derived.ChangeSame
namespace Go.Proofs.Ytppclmidnomkjab
set_option linter.unusedVariables false
open Go Go.RowKit Go.ChangeShapes Go.WideShapes Go.ChangeAt Go.Deep
section
variable {H : Type} {enc : TypeId × Value → H} {P : Program} {W : World} {base : Nat} {sp : Nat → Bool} {held : Bool}
theorem open_ask {t ti : TypeId} {fs : Array Field} (ht : P.underlying t = some (.struct fs)) (hone : oneCellFields P fs = true) (hC : P.cellsOf t = 6) (h6 : fs.size = 6)
    (hall : fs.toList.all (fun f => f.type == ti) = true) (hi : P.underlying ti = some (.int .i64)) {r : Reach} {b0 : Nat} {v : Value} {d : DataW H} {ps : List MemPlace}
    (hval : Value.okWide P W r b0 t v) (h0 : DataW.Trod enc P W base sp held t v d ps) (_hlt : ∀ x ∈ ps, x.block < W.heap.size) : ∃ q : AskR, v = q.agg ∧ q.Ok := by
  obtain ⟨cs, rfl, hsz⟩ := okWide_struct ht hval
  obtain ⟨fuel, hf⟩ := h0
  obtain ⟨xs, n, _, hx, _, hlen, hg⟩ := DataW.trod_struct ht hf
  rw [hC] at hsz
  have h1 : ∀ j (hj : j < 6), ∃ z : Int, cs[j] = .int .i64 z ∧ I64 z := fun j hj => by
    have hfj : fs[j]? = some (fs[j]'(by omega)) := Array.getElem?_eq_getElem (by omega)
    obtain ⟨ho, hk⟩ := hone_of hone j _ hfj
    have h2 := hg j _ hfj
    rw [ho, hk] at h2
    have hty : (fs[j]'(by omega)).type = ti := by
      have := List.all_eq_true.mp hall (fs[j]'(by omega)) (by simp)
      simpa using this
    have hone' : (((Value.agg cs).cells.toList).drop j).take 1 = [cs[j]] := by
      have hl : cs.toList.length = 6 := by simp [hsz]
      simp only [Value.cells]
      rw [List.drop_eq_getElem_cons (by omega)]
      simp
    rw [hone', hty] at h2
    have hys : xs[j]? = some (xs[j]'(by omega)) := List.getElem?_eq_getElem (by omega)
    obtain ⟨z, hz, -, hw⟩ := DataW.trod_int hi (h2.trans hys)
    injection hz with hz _
    exact ⟨z, hz, i64_of hw⟩
  obtain ⟨a, ha, ia⟩ := h1 0 (by decide)
  obtain ⟨b, hb, ib⟩ := h1 1 (by decide)
  obtain ⟨c, hc, ic⟩ := h1 2 (by decide)
  obtain ⟨e, he, ie⟩ := h1 3 (by decide)
  obtain ⟨f, hf', if_⟩ := h1 4 (by decide)
  obtain ⟨g, hg', ig⟩ := h1 5 (by decide)
  refine ⟨⟨a, b, c, e, f, g⟩, ?_, ia, ib, ic, ie, if_, ig⟩
  unfold AskR.agg
  congr 1
  refine Array.ext (by simpa using hsz) fun j hj hj' => ?_
  have hj6 : j < 6 := by simpa using hj'
  match j, hj6 with
  | 0, _ => simpa using ha
  | 1, _ => simpa using hb
  | 2, _ => simpa using hc
  | 3, _ => simpa using he
  | 4, _ => simpa using hf'
  | 5, _ => simpa using hg'
end
end Go.Proofs.Ytppclmidnomkjab
