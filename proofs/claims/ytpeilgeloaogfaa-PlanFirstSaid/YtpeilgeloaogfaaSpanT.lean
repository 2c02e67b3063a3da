/- Facts for spans: bytes and tables. -/
import Derived.Test.YtpeilgeloaogfaaSpan
import Derived.Test.YtpeilgeloaogfaaAt
namespace Go.Proofs.Ytpeilgeloaogfaa
set_option linter.unusedVariables false
open Go Go.RowKit
def Gr (w w' : World) : Prop := Below w.heap.size w w'
theorem Gr.trans {x y z : World} (h1 : Gr x y) (h2 : Gr y z) : Gr x z := Below.trans h1 (Below.mono h2 (Below.size h1))
theorem Gr.road : Road Gr := ⟨fun x => Below.refl _ x, fun h1 h2 => h1.trans h2⟩
theorem Pd.carry {w w' : World} {Φ : Pd Gr} {v : Value} (hr : Gr w w') (h : Hid (Φ.p v w)) : Hid (Φ.p v w') := Lib.hid (Φ.st hr h.out)
theorem OpOK.mk_ {P : Program} {ops : Array Oper} {R : World → World → Prop} {Φ : Nat → Pd R} {i : Nat} {a : Act} {w : World} {o : Oper} (ho : ops[i]? = some o) (hw : Region.wanted o (yielded ops a.tmps) = true)
    (h : ∀ K : Act → World → Prop, (∀ v w', R w w' → (Φ i).p v w' → K (a.put o.dst v) w') → Oper.wp P o a w K (fun _ _ _ => False)) : OpOK P ops Φ i a w :=
  ⟨o, ho, .inl ⟨hw, h _ (fun v w' h1 h2 => ⟨v, rfl, h1, h2⟩)⟩⟩
def topP : Pd Gr := ⟨fun _ _ => True, fun _ _ => trivial⟩
def eqP (u : Value) : Pd Gr := ⟨fun v _ => v = u, fun _ h => h⟩
/-- the world itself: what has come of w0 -/
def fromP (w0 : World) : Pd Gr := ⟨fun _ w => Below w0.heap.size w0 w, fun hr h => Gr.trans h hr⟩
def Byt (l : List UInt8) (v : Value) (w : World) : Prop := ∃ A c, v = .slice A l.length c ∧ l.length ≤ c ∧ c ≤ maxLen ∧ Rd w w.heap.size A l
def Tbl (L : List (List UInt8)) (v : Value) (w : World) : Prop := ∃ A c, v = .slice A L.length c ∧ L.length ≤ c ∧ c ≤ maxLen ∧ RT w w.heap.size A L.length L
def rdP (l : List UInt8) : Pd Gr := ⟨Byt l, fun hr ⟨A, c, e, h1, h2, h3⟩ => ⟨A, c, e, h1, h2, h3.up hr⟩⟩
def tbP (L : List (List UInt8)) : Pd Gr := ⟨Tbl L, fun hr ⟨A, c, e, h1, h2, h3⟩ => ⟨A, c, e, h1, h2, h3.up hr⟩⟩
/-- a table and a bool -/
def tupP (L : List (List UInt8)) (b : Bool) : Pd Gr := ⟨fun v w => ∃ u, v = .tuple #[u, .bool b] ∧ Tbl L u w, fun hr ⟨u, e, h⟩ => ⟨u, e, (tbP L).st hr h⟩⟩
theorem Byt.lit (w : World) (cs : Array Value) (l : List UInt8) (h : cs.toList = l.map vb) (hl : l.length ≤ 1000000) : Byt l (.slice (some ⟨w.heap.size, 0, none⟩) l.length l.length) (w.alloc (.cells cs 5)) :=
  ⟨_, _, rfl, Nat.le_refl _, by simp only [maxLen]; omega, Rd.lit w cs _ l h _ (by simp)⟩
theorem Tbl.lit (w : World) (vs : List Value) (L : List (List UInt8)) (hlen : vs.length = L.length) (hl : L.length ≤ 1000000) (h : ∀ (i : Nat) (v : Value) (l : List UInt8), vs[i]? = some v → L[i]? = some l → Byt l v w) :
    Tbl L (.slice (some ⟨w.heap.size, 0, none⟩) L.length L.length) (w.alloc (.cells vs.toArray 29)) := by
  refine ⟨_, _, rfl, Nat.le_refl _, by simp only [maxLen]; omega, rfl, fun hn => ⟨w.heap.size, 0, rfl, by simp, fun i l hl => ?_⟩⟩
  have hi : i < vs.length := by rw [hlen]; exact (List.getElem?_eq_some_iff.mp hl).1
  obtain ⟨A, c, e, h1, h2, h3⟩ := h i vs[i] l (List.getElem?_eq_getElem hi) hl
  refine ⟨A, c, ?_, h1, h2, (h3.up ((Below.refl _ w).alloc (Nat.le_refl _) _))⟩
  rw [← e]
  have hnew := World.news_of_block (heap_alloc_new w (.cells vs.toArray 29))
  rw [Nat.zero_add]
  have h9 := hnew i vs[i] (by simp)
  rw [show ((⟨w.heap.size, 0, none⟩ : Addr).add i) = ⟨w.heap.size, i, none⟩ from by unfold Addr.add; split <;> simp_all] at h9
  exact h9
end Go.Proofs.Ytpeilgeloaogfaa
