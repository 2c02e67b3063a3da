/- Regions that draw their order, whose operations read what is old and whose callees make new memory alone: one walk of the lexical order. -/
import Derived.Test.YtiliggleplpjbaaMem
import Derived.Deep.QuietTactic
import Derived.BigQuiet
import Derived.Deep.RegionWith
namespace Go.Proofs.Ytiliggleplpjbaa
open Go Go.RowKit

/-- a world that has grown above block B -/
structure Sub (B : Nat) (w : World) where
  val : World
  ok : Below B w val
instance (B : Nat) (w : World) : Nonempty (Sub B w) := ⟨⟨w, Below.refl B w⟩⟩
abbrev Cls (B : Nat) (w : World) : World → Prop := fun w' => ∃ x : Sub B w, w' = x.1
theorem cls_drew (B : Nat) (w : World) : Cls B w { w with drawn := w.drawn + 1 } := ⟨⟨w.drew, (Below.refl B w).drew⟩, rfl⟩
@[go_sem] theorem sub_cell {B : Nat} {w : World} (x : Sub B w) (a : Addr) (h : a.block < B) : x.1.cell? a = w.cell? a := x.2.cell h
theorem Sub.trans {B : Nat} {w : World} (x : Sub B w) {w' : World} (h : Below x.1.heap.size x.1 w') (hB : B ≤ w.heap.size) : Below B w w' :=
  x.2.trans (h.mono (Nat.le_trans hB x.2.size))
theorem cls_of_below {P : Program} {f : FuncId} {args : Array Value} {B : Nat} {w : World} (hB : B ≤ w.heap.size) {x : Sub B w} {v : Value}
    (h : Calls P f args x.1 fun e w' => e = .returned v ∧ Below x.1.heap.size x.1 w') : Calls P f args x.1 fun e w'' => e = .returned v ∧ ∃ y : Sub B w, w'' = y.1 :=
  h.mono fun _ w'' ⟨he, hb⟩ => ⟨he, ⟨w'', x.trans hb hB⟩, rfl⟩
theorem cls_of_same {P : Program} {f : FuncId} {args : Array Value} {B : Nat} {w : World} {x : Sub B w} {v : Value}
    (h : Calls P f args x.1 fun e w' => e = .returned v ∧ x.1 = w') : Calls P f args x.1 fun e w'' => e = .returned v ∧ ∃ y : Sub B w, w'' = y.1 :=
  h.mono fun _ _ ⟨he, hb⟩ => ⟨he, x, hb.symm⟩
theorem Rd.sub {B : Nat} {w : World} (x : Sub B w) {A : Option Addr} {l : List UInt8} (h : Rd w B A l) : Rd x.1 x.1.heap.size A l ∨ w.heap.size < B := by
  by_cases hB : B ≤ w.heap.size
  · exact .inl ((h.below x.2).more (Nat.le_trans hB x.2.size))
  · exact .inr (by omega)
theorem Rd.sub' {B : Nat} {w : World} (x : Sub B w) {A : Option Addr} {l : List UInt8} (h : Rd w B A l) (hB : B ≤ w.heap.size) : Rd x.1 x.1.heap.size A l :=
  (h.below x.2).more (Nat.le_trans hB x.2.size)
theorem Rd.up {w w' : World} {A : Option Addr} {l : List UInt8} (h : Rd w w.heap.size A l) (hb : Below w.heap.size w w') : Rd w' w'.heap.size A l :=
  (h.below hb).more hb.size
theorem wp_region_cls {P : Program} {id : Nat} {Q : Exit → Act → World → Prop} {a : Act} {w : World} {l : List Oper} (B : Nat) (hm : P.follows .mixedOrders = true) (hB : Region.lexB .any l.toArray = true)
    (h : wpQuiet P l.toArray (Cls B w) (fun a' => ∀ w', Cls B w w' → Q .normal a' w') l a) : (Code.region id l.toArray true).wp P Q a w :=
  wp_region_quiet (C := Cls B w) hm hB (cls_drew B w) (by simpa using h)
end Go.Proofs.Ytiliggleplpjbaa
