/- CRC-32C as plain functions. -/
import Derived.Test.YtgdbbjijneidaaaBits
namespace Go.Proofs.Ytgdbbjijneidaaa

def rep {α : Type} (f : α → α) : Nat → α → α
  | 0, x => x
  | n + 1, x => f (rep f n x)
/-- one bit's step -/
def sft (r : BitVec 32) : BitVec 32 := (r >>> 1) ^^^ (2197175160#32 &&& -(r &&& 1#32))
/-- one byte's step -/
def upd (r : BitVec 32) (x : UInt8) : BitVec 32 := rep sft 8 (r ^^^ zx32 x)
def reg (r : BitVec 32) (l : List UInt8) : BitVec 32 := l.foldl upd r
def crc (l : List UInt8) : BitVec 32 := ~~~ (reg 4294967295#32 l)
theorem reg_snoc (r : BitVec 32) (l : List UInt8) (x : UInt8) : reg r (l ++ [x]) = upd (reg r l) x := by simp [reg]
theorem reg_append (r : BitVec 32) (l m : List UInt8) : reg r (l ++ m) = reg (reg r l) m := by simp [reg]
theorem take_snoc (l : List UInt8) (k : Nat) (h : k < l.length) : l.take (k + 1) = l.take k ++ [l[k]] := by
  rw [List.take_succ_eq_append_getElem h]
theorem reg_take (r : BitVec 32) (l : List UInt8) (k : Nat) (h : k < l.length) : reg r (l.take (k + 1)) = upd (reg r (l.take k)) l[k] := by
  rw [take_snoc l k h, reg_snoc]
end Go.Proofs.Ytgdbbjijneidaaa
