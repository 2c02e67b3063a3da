/- dig: the rounds, purely. -/
import Derived.Test.YtpeilgeloaogfaaDig5
namespace Go.Proofs.Ytpeilgeloaogfaa
set_option linter.unusedVariables false
set_option linter.unusedSimpArgs false
open Go Go.RowKit
/-- choice and majority -/
def ch3w (e f g : BitVec 32) : BitVec 32 := e &&& f ^^^ ~~~e &&& g
def mj3w (a b c : BitVec 32) : BitVec 32 := a &&& b ^^^ a &&& c ^^^ b &&& c
def one1 (st : Nat → BitVec 32) (k w : BitVec 32) : BitVec 32 := st 7 + (tn 6 (st 4) ^^^ tn 11 (st 4) ^^^ tn 25 (st 4)) + ch3w (st 4) (st 5) (st 6) + k + w
def two2 (st : Nat → BitVec 32) : BitVec 32 := tn 2 (st 0) ^^^ tn 13 (st 0) ^^^ tn 22 (st 0)
/-- the state after one round -/
def nx (st : Nat → BitVec 32) (k w : BitVec 32) (i : Nat) : BitVec 32 :=
  if i = 0 then one1 st k w + (two2 st + mj3w (st 0) (st 1) (st 2)) else if i = 4 then st 3 + one1 st k w else st (i - 1)
def rnd (s f : Nat → BitVec 32) : Nat → Nat → BitVec 32
  | 0 => s
  | n + 1 => nx (rnd s f n) (kF n) (f n)
def blkS (s f : Nat → BitVec 32) (i : Nat) : BitVec 32 := rnd s f 64 i + s i
/-- .. the first i of them added -/
def blkTo (s f : Nat → BitVec 32) (i k : Nat) : BitVec 32 := if k < i then blkS s f k else rnd s f 64 k
theorem blkTo_zero (s f : Nat → BitVec 32) : blkTo s f 0 = rnd s f 64 := by funext k; simp [blkTo]
theorem blkTo_at (s f : Nat → BitVec 32) (i : Nat) : blkTo s f i i = rnd s f 64 i := by simp [blkTo]
theorem blkTo_succ (s f : Nat → BitVec 32) (i : Nat) : blkTo s f (i + 1) = fun k => if k = i then rnd s f 64 i + s i else blkTo s f i k := by
  funext k
  unfold blkTo
  by_cases h : k = i
  · subst h; rw [if_pos (by omega), if_pos rfl]; rfl
  · rw [if_neg h]
    by_cases h' : k < i
    · rw [if_pos h', if_pos (by omega)]
    · rw [if_neg h', if_neg (by omega)]
theorem nx_cells (st : Nat → BitVec 32) (k w : BitVec 32) : wcells 8 (nx st k w) = [.int .u32 (W (one1 st k w + (two2 st + mj3w (st 0) (st 1) (st 2)))), .int .u32 (W (st 0)), .int .u32 (W (st 1)), .int .u32 (W (st 2)), .int .u32 (W (st 3 + one1 st k w)), .int .u32 (W (st 4)), .int .u32 (W (st 5)), .int .u32 (W (st 6))] := rfl
theorem wcells8 (f : Nat → BitVec 32) : wcells 8 f = [.int .u32 (W (f 0)), .int .u32 (W (f 1)), .int .u32 (W (f 2)), .int .u32 (W (f 3)), .int .u32 (W (f 4)), .int .u32 (W (f 5)), .int .u32 (W (f 6)), .int .u32 (W (f 7))] := rfl
/-- what is at first -/
def h0List : List (BitVec 32) := [0x6a09e667#32, 0xbb67ae85#32, 0x3c6ef372#32, 0xa54ff53a#32, 0x510e527f#32, 0x9b05688c#32, 0x1f83d9ab#32, 0x5be0cd19#32]
def h0F (i : Nat) : BitVec 32 := h0List.getD i 0
/-- the bytes of block x -/
def blkB (ml : List UInt8) (x j : Nat) : UInt8 := ml.getD (x * 64 + j) 0
/-- the state after x blocks -/
def stB (ml : List UInt8) : Nat → Nat → BitVec 32
  | 0 => h0F
  | x + 1 => blkS (stB ml x) (wd (blkB ml x))
/-- the digest's bytes -/
def dgB (st : Nat → BitVec 32) (j : Nat) : UInt8 := lo8 (st (j / 4) >>> (24 - 8 * (j % 4)))
def dg (l : List UInt8) : List UInt8 := row 32 (dgB (stB (msg l) (allN l.length / 64)))
theorem dg_length (l : List UInt8) : (dg l).length = 32 := row_length _ _
end Go.Proofs.Ytpeilgeloaogfaa
