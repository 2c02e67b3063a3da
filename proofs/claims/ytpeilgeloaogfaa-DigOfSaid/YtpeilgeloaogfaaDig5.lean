/- dig: the schedule's numbers, purely; a word stored into an array of words. -/
import Derived.Test.YtpeilgeloaogfaaDig4
namespace Go.Proofs.Ytpeilgeloaogfaa
set_option linter.unusedVariables false
set_option linter.unusedSimpArgs false
open Go Go.RowKit
/-- four bytes, the first the highest -/
def big4 (b : Nat → UInt8) (o : Nat) : BitVec 32 := zx32 (b o) <<< 24 ||| zx32 (b (o + 1)) <<< 16 ||| zx32 (b (o + 2)) <<< 8 ||| zx32 (b (o + 3))
def lowS (x : BitVec 32) : BitVec 32 := tn 7 x ^^^ tn 18 x ^^^ x >>> 3
def lowT (x : BitVec 32) : BitVec 32 := tn 17 x ^^^ tn 19 x ^^^ x >>> 10
/-- number n of the schedule of the block b -/
def wd (b : Nat → UInt8) (n : Nat) : BitVec 32 :=
  if n < 16 then big4 b (4 * n) else wd b (n - 16) + wd b (n - 7) + lowS (wd b (n - 15)) + lowT (wd b (n - 2))
termination_by n
theorem wd_low (b : Nat → UInt8) {n : Nat} (h : n < 16) : wd b n = big4 b (4 * n) := by rw [wd, if_pos h]
theorem wd_high (b : Nat → UInt8) {n : Nat} (h : 16 ≤ n) : wd b n = wd b (n - 16) + wd b (n - 7) + lowS (wd b (n - 15)) + lowT (wd b (n - 2)) := by rw [wd, if_neg (by omega)]
/-- the first i of them, zero behind -/
def wdTo (b : Nat → UInt8) (i k : Nat) : BitVec 32 := if k < i then wd b k else 0
theorem wdTo_zero (b : Nat → UInt8) : wdTo b 0 = fun _ => 0 := by funext k; simp [wdTo]
theorem wdTo_at (b : Nat → UInt8) {i k : Nat} (h : k < i) : wdTo b i k = wd b k := by simp [wdTo, h]
theorem wdTo_succ (b : Nat → UInt8) (i : Nat) : wdTo b (i + 1) = fun k => if k = i then wd b i else wdTo b i k := by
  funext k
  unfold wdTo
  by_cases h : k = i
  · subst h; simp
  · rw [if_neg h]
    by_cases h' : k < i
    · rw [if_pos h', if_pos (by omega)]
    · rw [if_neg h', if_neg (by omega)]
/-- a word of the array -/
theorem Ar.at {w : World} {g n : Nat} {t : TypeId} {f : Nat → BitVec 32} (h : Ar w g t n f) {i : Nat} (hi : i < n) : w.cell? ⟨g, i, none⟩ = some (.int .u32 (W (f i))) := by
  have := h.range i _ (wcells_get hi f)
  rwa [Nat.zero_add] at this
/-- a word stored -/
theorem Ar.set {w : World} {g n : Nat} {t : TypeId} {f : Nat → BitVec 32} (h : Ar w g t n f) {i : Nat} (hi : i < n) (x : BitVec 32) : Ar (w.setCell ⟨g, i, none⟩ (.int .u32 (W x))) g t n (fun k => if k = i then x else f k) := by
  unfold Ar at h ⊢
  rw [blk_set h i _]
  congr 2
  refine Array.ext_getElem? (fun k => ?_)
  rw [Array.getElem?_setIfInBounds, List.getElem?_toArray, List.getElem?_toArray, List.size_toArray, wcells_length]
  by_cases hk : k < n
  · rw [wcells_get hk, wcells_get hk]
    by_cases e : i = k
    · subst e; rw [if_pos rfl, if_pos hi, if_pos rfl]
    · rw [if_neg e, if_neg (fun q => e q.symm)]
  · rw [if_neg (by omega), List.getElem?_eq_none (by rw [wcells_length]; omega), List.getElem?_eq_none (by rw [wcells_length]; omega)]
theorem Ar.other {w w' : World} {g n : Nat} {t : TypeId} {f : Nat → BitVec 32} (h : Ar w g t n f) (e : w'.heap[g]? = w.heap[g]?) : Ar w' g t n f := by
  unfold Ar at h ⊢
  rw [e, h]
theorem Ar.congr {w : World} {g n : Nat} {t : TypeId} {f f' : Nat → BitVec 32} (h : Ar w g t n f) (e : ∀ k, k < n → f k = f' k) : Ar w g t n f' := by
  unfold Ar at h ⊢
  rw [h]
  congr 3
  unfold wcells
  exact List.map_congr_left (fun k hk => by rw [e k (List.mem_range.1 hk)])
end Go.Proofs.Ytpeilgeloaogfaa
