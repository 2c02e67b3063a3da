/- rs: any eight shards bring a group back. -/
import Derived.Test.YtdgkcgiknfjpjaaRsB
namespace Go.Proofs.Ytdgkcgiknfjpjaa
set_option linter.unusedVariables false
set_option linter.unusedSimpArgs false
open Go Go.RowKit
def lackP (lk : Nat) (i : Nat) : Bool := bits BinOp.and .u16 ((lk : Int) / 2 ^ i) 1 == 1
theorem tabN_snoc (k m : Nat) (M : Mx) (P : Nat → Bool) : tabN k m M P ++ [if P k = true then [] else row m (M k)] = tabN (k + 1) m M P := by
  unfold tabN; rw [List.range_succ, List.map_append]; rfl
theorem cnt_succ (P : Nat → Bool) (k : Nat) : ((List.range (k + 1)).filter P).length = ((List.range k).filter P).length + (if P k = true then 1 else 0) := by
  rw [List.range_succ, List.filter_append, List.length_append]
  congr 1
  by_cases h : P k = true
  · rw [List.filter_cons_of_pos h, if_pos h]; rfl
  · rw [List.filter_cons_of_neg h, if_neg h]; rfl
end Go.Proofs.Ytdgkcgiknfjpjaa
