/- The law PlanWrong, the digest as it comes in. -/
import Derived.Test.YtdgkcgiknfjpjaaWr1
namespace Go.Proofs.Ytdgkcgiknfjpjaa
open Go Go.RowKit
theorem planWrong_str (A : Option Addr) (n c : Nat) (l : List UInt8) (hn : l.length = n) (hnc : n ≤ c) (hcm : c ≤ maxLen) (z : Int) (hz : R64 z) (s : ByteArray) (w : World) (hr : Rd w w.heap.size A l) :
    Calls Try.prog 11 #[.slice A n c, .int .i64 z, .string s] w fun e w' => e = .returned (.bool true) ∧ Gr w w' := by
  have h := planWrong_any A n c l hn hnc hcm z hz s.data.toList w hr
  rw [bs_backR] at h
  exact h
end Go.Proofs.Ytdgkcgiknfjpjaa
