/- Tables as arguments. -/
import Derived.Test.YtdgkcgiknfjpjaaOpenTabs
import Derived.Test.YtdgkcgiknfjpjaaBaseB
namespace Go.Proofs.Ytdgkcgiknfjpjaa
open Go Go.RowKit
theorem tbl_of {W : World} {A : Option Addr} {n c : Nat} {L : List (List UInt8)} (h : RT W W.heap.size A n L) (hc : n ≤ c) (hm : c ≤ maxLen) : Hid (Tbl L (.slice A n c) W) :=
  Lib.hid ⟨A, c, by rw [h.1], by rw [h.1]; exact hc, hm, by rw [h.1]; exact h⟩
end Go.Proofs.Ytdgkcgiknfjpjaa
