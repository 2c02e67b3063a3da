/- The laws of word: WordPuts, from a string of the model's. -/
import Derived.Test.YtpenmeddbpgkmaaWordLaw3
import Derived.Test.YtpenmeddbpgkmaaBulk
namespace Go.Proofs.Ytpenmeddbpgkmaa
open Go Go.RowKit
theorem wordPuts_any (A : Option Addr) (c : Nat) (l : List UInt8) (hl : l.length ≤ 1048576) (n : Int) (hn : -9223372036854775808 ≤ n ∧ n ≤ 9223372036854775807) (s : ByteArray) (hs : s.size ≤ 1048576) (w : World) (hr : Rd w w.heap.size A l) :
    Calls Try.prog 11 #[.slice A l.length c, .int .i64 n, .string s] w fun e w' => e = .returned (.bool true) ∧ Below w.heap.size w w' := by
  obtain ⟨m, rfl, hm⟩ := bs_of s
  exact wordPuts_walk A l.length c l rfl (by omega) n hn m (by omega) w hr
end Go.Proofs.Ytpenmeddbpgkmaa
