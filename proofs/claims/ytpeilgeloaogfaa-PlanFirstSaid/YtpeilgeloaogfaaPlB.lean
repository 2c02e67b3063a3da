/- plan: small facts, under names of their own. -/
import Derived.LoopTactic
import Derived.WalkSpells
import Derived.Deep.DeepMust
import Derived.Deep.QuietTactic
import Derived.BigQuiet
import Derived.Test.YtpeilgeloaogfaaSpanT
import Derived.IntWalk
namespace Go.Proofs.Ytpeilgeloaogfaa
set_option linter.unusedVariables false
open Go Go.RowKit
theorem i64_wrap_idP {m : Int} (h1 : -9223372036854775808 ≤ m) (h2 : m ≤ 9223372036854775807) : IntKind.i64.wrap m = m := IntWalk.i64_in m ⟨h1, h2⟩
theorem Rd.grP {w w' : World} {A : Option Addr} {l : List UInt8} (hr : Gr w w') (h : Hid (Rd w w.heap.size A l)) : Hid (Rd w' w'.heap.size A l) := Lib.hid (h.out.up hr)
theorem Gr.onP {a w w' : World} (hr : Gr w w') (h : Hid (Gr a w)) : Hid (Gr a w') := Lib.hid (h.out.trans hr)
end Go.Proofs.Ytpeilgeloaogfaa
