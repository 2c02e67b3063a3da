/- slices.Clone of bytes. -/
import Derived.Test.YtiliggleplpjbaaBytes
import Derived.WalkSpells
import Derived.Deep.DeepMust
namespace Go.Proofs.Ytiliggleplpjbaa
set_option linter.unusedVariables false
open Go Go.RowKit

end Go.Proofs.Ytiliggleplpjbaa
