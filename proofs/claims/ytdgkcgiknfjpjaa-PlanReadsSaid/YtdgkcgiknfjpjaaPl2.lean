/- plan: the reference's Good. -/
import Derived.Test.YtdgkcgiknfjpjaaPlA
namespace Go.Proofs.Ytdgkcgiknfjpjaa
set_option linter.unusedVariables false
set_option linter.unusedSimpArgs false
open Go Go.RowKit
end Go.Proofs.Ytdgkcgiknfjpjaa
