/- Which slots of any entry are read first, whichever are bad, and which one more: the answers are the reference's. No condition. -/
import Derived.Test.YtpeilgeloaogfaaRows
import Derived.WalkKit
import Derived.ProofKit
import Derived.OpenShut
import Derived.JoinedCond
import Derived.Test.YtpeilgeloaogfaaOpen
import Derived.Test.YtpeilgeloaogfaaPl10
import Derived.Test.YtpeilgeloaogfaaOpenEn
import Derived.Test.YtpeilgeloaogfaaOpenBl
import Derived.Test.YtpeilgeloaogfaaPlanFirstLift
namespace Go.Proofs.Ytpeilgeloaogfaa.planFirst
open Go.ChangeShapes Go.WideShapes Go.ChangeAt Go.RowKit
open Go.ChangeMaps (open_string)
set_option linter.unusedVariables false
set_option maxRecDepth 100000 in
set_option maxHeartbeats 8000000 in
theorem proved : Rows.PlanFirstSaid := by
  refine OpenClaim.holds_of_wide 24 Try.f24 rfl rfl rfl rfl rfl rfl rfl ⟨rfl, rfl, rfl, rfl, rfl⟩ rfl rfl rfl rfl rfl ?_ Try.func24 ?_ ?_ ?_ (fun os started H enc _ => lifted os started H enc)
  · as_aux_lemma => kernel_rfl
  · as_aux_lemma => kernel_rfl
  · as_aux_lemma =>
      refine of_decide_eq_true ?_
      kernel_rfl
  · as_aux_lemma =>
      unfold Func.isWrapper; first | (rw [if_pos (by decide +kernel)]; kernel_rfl) | (rw [if_neg (by decide +kernel)]; exact ⟨rfl, rfl⟩)
end Go.Proofs.Ytpeilgeloaogfaa.planFirst
