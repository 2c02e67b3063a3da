/- model: ModelNone. -/
import Derived.Test.YtipdjchgdhfciaaMd4
namespace Go.Proofs.Ytipdjchgdhfciaa
set_option linter.unusedVariables false
set_option linter.unusedSimpArgs false
open Go Go.RowKit Go.Maps Go.Sort
set_option maxHeartbeats 4000000 in
set_option maxRecDepth 10000 in
theorem modelNone_any (s : ByteArray) (A : Option Addr) (n c : Nat) (w : World) :
    Calls Try.prog 7 #[.string s, .slice A n c] w fun e w' => e = .returned (.bool true) ∧ GrM w w' := by
  have hget := Lib.hid (get22_nil w (.string s))
  have haw := Lib.hid (awake22_any w)
  have hput := Lib.hid (fun w1 => put22_nil w1 (.string s) (.slice A n c))
  have hdel := Lib.hid (fun w1 => del22_nil w1 (.string s))
  have hkeys := Lib.hid keys22_nil
  have htext : Hid (∀ w1, Calls Try.prog 16 #[.pointer none] w1 fun e w' => e = .returned (.string ⟨#[]⟩) ∧ w' = w1) := Lib.hid text22_nil
  go_enter Try.func7, Try.ntmps7
  go_upto_region 3 with (go_at_call 18; go_must (refine hget.out.mono ?_); rintro e w' ⟨rfl, hee⟩; rw [hee]; clear hee)
  go_wp2_with (first
    | (go_at_call 20; go_must (refine haw.out.mono ?_); rintro e w1 ⟨rfl, hg1⟩; replace hg1 := Lib.hid hg1)
    | (go_at_call 11; go_must (refine (hput.out _).mono ?_); rintro e w' ⟨rfl, hee⟩; rw [hee]; clear hee)
    | (go_at_call 9; go_must (refine (hdel.out _).mono ?_); rintro e w' ⟨rfl, hee⟩; rw [hee]; clear hee)
    | (go_at_call 14; go_must (refine (hkeys.out _).mono ?_); rintro e w' ⟨rfl, hee⟩; rw [hee]; clear hee)
    | (go_at_call 16; go_must (refine (htext.out _).mono ?_); rintro e w' ⟨rfl, hee⟩; rw [hee]; clear hee))
  go_ret
  exact ⟨rfl, hg1.out⟩
end Go.Proofs.Ytipdjchgdhfciaa
