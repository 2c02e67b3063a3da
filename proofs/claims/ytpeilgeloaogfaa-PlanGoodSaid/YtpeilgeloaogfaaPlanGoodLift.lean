/- Whether any record is any entry's shard at any slot: the answer is the reference's. No condition. -/
import Derived.Test.YtpeilgeloaogfaaRows
import Derived.WalkKit
import Derived.ProofKit
import Derived.OpenShut
import Derived.JoinedCond
import Derived.Test.YtpeilgeloaogfaaOpen
import Derived.Test.YtpeilgeloaogfaaPl8
import Derived.Test.YtpeilgeloaogfaaOpenEn
import Derived.Test.YtpeilgeloaogfaaOpenRc
namespace Go.Proofs.Ytpeilgeloaogfaa.planGood
open Go.ChangeShapes Go.WideShapes Go.ChangeAt Go.RowKit
open Go.ChangeMaps (open_string)
set_option linter.unusedVariables false
theorem own : ownKnob Try.prog.godebug = none := by kernel_rfl
theorem laidOut : laidOutB Try.prog = true := by kernel_rfl
set_option maxRecDepth 100000 in
theorem contract (H : Type) (enc : TypeId × Value → H) (W : World) (base : Nat) (args : Array Value) (ds gs : List (DataW H)) (before : List MemPlace)
    (hval : ∀ (j : Nat) t v, Try.f23.params[j]? = some t → args[j]? = some v → Value.okWide Try.prog W .any base t v)
    (hW : DataW.Whole enc Try.prog Try.f23.params.toList Rows.planGoodSpec.vars false W args.toList ds gs before) :
    Calls Try.prog 23 args W fun e W' => ∃ v, e = .returned v ∧ Rows.planGoodSpec.post enc Try.prog Try.f23 false true false false W args v W' := by
  have hW' := hW
  have hlt : ∀ x ∈ before, x.block < W.heap.size := fun x hx => hW.lt x hx
  obtain ⟨p, q, hA0, hV, rfl, hfz, hnd⟩ := hW
  have hA : DataW.TrodAll enc Try.prog W 0 (fun _ => true) true Try.f23.params.toList args.toList ds p := hA0
  rw [Try.params23] at hA hval
  obtain ⟨v0, vs0, d0, ds0, p0, q0, hargs, rfl, rfl, h0, r0⟩ := trodAll_cons hA
  obtain ⟨v1, vs1, d1, ds1, p1, q1, rfl, rfl, rfl, h1, r1⟩ := trodAll_cons r0
  obtain ⟨v2, vs2, d2, ds2, p2, q2, rfl, rfl, rfl, h2, r2⟩ := trodAll_cons r1
  obtain ⟨rfl, rfl, rfl⟩ := trodAll_nil r2
  obtain rfl : args = #[v0, v1, v2] := by cases args; simp_all
  obtain ⟨rfl, rfl⟩ := trodVars_none hV
  obtain ⟨e0, A0, n0, c0, rfl, lc0, cm0, -, -⟩ := open_entry Try.underlying79 (by kernel_rfl) (by kernel_rfl) (by rfl) Try.underlying3 Try.underlying9 Try.underlying77 (hval 0 79 v0 rfl rfl) h0 (fun x hx => hlt x (by simp [hx]))
  obtain ⟨a1, rfl, rfl, rfl, w1⟩ := open_int Try.underlying3 (hval 1 3 v1 rfl rfl) h1
  have b1 := i64_of w1
  obtain ⟨q2, A2, c2, rfl, ok2, lc2, cm2, rd2⟩ := open_rec Try.underlying69 (by kernel_rfl) (by kernel_rfl) (by rfl) Try.underlying3 Try.underlying9 Try.underlying29 Try.underlying5 (by kernel_rfl) (hval 2 69 v2 rfl rfl) h2 (fun x hx => hlt x (by simp [hx]))
  refine (planGood_any e0 A0 n0 c0 lc0 cm0 a1 q2 A2 c2 W).mono fun e W' ⟨he, hb⟩ => ?_
  subst he
  exact ⟨_, rfl, law_post laidOut (by kernel_rfl) (by kernel_rfl) Try.underlying4 rfl hW' rfl hb⟩
set_option maxRecDepth 100000 in
theorem lifted (os : Os) (started : os.Started) (H : Type) (enc : TypeId × Value → H) :
    ReturnsInHanded {} Try.checked os 23 .any (Rows.planGoodSpec.pre6 enc Try.prog Try.f23 Rows.planGoodRow.domain false) (Rows.planGoodSpec.post enc Try.prog Try.f23 false true false false) := by
  refine returnsInHanded_of_change (C := Try.checked) own started (by kernel_rfl) Try.func23
    (ChangeSpec.witness6 (enc := enc) (C := Try.checked) false ⟨#[], #[.agg #[.string .empty, .int .i64 0, .int .i64 0, .string .empty, .slice none 0 0], .int .i64 0, .agg #[.int .i64 0, .int .i64 0, .string .empty, .int .i64 0, .int .i64 0, .int .i64 0, .int .i64 0, .int .i64 0, .string .empty, .slice none 0 0]], []⟩ 8 (by kernel_rfl) (by kernel_rfl) (by kernel_rfl) (by kernel_rfl)) ?_
  intro W base args ds gs before hval hW _ _
  exact contract H enc W base args ds gs before hval hW
end Go.Proofs.Ytpeilgeloaogfaa.planGood
