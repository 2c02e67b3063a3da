/- scan: compare: which of two copies is the better. -/
import Derived.Test.YtiliggleplpjbaaSc12
import Derived.Lib.Bytealg
import Derived.Lib.Small
import Derived.Lib.Walk
namespace Go.Proofs.Ytiliggleplpjbaa
set_option linter.unusedVariables false
set_option linter.unusedSimpArgs false
open Go Go.RowKit Go.Maps Go.Proofs
theorem isNaN_any (x : Int) (w : World) : Calls Try.prog 58 #[.int .i64 x] w fun e w' => e = .returned (.bool false) ∧ w' = w := by
  go_enter Try.func58, Try.ntmps58
  go_wp2
  go_ret
  exact ⟨by first | rfl | simp, rfl⟩
def cmpI (x y : Int) : Int := if x < y then -1 else if y < x then 1 else 0
theorem cmp_any (x y : Int) (w : World) : Calls Try.prog 45 #[.int .i64 x, .int .i64 y] w fun e w' => e = .returned (.int .i64 (cmpI x y)) ∧ w' = w := by
  have n1 := Lib.hid (isNaN_any x w)
  have n2 := Lib.hid (isNaN_any y w)
  unfold cmpI
  by_cases h1 : x < y
  · rw [if_pos h1]
    go_enter Try.func45, Try.ntmps45
    go_wp2_with (go_at_call 58; first
      | (refine n1.out.mono ?_; clear n1; rintro e w' ⟨rfl, hww⟩; rw [hww]; clear hww w')
      | (refine n2.out.mono ?_; clear n2; rintro e w' ⟨rfl, hww⟩; rw [hww]; clear hww w'))
    go_ret
    exact ⟨rfl, rfl⟩
  · rw [if_neg h1]
    by_cases h2 : y < x
    · rw [if_pos h2]
      go_enter Try.func45, Try.ntmps45
      go_wp2_with (go_at_call 58; first
        | (refine n1.out.mono ?_; clear n1; rintro e w' ⟨rfl, hww⟩; rw [hww]; clear hww w')
        | (refine n2.out.mono ?_; clear n2; rintro e w' ⟨rfl, hww⟩; rw [hww]; clear hww w'))
      go_ret
      exact ⟨rfl, rfl⟩
    · rw [if_neg h2]
      go_enter Try.func45, Try.ntmps45
      go_wp2_with (go_at_call 58; first
        | (refine n1.out.mono ?_; clear n1; rintro e w' ⟨rfl, hww⟩; rw [hww]; clear hww w')
        | (refine n2.out.mono ?_; clear n2; rintro e w' ⟨rfl, hww⟩; rw [hww]; clear hww w'))
      go_ret
      exact ⟨rfl, rfl⟩
def cmpB (a b : By) : Int := _root_.Go.Lib.compareBytes a b
theorem cmpB_iff : ∀ (a b : By), (cmpB a b < 0 ↔ a < b) ∧ (cmpB a b = 0 ↔ a = b)
  | [], [] => by unfold cmpB _root_.Go.Lib.compareBytes; simp
  | [], _ :: _ => by unfold cmpB _root_.Go.Lib.compareBytes; simp
  | _ :: _, [] => by unfold cmpB _root_.Go.Lib.compareBytes; simp
  | a :: la, b :: lb => by
    have ih := cmpB_iff la lb
    unfold cmpB at ih ⊢
    unfold _root_.Go.Lib.compareBytes
    rw [List.cons_lt_cons_iff]
    by_cases h1 : a < b
    · rw [if_pos h1]
      refine ⟨by simp [h1], ?_⟩
      constructor
      · intro h; cases h
      · intro h; injection h with h _; subst h; exact absurd h1 (by simp)
    · rw [if_neg h1]
      by_cases h2 : b < a
      · rw [if_pos h2]
        have hne : a ≠ b := fun e => by subst e; exact absurd h2 (by simp)
        refine ⟨by simp [h1, hne], ?_⟩
        constructor
        · intro h; cases h
        · intro h; injection h with h _; exact absurd h hne
      · rw [if_neg h2]
        have he : a = b := UInt8.le_antisymm (UInt8.not_lt.mp h2) (UInt8.not_lt.mp h1)
        subst he
        refine ⟨by rw [ih.1]; simp, by rw [ih.2]; simp⟩
set_option maxHeartbeats 1000000 in
set_option maxRecDepth 100000 in
theorem cmpString_any (a b : By) (w : World) : Calls Try.prog 49 #[.string (bs a), .string (bs b)] w fun e w' => e = .returned (.int .i64 (cmpB a b)) ∧ w' = w := by
  have hr := _root_.Go.Lib.run_compareString (P := Try.prog) (bs a) (bs b) w
  have he : cmpB a b = _root_.Go.Lib.compareBytes (bs a).data.toList (bs b).data.toList := by unfold cmpB bs; simp
  rw [he]
  go_enter Try.func49, Try.ntmps49
  go_wp2
  rw [run_callFunc_extern Try.func62 (by kernel_rfl) (by kernel_rfl) (by kernel_rfl) (e := Extern.BytealgCompare.compare) (by kernel_rfl), hr]
  simp only [Result.andThen]
  rw [Oper.upon_value]
  go_wp2
  go_ret
  exact ⟨rfl, rfl⟩
theorem strCmp_any (a b : By) (w : World) : Calls Try.prog 25 #[.string (bs a), .string (bs b)] w fun e w' => e = .returned (.int .i64 (cmpB a b)) ∧ w' = w := by
  have h := Lib.hid (cmpString_any a b w)
  go_enter Try.func25, Try.ntmps25
  go_wp2_with (go_at_call 49; go_must (refine h.out.mono ?_); rintro e w' ⟨rfl, hww⟩; rw [hww]; clear hww w')
  go_ret
  exact ⟨rfl, rfl⟩
end Go.Proofs.Ytiliggleplpjbaa
