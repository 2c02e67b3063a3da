/- The reference's Groups. -/
import Derived.Test.YtiliggleplpjbaaSl2
namespace Go.Proofs.Ytiliggleplpjbaa
set_option linter.unusedVariables false
set_option linter.unusedSimpArgs false
open Go Go.RowKit
theorem rgroups_any (z : Int) (h0 : 0 ≤ z) (h1 : z ≤ 512) (w : World) : Calls Try.prog 38 #[.int .i64 z] w fun e w' => e = .returned (.int .i64 (groupsOf z)) ∧ w' = w := by
  have hg : Hid (groupsOf z = max 1 ((z + 127) / 128)) := Lib.hid (by unfold groupsOf; rw [if_pos (by unfold inB; simp; omega)])
  rw [hg.out]
  go_enter Try.func38, Try.ntmps38
  go_wp2_with fail
  go_loop [3] (fun n => ∃ q : Int, n = .int .i64 q ∧ 1 ≤ q ∧ q ≤ 5 ∧ (q = 1 ∨ 128 * (q - 1) < z)) (fun n => (5 - intOf n).toNat)
  case atStart => exact ⟨1, rfl, by omega, by omega, .inl rfl⟩
  case round =>
    obtain ⟨q, rfl, hq1, hq5, hq⟩ := hrel
    have hq4 : q ≤ 4 := by omega
    replace hq := Lib.hid hq
    by_cases hlt : 128 * q < z
    · have hd : decide (128 * q < z) = true := decide_eq_true hlt
      have hd5 : decide (q < 5) = true := decide_eq_true (by omega)
      go_wp2_with fail
      go_round
      case rel => exact ⟨q + 1, rfl, by omega, by omega, .inr (by omega)⟩
      case measure => simp [intOf]; omega
    · have hd : decide (128 * q < z) = false := decide_eq_false hlt
      have hres : max 1 ((z + 127) / 128) = q := by have := hq.out; omega
      replace hres := Lib.hid hres
      go_wp2_with fail
      go_ret
      exact ⟨by rw [hres.out]; rfl, rfl⟩
end Go.Proofs.Ytiliggleplpjbaa
