/- The awake call and the walks of the laws of layer 1. -/
import Derived.Test.YtffoknfenncgiaaGfRef
namespace Go.Proofs.Ytffoknfenncgiaa
open Go Go.RowKit

theorem mul_at {m n : Int} {x y : UInt8} (h : U x = m) (h2 : U y = n) (w : World) :
    Calls Try.prog 11 #[.int .u8 m, .int .u8 n] w fun e w' => e = .returned (.int .u8 (U (gmul x y))) ∧ w = w' := by
  rw [← h, ← h2]; exact mul_any x y w
theorem rmul_at2 {m n : Int} {x y : UInt8} (h : U x = m) (h2 : U y = n) (w : World) :
    Calls Try.prog 12 #[.int .u8 m, .int .u8 n] w fun e w' => e = .returned (.int .u8 (U (gmul x y))) ∧ w = w' := by
  rw [← h, ← h2]; exact rmul_any x y w
theorem pow_at {m : Int} {x : UInt8} (h : U x = m) (n : Int) (h0 : -9223372036854775808 ≤ n) (h1 : n ≤ 9223372036854775807) (w : World) :
    Calls Try.prog 13 #[.int .u8 m, .int .i64 n] w fun e w' => e = .returned (.int .u8 (U (gpow x n))) ∧ w = w' := by
  rw [← h]; exact pow_any x n h0 h1 w
theorem div_at {m n : Int} {x y : UInt8} (h : U x = m) (h2 : U y = n) (w : World) :
    Calls Try.prog 15 #[.int .u8 m, .int .u8 n] w fun e w' =>
      e = .returned (if y = 0 then .tuple #[.int .u8 0, .bool false] else .tuple #[.int .u8 (U (gmul x (gpow y 254))), .bool true]) ∧ w = w' := by
  rw [← h, ← h2]; exact div_any x y w
theorem div_at1 (m n k : Int) (x y z : UInt8) (h : U x = m) (h2 : U y = n) (h3 : U z = k) (hy : y ≠ 0) (hz : gmul x (gpow y 254) = z) (w : World) :
    Calls Try.prog 15 #[.int .u8 m, .int .u8 n] w fun e w' => e = .returned (.tuple #[.int .u8 k, .bool true]) ∧ w = w' := by
  rw [← h, ← h2, ← h3, ← hz]
  have := div_any x y w
  rwa [if_neg hy] at this
theorem div_at0 (m : Int) (x : UInt8) (h : U x = m) (w : World) :
    Calls Try.prog 15 #[.int .u8 m, .int .u8 0] w fun e w' => e = .returned (.tuple #[.int .u8 0, .bool false]) ∧ w = w' :=
  (div_at (x := x) (y := 0) h rfl w).mono fun _ _ h => ⟨h.1, h.2⟩

set_option maxRecDepth 10000 in
theorem awake_any (w : World) :
    Calls Try.prog 10 #[] w fun e w' => e = .returned (.bool true) ∧ w = w' := by
  have f1 : U (gmul 128 2) = 29 := by decide +kernel
  have f2 : U (gmul 255 255) = 226 := by decide +kernel
  have f3 : U (gpow 2 8) = 29 := by decide +kernel
  have f4 : U (gpow 0 (-5)) = 1 := by decide +kernel
  go_enter Try.func10, Try.ntmps10
  go_wp2_with fail
  refine (div_at1 29 2 128 29 2 128 rfl rfl rfl (by decide) (by decide +kernel) _).mono ?_
  rintro e w' ⟨rfl, rfl⟩
  go_wp2_with fail
  refine (div_at0 29 29 rfl _).mono ?_
  rintro e w' ⟨rfl, rfl⟩
  go_wp2_with fail
  refine (mul_at (x := 128) (y := 2) rfl rfl _).mono ?_
  rintro e w' ⟨rfl, rfl⟩
  go_wp2_with fail
  refine (mul_at (x := 255) (y := 255) rfl rfl _).mono ?_
  rintro e w' ⟨rfl, rfl⟩
  go_wp2_with fail
  refine (pow_at (x := 2) rfl 8 (by decide) (by decide) _).mono ?_
  rintro e w' ⟨rfl, rfl⟩
  go_wp2_with fail
  refine (pow_at (x := 0) rfl (-5) (by decide) (by decide) _).mono ?_
  rintro e w' ⟨rfl, rfl⟩
  go_wp2_with fail
  refine (rmul_at2 (x := 128) (y := 2) rfl rfl _).mono ?_
  rintro e w' ⟨rfl, rfl⟩
  go_wp2_with fail
  go_ret
  exact ⟨rfl, rfl⟩

theorem gfMuls_any (a b : UInt8) (w : World) :
    Calls Try.prog 3 #[.int .u8 (U a), .int .u8 (U b)] w fun e w' => e = .returned (.bool true) ∧ w = w' := by
  go_enter Try.func3, Try.ntmps3
  go_wp2_with (first | (go_at_call 10; refine (awake_any _).mono ?_; rintro e w' ⟨rfl, rfl⟩) | (go_at_call 11; refine (mul_any _ _ _).mono ?_; rintro e w' ⟨rfl, rfl⟩) | (go_at_call 12; refine (rmul_any _ _ _).mono ?_; rintro e w' ⟨rfl, rfl⟩) | (go_at_call 13; refine (pow_any _ _ (by omega) (by omega) _).mono ?_; rintro e w' ⟨rfl, rfl⟩) | (go_at_call 14; refine (rpow_any _ _ (by omega) (by omega) _).mono ?_; rintro e w' ⟨rfl, rfl⟩))
  go_ret
  exact ⟨rfl, rfl⟩
theorem gfPows_any (a : UInt8) (n : Int) (h0 : -9223372036854775808 ≤ n) (h1 : n ≤ 9223372036854775807) (w : World) :
    Calls Try.prog 4 #[.int .u8 (U a), .int .i64 n] w fun e w' => e = .returned (.bool true) ∧ w = w' := by
  go_enter Try.func4, Try.ntmps4
  go_wp2_with (first | (go_at_call 10; refine (awake_any _).mono ?_; rintro e w' ⟨rfl, rfl⟩) | (go_at_call 11; refine (mul_any _ _ _).mono ?_; rintro e w' ⟨rfl, rfl⟩) | (go_at_call 12; refine (rmul_any _ _ _).mono ?_; rintro e w' ⟨rfl, rfl⟩) | (go_at_call 13; refine (pow_any _ _ (by omega) (by omega) _).mono ?_; rintro e w' ⟨rfl, rfl⟩) | (go_at_call 14; refine (rpow_any _ _ (by omega) (by omega) _).mono ?_; rintro e w' ⟨rfl, rfl⟩))
  go_ret
  exact ⟨rfl, rfl⟩
theorem gfDivs_any (a b : UInt8) (w : World) :
    Calls Try.prog 5 #[.int .u8 (U a), .int .u8 (U b)] w fun e w' => e = .returned (.bool true) ∧ w = w' := by
  have hd := div_any a b
  have hr := rdiv_any a b
  by_cases hb : b = 0
  · simp only [if_pos hb] at hd hr
    have hd := Lib.hid hd
    have hr := Lib.hid hr
    clear hb
    go_enter Try.func5, Try.ntmps5
    go_wp2_with (first | (go_at_call 10; refine (awake_any _).mono ?_; rintro e w' ⟨rfl, rfl⟩) | (go_at_call 15; refine (hd.out _).mono ?_; rintro e w' ⟨rfl, rfl⟩) | (go_at_call 16; refine (hr.out _).mono ?_; rintro e w' ⟨rfl, rfl⟩))
    go_ret
    exact ⟨rfl, rfl⟩
  · simp only [if_neg hb] at hd hr
    have hd := Lib.hid hd
    have hr := Lib.hid hr
    clear hb
    go_enter Try.func5, Try.ntmps5
    go_wp2_with (first | (go_at_call 10; refine (awake_any _).mono ?_; rintro e w' ⟨rfl, rfl⟩) | (go_at_call 15; refine (hd.out _).mono ?_; rintro e w' ⟨rfl, rfl⟩) | (go_at_call 16; refine (hr.out _).mono ?_; rintro e w' ⟨rfl, rfl⟩))
    go_ret
    exact ⟨rfl, rfl⟩

theorem mul_1 (a : UInt8) (w : World) :
    Calls Try.prog 11 #[.int .u8 (U a), .int .u8 1] w fun e w' => e = .returned (.int .u8 (U a)) ∧ w = w' := by
  have := mul_at (x := a) (y := 1) (n := 1) rfl rfl w
  rwa [gmul_one_r] at this
theorem mul_0 (a : UInt8) (w : World) :
    Calls Try.prog 11 #[.int .u8 (U a), .int .u8 0] w fun e w' => e = .returned (.int .u8 0) ∧ w = w' := by
  have := mul_at (x := a) (y := 0) (n := 0) rfl rfl w
  rwa [gmul_zero_r] at this
theorem ne_false_of {a b : UInt8} (h : a = b) : (a != b) = false := by simp [h]
theorem eq_true_of {a b : UInt8} (h : a = b) : (a == b) = true := by simp [h]
set_option maxRecDepth 10000 in
theorem gfField_any (a b c : UInt8) (w : World) :
    Calls Try.prog 6 #[.int .u8 (U a), .int .u8 (U b), .int .u8 (U c)] w fun e w' => e = .returned (.bool true) ∧ w = w' := by
  have h1 := ne_false_of (gmul_comm a b)
  have h2 := ne_false_of (gmul_assoc a b c).symm
  have h3 := eq_true_of (gmul_xor_r a b c)
  go_enter Try.func6, Try.ntmps6
  go_wp2_with (first | (go_at_call 10; refine (awake_any _).mono ?_; rintro e w' ⟨rfl, rfl⟩) | (go_at_call 11; ((with_reducible refine (mul_any _ _ _).mono ?_); rintro e w' ⟨rfl, rfl⟩)) | (go_at_call 11; ((with_reducible refine (mul_1 _ _).mono ?_); rintro e w' ⟨rfl, rfl⟩)) | (go_at_call 11; ((with_reducible refine (mul_0 _ _).mono ?_); rintro e w' ⟨rfl, rfl⟩)))
  go_ret
  exact ⟨rfl, rfl⟩
set_option maxRecDepth 10000 in
theorem gfBack_any (a b : UInt8) (w : World) :
    Calls Try.prog 7 #[.int .u8 (U a), .int .u8 (U b)] w fun e w' => e = .returned (.bool true) ∧ w = w' := by
  have hd := div_any (gmul a b) b
  by_cases hb : b = 0
  · simp only [if_pos hb] at hd
    have hd := Lib.hid hd
    have e1 : (gmul a b == 0) = true := by simp [hb, gmul_zero_r]
    have e2 : (b == 0) = true := by simp [hb]
    have e3 : (b != 0) = false := by simp [hb]
    clear hb
    cases e4 : (a == 0)
    all_goals
      go_enter Try.func7, Try.ntmps7
      go_wp2_with (first | (go_at_call 10; refine (awake_any _).mono ?_; rintro e w' ⟨rfl, rfl⟩) | (go_at_call 11; ((with_reducible refine (mul_any _ _ _).mono ?_); rintro e w' ⟨rfl, rfl⟩)) | (go_at_call 15; refine (hd.out _).mono ?_; rintro e w' ⟨rfl, rfl⟩))
      go_ret
      exact ⟨rfl, rfl⟩
  · simp only [if_neg hb] at hd
    have hx : gmul (gmul a b) (gpow b 254) = a := ((gdiv_unique (a := gmul a b) (x := a) hb).mp rfl).symm
    rw [hx] at hd
    have hd := Lib.hid hd
    have e2 : (b == 0) = false := by simp [hb]
    have e3 : (b != 0) = true := by simp [hb]
    have e1 : (gmul a b == 0) = (a == 0) := by
      rw [Bool.eq_iff_iff]; simp only [beq_iff_eq, gmul_eq_zero, hb, or_false]
    clear hb hx
    cases e4 : (a == 0)
    all_goals
      rw [e4] at e1
      go_enter Try.func7, Try.ntmps7
      go_wp2_with (first | (go_at_call 10; refine (awake_any _).mono ?_; rintro e w' ⟨rfl, rfl⟩) | (go_at_call 11; ((with_reducible refine (mul_any _ _ _).mono ?_); rintro e w' ⟨rfl, rfl⟩)) | (go_at_call 15; refine (hd.out _).mono ?_; rintro e w' ⟨rfl, rfl⟩))
      go_ret
      exact ⟨rfl, rfl⟩
theorem gpow_2 (a : UInt8) : gpow a 2 = gmul a a := by
  have := gpow_nat a 2
  rw [show ((2 : Nat) : Int) = 2 from rfl] at this
  rw [this]
  show gmul (gmul 1 a) a = _
  rw [gmul_one_l]
theorem gpow_2_xor (a b : UInt8) : gpow (a ^^^ b) 2 = gpow a 2 ^^^ gpow b 2 := by
  rw [gpow_2, gpow_2, gpow_2, gmul_xor_l, gmul_xor_r, gmul_xor_r, gmul_comm b a, UInt8.xor_assoc, ← UInt8.xor_assoc (gmul a b), UInt8.xor_self, UInt8.zero_xor]
set_option maxRecDepth 10000 in
theorem gfAdds_any (a b : UInt8) (m n : Nat) (hm : m ≤ 65535) (hn : n ≤ 65535) (w : World) :
    Calls Try.prog 8 #[.int .u8 (U a), .int .u8 (U b), .int .u16 m, .int .u16 n] w fun e w' => e = .returned (.bool true) ∧ w = w' := by
  have h1 := ne_false_of (gpow_2_xor a b)
  have h2 := eq_true_of (show gpow a ((m : Int) + n) = gmul (gpow a m) (gpow a n) by
    rw [show (m : Int) + n = ((m + n : Nat) : Int) from by omega, gpow_nat, gpow_nat, gpow_nat, npow_add])
  go_enter Try.func8, Try.ntmps8
  go_wp2_with (first | (go_at_call 10; refine (awake_any _).mono ?_; rintro e w' ⟨rfl, rfl⟩) | (go_at_call 11; ((with_reducible refine (mul_any _ _ _).mono ?_); rintro e w' ⟨rfl, rfl⟩)) | (go_at_call 13; ((with_reducible refine (pow_any _ _ (by omega) (by omega) _).mono ?_); rintro e w' ⟨rfl, rfl⟩)))
  go_ret
  exact ⟨rfl, rfl⟩
set_option maxRecDepth 10000 in
theorem gfRound_any (n : Nat) (hn : n ≤ 65535) (w : World) :
    Calls Try.prog 9 #[.int .u16 n] w fun e w' => e = .returned (.bool true) ∧ w = w' := by
  have h1 : (gpow 2 n == 1) = (n % 255 == 0) := by
    rw [Bool.eq_iff_iff]; simp only [beq_iff_eq, gpow_nat, npow2_one]
  have h3 : ((n : Int) % 255 == 0) = (n % 255 == 0) := by
    rw [Bool.eq_iff_iff]; simp only [beq_iff_eq]; omega
  cases h2 : (n % 255 == 0)
  all_goals
    rw [h2] at h1 h3
    clear h2
    go_enter Try.func9, Try.ntmps9
    go_wp2_with (first | (go_at_call 10; refine (awake_any _).mono ?_; rintro e w' ⟨rfl, rfl⟩) | (go_at_call 13; refine (pow_at (x := 2) rfl _ (by omega) (by omega) _).mono ?_; rintro e w' ⟨rfl, rfl⟩))
    go_ret
    exact ⟨rfl, rfl⟩
end Go.Proofs.Ytffoknfenncgiaa
