import Derived.Test.YtpeilgeloaogfaaChecked
import Derived.Test.YtpeilgeloaogfaaLib
import Derived.Test.YtpeilgeloaogfaaGfPow
namespace Go.Proofs.Ytpeilgeloaogfaa
open Go Go.RowKit

theorem tx_any (a : UInt8) (w : World) :
    Calls Try.prog 131 #[.int .u8 (U a)] w fun e w' => e = .returned (.int .u8 (U (tx a))) ∧ w = w' := by
  unfold tx
  cases h : (a &&& 128 != 0)
  all_goals
    go_enter Try.func131, Try.ntmps131
    go_wp2
    go_ret
    exact ⟨rfl, rfl⟩

theorem mul_any (a b : UInt8) (w : World) :
    Calls Try.prog 116 #[.int .u8 (U a), .int .u8 (U b)] w fun e w' => e = .returned (.int .u8 (U (gmul a b))) ∧ w = w' := by
  go_enter Try.func116, Try.ntmps116
  go_wp2
  go_loop [0, 1, 5, 6] (fun x y p i => ∃ k : Nat, k ≤ 8 ∧ i = .int .i64 k ∧ x = .int .u8 (U (mst a b k).1) ∧ y = .int .u8 (U (mst a b k).2.1) ∧ p = .int .u8 (U (mst a b k).2.2)) (fun _ _ _ i => 8 - (intOf i).toNat)
  case atStart => exact ⟨0, Nat.zero_le _, rfl, rfl, rfl, rfl⟩
  case round =>
    obtain ⟨k, hk, rfl, rfl, rfl, rfl⟩ := hrel
    by_cases hlt : k < 8
    · cases h : ((mst a b k).2.1 &&& 1 != 0)
      all_goals
        go_wp2_with (go_at_call 131; refine (tx_any _ _).mono ?_; rintro e w' ⟨rfl, rfl⟩)
        go_round
        case rel => exact ⟨k + 1, by omega, by go_num, rfl, rfl, by rw [mst, h]; rfl⟩
        case measure => simp [intOf]; omega
    · obtain rfl : k = 8 := by omega
      go_wp2
      go_ret
      exact ⟨rfl, rfl⟩

theorem pow_any (a : UInt8) (n : Int) (h0 : -9223372036854775808 ≤ n) (h1 : n ≤ 9223372036854775807) (w : World) :
    Calls Try.prog 132 #[.int .u8 (U a), .int .i64 n] w fun e w' => e = .returned (.int .u8 (U (gpow a n))) ∧ w = w' := by
  unfold gpow
  by_cases hn : n ≤ 0
  · rw [if_pos hn]
    go_enter Try.func132, Try.ntmps132
    go_wp2
    go_ret
    exact ⟨rfl, rfl⟩
  · rw [if_neg hn]
    by_cases ha : a = 0
    · subst ha
      rw [if_pos rfl]
      go_enter Try.func132, Try.ntmps132
      go_wp2
      go_ret
      exact ⟨rfl, rfl⟩
    · have hb : (a == 0) = false := by simpa using ha
      rw [if_neg ha]
      obtain ⟨m, rfl⟩ := Int.eq_ofNat_of_zero_le (show 0 ≤ n by omega)
      have hm : 1 ≤ m := by omega
      have hd : decide (m = 0) = false := by simp; omega
      clear hn ha h0
      have hH : Hid ((m : Int).toNat = m) := Int.toNat_natCast m
      rw [hH.out]
      go_enter Try.func132, Try.ntmps132
      go_wp2
      go_loop [0, 1, 5, 12] (fun x y p i => ∃ k : Nat, k ≤ 8 ∧ i = .int .i64 k ∧ x = .int .u8 (U (pst a (m % 255) k).1) ∧ y = .int .i64 (pst a (m % 255) k).2.1 ∧ p = .int .u8 (U (pst a (m % 255) k).2.2)) (fun _ _ _ i => 8 - (intOf i).toNat)
      case atStart => exact ⟨0, Nat.zero_le _, rfl, rfl, rfl, rfl⟩
      case round =>
        obtain ⟨k, hk, rfl, rfl, rfl, rfl⟩ := hrel
        have hle := pst_le a (m % 255) k
        have hle2 : (pst a (m % 255) k).2.1 ≤ 254 := by omega
        clear hle
        by_cases hlt : k < 8
        · have hI : (((pst a (m % 255) k).2.1 : Int) % 2 != 0) = ((pst a (m % 255) k).2.1 % 2 != 0) := by
            rw [Bool.eq_iff_iff]; simp; omega
          have hI := Lib.hid hI
          cases h : (((pst a (m % 255) k).2.1 : Int) % 2 != 0)
          all_goals
            go_wp2_with (go_at_call 116; refine (mul_any _ _ _).mono ?_; rintro e w' ⟨rfl, rfl⟩)
            go_round
            case rel => exact ⟨k + 1, by omega, by go_num, rfl, rfl, by show _ = Value.int .u8 (U (if ((pst a (m % 255) k).2.1 % 2 != 0) = true then _ else _)); rw [← hI.out, h]; rfl⟩
            case measure => simp [intOf]; omega
        · obtain rfl : k = 8 := by omega
          go_wp2
          go_ret
          exact ⟨rfl, rfl⟩
theorem div_any (a b : UInt8) (w : World) :
    Calls Try.prog 117 #[.int .u8 (U a), .int .u8 (U b)] w fun e w' =>
      e = .returned (if b = 0 then .tuple #[.int .u8 0, .bool false] else .tuple #[.int .u8 (U (gmul a (gpow b 254))), .bool true]) ∧ w = w' := by
  by_cases hb : b = 0
  · subst hb
    rw [if_pos rfl]
    go_enter Try.func117, Try.ntmps117
    go_wp2
    go_ret2
    exact ⟨rfl, rfl⟩
  · have hb' : (b == 0) = false := by simpa using hb
    rw [if_neg hb]
    clear hb
    go_enter Try.func117, Try.ntmps117
    go_wp2_with (first | (go_at_call 116; refine (mul_any _ _ _).mono ?_; rintro e w' ⟨rfl, rfl⟩) | (go_at_call 132; refine (pow_any _ _ (by omega) (by omega) _).mono ?_; rintro e w' ⟨rfl, rfl⟩))
    go_ret2
    exact ⟨rfl, rfl⟩
end Go.Proofs.Ytpeilgeloaogfaa
