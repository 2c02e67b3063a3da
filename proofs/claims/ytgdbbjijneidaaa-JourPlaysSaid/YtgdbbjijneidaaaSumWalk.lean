/- The checksum's walk. -/
import Derived.Test.YtgdbbjijneidaaaChecked
import Derived.Test.YtgdbbjijneidaaaMem
import Derived.Test.YtgdbbjijneidaaaSumMath
namespace Go.Proofs.Ytgdbbjijneidaaa
open Go Go.RowKit

theorem shift_any (r : BitVec 32) (w : World) :
    Calls Try.prog 84 #[.int .u32 (W r)] w fun e w' => e = .returned (.int .u32 (W (sft r))) ∧ w = w' := by
  go_enter Try.func84, Try.ntmps84
  go_wp2
  go_ret
  exact ⟨rfl, rfl⟩

set_option maxRecDepth 10000 in
theorem sum_any (A : Option Addr) (c : Nat) (l : List UInt8) (w : World) (hr : Rd w w.heap.size A l) (hl : l.length ≤ 9223372036854775807) :
    Calls Try.prog 80 #[.slice A l.length c] w fun e w' => e = .returned (.int .u32 (W (crc l))) ∧ w = w' := by
  have hr := Lib.hid hr
  go_enter Try.func80, Try.ntmps80
  go_wp2
  go_loop [3, 8] (fun r i => ∃ k : Nat, k ≤ l.length ∧ i = .int .i64 k ∧ r = .int .u32 (W (reg 4294967295#32 (l.take k)))) (fun _ i => l.length - (intOf i).toNat)
  case atStart => exact ⟨0, Nat.zero_le _, rfl, rfl⟩
  case round =>
    obtain ⟨k, hk, rfl, rfl⟩ := hrel
    by_cases hlt : k < l.length
    · obtain ⟨ad, rfl, hb, hc⟩ := hr.out.at_ hlt
      have ht := Lib.hid (reg_take 4294967295#32 l k hlt)
      clear hr
      generalize l[k] = x at *
      go_wp2
      go_loop [3, 16] (fun r i => ∃ j : Nat, j ≤ 8 ∧ i = .int .i64 j ∧ r = .int .u32 (W (rep sft j (reg 4294967295#32 (l.take k) ^^^ zx32 x)))) (fun _ i => 8 - (intOf i).toNat)
      case atStart => exact ⟨0, Nat.zero_le _, rfl, rfl⟩
      case round =>
        obtain ⟨j, hj, rfl, rfl⟩ := hrel
        by_cases hlt2 : j < 8
        · go_wp2_with (go_at_call 84; refine (shift_any _ _).mono ?_; rintro e w' ⟨rfl, rfl⟩)
          go_round
          case rel => exact ⟨j + 1, by omega, by go_num, rfl⟩
          case measure => simp [intOf]; omega
        · obtain rfl : j = 8 := by omega
          go_wp2
          go_round
          case rel => exact ⟨k + 1, by omega, by go_num, by rw [ht.out]; rfl⟩
          case measure => simp [intOf]; omega
    · obtain rfl : k = l.length := by omega
      have ht : Hid (l.take l.length = l) := List.take_length
      go_wp2
      go_ret
      exact ⟨rfl, rfl⟩
theorem sum_at (A : Option Addr) (n c : Nat) (l : List UInt8) (hn : l.length = n) (w : World) (hr : Rd w w.heap.size A l) (hl : n ≤ 9223372036854775807) :
    Calls Try.prog 80 #[.slice A n c] w fun e w' => e = .returned (.int .u32 (W (crc l))) ∧ w = w' := by
  subst hn; exact sum_any A c l w hr hl
end Go.Proofs.Ytgdbbjijneidaaa
