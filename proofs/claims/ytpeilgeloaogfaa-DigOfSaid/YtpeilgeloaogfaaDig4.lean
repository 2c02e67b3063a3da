/- dig: turn. -/
import Derived.Test.YtpeilgeloaogfaaDig3
namespace Go.Proofs.Ytpeilgeloaogfaa
set_option linter.unusedVariables false
set_option linter.unusedSimpArgs false
open Go Go.RowKit
@[go_sem] theorem dg_shl7 (x : BitVec 32) : IntKind.u32.wrap (W x * (128 : Int)) = W (x <<< 7) := u32_shl x 7
@[go_sem] theorem dg_shl8 (x : BitVec 32) : IntKind.u32.wrap (W x * (256 : Int)) = W (x <<< 8) := u32_shl x 8
@[go_sem] theorem dg_shl10 (x : BitVec 32) : IntKind.u32.wrap (W x * (1024 : Int)) = W (x <<< 10) := u32_shl x 10
@[go_sem] theorem dg_shl13 (x : BitVec 32) : IntKind.u32.wrap (W x * (8192 : Int)) = W (x <<< 13) := u32_shl x 13
@[go_sem] theorem dg_shl14 (x : BitVec 32) : IntKind.u32.wrap (W x * (16384 : Int)) = W (x <<< 14) := u32_shl x 14
@[go_sem] theorem dg_shl15 (x : BitVec 32) : IntKind.u32.wrap (W x * (32768 : Int)) = W (x <<< 15) := u32_shl x 15
@[go_sem] theorem dg_shl16 (x : BitVec 32) : IntKind.u32.wrap (W x * (65536 : Int)) = W (x <<< 16) := u32_shl x 16
@[go_sem] theorem dg_shl19 (x : BitVec 32) : IntKind.u32.wrap (W x * (524288 : Int)) = W (x <<< 19) := u32_shl x 19
@[go_sem] theorem dg_shl21 (x : BitVec 32) : IntKind.u32.wrap (W x * (2097152 : Int)) = W (x <<< 21) := u32_shl x 21
@[go_sem] theorem dg_shl24 (x : BitVec 32) : IntKind.u32.wrap (W x * (16777216 : Int)) = W (x <<< 24) := u32_shl x 24
@[go_sem] theorem dg_shl25 (x : BitVec 32) : IntKind.u32.wrap (W x * (33554432 : Int)) = W (x <<< 25) := u32_shl x 25
@[go_sem] theorem dg_shl26 (x : BitVec 32) : IntKind.u32.wrap (W x * (67108864 : Int)) = W (x <<< 26) := u32_shl x 26
@[go_sem] theorem dg_shl30 (x : BitVec 32) : IntKind.u32.wrap (W x * (1073741824 : Int)) = W (x <<< 30) := u32_shl x 30
@[go_sem] theorem dg_shr2 (x : BitVec 32) : W x / (4 : Int) = W (x >>> 2) := u32_shr x 2
@[go_sem] theorem dg_shr3 (x : BitVec 32) : W x / (8 : Int) = W (x >>> 3) := u32_shr x 3
@[go_sem] theorem dg_shr6 (x : BitVec 32) : W x / (64 : Int) = W (x >>> 6) := u32_shr x 6
@[go_sem] theorem dg_shr7 (x : BitVec 32) : W x / (128 : Int) = W (x >>> 7) := u32_shr x 7
@[go_sem] theorem dg_shr8 (x : BitVec 32) : W x / (256 : Int) = W (x >>> 8) := u32_shr x 8
@[go_sem] theorem dg_shr10 (x : BitVec 32) : W x / (1024 : Int) = W (x >>> 10) := u32_shr x 10
@[go_sem] theorem dg_shr11 (x : BitVec 32) : W x / (2048 : Int) = W (x >>> 11) := u32_shr x 11
@[go_sem] theorem dg_shr13 (x : BitVec 32) : W x / (8192 : Int) = W (x >>> 13) := u32_shr x 13
@[go_sem] theorem dg_shr16 (x : BitVec 32) : W x / (65536 : Int) = W (x >>> 16) := u32_shr x 16
@[go_sem] theorem dg_shr17 (x : BitVec 32) : W x / (131072 : Int) = W (x >>> 17) := u32_shr x 17
@[go_sem] theorem dg_shr18 (x : BitVec 32) : W x / (262144 : Int) = W (x >>> 18) := u32_shr x 18
@[go_sem] theorem dg_shr19 (x : BitVec 32) : W x / (524288 : Int) = W (x >>> 19) := u32_shr x 19
@[go_sem] theorem dg_shr22 (x : BitVec 32) : W x / (4194304 : Int) = W (x >>> 22) := u32_shr x 22
@[go_sem] theorem dg_shr24 (x : BitVec 32) : W x / (16777216 : Int) = W (x >>> 24) := u32_shr x 24
@[go_sem] theorem dg_shr25 (x : BitVec 32) : W x / (33554432 : Int) = W (x >>> 25) := u32_shr x 25
/-- turned right by n bits -/
def tn (n : Nat) (x : BitVec 32) : BitVec 32 := x <<< (32 - n) ||| x >>> n
set_option maxHeartbeats 4000000 in
theorem turn_2 (x : BitVec 32) (w : World) : Calls Try.prog 122 #[.int .u32 (W x), .int .i64 2] w fun e w' => e = .returned (.int .u32 (W (tn 2 x))) ∧ w' = w := by
  go_enter Try.func122, Try.ntmps122
  have hs : bits .and .u64 (IntKind.u64.wrap (-2)) 31 = 30 := by decide
  have hm : IntKind.u64.wrap (32 - 30) = 2 := by decide
  go_wp2
  go_ret
  exact ⟨rfl, rfl⟩
set_option maxHeartbeats 4000000 in
theorem turn_6 (x : BitVec 32) (w : World) : Calls Try.prog 122 #[.int .u32 (W x), .int .i64 6] w fun e w' => e = .returned (.int .u32 (W (tn 6 x))) ∧ w' = w := by
  go_enter Try.func122, Try.ntmps122
  have hs : bits .and .u64 (IntKind.u64.wrap (-6)) 31 = 26 := by decide
  have hm : IntKind.u64.wrap (32 - 26) = 6 := by decide
  go_wp2
  go_ret
  exact ⟨rfl, rfl⟩
set_option maxHeartbeats 4000000 in
theorem turn_7 (x : BitVec 32) (w : World) : Calls Try.prog 122 #[.int .u32 (W x), .int .i64 7] w fun e w' => e = .returned (.int .u32 (W (tn 7 x))) ∧ w' = w := by
  go_enter Try.func122, Try.ntmps122
  have hs : bits .and .u64 (IntKind.u64.wrap (-7)) 31 = 25 := by decide
  have hm : IntKind.u64.wrap (32 - 25) = 7 := by decide
  go_wp2
  go_ret
  exact ⟨rfl, rfl⟩
set_option maxHeartbeats 4000000 in
theorem turn_11 (x : BitVec 32) (w : World) : Calls Try.prog 122 #[.int .u32 (W x), .int .i64 11] w fun e w' => e = .returned (.int .u32 (W (tn 11 x))) ∧ w' = w := by
  go_enter Try.func122, Try.ntmps122
  have hs : bits .and .u64 (IntKind.u64.wrap (-11)) 31 = 21 := by decide
  have hm : IntKind.u64.wrap (32 - 21) = 11 := by decide
  go_wp2
  go_ret
  exact ⟨rfl, rfl⟩
set_option maxHeartbeats 4000000 in
theorem turn_13 (x : BitVec 32) (w : World) : Calls Try.prog 122 #[.int .u32 (W x), .int .i64 13] w fun e w' => e = .returned (.int .u32 (W (tn 13 x))) ∧ w' = w := by
  go_enter Try.func122, Try.ntmps122
  have hs : bits .and .u64 (IntKind.u64.wrap (-13)) 31 = 19 := by decide
  have hm : IntKind.u64.wrap (32 - 19) = 13 := by decide
  go_wp2
  go_ret
  exact ⟨rfl, rfl⟩
set_option maxHeartbeats 4000000 in
theorem turn_17 (x : BitVec 32) (w : World) : Calls Try.prog 122 #[.int .u32 (W x), .int .i64 17] w fun e w' => e = .returned (.int .u32 (W (tn 17 x))) ∧ w' = w := by
  go_enter Try.func122, Try.ntmps122
  have hs : bits .and .u64 (IntKind.u64.wrap (-17)) 31 = 15 := by decide
  have hm : IntKind.u64.wrap (32 - 15) = 17 := by decide
  go_wp2
  go_ret
  exact ⟨rfl, rfl⟩
set_option maxHeartbeats 4000000 in
theorem turn_18 (x : BitVec 32) (w : World) : Calls Try.prog 122 #[.int .u32 (W x), .int .i64 18] w fun e w' => e = .returned (.int .u32 (W (tn 18 x))) ∧ w' = w := by
  go_enter Try.func122, Try.ntmps122
  have hs : bits .and .u64 (IntKind.u64.wrap (-18)) 31 = 14 := by decide
  have hm : IntKind.u64.wrap (32 - 14) = 18 := by decide
  go_wp2
  go_ret
  exact ⟨rfl, rfl⟩
set_option maxHeartbeats 4000000 in
theorem turn_19 (x : BitVec 32) (w : World) : Calls Try.prog 122 #[.int .u32 (W x), .int .i64 19] w fun e w' => e = .returned (.int .u32 (W (tn 19 x))) ∧ w' = w := by
  go_enter Try.func122, Try.ntmps122
  have hs : bits .and .u64 (IntKind.u64.wrap (-19)) 31 = 13 := by decide
  have hm : IntKind.u64.wrap (32 - 13) = 19 := by decide
  go_wp2
  go_ret
  exact ⟨rfl, rfl⟩
set_option maxHeartbeats 4000000 in
theorem turn_22 (x : BitVec 32) (w : World) : Calls Try.prog 122 #[.int .u32 (W x), .int .i64 22] w fun e w' => e = .returned (.int .u32 (W (tn 22 x))) ∧ w' = w := by
  go_enter Try.func122, Try.ntmps122
  have hs : bits .and .u64 (IntKind.u64.wrap (-22)) 31 = 10 := by decide
  have hm : IntKind.u64.wrap (32 - 10) = 22 := by decide
  go_wp2
  go_ret
  exact ⟨rfl, rfl⟩
set_option maxHeartbeats 4000000 in
theorem turn_25 (x : BitVec 32) (w : World) : Calls Try.prog 122 #[.int .u32 (W x), .int .i64 25] w fun e w' => e = .returned (.int .u32 (W (tn 25 x))) ∧ w' = w := by
  go_enter Try.func122, Try.ntmps122
  have hs : bits .and .u64 (IntKind.u64.wrap (-25)) 31 = 7 := by decide
  have hm : IntKind.u64.wrap (32 - 7) = 25 := by decide
  go_wp2
  go_ret
  exact ⟨rfl, rfl⟩
end Go.Proofs.Ytpeilgeloaogfaa
