/- dig: the reference's stone, back, at. -/
import Derived.Test.YtpeilgeloaogfaaDig13
namespace Go.Proofs.Ytpeilgeloaogfaa
set_option linter.unusedVariables false
set_option linter.unusedSimpArgs false
open Go Go.RowKit
set_option maxHeartbeats 4000000 in
set_option maxRecDepth 20000 in
theorem stone_any (n : Nat) (hn : n < 64) (w : World) : Calls Try.prog 100 #[.int .i64 n] w fun e w' => e = .returned (.int .u32 (W (kF n))) ∧ Gr w w' := by
  have hA := (Ar.new w 113 64 kF).at hn
  have hq : Gr w (w.alloc (.cells (wcells 64 kF).toArray 113)) := (Below.refl _ w).alloc (Nat.le_refl _) _
  have i1 : (n : Int) < 64 := by omega
  go_enter Try.func100, Try.ntmps100
  go_upto_region 2 with (fail)
  rw [kcells]
  generalize w.alloc (.cells (wcells 64 kF).toArray 113) = w1 at hA hq ⊢
  replace hq := Lib.hid hq
  go_wp2_with fail
  go_ret
  exact ⟨rfl, hq.out⟩
set_option maxHeartbeats 4000000 in
theorem back_2 (x : BitVec 32) (w : World) : Calls Try.prog 99 #[.int .u32 (W x), .int .i64 2] w fun e w' => e = .returned (.int .u32 (W (tn 2 x))) ∧ w' = w := by
  go_enter Try.func99, Try.ntmps99
  have hm : IntKind.i64.wrap (32 - 2) = 30 := by decide
  have hs : IntKind.u64.wrap 30 = 30 := by decide
  have hs2 : IntKind.u64.wrap 2 = 2 := by decide
  go_wp2
  go_ret
  exact ⟨rfl, rfl⟩
set_option maxHeartbeats 4000000 in
theorem back_6 (x : BitVec 32) (w : World) : Calls Try.prog 99 #[.int .u32 (W x), .int .i64 6] w fun e w' => e = .returned (.int .u32 (W (tn 6 x))) ∧ w' = w := by
  go_enter Try.func99, Try.ntmps99
  have hm : IntKind.i64.wrap (32 - 6) = 26 := by decide
  have hs : IntKind.u64.wrap 26 = 26 := by decide
  have hs2 : IntKind.u64.wrap 6 = 6 := by decide
  go_wp2
  go_ret
  exact ⟨rfl, rfl⟩
set_option maxHeartbeats 4000000 in
theorem back_7 (x : BitVec 32) (w : World) : Calls Try.prog 99 #[.int .u32 (W x), .int .i64 7] w fun e w' => e = .returned (.int .u32 (W (tn 7 x))) ∧ w' = w := by
  go_enter Try.func99, Try.ntmps99
  have hm : IntKind.i64.wrap (32 - 7) = 25 := by decide
  have hs : IntKind.u64.wrap 25 = 25 := by decide
  have hs2 : IntKind.u64.wrap 7 = 7 := by decide
  go_wp2
  go_ret
  exact ⟨rfl, rfl⟩
set_option maxHeartbeats 4000000 in
theorem back_11 (x : BitVec 32) (w : World) : Calls Try.prog 99 #[.int .u32 (W x), .int .i64 11] w fun e w' => e = .returned (.int .u32 (W (tn 11 x))) ∧ w' = w := by
  go_enter Try.func99, Try.ntmps99
  have hm : IntKind.i64.wrap (32 - 11) = 21 := by decide
  have hs : IntKind.u64.wrap 21 = 21 := by decide
  have hs2 : IntKind.u64.wrap 11 = 11 := by decide
  go_wp2
  go_ret
  exact ⟨rfl, rfl⟩
set_option maxHeartbeats 4000000 in
theorem back_13 (x : BitVec 32) (w : World) : Calls Try.prog 99 #[.int .u32 (W x), .int .i64 13] w fun e w' => e = .returned (.int .u32 (W (tn 13 x))) ∧ w' = w := by
  go_enter Try.func99, Try.ntmps99
  have hm : IntKind.i64.wrap (32 - 13) = 19 := by decide
  have hs : IntKind.u64.wrap 19 = 19 := by decide
  have hs2 : IntKind.u64.wrap 13 = 13 := by decide
  go_wp2
  go_ret
  exact ⟨rfl, rfl⟩
set_option maxHeartbeats 4000000 in
theorem back_17 (x : BitVec 32) (w : World) : Calls Try.prog 99 #[.int .u32 (W x), .int .i64 17] w fun e w' => e = .returned (.int .u32 (W (tn 17 x))) ∧ w' = w := by
  go_enter Try.func99, Try.ntmps99
  have hm : IntKind.i64.wrap (32 - 17) = 15 := by decide
  have hs : IntKind.u64.wrap 15 = 15 := by decide
  have hs2 : IntKind.u64.wrap 17 = 17 := by decide
  go_wp2
  go_ret
  exact ⟨rfl, rfl⟩
set_option maxHeartbeats 4000000 in
theorem back_18 (x : BitVec 32) (w : World) : Calls Try.prog 99 #[.int .u32 (W x), .int .i64 18] w fun e w' => e = .returned (.int .u32 (W (tn 18 x))) ∧ w' = w := by
  go_enter Try.func99, Try.ntmps99
  have hm : IntKind.i64.wrap (32 - 18) = 14 := by decide
  have hs : IntKind.u64.wrap 14 = 14 := by decide
  have hs2 : IntKind.u64.wrap 18 = 18 := by decide
  go_wp2
  go_ret
  exact ⟨rfl, rfl⟩
set_option maxHeartbeats 4000000 in
theorem back_19 (x : BitVec 32) (w : World) : Calls Try.prog 99 #[.int .u32 (W x), .int .i64 19] w fun e w' => e = .returned (.int .u32 (W (tn 19 x))) ∧ w' = w := by
  go_enter Try.func99, Try.ntmps99
  have hm : IntKind.i64.wrap (32 - 19) = 13 := by decide
  have hs : IntKind.u64.wrap 13 = 13 := by decide
  have hs2 : IntKind.u64.wrap 19 = 19 := by decide
  go_wp2
  go_ret
  exact ⟨rfl, rfl⟩
set_option maxHeartbeats 4000000 in
theorem back_22 (x : BitVec 32) (w : World) : Calls Try.prog 99 #[.int .u32 (W x), .int .i64 22] w fun e w' => e = .returned (.int .u32 (W (tn 22 x))) ∧ w' = w := by
  go_enter Try.func99, Try.ntmps99
  have hm : IntKind.i64.wrap (32 - 22) = 10 := by decide
  have hs : IntKind.u64.wrap 10 = 10 := by decide
  have hs2 : IntKind.u64.wrap 22 = 22 := by decide
  go_wp2
  go_ret
  exact ⟨rfl, rfl⟩
set_option maxHeartbeats 4000000 in
theorem back_25 (x : BitVec 32) (w : World) : Calls Try.prog 99 #[.int .u32 (W x), .int .i64 25] w fun e w' => e = .returned (.int .u32 (W (tn 25 x))) ∧ w' = w := by
  go_enter Try.func99, Try.ntmps99
  have hm : IntKind.i64.wrap (32 - 25) = 7 := by decide
  have hs : IntKind.u64.wrap 7 = 7 := by decide
  have hs2 : IntKind.u64.wrap 25 = 25 := by decide
  go_wp2
  go_ret
  exact ⟨rfl, rfl⟩
theorem shr_conv (n s : Nat) (hs : s ≤ 56) (hn : n ≤ 100000) : IntKind.u8.wrap ((8 * (n : Int)) / 2 ^ s) = U (UInt8.ofNat (n * 8 / 2 ^ s)) := by
  rw [IntKind.wrap_u8, show (8 * (n : Int)) = (n : Int) * 8 from Int.mul_comm _ _]
  exact byte_conv n s
set_option maxHeartbeats 4000000 in
set_option maxRecDepth 20000 in
theorem at_any (A : Option Addr) (n c : Nat) (l : List UInt8) (hl : Hid (l.length = n)) (hn : n ≤ 100000) (k : Nat) (hk : k < allN n) (w : World) (h : Hid (Rd w w.heap.size A l)) :
    Calls Try.prog 98 #[.slice A n c, .int .i64 k, .int .i64 (allN n)] w fun e w' => e = .returned (.int .u8 (U (atF l (allN n) k))) ∧ w' = w := by
  have hal : Hid (n + 9 ≤ allN n ∧ allN n ≤ n + 72 ∧ 64 ≤ allN n) := Lib.hid (by unfold allN; omega)
  obtain ⟨al, hall⟩ : ∃ al, allN n = al := ⟨_, rfl⟩
  rw [hall] at hal hk ⊢
  replace hall := Lib.hid hall
  have b1 := hal.out.1
  have b2 := hal.out.2.1
  by_cases h1 : k < n
  · have i1 : (k : Int) < (n : Int) := by omega
    obtain ⟨ad, rfl, -, hc⟩ := h.out.at_ (k := k) (by rw [hl.out]; exact h1)
    have hv : atF l al k = l[k]'(by rw [hl.out]; exact h1) := by unfold atF; rw [if_pos (by rw [hl.out]; exact h1)]; simp [List.getD_eq_getElem?_getD, List.getElem?_eq_getElem (show k < l.length by rw [hl.out]; exact h1)]
    rw [hv]
    generalize l[k]'(by rw [hl.out]; exact h1) = y at hc
    go_enter Try.func98, Try.ntmps98
    go_wp2_with fail
    go_ret
    exact ⟨rfl, rfl⟩
  · have i1 : decide ((k : Int) < (n : Int)) = false := decide_eq_false (by omega)
    have i1' : (n : Int) ≤ (k : Int) := by omega
    by_cases h2 : k = n
    · have hv : atF l al k = 128 := by unfold atF; rw [if_neg (by rw [hl.out]; exact h1), if_pos (by rw [hl.out]; exact h2)]
      rw [hv]
      have i2 : ((k : Int) == (n : Int)) = true := by rw [h2]; exact beq_self_eq_true _
      go_enter Try.func98, Try.ntmps98
      go_wp2_with fail
      go_ret
      exact ⟨rfl, rfl⟩
    · have i2 : ((k : Int) == (n : Int)) = false := by rw [beq_eq_false_iff_ne]; omega
      have e1 : IntKind.i64.wrap ((al : Int) - 8) = ((al - 8 : Nat) : Int) := by rw [i64_wrap_id (by omega) (by omega)]; omega
      obtain ⟨q, hq⟩ : ∃ q, al - 8 = q := ⟨_, rfl⟩
      rw [hq] at e1
      by_cases h3 : q ≤ k
      · have i3 : (q : Int) ≤ (k : Int) := by omega
        obtain ⟨s, hs⟩ : ∃ s, 8 * (al - 1 - k) = s := ⟨_, rfl⟩
        have hv : atF l al k = UInt8.ofNat (n * 8 / 2 ^ s) := by unfold atF; rw [if_neg (by rw [hl.out]; exact h1), if_neg (by rw [hl.out]; exact h2), if_pos (by omega), hl.out, hs]
        rw [hv]
        have e2 : IntKind.i64.wrap ((al : Int) - 1) = ((al - 1 : Nat) : Int) := by rw [i64_wrap_id (by omega) (by omega)]; omega
        have e3 : IntKind.i64.wrap (((al - 1 : Nat) : Int) - (k : Int)) = ((al - 1 - k : Nat) : Int) := by rw [i64_wrap_id (by omega) (by omega)]; omega
        have e4 : IntKind.i64.wrap (8 * ((al - 1 - k : Nat) : Int)) = (s : Int) := by rw [i64_wrap_id (by omega) (by omega)]; omega
        have e5 : IntKind.i64.wrap (8 * (n : Int)) = 8 * (n : Int) := by rw [i64_wrap_id (by omega) (by omega)]
        have e6 : IntKind.u64.wrap (s : Int) = (s : Int) := by rw [bv_wrap 64 .u64 rfl rfl]; omega
        have e7 : IntKind.u64.wrap (8 * (n : Int)) = 8 * (n : Int) := by rw [bv_wrap 64 .u64 rfl rfl]; omega
        have e8 : (8 * (n : Int)) / 2 ^ s % 256 = U (UInt8.ofNat (n * 8 / 2 ^ s)) := by rw [show (8 * (n : Int)) = (n : Int) * 8 from Int.mul_comm _ _]; exact byte_conv n s
        have e9 : min s 64 = s := by omega
        replace e8 := Lib.hid e8
        replace e9 := Lib.hid e9
        generalize (al - 1 : Nat) = a1 at e2 e3 e4
        generalize (a1 - k : Nat) = a2 at e3 e4
        replace hs := Lib.hid hs
        replace hq := Lib.hid hq
        go_enter Try.func98, Try.ntmps98
        go_wp2_with fail
        go_ret
        refine ⟨?_, rfl⟩
        show Ending.returned (.int .u8 (8 * (n : Int) / 2 ^ min s 64 % 256)) = _
        rw [e9.out, e8.out]
      · have hv : atF l al k = 0 := by unfold atF; rw [if_neg (by rw [hl.out]; exact h1), if_neg (by rw [hl.out]; exact h2), if_neg (by omega)]
        rw [hv]
        have i3 : ¬ ((q : Int) ≤ (k : Int)) := by omega
        have i3' : (k : Int) < (q : Int) := by omega
        replace hq := Lib.hid hq
        go_enter Try.func98, Try.ntmps98
        go_wp2_with fail
        go_ret
        exact ⟨rfl, rfl⟩
end Go.Proofs.Ytpeilgeloaogfaa
