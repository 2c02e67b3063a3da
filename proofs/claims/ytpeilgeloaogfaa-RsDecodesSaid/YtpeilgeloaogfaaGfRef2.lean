/- The reference's product, power and quotient. -/
import Derived.Test.YtpeilgeloaogfaaGfWalk
namespace Go.Proofs.Ytpeilgeloaogfaa
open Go Go.RowKit

def rin (a b : UInt8) (i q : Nat) : Nat → Nat
  | 0 => q
  | j + 1 => if ((U a / 2 ^ i % 2 == 1) && (U b / 2 ^ j % 2 == 1)) = true then rin a b i q j ^^^ 2 ^ (i + j) else rin a b i q j
def rout (a b : UInt8) : Nat → Nat
  | 0 => 0
  | i + 1 => rin a b i (rout a b i) 8
def rred (q : Nat) : Nat → Nat
  | 0 => q
  | t + 1 => if ((rred q t : Int) / 2 ^ (14 - t) % 2 == 1) = true then rred q t ^^^ (285 * 2 ^ (6 - t)) else rred q t
theorem rin_lt (a b : UInt8) (i q : Nat) (hi : i < 8) (hq : q < 2 ^ 15) (j : Nat) (hj : j ≤ 8) : rin a b i q j < 2 ^ 15 := by
  induction j with
  | zero => exact hq
  | succ j ih =>
    unfold rin
    split
    · exact Nat.xor_lt_two_pow (ih (by omega)) (Nat.pow_lt_pow_right (by decide) (by omega))
    · exact ih (by omega)
theorem rout_lt (a b : UInt8) (i : Nat) (hi : i ≤ 8) : rout a b i < 2 ^ 15 := by
  induction i with
  | zero => show 0 < 2 ^ 15; decide
  | succ i ih => exact rin_lt a b i _ (by omega) (ih (by omega)) 8 (by omega)
theorem rred_lt (q : Nat) (hq : q < 2 ^ 15) (t : Nat) : rred q t < 2 ^ 15 := by
  induction t with
  | zero => exact hq
  | succ t ih =>
    unfold rred
    split
    · refine Nat.xor_lt_two_pow ih ?_
      have h1 : 2 ^ (6 - t) ≤ 2 ^ 6 := Nat.pow_le_pow_right (by decide) (by omega)
      omega
    · exact ih
theorem pow_cast (n : Nat) : (2 : Int) ^ n = ((2 ^ n : Nat) : Int) := by simp
theorem wrap64_pow (n : Nat) (h : n ≤ 60) : wrap64 (2 ^ n) = 2 ^ n := by
  rw [pow_cast]
  have : 2 ^ n ≤ 2 ^ 60 := Nat.pow_le_pow_right (by decide) h
  generalize (2 ^ n : Nat) = m at *
  unfold wrap64
  omega
theorem xor_pow (q n : Nat) (hq : q < 2 ^ 15) (hn : n ≤ 60) : bits .xor .i64 (q : Int) (2 ^ n) = ((q ^^^ 2 ^ n : Nat) : Int) := by
  rw [pow_cast, xor_i64 q _ (by omega)]
  exact Nat.lt_of_le_of_lt (Nat.pow_le_pow_right (by decide) hn) (by decide)
theorem tb (x : UInt8) (j : Nat) : (U x / 2 ^ j % 2 == 1) = x.toNat.testBit j := by
  rw [Nat.testBit_eq_decide_div_mod_eq, pow_cast]
  unfold U
  rw [Bool.eq_iff_iff]; simp only [beq_iff_eq, decide_eq_true_eq]
  omega
theorem tbn (x : Nat) (j : Nat) : ((x : Int) / 2 ^ j % 2 == 1) = x.testBit j := by
  rw [Nat.testBit_eq_decide_div_mod_eq, pow_cast]
  rw [Bool.eq_iff_iff]; simp only [beq_iff_eq, decide_eq_true_eq]
  omega
theorem xor_285 (q n : Nat) (hq : q < 2 ^ 15) (hn : n ≤ 6) : bits .xor .i64 (q : Int) (wrap64 (285 * 2 ^ n)) = ((q ^^^ (285 * 2 ^ n) : Nat) : Int) := by
  have h1 : 2 ^ n ≤ 2 ^ 6 := Nat.pow_le_pow_right (by decide) hn
  have e : (285 * 2 ^ n : Int) = ((285 * 2 ^ n : Nat) : Int) := by simp
  have e2 : wrap64 (285 * 2 ^ n) = ((285 * 2 ^ n : Nat) : Int) := by
    rw [e]; generalize (2 ^ n : Nat) = m at *; unfold wrap64; omega
  rw [e2, xor_i64 q _ (by omega) (by omega)]

def rmul (a b : UInt8) : UInt8 := UInt8.ofNat (rred (rout a b 8) 7)
set_option maxHeartbeats 400000 in
theorem rmul_walk (a b : UInt8) (w : World) :
    Calls Try.prog 81 #[.int .u8 (U a), .int .u8 (U b)] w fun e w' => e = .returned (.int .u8 (U (rmul a b))) ∧ w = w' := by
  go_enter Try.func81, Try.ntmps81
  go_wp2
  go_loop [5, 6] (fun p i => ∃ k : Nat, k ≤ 8 ∧ i = .int .i64 k ∧ p = .int .i64 (rout a b k : Nat)) (fun _ i => 8 - (intOf i).toNat)
  case atStart => exact ⟨0, Nat.zero_le _, rfl, rfl⟩
  case round =>
    obtain ⟨k, hk, rfl, rfl⟩ := hrel
    by_cases hlt : k < 8
    · go_wp2
      go_loop [5, 7] (fun p i => ∃ j : Nat, j ≤ 8 ∧ i = .int .i64 j ∧ p = .int .i64 (rin a b k (rout a b k) j : Nat)) (fun _ i => 8 - (intOf i).toNat)
      case atStart => exact ⟨0, Nat.zero_le _, rfl, rfl⟩
      case round =>
        obtain ⟨j, hj, rfl, rfl⟩ := hrel
        by_cases hlt2 : j < 8
        · have hx := Lib.hid (xor_pow (rin a b k (rout a b k) j) (k + j) (rin_lt a b k _ hlt (rout_lt a b k hk) j hj) (by omega))
          have hw := wrap64_pow (k + j) (by omega)
          cases h1 : (U a / 2 ^ k % 2 == 1) <;> cases h2 : (U b / 2 ^ j % 2 == 1)
          all_goals
            go_wp2
            go_round
            case rel => exact ⟨j + 1, by omega, by go_num, by first | (rw [rin, h1, h2]; rfl) | (rw [rin, h1, h2, hx.out]; rfl)⟩
            case measure => simp [intOf]; omega
        · obtain rfl : j = 8 := by omega
          go_wp2
          go_round
          case rel => exact ⟨k + 1, by omega, by go_num, rfl⟩
          case measure => simp [intOf]; omega
    · obtain rfl : k = 8 := by omega
      go_wp2
      go_loop [5, 8] (fun p i => ∃ t : Nat, t ≤ 7 ∧ i = .int .i64 (14 - t) ∧ p = .int .i64 (rred (rout a b 8) t : Nat)) (fun _ i => (intOf i).toNat)
      case atStart => exact ⟨0, Nat.zero_le _, rfl, rfl⟩
      case round =>
        obtain ⟨t, ht, rfl, rfl⟩ := hrel
        by_cases hlt2 : t < 7
        · have hx := Lib.hid (xor_285 (rred (rout a b 8) t) (14 - t - 8) (rred_lt _ (rout_lt a b 8 (by omega)) t) (by omega))
          have he : Hid (14 - t - 8 = 6 - t) := (show 14 - t - 8 = 6 - t by omega)
          cases h1 : ((rred (rout a b 8) t : Int) / 2 ^ (14 - t) % 2 == 1)
          all_goals
            go_wp2
            go_round
            case rel => exact ⟨t + 1, by omega, by go_num, by first | (rw [rred, h1]; rfl) | (rw [rred, h1, hx.out, he.out]; rfl)⟩
            case measure => simp [intOf]; omega
        · obtain rfl : t = 7 := by omega
          go_wp2
          go_ret
          refine ⟨?_, rfl⟩
          show Ending.returned (Value.int IntKind.u8 _) = _
          congr 2

theorem xor8n (a b c d : Nat) : (a ^^^ b) ^^^ (c ^^^ d) = (a ^^^ c) ^^^ (b ^^^ d) := by
  rw [Nat.xor_assoc, Nat.xor_assoc, ← Nat.xor_assoc b, Nat.xor_comm b c, Nat.xor_assoc c]
/-- 'c if the bit is set' -/
theorem if_xor (p r : Bool) (c : Nat) : (if (p ^^ r) = true then c else 0) = (if p = true then c else 0) ^^^ (if r = true then c else 0) := by
  cases p <;> cases r <;> simp
theorem rin_eq (a b : UInt8) (i q j : Nat) : rin a b i q (j + 1) = rin a b i q j ^^^ (if (a.toNat.testBit i && b.toNat.testBit j) = true then 2 ^ (i + j) else 0) := by
  rw [rin, tb, tb]; split <;> simp
theorem rin_lin_b (a b b' : UInt8) (i q q' j : Nat) : rin a (b ^^^ b') i (q ^^^ q') j = rin a b i q j ^^^ rin a b' i q' j := by
  induction j with
  | zero => rfl
  | succ j ih =>
    rw [rin_eq, rin_eq, rin_eq, ih, UInt8.toNat_xor, Nat.testBit_xor, Bool.and_xor_distrib_left, if_xor, xor8n]
theorem rin_lin_a (a a' b : UInt8) (i q q' j : Nat) : rin (a ^^^ a') b i (q ^^^ q') j = rin a b i q j ^^^ rin a' b i q' j := by
  induction j with
  | zero => rfl
  | succ j ih =>
    rw [rin_eq, rin_eq, rin_eq, ih, UInt8.toNat_xor, Nat.testBit_xor, Bool.and_xor_distrib_right, if_xor, xor8n]
theorem rout_lin_b (a b b' : UInt8) (k : Nat) : rout a (b ^^^ b') k = rout a b k ^^^ rout a b' k := by
  induction k with
  | zero => simp [rout]
  | succ k ih => rw [rout, ih, rin_lin_b]; rfl
theorem rout_lin_a (a a' b : UInt8) (k : Nat) : rout (a ^^^ a') b k = rout a b k ^^^ rout a' b k := by
  induction k with
  | zero => simp [rout]
  | succ k ih => rw [rout, ih, rin_lin_a]; rfl
theorem rred_eq (q t : Nat) : rred q (t + 1) = rred q t ^^^ (if (rred q t).testBit (14 - t) = true then 285 * 2 ^ (6 - t) else 0) := by
  rw [rred, tbn]; split <;> simp
theorem rred_lin (q q' : Nat) (t : Nat) : rred (q ^^^ q') t = rred q t ^^^ rred q' t := by
  induction t with
  | zero => rfl
  | succ t ih => rw [rred_eq, rred_eq, rred_eq, ih, Nat.testBit_xor, if_xor, xor8n]
theorem ofNat_xor (a b : Nat) : UInt8.ofNat (a ^^^ b) = UInt8.ofNat a ^^^ UInt8.ofNat b := by
  apply UInt8.toNat_inj.mp
  rw [UInt8.toNat_xor, UInt8.toNat_ofNat', UInt8.toNat_ofNat', UInt8.toNat_ofNat']
  exact Nat.xor_mod_two_pow ..
theorem rmul_eq (a b : UInt8) : rmul a b = gmul a b := by
  refine Lin.ext (f := fun a => rmul a b) (fun x y => ?_) (gmul_lin_a b) (fun j hj => ?_) a
  · show UInt8.ofNat (rred (rout (x ^^^ y) b 8) 7) = _
    rw [rout_lin_a, rred_lin, ofNat_xor]; rfl
  refine Lin.ext (f := fun b => rmul _ b) (fun x y => ?_) (gmul_lin_b _) (fun i hi => ?_) b
  · show UInt8.ofNat (rred (rout _ (x ^^^ y) 8) 7) = _
    rw [rout_lin_b, rred_lin, ofNat_xor]; rfl
  have : chk (fun j => chk (fun i => rmul (UInt8.ofNat (2 ^ j)) (UInt8.ofNat (2 ^ i)) == gmul (UInt8.ofNat (2 ^ j)) (UInt8.ofNat (2 ^ i))) 8) 8 = true := by decide +kernel
  exact eq_of_beq (chk_all (chk_all this j hj) i hi)
theorem rmul_any (a b : UInt8) (w : World) :
    Calls Try.prog 81 #[.int .u8 (U a), .int .u8 (U b)] w fun e w' => e = .returned (.int .u8 (U (gmul a b))) ∧ w = w' := by
  have := rmul_walk a b w
  rwa [rmul_eq] at this

theorem rmul_at {m : Int} {x : UInt8} (h : U x = m) (y : UInt8) (w : World) :
    Calls Try.prog 81 #[.int .u8 m, .int .u8 (U y)] w fun e w' => e = .returned (.int .u8 (U (gmul x y))) ∧ w = w' := by
  rw [← h]; exact rmul_any x y w
theorem u8_convert (k : Nat) (h : k < 256) : U (UInt8.ofNat k) = (k : Int) := U_ofNat k h
set_option maxRecDepth 10000 in
theorem rdiv_any (a b : UInt8) (w : World) :
    Calls Try.prog 87 #[.int .u8 (U a), .int .u8 (U b)] w fun e w' =>
      e = .returned (if b = 0 then .tuple #[.int .u8 0, .bool false] else .tuple #[.int .u8 (U (gmul a (gpow b 254))), .bool true]) ∧ w = w' := by
  by_cases hb : b = 0
  · subst hb
    rw [if_pos rfl]
    go_enter Try.func87, Try.ntmps87
    go_wp2
    go_ret2
    exact ⟨rfl, rfl⟩
  · have hb' : (b == 0) = false := by simpa using hb
    have hq := Lib.hid (fun x => gdiv_unique (a := a) (x := x) hb)
    have hH := Lib.hid hb
    rw [if_neg hb]
    clear hb
    have hq0 : Hid (ginv b = gpow b 254) := rfl
    generalize gpow b 254 = c at *
    rw [hq0.out] at hq
    go_enter Try.func87, Try.ntmps87
    go_wp2
    go_loop [6] (fun i => ∃ k : Nat, k ≤ (gmul a c).toNat ∧ i = .int .i64 k) (fun i => 256 - (intOf i).toNat)
    case atStart => exact ⟨0, Nat.zero_le _, rfl⟩
    case round =>
      obtain ⟨k, hk, rfl⟩ := hrel
      have hlt := (gmul a c).toNat_lt
      have hk2 : k ≤ 255 := by omega
      have hK := Lib.hid hk
      clear hk hlt
      have hu := Lib.hid (u8_convert k (by omega))
      cases h : (gmul (UInt8.ofNat k) b == a)
      · go_wp2_with (go_at_call 81; refine (rmul_any _ _ _).mono ?_; rintro e w' ⟨rfl, rfl⟩)
        go_round
        case rel =>
          refine ⟨k + 1, ?_, by go_num⟩
          have := hK.out
          have hne : k ≠ (gmul a c).toNat := fun e => by
            have : UInt8.ofNat k = gmul a c := by rw [e]; simp
            rw [(hq.out _).mpr this] at h
            simp at h
          omega
        case measure => simp [intOf]; omega
      · go_wp2_with (go_at_call 81; refine (rmul_any _ _ _).mono ?_; rintro e w' ⟨rfl, rfl⟩)
        go_ret2
        refine ⟨?_, rfl⟩
        have hx := (hq.out _).mp (eq_of_beq h)
        rw [← hx]
        rfl
end Go.Proofs.Ytpeilgeloaogfaa
