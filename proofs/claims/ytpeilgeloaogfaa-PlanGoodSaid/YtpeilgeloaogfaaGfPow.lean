/- Powers, inverses and quotients in the field of 256 elements. -/
import Derived.Test.YtpeilgeloaogfaaGfMath
namespace Go.Proofs.Ytpeilgeloaogfaa

def npow (a : UInt8) : Nat → UInt8
  | 0 => 1
  | n + 1 => gmul (npow a n) a
theorem npow_add (a : UInt8) (m n : Nat) : npow a (m + n) = gmul (npow a m) (npow a n) := by
  induction n with
  | zero => exact (gmul_one_r _).symm
  | succ n ih =>
    show gmul (npow a (m + n)) a = gmul (npow a m) (gmul (npow a n) a)
    rw [ih, gmul_assoc]
theorem npow_one (a : UInt8) : npow a 1 = a := gmul_one_l a
theorem npow_sq (a : UInt8) (n : Nat) : npow (gmul a a) n = npow a (2 * n) := by
  induction n with
  | zero => rfl
  | succ n ih =>
    show gmul (npow (gmul a a) n) (gmul a a) = gmul (gmul (npow a (2 * n)) a) a
    rw [ih, gmul_assoc]
theorem npow_zero_base (n : Nat) (h : 0 < n) : npow 0 n = 0 := by
  cases n with
  | zero => exact absurd h (Nat.lt_irrefl 0)
  | succ n => exact gmul_zero_r _
/-- the rounds keep product times a to the n -/
theorem pst_keeps (a : UInt8) (n : Nat) (k : Nat) : gmul (pst a n k).2.2 (npow (pst a n k).1 (pst a n k).2.1) = npow a n ∧ (pst a n k).2.1 = n / 2 ^ k := by
  induction k with
  | zero => exact ⟨gmul_one_l _, by simp [pst]⟩
  | succ k ih =>
    obtain ⟨h1, h2⟩ := ih
    constructor
    · rw [← h1]
      show gmul (if ((pst a n k).2.1 % 2 != 0) = true then gmul (pst a n k).2.2 (pst a n k).1 else (pst a n k).2.2) (npow (gmul (pst a n k).1 (pst a n k).1) ((pst a n k).2.1 / 2)) = _
      rw [npow_sq]
      by_cases hm : (pst a n k).2.1 % 2 = 0
      · rw [if_neg (by simp [hm]), show 2 * ((pst a n k).2.1 / 2) = (pst a n k).2.1 from by omega]
      · rw [if_pos (by simp; omega), gmul_assoc]
        congr 1
        have e : (pst a n k).2.1 = 1 + 2 * ((pst a n k).2.1 / 2) := by omega
        generalize (pst a n k).2.1 / 2 = q at e
        rw [e, npow_add, npow_one]
    · show (pst a n k).2.1 / 2 = _
      rw [h2, Nat.div_div_eq_div_mul, Nat.pow_succ]
theorem pst_pow (a : UInt8) (n : Nat) (h : n < 256) : (pst a n 8).2.2 = npow a n := by
  have ⟨h1, h2⟩ := pst_keeps a n 8
  rw [Nat.div_eq_of_lt (by simpa using h)] at h2
  rw [h2] at h1
  rw [← h1]
  exact (gmul_one_r _).symm
theorem npow255 (a : UInt8) (h : a ≠ 0) : npow a 255 = 1 := by
  rw [← pst_pow a 255 (by decide)]
  have := all8 (f := fun a => a == 0 || (pst a 255 8).2.2 == 1) (by decide +kernel) a
  simp only [Bool.or_eq_true, beq_iff_eq] at this
  exact this.resolve_left h
theorem npow_mul255 (a : UInt8) (h : a ≠ 0) (q r : Nat) : npow a (255 * q + r) = npow a r := by
  induction q with
  | zero => simp
  | succ q ih =>
    rw [show 255 * (q + 1) + r = 255 + (255 * q + r) from by omega, npow_add, npow255 a h, gmul_one_l, ih]
theorem npow_mod (a : UInt8) (h : a ≠ 0) (n : Nat) : npow a (n % 255) = npow a n := by
  have := npow_mul255 a h (n / 255) (n % 255)
  rw [Nat.div_add_mod] at this
  exact this.symm
theorem gpow_nat (a : UInt8) (n : Nat) : gpow a n = npow a n := by
  unfold gpow
  by_cases h : (n : Int) ≤ 0
  · obtain rfl : n = 0 := by omega
    rw [if_pos h]; rfl
  · rw [if_neg h]
    by_cases ha : a = 0
    · subst ha; rw [if_pos rfl, npow_zero_base n (by omega)]
    · rw [if_neg ha, Int.toNat_natCast, pst_pow _ _ (by omega), npow_mod a ha]
def ginv (b : UInt8) : UInt8 := gpow b 254
theorem gmul_inv (b : UInt8) (h : b ≠ 0) : gmul (ginv b) b = 1 := by
  have : ginv b = npow b 254 := gpow_nat b 254
  rw [this]
  exact npow255 b h
theorem gmul_div (a b : UInt8) (h : b ≠ 0) : gmul (gmul a (ginv b)) b = a := by
  rw [gmul_assoc, gmul_inv b h, gmul_one_r]
theorem gmul_cancel {a b c : UInt8} (h : c ≠ 0) (e : gmul a c = gmul b c) : a = b := by
  have e := congrArg (fun x => gmul x (ginv c)) e
  simp only [gmul_assoc] at e
  rw [gmul_comm c, gmul_inv c h, gmul_one_r, gmul_one_r] at e
  exact e
theorem gmul_eq_zero {a b : UInt8} : gmul a b = 0 ↔ a = 0 ∨ b = 0 := by
  constructor
  · intro h
    by_cases hb : b = 0
    · exact .inr hb
    · exact .inl (gmul_cancel hb (by rw [h, gmul_zero_l]))
  · rintro (h | h)
    · rw [h, gmul_zero_l]
    · rw [h, gmul_zero_r]
theorem gdiv_unique {a b x : UInt8} (h : b ≠ 0) : gmul x b = a ↔ x = gmul a (ginv b) :=
  ⟨fun e => gmul_cancel h (by rw [e, gmul_div a b h]), fun e => by rw [e, gmul_div a b h]⟩
theorem npow2_one (n : Nat) : npow 2 n = 1 ↔ n % 255 = 0 := by
  rw [← npow_mod 2 (by decide)]
  have : chk (fun r => ((pst 2 r 8).2.2 == 1) == (r == 0)) 255 = true := by decide +kernel
  have := chk_all this (n % 255) (Nat.mod_lt _ (by decide))
  rw [pst_pow _ _ (by omega)] at this
  have e := eq_of_beq this
  constructor
  · intro h
    rw [h] at e
    simpa using e.symm
  · intro h
    rw [h] at e ⊢
    rfl
end Go.Proofs.Ytpeilgeloaogfaa
