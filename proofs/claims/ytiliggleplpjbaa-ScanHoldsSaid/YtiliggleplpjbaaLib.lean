/- Small laws on bytes as UInt8: a byte value is '.int .u8 (U x)'. -/
import Derived.WalkKit
import Derived.Lib.Hide
namespace Go.Proofs.Ytiliggleplpjbaa
open Go Go.RowKit

/-- a byte as the model holds it -/
def U (x : UInt8) : Int := (x.toNat : Int)
theorem U_bd (x : UInt8) : 0 ≤ U x ∧ U x ≤ 255 := by have := x.toNat_lt; unfold U; omega
theorem U_lo (x : UInt8) : 0 ≤ U x := (U_bd x).1
theorem U_hi (x : UInt8) : U x ≤ 255 := (U_bd x).2
theorem U_ofNat (n : Nat) (h : n < 256) : U (UInt8.ofNat n) = (n : Int) := by unfold U; rw [UInt8.toNat_ofNat']; omega
theorem U_inj {x y : UInt8} (h : U x = U y) : x = y := UInt8.toNat_inj.mp (by unfold U at h; omega)
theorem u8_wrap (n : Nat) (h : n < 256) : IntKind.u8.wrap (n : Int) = (n : Int) := by rw [IntKind.wrap_u8]; omega
theorem u8_bv (x : UInt8) : BitVec.ofInt IntKind.u8.bits (U x) = x.toBitVec := by
  apply BitVec.eq_of_toNat_eq
  have := x.toNat_lt
  simp [IntKind.bits, U]
theorem u8_bvl (n : Nat) : BitVec.ofInt IntKind.u8.bits (n : Int) = (UInt8.ofNat n).toBitVec := by
  apply BitVec.eq_of_toNat_eq
  simp [IntKind.bits]
theorem u8_back (b : BitVec IntKind.u8.bits) (y : UInt8) (h : b = y.toBitVec) : IntKind.u8.wrap (b.toNat : Int) = U y := by
  subst h; exact u8_wrap _ y.toNat_lt

@[go_sem] theorem bits_xor_u8 (x y : UInt8) : bits .xor .u8 (U x) (U y) = U (x ^^^ y) :=
  u8_back _ _ (by rw [u8_bv, u8_bv]; rfl)
@[go_sem] theorem bits_and_u8 (x y : UInt8) : bits .and .u8 (U x) (U y) = U (x &&& y) :=
  u8_back _ _ (by rw [u8_bv, u8_bv]; rfl)
@[go_sem] theorem bits_or_u8 (x y : UInt8) : bits .or .u8 (U x) (U y) = U (x ||| y) :=
  u8_back _ _ (by rw [u8_bv, u8_bv]; rfl)
@[go_sem] theorem bits_xor_u8l (x : UInt8) (n : Nat) : bits .xor .u8 (U x) (no_index (OfNat.ofNat n : Int)) = U (x ^^^ UInt8.ofNat n) :=
  u8_back _ _ (by rw [u8_bv]; exact congrArg (x.toBitVec ^^^ ·) (u8_bvl n))
@[go_sem] theorem bits_and_u8l (x : UInt8) (n : Nat) : bits .and .u8 (U x) (no_index (OfNat.ofNat n : Int)) = U (x &&& UInt8.ofNat n) :=
  u8_back _ _ (by rw [u8_bv]; exact congrArg (x.toBitVec &&& ·) (u8_bvl n))
@[go_sem] theorem bits_or_u8l (x : UInt8) (n : Nat) : bits .or .u8 (U x) (no_index (OfNat.ofNat n : Int)) = U (x ||| UInt8.ofNat n) :=
  u8_back _ _ (by rw [u8_bv]; exact congrArg (x.toBitVec ||| ·) (u8_bvl n))
theorem u8_shl (x : UInt8) (k : Nat) (h : k < 8) : (U x * 2 ^ k) % 256 = U (x <<< UInt8.ofNat k) := by
  have e : (x <<< UInt8.ofNat k).toNat = x.toNat * 2 ^ k % 256 := by
    rw [UInt8.toNat_shiftLeft]
    have : (UInt8.ofNat k).toNat % 8 = k := by rw [UInt8.toNat_ofNat']; omega
    rw [this, Nat.shiftLeft_eq]
  unfold U; rw [e]; simp only [Int.natCast_emod, Int.natCast_mul, Int.natCast_pow]; rfl
@[go_sem] theorem u8_shl1 (x : UInt8) : (U x * 2) % 256 = U (x <<< 1) := u8_shl x 1 (by decide)
@[go_sem] theorem u8_shl1w (x : UInt8) : IntKind.u8.wrap (U x * 2) = U (x <<< 1) := by rw [IntKind.wrap_u8]; exact u8_shl1 x
@[go_sem] theorem u8_addw (x y : UInt8) : IntKind.u8.wrap (U x + U y) = U (x + y) := by
  rw [IntKind.wrap_u8]; unfold U; rw [UInt8.toNat_add]; omega
theorem u8_shr (x : UInt8) (k : Nat) (h : k < 8) : U x / 2 ^ k = U (x >>> UInt8.ofNat k) := by
  have e : (x >>> UInt8.ofNat k).toNat = x.toNat / 2 ^ k := by
    rw [UInt8.toNat_shiftRight]
    have : (UInt8.ofNat k).toNat % 8 = k := by rw [UInt8.toNat_ofNat']; omega
    rw [this, Nat.shiftRight_eq_div_pow]
  unfold U; rw [e]; push_cast; rfl
@[go_sem] theorem u8_shr1 (x : UInt8) : U x / 2 = U (x >>> 1) := u8_shr x 1 (by decide)
@[go_sem] theorem u8_eq (x y : UInt8) : (U x == U y) = (x == y) := by
  rw [Bool.eq_iff_iff]; simp only [beq_iff_eq]; exact ⟨U_inj, fun h => by rw [h]⟩
@[go_sem] theorem u8_ne (x y : UInt8) : (U x != U y) = (x != y) := by
  simp only [bne, u8_eq]
@[go_sem] theorem u8_eql (x : UInt8) (n : Nat) (h : n < 256) : (U x == (no_index (OfNat.ofNat n : Int))) = (x == UInt8.ofNat n) := by
  have e : (no_index (OfNat.ofNat n : Int)) = U (UInt8.ofNat n) := (U_ofNat n h).symm
  rw [e]; exact u8_eq _ _
@[go_sem] theorem u8_nel (x : UInt8) (n : Nat) (h : n < 256) : (U x != (no_index (OfNat.ofNat n : Int))) = (x != UInt8.ofNat n) := by
  simp only [bne, u8_eql x n h]
theorem and1_bv (n : Int) : (BitVec.ofInt 64 n &&& BitVec.ofInt 64 1).toNat = (n % 2).toNat := by
  have e : BitVec.ofInt 64 1 = BitVec.ofNat 64 (2 ^ 1 - 1) := rfl
  rw [BitVec.toNat_and, e, BitVec.toNat_ofNat, BitVec.toNat_ofInt]
  have : (2 ^ 1 - 1) % 2 ^ 64 = 2 ^ 1 - 1 := by decide
  rw [this, Nat.and_two_pow_sub_one_eq_mod]
  omega
@[go_sem] theorem bits_and1_i64 (n : Int) : bits .and .i64 n 1 = n % 2 := by
  show IntKind.i64.wrap ((BitVec.ofInt 64 n &&& BitVec.ofInt 64 1).toNat : Int) = n % 2
  rw [and1_bv, IntKind.wrap_i64]
  omega
theorem and1_bv8 (n : Int) : (BitVec.ofInt 8 n &&& BitVec.ofInt 8 1).toNat = (n % 2).toNat := by
  have e : BitVec.ofInt 8 1 = BitVec.ofNat 8 (2 ^ 1 - 1) := rfl
  rw [BitVec.toNat_and, e, BitVec.toNat_ofNat, BitVec.toNat_ofInt]
  have : (2 ^ 1 - 1) % 2 ^ 8 = 2 ^ 1 - 1 := by decide
  rw [this, Nat.and_two_pow_sub_one_eq_mod]
  omega
@[go_sem low] theorem bits_and1_u8 (n : Int) : bits .and .u8 n 1 = n % 2 := by
  show IntKind.u8.wrap ((BitVec.ofInt 8 n &&& BitVec.ofInt 8 1).toNat : Int) = n % 2
  rw [and1_bv8, IntKind.wrap_u8]
  omega
/-- naturals below 2 to the 62 -/
theorem i64_wrap (n : Nat) (h : n < 2 ^ 62) : IntKind.i64.wrap (n : Int) = (n : Int) := by rw [IntKind.wrap_i64]; omega
theorem xor_i64 (a b : Nat) (ha : a < 2 ^ 62) (hb : b < 2 ^ 62) : bits .xor .i64 (a : Int) (b : Int) = ((a ^^^ b : Nat) : Int) := by
  show IntKind.i64.wrap ((BitVec.ofInt 64 (a : Int) ^^^ BitVec.ofInt 64 (b : Int)).toNat : Int) = _
  rw [BitVec.ofInt_natCast, BitVec.ofInt_natCast, BitVec.toNat_xor, BitVec.toNat_ofNat, BitVec.toNat_ofNat,
    Nat.mod_eq_of_lt (Nat.lt_trans ha (by decide)), Nat.mod_eq_of_lt (Nat.lt_trans hb (by decide))]
  exact i64_wrap _ (Nat.xor_lt_two_pow ha hb)
theorem u8_of {a : Int} (h : (Lit.int .u8 a).wf = true) : ∃ x : UInt8, a = U x := by
  simp only [Lit.wf, IntKind.min, IntKind.max, IntKind.signed, IntKind.bits, Bool.and_eq_true] at h
  refine ⟨UInt8.ofNat a.toNat, ?_⟩
  unfold U
  simp at h ⊢; omega
theorem ret_selfv {α : Type} [BEq α] [ReflBEq α] (b : α) : Ending.returned (Value.bool (b == b)) = Ending.returned (Value.bool true) := by rw [beq_self_eq_true]
theorem ret_self (b : Bool) : Ending.returned (Value.bool (b == b)) = Ending.returned (Value.bool true) := by cases b <;> rfl
theorem i64_of {a : Int} (h : (Lit.int .i64 a).wf = true) : -9223372036854775808 ≤ a ∧ a ≤ 9223372036854775807 := by
  simp only [Lit.wf, IntKind.min, IntKind.max, IntKind.signed, IntKind.bits, Bool.and_eq_true] at h
  simp at h; omega
theorem u16_of {a : Int} (h : (Lit.int .u16 a).wf = true) : ∃ n : Nat, a = (n : Int) ∧ n ≤ 65535 := by
  simp only [Lit.wf, IntKind.min, IntKind.max, IntKind.signed, IntKind.bits, Bool.and_eq_true] at h
  refine ⟨a.toNat, ?_⟩
  simp at h ⊢; omega
@[go_sem] theorem u8_wrapU (x : UInt8) : IntKind.u8.wrap (U x) = U x := by rw [IntKind.wrap_u8]; have := U_bd x; omega
@[go_sem] theorem i64_wrapU (x : UInt8) : IntKind.i64.wrap (U x) = U x := by rw [IntKind.wrap_i64]; have := U_bd x; omega
@[go_sem] theorem u8_wrapNat (n : Nat) : IntKind.u8.wrap (n : Int) = U (UInt8.ofNat n) := by
  rw [IntKind.wrap_u8]; unfold U; rw [UInt8.toNat_ofNat']; omega
end Go.Proofs.Ytiliggleplpjbaa
