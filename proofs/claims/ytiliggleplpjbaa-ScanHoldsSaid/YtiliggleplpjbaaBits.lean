/- Numbers of 32 and 64 bits without sign as BitVec: '.int .u32 (W x)', '.int .u64 (Q x)'. -/
import Derived.Test.YtiliggleplpjbaaLib
namespace Go.Proofs.Ytiliggleplpjbaa
open Go Go.RowKit

/-- wider and narrower, under names of their own -/
def zx32 (x : UInt8) : BitVec 32 := x.toBitVec.setWidth 32
def zx64b (x : UInt8) : BitVec 64 := x.toBitVec.setWidth 64
def zx64 (x : BitVec 32) : BitVec 64 := x.setWidth 64
def lo32 (x : BitVec 64) : BitVec 32 := x.setWidth 32
def lo8 (x : BitVec 32) : UInt8 := UInt8.ofBitVec (x.setWidth 8)
def lo8q (x : BitVec 64) : UInt8 := UInt8.ofBitVec (x.setWidth 8)
theorem bv_wrap (n : Nat) (k : IntKind) (hk : k.bits = n) (hs : k.signed = false) (m : Int) : k.wrap m = m % (2 ^ n : Int) := by
  unfold IntKind.wrap
  rw [hs, hk]; simp

/-- a number of 32 bits as the model holds it -/
def W (x : BitVec 32) : Int := (x.toNat : Int)
theorem W_bd (x : BitVec 32) : 0 ≤ W x ∧ W x ≤ 4294967295 := by have := x.isLt; unfold W; omega
theorem W_inj {x y : BitVec 32} (h : W x = W y) : x = y := BitVec.eq_of_toNat_eq (by unfold W at h; omega)
theorem W_ofNat (m : Nat) (h : m < 4294967296) : W (BitVec.ofNat 32 m) = (m : Int) := by unfold W; rw [BitVec.toNat_ofNat]; omega
theorem u32_bv (x : BitVec 32) : BitVec.ofInt IntKind.u32.bits (W x) = x := by
  apply BitVec.eq_of_toNat_eq
  have := x.isLt
  show (BitVec.ofInt 32 (x.toNat : Int)).toNat = x.toNat
  rw [BitVec.ofInt_natCast, BitVec.toNat_ofNat]; omega
theorem u32_bvl (m : Nat) : BitVec.ofInt IntKind.u32.bits (m : Int) = BitVec.ofNat 32 m := BitVec.ofInt_natCast ..
theorem u32_back (b : BitVec IntKind.u32.bits) (y : BitVec 32) (h : b = y) : IntKind.u32.wrap (b.toNat : Int) = W y := by
  subst h
  rw [bv_wrap 32 .u32 rfl rfl]
  have := b.isLt
  simp only [IntKind.bits] at this
  unfold W
  show (b.toNat : Int) % 2 ^ 32 = (BitVec.toNat (w := 32) b : Int)
  have e : BitVec.toNat (w := 32) b = b.toNat := rfl
  rw [e]; omega
theorem u32_mod (m : Int) (y : BitVec 32) (h : m % 4294967296 = W y) : IntKind.u32.wrap m = W y := by
  rw [bv_wrap 32 .u32 rfl rfl]; exact h
@[go_sem] theorem u32_wrapF (x : BitVec 32) : IntKind.u32.wrap (W x) = W x := u32_mod _ _ (by have := W_bd x; omega)
theorem u32_wrapNat (m : Nat) : IntKind.u32.wrap (m : Int) = W (BitVec.ofNat 32 m) := u32_mod _ _ (by unfold W; rw [BitVec.toNat_ofNat]; omega)
@[go_sem] theorem u32_wrapU (x : UInt8) : IntKind.u32.wrap (U x) = W (zx32 x) := u32_mod _ _ (by
  have := x.toNat_lt
  unfold W U zx32; rw [BitVec.toNat_setWidth]; simp; omega)
@[go_sem] theorem bits_xor_u32 (x y : BitVec 32) : bits .xor .u32 (W x) (W y) = W (x ^^^ y) :=
  u32_back _ _ (by rw [u32_bv, u32_bv]; rfl)
@[go_sem] theorem bits_xor_u32l (x : BitVec 32) (m : Nat) : bits .xor .u32 (W x) (no_index (OfNat.ofNat m : Int)) = W (x ^^^ BitVec.ofNat 32 m) :=
  u32_back _ _ (by rw [u32_bv]; exact congrArg (x ^^^ ·) (u32_bvl m))
@[go_sem] theorem bits_xor_u32r (x : BitVec 32) (m : Nat) : bits .xor .u32 (no_index (OfNat.ofNat m : Int)) (W x) = W (BitVec.ofNat 32 m ^^^ x) :=
  u32_back _ _ (by rw [u32_bv]; exact congrArg (· ^^^ x) (u32_bvl m))
@[go_sem] theorem bits_and_u32 (x y : BitVec 32) : bits .and .u32 (W x) (W y) = W (x &&& y) :=
  u32_back _ _ (by rw [u32_bv, u32_bv]; rfl)
@[go_sem] theorem bits_and_u32l (x : BitVec 32) (m : Nat) : bits .and .u32 (W x) (no_index (OfNat.ofNat m : Int)) = W (x &&& BitVec.ofNat 32 m) :=
  u32_back _ _ (by rw [u32_bv]; exact congrArg (x &&& ·) (u32_bvl m))
@[go_sem] theorem bits_and_u32r (x : BitVec 32) (m : Nat) : bits .and .u32 (no_index (OfNat.ofNat m : Int)) (W x) = W (BitVec.ofNat 32 m &&& x) :=
  u32_back _ _ (by rw [u32_bv]; exact congrArg (· &&& x) (u32_bvl m))
@[go_sem] theorem bits_or_u32 (x y : BitVec 32) : bits .or .u32 (W x) (W y) = W (x ||| y) :=
  u32_back _ _ (by rw [u32_bv, u32_bv]; rfl)
@[go_sem] theorem bits_or_u32l (x : BitVec 32) (m : Nat) : bits .or .u32 (W x) (no_index (OfNat.ofNat m : Int)) = W (x ||| BitVec.ofNat 32 m) :=
  u32_back _ _ (by rw [u32_bv]; exact congrArg (x ||| ·) (u32_bvl m))
@[go_sem] theorem bits_or_u32r (x : BitVec 32) (m : Nat) : bits .or .u32 (no_index (OfNat.ofNat m : Int)) (W x) = W (BitVec.ofNat 32 m ||| x) :=
  u32_back _ _ (by rw [u32_bv]; exact congrArg (· ||| x) (u32_bvl m))
@[go_sem] theorem u32_add (x y : BitVec 32) : IntKind.u32.wrap (W x + W y) = W (x + y) := u32_mod _ _ (by unfold W; rw [BitVec.toNat_add]; omega)
@[go_sem] theorem u32_addl (x : BitVec 32) (m : Nat) : IntKind.u32.wrap (W x + no_index (OfNat.ofNat m : Int)) = W (x + BitVec.ofNat 32 m) := u32_mod _ _ (by
  show (W x + (m : Int)) % 4294967296 = _
  unfold W; rw [BitVec.toNat_add, BitVec.toNat_ofNat]; omega)
@[go_sem] theorem u32_neg (x : BitVec 32) : IntKind.u32.wrap (- W x) = W (-x) := u32_mod _ _ (by unfold W; rw [BitVec.toNat_neg]; have := x.isLt; omega)
@[go_sem] theorem u32_neg0 (x : BitVec 32) : IntKind.u32.wrap (0 - W x) = W (-x) := by rw [Int.zero_sub]; exact u32_neg x
@[go_sem] theorem u32_shl (x : BitVec 32) (j : Nat) : IntKind.u32.wrap (W x * 2 ^ j) = W (x <<< j) := u32_mod _ _ (by
  unfold W; rw [BitVec.toNat_shiftLeft, Nat.shiftLeft_eq]
  rw [show ((2 : Int) ^ j) = ((2 ^ j : Nat) : Int) from by simp]
  generalize 2 ^ j = p
  rw [← Int.natCast_mul]; omega)
@[go_sem] theorem u32_shr (x : BitVec 32) (j : Nat) : W x / 2 ^ j = W (x >>> j) := by
  unfold W; rw [BitVec.toNat_ushiftRight, Nat.shiftRight_eq_div_pow]
  rw [show ((2 : Int) ^ j) = ((2 ^ j : Nat) : Int) from by simp]
  generalize 2 ^ j = p
  omega
@[go_sem] theorem u32_eq (x y : BitVec 32) : (W x == W y) = (x == y) := by
  rw [Bool.eq_iff_iff]; simp only [beq_iff_eq]; exact ⟨W_inj, fun h => by rw [h]⟩
@[go_sem] theorem u32_ne (x y : BitVec 32) : (W x != W y) = (x != y) := by simp only [bne, u32_eq]
@[go_sem] theorem u32_eql (x : BitVec 32) (m : Nat) (h : m < 4294967296) : (W x == (no_index (OfNat.ofNat m : Int))) = (x == BitVec.ofNat 32 m) := by
  have e : (no_index (OfNat.ofNat m : Int)) = W (BitVec.ofNat 32 m) := (W_ofNat m h).symm
  rw [e]; exact u32_eq _ _
@[go_sem] theorem u32_nel (x : BitVec 32) (m : Nat) (h : m < 4294967296) : (W x != (no_index (OfNat.ofNat m : Int))) = (x != BitVec.ofNat 32 m) := by
  simp only [bne, u32_eql x m h]
@[go_sem] theorem u32_shl1 (x : BitVec 32) : IntKind.u32.wrap (W x * (2 : Int)) = W (x <<< 1) := u32_shl x 1
@[go_sem] theorem u32_shr1 (x : BitVec 32) : W x / (2 : Int) = W (x >>> 1) := u32_shr x 1
@[go_sem] theorem u32_shl3 (x : BitVec 32) : IntKind.u32.wrap (W x * (8 : Int)) = W (x <<< 3) := u32_shl x 3
@[go_sem] theorem u32_shr3 (x : BitVec 32) : W x / (8 : Int) = W (x >>> 3) := u32_shr x 3
@[go_sem] theorem u32_shl6 (x : BitVec 32) : IntKind.u32.wrap (W x * (64 : Int)) = W (x <<< 6) := u32_shl x 6
@[go_sem] theorem u32_shr6 (x : BitVec 32) : W x / (64 : Int) = W (x >>> 6) := u32_shr x 6
@[go_sem] theorem u32_shl7 (x : BitVec 32) : IntKind.u32.wrap (W x * (128 : Int)) = W (x <<< 7) := u32_shl x 7
@[go_sem] theorem u32_shr7 (x : BitVec 32) : W x / (128 : Int) = W (x >>> 7) := u32_shr x 7
@[go_sem] theorem u32_shl8 (x : BitVec 32) : IntKind.u32.wrap (W x * (256 : Int)) = W (x <<< 8) := u32_shl x 8
@[go_sem] theorem u32_shr8 (x : BitVec 32) : W x / (256 : Int) = W (x >>> 8) := u32_shr x 8
@[go_sem] theorem u32_shl10 (x : BitVec 32) : IntKind.u32.wrap (W x * (1024 : Int)) = W (x <<< 10) := u32_shl x 10
@[go_sem] theorem u32_shr10 (x : BitVec 32) : W x / (1024 : Int) = W (x >>> 10) := u32_shr x 10
@[go_sem] theorem u32_shl16 (x : BitVec 32) : IntKind.u32.wrap (W x * (65536 : Int)) = W (x <<< 16) := u32_shl x 16
@[go_sem] theorem u32_shr16 (x : BitVec 32) : W x / (65536 : Int) = W (x >>> 16) := u32_shr x 16
@[go_sem] theorem u32_shl18 (x : BitVec 32) : IntKind.u32.wrap (W x * (262144 : Int)) = W (x <<< 18) := u32_shl x 18
@[go_sem] theorem u32_shr18 (x : BitVec 32) : W x / (262144 : Int) = W (x >>> 18) := u32_shr x 18
@[go_sem] theorem u32_shl22 (x : BitVec 32) : IntKind.u32.wrap (W x * (4194304 : Int)) = W (x <<< 22) := u32_shl x 22
@[go_sem] theorem u32_shr22 (x : BitVec 32) : W x / (4194304 : Int) = W (x >>> 22) := u32_shr x 22
@[go_sem] theorem u32_shl24 (x : BitVec 32) : IntKind.u32.wrap (W x * (16777216 : Int)) = W (x <<< 24) := u32_shl x 24
@[go_sem] theorem u32_shr24 (x : BitVec 32) : W x / (16777216 : Int) = W (x >>> 24) := u32_shr x 24
@[go_sem] theorem u32_shl25 (x : BitVec 32) : IntKind.u32.wrap (W x * (33554432 : Int)) = W (x <<< 25) := u32_shl x 25
@[go_sem] theorem u32_shr25 (x : BitVec 32) : W x / (33554432 : Int) = W (x >>> 25) := u32_shr x 25

/-- a number of 64 bits as the model holds it -/
def Q (x : BitVec 64) : Int := (x.toNat : Int)
theorem Q_bd (x : BitVec 64) : 0 ≤ Q x ∧ Q x ≤ 18446744073709551615 := by have := x.isLt; unfold Q; omega
theorem Q_inj {x y : BitVec 64} (h : Q x = Q y) : x = y := BitVec.eq_of_toNat_eq (by unfold Q at h; omega)
theorem Q_ofNat (m : Nat) (h : m < 18446744073709551616) : Q (BitVec.ofNat 64 m) = (m : Int) := by unfold Q; rw [BitVec.toNat_ofNat]; omega
theorem u64_bv (x : BitVec 64) : BitVec.ofInt IntKind.u64.bits (Q x) = x := by
  apply BitVec.eq_of_toNat_eq
  have := x.isLt
  show (BitVec.ofInt 64 (x.toNat : Int)).toNat = x.toNat
  rw [BitVec.ofInt_natCast, BitVec.toNat_ofNat]; omega
theorem u64_bvl (m : Nat) : BitVec.ofInt IntKind.u64.bits (m : Int) = BitVec.ofNat 64 m := BitVec.ofInt_natCast ..
theorem u64_back (b : BitVec IntKind.u64.bits) (y : BitVec 64) (h : b = y) : IntKind.u64.wrap (b.toNat : Int) = Q y := by
  subst h
  rw [bv_wrap 64 .u64 rfl rfl]
  have := b.isLt
  simp only [IntKind.bits] at this
  unfold Q
  show (b.toNat : Int) % 2 ^ 64 = (BitVec.toNat (w := 64) b : Int)
  have e : BitVec.toNat (w := 64) b = b.toNat := rfl
  rw [e]; omega
theorem u64_mod (m : Int) (y : BitVec 64) (h : m % 18446744073709551616 = Q y) : IntKind.u64.wrap m = Q y := by
  rw [bv_wrap 64 .u64 rfl rfl]; exact h
@[go_sem] theorem u64_wrapF (x : BitVec 64) : IntKind.u64.wrap (Q x) = Q x := u64_mod _ _ (by have := Q_bd x; omega)
theorem u64_wrapNat (m : Nat) : IntKind.u64.wrap (m : Int) = Q (BitVec.ofNat 64 m) := u64_mod _ _ (by unfold Q; rw [BitVec.toNat_ofNat]; omega)
@[go_sem] theorem u64_wrapU (x : UInt8) : IntKind.u64.wrap (U x) = Q (zx64b x) := u64_mod _ _ (by
  have := x.toNat_lt
  unfold Q U zx64b; rw [BitVec.toNat_setWidth]; simp; omega)
@[go_sem] theorem bits_xor_u64 (x y : BitVec 64) : bits .xor .u64 (Q x) (Q y) = Q (x ^^^ y) :=
  u64_back _ _ (by rw [u64_bv, u64_bv]; rfl)
@[go_sem] theorem bits_xor_u64l (x : BitVec 64) (m : Nat) : bits .xor .u64 (Q x) (no_index (OfNat.ofNat m : Int)) = Q (x ^^^ BitVec.ofNat 64 m) :=
  u64_back _ _ (by rw [u64_bv]; exact congrArg (x ^^^ ·) (u64_bvl m))
@[go_sem] theorem bits_xor_u64r (x : BitVec 64) (m : Nat) : bits .xor .u64 (no_index (OfNat.ofNat m : Int)) (Q x) = Q (BitVec.ofNat 64 m ^^^ x) :=
  u64_back _ _ (by rw [u64_bv]; exact congrArg (· ^^^ x) (u64_bvl m))
@[go_sem] theorem bits_and_u64 (x y : BitVec 64) : bits .and .u64 (Q x) (Q y) = Q (x &&& y) :=
  u64_back _ _ (by rw [u64_bv, u64_bv]; rfl)
@[go_sem] theorem bits_and_u64l (x : BitVec 64) (m : Nat) : bits .and .u64 (Q x) (no_index (OfNat.ofNat m : Int)) = Q (x &&& BitVec.ofNat 64 m) :=
  u64_back _ _ (by rw [u64_bv]; exact congrArg (x &&& ·) (u64_bvl m))
@[go_sem] theorem bits_and_u64r (x : BitVec 64) (m : Nat) : bits .and .u64 (no_index (OfNat.ofNat m : Int)) (Q x) = Q (BitVec.ofNat 64 m &&& x) :=
  u64_back _ _ (by rw [u64_bv]; exact congrArg (· &&& x) (u64_bvl m))
@[go_sem] theorem bits_or_u64 (x y : BitVec 64) : bits .or .u64 (Q x) (Q y) = Q (x ||| y) :=
  u64_back _ _ (by rw [u64_bv, u64_bv]; rfl)
@[go_sem] theorem bits_or_u64l (x : BitVec 64) (m : Nat) : bits .or .u64 (Q x) (no_index (OfNat.ofNat m : Int)) = Q (x ||| BitVec.ofNat 64 m) :=
  u64_back _ _ (by rw [u64_bv]; exact congrArg (x ||| ·) (u64_bvl m))
@[go_sem] theorem bits_or_u64r (x : BitVec 64) (m : Nat) : bits .or .u64 (no_index (OfNat.ofNat m : Int)) (Q x) = Q (BitVec.ofNat 64 m ||| x) :=
  u64_back _ _ (by rw [u64_bv]; exact congrArg (· ||| x) (u64_bvl m))
@[go_sem] theorem u64_add (x y : BitVec 64) : IntKind.u64.wrap (Q x + Q y) = Q (x + y) := u64_mod _ _ (by unfold Q; rw [BitVec.toNat_add]; omega)
@[go_sem] theorem u64_addl (x : BitVec 64) (m : Nat) : IntKind.u64.wrap (Q x + no_index (OfNat.ofNat m : Int)) = Q (x + BitVec.ofNat 64 m) := u64_mod _ _ (by
  show (Q x + (m : Int)) % 18446744073709551616 = _
  unfold Q; rw [BitVec.toNat_add, BitVec.toNat_ofNat]; omega)
@[go_sem] theorem u64_neg (x : BitVec 64) : IntKind.u64.wrap (- Q x) = Q (-x) := u64_mod _ _ (by unfold Q; rw [BitVec.toNat_neg]; have := x.isLt; omega)
@[go_sem] theorem u64_neg0 (x : BitVec 64) : IntKind.u64.wrap (0 - Q x) = Q (-x) := by rw [Int.zero_sub]; exact u64_neg x
@[go_sem] theorem u64_shl (x : BitVec 64) (j : Nat) : IntKind.u64.wrap (Q x * 2 ^ j) = Q (x <<< j) := u64_mod _ _ (by
  unfold Q; rw [BitVec.toNat_shiftLeft, Nat.shiftLeft_eq]
  rw [show ((2 : Int) ^ j) = ((2 ^ j : Nat) : Int) from by simp]
  generalize 2 ^ j = p
  rw [← Int.natCast_mul]; omega)
@[go_sem] theorem u64_shr (x : BitVec 64) (j : Nat) : Q x / 2 ^ j = Q (x >>> j) := by
  unfold Q; rw [BitVec.toNat_ushiftRight, Nat.shiftRight_eq_div_pow]
  rw [show ((2 : Int) ^ j) = ((2 ^ j : Nat) : Int) from by simp]
  generalize 2 ^ j = p
  omega
@[go_sem] theorem u64_eq (x y : BitVec 64) : (Q x == Q y) = (x == y) := by
  rw [Bool.eq_iff_iff]; simp only [beq_iff_eq]; exact ⟨Q_inj, fun h => by rw [h]⟩
@[go_sem] theorem u64_ne (x y : BitVec 64) : (Q x != Q y) = (x != y) := by simp only [bne, u64_eq]
@[go_sem] theorem u64_eql (x : BitVec 64) (m : Nat) (h : m < 18446744073709551616) : (Q x == (no_index (OfNat.ofNat m : Int))) = (x == BitVec.ofNat 64 m) := by
  have e : (no_index (OfNat.ofNat m : Int)) = Q (BitVec.ofNat 64 m) := (Q_ofNat m h).symm
  rw [e]; exact u64_eq _ _
@[go_sem] theorem u64_nel (x : BitVec 64) (m : Nat) (h : m < 18446744073709551616) : (Q x != (no_index (OfNat.ofNat m : Int))) = (x != BitVec.ofNat 64 m) := by
  simp only [bne, u64_eql x m h]
@[go_sem] theorem u64_shl1 (x : BitVec 64) : IntKind.u64.wrap (Q x * (2 : Int)) = Q (x <<< 1) := u64_shl x 1
@[go_sem] theorem u64_shr1 (x : BitVec 64) : Q x / (2 : Int) = Q (x >>> 1) := u64_shr x 1
@[go_sem] theorem u64_shl3 (x : BitVec 64) : IntKind.u64.wrap (Q x * (8 : Int)) = Q (x <<< 3) := u64_shl x 3
@[go_sem] theorem u64_shr3 (x : BitVec 64) : Q x / (8 : Int) = Q (x >>> 3) := u64_shr x 3
@[go_sem] theorem u64_shl6 (x : BitVec 64) : IntKind.u64.wrap (Q x * (64 : Int)) = Q (x <<< 6) := u64_shl x 6
@[go_sem] theorem u64_shr6 (x : BitVec 64) : Q x / (64 : Int) = Q (x >>> 6) := u64_shr x 6
@[go_sem] theorem u64_shl7 (x : BitVec 64) : IntKind.u64.wrap (Q x * (128 : Int)) = Q (x <<< 7) := u64_shl x 7
@[go_sem] theorem u64_shr7 (x : BitVec 64) : Q x / (128 : Int) = Q (x >>> 7) := u64_shr x 7
@[go_sem] theorem u64_shl8 (x : BitVec 64) : IntKind.u64.wrap (Q x * (256 : Int)) = Q (x <<< 8) := u64_shl x 8
@[go_sem] theorem u64_shr8 (x : BitVec 64) : Q x / (256 : Int) = Q (x >>> 8) := u64_shr x 8
@[go_sem] theorem u64_shl10 (x : BitVec 64) : IntKind.u64.wrap (Q x * (1024 : Int)) = Q (x <<< 10) := u64_shl x 10
@[go_sem] theorem u64_shr10 (x : BitVec 64) : Q x / (1024 : Int) = Q (x >>> 10) := u64_shr x 10
@[go_sem] theorem u64_shl16 (x : BitVec 64) : IntKind.u64.wrap (Q x * (65536 : Int)) = Q (x <<< 16) := u64_shl x 16
@[go_sem] theorem u64_shr16 (x : BitVec 64) : Q x / (65536 : Int) = Q (x >>> 16) := u64_shr x 16
@[go_sem] theorem u64_shl18 (x : BitVec 64) : IntKind.u64.wrap (Q x * (262144 : Int)) = Q (x <<< 18) := u64_shl x 18
@[go_sem] theorem u64_shr18 (x : BitVec 64) : Q x / (262144 : Int) = Q (x >>> 18) := u64_shr x 18
@[go_sem] theorem u64_shl22 (x : BitVec 64) : IntKind.u64.wrap (Q x * (4194304 : Int)) = Q (x <<< 22) := u64_shl x 22
@[go_sem] theorem u64_shr22 (x : BitVec 64) : Q x / (4194304 : Int) = Q (x >>> 22) := u64_shr x 22
@[go_sem] theorem u64_shl24 (x : BitVec 64) : IntKind.u64.wrap (Q x * (16777216 : Int)) = Q (x <<< 24) := u64_shl x 24
@[go_sem] theorem u64_shr24 (x : BitVec 64) : Q x / (16777216 : Int) = Q (x >>> 24) := u64_shr x 24
@[go_sem] theorem u64_shl25 (x : BitVec 64) : IntKind.u64.wrap (Q x * (33554432 : Int)) = Q (x <<< 25) := u64_shl x 25
@[go_sem] theorem u64_shr25 (x : BitVec 64) : Q x / (33554432 : Int) = Q (x >>> 25) := u64_shr x 25
@[go_sem] theorem u64_shl32 (x : BitVec 64) : IntKind.u64.wrap (Q x * (4294967296 : Int)) = Q (x <<< 32) := u64_shl x 32
@[go_sem] theorem u64_shr32 (x : BitVec 64) : Q x / (4294967296 : Int) = Q (x >>> 32) := u64_shr x 32

@[go_sem] theorem u32_compl (x : BitVec 32) : bits .xor .u32 IntKind.u32.max (W x) = W (~~~x) := by
  rw [show IntKind.u32.max = ((4294967295 : Nat) : Int) from by decide]
  exact u32_back _ _ (by rw [u32_bv, u32_bvl]; show BitVec.allOnes 32 ^^^ x = ~~~x; exact BitVec.allOnes_xor)
@[go_sem] theorem u64_compl (x : BitVec 64) : bits .xor .u64 IntKind.u64.max (Q x) = Q (~~~x) := by
  rw [show IntKind.u64.max = ((18446744073709551615 : Nat) : Int) from by decide]
  exact u64_back _ _ (by rw [u64_bv, u64_bvl]; show BitVec.allOnes 64 ^^^ x = ~~~x; exact BitVec.allOnes_xor)
/-- a byte shifted right by any count -/
def shr8 (x : UInt8) (k : Nat) : UInt8 := UInt8.ofNat (x.toNat >>> k)
theorem u8_shrv (x : UInt8) (k : Nat) : U x / 2 ^ k = U (shr8 x k) := by
  unfold U shr8
  have h : x.toNat >>> k < 256 := by
    rw [Nat.shiftRight_eq_div_pow]; exact Nat.lt_of_le_of_lt (Nat.div_le_self _ _) x.toNat_lt
  rw [UInt8.toNat_ofNat', Nat.mod_eq_of_lt h, Nat.shiftRight_eq_div_pow]
  rw [show ((2 : Int) ^ k) = ((2 ^ k : Nat) : Int) from by simp]
  generalize 2 ^ k = p
  omega
@[go_sem] theorem u32_signed : IntKind.u32.signed = false := rfl
@[go_sem] theorem u64_signed : IntKind.u64.signed = false := rfl
@[go_sem] theorem u64_wrapW (x : BitVec 32) : IntKind.u64.wrap (W x) = Q (zx64 x) := u64_mod _ _ (by
  have := x.isLt
  unfold W Q zx64; rw [BitVec.toNat_setWidth]; simp)
@[go_sem] theorem u32_wrapQ (x : BitVec 64) : IntKind.u32.wrap (Q x) = W (lo32 x) := u32_mod _ _ (by
  unfold W Q lo32; rw [BitVec.toNat_setWidth]; simp)
@[go_sem] theorem u8_wrapW (x : BitVec 32) : IntKind.u8.wrap (W x) = U (lo8 x) := by
  rw [IntKind.wrap_u8]
  unfold W U lo8
  have e : (UInt8.ofBitVec (x.setWidth 8)).toNat = x.toNat % 2 ^ 8 := BitVec.toNat_setWidth ..
  rw [e]; omega
@[go_sem] theorem u8_wrapQ (x : BitVec 64) : IntKind.u8.wrap (Q x) = U (lo8q x) := by
  rw [IntKind.wrap_u8]
  unfold Q U lo8q
  have e : (UInt8.ofBitVec (x.setWidth 8)).toNat = x.toNat % 2 ^ 8 := BitVec.toNat_setWidth ..
  rw [e]; omega
end Go.Proofs.Ytiliggleplpjbaa
