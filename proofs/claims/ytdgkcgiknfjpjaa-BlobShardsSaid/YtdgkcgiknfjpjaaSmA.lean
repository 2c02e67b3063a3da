/- CRC-32C as plain functions. -/
import Derived.Test.YtdgkcgiknfjpjaaBaseA
import Derived.Test.YtdgkcgiknfjpjaaChecked
namespace Go.Proofs.Ytdgkcgiknfjpjaa

def rep {α : Type} (f : α → α) : Nat → α → α
  | 0, x => x
  | n + 1, x => f (rep f n x)
/-- one bit's step -/
def sft (r : BitVec 32) : BitVec 32 := (r >>> 1) ^^^ (2197175160#32 &&& -(r &&& 1#32))
/-- one byte's step -/
def upd9 (r : BitVec 32) (x : UInt8) : BitVec 32 := rep sft 8 (r ^^^ zx32 x)
def reg (r : BitVec 32) (l : List UInt8) : BitVec 32 := l.foldl upd9 r
def crc (l : List UInt8) : BitVec 32 := ~~~ (reg 4294967295#32 l)
theorem reg_snoc (r : BitVec 32) (l : List UInt8) (x : UInt8) : reg r (l ++ [x]) = upd9 (reg r l) x := by simp [reg]
theorem reg_append (r : BitVec 32) (l m : List UInt8) : reg r (l ++ m) = reg (reg r l) m := by simp [reg]
theorem take_snoc (l : List UInt8) (k : Nat) (h : k < l.length) : l.take (k + 1) = l.take k ++ [l[k]] := by
  rw [List.take_succ_eq_append_getElem h]
theorem reg_take (r : BitVec 32) (l : List UInt8) (k : Nat) (h : k < l.length) : reg r (l.take (k + 1)) = upd9 (reg r (l.take k)) l[k] := by
  rw [take_snoc l k h, reg_snoc]
end Go.Proofs.Ytdgkcgiknfjpjaa
/- The checksum's walk. -/
namespace Go.Proofs.Ytdgkcgiknfjpjaa
open Go Go.RowKit

theorem shift_any (r : BitVec 32) (w : World) :
    Calls Try.prog 76 #[.int .u32 (W r)] w fun e w' => e = .returned (.int .u32 (W (sft r))) ∧ w = w' := by
  go_enter Try.func76, Try.ntmps76
  go_wp2
  go_ret
  exact ⟨rfl, rfl⟩

set_option maxRecDepth 10000 in
theorem sum_any (A : Option Addr) (c : Nat) (l : List UInt8) (w : World) (hr : Rd w w.heap.size A l) (hl : l.length ≤ 9223372036854775807) :
    Calls Try.prog 49 #[.slice A l.length c] w fun e w' => e = .returned (.int .u32 (W (crc l))) ∧ w = w' := by
  have hr := Lib.hid hr
  go_enter Try.func49, Try.ntmps49
  go_wp2
  go_loop [3, 8] (fun r i => ∃ k : Nat, k ≤ l.length ∧ i = .int .i64 k ∧ r = .int .u32 (W (reg 4294967295#32 (l.take k)))) (fun _ i => l.length - (intOf i).toNat)
  case atStart => exact ⟨0, Nat.zero_le _, rfl, rfl⟩
  case round =>
    obtain ⟨k, hk, rfl, rfl⟩ := hrel
    by_cases hlt : k < l.length
    · obtain ⟨ad, rfl, hb, hc⟩ := hr.out.at_ hlt
      have ht := Lib.hid (reg_take 4294967295#32 l k hlt)
      clear hr
      generalize l[k] = x at *
      go_wp2
      go_loop [3, 16] (fun r i => ∃ j : Nat, j ≤ 8 ∧ i = .int .i64 j ∧ r = .int .u32 (W (rep sft j (reg 4294967295#32 (l.take k) ^^^ zx32 x)))) (fun _ i => 8 - (intOf i).toNat)
      case atStart => exact ⟨0, Nat.zero_le _, rfl, rfl⟩
      case round =>
        obtain ⟨j, hj, rfl, rfl⟩ := hrel
        by_cases hlt2 : j < 8
        · go_wp2_with (go_at_call 76; refine (shift_any _ _).mono ?_; rintro e w' ⟨rfl, rfl⟩)
          go_round
          case rel => exact ⟨j + 1, by omega, by go_num, rfl⟩
          case measure => simp [intOf]; omega
        · obtain rfl : j = 8 := by omega
          go_wp2
          go_round
          case rel => exact ⟨k + 1, by omega, by go_num, by rw [ht.out]; rfl⟩
          case measure => simp [intOf]; omega
    · obtain rfl : k = l.length := by omega
      have ht : Hid (l.take l.length = l) := List.take_length
      go_wp2
      go_ret
      exact ⟨rfl, rfl⟩
theorem sum_at (A : Option Addr) (n c : Nat) (l : List UInt8) (hn : l.length = n) (w : World) (hr : Rd w w.heap.size A l) (hl : n ≤ 9223372036854775807) :
    Calls Try.prog 49 #[.slice A n c] w fun e w' => e = .returned (.int .u32 (W (crc l))) ∧ w = w' := by
  subst hn; exact sum_any A c l w hr hl
end Go.Proofs.Ytdgkcgiknfjpjaa
/- The reference's checksum. -/
namespace Go.Proofs.Ytdgkcgiknfjpjaa
open Go Go.RowKit

def bitAt (l : List UInt8) (i : Nat) : BitVec 32 := if h : i / 8 < l.length then zx32 (shr8 l[i / 8] (i % 8)) &&& 1#32 else 0#32
attribute [local go_sem] u8_shrv
/-- one bit's step of the reference -/
def rst (v : BitVec 64) (x : BitVec 32) : BitVec 64 :=
  if ((v <<< 1 ||| zx64 x) >>> 32 == 1#64) = true then (v <<< 1 ||| zx64 x) ^^^ 4812730177#64 else v <<< 1 ||| zx64 x
def rbit (l : List UInt8) (i : Nat) : BitVec 32 := if i < 32 then bitAt l i ^^^ 1#32 else bitAt l i
def rrest (l : List UInt8) : Nat → BitVec 64
  | 0 => 0#64
  | i + 1 => rst (rrest l i) (rbit l i)
def rev (v : BitVec 64) : Nat → BitVec 32
  | 0 => 0#32
  | i + 1 => rev v i <<< 1 ||| lo32 (v >>> i &&& 1#64)
def rcrc (l : List UInt8) : BitVec 32 := ~~~ (rev (rrest l (8 * l.length + 32)) 32)
end Go.Proofs.Ytdgkcgiknfjpjaa
/- The checksum's two forms agree; bursts; sums of three. -/
namespace Go.Proofs.Ytdgkcgiknfjpjaa

theorem ac4 {n : Nat} (x t b p : BitVec n) : ((x ^^^ t) ^^^ b) ^^^ (p ^^^ t) = (x ^^^ p) ^^^ b := by
  ext i hi
  simp only [BitVec.getElem_xor]
  cases x[i] <;> cases t[i] <;> cases b[i] <;> cases p[i] <;> rfl
/-! ### linear maps on numbers of 32 bits -/
def L32 (f : BitVec 32 → BitVec 32) : Prop := ∀ x y, f (x ^^^ y) = f x ^^^ f y
theorem bx4 {n : Nat} (a b c d : BitVec n) : (a ^^^ b) ^^^ (c ^^^ d) = (a ^^^ c) ^^^ (b ^^^ d) := by
  rw [BitVec.xor_assoc, BitVec.xor_assoc, ← BitVec.xor_assoc b, BitVec.xor_comm b c, BitVec.xor_assoc c]
theorem L32.zero {f : BitVec 32 → BitVec 32} (h : L32 f) : f 0#32 = 0#32 := by
  have := h 0#32 0#32
  simpa using this
theorem L32.add {f g : BitVec 32 → BitVec 32} (hf : L32 f) (hg : L32 g) : L32 (fun x => f x ^^^ g x) := fun x y => by
  show f (x ^^^ y) ^^^ g (x ^^^ y) = _
  rw [hf, hg, bx4]
theorem L32.comp {f g : BitVec 32 → BitVec 32} (hf : L32 f) (hg : L32 g) : L32 (fun x => f (g x)) := fun x y => by
  show f (g (x ^^^ y)) = _
  rw [hg, hf]
theorem L32.id : L32 (fun x => x) := fun _ _ => rfl
theorem L32.rep {f : BitVec 32 → BitVec 32} (hf : L32 f) (n : Nat) : L32 (rep f n) := by
  induction n with
  | zero => exact L32.id
  | succ n ih => exact fun x y => L32.comp hf ih x y
theorem lin_zero {m : Nat} {f : BitVec 32 → BitVec m} (h : ∀ x y, f (x ^^^ y) = f x ^^^ f y) : f 0#32 = 0#m := by
  have := h 0#32 0#32
  simpa using this
theorem lin_ext {m : Nat} {f g : BitVec 32 → BitVec m} (hf : ∀ x y, f (x ^^^ y) = f x ^^^ f y) (hg : ∀ x y, g (x ^^^ y) = g x ^^^ g y) (h : ∀ j, j < 32 → f (1#32 <<< j) = g (1#32 <<< j)) (x : BitVec 32) : f x = g x := by
  have main : ∀ k, k ≤ 32 → ∀ x : BitVec 32, x.toNat < 2 ^ k → f x = g x := by
    intro k
    induction k with
    | zero =>
      intro _ x hx
      have e : x = 0#32 := BitVec.eq_of_toNat_eq (by simp at hx ⊢; omega)
      rw [e, lin_zero hf, lin_zero hg]
    | succ k ih =>
      intro hk x hx
      by_cases hlt : x.toNat < 2 ^ k
      · exact ih (by omega) x hlt
      · have ht : (1#32 <<< k).toNat = 2 ^ k := by
          rw [BitVec.toNat_shiftLeft, Nat.shiftLeft_eq]
          show 1 * 2 ^ k % 2 ^ 32 = 2 ^ k
          rw [Nat.one_mul, Nat.mod_eq_of_lt (Nat.pow_lt_pow_right (by decide) (by omega))]
        have e : x = (x ^^^ (1#32 <<< k)) ^^^ (1#32 <<< k) := by rw [BitVec.xor_assoc, BitVec.xor_self, BitVec.xor_zero]
        have hs : (x ^^^ (1#32 <<< k)).toNat < 2 ^ k := by
          rw [BitVec.toNat_xor, ht]
          apply Nat.lt_pow_two_of_testBit
          intro i hi
          rw [Nat.testBit_xor, Nat.testBit_two_pow]
          by_cases hik : k = i
          · subst hik
            have : x.toNat.testBit k = true := by
              rw [Nat.testBit_eq_decide_div_mod_eq]
              have h1 : x.toNat / 2 ^ k = 1 := by
                rw [Nat.pow_succ] at hx
                exact Nat.div_eq_of_lt_le (by omega) (by omega)
              simp [h1]
            simp [this]
          · have : x.toNat.testBit i = false := Nat.testBit_lt_two_pow (Nat.lt_of_lt_of_le hx (Nat.pow_le_pow_right (by decide) (by omega)))
            simp [this, hik]
        rw [e, hf, hg, ih (by omega) _ hs, h k (by omega)]
  exact main 32 (Nat.le_refl _) x x.isLt
def chk9 (f : Nat → Bool) : Nat → Bool
  | 0 => true
  | n + 1 => f n && chk9 f n
theorem chk_all9 {f : Nat → Bool} : ∀ {n : Nat}, chk9 f n = true → ∀ k, k < n → f k = true
  | 0, _, k, h => absurd h (Nat.not_lt_zero k)
  | n + 1, h, k, hk => by
    simp only [chk9, Bool.and_eq_true] at h
    by_cases e : k = n
    · subst e; exact h.1
    · exact chk_all9 h.2 k (by omega)
theorem all89 {f : UInt8 → Bool} (h : chk9 (fun n => f (UInt8.ofNat n)) 256 = true) (x : UInt8) : f x = true := by
  have := chk_all9 h x.toNat x.toNat_lt
  simpa using this
theorem and_xor32 (x y c : BitVec 32) : (x ^^^ y) &&& c = (x &&& c) ^^^ (y &&& c) := by
  ext i hi
  simp only [BitVec.getElem_and, BitVec.getElem_xor]
  cases x[i] <;> cases y[i] <;> cases c[i] <;> rfl
theorem shr_xor32 (x y : BitVec 32) (n : Nat) : (x ^^^ y) >>> n = (x >>> n) ^^^ (y >>> n) := BitVec.ushiftRight_xor_distrib ..
theorem shl_xor32 (x y : BitVec 32) (n : Nat) : (x ^^^ y) <<< n = (x <<< n) ^^^ (y <<< n) := BitVec.shiftLeft_xor_distrib ..
theorem and1_cases (x : BitVec 32) : x &&& 1#32 = 0#32 ∨ x &&& 1#32 = 1#32 := by
  have h : (x &&& 1#32).toNat = x.toNat % 2 := by
    rw [BitVec.toNat_and]
    show x.toNat &&& 2 ^ 1 - 1 = _
    rw [Nat.and_two_pow_sub_one_eq_mod]
  rcases Nat.mod_two_eq_zero_or_one x.toNat with e | e
  · exact .inl (BitVec.eq_of_toNat_eq (by rw [h, e]; rfl))
  · exact .inr (BitVec.eq_of_toNat_eq (by rw [h, e]; rfl))
theorem sft_lin : L32 sft := fun x y => by
  unfold sft
  rw [shr_xor32, and_xor32, bx4]
  congr 1
  rcases and1_cases x with e | e <;> rcases and1_cases y with f | f <;> rw [e, f] <;> decide
/-- times x, the highest factor first -/
def mx (v : BitVec 32) : BitVec 32 := (v <<< 1) ^^^ (517762881#32 &&& -(v >>> 31))
theorem shr31_cases (x : BitVec 32) : x >>> 31 = 0#32 ∨ x >>> 31 = 1#32 := by
  have h : (x >>> 31).toNat = x.toNat / 2 ^ 31 := by rw [BitVec.toNat_ushiftRight, Nat.shiftRight_eq_div_pow]
  have := x.isLt
  rcases (show x.toNat / 2 ^ 31 = 0 ∨ x.toNat / 2 ^ 31 = 1 by omega) with e | e
  · exact .inl (BitVec.eq_of_toNat_eq (by rw [h, e]; rfl))
  · exact .inr (BitVec.eq_of_toNat_eq (by rw [h, e]; rfl))
theorem mx_lin : L32 mx := fun x y => by
  unfold mx
  rw [shl_xor32, shr_xor32, bx4]
  congr 1
  rcases shr31_cases x with e | e <;> rcases shr31_cases y with f | f <;> rw [e, f] <;> decide
theorem mx_small (v : BitVec 32) (h : v.toNat < 2 ^ 31) : mx v = v <<< 1 := by
  have e : v >>> 31 = 0#32 := BitVec.eq_of_toNat_eq (by rw [BitVec.toNat_ushiftRight, Nat.shiftRight_eq_div_pow, Nat.div_eq_of_lt h]; rfl)
  unfold mx
  rw [e]
  simp

/-! ### the reference's rest, in 32 bits -/
theorem bitAt_le (l : List UInt8) (i : Nat) : bitAt l i = 0#32 ∨ bitAt l i = 1#32 := by
  unfold bitAt
  split
  · exact and1_cases _
  · exact .inl rfl
theorem rbit_le (l : List UInt8) (i : Nat) : rbit l i = 0#32 ∨ rbit l i = 1#32 := by
  unfold rbit
  split
  · rcases bitAt_le l i with e | e <;> rw [e] <;> simp
  · exact bitAt_le l i

theorem zx64_xor (a b : BitVec 32) : zx64 (a ^^^ b) = zx64 a ^^^ zx64 b := BitVec.setWidth_xor ..
theorem shr_xor64 (x y : BitVec 64) (n : Nat) : (x ^^^ y) >>> n = (x >>> n) ^^^ (y >>> n) := BitVec.ushiftRight_xor_distrib ..
theorem shl_xor64 (x y : BitVec 64) (n : Nat) : (x ^^^ y) <<< n = (x <<< n) ^^^ (y <<< n) := BitVec.shiftLeft_xor_distrib ..
theorem zx64_shl (v : BitVec 32) : zx64 v <<< 1 = zx64 (v <<< 1) ^^^ (zx64 (v >>> 31) <<< 32) := by
  refine lin_ext (f := fun v => zx64 v <<< 1) (g := fun v => zx64 (v <<< 1) ^^^ (zx64 (v >>> 31) <<< 32)) (fun x y => ?_) (fun x y => ?_) (fun j hj => ?_) v
  · show zx64 (x ^^^ y) <<< 1 = _
    rw [zx64_xor, shl_xor64]
  · show zx64 ((x ^^^ y) <<< 1) ^^^ (zx64 ((x ^^^ y) >>> 31) <<< 32) = _
    rw [shl_xor32, shr_xor32, zx64_xor, zx64_xor, shl_xor64, bx4]
  · have : chk9 (fun j => zx64 (1#32 <<< j) <<< 1 == zx64 ((1#32 <<< j) <<< 1) ^^^ (zx64 ((1#32 <<< j) >>> 31) <<< 32)) 32 = true := by decide +kernel
    exact eq_of_beq (chk_all9 this j hj)
theorem or_one (x : BitVec 64) : x <<< 1 ||| 1#64 = x <<< 1 ^^^ 1#64 := by
  ext i hi
  simp only [BitVec.getElem_or, BitVec.getElem_xor, BitVec.getElem_shiftLeft]
  by_cases h : i < 1
  · simp [h]
  · have : (1#64)[i] = false := by
      rw [BitVec.getElem_one]; simp; omega
    rw [this]; simp
theorem or_bit (x : BitVec 64) (b : BitVec 32) (hb : b = 0#32 ∨ b = 1#32) : x <<< 1 ||| zx64 b = x <<< 1 ^^^ zx64 b := by
  rcases hb with rfl | rfl
  · have : zx64 0#32 = 0#64 := rfl
    rw [this]; simp
  · exact or_one x
theorem zx64_shr (v : BitVec 32) : zx64 v >>> 32 = 0#64 := BitVec.eq_of_toNat_eq (by
  have h : (zx64 v).toNat = v.toNat := by unfold zx64; rw [BitVec.toNat_setWidth]; exact Nat.mod_eq_of_lt (Nat.lt_trans v.isLt (by decide))
  rw [BitVec.toNat_ushiftRight, Nat.shiftRight_eq_div_pow, h, Nat.div_eq_of_lt v.isLt]; rfl)
/-- the rest's step, in 64 bits, is the step in 32 -/
theorem rst_eq (v b : BitVec 32) (hb : b = 0#32 ∨ b = 1#32) : rst (zx64 v) b = zx64 (mx v ^^^ b) := by
  unfold rst
  rw [or_bit _ b hb, zx64_shl]
  have hp : (4812730177#64) = zx64 517762881#32 ^^^ (1#64 <<< 32) := by decide
  rcases shr31_cases v with e | e
  · have em : mx v = v <<< 1 := by unfold mx; rw [e]; simp
    rw [em, e]
    have h0 : zx64 0#32 <<< 32 = 0#64 := by decide
    rw [h0, BitVec.xor_zero, ← zx64_xor, zx64_shr]
    rfl
  · have em : mx v = v <<< 1 ^^^ 517762881#32 := by
      unfold mx; rw [e]
      have : 517762881#32 &&& -1#32 = 517762881#32 := by decide
      rw [this]
    rw [em, e]
    have h0 : zx64 1#32 <<< 32 = 1#64 <<< 32 := by decide
    have h1 : ((zx64 (v <<< 1) ^^^ 1#64 <<< 32) ^^^ zx64 b) >>> 32 = 1#64 := by
      rw [shr_xor64, shr_xor64, zx64_shr, zx64_shr]; decide
    rw [h0, h1, if_pos (by decide), hp, ac4, ← zx64_xor, ← zx64_xor]

def R32 (l : List UInt8) : Nat → BitVec 32
  | 0 => 0#32
  | k + 1 => mx (R32 l k) ^^^ rbit l k
theorem rrest_eq (l : List UInt8) (k : Nat) : rrest l k = zx64 (R32 l k) := by
  induction k with
  | zero => rfl
  | succ k ih => rw [rrest, ih, rst_eq _ _ (rbit_le l k)]; rfl
/-- the rest turned -/
def rv (v : BitVec 32) : BitVec 32 := rev (zx64 v) 32
theorem lo32_xor (a b : BitVec 64) : lo32 (a ^^^ b) = lo32 a ^^^ lo32 b := BitVec.setWidth_xor ..
theorem and_xor64 (x y c : BitVec 64) : (x ^^^ y) &&& c = (x &&& c) ^^^ (y &&& c) := by
  ext i hi
  simp only [BitVec.getElem_and, BitVec.getElem_xor]
  cases x[i] <;> cases y[i] <;> cases c[i] <;> rfl
theorem lo_bit (x : BitVec 64) : lo32 (x &&& 1#64) = 0#32 ∨ lo32 (x &&& 1#64) = 1#32 := by
  have h : (x &&& 1#64).toNat = x.toNat % 2 := by
    rw [BitVec.toNat_and]
    show x.toNat &&& 2 ^ 1 - 1 = _
    rw [Nat.and_two_pow_sub_one_eq_mod]
  rcases Nat.mod_two_eq_zero_or_one x.toNat with e | e
  · left
    have : x &&& 1#64 = 0#64 := BitVec.eq_of_toNat_eq (by rw [h, e]; rfl)
    rw [this]; rfl
  · right
    have : x &&& 1#64 = 1#64 := BitVec.eq_of_toNat_eq (by rw [h, e]; rfl)
    rw [this]; rfl
theorem or_bit32 (x b : BitVec 32) (hb : b = 0#32 ∨ b = 1#32) : x <<< 1 ||| b = x <<< 1 ^^^ b := by
  rcases hb with rfl | rfl
  · simp
  · ext i hi
    simp only [BitVec.getElem_or, BitVec.getElem_xor, BitVec.getElem_shiftLeft]
    by_cases h : i < 1
    · simp [h]
    · have : (1#32)[i] = false := by
        rw [BitVec.getElem_one]; simp; omega
      rw [this]; simp
theorem rev_lin (x y : BitVec 64) (k : Nat) : rev (x ^^^ y) k = rev x k ^^^ rev y k := by
  induction k with
  | zero => simp [rev]
  | succ k ih =>
    rw [rev, rev, rev, or_bit32 _ _ (lo_bit _), or_bit32 _ _ (lo_bit _), or_bit32 _ _ (lo_bit _), ih, shl_xor32, shr_xor64, and_xor64, lo32_xor, bx4]
theorem rv_lin : L32 rv := fun x y => by
  unfold rv
  rw [zx64_xor, rev_lin]
/-- turned, the step to the left is the step to the right -/
theorem rv_mx (v : BitVec 32) : rv (mx v) = sft (rv v) := by
  refine lin_ext (f := fun v => rv (mx v)) (g := fun v => sft (rv v)) (L32.comp rv_lin mx_lin) (L32.comp sft_lin rv_lin) (fun j hj => ?_) v
  have : chk9 (fun j => rv (mx (1#32 <<< j)) == sft (rv (1#32 <<< j))) 32 = true := by decide +kernel
  exact eq_of_beq (chk_all9 this j hj)

/-! ### bit by bit -/
/-- the register, a bit at a time -/
def bitreg (r : BitVec 32) (x : UInt8) : Nat → BitVec 32
  | 0 => r
  | j + 1 => sft (bitreg r x j ^^^ (zx32 (shr8 x j) &&& 1#32))
theorem bitreg_split (r : BitVec 32) (x : UInt8) (j : Nat) : bitreg r x j = rep sft j r ^^^ bitreg 0#32 x j := by
  induction j with
  | zero => simp [bitreg, rep]
  | succ j ih => rw [bitreg, ih, BitVec.xor_assoc, sft_lin]; rfl
theorem upd_bits (r : BitVec 32) (x : UInt8) : upd9 r x = bitreg r x 8 := by
  rw [bitreg_split]
  unfold upd9
  rw [(L32.rep sft_lin 8) r]
  congr 1
  have := all89 (f := fun x => rep sft 8 (zx32 x) == bitreg 0#32 x 8) (by decide +kernel) x
  exact eq_of_beq this
theorem bitAt_in (l : List UInt8) (k j : Nat) (hk : k < l.length) (hj : j < 8) : bitAt l (8 * k + j) = zx32 (shr8 l[k] j) &&& 1#32 := by
  unfold bitAt
  have h1 : (8 * k + j) / 8 = k := by omega
  have h2 : (8 * k + j) % 8 = j := by omega
  simp only [h1, h2, hk, dif_pos]
theorem bitAt_out (l : List UInt8) (i : Nat) (h : 8 * l.length ≤ i) : bitAt l i = 0#32 := by
  unfold bitAt
  rw [dif_neg (by omega)]
/-- the rest without what lies ahead -/
def Q32 (l : List UInt8) : Nat → BitVec 32
  | 0 => 4294967295#32
  | n + 1 => mx (Q32 l n ^^^ (bitAt l n <<< 31))
theorem rv_top (b : BitVec 32) (hb : b = 0#32 ∨ b = 1#32) : rv (b <<< 31) = b := by
  rcases hb with rfl | rfl <;> decide
theorem Q32_byte (l : List UInt8) (k : Nat) (hk : k < l.length) (j : Nat) (hj : j ≤ 8) : rv (Q32 l (8 * k + j)) = bitreg (rv (Q32 l (8 * k))) l[k] j := by
  induction j with
  | zero => rfl
  | succ j ih =>
    rw [show 8 * k + (j + 1) = (8 * k + j) + 1 from rfl, Q32, rv_mx, rv_lin, rv_top _ (bitAt_le l _), ih (by omega), bitAt_in l k j hk (by omega)]
    rfl
theorem Q32_reg (l : List UInt8) (k : Nat) (hk : k ≤ l.length) : rv (Q32 l (8 * k)) = reg 4294967295#32 (l.take k) := by
  induction k with
  | zero =>
    show rv 4294967295#32 = 4294967295#32
    decide +kernel
  | succ k ih =>
    rw [show 8 * (k + 1) = 8 * k + 8 from by omega, Q32_byte l k (by omega) 8 (by omega), ih (by omega), reg_take _ l k (by omega), upd_bits]

/-! ### what lies ahead -/
def win (l : List UInt8) (n : Nat) : Nat → BitVec 32
  | 0 => 0#32
  | k + 1 => (win l n k <<< 1) ^^^ bitAt l (n + k)
theorem lt_shl (x : BitVec 32) (b : BitVec 32) (k : Nat) (hk : k ≤ 31) (hx : x.toNat < 2 ^ k) (hb : b = 0#32 ∨ b = 1#32) : ((x <<< 1) ^^^ b).toNat < 2 ^ (k + 1) := by
  have h31 : 2 ^ (k + 1) ≤ 2 ^ 32 := Nat.pow_le_pow_right (by decide) (by omega)
  have h1 : (x <<< 1).toNat < 2 ^ (k + 1) := by
    rw [BitVec.toNat_shiftLeft, Nat.shiftLeft_eq]
    have e : 2 ^ (k + 1) = 2 ^ k * 2 := Nat.pow_succ ..
    omega
  rw [BitVec.toNat_xor]
  refine Nat.xor_lt_two_pow h1 ?_
  have : b.toNat < 2 := by rcases hb with rfl | rfl <;> decide
  have e : 2 ^ (k + 1) = 2 ^ k * 2 := Nat.pow_succ ..
  have := Nat.two_pow_pos k
  omega
theorem win_lt (l : List UInt8) (n k : Nat) (hk : k ≤ 32) : (win l n k).toNat < 2 ^ k := by
  induction k with
  | zero => show 0 < 1; decide
  | succ k ih => exact lt_shl _ _ k (by omega) (ih (by omega)) (bitAt_le l _)
theorem win_front (l : List UInt8) (n k : Nat) : win l n (k + 1) = (bitAt l n <<< k) ^^^ win l (n + 1) k := by
  induction k with
  | zero => simp [win]
  | succ k ih =>
    rw [win, ih, shl_xor32, BitVec.xor_assoc]
    congr 1
    · rw [BitVec.shiftLeft_add]
    · rw [show n + (k + 1) = n + 1 + k from by omega]; rfl
def ones : Nat → BitVec 32
  | 0 => 0#32
  | k + 1 => (ones k <<< 1) ^^^ 1#32
theorem ones_lt (k : Nat) (hk : k ≤ 32) : (ones k).toNat < 2 ^ k := by
  induction k with
  | zero => show 0 < 1; decide
  | succ k ih => exact lt_shl _ _ k (by omega) (ih (by omega)) (.inr rfl)
theorem R32_first (l : List UInt8) (k : Nat) (hk : k ≤ 32) : R32 l k = ones k ^^^ win l 0 k := by
  induction k with
  | zero => simp [R32, ones, win]
  | succ k ih =>
    have hlt : (ones k ^^^ win l 0 k).toNat < 2 ^ 31 := by
      rw [BitVec.toNat_xor]
      have h1 := ones_lt k (by omega)
      have h2 := win_lt l 0 k (by omega)
      exact Nat.lt_of_lt_of_le (Nat.xor_lt_two_pow h1 h2) (Nat.pow_le_pow_right (by decide) (by omega))
    rw [R32, ih (by omega), mx_small _ hlt, shl_xor32]
    have hr : rbit l k = bitAt l k ^^^ 1#32 := if_pos (by omega)
    rw [hr, ones, win, Nat.zero_add, BitVec.xor_comm (bitAt l k), bx4]
/-- behind 32 bits more the rest is the one without what lies ahead, and what lies ahead -/
theorem R32_Q32 (l : List UInt8) (n : Nat) : R32 l (n + 32) = Q32 l n ^^^ win l n 32 := by
  induction n with
  | zero =>
    rw [Nat.zero_add, R32_first l 32 (by omega)]
    congr 1
  | succ n ih =>
    have hr : rbit l (n + 32) = bitAt l (n + 32) := if_neg (by omega)
    rw [show n + 1 + 32 = (n + 32) + 1 from by omega, R32, ih, hr, win_front l n 31, ← BitVec.xor_assoc, mx_lin, mx_small (win l (n + 1) 31) (win_lt l (n + 1) 31 (by omega)), BitVec.xor_assoc]
    congr 1
theorem win_out (l : List UInt8) (n k : Nat) (h : 8 * l.length ≤ n) : win l n k = 0#32 := by
  induction k with
  | zero => rfl
  | succ k ih => rw [win, ih, bitAt_out l _ (by omega)]; rfl
theorem rcrc_eq (l : List UInt8) : rcrc l = crc l := by
  unfold rcrc crc
  congr 1
  rw [rrest_eq, R32_Q32, win_out l _ _ (Nat.le_refl _), BitVec.xor_zero]
  show rv (Q32 l (8 * l.length)) = _
  rw [Q32_reg l l.length (Nat.le_refl _), List.take_length]

/-! ### the register's step can be turned back; bursts -/
def isf (s : BitVec 32) : BitVec 32 := ((s ^^^ (2197175160#32 &&& -(s >>> 31))) <<< 1) ^^^ (s >>> 31)
theorem isf_lin : L32 isf := fun x y => by
  unfold isf
  have h : 2197175160#32 &&& -((x ^^^ y) >>> 31) = (2197175160#32 &&& -(x >>> 31)) ^^^ (2197175160#32 &&& -(y >>> 31)) := by
    rw [shr_xor32]
    rcases shr31_cases x with e | e <;> rcases shr31_cases y with f | f <;> rw [e, f] <;> decide
  rw [h, bx4, shl_xor32, shr_xor32, bx4]
theorem isf_sft (r : BitVec 32) : isf (sft r) = r := by
  refine lin_ext (f := fun r => isf (sft r)) (g := fun r => r) (L32.comp isf_lin sft_lin) L32.id (fun j hj => ?_) r
  have : chk9 (fun j => isf (sft (1#32 <<< j)) == 1#32 <<< j) 32 = true := by decide +kernel
  exact eq_of_beq (chk_all9 this j hj)
theorem sft_inj {a b : BitVec 32} (h : sft a = sft b) : a = b := by rw [← isf_sft a, h, isf_sft]
theorem rep_sft_inj (n : Nat) {a b : BitVec 32} (h : rep sft n a = rep sft n b) : a = b := by
  induction n with
  | zero => exact h
  | succ n ih => exact ih (sft_inj h)
theorem rep_add {α : Type} (f : α → α) (m n : Nat) (x : α) : rep f (m + n) x = rep f m (rep f n x) := by
  induction m with
  | zero => rw [Nat.zero_add]; rfl
  | succ m ih => rw [Nat.succ_add]; exact congrArg f ih
theorem xor_cancel_r {n : Nat} {a b c : BitVec n} (h : a ^^^ c = b ^^^ c) : a = b := by
  have := congrArg (· ^^^ c) h
  simpa only [BitVec.xor_assoc, BitVec.xor_self, BitVec.xor_zero] using this
theorem xor_cancel_l {n : Nat} {a b c : BitVec n} (h : c ^^^ a = c ^^^ b) : a = b := by
  rw [BitVec.xor_comm c, BitVec.xor_comm c] at h; exact xor_cancel_r h
theorem upd_inj {a b : BitVec 32} {x : UInt8} (h : upd9 a x = upd9 b x) : a = b := xor_cancel_r (rep_sft_inj 8 h)
theorem reg_inj {l : List UInt8} : ∀ {a b : BitVec 32}, reg a l = reg b l → a = b := by
  induction l with
  | nil => exact fun h => h
  | cons x l ih => exact fun h => upd_inj (ih h)
/-- up to four bytes as one number, the lowest first -/
def word : List UInt8 → BitVec 32
  | [] => 0#32
  | x :: d => zx32 x ^^^ (word d <<< 8)
theorem zx32_lt (x : UInt8) : (zx32 x).toNat < 256 := by
  unfold zx32
  rw [BitVec.toNat_setWidth]
  exact Nat.lt_of_le_of_lt (Nat.mod_le _ _) x.toNat_lt
theorem shl8_lt (w : BitVec 32) (k : Nat) (hk : k + 8 ≤ 32) (hw : w.toNat < 2 ^ k) : (w <<< 8).toNat = w.toNat * 256 := by
  have h31 : 2 ^ (k + 8) ≤ 2 ^ 32 := Nat.pow_le_pow_right (by decide) (by omega)
  rw [BitVec.toNat_shiftLeft, Nat.shiftLeft_eq]
  have e : 2 ^ (k + 8) = 2 ^ k * 256 := Nat.pow_add ..
  rw [Nat.mod_eq_of_lt (by omega)]
theorem word_lt : ∀ (d : List UInt8), d.length ≤ 4 → (word d).toNat < 2 ^ (8 * d.length)
  | [], _ => by decide
  | x :: d, h => by
    simp only [List.length_cons] at h
    have ih := word_lt d (by omega)
    have hs := shl8_lt (word d) (8 * d.length) (by omega) ih
    have e : 2 ^ (8 * (x :: d).length) = 2 ^ (8 * d.length) * 256 := by rw [List.length_cons, Nat.mul_add]; exact Nat.pow_add ..
    show (zx32 x ^^^ (word d <<< 8)).toNat < _
    rw [BitVec.toNat_xor, show 8 * (x :: d).length = 8 * d.length + 8 from by rw [List.length_cons]; omega]
    have e2 : 2 ^ (8 * d.length + 8) = 2 ^ (8 * d.length) * 256 := Nat.pow_add ..
    have hp := Nat.two_pow_pos (8 * d.length)
    refine Nat.xor_lt_two_pow ?_ ?_
    · have := zx32_lt x; omega
    · omega
theorem rep8_shl (w : BitVec 32) : rep sft 8 (w <<< 8) = (w <<< 8) >>> 8 := by
  refine lin_ext (f := fun w => rep sft 8 (w <<< 8)) (g := fun w => (w <<< 8) >>> 8) (fun x y => ?_) (fun x y => ?_) (fun j hj => ?_) w
  · show rep sft 8 ((x ^^^ y) <<< 8) = _
    rw [shl_xor32, (L32.rep sft_lin 8)]
  · show ((x ^^^ y) <<< 8) >>> 8 = _
    rw [shl_xor32, shr_xor32]
  · have : chk9 (fun j => rep sft 8 ((1#32 <<< j) <<< 8) == ((1#32 <<< j) <<< 8) >>> 8) 32 = true := by decide +kernel
    exact eq_of_beq (chk_all9 this j hj)
theorem shl_shr8 (w : BitVec 32) (h : w.toNat < 2 ^ 24) : (w <<< 8) >>> 8 = w := BitVec.eq_of_toNat_eq (by
  rw [BitVec.toNat_ushiftRight, shl8_lt w 24 (by omega) h, Nat.shiftRight_eq_div_pow]
  omega)
theorem reg_word : ∀ (d : List UInt8) (r : BitVec 32), d.length ≤ 4 → reg r d = rep sft (8 * d.length) (r ^^^ word d)
  | [], r, _ => by simp [reg, rep, word]
  | x :: d, r, h => by
    simp only [List.length_cons] at h
    have hw := word_lt d (by omega)
    have h24 : (word d).toNat < 2 ^ 24 := Nat.lt_of_lt_of_le hw (Nat.pow_le_pow_right (by decide) (by omega))
    show reg (upd9 r x) d = rep sft (8 * (d.length + 1)) (r ^^^ (zx32 x ^^^ (word d <<< 8)))
    rw [reg_word d _ (by omega), Nat.mul_add, Nat.mul_one, rep_add, ← BitVec.xor_assoc, (L32.rep sft_lin 8), rep8_shl, shl_shr8 _ h24]
    rfl
theorem word_inj : ∀ (d e : List UInt8), d.length = e.length → d.length ≤ 4 → word d = word e → d = e
  | [], [], _, _, _ => rfl
  | x :: d, y :: e, hl, h4, h => by
    simp only [List.length_cons] at hl h4
    have hd := word_lt d (by omega)
    have he := word_lt e (by omega)
    have hd24 : (word d).toNat < 2 ^ 24 := Nat.lt_of_lt_of_le hd (Nat.pow_le_pow_right (by decide) (by omega))
    have he24 : (word e).toNat < 2 ^ 24 := Nat.lt_of_lt_of_le he (Nat.pow_le_pow_right (by decide) (by omega))
    have h8 : zx32 x ^^^ (word d <<< 8) = zx32 y ^^^ (word e <<< 8) := h
    have hs := congrArg (fun v : BitVec 32 => v >>> 8) h8
    simp only [shr_xor32] at hs
    have hz : ∀ x : UInt8, zx32 x >>> 8 = 0#32 := fun x => BitVec.eq_of_toNat_eq (by
      rw [BitVec.toNat_ushiftRight, Nat.shiftRight_eq_div_pow, Nat.div_eq_of_lt (zx32_lt x)]; rfl)
    rw [hz, hz, shl_shr8 _ hd24, shl_shr8 _ he24, BitVec.zero_xor, BitVec.zero_xor] at hs
    rw [hs] at h8
    have hx := xor_cancel_r h8
    have hxy : x = y := by
      have := congrArg BitVec.toNat hx
      unfold zx32 at this
      rw [BitVec.toNat_setWidth, BitVec.toNat_setWidth] at this
      have h1 := x.toNat_lt
      have h2 := y.toNat_lt
      apply UInt8.toNat_inj.mp
      have e1 : x.toBitVec.toNat = x.toNat := rfl
      have e2 : y.toBitVec.toNat = y.toNat := rfl
      rw [e1, e2] at this
      omega
    rw [hxy, word_inj d e (by omega) (by omega) hs]
theorem reg_burst {r : BitVec 32} {d e : List UInt8} (hl : d.length = e.length) (h4 : d.length ≤ 4) (h : reg r d = reg r e) : d = e := by
  rw [reg_word d r h4, reg_word e r (by omega), hl] at h
  exact word_inj d e hl h4 (xor_cancel_l (rep_sft_inj _ h))
theorem crc_inj_reg {x y : List UInt8} (h : crc x = crc y) : reg 4294967295#32 x = reg 4294967295#32 y := by
  have := congrArg (fun v => ~~~ v) h
  simpa [crc] using this
/-- bytes that are changed within four that stand together have another checksum -/
theorem crc_burst {x y : List UInt8} (at_ : Nat) (hl : x.length = y.length) (hs : ∀ i, (i < at_ ∨ at_ + 4 ≤ i) → x[i]? = y[i]?) : crc x = crc y ↔ x = y := by
  constructor
  · intro h
    have h := crc_inj_reg h
    have hp : x.take at_ = y.take at_ := List.ext_getElem? fun i => by
      rw [List.getElem?_take, List.getElem?_take]
      split
      · exact hs i (.inl ‹_›)
      · rfl
    have ht : x.drop (at_ + 4) = y.drop (at_ + 4) := List.ext_getElem? fun i => by
      rw [List.getElem?_drop, List.getElem?_drop]
      exact hs _ (.inr (by omega))
    have hx : x = x.take at_ ++ ((x.drop at_).take 4 ++ x.drop (at_ + 4)) := by
      rw [← List.drop_drop, List.take_append_drop, List.take_append_drop]
    have hy : y = y.take at_ ++ ((y.drop at_).take 4 ++ y.drop (at_ + 4)) := by
      rw [← List.drop_drop, List.take_append_drop, List.take_append_drop]
    rw [hx, hy, reg_append, reg_append, reg_append, reg_append, hp, ht] at h
    have h := reg_inj h
    have hm := reg_burst (by simp [hl]) (by simp; omega) h
    rw [hx, hy, hp, ht, hm]
  · intro h; rw [h]
theorem reg_lin : ∀ (l m : List UInt8), l.length = m.length → ∀ r s : BitVec 32, reg (r ^^^ s) (List.zipWith (· ^^^ ·) l m) = reg r l ^^^ reg s m
  | [], [], _, _, _ => rfl
  | x :: l, y :: m, h, r, s => by
    show reg (upd9 (r ^^^ s) (x ^^^ y)) (List.zipWith (· ^^^ ·) l m) = reg (upd9 r x) l ^^^ reg (upd9 s y) m
    have : upd9 (r ^^^ s) (x ^^^ y) = upd9 r x ^^^ upd9 s y := by
      unfold upd9
      have : zx32 (x ^^^ y) = zx32 x ^^^ zx32 y := BitVec.setWidth_xor ..
      rw [this, bx4, (L32.rep sft_lin 8)]
    rw [this, reg_lin l m (by simpa using h)]
/-- four bytes of a number, the lowest first -/
def bytes4 (s : BitVec 32) : List UInt8 := [lo8 s, lo8 (s >>> 8), lo8 (s >>> 16), lo8 (s >>> 24)]
theorem ac8 (a b c d e f g h : BitVec 32) : (a ^^^ e) ^^^ ((b ^^^ f) ^^^ ((c ^^^ g) ^^^ (d ^^^ h))) = (a ^^^ (b ^^^ (c ^^^ d))) ^^^ (e ^^^ (f ^^^ (g ^^^ h))) := by
  rw [bx4 c g, bx4 b f, bx4 a e]
theorem word_bytes4 (s : BitVec 32) : word (bytes4 s) = s := by
  have lx : ∀ a b : BitVec 32, lo8 (a ^^^ b) = lo8 a ^^^ lo8 b := fun a b => by
    apply UInt8.toBitVec_inj.mp
    show (a ^^^ b).setWidth 8 = a.setWidth 8 ^^^ b.setWidth 8
    exact BitVec.setWidth_xor ..
  have zx : ∀ a b : UInt8, zx32 (a ^^^ b) = zx32 a ^^^ zx32 b := fun a b => BitVec.setWidth_xor ..
  refine lin_ext (f := fun s => word (bytes4 s)) (g := fun s => s) (fun x y => ?_) L32.id (fun j hj => ?_) s
  · simp only [bytes4, word, shr_xor32, lx, zx, shl_xor32]
    simp only [BitVec.zero_shiftLeft, BitVec.xor_zero]
    exact ac8 ..
  · have : chk9 (fun j => word (bytes4 (1#32 <<< j)) == 1#32 <<< j) 32 = true := by decide +kernel
    exact eq_of_beq (chk_all9 this j hj)
/-- behind its own checksum everything has one and the same -/
theorem crc_sealed (l : List UInt8) : crc (l ++ bytes4 (crc l)) = ~~~ (rep sft 32 4294967295#32) := by
  unfold crc
  rw [reg_append, reg_word _ _ (by simp [bytes4]), word_bytes4]
  have : reg 4294967295#32 l ^^^ ~~~ reg 4294967295#32 l = 4294967295#32 := by
    show _ = BitVec.allOnes 32
    ext i hi
    simp only [BitVec.getElem_xor, BitVec.getElem_not, BitVec.getElem_allOnes]
    cases (reg 4294967295#32 l)[i] <;> rfl
  rw [this]
  rfl
end Go.Proofs.Ytdgkcgiknfjpjaa
