/- The field of 256 elements, as plain functions on bytes: what the walks of Mul, Pow and Div compute, and its laws. -/
import Derived.Test.YtdgkcgiknfjpjaaBaseA
import Derived.RangeFuncBox
import Derived.RangeFuncLeaves
import Derived.Shelf.Abstract
import Derived.WalkKit
import Derived.OwnWalkIn
import Derived.TacticsInMore
import Derived.LoopNIn
import Derived.LoopIn
import Derived.Maps.AppendAt
namespace Go.Proofs.Ytdgkcgiknfjpjaa

def chk (f : Nat → Bool) : Nat → Bool
  | 0 => true
  | n + 1 => f n && chk f n
theorem chk_all {f : Nat → Bool} : ∀ {n : Nat}, chk f n = true → ∀ k, k < n → f k = true
  | 0, _, k, h => absurd h (Nat.not_lt_zero k)
  | n + 1, h, k, hk => by
    simp only [chk, Bool.and_eq_true] at h
    by_cases e : k = n
    · subst e; exact h.1
    · exact chk_all h.2 k (by omega)
theorem all8 {f : UInt8 → Bool} (h : chk (fun n => f (UInt8.ofNat n)) 256 = true) (x : UInt8) : f x = true := by
  have := chk_all h x.toNat x.toNat_lt
  simpa using this

/-- times x -/
def tx (a : UInt8) : UInt8 := if (a &&& 128 != 0) = true then (a <<< 1) ^^^ 29 else a <<< 1
/-- the rounds of Mul: (a, b, product) -/
def mst (a b : UInt8) : Nat → UInt8 × UInt8 × UInt8
  | 0 => (a, b, 0)
  | k + 1 => (tx (mst a b k).1, (mst a b k).2.1 >>> 1, if ((mst a b k).2.1 &&& 1 != 0) = true then (mst a b k).2.2 ^^^ (mst a b k).1 else (mst a b k).2.2)
def gmul (a b : UInt8) : UInt8 := (mst a b 8).2.2
/-- the rounds of Pow: (a, n, product) -/
def pst (a : UInt8) (n : Nat) : Nat → UInt8 × Nat × UInt8
  | 0 => (a, n, 1)
  | k + 1 => (gmul (pst a n k).1 (pst a n k).1, (pst a n k).2.1 / 2, if ((pst a n k).2.1 % 2 != 0) = true then gmul (pst a n k).2.2 (pst a n k).1 else (pst a n k).2.2)
def gpow (a : UInt8) (n : Int) : UInt8 := if n ≤ 0 then 1 else if a = 0 then 0 else (pst a (n.toNat % 255) 8).2.2
theorem pst_le (a : UInt8) (n : Nat) (k : Nat) : (pst a n k).2.1 ≤ n := by
  induction k with
  | zero => exact Nat.le_refl _
  | succ k ih => exact Nat.le_trans (Nat.div_le_self _ _) ih

/-! ### linear maps -/
def Lin (f : UInt8 → UInt8) : Prop := ∀ x y, f (x ^^^ y) = f x ^^^ f y
theorem xor8 (a b c d : UInt8) : (a ^^^ b) ^^^ (c ^^^ d) = (a ^^^ c) ^^^ (b ^^^ d) := by
  rw [UInt8.xor_assoc, UInt8.xor_assoc, ← UInt8.xor_assoc b, UInt8.xor_comm b c, UInt8.xor_assoc c]
theorem Lin.zero {f : UInt8 → UInt8} (h : Lin f) : f 0 = 0 := by
  have := h 0 0
  simpa using this
theorem Lin.add {f g : UInt8 → UInt8} (hf : Lin f) (hg : Lin g) : Lin (fun x => f x ^^^ g x) := fun x y => by
  show f (x ^^^ y) ^^^ g (x ^^^ y) = _
  rw [hf, hg, xor8]
theorem Lin.comp {f g : UInt8 → UInt8} (hf : Lin f) (hg : Lin g) : Lin (fun x => f (g x)) := fun x y => by
  show f (g (x ^^^ y)) = _
  rw [hg, hf]
theorem Lin.id : Lin (fun x => x) := fun _ _ => rfl
theorem Lin.const0 : Lin (fun _ => 0) := fun _ _ => by simp
/-- two linear maps that agree on the eight bits agree -/
theorem Lin.ext {f g : UInt8 → UInt8} (hf : Lin f) (hg : Lin g) (h : ∀ j, j < 8 → f (UInt8.ofNat (2 ^ j)) = g (UInt8.ofNat (2 ^ j))) (x : UInt8) : f x = g x := by
  have part : ∀ j, j < 8 → f (x &&& UInt8.ofNat (2 ^ j)) = g (x &&& UInt8.ofNat (2 ^ j)) := fun j hj => by
    have e := all8 (f := fun x => chk (fun j => (x &&& UInt8.ofNat (2 ^ j) == 0) || (x &&& UInt8.ofNat (2 ^ j) == UInt8.ofNat (2 ^ j))) 8) (by decide +kernel) x
    have e := chk_all e j hj
    simp only [Bool.or_eq_true, beq_iff_eq] at e
    rcases e with e | e <;> rw [e]
    · rw [hf.zero, hg.zero]
    · exact h j hj
  have e := all8 (f := fun x => x == (((x &&& 1) ^^^ (x &&& 2)) ^^^ ((x &&& 4) ^^^ (x &&& 8))) ^^^ (((x &&& 16) ^^^ (x &&& 32)) ^^^ ((x &&& 64) ^^^ (x &&& 128)))) (by decide +kernel) x
  rw [eq_of_beq e, hf, hf, hf, hf, hf, hf, hf, hg, hg, hg, hg, hg, hg, hg]
  have p0 := part 0 (by decide); have p1 := part 1 (by decide); have p2 := part 2 (by decide); have p3 := part 3 (by decide)
  have p4 := part 4 (by decide); have p5 := part 5 (by decide); have p6 := part 6 (by decide); have p7 := part 7 (by decide)
  simp only [Nat.pow_zero, Nat.reducePow] at p0 p1 p2 p3 p4 p5 p6 p7
  simp only [UInt8.reduceOfNat] at p0 p1 p2 p3 p4 p5 p6 p7
  rw [p0, p1, p2, p3, p4, p5, p6, p7]

theorem bit_cases (x : UInt8) (j : Nat) (hj : j < 8) : x &&& UInt8.ofNat (2 ^ j) = 0 ∨ x &&& UInt8.ofNat (2 ^ j) = UInt8.ofNat (2 ^ j) := by
  have e := all8 (f := fun x => chk (fun j => (x &&& UInt8.ofNat (2 ^ j) == 0) || (x &&& UInt8.ofNat (2 ^ j) == UInt8.ofNat (2 ^ j))) 8) (by decide +kernel) x
  have e := chk_all e j hj
  simpa only [Bool.or_eq_true, beq_iff_eq] using e
theorem and_xor (x y c : UInt8) : (x ^^^ y) &&& c = (x &&& c) ^^^ (y &&& c) := by
  apply UInt8.toBitVec_inj.mp
  ext i hi
  simp only [UInt8.toBitVec_and, UInt8.toBitVec_xor, BitVec.getElem_and, BitVec.getElem_xor]
  cases x.toBitVec[i] <;> cases y.toBitVec[i] <;> cases c.toBitVec[i] <;> rfl
theorem shl1_xor (x y : UInt8) : (x ^^^ y) <<< 1 = (x <<< 1) ^^^ (y <<< 1) := by
  apply UInt8.toBitVec_inj.mp
  exact BitVec.shiftLeft_xor_distrib ..
theorem shr1_xor (x y : UInt8) : (x ^^^ y) >>> 1 = (x >>> 1) ^^^ (y >>> 1) := by
  apply UInt8.toBitVec_inj.mp
  exact BitVec.ushiftRight_xor_distrib ..
/-- 'c if the bit of x is set' is linear in x -/
theorem lin_bit (j : Nat) (hj : j < 8) (c : UInt8) : Lin (fun x => if (x &&& UInt8.ofNat (2 ^ j) != 0) = true then c else 0) := fun x y => by
  have hb : UInt8.ofNat (2 ^ j) ≠ 0 := by
    have : chk (fun j => UInt8.ofNat (2 ^ j) != 0) 8 = true := by decide +kernel
    simpa using chk_all this j hj
  simp only
  rw [and_xor]
  rcases bit_cases x j hj with e | e <;> rcases bit_cases y j hj with f | f <;> rw [e, f] <;> simp [hb]
theorem tx_lin : Lin tx := by
  have e : tx = fun x : UInt8 => (x <<< 1) ^^^ (if (x &&& UInt8.ofNat (2 ^ 7) != 0) = true then 29 else 0) := by
    funext x
    show (if (x &&& 128 != 0) = true then (x <<< 1) ^^^ 29 else x <<< 1) = (x <<< 1) ^^^ (if (x &&& 128 != 0) = true then 29 else 0)
    split <;> simp
  rw [e]
  exact Lin.add shl1_xor (lin_bit 7 (by decide) 29)
theorem mst_lin_b (a : UInt8) (k : Nat) : Lin (fun b => (mst a b k).2.1) ∧ (∀ b b', (mst a b k).1 = (mst a b' k).1) ∧ Lin (fun b => (mst a b k).2.2) := by
  induction k with
  | zero => exact ⟨Lin.id, fun _ _ => rfl, Lin.const0⟩
  | succ k ih =>
    obtain ⟨h1, h2, h3⟩ := ih
    refine ⟨fun x y => ?_, fun b b' => ?_, fun x y => ?_⟩
    · show (mst a (x ^^^ y) k).2.1 >>> 1 = _
      have := h1 x y
      simp only at this
      rw [this, shr1_xor]; rfl
    · show tx (mst a b k).1 = tx (mst a b' k).1
      rw [h2 b b']
    · have e : ∀ b, (mst a b (k + 1)).2.2 = (mst a b k).2.2 ^^^ (if ((mst a b k).2.1 &&& UInt8.ofNat (2 ^ 0) != 0) = true then (mst a 0 k).1 else 0) := fun b => by
        show (if ((mst a b k).2.1 &&& 1 != 0) = true then (mst a b k).2.2 ^^^ (mst a b k).1 else (mst a b k).2.2) = (mst a b k).2.2 ^^^ (if ((mst a b k).2.1 &&& 1 != 0) = true then (mst a 0 k).1 else 0)
        rw [h2 b 0]
        split <;> simp
      simp only [e]
      exact Lin.add (g := fun b => if ((mst a b k).2.1 &&& UInt8.ofNat (2 ^ 0) != 0) = true then (mst a 0 k).1 else 0) h3 (Lin.comp (lin_bit 0 (by decide) _) h1) x y
theorem gmul_lin_b (a : UInt8) : Lin (fun b => gmul a b) := (mst_lin_b a 8).2.2
theorem mst_lin_a (b : UInt8) (k : Nat) : Lin (fun a => (mst a b k).1) ∧ (∀ a a', (mst a b k).2.1 = (mst a' b k).2.1) ∧ Lin (fun a => (mst a b k).2.2) := by
  induction k with
  | zero => exact ⟨Lin.id, fun _ _ => rfl, Lin.const0⟩
  | succ k ih =>
    obtain ⟨h1, h2, h3⟩ := ih
    refine ⟨Lin.comp tx_lin h1, fun a a' => ?_, fun x y => ?_⟩
    · show (mst a b k).2.1 >>> 1 = (mst a' b k).2.1 >>> 1
      rw [h2 a a']
    · have e : ∀ a, (mst a b (k + 1)).2.2 = (mst a b k).2.2 ^^^ (if ((mst 0 b k).2.1 &&& 1 != 0) = true then (mst a b k).1 else 0) := fun a => by
        show (if ((mst a b k).2.1 &&& 1 != 0) = true then (mst a b k).2.2 ^^^ (mst a b k).1 else (mst a b k).2.2) = _
        rw [h2 a 0]
        split <;> simp
      simp only [e]
      refine Lin.add (g := fun a => if ((mst 0 b k).2.1 &&& 1 != 0) = true then (mst a b k).1 else 0) h3 ?_ x y
      by_cases hc : ((mst 0 b k).2.1 &&& 1 != 0) = true
      · simp only [hc, if_true]; exact h1
      · simp only [hc]; exact Lin.const0
theorem gmul_lin_a (b : UInt8) : Lin (fun a => gmul a b) := (mst_lin_a b 8).2.2
theorem gmul_xor_r (a b c : UInt8) : gmul a (b ^^^ c) = gmul a b ^^^ gmul a c := gmul_lin_b a b c
theorem gmul_xor_l (a b c : UInt8) : gmul (a ^^^ b) c = gmul a c ^^^ gmul b c := gmul_lin_a c a b
theorem gmul_zero_l (b : UInt8) : gmul 0 b = 0 := (gmul_lin_a b).zero
theorem gmul_zero_r (a : UInt8) : gmul a 0 = 0 := (gmul_lin_b a).zero
theorem gmul_one_r (a : UInt8) : gmul a 1 = a := by
  refine Lin.ext (gmul_lin_a 1) Lin.id (fun j hj => ?_) a
  have : chk (fun j => gmul (UInt8.ofNat (2 ^ j)) 1 == UInt8.ofNat (2 ^ j)) 8 = true := by decide +kernel
  exact eq_of_beq (chk_all this j hj)
theorem gmul_comm (a b : UInt8) : gmul a b = gmul b a := by
  refine Lin.ext (gmul_lin_a b) (gmul_lin_b b) (fun j hj => ?_) a
  refine Lin.ext (gmul_lin_b _) (gmul_lin_a _) (fun i hi => ?_) b
  have : chk (fun j => chk (fun i => gmul (UInt8.ofNat (2 ^ j)) (UInt8.ofNat (2 ^ i)) == gmul (UInt8.ofNat (2 ^ i)) (UInt8.ofNat (2 ^ j))) 8) 8 = true := by decide +kernel
  exact eq_of_beq (chk_all (chk_all this j hj) i hi)
theorem gmul_one_l (a : UInt8) : gmul 1 a = a := by rw [gmul_comm, gmul_one_r]
theorem gmul_assoc (a b c : UInt8) : gmul (gmul a b) c = gmul a (gmul b c) := by
  refine Lin.ext (f := fun a => gmul (gmul a b) c) (Lin.comp (gmul_lin_a c) (gmul_lin_a b)) (gmul_lin_a _) (fun j hj => ?_) a
  refine Lin.ext (f := fun b => gmul (gmul (UInt8.ofNat (2 ^ j)) b) c) (g := fun b => gmul (UInt8.ofNat (2 ^ j)) (gmul b c)) (Lin.comp (gmul_lin_a c) (gmul_lin_b _)) (Lin.comp (gmul_lin_b _) (gmul_lin_a c)) (fun i hi => ?_) b
  refine Lin.ext (f := fun c => gmul (gmul (UInt8.ofNat (2 ^ j)) (UInt8.ofNat (2 ^ i))) c) (g := fun c => gmul (UInt8.ofNat (2 ^ j)) (gmul (UInt8.ofNat (2 ^ i)) c)) (gmul_lin_b _) (Lin.comp (gmul_lin_b _) (gmul_lin_b _)) (fun l hl => ?_) c
  have : chk (fun j => chk (fun i => chk (fun l => gmul (gmul (UInt8.ofNat (2 ^ j)) (UInt8.ofNat (2 ^ i))) (UInt8.ofNat (2 ^ l)) == gmul (UInt8.ofNat (2 ^ j)) (gmul (UInt8.ofNat (2 ^ i)) (UInt8.ofNat (2 ^ l)))) 8) 8) 8 = true := by decide +kernel
  exact eq_of_beq (chk_all (chk_all (chk_all this j hj) i hi) l hl)
end Go.Proofs.Ytdgkcgiknfjpjaa
/- Powers, inverses and quotients in the field of 256 elements. -/
namespace Go.Proofs.Ytdgkcgiknfjpjaa

def npow (a : UInt8) : Nat → UInt8
  | 0 => 1
  | n + 1 => gmul (npow a n) a
theorem npow_add (a : UInt8) (m n : Nat) : npow a (m + n) = gmul (npow a m) (npow a n) := by
  induction n with
  | zero => exact (gmul_one_r _).symm
  | succ n ih =>
    show gmul (npow a (m + n)) a = gmul (npow a m) (gmul (npow a n) a)
    rw [ih, gmul_assoc]
theorem npow_one (a : UInt8) : npow a 1 = a := gmul_one_l a
theorem npow_sq (a : UInt8) (n : Nat) : npow (gmul a a) n = npow a (2 * n) := by
  induction n with
  | zero => rfl
  | succ n ih =>
    show gmul (npow (gmul a a) n) (gmul a a) = gmul (gmul (npow a (2 * n)) a) a
    rw [ih, gmul_assoc]
theorem npow_zero_base (n : Nat) (h : 0 < n) : npow 0 n = 0 := by
  cases n with
  | zero => exact absurd h (Nat.lt_irrefl 0)
  | succ n => exact gmul_zero_r _
/-- the rounds keep product times a to the n -/
theorem pst_keeps (a : UInt8) (n : Nat) (k : Nat) : gmul (pst a n k).2.2 (npow (pst a n k).1 (pst a n k).2.1) = npow a n ∧ (pst a n k).2.1 = n / 2 ^ k := by
  induction k with
  | zero => exact ⟨gmul_one_l _, by simp [pst]⟩
  | succ k ih =>
    obtain ⟨h1, h2⟩ := ih
    constructor
    · rw [← h1]
      show gmul (if ((pst a n k).2.1 % 2 != 0) = true then gmul (pst a n k).2.2 (pst a n k).1 else (pst a n k).2.2) (npow (gmul (pst a n k).1 (pst a n k).1) ((pst a n k).2.1 / 2)) = _
      rw [npow_sq]
      by_cases hm : (pst a n k).2.1 % 2 = 0
      · rw [if_neg (by simp [hm]), show 2 * ((pst a n k).2.1 / 2) = (pst a n k).2.1 from by omega]
      · rw [if_pos (by simp; omega), gmul_assoc]
        congr 1
        have e : (pst a n k).2.1 = 1 + 2 * ((pst a n k).2.1 / 2) := by omega
        generalize (pst a n k).2.1 / 2 = q at e
        rw [e, npow_add, npow_one]
    · show (pst a n k).2.1 / 2 = _
      rw [h2, Nat.div_div_eq_div_mul, Nat.pow_succ]
theorem pst_pow (a : UInt8) (n : Nat) (h : n < 256) : (pst a n 8).2.2 = npow a n := by
  have ⟨h1, h2⟩ := pst_keeps a n 8
  rw [Nat.div_eq_of_lt (by simpa using h)] at h2
  rw [h2] at h1
  rw [← h1]
  exact (gmul_one_r _).symm
theorem npow255 (a : UInt8) (h : a ≠ 0) : npow a 255 = 1 := by
  rw [← pst_pow a 255 (by decide)]
  have := all8 (f := fun a => a == 0 || (pst a 255 8).2.2 == 1) (by decide +kernel) a
  simp only [Bool.or_eq_true, beq_iff_eq] at this
  exact this.resolve_left h
theorem npow_mul255 (a : UInt8) (h : a ≠ 0) (q r : Nat) : npow a (255 * q + r) = npow a r := by
  induction q with
  | zero => simp
  | succ q ih =>
    rw [show 255 * (q + 1) + r = 255 + (255 * q + r) from by omega, npow_add, npow255 a h, gmul_one_l, ih]
theorem npow_mod (a : UInt8) (h : a ≠ 0) (n : Nat) : npow a (n % 255) = npow a n := by
  have := npow_mul255 a h (n / 255) (n % 255)
  rw [Nat.div_add_mod] at this
  exact this.symm
theorem gpow_nat (a : UInt8) (n : Nat) : gpow a n = npow a n := by
  unfold gpow
  by_cases h : (n : Int) ≤ 0
  · obtain rfl : n = 0 := by omega
    rw [if_pos h]; rfl
  · rw [if_neg h]
    by_cases ha : a = 0
    · subst ha; rw [if_pos rfl, npow_zero_base n (by omega)]
    · rw [if_neg ha, Int.toNat_natCast, pst_pow _ _ (by omega), npow_mod a ha]
def ginv (b : UInt8) : UInt8 := gpow b 254
theorem gmul_inv (b : UInt8) (h : b ≠ 0) : gmul (ginv b) b = 1 := by
  have : ginv b = npow b 254 := gpow_nat b 254
  rw [this]
  exact npow255 b h
theorem gmul_div (a b : UInt8) (h : b ≠ 0) : gmul (gmul a (ginv b)) b = a := by
  rw [gmul_assoc, gmul_inv b h, gmul_one_r]
theorem gmul_cancel {a b c : UInt8} (h : c ≠ 0) (e : gmul a c = gmul b c) : a = b := by
  have e := congrArg (fun x => gmul x (ginv c)) e
  simp only [gmul_assoc] at e
  rw [gmul_comm c, gmul_inv c h, gmul_one_r, gmul_one_r] at e
  exact e
theorem gmul_eq_zero {a b : UInt8} : gmul a b = 0 ↔ a = 0 ∨ b = 0 := by
  constructor
  · intro h
    by_cases hb : b = 0
    · exact .inr hb
    · exact .inl (gmul_cancel hb (by rw [h, gmul_zero_l]))
  · rintro (h | h)
    · rw [h, gmul_zero_l]
    · rw [h, gmul_zero_r]
theorem gdiv_unique {a b x : UInt8} (h : b ≠ 0) : gmul x b = a ↔ x = gmul a (ginv b) :=
  ⟨fun e => gmul_cancel h (by rw [e, gmul_div a b h]), fun e => by rw [e, gmul_div a b h]⟩
theorem npow2_one (n : Nat) : npow 2 n = 1 ↔ n % 255 = 0 := by
  rw [← npow_mod 2 (by decide)]
  have : chk (fun r => ((pst 2 r 8).2.2 == 1) == (r == 0)) 255 = true := by decide +kernel
  have := chk_all this (n % 255) (Nat.mod_lt _ (by decide))
  rw [pst_pow _ _ (by omega)] at this
  have e := eq_of_beq this
  constructor
  · intro h
    rw [h] at e
    simpa using e.symm
  · intro h
    rw [h] at e ⊢
    rfl
end Go.Proofs.Ytdgkcgiknfjpjaa
/- Matrices over the field of 256 elements, as plain functions. -/
namespace Go.Proofs.Ytdgkcgiknfjpjaa
set_option linter.unusedVariables false

theorem xx (a : UInt8) : a ^^^ a = 0 := UInt8.xor_self
theorem x0 (a : UInt8) : a ^^^ 0 = a := UInt8.xor_zero
theorem zx (a : UInt8) : 0 ^^^ a = a := UInt8.zero_xor
theorem xc (a b : UInt8) : a ^^^ b = b ^^^ a := UInt8.xor_comm a b
theorem xa (a b c : UInt8) : (a ^^^ b) ^^^ c = a ^^^ (b ^^^ c) := UInt8.xor_assoc a b c
theorem xeq {a b : UInt8} (h : a ^^^ b = 0) : a = b := by
  have h2 : (a ^^^ b) ^^^ b = 0 ^^^ b := by rw [h]
  rwa [xa, xx, x0, zx] at h2
theorem xne {a b : UInt8} (h : a ≠ b) : a ^^^ b ≠ 0 := fun e => h (xeq e)
theorem x_move {a b c : UInt8} (h : a ^^^ b = c) : a = c ^^^ b := by rw [← h, xa, xx, x0]
/-- the sum of the first n -/
def gsum : Nat → (Nat → UInt8) → UInt8
  | 0, _ => 0
  | n + 1, f => gsum n f ^^^ f n
theorem gsum_succ (n : Nat) (f : Nat → UInt8) : gsum (n + 1) f = gsum n f ^^^ f n := rfl
theorem gsum_congr {n : Nat} {f g : Nat → UInt8} (h : ∀ k, k < n → f k = g k) : gsum n f = gsum n g := by
  induction n with
  | zero => rfl
  | succ n ih => unfold gsum; rw [ih (fun k hk => h k (by omega)), h n (by omega)]
theorem gsum_zero {n : Nat} {f : Nat → UInt8} (h : ∀ k, k < n → f k = 0) : gsum n f = 0 := by
  induction n with
  | zero => rfl
  | succ n ih => unfold gsum; rw [ih (fun k hk => h k (by omega)), h n (by omega), x0]
theorem gsum_xor (n : Nat) (f g : Nat → UInt8) : gsum n (fun k => f k ^^^ g k) = gsum n f ^^^ gsum n g := by
  induction n with
  | zero => exact (xx 0).symm
  | succ n ih => unfold gsum; rw [ih, xor8]
theorem gsum_mul_l (c : UInt8) (n : Nat) (f : Nat → UInt8) : gsum n (fun k => gmul c (f k)) = gmul c (gsum n f) := by
  induction n with
  | zero => unfold gsum; rw [gmul_zero_r]
  | succ n ih => unfold gsum; rw [ih, gmul_xor_r]
theorem gsum_mul_r (c : UInt8) (n : Nat) (f : Nat → UInt8) : gsum n (fun k => gmul (f k) c) = gmul (gsum n f) c := by
  induction n with
  | zero => unfold gsum; rw [gmul_zero_l]
  | succ n ih => unfold gsum; rw [ih, gmul_xor_l]
theorem gsum_swap (n m : Nat) (f : Nat → Nat → UInt8) : gsum n (fun i => gsum m (fun j => f i j)) = gsum m (fun j => gsum n (fun i => f i j)) := by
  induction n with
  | zero => exact (gsum_zero (fun _ _ => rfl)).symm
  | succ n ih =>
    have e : (fun j => gsum (n + 1) (fun i => f i j)) = fun j => gsum n (fun i => f i j) ^^^ f n j := rfl
    rw [e, gsum_xor, ← ih]
    rfl
theorem gsum_one {n i : Nat} (hi : i < n) (f : Nat → UInt8) (h : ∀ k, k < n → k ≠ i → f k = 0) : gsum n f = f i := by
  induction n with
  | zero => omega
  | succ n ih =>
    unfold gsum
    by_cases e : i = n
    · subst e
      rw [gsum_zero (fun k hk => h k (by omega) (by omega)), zx]
    · rw [ih (by omega) (fun k hk hne => h k (by omega) hne), h n (by omega) (by omega), x0]
abbrev Mx := Nat → Nat → UInt8
def mm (n : Nat) (A B : Mx) : Mx := fun i j => gsum n (fun k => gmul (A i k) (B k j))
def idM : Mx := fun i j => if i = j then 1 else 0
theorem mm_assoc (n m : Nat) (A B C : Mx) (i j : Nat) : mm m (mm n A B) C i j = mm n A (mm m B C) i j := by
  unfold mm
  have h1 : (fun k => gmul (gsum n (fun l => gmul (A i l) (B l k))) (C k j)) = fun k => gsum n (fun l => gmul (A i l) (gmul (B l k) (C k j))) := by
    funext k
    rw [← gsum_mul_r]
    exact gsum_congr (fun l _ => gmul_assoc _ _ _)
  have h2 : (fun l => gmul (A i l) (gsum m (fun k => gmul (B l k) (C k j)))) = fun l => gsum m (fun k => gmul (A i l) (gmul (B l k) (C k j))) := by
    funext l
    rw [← gsum_mul_l]
  rw [h1, h2, gsum_swap]
theorem mm_id_l {n i : Nat} (hi : i < n) (A : Mx) (j : Nat) : mm n idM A i j = A i j := by
  unfold mm
  rw [gsum_one hi _ (fun k hk hne => by unfold idM; rw [if_neg (by omega), gmul_zero_l])]
  unfold idM
  rw [if_pos rfl, gmul_one_l]
theorem mm_id_r {n j : Nat} (hj : j < n) (A : Mx) (i : Nat) : mm n A idM i j = A i j := by
  unfold mm
  rw [gsum_one hj _ (fun k hk hne => by unfold idM; rw [if_neg (by omega), gmul_zero_r])]
  unfold idM
  rw [if_pos rfl, gmul_one_r]
theorem mm_congr {n : Nat} {A A' B B' : Mx} {i j : Nat} (h : ∀ k, k < n → A i k = A' i k) (h2 : ∀ k, k < n → B k j = B' k j) : mm n A B i j = mm n A' B' i j :=
  gsum_congr (fun k hk => by rw [h k hk, h2 k hk])
/-- a vector's image -/
def mv (n : Nat) (A : Mx) (v : Nat → UInt8) (i : Nat) : UInt8 := gsum n (fun k => gmul (A i k) (v k))
/-- no vector but none is sent to none -/
def NoKer (n : Nat) (A : Mx) : Prop := ∀ v : Nat → UInt8, (∀ i, i < n → mv n A v i = 0) → ∀ i, i < n → v i = 0
def HasKer (n : Nat) (A : Mx) : Prop := ∃ v : Nat → UInt8, (∀ i, i < n → mv n A v i = 0) ∧ ∃ i, i < n ∧ v i ≠ 0
theorem not_both {n : Nat} {A : Mx} (h : NoKer n A) (h2 : HasKer n A) : False := by
  obtain ⟨v, hv, i, hi, hn⟩ := h2
  exact hn (h v hv i hi)
def EqM (n m : Nat) (A B : Mx) : Prop := ∀ i j, i < n → j < m → A i j = B i j
theorem mv_mm (n : Nat) (A B : Mx) (v : Nat → UInt8) (i : Nat) : mv n (mm n A B) v i = mv n A (mv n B v) i :=
  mm_assoc n n A B (fun k _ => v k) i 0
theorem mv_congr {n : Nat} {A B : Mx} {v u : Nat → UInt8} {i : Nat} (h : ∀ k, k < n → A i k = B i k) (h2 : ∀ k, k < n → v k = u k) : mv n A v i = mv n B u i :=
  gsum_congr (fun k hk => by rw [h k hk, h2 k hk])
theorem mv_zero {n : Nat} {A : Mx} {v : Nat → UInt8} {i : Nat} (h : ∀ k, k < n → v k = 0) : mv n A v i = 0 := gsum_zero (fun k hk => by rw [h k hk, gmul_zero_r])
theorem mv_id {n i : Nat} (hi : i < n) (v : Nat → UInt8) : mv n idM v i = v i := mm_id_l hi (fun k _ => v k) 0
/-- a left inverse leaves no kernel -/
theorem noKer_of_left {n : Nat} {A X : Mx} (h : EqM n n (mm n X A) idM) : NoKer n A := fun v hv i hi => by
  rw [← mv_id hi v, ← mv_congr (A := mm n X A) (fun k hk => h i k hi hk) (fun _ _ => rfl), mv_mm]
  exact mv_zero hv
/-- a left inverse without kernel is a right one -/
theorem right_of_left {n : Nat} {A X : Mx} (h : EqM n n (mm n X A) idM) (hx : NoKer n X) : EqM n n (mm n A X) idM := fun i j hi hj => by
  have h1 := hx (fun k => mm n A X k j ^^^ idM k j) (fun r hr => by
    have e : mv n X (fun k => mm n A X k j ^^^ idM k j) r = mm n X (mm n A X) r j ^^^ mm n X idM r j := by
      unfold mv
      have e2 : (fun k => gmul (X r k) (mm n A X k j ^^^ idM k j)) = fun k => gmul (X r k) (mm n A X k j) ^^^ gmul (X r k) (idM k j) := by funext k; rw [gmul_xor_r]
      rw [e2, gsum_xor]
      rfl
    rw [e, mm_id_r hj, ← mm_assoc, mm_congr (A' := idM) (B' := X) (fun k hk => h r k hr hk) (fun _ _ => rfl), mm_id_l hr, xx]) i hi
  exact xeq h1
/-- what is turned back twice from the left is as it was -/
theorem inv_unique {n : Nat} {A X Y : Mx} (h1 : EqM n n (mm n X A) idM) (h2 : EqM n n (mm n A Y) idM) : EqM n n X Y := fun i j hi hj => by
  rw [← mm_id_r hj X i, ← mm_congr (A := X) (B := mm n A Y) (fun _ _ => rfl) (fun k hk => h2 k j hk hj), ← mm_assoc, mm_congr (A' := idM) (B' := Y) (fun k hk => h1 i k hi hk) (fun _ _ => rfl), mm_id_l hi]
/-! ### row operations -/
def swapR (c p : Nat) (M : Mx) : Mx := fun i => if i = c then M p else if i = p then M c else M i
def scaleR (c : Nat) (f : UInt8) (M : Mx) : Mx := fun i j => if i = c then gmul f (M c j) else M i j
def addR (r c : Nat) (f : UInt8) (M : Mx) : Mx := fun i j => if i = r then M r j ^^^ gmul f (M c j) else M i j
/-- mm n R A = L, and R has no kernel -/
def Inv (n : Nat) (A L R : Mx) : Prop := EqM n n (mm n R A) L ∧ NoKer n R
theorem Inv.swap {n : Nat} {A L R : Mx} (h : Inv n A L R) {c p : Nat} (hc : c < n) (hp : p < n) : Inv n A (swapR c p L) (swapR c p R) := by
  refine ⟨fun i j hi hj => ?_, fun v hv => h.2 v (fun i hi => ?_)⟩
  · unfold swapR mm
    by_cases e1 : i = c
    · simp only [if_pos e1]; exact h.1 p j hp hj
    · simp only [if_neg e1]
      by_cases e2 : i = p
      · simp only [if_pos e2]; exact h.1 c j hc hj
      · simp only [if_neg e2]; exact h.1 i j hi hj
  · have hc' := hv c hc
    have hp' := hv p hp
    have hi' := hv i hi
    unfold swapR mv at hc' hp' hi'
    unfold mv
    by_cases e1 : i = c
    · subst e1
      by_cases e2 : p = i
      · subst e2; simpa using hp'
      · simpa [if_neg e2] using hp'
    · by_cases e2 : i = p
      · subst e2; simpa using hc'
      · simpa [if_neg e1, if_neg e2] using hi'
theorem Inv.scale {n : Nat} {A L R : Mx} (h : Inv n A L R) {c : Nat} {f : UInt8} (hc : c < n) (hf : f ≠ 0) : Inv n A (scaleR c f L) (scaleR c f R) := by
  refine ⟨fun i j hi hj => ?_, fun v hv => h.2 v (fun i hi => ?_)⟩
  · unfold scaleR mm
    by_cases e1 : i = c
    · simp only [if_pos e1]
      rw [← h.1 c j hc hj]
      unfold mm
      rw [← gsum_mul_l]
      exact gsum_congr (fun k _ => gmul_assoc _ _ _)
    · simp only [if_neg e1]; exact h.1 i j hi hj
  · have hi' := hv i hi
    unfold scaleR mv at hi'
    unfold mv
    by_cases e1 : i = c
    · subst e1
      simp only [eq_self, if_true] at hi'
      have e : gsum n (fun k => gmul (gmul f (R i k)) (v k)) = gmul f (gsum n (fun k => gmul (R i k) (v k))) := by
        rw [← gsum_mul_l]
        exact gsum_congr (fun k _ => gmul_assoc _ _ _)
      rw [e] at hi'
      rcases gmul_eq_zero.mp hi' with h0 | h0
      · exact absurd h0 hf
      · exact h0
    · simpa [if_neg e1] using hi'
theorem Inv.add {n : Nat} {A L R : Mx} (h : Inv n A L R) {r c : Nat} (f : UInt8) (hr : r < n) (hc : c < n) (hne : r ≠ c) : Inv n A (addR r c f L) (addR r c f R) := by
  have key : ∀ (g : Nat → UInt8), gsum n (fun k => gmul (R r k ^^^ gmul f (R c k)) (g k)) = gsum n (fun k => gmul (R r k) (g k)) ^^^ gmul f (gsum n (fun k => gmul (R c k) (g k))) := by
    intro g
    rw [← gsum_mul_l, ← gsum_xor]
    exact gsum_congr (fun k _ => by rw [gmul_xor_l, gmul_assoc])
  refine ⟨fun i j hi hj => ?_, fun v hv => h.2 v (fun i hi => ?_)⟩
  · unfold addR mm
    by_cases e1 : i = r
    · simp only [if_pos e1]
      rw [key (fun k => A k j)]
      have h1 := h.1 r j hr hj
      have h2 := h.1 c j hc hj
      unfold mm at h1 h2
      rw [h1, h2]
    · simp only [if_neg e1]; exact h.1 i j hi hj
  · have hi' := hv i hi
    have hc' := hv c hc
    unfold addR mv at hi' hc'
    unfold mv
    simp only [if_neg hne.symm] at hc'
    by_cases e1 : i = r
    · subst e1
      simp only [eq_self, if_true] at hi'
      rw [key v, hc', gmul_zero_r, x0] at hi'
      exact hi'
    · simpa [if_neg e1] using hi'
theorem Inv.start (n : Nat) (A : Mx) : Inv n A A idM := ⟨fun i j hi _ => mm_id_l hi A j, fun v hv i hi => by rw [← mv_id hi v]; exact hv i hi⟩
theorem Inv.congr {n : Nat} {A L R L' R' : Mx} (h : Inv n A L R) (hl : EqM n n L' L) (hr : EqM n n R' R) : Inv n A L' R' := by
  refine ⟨fun i j hi hj => ?_, fun v hv => h.2 v (fun i hi => ?_)⟩
  · rw [hl i j hi hj, ← h.1 i j hi hj]
    exact mm_congr (fun k hk => hr i k hi hk) (fun _ _ => rfl)
  · rw [← hv i hi]
    exact mv_congr (fun k hk => (hr i k hi hk).symm) (fun _ _ => rfl)
/-- the first c columns are those of the identity -/
def Cols (n c : Nat) (L : Mx) : Prop := ∀ i j, i < n → j < c → L i j = idM i j
theorem Inv.done {n : Nat} {A L R : Mx} (h : Inv n A L R) (hc : Cols n n L) : EqM n n (mm n R A) idM ∧ EqM n n (mm n A R) idM := by
  have h1 : EqM n n (mm n R A) idM := fun i j hi hj => by rw [h.1 i j hi hj, hc i j hi hj]
  exact ⟨h1, right_of_left h1 h.2⟩
theorem Inv.stuck {n c : Nat} {A L R : Mx} (h : Inv n A L R) (hc : Cols n c L) (hcn : c < n) (h0 : ∀ p, c ≤ p → p < n → L p c = 0) : HasKer n A := by
  refine ⟨fun j => if j = c then 1 else if j < c then L j c else 0, ?_, c, hcn, by simp⟩
  have hL : ∀ i, i < n → mv n L (fun j => if j = c then 1 else if j < c then L j c else 0) i = 0 := by
    intro i hi
    by_cases hic : i < c
    · unfold mv
      have e : ∀ k, k < n → gmul (L i k) (if k = c then 1 else if k < c then L k c else 0) = (if k = c then L i c else 0) ^^^ (if k = i then L i c else 0) := by
        intro k hk
        by_cases e1 : k = c
        · subst e1
          simp only [eq_self, if_true, if_neg (show ¬ k = i by omega)]
          rw [gmul_one_r, x0]
        · simp only [if_neg e1]
          by_cases e2 : k < c
          · simp only [if_pos e2]
            rw [hc i k hi e2]
            unfold idM
            by_cases e3 : i = k
            · subst e3; simp only [eq_self, if_true]; rw [gmul_one_l, zx]
            · simp only [if_neg e3, if_neg (show ¬ k = i by omega)]; rw [gmul_zero_l, xx]
          · simp only [if_neg e2, if_neg (show ¬ k = i by omega)]; rw [gmul_zero_r, xx]
      rw [gsum_congr e, gsum_xor, gsum_one hcn _ (fun k _ hne => if_neg hne), gsum_one hi _ (fun k _ hne => if_neg hne)]
      simp only [eq_self, if_true]
      rw [xx]
    · unfold mv
      refine gsum_zero (fun k hk => ?_)
      by_cases e1 : k = c
      · subst e1; rw [h0 i (by omega) hi, gmul_zero_l]
      · simp only [if_neg e1]
        by_cases e2 : k < c
        · rw [hc i k hi e2]; unfold idM; rw [if_neg (by omega), gmul_zero_l]
        · rw [if_neg e2, gmul_zero_r]
  have hRA := h.2 (mv n A (fun j => if j = c then 1 else if j < c then L j c else 0)) (fun i hi => by
    rw [← mv_mm, mv_congr (B := L) (fun k hk => h.1 i k hi hk) (fun _ _ => rfl)]
    exact hL i hi)
  exact hRA
/-! ### the reference: rows multiplied, upper triangles -/
/-- row operations of A that leave the kernel as it is -/
def SameKer (n : Nat) (A M : Mx) : Prop := ∀ v : Nat → UInt8, (∀ i, i < n → mv n A v i = 0) ↔ (∀ i, i < n → mv n M v i = 0)
theorem SameKer.refl (n : Nat) (A : Mx) : SameKer n A A := fun _ => Iff.rfl
theorem SameKer.noKer {n : Nat} {A M : Mx} (h : SameKer n A M) (hm : NoKer n M) : NoKer n A := fun v hv => hm v ((h v).mp hv)
theorem SameKer.hasKer {n : Nat} {A M : Mx} (h : SameKer n A M) (hm : HasKer n M) : HasKer n A := by
  obtain ⟨v, hv, hn⟩ := hm
  exact ⟨v, (h v).mpr hv, hn⟩
theorem SameKer.congr {n : Nat} {A M M' : Mx} (h : SameKer n A M) (hm : EqM n n M' M) : SameKer n A M' := fun v =>
  (h v).trans ⟨fun hv i hi => by rw [← hv i hi]; exact mv_congr (fun k hk => hm i k hi hk) (fun _ _ => rfl), fun hv i hi => by rw [← hv i hi]; exact mv_congr (fun k hk => (hm i k hi hk).symm) (fun _ _ => rfl)⟩
theorem SameKer.swap {n : Nat} {A M : Mx} (h : SameKer n A M) {c p : Nat} (hc : c < n) (hp : p < n) : SameKer n A (swapR c p M) := fun v => (h v).trans (by
  have e : ∀ i, mv n (swapR c p M) v i = if i = c then mv n M v p else if i = p then mv n M v c else mv n M v i := by
    intro i
    unfold mv swapR
    by_cases e1 : i = c
    · simp only [if_pos e1]
    · simp only [if_neg e1]
      by_cases e2 : i = p
      · simp only [if_pos e2]
      · simp only [if_neg e2]
  constructor
  · intro hv i hi
    rw [e]
    split
    · exact hv p hp
    · split
      · exact hv c hc
      · exact hv i hi
  · intro hv i hi
    by_cases e1 : i = c
    · have := hv p hp
      rw [e] at this
      by_cases e2 : p = c
      · rw [if_pos e2] at this; rw [e1, ← e2]; exact this
      · rw [if_neg e2, if_pos rfl] at this; rw [e1]; exact this
    · by_cases e2 : i = p
      · have := hv c hc
        rw [e, if_pos rfl] at this
        rw [e2]; exact this
      · have := hv i hi
        rw [e, if_neg e1, if_neg e2] at this
        exact this)
/-- row r becomes x times itself and y times row c -/
def mixR (r c : Nat) (x y : UInt8) (M : Mx) : Mx := fun i j => if i = r then gmul (M r j) x ^^^ gmul (M c j) y else M i j
theorem SameKer.mix {n : Nat} {A M : Mx} (h : SameKer n A M) {r c : Nat} {x y : UInt8} (hr : r < n) (hc : c < n) (hne : r ≠ c) (hx : x ≠ 0) : SameKer n A (mixR r c x y M) := fun v => (h v).trans (by
  have e : ∀ i, mv n (mixR r c x y M) v i = if i = r then gmul (mv n M v r) x ^^^ gmul (mv n M v c) y else mv n M v i := by
    intro i
    unfold mv mixR
    by_cases e1 : i = r
    · simp only [if_pos e1]
      rw [← gsum_mul_r, ← gsum_mul_r, ← gsum_xor]
      exact gsum_congr (fun k _ => by
        rw [gmul_xor_l]
        congr 1
        · rw [gmul_assoc, gmul_comm x, ← gmul_assoc]
        · rw [gmul_assoc, gmul_comm y, ← gmul_assoc])
    · simp only [if_neg e1]
  constructor
  · intro hv i hi
    rw [e]
    split
    · rw [hv r hr, hv c hc, gmul_zero_l, gmul_zero_l, xx]
    · exact hv i hi
  · intro hv i hi
    have hc' := hv c hc
    rw [e, if_neg hne.symm] at hc'
    by_cases e1 : i = r
    · have := hv r hr
      rw [e, if_pos rfl, hc', gmul_zero_l, x0] at this
      rw [e1]
      rcases gmul_eq_zero.mp this with h0 | h0
      · exact h0
      · exact absurd h0 hx
    · have := hv i hi
      rw [e, if_neg e1] at this
      exact this)
/-- below the diagonal of the first k columns there is nothing, and on it there is something -/
def Upper (n k : Nat) (M : Mx) : Prop := (∀ i j, i < n → j < k → j < i → M i j = 0) ∧ ∀ i, i < k → M i i ≠ 0
theorem upper_noKer {n : Nat} {M : Mx} (h : Upper n n M) : NoKer n M := by
  intro v hv
  have key : ∀ d i, i < n → n ≤ i + d + 1 → v i = 0 := by
    intro d
    induction d with
    | zero =>
      intro i hi hd
      have h1 := hv i hi
      unfold mv at h1
      rw [gsum_one hi _ (fun k hk hne => by rw [h.1 i k hi hk (by omega), gmul_zero_l])] at h1
      rcases gmul_eq_zero.mp h1 with h0 | h0
      · exact absurd h0 (h.2 i hi)
      · exact h0
    | succ d ih =>
      intro i hi hd
      have h1 := hv i hi
      unfold mv at h1
      rw [gsum_one hi _ (fun k hk hne => by
        by_cases hlt : k < i
        · rw [h.1 i k hi hk hlt, gmul_zero_l]
        · rw [ih k hk (by omega), gmul_zero_r])] at h1
      rcases gmul_eq_zero.mp h1 with h0 | h0
      · exact absurd h0 (h.2 i hi)
      · exact h0
  exact fun i hi => key n i hi (by omega)
theorem upper_solve : ∀ (k : Nat) (M : Mx) (b : Nat → UInt8), Upper k k M → ∃ v : Nat → UInt8, ∀ i, i < k → gsum k (fun j => gmul (M i j) (v j)) = b i
  | 0, _, _, _ => ⟨fun _ => 0, fun i h => by omega⟩
  | k + 1, M, b, h => by
    obtain ⟨v, hv⟩ := upper_solve k M (fun i => b i ^^^ gmul (M i k) (gmul (b k) (ginv (M k k)))) ⟨fun i j hi hj hlt => h.1 i j (by omega) (by omega) hlt, fun i hi => h.2 i (by omega)⟩
    refine ⟨fun j => if j = k then gmul (b k) (ginv (M k k)) else v j, fun i hi => ?_⟩
    unfold gsum
    simp only [eq_self, if_true]
    rw [gsum_congr (g := fun j => gmul (M i j) (v j)) (fun j hj => by rw [if_neg (by omega)])]
    by_cases e : i = k
    · subst e
      rw [gsum_zero (fun j hj => by rw [h.1 i j (by omega) (by omega) hj, gmul_zero_l]), zx, gmul_comm]
      exact gmul_div _ _ (h.2 i (by omega))
    · rw [hv i (by omega), xa, xx, x0]
theorem upper_stuck {n k : Nat} {M : Mx} (h : Upper n k M) (hk : k < n) (h0 : ∀ i, k ≤ i → i < n → M i k = 0) : HasKer n M := by
  obtain ⟨v, hv⟩ := upper_solve k M (fun i => M i k) ⟨fun i j hi hj hlt => h.1 i j (by omega) hj hlt, h.2⟩
  refine ⟨fun j => if j = k then 1 else if j < k then v j else 0, fun i hi => ?_, k, hk, by simp⟩
  unfold mv
  have split : ∀ m, k < m → gsum m (fun j => gmul (M i j) (if j = k then 1 else if j < k then v j else 0)) = gsum k (fun j => gmul (M i j) (v j)) ^^^ M i k := by
    intro m hm
    induction m with
    | zero => omega
    | succ m ih =>
      rw [gsum_succ]
      by_cases e : m = k
      · subst e
        simp only [eq_self, if_true]
        rw [gmul_one_r]
        congr 1
        exact gsum_congr (fun j hj => by rw [if_neg (by omega), if_pos hj])
      · rw [ih (by omega)]
        simp only [if_neg e, if_neg (show ¬ m < k by omega)]
        rw [gmul_zero_r, x0]
  rw [split n hk]
  by_cases hik : i < k
  · rw [hv i hik, xx]
  · rw [h0 i (by omega) hi, x0]
    exact gsum_zero (fun j hj => by rw [h.1 i j hi hj (by omega), gmul_zero_l])
/-! ### Cauchy -/
def lsum (l : List Nat) (f : Nat → UInt8) : UInt8 := l.foldr (fun y s => f y ^^^ s) 0
theorem lsum_cons (y : Nat) (l : List Nat) (f : Nat → UInt8) : lsum (y :: l) f = f y ^^^ lsum l f := rfl
theorem lsum_congr {l : List Nat} {f g : Nat → UInt8} (h : ∀ y, y ∈ l → f y = g y) : lsum l f = lsum l g := by
  induction l with
  | nil => rfl
  | cons a l ih => rw [lsum_cons, lsum_cons, h a (by simp), ih (fun y hy => h y (by simp [hy]))]
theorem lsum_xor (l : List Nat) (f g : Nat → UInt8) : lsum l (fun y => f y ^^^ g y) = lsum l f ^^^ lsum l g := by
  induction l with
  | nil => exact (xx 0).symm
  | cons a l ih => rw [lsum_cons, lsum_cons, lsum_cons, ih, xor8]
theorem lsum_mul (c : UInt8) (l : List Nat) (f : Nat → UInt8) : lsum l (fun y => gmul c (f y)) = gmul c (lsum l f) := by
  induction l with
  | nil => exact (gmul_zero_r c).symm
  | cons a l ih => rw [lsum_cons, lsum_cons, ih, gmul_xor_r]
theorem lsum_zero {l : List Nat} {f : Nat → UInt8} (h : ∀ y, y ∈ l → f y = 0) : lsum l f = 0 := by
  induction l with
  | nil => rfl
  | cons a l ih => rw [lsum_cons, h a (by simp), ih (fun y hy => h y (by simp [hy])), x0]
theorem ginv_ne {b : UInt8} (h : b ≠ 0) : ginv b ≠ 0 := fun e => by
  have := gmul_inv b h
  rw [e, gmul_zero_l] at this
  exact absurd this (by decide)
theorem gmul_inv_r (b : UInt8) (h : b ≠ 0) : gmul b (ginv b) = 1 := by rw [gmul_comm]; exact gmul_inv b h
/-- 1/p + 1/q, times (p+q)'s inverse, is 1/p times 1/q -/
theorem inv_add {p q : UInt8} (hp : p ≠ 0) (hq : q ≠ 0) : ginv p ^^^ ginv q = gmul (p ^^^ q) (gmul (ginv p) (ginv q)) := by
  rw [gmul_xor_l]
  have h1 : gmul p (gmul (ginv p) (ginv q)) = ginv q := by rw [← gmul_assoc, gmul_inv_r p hp, gmul_one_l]
  have h2 : gmul q (gmul (ginv p) (ginv q)) = ginv p := by rw [gmul_comm (ginv p), ← gmul_assoc, gmul_inv_r q hq, gmul_one_l]
  rw [h1, h2, xc]
def fx (x y : Nat) : UInt8 := UInt8.ofNat (x ^^^ y)
theorem cauchy (e : Nat → UInt8) : ∀ (xs ys : List Nat), xs.Nodup → ys.Nodup → ys.length ≤ xs.length → (∀ a b, a ∈ xs → b ∈ xs → a ≠ b → e a ≠ e b) → (∀ a b, a ∈ ys → b ∈ ys → a ≠ b → e a ≠ e b) → (∀ a b, a ∈ xs → b ∈ ys → e a ≠ e b) →
    ∀ v : Nat → UInt8, (∀ x, x ∈ xs → lsum ys (fun y => gmul (v y) (ginv (e x ^^^ e y))) = 0) → ∀ y, y ∈ ys → v y = 0
  | _, [], _, _, _, _, _, _, _, _, y, hy => by cases hy
  | [], _ :: _, _, _, hlen, _, _, _, _, _, _, _ => by simp at hlen
  | x0' :: xs, y0 :: ys, hx, hy, hlen, hex, hey, hexy, v, hv, y, hyy => by
    have hx' := List.nodup_cons.mp hx
    have hy' := List.nodup_cons.mp hy
    have hrest := cauchy e xs ys hx'.2 hy'.2 (by simp only [List.length_cons] at hlen; omega) (fun a b ha hb => hex a b (by simp [ha]) (by simp [hb])) (fun a b ha hb => hey a b (by simp [ha]) (by simp [hb])) (fun a b ha hb => hexy a b (by simp [ha]) (by simp [hb]))
      (fun y => gmul (v y) (gmul (e y0 ^^^ e y) (ginv (e x0' ^^^ e y)))) (fun x hxx => by
        have hne0 : e x0' ^^^ e x ≠ 0 := xne (hex x0' x (by simp) (by simp [hxx]) (fun h => hx'.1 (h ▸ hxx)))
        have h1 := hv x (by simp [hxx])
        have h2 := hv x0' (by simp)
        rw [lsum_cons] at h1 h2
        have hp0 : e x ^^^ e y0 ≠ 0 := xne (hexy x y0 (by simp [hxx]) (by simp))
        have hq0 : e x0' ^^^ e y0 ≠ 0 := xne (hexy x0' y0 (by simp) (by simp))
        
        have e1 : gmul (e x ^^^ e y0) (lsum ys (fun y => gmul (v y) (ginv (e x ^^^ e y)))) = v y0 := by
          have h3 : lsum ys (fun y => gmul (v y) (ginv (e x ^^^ e y))) = gmul (v y0) (ginv (e x ^^^ e y0)) := (xeq h1).symm
          rw [h3, gmul_comm (v y0), ← gmul_assoc, gmul_inv_r _ hp0, gmul_one_l]
        have e2 : gmul (e x0' ^^^ e y0) (lsum ys (fun y => gmul (v y) (ginv (e x0' ^^^ e y)))) = v y0 := by
          have h3 : lsum ys (fun y => gmul (v y) (ginv (e x0' ^^^ e y))) = gmul (v y0) (ginv (e x0' ^^^ e y0)) := (xeq h2).symm
          rw [h3, gmul_comm (v y0), ← gmul_assoc, gmul_inv_r _ hq0, gmul_one_l]
        have e3 : gmul (e x0' ^^^ e x) (lsum ys (fun y => gmul (gmul (v y) (gmul (e y0 ^^^ e y) (ginv (e x0' ^^^ e y)))) (ginv (e x ^^^ e y)))) = 0 := by
          rw [← lsum_mul]
          have e4 : lsum ys (fun y => gmul (e x0' ^^^ e x) (gmul (gmul (v y) (gmul (e y0 ^^^ e y) (ginv (e x0' ^^^ e y)))) (ginv (e x ^^^ e y)))) =
              lsum ys (fun y => gmul (e x ^^^ e y0) (gmul (v y) (ginv (e x ^^^ e y))) ^^^ gmul (e x0' ^^^ e y0) (gmul (v y) (ginv (e x0' ^^^ e y)))) := by
            refine lsum_congr (fun y hyy => ?_)
            have hp : e x ^^^ e y ≠ 0 := xne (hexy x y (by simp [hxx]) (by simp [hyy]))
            have hq : e x0' ^^^ e y ≠ 0 := xne (hexy x0' y (by simp) (by simp [hyy]))
            
            have l1 : gmul (e x0' ^^^ e x) (gmul (gmul (v y) (gmul (e y0 ^^^ e y) (ginv (e x0' ^^^ e y)))) (ginv (e x ^^^ e y))) = gmul (v y) (gmul (e y0 ^^^ e y) (gmul (e x0' ^^^ e x) (gmul (ginv (e x0' ^^^ e y)) (ginv (e x ^^^ e y))))) := by
              simp only [gmul_assoc]
              rw [← gmul_assoc (e x0' ^^^ e x) (v y), gmul_comm (e x0' ^^^ e x) (v y), gmul_assoc, ← gmul_assoc (e x0' ^^^ e x) (e y0 ^^^ e y), gmul_comm (e x0' ^^^ e x) (e y0 ^^^ e y), gmul_assoc]
            have l2 : e x0' ^^^ e x = (e x0' ^^^ e y) ^^^ (e x ^^^ e y) := by rw [xor8, xx, x0]
            have l3 : gmul (e x0' ^^^ e x) (gmul (ginv (e x0' ^^^ e y)) (ginv (e x ^^^ e y))) = ginv (e x0' ^^^ e y) ^^^ ginv (e x ^^^ e y) := by rw [l2]; exact (inv_add hq hp).symm
            rw [l1, l3]
            have r1 : gmul (e x ^^^ e y0) (gmul (v y) (ginv (e x ^^^ e y))) = gmul (v y) (gmul (e x ^^^ e y0) (ginv (e x ^^^ e y))) := by rw [← gmul_assoc, gmul_comm (e x ^^^ e y0), gmul_assoc]
            have r2 : gmul (e x0' ^^^ e y0) (gmul (v y) (ginv (e x0' ^^^ e y))) = gmul (v y) (gmul (e x0' ^^^ e y0) (ginv (e x0' ^^^ e y))) := by rw [← gmul_assoc, gmul_comm (e x0' ^^^ e y0), gmul_assoc]
            rw [r1, r2, ← gmul_xor_r]
            congr 1
            have s1 : e x ^^^ e y0 = (e x ^^^ e y) ^^^ (e y0 ^^^ e y) := by rw [xor8, xx, x0]
            have s2 : e x0' ^^^ e y0 = (e x0' ^^^ e y) ^^^ (e y0 ^^^ e y) := by rw [xor8, xx, x0]
            rw [s1, s2, gmul_xor_l (e x ^^^ e y), gmul_xor_l (e x0' ^^^ e y), gmul_inv_r _ hp, gmul_inv_r _ hq, xor8, xx, zx, gmul_xor_r, xc]
          rw [e4, lsum_xor, lsum_mul, lsum_mul, e1, e2, xx]
        rcases gmul_eq_zero.mp e3 with h | h
        · exact absurd h hne0
        · exact h)
    have htail : ∀ y, y ∈ ys → v y = 0 := fun y hyy => by
      have h1 := hrest y hyy
      rcases gmul_eq_zero.mp h1 with h | h
      · exact h
      · exfalso
        rcases gmul_eq_zero.mp h with h | h
        · exact xne (hey y0 y (by simp) (by simp [hyy]) (fun e => hy'.1 (e ▸ hyy))) h
        · exact ginv_ne (xne (hexy x0' y (by simp) (by simp [hyy]))) h
    rcases List.mem_cons.mp hyy with h | h
    · subst h
      have h2 := hv x0' (by simp)
      rw [lsum_cons, lsum_zero (fun z hz => by rw [htail z hz, gmul_zero_l]), x0] at h2
      rcases gmul_eq_zero.mp h2 with h | h
      · exact h
      · exact absurd h (ginv_ne (xne (hexy x0' y (by simp) (by simp))))
    · exact htail y h
end Go.Proofs.Ytdgkcgiknfjpjaa
/- Tables of bytes: read, and the call's own. -/
namespace Go.Proofs.Ytdgkcgiknfjpjaa
set_option linter.unusedVariables false
open Go Go.RowKit

/-- a row of m -/
def row (m : Nat) (f : Nat → UInt8) : List UInt8 := (List.range m).map f
theorem row_length (m : Nat) (f : Nat → UInt8) : (row m f).length = m := by unfold row; simp
theorem row_get {m j : Nat} (h : j < m) (f : Nat → UInt8) : (row m f)[j]? = some (f j) := by unfold row; simp [h]
theorem row_getD {m j : Nat} (h : j < m) (f : Nat → UInt8) : (row m f).getD j 0 = f j := by rw [List.getD_eq_getElem?_getD, row_get h]; rfl
theorem row_congr {m : Nat} {f g : Nat → UInt8} (h : ∀ j, j < m → f j = g j) : row m f = row m g := by
  unfold row
  exact List.map_congr_left (fun j hj => h j (List.mem_range.mp hj))
theorem row_eq {m : Nat} {f g : Nat → UInt8} (h : row m f = row m g) : ∀ j, j < m → f j = g j := fun j hj => by
  have h1 := row_get hj f
  rw [h, row_get hj g] at h1
  injection h1 with h1
  exact h1.symm
theorem row_of (l : List UInt8) : row l.length (fun j => l.getD j 0) = l := by
  refine List.ext_getElem? fun j => ?_
  by_cases h : j < l.length
  · rw [row_get h, List.getD_eq_getElem?_getD, List.getElem?_eq_getElem h]; rfl
  · rw [List.getElem?_eq_none (by rw [row_length]; omega), List.getElem?_eq_none (by omega)]
theorem row_set (m k : Nat) (f : Nat → UInt8) (x : UInt8) : (row m f).set k x = row m (fun j => if j = k then x else f j) := by
  refine List.ext_getElem? fun j => ?_
  rw [List.getElem?_set, row_length]
  by_cases hj : j < m
  · rw [row_get hj, row_get hj]
    by_cases e : k = j
    · subst e; simp [hj]
    · rw [if_neg e]; simp [show ¬ j = k from fun h => e h.symm]
  · have n1 : (row m f)[j]? = none := List.getElem?_eq_none (by rw [row_length]; omega)
    have n2 : (row m (fun j => if j = k then x else f j))[j]? = none := List.getElem?_eq_none (by rw [row_length]; omega)
    rw [n1, n2]
    split
    · rw [if_neg (by omega)]
    · rfl
theorem row_zero (m : Nat) : row m (fun _ => 0) = List.replicate m 0 := by
  unfold row
  rw [List.eq_replicate_iff]
  exact ⟨by simp, fun b hb => by obtain ⟨_, _, rfl⟩ := List.mem_map.mp hb; rfl⟩
/-- the entries of a table -/
def ent (L : List (List UInt8)) : Mx := fun i j => (L.getD i []).getD j 0
def tabM (n m : Nat) (M : Mx) : List (List UInt8) := (List.range n).map (fun i => row m (M i))
theorem tabM_length (n m : Nat) (M : Mx) : (tabM n m M).length = n := by unfold tabM; simp
theorem tabM_get {n m i : Nat} (h : i < n) (M : Mx) : (tabM n m M)[i]? = some (row m (M i)) := by unfold tabM; simp [h]
theorem ent_tabM {n m i j : Nat} (hi : i < n) (hj : j < m) (M : Mx) : ent (tabM n m M) i j = M i j := by
  unfold ent
  have e : (tabM n m M).getD i [] = row m (M i) := by rw [List.getD_eq_getElem?_getD, tabM_get hi]; rfl
  rw [e]
  exact row_getD hj _
theorem tabM_congr {n m : Nat} {A B : Mx} (h : EqM n m A B) : tabM n m A = tabM n m B := by
  unfold tabM
  exact List.map_congr_left (fun i hi => row_congr (fun j hj => h i j (List.mem_range.mp hi) hj))
theorem tabM_eq {n m : Nat} {A B : Mx} (h : tabM n m A = tabM n m B) : EqM n m A B := fun i j hi hj => by
  rw [← ent_tabM hi hj A, h, ent_tabM hi hj B]
def width (L : List (List UInt8)) : Nat := (L.headD []).length
def isTab (L : List (List UInt8)) : Bool := decide (1 ≤ L.length) && decide (L.length ≤ 32) && decide (1 ≤ width L) && decide (width L ≤ 32) && L.all (fun r => r.length == width L)
theorem isTab_iff {L : List (List UInt8)} : isTab L = true ↔ (1 ≤ L.length ∧ L.length ≤ 32 ∧ 1 ≤ width L ∧ width L ≤ 32 ∧ ∀ r, r ∈ L → r.length = width L) := by
  unfold isTab
  simp [and_assoc]
theorem tab_of {L : List (List UInt8)} {m : Nat} (h : ∀ r, r ∈ L → r.length = m) : tabM L.length m (ent L) = L := by
  refine List.ext_getElem? fun i => ?_
  by_cases hi : i < L.length
  · rw [tabM_get hi, List.getElem?_eq_getElem hi]
    have hl := h L[i] (List.getElem_mem hi)
    have he : ent L i = fun j => (L[i]).getD j 0 := by
      have e : L.getD i [] = L[i] := by rw [List.getD_eq_getElem?_getD, List.getElem?_eq_getElem hi]; rfl
      funext j; unfold ent; rw [e]
    rw [he, ← hl, row_of]
  · rw [List.getElem?_eq_none (by rw [tabM_length]; omega), List.getElem?_eq_none (by omega)]
theorem isTab_tabM {n m : Nat} (h1 : 1 ≤ n) (h2 : n ≤ 32) (h3 : 1 ≤ m) (h4 : m ≤ 32) (M : Mx) : isTab (tabM n m M) = true ∧ width (tabM n m M) = m := by
  have hw : width (tabM n m M) = m := by
    unfold width
    have : tabM n m M = row m (M 0) :: (tabM n m M).tail := by
      have hg := tabM_get (m := m) (show 0 < n by omega) M
      cases hh : tabM n m M with
      | nil => rw [hh] at hg; simp at hg
      | cons a t => rw [hh] at hg; simp at hg; rw [hg]; rfl
    rw [this]
    exact row_length _ _
  refine ⟨isTab_iff.mpr ⟨by rw [tabM_length]; exact h1, by rw [tabM_length]; exact h2, by rw [hw]; exact h3, by rw [hw]; exact h4, fun r hr => ?_⟩, hw⟩
  unfold tabM at hr
  obtain ⟨i, -, rfl⟩ := List.mem_map.mp hr
  rw [hw, row_length]
/-! ### in memory -/
def rowAt (w : World) (B b o i : Nat) (l : List UInt8) : Prop := ∃ A' c, w.cell? ⟨b, o + i, none⟩ = some (.slice A' l.length c) ∧ l.length ≤ c ∧ c ≤ maxLen ∧ Rd w B A' l
/-- n rows lie behind A, below block B -/
def RT (w : World) (B : Nat) (A : Option Addr) (n : Nat) (L : List (List UInt8)) : Prop :=
  L.length = n ∧ (0 < n → ∃ b o, A = some ⟨b, o, none⟩ ∧ b < B ∧ ∀ i l, L[i]? = some l → rowAt w B b o i l)
section
variable {w w' : World} {B B' n : Nat} {A : Option Addr} {L : List (List UInt8)}
theorem RT.at_ (h : RT w B A n L) {i : Nat} (hi : i < n) : ∃ b o A' c l, A = some ⟨b, o, none⟩ ∧ b < B ∧ L[i]? = some l ∧ w.cell? ⟨b, o + i, none⟩ = some (.slice A' l.length c) ∧ l.length ≤ c ∧ c ≤ maxLen ∧ Rd w B A' l := by
  obtain ⟨b, o, e, hb, hr⟩ := h.2 (by omega)
  have hl : i < L.length := by rw [h.1]; exact hi
  obtain ⟨A', c, h1, h2, h3, h4⟩ := hr i L[i] (List.getElem?_eq_getElem hl)
  exact ⟨b, o, A', c, L[i], e, hb, List.getElem?_eq_getElem hl, h1, h2, h3, h4⟩
theorem RT.keep (h : RT w B A n L) (hk : ∀ p : Addr, p.block < B → w'.cell? p = w.cell? p) : RT w' B A n L := ⟨h.1, fun hn => by
  obtain ⟨b, o, e, hb, hr⟩ := h.2 hn
  refine ⟨b, o, e, hb, fun i l hl => ?_⟩
  obtain ⟨A', c, h1, h2, h3, h4⟩ := hr i l hl
  exact ⟨A', c, (hk _ hb).trans h1, h2, h3, h4.keep hk⟩⟩
theorem RT.more (h : RT w B A n L) (hB : B ≤ B') : RT w B' A n L := ⟨h.1, fun hn => by
  obtain ⟨b, o, e, hb, hr⟩ := h.2 hn
  refine ⟨b, o, e, by omega, fun i l hl => ?_⟩
  obtain ⟨A', c, h1, h2, h3, h4⟩ := hr i l hl
  exact ⟨A', c, h1, h2, h3, h4.more hB⟩⟩
theorem RT.up (h : RT w w.heap.size A n L) (hb : Below w.heap.size w w') : RT w' w'.heap.size A n L := (h.keep fun p hp => hb.cell hp).more hb.size
theorem RT.low (h : RT w B A n L) (hb : Below B w w') : RT w' B A n L := h.keep fun p hp => hb.cell hp
theorem RT.drewN (h : RT w B A n L) (k : Nat) : RT (w.drewN k) B A n L := h
end
/-- block g, the call's own, holds the slices of n rows of m, blocks G of the call's own -/
structure TB (w : World) (base g n m : Nat) (G C : Nat → Nat) (M : Mx) : Prop where
  spine : ∃ cs : Array Value, w.heap[g]? = some (.cells cs 22 (0, 0)) ∧ n ≤ cs.size ∧ ∀ i, i < n → cs[i]? = some (.slice (some ⟨G i, 0, none⟩) m (C i))
  low : base ≤ g
  own : ∀ i, i < n → OB w base (.slice (some ⟨G i, 0, none⟩) m (C i)) (row m (M i))
  apart : ∀ i j, i < n → j < n → i ≠ j → G i ≠ G j
  wide : 1 ≤ m
section
variable {w w' : World} {base g n m : Nat} {G C : Nat → Nat} {M : Mx}
theorem ob_blk {w : World} {base g c m : Nat} {l : List UInt8} (h : OB w base (.slice (some ⟨g, 0, none⟩) m c) l) (hl : 1 ≤ l.length) : ∃ cs, w.heap[g]? = some (.cells cs 5 (0, 0)) := by
  rcases h.2 with ⟨hv, -⟩ | ⟨g', cap, cur, hv, hb, hg, -⟩
  · injection hv with hv; cases hv
  · injection hv with hv _ _
    injection hv with hv
    injection hv with hv
    exact ⟨cur, hv ▸ hg⟩
theorem TB.cell (h : TB w base g n m G C M) {i : Nat} (hi : i < n) : w.cell? ⟨g, i, none⟩ = some (.slice (some ⟨G i, 0, none⟩) m (C i)) := by
  obtain ⟨cs, h1, -, h3⟩ := h.spine
  exact blk_cell h1 (h3 i hi)
theorem TB.free (h : TB w base g n m G C M) (i : Nat) : w.frozen? ⟨g, i, none⟩ = false := by
  obtain ⟨cs, h1, -, -⟩ := h.spine
  exact blk_free h1 i
theorem TB.lt (h : TB w base g n m G C M) : g < w.heap.size := by
  obtain ⟨cs, h1, -, -⟩ := h.spine
  exact blk_lt h1
theorem TB.glt (h : TB w base g n m G C M) {i : Nat} (hi : i < n) : base ≤ G i ∧ G i < w.heap.size := (h.own i hi).lt (G i) rfl
theorem TB.gne (h : TB w base g n m G C M) {i : Nat} (hi : i < n) : G i ≠ g := fun e => by
  obtain ⟨cs, h1, -, -⟩ := h.spine
  obtain ⟨cs', h2⟩ := ob_blk (h.own i hi) (by rw [row_length]; exact h.wide)
  rw [e, h1] at h2
  injection h2 with h2
  injection h2 with _ h2 _
  revert h2
  decide
theorem TB.rd (h : TB w base g n m G C M) {i : Nat} (hi : i < n) : Rd w w.heap.size (some ⟨G i, 0, none⟩) (row m (M i)) ∧ m ≤ C i ∧ C i ≤ maxLen := by
  obtain ⟨A, c, e, h1, h2, h3, -⟩ := (h.own i hi).form
  injection e with e1 e2 e3
  rw [row_length] at h1
  subst e1
  exact ⟨h3, by omega, by omega⟩
/-- rows may be named otherwise, and the matrix be told otherwise -/
theorem TB.congr (h : TB w base g n m G C M) {M' : Mx} (he : EqM n m M' M) : TB w base g n m G C M' :=
  ⟨h.spine, h.low, fun i hi => by rw [row_congr (fun j hj => he i j hi hj)]; exact h.own i hi, h.apart, h.wide⟩
theorem TB.keep (h : TB w base g n m G C M) (hg : w'.heap[g]? = w.heap[g]?) (hG : ∀ i, i < n → w'.heap[G i]? = w.heap[G i]?) : TB w' base g n m G C M := by
  refine ⟨by rw [hg]; exact h.spine, h.low, fun i hi => ?_, h.apart, h.wide⟩
  exact row_keep (h.own i hi) (fun k hk => by injection hk with hk; subst hk; exact hG i hi)
theorem TB.below (h : TB w base g n m G C M) (hb : Below w.heap.size w w') : TB w' base g n m G C M :=
  h.keep (hb.block g h.lt) (fun i hi => hb.block _ (h.glt hi).2)
theorem TB.upd {S : Nat → Prop} (h : TB w base g n m G C M) (hu : Upd S w w') (hg : ¬ S g) (hG : ∀ i, i < n → ¬ S (G i)) : TB w' base g n m G C M :=
  h.keep (hu.2.2.2.2 g h.lt hg) (fun i hi => hu.2.2.2.2 _ (h.glt hi).2 (hG i hi))
theorem TB.more {base' : Nat} (h : TB w base g n m G C M) (hb : base' ≤ base) : TB w base' g n m G C M :=
  ⟨h.spine, Nat.le_trans hb h.low, fun i hi => (h.own i hi).more hb, h.apart, h.wide⟩
/-- row i has changed, and nothing else -/
theorem TB.put (h : TB w base g n m G C M) {i : Nat} (hi : i < n) {f : Nat → UInt8} (ho : OB w' base (.slice (some ⟨G i, 0, none⟩) m (C i)) (row m f)) (hu : Upd (fun k => k = G i) w w') :
    TB w' base g n m G C (fun r => if r = i then f else M r) := by
  refine ⟨by rw [hu.2.2.2.2 g h.lt (fun e => h.gne hi e.symm)]; exact h.spine, h.low, fun r hr => ?_, h.apart, h.wide⟩
  by_cases e : r = i
  · subst e; simp only [eq_self, if_true]; exact ho
  · simp only [if_neg e]
    exact row_keep (h.own r hr) (fun k hk => by injection hk with hk; subst hk; exact hu.2.2.2.2 _ (h.glt hr).2 (h.apart r i hr hi e))
theorem TB.rt (h : TB w base g n m G C M) : RT w w.heap.size (some ⟨g, 0, none⟩) n (tabM n m M) := by
  refine ⟨tabM_length _ _ _, fun hn => ⟨g, 0, rfl, h.lt, fun i l hl => ?_⟩⟩
  have hi : i < n := by have := (List.getElem?_eq_some_iff.mp hl).1; rwa [tabM_length] at this
  rw [tabM_get hi] at hl
  injection hl with hl
  subst hl
  obtain ⟨h1, h2, h3⟩ := h.rd hi
  refine ⟨_, _, ?_, by rw [row_length]; exact h2, h3, h1⟩
  rw [row_length, Nat.zero_add]
  exact h.cell hi
end
/-- block g is a row of N slices -/
def Sp (w : World) (g N : Nat) : Prop := ∃ cs : Array Value, w.heap[g]? = some (.cells cs 22 (0, 0)) ∧ cs.size = N
section
variable {w w' : World} {base g N n m : Nat} {G C : Nat → Nat} {M : Mx}
theorem Sp.cell (h : Sp w g N) {i : Nat} (hi : i < N) : ∃ v, w.cell? ⟨g, i, none⟩ = some v := by
  obtain ⟨cs, h1, h2⟩ := h
  exact ⟨cs[i]'(by omega), blk_cell h1 (Array.getElem?_eq_getElem (by omega))⟩
theorem Sp.free (h : Sp w g N) (i : Nat) : w.frozen? ⟨g, i, none⟩ = false := by
  obtain ⟨cs, h1, h2⟩ := h
  exact blk_free h1 i
theorem Sp.lt (h : Sp w g N) : g < w.heap.size := by
  obtain ⟨cs, h1, h2⟩ := h
  exact blk_lt h1
theorem Sp.keep (h : Sp w g N) (hg : w'.heap[g]? = w.heap[g]?) : Sp w' g N := by
  obtain ⟨cs, h1, h2⟩ := h
  exact ⟨cs, hg.trans h1, h2⟩
theorem Sp.below (h : Sp w g N) (hb : Below w.heap.size w w') : Sp w' g N := h.keep (hb.block g h.lt)
theorem Sp.set (h : Sp w g N) (i : Nat) (u : Value) : Sp (w.setCell ⟨g, i, none⟩ u) g N := by
  obtain ⟨cs, h1, h2⟩ := h
  exact ⟨_, blk_set h1 i u, by simpa using h2⟩
theorem Sp.ne {b c m : Nat} {l : List UInt8} (h : Sp w g N) (ho : OB w b (.slice (some ⟨m, 0, none⟩) l.length c) l) (hl : 1 ≤ l.length) : m ≠ g := fun e => by
  obtain ⟨cs, h1, -⟩ := h
  obtain ⟨cs', h2⟩ := ob_blk ho hl
  rw [e, h1] at h2
  injection h2 with h2
  injection h2 with _ h2 _
  revert h2
  decide
theorem TB.empty (w : World) {base g N : Nat} (h : Sp w g N) (hb : base ≤ g) (m : Nat) (hm : 1 ≤ m) (G C : Nat → Nat) (M : Mx) : TB w base g 0 m G C M := by
  obtain ⟨cs, h1, -⟩ := h
  exact ⟨⟨cs, h1, Nat.zero_le _, fun i h => by omega⟩, hb, fun i h => by omega, fun i j h => by omega, hm⟩
/-- a row is laid at the end -/
theorem TB.grow (h : TB w base g n m G C M) (hs : Sp w g N) (hn : n < N) {G' C' : Nat} {f : Nat → UInt8} (ho : OB w base (.slice (some ⟨G', 0, none⟩) m C') (row m f)) (hne : ∀ i, i < n → G i ≠ G') :
    TB (w.setCell ⟨g, n, none⟩ (.slice (some ⟨G', 0, none⟩) m C')) base g (n + 1) m (fun i => if i = n then G' else G i) (fun i => if i = n then C' else C i) (fun i => if i = n then f else M i) := by
  obtain ⟨cs, h1, h2⟩ := hs
  obtain ⟨cs', h1', h3, h4⟩ := h.spine
  rw [h1] at h1'
  injection h1' with h1'
  injection h1' with h1' _ _
  subst h1'
  have hG' : G' ≠ g := by
    refine Sp.ne (N := N) (l := row m f) (c := C') (b := base) ⟨cs, h1, h2⟩ ?_ (by rw [row_length]; exact h.wide)
    rw [row_length]; exact ho
  have hkeep : ∀ k, k ≠ g → (w.setCell ⟨g, n, none⟩ (.slice (some ⟨G', 0, none⟩) m C')).heap[k]? = w.heap[k]? := fun k hk => blk_other hk n _
  refine ⟨⟨_, blk_set h1 n _, by simp; omega, fun i hi => ?_⟩, h.low, fun i hi => ?_, fun i j hi hj hne' => ?_, h.wide⟩
  · by_cases e : i = n
    · subst e; simp [show i < cs.size by omega]
    · simp only [if_neg e]
      rw [Array.getElem?_setIfInBounds_ne (by omega)]
      exact h4 i (by omega)
  · by_cases e : i = n
    · subst e
      simp only [eq_self, if_true]
      exact row_keep ho (fun k hk => by injection hk with hk; subst hk; exact hkeep _ hG')
    · simp only [if_neg e]
      exact row_keep (h.own i (by omega)) (fun k hk => by injection hk with hk; subst hk; exact hkeep _ (h.gne (by omega)))
  · by_cases e1 : i = n
    · by_cases e2 : j = n
      · omega
      · simp only [if_pos e1, if_neg e2]; exact (hne j (by omega)).symm
    · by_cases e2 : j = n
      · simp only [if_neg e1, if_pos e2]; exact hne i (by omega)
      · simp only [if_neg e1, if_neg e2]; exact h.apart i j (by omega) (by omega) hne'
end
theorem info_b8 : (Try.prog.info? 22).map (fun i => (i.zero, i.size, i.bytes)) = some (some (.slice none 0 0), 1, 24) := by kernel_rfl
theorem wpl_makeT {w : World} {ops : Array Oper} {rest : List Oper} {o : Oper} {a : Act} {Q : Exit → Act → World → Prop} (hgd : o.guard = none) (x y : Operand)
    (ho : o.op = .makeSlice 27 x y) (n : Nat) (hx : a.eval x = .int .i64 n) (hy : a.eval y = .int .i64 n) (hn : n ≤ 1000000)
    (h : ∀ w', Sp w' w.heap.size n → Below w.heap.size w w' → wpList Try.prog ops Q rest (a.put o.dst (.slice (some ⟨w.heap.size, 0, none⟩) n n)) w') : wpList Try.prog ops Q (o :: rest) a w := by
  obtain ⟨i0, hi, hz0, hz1, hz2⟩ := info_parts info_b8
  refine wpList_make_full w hgd x y 27 ho w.heap.size 22 i0 _ 1 Try.underlying27 hi hz0 hz1 .i64 .i64 n n n hx hy rfl rfl (by rw [hz2]; omega) (by simp only [maxLen]; omega) (Nat.le_refl _) fun w' h1 h2 => ?_
  refine h w' ?_ ((Below.refl _ _).grown h2 (Nat.le_refl _) (fun _ hk => by cases hk))
  rcases h1.2 with ⟨hv, -⟩ | ⟨g, cap, cur, hv, hb, hh, hnc, hcm, hcs, ht⟩
  · injection hv with hv; cases hv
  · injection hv with hv1 hv2 hv3
    injection hv1 with hv1
    injection hv1 with hv1
    exact ⟨cur, hv1 ▸ hh, by rw [hcs, Nat.mul_one, ← hv3]⟩
end Go.Proofs.Ytdgkcgiknfjpjaa
/- Tables that grow by append: the rows are the call's own, or lie below it. -/
namespace Go.Proofs.Ytdgkcgiknfjpjaa
set_option linter.unusedVariables false
open Go Go.RowKit
/-- a row: the call's own, or what lies below it -/
def RowOk (w : World) (base : Nat) (A : Option Addr) (c : Nat) (l : List UInt8) : Prop :=
  OB w base (.slice A l.length c) l ∨ (Rd w base A l ∧ l.length ≤ c ∧ c ≤ maxLen)
section
variable {w w' : World} {base B : Nat} {A : Option Addr} {c : Nat} {l : List UInt8}
theorem RowOk.below (h : RowOk w base A c l) (hb : Below w.heap.size w w') (hs : base ≤ w.heap.size) : RowOk w' base A c l := by
  rcases h with h | ⟨h, h1, h2⟩
  · exact .inl (h.below hb)
  · exact .inr ⟨h.keep (fun p hp => hb.cell (by omega)), h1, h2⟩
theorem RowOk.rd (h : RowOk w base A c l) (hs : base ≤ w.heap.size) : Rd w w.heap.size A l ∧ l.length ≤ c ∧ c ≤ maxLen := by
  rcases h with h | ⟨h, h1, h2⟩
  · obtain ⟨A', c', e, h1, h2, h3, -⟩ := h.form
    injection e with e1 _ e3
    subst e1 e3
    exact ⟨h3, h1, h2⟩
  · exact ⟨h.more hs, h1, h2⟩
end
/-- v is a slice of slices of the call's own that holds the rows L -/
def AT (w : World) (base : Nat) (v : Value) (L : List (List UInt8)) : Prop :=
  ∃ rows : List Value, w.ownsRow base 22 1 v L.length rows ∧ rows.length = L.length ∧ ∀ (i : Nat) (l : List UInt8), L[i]? = some l → ∃ A c, rows[i]? = some (.slice A l.length c) ∧ RowOk w base A c l
section
variable {w w' : World} {base : Nat} {v : Value} {L : List (List UInt8)}
theorem AT.below (h : AT w base v L) (hb : Below w.heap.size w w') (hs : base ≤ w.heap.size) : AT w' base v L := by
  obtain ⟨rows, h1, h2, h3⟩ := h
  refine ⟨rows, row_below h1 hb, h2, fun i l hl => ?_⟩
  obtain ⟨A, c, h4, h5⟩ := h3 i l hl
  exact ⟨A, c, h4, h5.below hb hs⟩
theorem AT.form (h : AT w base v L) (hs : base ≤ w.heap.size) : ∃ A c, v = .slice A L.length c ∧ L.length ≤ c ∧ c ≤ maxLen ∧ RT w w.heap.size A L.length L := by
  obtain ⟨rows, h1, h2, h3⟩ := h
  by_cases hn : 0 < L.length
  · obtain ⟨g, c, rfl, h4, h5, h6, h7, -, -, h8, -⟩ := row_at h1 hn
    refine ⟨_, c, rfl, h4, h5, rfl, fun _ => ⟨g, 0, rfl, h7, fun i l hl => ?_⟩⟩
    obtain ⟨A', c', h9, h10⟩ := h3 i l hl
    obtain ⟨r1, r2, r3⟩ := h10.rd hs
    exact ⟨A', c', by rw [Nat.zero_add]; exact h8 i _ h9, r2, r3, r1⟩
  · obtain ⟨A, c, e, h4, h5⟩ := row_form h1
    exact ⟨A, c, e, h4, h5, rfl, fun h => absurd h hn⟩
theorem AT.nil_ (w : World) (base : Nat) : AT w base (.slice none 0 0) [] := ⟨[], World.ownsRow_nil w base _ 1, rfl, fun i l h => by simp at h⟩
theorem AT.empty (w : World) (base : Nat) (hb : base ≤ w.heap.size) : AT (w.alloc (.cells #[] 22)) base (.slice (some ⟨w.heap.size, 0, none⟩) 0 0) [] :=
  ⟨[], World.ownsRow_made w #[] 0 hb (by simp [maxLen]) rfl, rfl, fun i l h => by simp at h⟩
theorem AT.up (h : AT w base v L) : ∀ k, v.ownBlock = some k → base ≤ k := by
  obtain ⟨rows, h1, -, -⟩ := h
  exact fun k hk => (h1.lt k hk).1
theorem AT.more {base' : Nat} (h : AT w base v L) (hb : base' ≤ base) (hd : ∀ (A : Option Addr) (l : List UInt8), Rd w base A l → Rd w base' A l ∨ False) : AT w base' v L := by
  obtain ⟨rows, h1, h2, h3⟩ := h
  refine ⟨rows, row_more h1 hb, h2, fun i l hl => ?_⟩
  obtain ⟨A, c, h4, h5⟩ := h3 i l hl
  refine ⟨A, c, h4, ?_⟩
  rcases h5 with h5 | ⟨h5, h6⟩
  · exact .inl (h5.more hb)
  · rcases hd A l h5 with h7 | h7
    · exact .inr ⟨h7, h6⟩
    · exact h7.elim
/-- an append onto the slice leaves the rows as they were -/
theorem RowOk.grown {A : Option Addr} {c : Nat} {l : List UInt8} (h : RowOk w base A c l) {n : Nat} {rows : List Value} (ho : w.ownsRow base 22 1 v n rows) (hg : w.grownBy w' v.ownBlock) (hs : base ≤ w.heap.size) : RowOk w' base A c l := by
  rcases h with h | ⟨h, h1, h2⟩
  · refine .inl (row_keep h (fun k hk => ?_))
    have hne := row_ne2 ho h (by decide) k hk
    exact hg.block k (h.lt k hk).2 (fun e => hne e.symm)
  · refine .inr ⟨h.keep (fun p hp => World.cell?_of_block (hg.block p.block (by omega) (fun e => ?_))), h1, h2⟩
    have := (ho.lt _ e.symm).1
    omega
end
theorem info_bb : (Try.prog.info? 22).map (fun i => (i.zero, i.size, i.bytes)) = some (some (.slice none 0 0), 1, 24) := info_b8
theorem AT.app {w w' : World} {base : Nat} {v v' : Value} {L : List (List UInt8)} {A : Option Addr} {c : Nat} {l : List UInt8} (h : AT w base v L) (hrow : RowOk w base A c l) (hs : base ≤ w.heap.size)
    (hk : ∀ rows : List Value, w.ownsRow base 22 1 v L.length rows → w'.ownsRow base 22 1 v' (L.length + 1) (rows ++ [.slice A l.length c])) (hg : w.grownBy w' v.ownBlock) : AT w' base v' (L ++ [l]) := by
  obtain ⟨rows, h1, h2, h3⟩ := h
  refine ⟨rows ++ [.slice A l.length c], by rw [List.length_append]; exact hk rows h1, by simp [h2], fun i l' hl => ?_⟩
  by_cases hi : i < L.length
  · rw [List.getElem?_append_left hi] at hl
    obtain ⟨A', c', h4, h5⟩ := h3 i l' hl
    exact ⟨A', c', by rw [List.getElem?_append_left (by omega)]; exact h4, h5.grown h1 hg hs⟩
  · have hi2 : i = L.length := by
      have := (List.getElem?_eq_some_iff.mp hl).1
      simp at this
      omega
    subst hi2
    rw [List.getElem?_append_right (Nat.le_refl _), Nat.sub_self] at hl
    simp at hl
    subst hl
    exact ⟨A, c, by rw [List.getElem?_append_right (by omega), h2, Nat.sub_self]; rfl, hrow.grown h1 hg hs⟩
theorem wpl_append_row {w : World} {ops : Array Oper} {rest : List Oper} {o : Oper} {a : Act} {Q : Exit → Act → World → Prop} (hgd : o.guard = none) (s x : Operand)
    (ho : o.op = .call { callee := .builtin .append, args := #[s, x], argTypes := #[27, 27] })
    (base : Nat) (v : Value) (L : List (List UInt8)) (hs : a.eval s = v) (hat : AT w base v L) (A : Option Addr) (c : Nat) (l : List UInt8) (hrow : RowOk w base A c l)
    (B : Nat) (Ax : Option Addr) (cx : Nat) (hx : a.eval x = .slice Ax 1 cx) (hr : Reads w B 1 Ax 1 [.slice A l.length c])
    (hlen : L.length ≤ 1000000) (hbase : base ≤ w.heap.size)
    (h : ∀ v' w', AT w' base v' (L ++ [l]) → w.grownBy w' v.ownBlock → wpList Try.prog ops Q rest (a.put o.dst v') w') : wpList Try.prog ops Q (o :: rest) a w := by
  obtain ⟨i0, hi, hz0, hz1, hz2⟩ := info_parts info_bb
  have hat' := hat
  obtain ⟨rows, h1, h2, h3⟩ := hat'
  refine wpList_plain hgd fun _ hK => wp_append_any w s x 27 ho base 22 i0 _ 1 24 Try.underlying27 hi hz0 hz1 hz2 rfl (by omega) v L.length rows hs h1 B Ax 1 cx [.slice A l.length c] hx hr (fun u hu => by simp at hu; subst hu; rfl)
    (by simp only [maxLen]; omega) (by omega) hbase fun v' w' q1 q2 q3 => hK _ _ (h v' w' ?_ q2)
  refine ⟨rows ++ [.slice A l.length c], by rw [List.length_append]; exact q1, by simp [h2], fun i l' hl => ?_⟩
  by_cases hi2 : i < L.length
  · rw [List.getElem?_append_left hi2] at hl
    obtain ⟨A', c', h4, h5⟩ := h3 i l' hl
    exact ⟨A', c', by rw [List.getElem?_append_left (by omega)]; exact h4, h5.grown h1 q2 hbase⟩
  · have hi3 : i = L.length := by
      have := (List.getElem?_eq_some_iff.mp hl).1
      simp at this
      omega
    subst hi3
    rw [List.getElem?_append_right (Nat.le_refl _), Nat.sub_self] at hl
    simp at hl
    subst hl
    exact ⟨A, c, by rw [List.getElem?_append_right (by omega), h2, Nat.sub_self]; rfl, hrow.grown h1 q2 hbase⟩
/-- what one slice in a new block reads as -/
theorem reads_one (w : World) (t : TypeId) (u : Value) : Reads (w.alloc (.cells #[u] t)) (w.alloc (.cells #[u] t)).heap.size 1 (some ⟨w.heap.size, 0, none⟩) 1 [u] :=
  ⟨rfl, fun _ => ⟨_, rfl, by simp, World.news_of_block (heap_alloc_new w _) |> fun hh j x hx => hh j x hx⟩⟩
end Go.Proofs.Ytdgkcgiknfjpjaa
/- Facts for spans: bytes and tables. -/
namespace Go.Proofs.Ytdgkcgiknfjpjaa
set_option linter.unusedVariables false
open Go Go.RowKit
def Gr (w w' : World) : Prop := Below w.heap.size w w'
theorem Gr.trans {x y z : World} (h1 : Gr x y) (h2 : Gr y z) : Gr x z := Below.trans h1 (Below.mono h2 (Below.size h1))
theorem Gr.road : Road Gr := ⟨fun x => Below.refl _ x, fun h1 h2 => h1.trans h2⟩
theorem Pd.carry {w w' : World} {Φ : Pd Gr} {v : Value} (hr : Gr w w') (h : Hid (Φ.p v w)) : Hid (Φ.p v w') := Lib.hid (Φ.st hr h.out)
theorem OpOK.mk_ {P : Program} {ops : Array Oper} {R : World → World → Prop} {Φ : Nat → Pd R} {i : Nat} {a : Act} {w : World} {o : Oper} (ho : ops[i]? = some o) (hw : Region.wanted o (yielded ops a.tmps) = true)
    (h : ∀ K : Act → World → Prop, (∀ v w', R w w' → (Φ i).p v w' → K (a.put o.dst v) w') → Oper.wp P o a w K (fun _ _ _ => False)) : OpOK P ops Φ i a w :=
  ⟨o, ho, .inl ⟨hw, h _ (fun v w' h1 h2 => ⟨v, rfl, h1, h2⟩)⟩⟩
def topP : Pd Gr := ⟨fun _ _ => True, fun _ _ => trivial⟩
def eqP (u : Value) : Pd Gr := ⟨fun v _ => v = u, fun _ h => h⟩
/-- the world itself: what has come of w0 -/
def fromP (w0 : World) : Pd Gr := ⟨fun _ w => Below w0.heap.size w0 w, fun hr h => Gr.trans h hr⟩
def Byt (l : List UInt8) (v : Value) (w : World) : Prop := ∃ A c, v = .slice A l.length c ∧ l.length ≤ c ∧ c ≤ maxLen ∧ Rd w w.heap.size A l
def Tbl (L : List (List UInt8)) (v : Value) (w : World) : Prop := ∃ A c, v = .slice A L.length c ∧ L.length ≤ c ∧ c ≤ maxLen ∧ RT w w.heap.size A L.length L
def rdP (l : List UInt8) : Pd Gr := ⟨Byt l, fun hr ⟨A, c, e, h1, h2, h3⟩ => ⟨A, c, e, h1, h2, h3.up hr⟩⟩
def tbP (L : List (List UInt8)) : Pd Gr := ⟨Tbl L, fun hr ⟨A, c, e, h1, h2, h3⟩ => ⟨A, c, e, h1, h2, h3.up hr⟩⟩
/-- a table and a bool -/
def tupP (L : List (List UInt8)) (b : Bool) : Pd Gr := ⟨fun v w => ∃ u, v = .tuple #[u, .bool b] ∧ Tbl L u w, fun hr ⟨u, e, h⟩ => ⟨u, e, (tbP L).st hr h⟩⟩
theorem Byt.lit (w : World) (cs : Array Value) (l : List UInt8) (h : cs.toList = l.map vb) (hl : l.length ≤ 1000000) : Byt l (.slice (some ⟨w.heap.size, 0, none⟩) l.length l.length) (w.alloc (.cells cs 5)) :=
  ⟨_, _, rfl, Nat.le_refl _, by simp only [maxLen]; omega, Rd.lit w cs _ l h _ (by simp)⟩
theorem Tbl.lit (w : World) (vs : List Value) (L : List (List UInt8)) (hlen : vs.length = L.length) (hl : L.length ≤ 1000000) (h : ∀ (i : Nat) (v : Value) (l : List UInt8), vs[i]? = some v → L[i]? = some l → Byt l v w) :
    Tbl L (.slice (some ⟨w.heap.size, 0, none⟩) L.length L.length) (w.alloc (.cells vs.toArray 22)) := by
  refine ⟨_, _, rfl, Nat.le_refl _, by simp only [maxLen]; omega, rfl, fun hn => ⟨w.heap.size, 0, rfl, by simp, fun i l hl => ?_⟩⟩
  have hi : i < vs.length := by rw [hlen]; exact (List.getElem?_eq_some_iff.mp hl).1
  obtain ⟨A, c, e, h1, h2, h3⟩ := h i vs[i] l (List.getElem?_eq_getElem hi) hl
  refine ⟨A, c, ?_, h1, h2, (h3.up ((Below.refl _ w).alloc (Nat.le_refl _) _))⟩
  rw [← e]
  have hnew := World.news_of_block (heap_alloc_new w (.cells vs.toArray 22))
  rw [Nat.zero_add]
  have h9 := hnew i vs[i] (by simp)
  rw [show ((⟨w.heap.size, 0, none⟩ : Addr).add i) = ⟨w.heap.size, i, none⟩ from by unfold Addr.add; split <;> simp_all] at h9
  exact h9
end Go.Proofs.Ytdgkcgiknfjpjaa
/- slices.Chunk and slices.Collect: the chunks of bytes, as a table. -/
namespace Go.Proofs.Ytdgkcgiknfjpjaa
set_option linter.unusedVariables false
open Go Go.RowKit Go.Shelf
attribute [local go_sem] Oper.semAt_some
theorem finRange_take_succ {q k : Nat} (h : k < q) : (List.finRange q).take (k + 1) = (List.finRange q).take k ++ [⟨k, h⟩] := by
  rw [List.take_succ_eq_append_getElem (by rw [List.length_finRange]; exact h)]
  simp
set_option maxRecDepth 100000 in
set_option maxHeartbeats 4000000 in
theorem chunk1_in (F : Fence) (n : Nat) (h7 : F.fn 91) (hro : F.round = none) (hn : 1 ≤ n) (l Bs Bn n₀ b off cap q m : Nat) (hm : 1 ≤ m) (Q : Nat) (hQ : Hid (q * m = Q)) (hreach : Q + m ≤ 1000000000000) (hcap : Q ≤ cap) (hcm : cap ≤ maxLen) (J Jx : List (Fin q) → World → Prop) (W : World) (hJ : AbidesFrom W.heap.size J)
    (hY : ∀ pre x W, J pre W → pre.length < q → YieldAt F (n - 1) Try.prog l #[.slice (some ⟨b, off + x.1 * m, none⟩) m m] W fun e W' =>
      (e = .returned (.bool true) ∧ J (pre ++ [x]) W' ∧ Below n₀ W W') ∨ (e = .returned (.bool false) ∧ Jx (pre ++ [x]) W'))
    (hs : Bs < n₀) (hn0 : Bn < n₀) (hBs : W.cell? ⟨Bs, 0, none⟩ = some (.slice (some ⟨b, off, none⟩) Q cap)) (hBn : W.cell? ⟨Bn, 0, none⟩ = some (.int .i64 m)) (h0 : J [] W) :
    CallsIn F n Try.prog 91 #[.func (.yield l) #[] #[], .pointer (some ⟨Bs, 0, none⟩), .pointer (some ⟨Bn, 0, none⟩)] W fun e W' => (∃ v, e = .returned v) ∧
      ((∃ ys, ys = List.finRange q ∧ J ys W') ∨ (∃ pre, True ∧ Jx pre W')) := by
  refine callsIn_of_wp Try.func91 rfl h7 ?_ hro
  simp only [Try.ntmps91, List.size_toArray, List.length_cons, List.length_nil, Nat.reduceAdd, Nat.reduceSub, Array.replicate_succ, Array.replicate_zero, List.push_toArray, List.append_toArray, List.nil_append, List.cons_append]
  gi_wp2
  gi_loopw [4] (fun i wr => ∃ k : Nat, k ≤ q ∧ i = .int .i64 ((k * m : Nat) : Int) ∧ J ((List.finRange q).take k) wr ∧ Below n₀ W wr)
    (fun i _ => Q + m - (intOf i).toNat)
  case atStart => exact ⟨0, Nat.zero_le _, by simp, h0, Below.refl _ _⟩
  case round =>
    obtain ⟨k, hk, rfl, hJs, hnx⟩ := hrel
    have hcs := (hnx.cell (p := ⟨Bs, 0, none⟩) hs).trans hBs
    have hcn := (hnx.cell (p := ⟨Bn, 0, none⟩) hn0).trans hBn
    by_cases hlt : k < q
    · have hJd : J ((List.finRange q).take k) wr.drew := hJ _ _ _ none hJs ⟨rfl, rfl, rfl, Nat.le_refl _, fun _ _ _ => rfl⟩ (fun r e => by cases e)
      obtain ⟨fn, tmps, assign, body, hy, hR⟩ := hY _ ⟨k, hlt⟩ wr.drew hJd (by rw [List.length_take, List.length_finRange]; omega)
      dsimp only at hy
      have hnx1 : (k + 1) * m = k * m + m := by rw [Nat.succ_mul]
      have hle : (k + 1) * m ≤ q * m := Nat.mul_le_mul_right m hlt
      rw [hnx1, hQ.out] at hle
      have htake := Lib.hid (finRange_take_succ hlt)
      obtain ⟨t, ht⟩ : ∃ t, k * m = t := ⟨_, rfl⟩
      rw [ht] at hy hle hnx1 ⊢
      have i1 : (t : Int) < (Q : Int) := by omega
      have i2 : (m : Int) ≤ (Q : Int) - (t : Int) := by omega
      have hmin : (if Q - t < m then (((Q - t : Nat)) : Int) else (m : Int)) = (m : Int) := if_neg (by omega)
      replace ht := Lib.hid ht
      replace hnx1 := Lib.hid hnx1
      gi_wp2
      gi_region
      all_goals
        try simp only [hmin]
        gi_wp2
        refine hR.mono ?_
        rintro e W3 (⟨rfl, hJ3, hk3⟩ | ⟨rfl, hJx3⟩)
        · have hcn3 := (hk3.cell (p := ⟨Bn, 0, none⟩) hn0).trans hcn
          have hnx3 : Below n₀ W W3 := hnx.trans (Below.trans ((Below.refl _ _).drew) hk3)
          gi_wp2
          go_roundw
          case rel => exact ⟨k + 1, by omega, by rw [hnx1.out]; go_num, by rw [htake.out]; exact hJ3, hnx3⟩
          case measure => simp [intOf]; omega
        · gi_wp2
          refine bodyPost_ret (results_none rfl _ _ _) rfl ?_
          exact ⟨⟨_, rfl⟩, .inr ⟨_, trivial, hJx3⟩⟩
    · obtain rfl : k = q := by omega
      have hQ2 := hQ.out
      rw [hQ2]
      have hall : (List.finRange k).take k = List.finRange k := List.take_of_length_le (by rw [List.length_finRange]; exact Nat.le_refl _)
      rw [hall] at hJs
      replace hQ2 := Lib.hid hQ2
      gi_wp2
      go_end0
      exact ⟨⟨_, rfl⟩, .inl ⟨_, rfl, hJs⟩⟩
end Go.Proofs.Ytdgkcgiknfjpjaa
/- slices.Collect of slices.Chunk: the chunks of bytes, as a table. -/
namespace Go.Proofs.Ytdgkcgiknfjpjaa
set_option linter.unusedVariables false
open Go Go.RowKit Go.Shelf
attribute [local go_sem] Oper.semAt_some
def chunkV (b off m : Nat) (x : Nat) : Value := .slice (some ⟨b, off + x * m, none⟩) m m
theorem chunk_stops (F : Fence) (n : Nat) (h7 : F.fn 91) (hro : F.round = none) (hn : 1 ≤ n) (Bs Bn n₀ b off cap q m : Nat) (hm : 1 ≤ m) (Q : Nat) (hQ : q * m = Q) (hreach : Q + m ≤ 1000000000000) (hcap : Q ≤ cap) (hcm : cap ≤ maxLen)
    (w : World) (hs : Bs < n₀) (hn0 : Bn < n₀) (hnw : n₀ ≤ w.heap.size) (hBs : w.cell? ⟨Bs, 0, none⟩ = some (.slice (some ⟨b, off, none⟩) Q cap)) (hBn : w.cell? ⟨Bn, 0, none⟩ = some (.int .i64 m)) :
    SeqStopsK F n Try.prog 91 #[.pointer (some ⟨Bs, 0, none⟩), .pointer (some ⟨Bn, 0, none⟩)] (fun x : Fin q => #[.slice (some ⟨b, off + x.1 * m, none⟩) m m]) (Below n₀) (fun ys => ys = List.finRange q) (fun _ => True) q w := fun l J Jx W hW hJ _ hY h0 =>
  chunk1_in F n h7 hro hn l Bs Bn n₀ b off cap q m hm Q (Lib.hid hQ) hreach hcap hcm J Jx W hJ hY hs hn0 ((hW.cell (p := ⟨Bs, 0, none⟩) (by show Bs < _; omega)).trans hBs) ((hW.cell (p := ⟨Bn, 0, none⟩) (by show Bn < _; omega)).trans hBn) h0
theorem infoBB : (Try.prog.info? 22).map (fun i => (i.zero, i.size, i.bytes)) = some (some (.slice none 0 0), 1, 24) := info_b8
set_option maxRecDepth 100000 in
set_option maxHeartbeats 4000000 in
theorem appendSeq_in (F : Fence) (n : Nat) (h3 : F.fn 62) (h5 : F.fn 91) (hro : F.round = none) (hn : 3 ≤ n) (Bs Bn b off cap q m : Nat) (hm : 1 ≤ m) (Q : Nat) (hQ : q * m = Q) (hreach : Q + m ≤ 1000000) (hcap : Q ≤ cap) (hcm : cap ≤ maxLen)
    (w : World) (hs : Bs < w.heap.size) (hn0 : Bn < w.heap.size) (hBs : w.cell? ⟨Bs, 0, none⟩ = some (.slice (some ⟨b, off, none⟩) Q cap)) (hBn : w.cell? ⟨Bn, 0, none⟩ = some (.int .i64 m)) :
    CallsIn F n Try.prog 62 #[.slice none 0 0, .func (.func 91) #[] #[.pointer (some ⟨Bs, 0, none⟩), .pointer (some ⟨Bn, 0, none⟩)]] w fun e W' => ∃ v, e = .returned v ∧ W'.ownsRow w.heap.size 22 1 v q ((List.finRange q).map (fun x => Value.slice (some ⟨b, off + x.1 * m, none⟩) m m)) ∧ Below w.heap.size w W' := by
  have h1 : 1 ≤ n := by omega
  have hq : q ≤ 1000000 := by
    have := Nat.le_mul_of_pos_right q hm
    omega
  obtain ⟨i0, hi, hz0, hz1, hz2⟩ := info_parts infoBB
  refine callsIn_of_wp_marks Try.func62 rfl h3 ?_ hro
  simp only [Try.ntmps62, List.size_toArray, List.length_cons, List.length_nil, Nat.reduceAdd, Nat.reduceSub, Array.replicate_succ, Array.replicate_zero, List.push_toArray, List.append_toArray, List.nil_append, List.cons_append]
  gi_wp2
  have bO := Boxed.new w 27 (.slice none 0 0)
  have hB0 : Below w.heap.size w (w.alloc (.cells #[.slice none 0 0] 27)) := (Below.refl _ w).alloc (Nat.le_refl _) _
  refine wpIn_rangeFunc_ownG hro h1 (gf := 91) (lb := #[.pointer (some ⟨Bs, 0, none⟩), .pointer (some ⟨Bn, 0, none⟩)]) rfl h5 (enters_of Try.func91 (by kernel_rfl) rfl)
    (chunk_stops F (n - 1) h5 hro (by omega) Bs Bn w.heap.size b off cap q m hm Q hQ (by omega) hcap hcm _ hs hn0 (by simp) ((hB0.cell (p := ⟨Bs, 0, none⟩) hs).trans hBs) ((hB0.cell (p := ⟨Bn, 0, none⟩) hn0).trans hBn)) belowK_t (belowK_b (by simp)) (Below.refl _ _) (fun _ => rfl)
    (fun (pre : List (Fin q)) W => (∃ v, Boxed W w.heap.size 27 v ∧ W.ownsRow w.heap.size 22 1 v pre.length (pre.map (fun x : Fin q => Value.slice (some ⟨b, off + x.1 * m, none⟩) m m)) ∧ True) ∧ Below w.heap.size w W)
    (fun _ _ _ => False)
    (OwnFrom.and (Own.from (holdsRow_own w.heap.size w.heap.size 27 22 1 (fun (pre : List (Fin q)) => pre.length) (fun (pre : List (Fin q)) => pre.map (fun x : Fin q => Value.slice (some ⟨b, off + x.1 * m, none⟩) m m)) (fun _ _ => True)) _) (ownFrom_below (Nat.le_refl _) (by simp)))
    (fun _ _ _ _ _ hs _ _ => hs)
    ⟨⟨_, bO, World.ownsRow_nil _ _ _ _, trivial⟩, hB0⟩
    (fun x => { tmps := #[.slice none 0 0, .func (.func 91) #[] #[.pointer (some ⟨Bs, 0, none⟩), .pointer (some ⟨Bn, 0, none⟩)], .pointer (some ⟨w.heap.size, 0, none⟩), undef, .slice none 0 0, Value.slice (some ⟨b, off + x.1 * m, none⟩) m m, .func (.func 91) #[] #[.pointer (some ⟨Bs, 0, none⟩), .pointer (some ⟨Bn, 0, none⟩)], Value.slice (some ⟨b, off + x.1 * m, none⟩) m m, undef, undef, undef, undef, undef], defers := [] }) ?assign ?body ?done ?stop
  case assign =>
    intro l x W K hK
    gi_wp2
    exact hK
  case body =>
    rintro l pre x W ⟨⟨v, hv, hrow, -⟩, hB⟩ hlt
    have hc := hv.cell
    have hb0 : w.heap.size ≤ (W.alloc (.cells #[.slice (some ⟨b, off + x.1 * m, none⟩) m m] 22)).heap.size := by have := hB.size; simp; omega
    gi_wp2_with (gi_at_builtin; refine wpListIn_append_own _ rfl _ _ 27 rfl w.heap.size 22 i0 (.slice none 0 0) 1 24 Try.underlying27 hi hz0 hz1 hz2 rfl (by decide) _ _ _ rfl (hrow.alloc _) ⟨W.heap.size, 0, none⟩ 1 1 [.slice (some ⟨b, off + x.1 * m, none⟩) m m] rfl rfl (cell_one_new _ _ _) (by simp [Value.oneCell']) (by simp only [maxLen]; omega) (by omega) hb0 ?_; intro v' w1 hown' hgrow _; obtain ⟨g', cap', rfl⟩ := ownsRow_succ hown'; obtain ⟨hv1, hv2, hr2, hk2, hb2⟩ := hv.appended (by decide) hrow hB.size (Nat.le_refl _) hown' hgrow; have hc1 := hv1.cell; have hf1 := hv1.frozen)
    exact ⟨hk2.from _, hb2, ⟨_, hv2, by simpa using hr2, trivial⟩, hB.trans hb2⟩
  case done =>
    rintro D ys W hD rfl ⟨⟨v, hv, hrow, -⟩, hB⟩ hK
    have hc := hv.cell
    gi_wp2
    refine ⟨by simp, .inl ⟨_, _, rfl, run_takeDeferred hK, ?_⟩⟩
    exact ⟨_, results_tmp rfl _ _ _, v, rfl, by rw [List.length_finRange] at hrow; exact ownsRow_putObj hrow _ hK rfl, hB.trans (belowK_b (w := w) (Nat.le_refl _) W D _ _ (by simp at hD; omega) hK rfl rfl)⟩
  case stop =>
    rintro D c pre W _ _ h _
    exact h.elim
end Go.Proofs.Ytdgkcgiknfjpjaa
