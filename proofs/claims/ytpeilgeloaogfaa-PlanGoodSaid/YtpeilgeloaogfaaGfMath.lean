/- The field of 256 elements, as plain functions on bytes: what the walks of Mul, Pow and Div compute, and its laws. -/
namespace Go.Proofs.Ytpeilgeloaogfaa

def chk (f : Nat → Bool) : Nat → Bool
  | 0 => true
  | n + 1 => f n && chk f n
theorem chk_all {f : Nat → Bool} : ∀ {n : Nat}, chk f n = true → ∀ k, k < n → f k = true
  | 0, _, k, h => absurd h (Nat.not_lt_zero k)
  | n + 1, h, k, hk => by
    simp only [chk, Bool.and_eq_true] at h
    by_cases e : k = n
    · subst e; exact h.1
    · exact chk_all h.2 k (by omega)
theorem all8 {f : UInt8 → Bool} (h : chk (fun n => f (UInt8.ofNat n)) 256 = true) (x : UInt8) : f x = true := by
  have := chk_all h x.toNat x.toNat_lt
  simpa using this

/-- times x -/
def tx (a : UInt8) : UInt8 := if (a &&& 128 != 0) = true then (a <<< 1) ^^^ 29 else a <<< 1
/-- the rounds of Mul: (a, b, product) -/
def mst (a b : UInt8) : Nat → UInt8 × UInt8 × UInt8
  | 0 => (a, b, 0)
  | k + 1 => (tx (mst a b k).1, (mst a b k).2.1 >>> 1, if ((mst a b k).2.1 &&& 1 != 0) = true then (mst a b k).2.2 ^^^ (mst a b k).1 else (mst a b k).2.2)
def gmul (a b : UInt8) : UInt8 := (mst a b 8).2.2
/-- the rounds of Pow: (a, n, product) -/
def pst (a : UInt8) (n : Nat) : Nat → UInt8 × Nat × UInt8
  | 0 => (a, n, 1)
  | k + 1 => (gmul (pst a n k).1 (pst a n k).1, (pst a n k).2.1 / 2, if ((pst a n k).2.1 % 2 != 0) = true then gmul (pst a n k).2.2 (pst a n k).1 else (pst a n k).2.2)
def gpow (a : UInt8) (n : Int) : UInt8 := if n ≤ 0 then 1 else if a = 0 then 0 else (pst a (n.toNat % 255) 8).2.2
theorem pst_le (a : UInt8) (n : Nat) (k : Nat) : (pst a n k).2.1 ≤ n := by
  induction k with
  | zero => exact Nat.le_refl _
  | succ k ih => exact Nat.le_trans (Nat.div_le_self _ _) ih

/-! ### linear maps -/
def Lin (f : UInt8 → UInt8) : Prop := ∀ x y, f (x ^^^ y) = f x ^^^ f y
theorem xor8 (a b c d : UInt8) : (a ^^^ b) ^^^ (c ^^^ d) = (a ^^^ c) ^^^ (b ^^^ d) := by
  rw [UInt8.xor_assoc, UInt8.xor_assoc, ← UInt8.xor_assoc b, UInt8.xor_comm b c, UInt8.xor_assoc c]
theorem Lin.zero {f : UInt8 → UInt8} (h : Lin f) : f 0 = 0 := by
  have := h 0 0
  simpa using this
theorem Lin.add {f g : UInt8 → UInt8} (hf : Lin f) (hg : Lin g) : Lin (fun x => f x ^^^ g x) := fun x y => by
  show f (x ^^^ y) ^^^ g (x ^^^ y) = _
  rw [hf, hg, xor8]
theorem Lin.comp {f g : UInt8 → UInt8} (hf : Lin f) (hg : Lin g) : Lin (fun x => f (g x)) := fun x y => by
  show f (g (x ^^^ y)) = _
  rw [hg, hf]
theorem Lin.id : Lin (fun x => x) := fun _ _ => rfl
theorem Lin.const0 : Lin (fun _ => 0) := fun _ _ => by simp
/-- two linear maps that agree on the eight bits agree -/
theorem Lin.ext {f g : UInt8 → UInt8} (hf : Lin f) (hg : Lin g) (h : ∀ j, j < 8 → f (UInt8.ofNat (2 ^ j)) = g (UInt8.ofNat (2 ^ j))) (x : UInt8) : f x = g x := by
  have part : ∀ j, j < 8 → f (x &&& UInt8.ofNat (2 ^ j)) = g (x &&& UInt8.ofNat (2 ^ j)) := fun j hj => by
    have e := all8 (f := fun x => chk (fun j => (x &&& UInt8.ofNat (2 ^ j) == 0) || (x &&& UInt8.ofNat (2 ^ j) == UInt8.ofNat (2 ^ j))) 8) (by decide +kernel) x
    have e := chk_all e j hj
    simp only [Bool.or_eq_true, beq_iff_eq] at e
    rcases e with e | e <;> rw [e]
    · rw [hf.zero, hg.zero]
    · exact h j hj
  have e := all8 (f := fun x => x == (((x &&& 1) ^^^ (x &&& 2)) ^^^ ((x &&& 4) ^^^ (x &&& 8))) ^^^ (((x &&& 16) ^^^ (x &&& 32)) ^^^ ((x &&& 64) ^^^ (x &&& 128)))) (by decide +kernel) x
  rw [eq_of_beq e, hf, hf, hf, hf, hf, hf, hf, hg, hg, hg, hg, hg, hg, hg]
  have p0 := part 0 (by decide); have p1 := part 1 (by decide); have p2 := part 2 (by decide); have p3 := part 3 (by decide)
  have p4 := part 4 (by decide); have p5 := part 5 (by decide); have p6 := part 6 (by decide); have p7 := part 7 (by decide)
  simp only [Nat.pow_zero, Nat.reducePow] at p0 p1 p2 p3 p4 p5 p6 p7
  simp only [UInt8.reduceOfNat] at p0 p1 p2 p3 p4 p5 p6 p7
  rw [p0, p1, p2, p3, p4, p5, p6, p7]

theorem bit_cases (x : UInt8) (j : Nat) (hj : j < 8) : x &&& UInt8.ofNat (2 ^ j) = 0 ∨ x &&& UInt8.ofNat (2 ^ j) = UInt8.ofNat (2 ^ j) := by
  have e := all8 (f := fun x => chk (fun j => (x &&& UInt8.ofNat (2 ^ j) == 0) || (x &&& UInt8.ofNat (2 ^ j) == UInt8.ofNat (2 ^ j))) 8) (by decide +kernel) x
  have e := chk_all e j hj
  simpa only [Bool.or_eq_true, beq_iff_eq] using e
theorem and_xor (x y c : UInt8) : (x ^^^ y) &&& c = (x &&& c) ^^^ (y &&& c) := by
  apply UInt8.toBitVec_inj.mp
  ext i hi
  simp only [UInt8.toBitVec_and, UInt8.toBitVec_xor, BitVec.getElem_and, BitVec.getElem_xor]
  cases x.toBitVec[i] <;> cases y.toBitVec[i] <;> cases c.toBitVec[i] <;> rfl
theorem shl1_xor (x y : UInt8) : (x ^^^ y) <<< 1 = (x <<< 1) ^^^ (y <<< 1) := by
  apply UInt8.toBitVec_inj.mp
  exact BitVec.shiftLeft_xor_distrib ..
theorem shr1_xor (x y : UInt8) : (x ^^^ y) >>> 1 = (x >>> 1) ^^^ (y >>> 1) := by
  apply UInt8.toBitVec_inj.mp
  exact BitVec.ushiftRight_xor_distrib ..
/-- 'c if the bit of x is set' is linear in x -/
theorem lin_bit (j : Nat) (hj : j < 8) (c : UInt8) : Lin (fun x => if (x &&& UInt8.ofNat (2 ^ j) != 0) = true then c else 0) := fun x y => by
  have hb : UInt8.ofNat (2 ^ j) ≠ 0 := by
    have : chk (fun j => UInt8.ofNat (2 ^ j) != 0) 8 = true := by decide +kernel
    simpa using chk_all this j hj
  simp only
  rw [and_xor]
  rcases bit_cases x j hj with e | e <;> rcases bit_cases y j hj with f | f <;> rw [e, f] <;> simp [hb]
theorem tx_lin : Lin tx := by
  have e : tx = fun x : UInt8 => (x <<< 1) ^^^ (if (x &&& UInt8.ofNat (2 ^ 7) != 0) = true then 29 else 0) := by
    funext x
    show (if (x &&& 128 != 0) = true then (x <<< 1) ^^^ 29 else x <<< 1) = (x <<< 1) ^^^ (if (x &&& 128 != 0) = true then 29 else 0)
    split <;> simp
  rw [e]
  exact Lin.add shl1_xor (lin_bit 7 (by decide) 29)
theorem mst_lin_b (a : UInt8) (k : Nat) : Lin (fun b => (mst a b k).2.1) ∧ (∀ b b', (mst a b k).1 = (mst a b' k).1) ∧ Lin (fun b => (mst a b k).2.2) := by
  induction k with
  | zero => exact ⟨Lin.id, fun _ _ => rfl, Lin.const0⟩
  | succ k ih =>
    obtain ⟨h1, h2, h3⟩ := ih
    refine ⟨fun x y => ?_, fun b b' => ?_, fun x y => ?_⟩
    · show (mst a (x ^^^ y) k).2.1 >>> 1 = _
      have := h1 x y
      simp only at this
      rw [this, shr1_xor]; rfl
    · show tx (mst a b k).1 = tx (mst a b' k).1
      rw [h2 b b']
    · have e : ∀ b, (mst a b (k + 1)).2.2 = (mst a b k).2.2 ^^^ (if ((mst a b k).2.1 &&& UInt8.ofNat (2 ^ 0) != 0) = true then (mst a 0 k).1 else 0) := fun b => by
        show (if ((mst a b k).2.1 &&& 1 != 0) = true then (mst a b k).2.2 ^^^ (mst a b k).1 else (mst a b k).2.2) = (mst a b k).2.2 ^^^ (if ((mst a b k).2.1 &&& 1 != 0) = true then (mst a 0 k).1 else 0)
        rw [h2 b 0]
        split <;> simp
      simp only [e]
      exact Lin.add (g := fun b => if ((mst a b k).2.1 &&& UInt8.ofNat (2 ^ 0) != 0) = true then (mst a 0 k).1 else 0) h3 (Lin.comp (lin_bit 0 (by decide) _) h1) x y
theorem gmul_lin_b (a : UInt8) : Lin (fun b => gmul a b) := (mst_lin_b a 8).2.2
theorem mst_lin_a (b : UInt8) (k : Nat) : Lin (fun a => (mst a b k).1) ∧ (∀ a a', (mst a b k).2.1 = (mst a' b k).2.1) ∧ Lin (fun a => (mst a b k).2.2) := by
  induction k with
  | zero => exact ⟨Lin.id, fun _ _ => rfl, Lin.const0⟩
  | succ k ih =>
    obtain ⟨h1, h2, h3⟩ := ih
    refine ⟨Lin.comp tx_lin h1, fun a a' => ?_, fun x y => ?_⟩
    · show (mst a b k).2.1 >>> 1 = (mst a' b k).2.1 >>> 1
      rw [h2 a a']
    · have e : ∀ a, (mst a b (k + 1)).2.2 = (mst a b k).2.2 ^^^ (if ((mst 0 b k).2.1 &&& 1 != 0) = true then (mst a b k).1 else 0) := fun a => by
        show (if ((mst a b k).2.1 &&& 1 != 0) = true then (mst a b k).2.2 ^^^ (mst a b k).1 else (mst a b k).2.2) = _
        rw [h2 a 0]
        split <;> simp
      simp only [e]
      refine Lin.add (g := fun a => if ((mst 0 b k).2.1 &&& 1 != 0) = true then (mst a b k).1 else 0) h3 ?_ x y
      by_cases hc : ((mst 0 b k).2.1 &&& 1 != 0) = true
      · simp only [hc, if_true]; exact h1
      · simp only [hc]; exact Lin.const0
theorem gmul_lin_a (b : UInt8) : Lin (fun a => gmul a b) := (mst_lin_a b 8).2.2
theorem gmul_xor_r (a b c : UInt8) : gmul a (b ^^^ c) = gmul a b ^^^ gmul a c := gmul_lin_b a b c
theorem gmul_xor_l (a b c : UInt8) : gmul (a ^^^ b) c = gmul a c ^^^ gmul b c := gmul_lin_a c a b
theorem gmul_zero_l (b : UInt8) : gmul 0 b = 0 := (gmul_lin_a b).zero
theorem gmul_zero_r (a : UInt8) : gmul a 0 = 0 := (gmul_lin_b a).zero
theorem gmul_one_r (a : UInt8) : gmul a 1 = a := by
  refine Lin.ext (gmul_lin_a 1) Lin.id (fun j hj => ?_) a
  have : chk (fun j => gmul (UInt8.ofNat (2 ^ j)) 1 == UInt8.ofNat (2 ^ j)) 8 = true := by decide +kernel
  exact eq_of_beq (chk_all this j hj)
theorem gmul_comm (a b : UInt8) : gmul a b = gmul b a := by
  refine Lin.ext (gmul_lin_a b) (gmul_lin_b b) (fun j hj => ?_) a
  refine Lin.ext (gmul_lin_b _) (gmul_lin_a _) (fun i hi => ?_) b
  have : chk (fun j => chk (fun i => gmul (UInt8.ofNat (2 ^ j)) (UInt8.ofNat (2 ^ i)) == gmul (UInt8.ofNat (2 ^ i)) (UInt8.ofNat (2 ^ j))) 8) 8 = true := by decide +kernel
  exact eq_of_beq (chk_all (chk_all this j hj) i hi)
theorem gmul_one_l (a : UInt8) : gmul 1 a = a := by rw [gmul_comm, gmul_one_r]
theorem gmul_assoc (a b c : UInt8) : gmul (gmul a b) c = gmul a (gmul b c) := by
  refine Lin.ext (f := fun a => gmul (gmul a b) c) (Lin.comp (gmul_lin_a c) (gmul_lin_a b)) (gmul_lin_a _) (fun j hj => ?_) a
  refine Lin.ext (f := fun b => gmul (gmul (UInt8.ofNat (2 ^ j)) b) c) (g := fun b => gmul (UInt8.ofNat (2 ^ j)) (gmul b c)) (Lin.comp (gmul_lin_a c) (gmul_lin_b _)) (Lin.comp (gmul_lin_b _) (gmul_lin_a c)) (fun i hi => ?_) b
  refine Lin.ext (f := fun c => gmul (gmul (UInt8.ofNat (2 ^ j)) (UInt8.ofNat (2 ^ i))) c) (g := fun c => gmul (UInt8.ofNat (2 ^ j)) (gmul (UInt8.ofNat (2 ^ i)) c)) (gmul_lin_b _) (Lin.comp (gmul_lin_b _) (gmul_lin_b _)) (fun l hl => ?_) c
  have : chk (fun j => chk (fun i => chk (fun l => gmul (gmul (UInt8.ofNat (2 ^ j)) (UInt8.ofNat (2 ^ i))) (UInt8.ofNat (2 ^ l)) == gmul (UInt8.ofNat (2 ^ j)) (gmul (UInt8.ofNat (2 ^ i)) (UInt8.ofNat (2 ^ l)))) 8) 8) 8 = true := by decide +kernel
  exact eq_of_beq (chk_all (chk_all (chk_all this j hj) i hi) l hl)
end Go.Proofs.Ytpeilgeloaogfaa
