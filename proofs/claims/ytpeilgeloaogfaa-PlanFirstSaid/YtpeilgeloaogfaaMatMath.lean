/- Matrices over the field of 256 elements, as plain functions. -/
import Derived.Test.YtpeilgeloaogfaaGfPow
namespace Go.Proofs.Ytpeilgeloaogfaa
set_option linter.unusedVariables false

theorem xx (a : UInt8) : a ^^^ a = 0 := UInt8.xor_self
theorem x0 (a : UInt8) : a ^^^ 0 = a := UInt8.xor_zero
theorem zx (a : UInt8) : 0 ^^^ a = a := UInt8.zero_xor
theorem xc (a b : UInt8) : a ^^^ b = b ^^^ a := UInt8.xor_comm a b
theorem xa (a b c : UInt8) : (a ^^^ b) ^^^ c = a ^^^ (b ^^^ c) := UInt8.xor_assoc a b c
theorem xeq {a b : UInt8} (h : a ^^^ b = 0) : a = b := by
  have h2 : (a ^^^ b) ^^^ b = 0 ^^^ b := by rw [h]
  rwa [xa, xx, x0, zx] at h2
theorem xne {a b : UInt8} (h : a ≠ b) : a ^^^ b ≠ 0 := fun e => h (xeq e)
theorem x_move {a b c : UInt8} (h : a ^^^ b = c) : a = c ^^^ b := by rw [← h, xa, xx, x0]
/-- the sum of the first n -/
def gsum : Nat → (Nat → UInt8) → UInt8
  | 0, _ => 0
  | n + 1, f => gsum n f ^^^ f n
theorem gsum_succ (n : Nat) (f : Nat → UInt8) : gsum (n + 1) f = gsum n f ^^^ f n := rfl
theorem gsum_congr {n : Nat} {f g : Nat → UInt8} (h : ∀ k, k < n → f k = g k) : gsum n f = gsum n g := by
  induction n with
  | zero => rfl
  | succ n ih => unfold gsum; rw [ih (fun k hk => h k (by omega)), h n (by omega)]
theorem gsum_zero {n : Nat} {f : Nat → UInt8} (h : ∀ k, k < n → f k = 0) : gsum n f = 0 := by
  induction n with
  | zero => rfl
  | succ n ih => unfold gsum; rw [ih (fun k hk => h k (by omega)), h n (by omega), x0]
theorem gsum_xor (n : Nat) (f g : Nat → UInt8) : gsum n (fun k => f k ^^^ g k) = gsum n f ^^^ gsum n g := by
  induction n with
  | zero => exact (xx 0).symm
  | succ n ih => unfold gsum; rw [ih, xor8]
theorem gsum_mul_l (c : UInt8) (n : Nat) (f : Nat → UInt8) : gsum n (fun k => gmul c (f k)) = gmul c (gsum n f) := by
  induction n with
  | zero => unfold gsum; rw [gmul_zero_r]
  | succ n ih => unfold gsum; rw [ih, gmul_xor_r]
theorem gsum_mul_r (c : UInt8) (n : Nat) (f : Nat → UInt8) : gsum n (fun k => gmul (f k) c) = gmul (gsum n f) c := by
  induction n with
  | zero => unfold gsum; rw [gmul_zero_l]
  | succ n ih => unfold gsum; rw [ih, gmul_xor_l]
theorem gsum_swap (n m : Nat) (f : Nat → Nat → UInt8) : gsum n (fun i => gsum m (fun j => f i j)) = gsum m (fun j => gsum n (fun i => f i j)) := by
  induction n with
  | zero => exact (gsum_zero (fun _ _ => rfl)).symm
  | succ n ih =>
    have e : (fun j => gsum (n + 1) (fun i => f i j)) = fun j => gsum n (fun i => f i j) ^^^ f n j := rfl
    rw [e, gsum_xor, ← ih]
    rfl
theorem gsum_one {n i : Nat} (hi : i < n) (f : Nat → UInt8) (h : ∀ k, k < n → k ≠ i → f k = 0) : gsum n f = f i := by
  induction n with
  | zero => omega
  | succ n ih =>
    unfold gsum
    by_cases e : i = n
    · subst e
      rw [gsum_zero (fun k hk => h k (by omega) (by omega)), zx]
    · rw [ih (by omega) (fun k hk hne => h k (by omega) hne), h n (by omega) (by omega), x0]
abbrev Mx := Nat → Nat → UInt8
def mm (n : Nat) (A B : Mx) : Mx := fun i j => gsum n (fun k => gmul (A i k) (B k j))
def idM : Mx := fun i j => if i = j then 1 else 0
theorem mm_assoc (n m : Nat) (A B C : Mx) (i j : Nat) : mm m (mm n A B) C i j = mm n A (mm m B C) i j := by
  unfold mm
  have h1 : (fun k => gmul (gsum n (fun l => gmul (A i l) (B l k))) (C k j)) = fun k => gsum n (fun l => gmul (A i l) (gmul (B l k) (C k j))) := by
    funext k
    rw [← gsum_mul_r]
    exact gsum_congr (fun l _ => gmul_assoc _ _ _)
  have h2 : (fun l => gmul (A i l) (gsum m (fun k => gmul (B l k) (C k j)))) = fun l => gsum m (fun k => gmul (A i l) (gmul (B l k) (C k j))) := by
    funext l
    rw [← gsum_mul_l]
  rw [h1, h2, gsum_swap]
theorem mm_id_l {n i : Nat} (hi : i < n) (A : Mx) (j : Nat) : mm n idM A i j = A i j := by
  unfold mm
  rw [gsum_one hi _ (fun k hk hne => by unfold idM; rw [if_neg (by omega), gmul_zero_l])]
  unfold idM
  rw [if_pos rfl, gmul_one_l]
theorem mm_id_r {n j : Nat} (hj : j < n) (A : Mx) (i : Nat) : mm n A idM i j = A i j := by
  unfold mm
  rw [gsum_one hj _ (fun k hk hne => by unfold idM; rw [if_neg (by omega), gmul_zero_r])]
  unfold idM
  rw [if_pos rfl, gmul_one_r]
theorem mm_congr {n : Nat} {A A' B B' : Mx} {i j : Nat} (h : ∀ k, k < n → A i k = A' i k) (h2 : ∀ k, k < n → B k j = B' k j) : mm n A B i j = mm n A' B' i j :=
  gsum_congr (fun k hk => by rw [h k hk, h2 k hk])
/-- a vector's image -/
def mv (n : Nat) (A : Mx) (v : Nat → UInt8) (i : Nat) : UInt8 := gsum n (fun k => gmul (A i k) (v k))
/-- no vector but none is sent to none -/
def NoKer (n : Nat) (A : Mx) : Prop := ∀ v : Nat → UInt8, (∀ i, i < n → mv n A v i = 0) → ∀ i, i < n → v i = 0
def HasKer (n : Nat) (A : Mx) : Prop := ∃ v : Nat → UInt8, (∀ i, i < n → mv n A v i = 0) ∧ ∃ i, i < n ∧ v i ≠ 0
theorem not_both {n : Nat} {A : Mx} (h : NoKer n A) (h2 : HasKer n A) : False := by
  obtain ⟨v, hv, i, hi, hn⟩ := h2
  exact hn (h v hv i hi)
def EqM (n m : Nat) (A B : Mx) : Prop := ∀ i j, i < n → j < m → A i j = B i j
theorem mv_mm (n : Nat) (A B : Mx) (v : Nat → UInt8) (i : Nat) : mv n (mm n A B) v i = mv n A (mv n B v) i :=
  mm_assoc n n A B (fun k _ => v k) i 0
theorem mv_congr {n : Nat} {A B : Mx} {v u : Nat → UInt8} {i : Nat} (h : ∀ k, k < n → A i k = B i k) (h2 : ∀ k, k < n → v k = u k) : mv n A v i = mv n B u i :=
  gsum_congr (fun k hk => by rw [h k hk, h2 k hk])
theorem mv_zero {n : Nat} {A : Mx} {v : Nat → UInt8} {i : Nat} (h : ∀ k, k < n → v k = 0) : mv n A v i = 0 := gsum_zero (fun k hk => by rw [h k hk, gmul_zero_r])
theorem mv_id {n i : Nat} (hi : i < n) (v : Nat → UInt8) : mv n idM v i = v i := mm_id_l hi (fun k _ => v k) 0
/-- a left inverse leaves no kernel -/
theorem noKer_of_left {n : Nat} {A X : Mx} (h : EqM n n (mm n X A) idM) : NoKer n A := fun v hv i hi => by
  rw [← mv_id hi v, ← mv_congr (A := mm n X A) (fun k hk => h i k hi hk) (fun _ _ => rfl), mv_mm]
  exact mv_zero hv
/-- a left inverse without kernel is a right one -/
theorem right_of_left {n : Nat} {A X : Mx} (h : EqM n n (mm n X A) idM) (hx : NoKer n X) : EqM n n (mm n A X) idM := fun i j hi hj => by
  have h1 := hx (fun k => mm n A X k j ^^^ idM k j) (fun r hr => by
    have e : mv n X (fun k => mm n A X k j ^^^ idM k j) r = mm n X (mm n A X) r j ^^^ mm n X idM r j := by
      unfold mv
      have e2 : (fun k => gmul (X r k) (mm n A X k j ^^^ idM k j)) = fun k => gmul (X r k) (mm n A X k j) ^^^ gmul (X r k) (idM k j) := by funext k; rw [gmul_xor_r]
      rw [e2, gsum_xor]
      rfl
    rw [e, mm_id_r hj, ← mm_assoc, mm_congr (A' := idM) (B' := X) (fun k hk => h r k hr hk) (fun _ _ => rfl), mm_id_l hr, xx]) i hi
  exact xeq h1
/-- what is turned back twice from the left is as it was -/
theorem inv_unique {n : Nat} {A X Y : Mx} (h1 : EqM n n (mm n X A) idM) (h2 : EqM n n (mm n A Y) idM) : EqM n n X Y := fun i j hi hj => by
  rw [← mm_id_r hj X i, ← mm_congr (A := X) (B := mm n A Y) (fun _ _ => rfl) (fun k hk => h2 k j hk hj), ← mm_assoc, mm_congr (A' := idM) (B' := Y) (fun k hk => h1 i k hi hk) (fun _ _ => rfl), mm_id_l hi]
/-! ### row operations -/
def swapR (c p : Nat) (M : Mx) : Mx := fun i => if i = c then M p else if i = p then M c else M i
def scaleR (c : Nat) (f : UInt8) (M : Mx) : Mx := fun i j => if i = c then gmul f (M c j) else M i j
def addR (r c : Nat) (f : UInt8) (M : Mx) : Mx := fun i j => if i = r then M r j ^^^ gmul f (M c j) else M i j
/-- mm n R A = L, and R has no kernel -/
def Inv (n : Nat) (A L R : Mx) : Prop := EqM n n (mm n R A) L ∧ NoKer n R
theorem Inv.swap {n : Nat} {A L R : Mx} (h : Inv n A L R) {c p : Nat} (hc : c < n) (hp : p < n) : Inv n A (swapR c p L) (swapR c p R) := by
  refine ⟨fun i j hi hj => ?_, fun v hv => h.2 v (fun i hi => ?_)⟩
  · unfold swapR mm
    by_cases e1 : i = c
    · simp only [if_pos e1]; exact h.1 p j hp hj
    · simp only [if_neg e1]
      by_cases e2 : i = p
      · simp only [if_pos e2]; exact h.1 c j hc hj
      · simp only [if_neg e2]; exact h.1 i j hi hj
  · have hc' := hv c hc
    have hp' := hv p hp
    have hi' := hv i hi
    unfold swapR mv at hc' hp' hi'
    unfold mv
    by_cases e1 : i = c
    · subst e1
      by_cases e2 : p = i
      · subst e2; simpa using hp'
      · simpa [if_neg e2] using hp'
    · by_cases e2 : i = p
      · subst e2; simpa using hc'
      · simpa [if_neg e1, if_neg e2] using hi'
theorem Inv.scale {n : Nat} {A L R : Mx} (h : Inv n A L R) {c : Nat} {f : UInt8} (hc : c < n) (hf : f ≠ 0) : Inv n A (scaleR c f L) (scaleR c f R) := by
  refine ⟨fun i j hi hj => ?_, fun v hv => h.2 v (fun i hi => ?_)⟩
  · unfold scaleR mm
    by_cases e1 : i = c
    · simp only [if_pos e1]
      rw [← h.1 c j hc hj]
      unfold mm
      rw [← gsum_mul_l]
      exact gsum_congr (fun k _ => gmul_assoc _ _ _)
    · simp only [if_neg e1]; exact h.1 i j hi hj
  · have hi' := hv i hi
    unfold scaleR mv at hi'
    unfold mv
    by_cases e1 : i = c
    · subst e1
      simp only [eq_self, if_true] at hi'
      have e : gsum n (fun k => gmul (gmul f (R i k)) (v k)) = gmul f (gsum n (fun k => gmul (R i k) (v k))) := by
        rw [← gsum_mul_l]
        exact gsum_congr (fun k _ => gmul_assoc _ _ _)
      rw [e] at hi'
      rcases gmul_eq_zero.mp hi' with h0 | h0
      · exact absurd h0 hf
      · exact h0
    · simpa [if_neg e1] using hi'
theorem Inv.add {n : Nat} {A L R : Mx} (h : Inv n A L R) {r c : Nat} (f : UInt8) (hr : r < n) (hc : c < n) (hne : r ≠ c) : Inv n A (addR r c f L) (addR r c f R) := by
  have key : ∀ (g : Nat → UInt8), gsum n (fun k => gmul (R r k ^^^ gmul f (R c k)) (g k)) = gsum n (fun k => gmul (R r k) (g k)) ^^^ gmul f (gsum n (fun k => gmul (R c k) (g k))) := by
    intro g
    rw [← gsum_mul_l, ← gsum_xor]
    exact gsum_congr (fun k _ => by rw [gmul_xor_l, gmul_assoc])
  refine ⟨fun i j hi hj => ?_, fun v hv => h.2 v (fun i hi => ?_)⟩
  · unfold addR mm
    by_cases e1 : i = r
    · simp only [if_pos e1]
      rw [key (fun k => A k j)]
      have h1 := h.1 r j hr hj
      have h2 := h.1 c j hc hj
      unfold mm at h1 h2
      rw [h1, h2]
    · simp only [if_neg e1]; exact h.1 i j hi hj
  · have hi' := hv i hi
    have hc' := hv c hc
    unfold addR mv at hi' hc'
    unfold mv
    simp only [if_neg hne.symm] at hc'
    by_cases e1 : i = r
    · subst e1
      simp only [eq_self, if_true] at hi'
      rw [key v, hc', gmul_zero_r, x0] at hi'
      exact hi'
    · simpa [if_neg e1] using hi'
theorem Inv.start (n : Nat) (A : Mx) : Inv n A A idM := ⟨fun i j hi _ => mm_id_l hi A j, fun v hv i hi => by rw [← mv_id hi v]; exact hv i hi⟩
theorem Inv.congr {n : Nat} {A L R L' R' : Mx} (h : Inv n A L R) (hl : EqM n n L' L) (hr : EqM n n R' R) : Inv n A L' R' := by
  refine ⟨fun i j hi hj => ?_, fun v hv => h.2 v (fun i hi => ?_)⟩
  · rw [hl i j hi hj, ← h.1 i j hi hj]
    exact mm_congr (fun k hk => hr i k hi hk) (fun _ _ => rfl)
  · rw [← hv i hi]
    exact mv_congr (fun k hk => (hr i k hi hk).symm) (fun _ _ => rfl)
/-- the first c columns are those of the identity -/
def Cols (n c : Nat) (L : Mx) : Prop := ∀ i j, i < n → j < c → L i j = idM i j
theorem Inv.done {n : Nat} {A L R : Mx} (h : Inv n A L R) (hc : Cols n n L) : EqM n n (mm n R A) idM ∧ EqM n n (mm n A R) idM := by
  have h1 : EqM n n (mm n R A) idM := fun i j hi hj => by rw [h.1 i j hi hj, hc i j hi hj]
  exact ⟨h1, right_of_left h1 h.2⟩
theorem Inv.stuck {n c : Nat} {A L R : Mx} (h : Inv n A L R) (hc : Cols n c L) (hcn : c < n) (h0 : ∀ p, c ≤ p → p < n → L p c = 0) : HasKer n A := by
  refine ⟨fun j => if j = c then 1 else if j < c then L j c else 0, ?_, c, hcn, by simp⟩
  have hL : ∀ i, i < n → mv n L (fun j => if j = c then 1 else if j < c then L j c else 0) i = 0 := by
    intro i hi
    by_cases hic : i < c
    · unfold mv
      have e : ∀ k, k < n → gmul (L i k) (if k = c then 1 else if k < c then L k c else 0) = (if k = c then L i c else 0) ^^^ (if k = i then L i c else 0) := by
        intro k hk
        by_cases e1 : k = c
        · subst e1
          simp only [eq_self, if_true, if_neg (show ¬ k = i by omega)]
          rw [gmul_one_r, x0]
        · simp only [if_neg e1]
          by_cases e2 : k < c
          · simp only [if_pos e2]
            rw [hc i k hi e2]
            unfold idM
            by_cases e3 : i = k
            · subst e3; simp only [eq_self, if_true]; rw [gmul_one_l, zx]
            · simp only [if_neg e3, if_neg (show ¬ k = i by omega)]; rw [gmul_zero_l, xx]
          · simp only [if_neg e2, if_neg (show ¬ k = i by omega)]; rw [gmul_zero_r, xx]
      rw [gsum_congr e, gsum_xor, gsum_one hcn _ (fun k _ hne => if_neg hne), gsum_one hi _ (fun k _ hne => if_neg hne)]
      simp only [eq_self, if_true]
      rw [xx]
    · unfold mv
      refine gsum_zero (fun k hk => ?_)
      by_cases e1 : k = c
      · subst e1; rw [h0 i (by omega) hi, gmul_zero_l]
      · simp only [if_neg e1]
        by_cases e2 : k < c
        · rw [hc i k hi e2]; unfold idM; rw [if_neg (by omega), gmul_zero_l]
        · rw [if_neg e2, gmul_zero_r]
  have hRA := h.2 (mv n A (fun j => if j = c then 1 else if j < c then L j c else 0)) (fun i hi => by
    rw [← mv_mm, mv_congr (B := L) (fun k hk => h.1 i k hi hk) (fun _ _ => rfl)]
    exact hL i hi)
  exact hRA
/-! ### the reference: rows multiplied, upper triangles -/
/-- row operations of A that leave the kernel as it is -/
def SameKer (n : Nat) (A M : Mx) : Prop := ∀ v : Nat → UInt8, (∀ i, i < n → mv n A v i = 0) ↔ (∀ i, i < n → mv n M v i = 0)
theorem SameKer.refl (n : Nat) (A : Mx) : SameKer n A A := fun _ => Iff.rfl
theorem SameKer.noKer {n : Nat} {A M : Mx} (h : SameKer n A M) (hm : NoKer n M) : NoKer n A := fun v hv => hm v ((h v).mp hv)
theorem SameKer.hasKer {n : Nat} {A M : Mx} (h : SameKer n A M) (hm : HasKer n M) : HasKer n A := by
  obtain ⟨v, hv, hn⟩ := hm
  exact ⟨v, (h v).mpr hv, hn⟩
theorem SameKer.congr {n : Nat} {A M M' : Mx} (h : SameKer n A M) (hm : EqM n n M' M) : SameKer n A M' := fun v =>
  (h v).trans ⟨fun hv i hi => by rw [← hv i hi]; exact mv_congr (fun k hk => hm i k hi hk) (fun _ _ => rfl), fun hv i hi => by rw [← hv i hi]; exact mv_congr (fun k hk => (hm i k hi hk).symm) (fun _ _ => rfl)⟩
theorem SameKer.swap {n : Nat} {A M : Mx} (h : SameKer n A M) {c p : Nat} (hc : c < n) (hp : p < n) : SameKer n A (swapR c p M) := fun v => (h v).trans (by
  have e : ∀ i, mv n (swapR c p M) v i = if i = c then mv n M v p else if i = p then mv n M v c else mv n M v i := by
    intro i
    unfold mv swapR
    by_cases e1 : i = c
    · simp only [if_pos e1]
    · simp only [if_neg e1]
      by_cases e2 : i = p
      · simp only [if_pos e2]
      · simp only [if_neg e2]
  constructor
  · intro hv i hi
    rw [e]
    split
    · exact hv p hp
    · split
      · exact hv c hc
      · exact hv i hi
  · intro hv i hi
    by_cases e1 : i = c
    · have := hv p hp
      rw [e] at this
      by_cases e2 : p = c
      · rw [if_pos e2] at this; rw [e1, ← e2]; exact this
      · rw [if_neg e2, if_pos rfl] at this; rw [e1]; exact this
    · by_cases e2 : i = p
      · have := hv c hc
        rw [e, if_pos rfl] at this
        rw [e2]; exact this
      · have := hv i hi
        rw [e, if_neg e1, if_neg e2] at this
        exact this)
/-- row r becomes x times itself and y times row c -/
def mixR (r c : Nat) (x y : UInt8) (M : Mx) : Mx := fun i j => if i = r then gmul (M r j) x ^^^ gmul (M c j) y else M i j
theorem SameKer.mix {n : Nat} {A M : Mx} (h : SameKer n A M) {r c : Nat} {x y : UInt8} (hr : r < n) (hc : c < n) (hne : r ≠ c) (hx : x ≠ 0) : SameKer n A (mixR r c x y M) := fun v => (h v).trans (by
  have e : ∀ i, mv n (mixR r c x y M) v i = if i = r then gmul (mv n M v r) x ^^^ gmul (mv n M v c) y else mv n M v i := by
    intro i
    unfold mv mixR
    by_cases e1 : i = r
    · simp only [if_pos e1]
      rw [← gsum_mul_r, ← gsum_mul_r, ← gsum_xor]
      exact gsum_congr (fun k _ => by
        rw [gmul_xor_l]
        congr 1
        · rw [gmul_assoc, gmul_comm x, ← gmul_assoc]
        · rw [gmul_assoc, gmul_comm y, ← gmul_assoc])
    · simp only [if_neg e1]
  constructor
  · intro hv i hi
    rw [e]
    split
    · rw [hv r hr, hv c hc, gmul_zero_l, gmul_zero_l, xx]
    · exact hv i hi
  · intro hv i hi
    have hc' := hv c hc
    rw [e, if_neg hne.symm] at hc'
    by_cases e1 : i = r
    · have := hv r hr
      rw [e, if_pos rfl, hc', gmul_zero_l, x0] at this
      rw [e1]
      rcases gmul_eq_zero.mp this with h0 | h0
      · exact h0
      · exact absurd h0 hx
    · have := hv i hi
      rw [e, if_neg e1] at this
      exact this)
/-- below the diagonal of the first k columns there is nothing, and on it there is something -/
def Upper (n k : Nat) (M : Mx) : Prop := (∀ i j, i < n → j < k → j < i → M i j = 0) ∧ ∀ i, i < k → M i i ≠ 0
theorem upper_noKer {n : Nat} {M : Mx} (h : Upper n n M) : NoKer n M := by
  intro v hv
  have key : ∀ d i, i < n → n ≤ i + d + 1 → v i = 0 := by
    intro d
    induction d with
    | zero =>
      intro i hi hd
      have h1 := hv i hi
      unfold mv at h1
      rw [gsum_one hi _ (fun k hk hne => by rw [h.1 i k hi hk (by omega), gmul_zero_l])] at h1
      rcases gmul_eq_zero.mp h1 with h0 | h0
      · exact absurd h0 (h.2 i hi)
      · exact h0
    | succ d ih =>
      intro i hi hd
      have h1 := hv i hi
      unfold mv at h1
      rw [gsum_one hi _ (fun k hk hne => by
        by_cases hlt : k < i
        · rw [h.1 i k hi hk hlt, gmul_zero_l]
        · rw [ih k hk (by omega), gmul_zero_r])] at h1
      rcases gmul_eq_zero.mp h1 with h0 | h0
      · exact absurd h0 (h.2 i hi)
      · exact h0
  exact fun i hi => key n i hi (by omega)
theorem upper_solve : ∀ (k : Nat) (M : Mx) (b : Nat → UInt8), Upper k k M → ∃ v : Nat → UInt8, ∀ i, i < k → gsum k (fun j => gmul (M i j) (v j)) = b i
  | 0, _, _, _ => ⟨fun _ => 0, fun i h => by omega⟩
  | k + 1, M, b, h => by
    obtain ⟨v, hv⟩ := upper_solve k M (fun i => b i ^^^ gmul (M i k) (gmul (b k) (ginv (M k k)))) ⟨fun i j hi hj hlt => h.1 i j (by omega) (by omega) hlt, fun i hi => h.2 i (by omega)⟩
    refine ⟨fun j => if j = k then gmul (b k) (ginv (M k k)) else v j, fun i hi => ?_⟩
    unfold gsum
    simp only [eq_self, if_true]
    rw [gsum_congr (g := fun j => gmul (M i j) (v j)) (fun j hj => by rw [if_neg (by omega)])]
    by_cases e : i = k
    · subst e
      rw [gsum_zero (fun j hj => by rw [h.1 i j (by omega) (by omega) hj, gmul_zero_l]), zx, gmul_comm]
      exact gmul_div _ _ (h.2 i (by omega))
    · rw [hv i (by omega), xa, xx, x0]
theorem upper_stuck {n k : Nat} {M : Mx} (h : Upper n k M) (hk : k < n) (h0 : ∀ i, k ≤ i → i < n → M i k = 0) : HasKer n M := by
  obtain ⟨v, hv⟩ := upper_solve k M (fun i => M i k) ⟨fun i j hi hj hlt => h.1 i j (by omega) hj hlt, h.2⟩
  refine ⟨fun j => if j = k then 1 else if j < k then v j else 0, fun i hi => ?_, k, hk, by simp⟩
  unfold mv
  have split : ∀ m, k < m → gsum m (fun j => gmul (M i j) (if j = k then 1 else if j < k then v j else 0)) = gsum k (fun j => gmul (M i j) (v j)) ^^^ M i k := by
    intro m hm
    induction m with
    | zero => omega
    | succ m ih =>
      rw [gsum_succ]
      by_cases e : m = k
      · subst e
        simp only [eq_self, if_true]
        rw [gmul_one_r]
        congr 1
        exact gsum_congr (fun j hj => by rw [if_neg (by omega), if_pos hj])
      · rw [ih (by omega)]
        simp only [if_neg e, if_neg (show ¬ m < k by omega)]
        rw [gmul_zero_r, x0]
  rw [split n hk]
  by_cases hik : i < k
  · rw [hv i hik, xx]
  · rw [h0 i (by omega) hi, x0]
    exact gsum_zero (fun j hj => by rw [h.1 i j hi hj (by omega), gmul_zero_l])
/-! ### Cauchy -/
def lsum (l : List Nat) (f : Nat → UInt8) : UInt8 := l.foldr (fun y s => f y ^^^ s) 0
theorem lsum_cons (y : Nat) (l : List Nat) (f : Nat → UInt8) : lsum (y :: l) f = f y ^^^ lsum l f := rfl
theorem lsum_congr {l : List Nat} {f g : Nat → UInt8} (h : ∀ y, y ∈ l → f y = g y) : lsum l f = lsum l g := by
  induction l with
  | nil => rfl
  | cons a l ih => rw [lsum_cons, lsum_cons, h a (by simp), ih (fun y hy => h y (by simp [hy]))]
theorem lsum_xor (l : List Nat) (f g : Nat → UInt8) : lsum l (fun y => f y ^^^ g y) = lsum l f ^^^ lsum l g := by
  induction l with
  | nil => exact (xx 0).symm
  | cons a l ih => rw [lsum_cons, lsum_cons, lsum_cons, ih, xor8]
theorem lsum_mul (c : UInt8) (l : List Nat) (f : Nat → UInt8) : lsum l (fun y => gmul c (f y)) = gmul c (lsum l f) := by
  induction l with
  | nil => exact (gmul_zero_r c).symm
  | cons a l ih => rw [lsum_cons, lsum_cons, ih, gmul_xor_r]
theorem lsum_zero {l : List Nat} {f : Nat → UInt8} (h : ∀ y, y ∈ l → f y = 0) : lsum l f = 0 := by
  induction l with
  | nil => rfl
  | cons a l ih => rw [lsum_cons, h a (by simp), ih (fun y hy => h y (by simp [hy])), x0]
theorem ginv_ne {b : UInt8} (h : b ≠ 0) : ginv b ≠ 0 := fun e => by
  have := gmul_inv b h
  rw [e, gmul_zero_l] at this
  exact absurd this (by decide)
theorem gmul_inv_r (b : UInt8) (h : b ≠ 0) : gmul b (ginv b) = 1 := by rw [gmul_comm]; exact gmul_inv b h
/-- 1/p + 1/q, times (p+q)'s inverse, is 1/p times 1/q -/
theorem inv_add {p q : UInt8} (hp : p ≠ 0) (hq : q ≠ 0) : ginv p ^^^ ginv q = gmul (p ^^^ q) (gmul (ginv p) (ginv q)) := by
  rw [gmul_xor_l]
  have h1 : gmul p (gmul (ginv p) (ginv q)) = ginv q := by rw [← gmul_assoc, gmul_inv_r p hp, gmul_one_l]
  have h2 : gmul q (gmul (ginv p) (ginv q)) = ginv p := by rw [gmul_comm (ginv p), ← gmul_assoc, gmul_inv_r q hq, gmul_one_l]
  rw [h1, h2, xc]
def fx (x y : Nat) : UInt8 := UInt8.ofNat (x ^^^ y)
theorem cauchy (e : Nat → UInt8) : ∀ (xs ys : List Nat), xs.Nodup → ys.Nodup → ys.length ≤ xs.length → (∀ a b, a ∈ xs → b ∈ xs → a ≠ b → e a ≠ e b) → (∀ a b, a ∈ ys → b ∈ ys → a ≠ b → e a ≠ e b) → (∀ a b, a ∈ xs → b ∈ ys → e a ≠ e b) →
    ∀ v : Nat → UInt8, (∀ x, x ∈ xs → lsum ys (fun y => gmul (v y) (ginv (e x ^^^ e y))) = 0) → ∀ y, y ∈ ys → v y = 0
  | _, [], _, _, _, _, _, _, _, _, y, hy => by cases hy
  | [], _ :: _, _, _, hlen, _, _, _, _, _, _, _ => by simp at hlen
  | x0' :: xs, y0 :: ys, hx, hy, hlen, hex, hey, hexy, v, hv, y, hyy => by
    have hx' := List.nodup_cons.mp hx
    have hy' := List.nodup_cons.mp hy
    have hrest := cauchy e xs ys hx'.2 hy'.2 (by simp only [List.length_cons] at hlen; omega) (fun a b ha hb => hex a b (by simp [ha]) (by simp [hb])) (fun a b ha hb => hey a b (by simp [ha]) (by simp [hb])) (fun a b ha hb => hexy a b (by simp [ha]) (by simp [hb]))
      (fun y => gmul (v y) (gmul (e y0 ^^^ e y) (ginv (e x0' ^^^ e y)))) (fun x hxx => by
        have hne0 : e x0' ^^^ e x ≠ 0 := xne (hex x0' x (by simp) (by simp [hxx]) (fun h => hx'.1 (h ▸ hxx)))
        have h1 := hv x (by simp [hxx])
        have h2 := hv x0' (by simp)
        rw [lsum_cons] at h1 h2
        have hp0 : e x ^^^ e y0 ≠ 0 := xne (hexy x y0 (by simp [hxx]) (by simp))
        have hq0 : e x0' ^^^ e y0 ≠ 0 := xne (hexy x0' y0 (by simp) (by simp))
        
        have e1 : gmul (e x ^^^ e y0) (lsum ys (fun y => gmul (v y) (ginv (e x ^^^ e y)))) = v y0 := by
          have h3 : lsum ys (fun y => gmul (v y) (ginv (e x ^^^ e y))) = gmul (v y0) (ginv (e x ^^^ e y0)) := (xeq h1).symm
          rw [h3, gmul_comm (v y0), ← gmul_assoc, gmul_inv_r _ hp0, gmul_one_l]
        have e2 : gmul (e x0' ^^^ e y0) (lsum ys (fun y => gmul (v y) (ginv (e x0' ^^^ e y)))) = v y0 := by
          have h3 : lsum ys (fun y => gmul (v y) (ginv (e x0' ^^^ e y))) = gmul (v y0) (ginv (e x0' ^^^ e y0)) := (xeq h2).symm
          rw [h3, gmul_comm (v y0), ← gmul_assoc, gmul_inv_r _ hq0, gmul_one_l]
        have e3 : gmul (e x0' ^^^ e x) (lsum ys (fun y => gmul (gmul (v y) (gmul (e y0 ^^^ e y) (ginv (e x0' ^^^ e y)))) (ginv (e x ^^^ e y)))) = 0 := by
          rw [← lsum_mul]
          have e4 : lsum ys (fun y => gmul (e x0' ^^^ e x) (gmul (gmul (v y) (gmul (e y0 ^^^ e y) (ginv (e x0' ^^^ e y)))) (ginv (e x ^^^ e y)))) =
              lsum ys (fun y => gmul (e x ^^^ e y0) (gmul (v y) (ginv (e x ^^^ e y))) ^^^ gmul (e x0' ^^^ e y0) (gmul (v y) (ginv (e x0' ^^^ e y)))) := by
            refine lsum_congr (fun y hyy => ?_)
            have hp : e x ^^^ e y ≠ 0 := xne (hexy x y (by simp [hxx]) (by simp [hyy]))
            have hq : e x0' ^^^ e y ≠ 0 := xne (hexy x0' y (by simp) (by simp [hyy]))
            
            have l1 : gmul (e x0' ^^^ e x) (gmul (gmul (v y) (gmul (e y0 ^^^ e y) (ginv (e x0' ^^^ e y)))) (ginv (e x ^^^ e y))) = gmul (v y) (gmul (e y0 ^^^ e y) (gmul (e x0' ^^^ e x) (gmul (ginv (e x0' ^^^ e y)) (ginv (e x ^^^ e y))))) := by
              simp only [gmul_assoc]
              rw [← gmul_assoc (e x0' ^^^ e x) (v y), gmul_comm (e x0' ^^^ e x) (v y), gmul_assoc, ← gmul_assoc (e x0' ^^^ e x) (e y0 ^^^ e y), gmul_comm (e x0' ^^^ e x) (e y0 ^^^ e y), gmul_assoc]
            have l2 : e x0' ^^^ e x = (e x0' ^^^ e y) ^^^ (e x ^^^ e y) := by rw [xor8, xx, x0]
            have l3 : gmul (e x0' ^^^ e x) (gmul (ginv (e x0' ^^^ e y)) (ginv (e x ^^^ e y))) = ginv (e x0' ^^^ e y) ^^^ ginv (e x ^^^ e y) := by rw [l2]; exact (inv_add hq hp).symm
            rw [l1, l3]
            have r1 : gmul (e x ^^^ e y0) (gmul (v y) (ginv (e x ^^^ e y))) = gmul (v y) (gmul (e x ^^^ e y0) (ginv (e x ^^^ e y))) := by rw [← gmul_assoc, gmul_comm (e x ^^^ e y0), gmul_assoc]
            have r2 : gmul (e x0' ^^^ e y0) (gmul (v y) (ginv (e x0' ^^^ e y))) = gmul (v y) (gmul (e x0' ^^^ e y0) (ginv (e x0' ^^^ e y))) := by rw [← gmul_assoc, gmul_comm (e x0' ^^^ e y0), gmul_assoc]
            rw [r1, r2, ← gmul_xor_r]
            congr 1
            have s1 : e x ^^^ e y0 = (e x ^^^ e y) ^^^ (e y0 ^^^ e y) := by rw [xor8, xx, x0]
            have s2 : e x0' ^^^ e y0 = (e x0' ^^^ e y) ^^^ (e y0 ^^^ e y) := by rw [xor8, xx, x0]
            rw [s1, s2, gmul_xor_l (e x ^^^ e y), gmul_xor_l (e x0' ^^^ e y), gmul_inv_r _ hp, gmul_inv_r _ hq, xor8, xx, zx, gmul_xor_r, xc]
          rw [e4, lsum_xor, lsum_mul, lsum_mul, e1, e2, xx]
        rcases gmul_eq_zero.mp e3 with h | h
        · exact absurd h hne0
        · exact h)
    have htail : ∀ y, y ∈ ys → v y = 0 := fun y hyy => by
      have h1 := hrest y hyy
      rcases gmul_eq_zero.mp h1 with h | h
      · exact h
      · exfalso
        rcases gmul_eq_zero.mp h with h | h
        · exact xne (hey y0 y (by simp) (by simp [hyy]) (fun e => hy'.1 (e ▸ hyy))) h
        · exact ginv_ne (xne (hexy x0' y (by simp) (by simp [hyy]))) h
    rcases List.mem_cons.mp hyy with h | h
    · subst h
      have h2 := hv x0' (by simp)
      rw [lsum_cons, lsum_zero (fun z hz => by rw [htail z hz, gmul_zero_l]), x0] at h2
      rcases gmul_eq_zero.mp h2 with h | h
      · exact h
      · exact absurd h (ginv_ne (xne (hexy x0' y (by simp) (by simp))))
    · exact htail y h
end Go.Proofs.Ytpeilgeloaogfaa
