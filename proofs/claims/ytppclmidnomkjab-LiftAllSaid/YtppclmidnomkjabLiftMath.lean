/- The next request, as plain functions on tables of integers. -/
import Derived.WalkKit
import Derived.Lib.Hide
namespace Go.Proofs.Ytppclmidnomkjab
set_option linter.unusedVariables false
open Go

/-- the place of the first least cell 5 among the first k rows -/
def oldTo (F : Nat → Nat → Int) : Nat → Nat
  | 0 => 0
  | k + 1 => if F k 5 < F (oldTo F k) 5 then k else oldTo F k
theorem oldTo_one (F : Nat → Nat → Int) : oldTo F 1 = 0 := by
  show (if F 0 5 < F 0 5 then 0 else 0) = 0
  split <;> rfl
theorem oldTo_succ (F : Nat → Nat → Int) (k : Nat) : oldTo F (k + 1) = if F k 5 < F (oldTo F k) 5 then k else oldTo F k := rfl
theorem oldTo_le (F : Nat → Nat → Int) : ∀ k, oldTo F k ≤ k - 1
  | 0 => Nat.le_refl _
  | k + 1 => by
    rw [oldTo_succ]
    have := oldTo_le F k
    split <;> omega
theorem oldTo_lt (F : Nat → Nat → Int) {k : Nat} (h : 0 < k) : oldTo F k < k := by have := oldTo_le F k; omega
theorem oldTo_min (F : Nat → Nat → Int) : ∀ k i, i < k → F (oldTo F k) 5 ≤ F i 5
  | 0, i, h => absurd h (by omega)
  | k + 1, i, h => by
    rw [oldTo_succ]
    by_cases hi : i = k
    · subst hi
      split <;> omega
    · have := oldTo_min F k i (by omega)
      split <;> omega
def soon (a b p : Int) : Bool := if decide (p ≤ a) != decide (p ≤ b) then decide (p ≤ a) else decide (a < b)
def metTo (F : Nat → Nat → Int) (c p : Int) : Nat → Option Nat
  | 0 => none
  | k + 1 => match metTo F c p k with
    | none => if F k 2 = c then some k else none
    | some f => if F k 2 = c ∧ soon (F k 3) (F f 3) p = true then some k else some f
theorem metTo_lt (F : Nat → Nat → Int) (c p : Int) : ∀ k f, metTo F c p k = some f → f < k ∧ F f 2 = c
  | 0, f, h => by cases h
  | k + 1, f, h => by
    unfold metTo at h
    cases hm : metTo F c p k with
    | none =>
      rw [hm] at h
      simp only at h
      split at h
      · injection h with h
        subst h
        exact ⟨by omega, by assumption⟩
      · cases h
    | some g =>
      rw [hm] at h
      simp only at h
      have ih := metTo_lt F c p k g hm
      split at h
      · injection h with h
        subst h
        rename_i hc
        exact ⟨by omega, hc.1⟩
      · injection h with h
        subst h
        exact ⟨by omega, ih.2⟩
theorem metTo_none (F : Nat → Nat → Int) (c p : Int) : ∀ k, metTo F c p k = none → ∀ i, i < k → F i 2 ≠ c
  | 0, _, i, h => absurd h (by omega)
  | k + 1, h, i, hi => by
    unfold metTo at h
    cases hm : metTo F c p k with
    | none =>
      rw [hm] at h
      simp only at h
      split at h
      · cases h
      · by_cases he : i = k
        · subst he; assumption
        · exact metTo_none F c p k hm i (by omega)
    | some g =>
      rw [hm] at h
      simp only at h
      split at h <;> cases h
theorem soon_iff (a b p : Int) : soon a b p = true ↔ (p ≤ a ∧ (b < p ∨ a < b)) ∨ (a < p ∧ b < p ∧ a < b) := by
  unfold soon
  by_cases h1 : p ≤ a <;> by_cases h2 : p ≤ b <;> simp [h1, h2] <;> omega
/-- of the rows of c none is met before the one that is found -/
theorem metTo_best (F : Nat → Nat → Int) (c p : Int) : ∀ k f, metTo F c p k = some f → ∀ i, i < k → F i 2 = c → soon (F i 3) (F f 3) p = false
  | 0, f, h, i, hi, _ => absurd hi (by omega)
  | k + 1, f, h, i, hi, hc => by
    unfold metTo at h
    cases hm : metTo F c p k with
    | none =>
      rw [hm] at h
      simp only at h
      split at h
      · injection h with h
        subst h
        have hik : i = k := by
          by_cases e : i = k
          · exact e
          · exact absurd hc (metTo_none F c p k hm i (by omega))
        subst hik
        rw [Bool.eq_false_iff]
        intro h
        rw [soon_iff] at h
        omega
      · cases h
    | some g =>
      rw [hm] at h
      simp only at h
      have ih := metTo_best F c p k g hm
      split at h
      · injection h with h
        subst h
        rename_i hs
        by_cases e : i = k
        · subst e
          rw [Bool.eq_false_iff]
          intro h
          rw [soon_iff] at h
          omega
        · have h1 := ih i (by omega) hc
          rw [Bool.eq_false_iff] at h1 ⊢
          intro h2
          apply h1
          have h3 := hs.2
          rw [soon_iff] at h2 h3 ⊢
          omega
      · injection h with h
        subst h
        rename_i hs
        by_cases e : i = k
        · subst e
          rw [Bool.eq_false_iff]
          intro h2
          exact hs ⟨hc, h2⟩
        · exact ih i (by omega) hc
/-- the reference's two finds: the lowest one from p on, and the lowest of all -/
def upTo (F : Nat → Nat → Int) (c p : Int) : Nat → Option Nat
  | 0 => none
  | k + 1 => if F k 2 = c ∧ p ≤ F k 3 then (match upTo F c p k with | none => some k | some f => if F k 3 < F f 3 then some k else some f) else upTo F c p k
def lowTo (F : Nat → Nat → Int) (c : Int) : Nat → Option Nat
  | 0 => none
  | k + 1 => if F k 2 = c then (match lowTo F c k with | none => some k | some f => if F k 3 < F f 3 then some k else some f) else lowTo F c k
theorem metTo_eq (F : Nat → Nat → Int) (c p : Int) : ∀ k, metTo F c p k = (match upTo F c p k with | some f => some f | none => lowTo F c k) ∧ (∀ f, upTo F c p k = some f → p ≤ F f 3 ∧ f < k ∧ ∃ g, lowTo F c k = some g) ∧
    (upTo F c p k = none → ∀ g, lowTo F c k = some g → F g 3 < p ∧ g < k) ∧ (∀ g, lowTo F c k = some g → g < k)
  | 0 => ⟨rfl, fun f h => (by cases h), fun _ g h => (by cases h), fun g h => (by cases h)⟩
  | k + 1 => by
    obtain ⟨h1, h2, h3, h4⟩ := metTo_eq F c p k
    unfold metTo upTo lowTo
    rw [h1]
    by_cases hc : F k 2 = c
    · cases hu : upTo F c p k with
      | some f =>
        obtain ⟨hp, hf, g, hg⟩ := h2 f hu
        have hgk := h4 g hg
        simp only [hc, hg, true_and, if_true]
        by_cases hpk : p ≤ F k 3
        · by_cases hlt : F k 3 < F f 3
          · have hs : soon (F k 3) (F f 3) p = true := by rw [soon_iff]; omega
            simp only [hpk, hlt, hs, if_true]
            refine ⟨trivial, fun f' e => ?_, fun e => (by cases e), fun g' e => ?_⟩
            · injection e with e; subst e
              refine ⟨hpk, by omega, ?_⟩
              split <;> exact ⟨_, rfl⟩
            · split at e <;> (injection e with e; omega)
          · have hs : soon (F k 3) (F f 3) p = false := by rw [Bool.eq_false_iff]; intro h; rw [soon_iff] at h; omega
            simp only [hpk, hlt, hs, if_true, if_false, Bool.false_eq_true]
            refine ⟨trivial, fun f' e => ?_, fun e => (by cases e), fun g' e => ?_⟩
            · injection e with e; subst e
              refine ⟨hp, by omega, ?_⟩
              split <;> exact ⟨_, rfl⟩
            · split at e <;> (injection e with e; omega)
        · have hs : soon (F k 3) (F f 3) p = false := by rw [Bool.eq_false_iff]; intro h; rw [soon_iff] at h; omega
          simp only [hpk, hs, if_false, Bool.false_eq_true]
          refine ⟨trivial, fun f' e => ?_, fun e => (by cases e), fun g' e => ?_⟩
          · injection e with e; subst e
            refine ⟨hp, by omega, ?_⟩
            split <;> exact ⟨_, rfl⟩
          · split at e <;> (injection e with e; omega)
      | none =>
        have h3' := h3 hu
        cases hl : lowTo F c k with
        | none =>
          simp only [hc, true_and, if_true]
          by_cases hpk : p ≤ F k 3
          · simp only [hpk, if_true]
            exact ⟨trivial, fun f e => (by injection e with e; subst e; exact ⟨hpk, by omega, k, rfl⟩), fun e => (by cases e), fun g e => (by injection e with e; omega)⟩
          · simp only [hpk, if_false]
            exact ⟨trivial, fun f e => (by cases e), fun _ g e => (by injection e with e; subst e; omega), fun g e => (by injection e with e; omega)⟩
        | some g =>
          obtain ⟨hgp, hgk⟩ := h3' g hl
          simp only [hc, true_and, if_true]
          by_cases hpk : p ≤ F k 3
          · have hs : soon (F k 3) (F g 3) p = true := by rw [soon_iff]; omega
            simp only [hpk, hs, if_true]
            refine ⟨trivial, fun f e => (by injection e with e; subst e; refine ⟨hpk, by omega, ?_⟩; split <;> exact ⟨_, rfl⟩), fun e => (by cases e), fun g' e => ?_⟩
            split at e <;> (injection e with e; omega)
          · by_cases hlt : F k 3 < F g 3
            · have hs : soon (F k 3) (F g 3) p = true := by rw [soon_iff]; omega
              simp only [hpk, hlt, hs, if_true, if_false]
              exact ⟨trivial, fun f e => (by cases e), fun _ g' e => (by injection e with e; subst e; omega), fun g' e => (by injection e with e; omega)⟩
            · have hs : soon (F k 3) (F g 3) p = false := by rw [Bool.eq_false_iff]; intro h; rw [soon_iff] at h; omega
              simp only [hpk, hlt, hs, if_false, Bool.false_eq_true]
              exact ⟨trivial, fun f e => (by cases e), fun _ g' e => (by injection e with e; subst e; omega), fun g' e => (by injection e with e; omega)⟩
    · simp only [hc, false_and, if_false]
      refine ⟨?_, fun f e => ?_, fun e g hg => ?_, fun g hg => ?_⟩
      · cases hu : upTo F c p k with
        | some f => simp
        | none => cases hl : lowTo F c k <;> simp
      · obtain ⟨a, b, d⟩ := h2 f e; exact ⟨a, by omega, d⟩
      · obtain ⟨a, b⟩ := h3 e g hg; exact ⟨a, by omega⟩
      · have := h4 g hg; omega
def overD (born now age : Int) : Bool := decide (born ≤ now) && decide (max age 0 ≤ now - born)
/-- what the first head that meets any meets -/
def pickTo (F : Nat → Nat → Int) (n : Nat) (H : Nat → Nat → Int) : Nat → Option Nat
  | 0 => none
  | k + 1 => match pickTo F n H k with
    | some f => some f
    | none => metTo F (H k 0) (H k 1) n
theorem pickTo_stay (F : Nat → Nat → Int) (n : Nat) (H : Nat → Nat → Int) {k f : Nat} (h : pickTo F n H k = some f) : ∀ m, pickTo F n H (k + m) = some f
  | 0 => h
  | m + 1 => by
    show (match pickTo F n H (k + m) with | some f => some f | none => _) = some f
    rw [pickTo_stay F n H h m]
theorem pickTo_lt (F : Nat → Nat → Int) (n : Nat) (H : Nat → Nat → Int) : ∀ k f, pickTo F n H k = some f → f < n
  | 0, f, h => by cases h
  | k + 1, f, h => by
    unfold pickTo at h
    cases hm : pickTo F n H k with
    | some g => rw [hm] at h; simp only at h; injection h with h; subst h; exact pickTo_lt F n H k g hm
    | none => rw [hm] at h; exact (metTo_lt F _ _ n f h).1
def nextOf (F : Nat → Nat → Int) (n : Nat) (H : Nat → Nat → Int) (m : Nat) (now age : Int) : Nat × Bool :=
  if n = 0 then (0, false) else if overD (F (oldTo F n) 5) now age = true then (oldTo F n, true) else
    match pickTo F n H m with
    | some f => (f, true)
    | none => (oldTo F n, true)
end Go.Proofs.Ytppclmidnomkjab
