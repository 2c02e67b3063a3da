/- Varints as plain functions. -/
namespace Go.Proofs.Ytiliggleplpjbaa

def vint : Nat → Nat → List UInt8
  | 0, n => [UInt8.ofNat n]
  | f + 1, n => if n < 128 then [UInt8.ofNat n] else UInt8.ofNat (n % 128 + 128) :: vint f (n / 128)
def enc (n : Nat) : List UInt8 := vint 9 n
theorem vint_small (f n : Nat) (h : n < 128) : vint f n = [UInt8.ofNat n] := by
  cases f with
  | zero => rfl
  | succ f => exact if_pos h
theorem vint_big (f n : Nat) (h : 128 ≤ n) : vint (f + 1) n = UInt8.ofNat (n % 128 + 128) :: vint f (n / 128) := if_neg (by omega)
theorem vint_length (f n : Nat) : 1 ≤ (vint f n).length ∧ (vint f n).length ≤ f + 1 := by
  induction f generalizing n with
  | zero => exact ⟨Nat.le_refl _, Nat.le_refl _⟩
  | succ f ih =>
    unfold vint
    split
    · simp
    · have := ih (n / 128)
      simp only [List.length_cons]; omega
theorem or128 (n : Nat) : UInt8.ofNat (n % 128) ||| 128 = UInt8.ofNat (n % 128 + 128) := by
  have h : ∀ m, m < 128 → UInt8.ofNat m ||| 128 = UInt8.ofNat (m + 128) := by decide +kernel
  exact h _ (Nat.mod_lt _ (by decide))
/-- the bytes of n, of which there are so many: the first k of them -/
def rb (n long : Nat) : Nat → List UInt8
  | 0 => []
  | k + 1 => rb n long k ++ [if k + 1 < long then UInt8.ofNat (n / 2 ^ (7 * k) % 128 + 128) else UInt8.ofNat (n / 2 ^ (7 * k) % 128)]
theorem rb_length (n long k : Nat) : (rb n long k).length = k := by
  induction k with
  | zero => rfl
  | succ k ih => rw [rb, List.length_append, ih]; rfl
theorem rb_front (n long k : Nat) : rb n (long + 1) (k + 1) = (if 1 < long + 1 then UInt8.ofNat (n % 128 + 128) else UInt8.ofNat (n % 128)) :: rb (n / 128) long k := by
  induction k with
  | zero => simp [rb]
  | succ k ih =>
    rw [rb, ih, List.cons_append]
    congr 1
    rw [rb]
    have h1 : n / 2 ^ (7 * (k + 1)) = n / 128 / 2 ^ (7 * k) := by
      rw [Nat.div_div_eq_div_mul, show 7 * (k + 1) = 7 + 7 * k from by omega, Nat.pow_add]
    rw [h1]
    congr 2
    by_cases h : k + 1 < long
    · rw [if_pos h, if_pos (by omega)]
    · rw [if_neg h, if_neg (by omega)]
theorem rb_vint (long : Nat) (h1 : 1 ≤ long) : ∀ (f n : Nat), long ≤ f + 1 → n < 2 ^ (7 * long) → (long = 1 ∨ 2 ^ (7 * (long - 1)) ≤ n) → rb n long long = vint f n := by
  induction long with
  | zero => omega
  | succ long ih =>
    intro f n hf hn hl
    rw [rb_front]
    by_cases h0 : long = 0
    · subst h0
      have : n < 128 := by simpa using hn
      rw [if_neg (by omega), vint_small f n this, Nat.mod_eq_of_lt this]
      rfl
    · have hge : 2 ^ (7 * long) ≤ n := by rcases hl with h | h; omega; simpa using h
      have h128 : 128 ≤ n := Nat.le_trans (show 2 ^ 7 ≤ 2 ^ (7 * long) from Nat.pow_le_pow_right (by decide) (by omega)) hge
      obtain ⟨f, rfl⟩ : ∃ f', f = f' + 1 := ⟨f - 1, by omega⟩
      rw [if_pos (by omega), vint_big f n h128]
      congr 1
      refine ih (by omega) f (n / 128) (by omega) ?_ ?_
      · rw [show 7 * (long + 1) = 7 * long + 7 from by omega, Nat.pow_add] at hn
        exact Nat.div_lt_of_lt_mul (by rw [Nat.mul_comm]; exact hn)
      · by_cases hl1 : long = 1
        · exact .inl hl1
        · refine .inr ?_
          have e : 7 * long = 7 * (long - 1) + 7 := by omega
          rw [e, Nat.pow_add] at hge
          exact (Nat.le_div_iff_mul_le (by decide)).mpr hge

/-! ### decoding -/
def leadGo : Nat → List UInt8 → Nat → Nat → Option (Nat × Nat)
  | 0, _, _, _ => none
  | _ + 1, [], _, _ => none
  | f + 1, x :: l, i, acc =>
    if x.toNat < 128 then (if x.toNat = 0 ∧ 0 < i then none else some (acc + x.toNat % 128 * 2 ^ (7 * i), i + 1)) else leadGo f l (i + 1) (acc + x.toNat % 128 * 2 ^ (7 * i))
/-- the number that bytes begin with, and how many bytes it has -/
def lead (l : List UInt8) : Option (Nat × Nat) := leadGo 9 l 0 0
theorem leadGo_bound : ∀ (f : Nat) (l : List UInt8) (i acc n k : Nat), acc < 2 ^ (7 * i) → leadGo f l i acc = some (n, k) → n < 2 ^ (7 * k) ∧ i < k ∧ k ≤ i + f ∧ k ≤ i + l.length
  | 0, _, _, _, _, _, _, h => by simp [leadGo] at h
  | f + 1, [], _, _, _, _, _, h => by simp [leadGo] at h
  | f + 1, x :: l, i, acc, n, k, ha, h => by
    have hacc : acc + x.toNat % 128 * 2 ^ (7 * i) < 2 ^ (7 * (i + 1)) := by
      rw [show 7 * (i + 1) = 7 * i + 7 from by omega, Nat.pow_add]
      have h1 : x.toNat % 128 * 2 ^ (7 * i) ≤ 127 * 2 ^ (7 * i) := Nat.mul_le_mul_right _ (by omega)
      omega
    unfold leadGo at h
    split at h
    · split at h
      · cases h
      · injection h with h
        injection h with h1 h2
        subst h1 h2
        simp only [List.length_cons]
        exact ⟨hacc, by omega, by omega, by omega⟩
    · have := leadGo_bound f l (i + 1) _ n k hacc h
      simp only [List.length_cons]
      omega
theorem lead_bound {l : List UInt8} {n k : Nat} (h : lead l = some (n, k)) : n < 2 ^ (7 * k) ∧ 1 ≤ k ∧ k ≤ 9 ∧ k ≤ l.length := by
  have := leadGo_bound 9 l 0 0 n k (by decide) h
  omega
theorem lead_lt {l : List UInt8} {n k : Nat} (h : lead l = some (n, k)) : n ≤ 9223372036854775807 := by
  have hb := lead_bound h
  have : 2 ^ (7 * k) ≤ 2 ^ 63 := Nat.pow_le_pow_right (by decide) (by omega)
  omega
/-- what is encoded is decoded -/
theorem leadGo_vint : ∀ (f n i acc : Nat) (l : List UInt8) (g : Nat), f + 1 ≤ g → n < 2 ^ (7 * (f + 1)) → (n = 0 → i = 0) → leadGo g (vint f n ++ l) i acc = some (acc + n * 2 ^ (7 * i), i + (vint f n).length)
  | f, n, i, acc, l, g, hg, hn, h0 => by
    obtain ⟨g, rfl⟩ : ∃ g', g = g' + 1 := ⟨g - 1, by omega⟩
    by_cases hs : n < 128
    · rw [vint_small f n hs]
      have e : (UInt8.ofNat n).toNat = n := by rw [UInt8.toNat_ofNat']; omega
      show leadGo (g + 1) (UInt8.ofNat n :: l) i acc = _
      unfold leadGo
      rw [e, if_pos hs, if_neg (by omega), Nat.mod_eq_of_lt hs]
      rfl
    · obtain ⟨f, rfl⟩ : ∃ f', f = f' + 1 := by
        cases f with
        | zero => exact absurd (by simpa using hn) hs
        | succ f => exact ⟨f, rfl⟩
      rw [vint_big f n (by omega)]
      have e : (UInt8.ofNat (n % 128 + 128)).toNat = n % 128 + 128 := by rw [UInt8.toNat_ofNat']; omega
      rw [List.cons_append]
      unfold leadGo
      have e2 : (n % 128 + 128) % 128 = n % 128 := by omega
      rw [e, if_neg (by omega), e2]
      have hn' : n / 128 < 2 ^ (7 * (f + 1)) := by
        rw [show 7 * (f + 1 + 1) = 7 * (f + 1) + 7 from by omega, Nat.pow_add] at hn
        exact Nat.div_lt_of_lt_mul (by rw [Nat.mul_comm]; exact hn)
      rw [leadGo_vint f (n / 128) (i + 1) _ l g (by omega) hn' (by omega)]
      have e3 : acc + n % 128 * 2 ^ (7 * i) + n / 128 * 2 ^ (7 * (i + 1)) = acc + n * 2 ^ (7 * i) := by
        rw [show 7 * (i + 1) = 7 + 7 * i from by omega, Nat.pow_add, ← Nat.mul_assoc, Nat.add_assoc, ← Nat.add_mul]
        congr 2
        omega
      rw [e3, List.length_cons]
      congr 2
      omega
  termination_by f => f
theorem vint_fuel : ∀ (f n : Nat), n < 2 ^ (7 * (f + 1)) → vint (f + 1) n = vint f n
  | 0, n, h => by rw [vint_small _ n (by simpa using h), vint_small _ n (by simpa using h)]
  | f + 1, n, h => by
    by_cases hs : n < 128
    · rw [vint_small _ n hs, vint_small _ n hs]
    · rw [vint_big _ n (by omega), vint_big _ n (by omega)]
      congr 1
      refine vint_fuel f (n / 128) ?_
      rw [show 7 * (f + 1 + 1) = 7 * (f + 1) + 7 from by omega, Nat.pow_add] at h
      exact Nat.div_lt_of_lt_mul (by rw [Nat.mul_comm]; exact h)
theorem enc8 (n : Nat) (hn : n ≤ 9223372036854775807) : enc n = vint 8 n := vint_fuel 8 n (by omega)
theorem enc_length (n : Nat) (hn : n ≤ 9223372036854775807) : 1 ≤ (enc n).length ∧ (enc n).length ≤ 9 := by
  rw [enc8 n hn]; exact vint_length 8 n
theorem lead_enc (n : Nat) (hn : n ≤ 9223372036854775807) (l : List UInt8) : lead (enc n ++ l) = some (n, (enc n).length) := by
  rw [enc8 n hn]
  have := leadGo_vint 8 n 0 0 l 9 (by omega) (by omega) (fun _ => rfl)
  simpa [lead] using this
/-- the bytes of a number, as the reference counts them -/
theorem rb_enc (n long : Nat) (hn : n ≤ 9223372036854775807) (h1 : 1 ≤ long) (h9 : long ≤ 9) (hlt : long = 9 ∨ n / 2 ^ (7 * long) = 0) (hge : long = 1 ∨ 0 < n / 2 ^ (7 * (long - 1))) : rb n long long = enc n := by
  rw [enc8 n hn]
  refine rb_vint long h1 8 n (by omega) ?_ ?_
  · rcases hlt with rfl | h
    · have : 2 ^ (7 * 9) = 9223372036854775808 := by decide
      omega
    · have hp := Nat.two_pow_pos (7 * long)
      have := Nat.lt_of_div_eq_zero hp h
      exact this
  · rcases hge with h | h
    · exact .inl h
    · refine .inr ?_
      have hp := Nat.two_pow_pos (7 * (long - 1))
      exact (Nat.div_pos_iff.mp h).2
/-! ### a reader: what is left, or nothing that is good -/
abbrev RS := Option (List UInt8)
def rget (st : RS) (most : Int) : Int × RS :=
  match st with
  | none => (0, none)
  | some l =>
    match lead l with
    | none => (0, none)
    | some (n, k) => if (n : Int) ≤ most then ((n : Int), some (l.drop k)) else (0, none)
def rtext (st : RS) (most : Int) : List UInt8 × RS :=
  match rget st most with
  | (_, none) => ([], none)
  | (n, some l) => if n.toNat ≤ l.length then (l.take n.toNat, some (l.drop n.toNat)) else ([], none)
def rend (st : RS) : Bool := match st with | none => false | some l => l.isEmpty
theorem rget_nonneg (st : RS) (most : Int) : 0 ≤ (rget st most).1 := by
  unfold rget
  split
  · exact Int.le_refl _
  · split
    · exact Int.le_refl _
    · split
      · exact Int.natCast_nonneg _
      · exact Int.le_refl _
end Go.Proofs.Ytiliggleplpjbaa
