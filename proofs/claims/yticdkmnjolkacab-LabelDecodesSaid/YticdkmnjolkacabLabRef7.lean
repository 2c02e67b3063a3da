/- The reference's Decode, plainly; its number and Word. -/
import Derived.Test.YticdkmnjolkacabLab15
import Derived.Test.YticdkmnjolkacabWordRef3
import Derived.Test.YticdkmnjolkacabLabRef6
namespace Go.Proofs.Yticdkmnjolkacab
set_option linter.unusedVariables false
set_option linter.unusedSimpArgs false
open Go Go.RowKit
theorem leadGo_canon : ∀ (f : Nat) (l : List UInt8) (i acc n k : Nat), leadGo (f + 1) l i acc = some (n, k) → ∃ m j, k = i + (j + 1) ∧ n = acc + m * 2 ^ (7 * i) ∧ (0 < i → 0 < m) ∧ l.take (j + 1) = vint f m
  | f, [], i, acc, n, k, h => by simp [leadGo] at h
  | f, x :: l, i, acc, n, k, h => by
    unfold leadGo at h
    by_cases hx : x.toNat < 128
    · rw [if_pos hx] at h
      by_cases h0 : x.toNat = 0 ∧ 0 < i
      · rw [if_pos h0] at h; cases h
      · rw [if_neg h0] at h
        injection h with h
        injection h with h1 h2
        refine ⟨x.toNat, 0, h2.symm, ?_, fun hi => by omega, ?_⟩
        · rw [← h1, Nat.mod_eq_of_lt hx]
        · rw [vint_small f _ hx]
          simp
    · rw [if_neg hx] at h
      cases f with
      | zero => simp [leadGo] at h
      | succ f =>
        obtain ⟨m, j, hk, hn, hm, ht⟩ := leadGo_canon f l (i + 1) _ n k h
        have hm0 := hm (by omega)
        have hlt := x.toNat_lt
        refine ⟨x.toNat % 128 + 128 * m, j + 1, by omega, ?_, fun _ => by omega, ?_⟩
        · rw [hn, show 7 * (i + 1) = 7 * i + 7 from by omega, Nat.pow_add, Nat.add_mul, Nat.add_assoc]
          congr 2
          rw [show (2 : Nat) ^ 7 = 128 from rfl, Nat.mul_comm (2 ^ (7 * i)) 128, ← Nat.mul_assoc, Nat.mul_comm m 128]
        · rw [vint_big f _ (by omega), List.take_succ_cons, ht]
          congr 2
          · have : x.toNat % 128 + 128 * m = x.toNat - 128 + 128 * m := by omega
            apply UInt8.toNat_inj.mp
            rw [UInt8.toNat_ofNat']
            omega
          · omega
theorem lead_canon {l : List UInt8} {n k : Nat} (h : lead l = some (n, k)) : l = enc n ++ l.drop k := by
  have hlt := lead_lt h
  obtain ⟨m, j, hk, hn, -, ht⟩ := leadGo_canon 8 l 0 0 n k h
  have e : n = m := by omega
  subst e
  rw [enc8 n hlt, ← ht, show k = j + 1 from by omega, List.take_append_drop]
/-- a place, or none -/
def atv : Option Nat → Int
  | none => -1
  | some q => (q : Int)
def numS (b : List UInt8) : Option Nat → Int × Option Nat
  | none => (0, none)
  | some q => match lead (b.drop q) with
    | none => (0, none)
    | some (n, k) => if (n : Int) ≤ 1099511627776 then ((n : Int), some (q + k)) else (0, none)
theorem numS_some {b : List UInt8} {st : Option Nat} {n : Int} {q' : Nat} (h : numS b st = (n, some q')) : ∃ q, st = some q ∧ b.drop q = enc n.toNat ++ b.drop q' ∧ 0 ≤ n ∧ n ≤ 1099511627776 ∧ (q ≤ b.length → q' ≤ b.length) := by
  cases st with
  | none => simp [numS] at h
  | some q =>
    cases hl : lead (b.drop q) with
    | none => simp [numS, hl] at h
    | some p =>
      obtain ⟨m, k⟩ := p
      simp only [numS, hl] at h
      split at h
      · rename_i hm
        injection h with h1 h2
        injection h2 with h2
        subst h1 h2
        have hb := (lead_bound hl).2.2.2
        rw [List.length_drop] at hb
        refine ⟨q, rfl, ?_, Int.natCast_nonneg _, hm, fun hq => by omega⟩
        have := lead_canon hl
        rw [List.drop_drop] at this
        rw [Int.toNat_natCast]
        exact this
      · cases h
theorem numS_enc {b : List UInt8} {q : Nat} {x : Int} {l : List UInt8} (h0 : 0 ≤ x) (h1 : x ≤ 1099511627776) (h : b.drop q = enc x.toNat ++ l) : numS b (some q) = (x, some (q + (enc x.toNat).length)) ∧ b.drop (q + (enc x.toNat).length) = l := by
  refine ⟨?_, by rw [← List.drop_drop, h, List.drop_left]⟩
  simp only [numS]
  rw [h, lead_enc _ (by omega)]
  simp only
  rw [if_pos (by omega)]
  congr 1
  omega
def wordS (b : List UInt8) : List UInt8 × Option Nat := match rtext (some (b.drop 2)) 16 with
  | (_, none) => ([], none)
  | (s, some l) => (s, some (b.length - l.length))
theorem wordS_enc {b k l : List UInt8} (hk : k.length ≤ 16) (h : b.drop 2 = enc k.length ++ (k ++ l)) (h2 : 2 ≤ b.length) : ∃ q, wordS b = (k, some q) ∧ b.drop q = l := by
  unfold wordS
  rw [h, rtext_enc hk]
  refine ⟨_, rfl, ?_⟩
  have e : b.length = 2 + ((enc k.length).length + (k.length + l.length)) := by
    have := congrArg List.length h
    simp only [List.length_drop, List.length_append] at this
    omega
  have e2 : b.length - l.length = 2 + ((enc k.length).length + k.length) := by omega
  rw [e2, ← List.drop_drop, h, ← List.append_assoc, ← List.length_append, List.drop_left]
theorem rtext_some {l s l' : List UInt8} (h : rtext (some l) 16 = (s, some l')) : l = enc s.length ++ (s ++ l') ∧ s.length ≤ 16 := by
  cases hl : lead l with
  | none => simp [rtext, rget, hl] at h
  | some p =>
    obtain ⟨n, k⟩ := p
    simp only [rtext, rget, hl] at h
    split at h
    · cases h
    · rename_i hm heq
      split at heq
      · rename_i hn
        injection heq with e1 e2
        injection e2 with e2
        subst e1 e2
        split at h
        · rename_i hlen
          injection h with h1 h2
          injection h2 with h2
          rw [Int.toNat_natCast] at h1 h2 hlen
          have hs : s.length = n := by rw [← h1, List.length_take]; omega
          refine ⟨?_, by omega⟩
          rw [hs, ← h1, ← h2, List.take_append_drop]
          exact lead_canon hl
        · cases h
      · cases heq
theorem wordS_some {b s : List UInt8} {q : Nat} (h : wordS b = (s, some q)) : b.drop 2 = enc s.length ++ (s ++ b.drop q) ∧ s.length ≤ 16 ∧ q ≤ b.length := by
  unfold wordS at h
  split at h
  · cases h
  · rename_i s' l hr
    injection h with h1 h2
    injection h2 with h2
    subst h1
    obtain ⟨e, hs⟩ := rtext_some hr
    have hl := congrArg List.length e
    simp only [List.length_drop, List.length_append] at hl
    have e2 : b.drop q = l := by
      have e3 : q = 2 + ((enc s'.length).length + s'.length) ∨ b.length < 2 := by omega
      rcases e3 with e3 | e3
      · rw [e3, ← List.drop_drop, e, ← List.append_assoc, ← List.length_append, List.drop_left]
      · have h0 : b.drop 2 = [] := List.drop_eq_nil_of_le (by omega)
        rw [h0] at e
        have := congrArg List.length e
        simp only [List.length_append, List.length_nil] at this
        have he := (enc_length s'.length (by omega)).1
        omega
    rw [e2]
    exact ⟨e, hs, by omega⟩
/-- what the reference's Decode takes the fields for, and where it stands then -/
def fieldsS (b : List UInt8) : Rc × Option Nat :=
  if U (b.getD 1 0) = 1 then (⟨1, (numS b (some 2)).1, [], 0, 0, 0, 0, 0, [], []⟩, (numS b (some 2)).2)
  else (⟨U (b.getD 1 0), 0, (wordS b).1, (numS b (wordS b).2).1, 0, 0, 0, 0, [], []⟩, (numS b (wordS b).2).2)
/-- a shard's fields -/
def shardS (b : List UInt8) : Rc × Option Nat :=
  (⟨2, 0, (wordS b).1, (numS b (wordS b).2).1, (numS b (numS b (wordS b).2).2).1, (numS b (numS b (numS b (wordS b).2).2).2).1,
    (numS b (numS b (numS b (numS b (wordS b).2).2).2).2).1, (numS b (numS b (numS b (numS b (numS b (wordS b).2).2).2).2).2).1, [], []⟩,
   (numS b (numS b (numS b (numS b (numS b (wordS b).2).2).2).2).2).2)
/-- the end: a checksum behind q, and nothing else -/
def sealS (b : List UInt8) (q : Nat) : Prop := b.length = q + 4 ∧ b.drop q = bytes4 (crc (b.take q))
instance (b : List UInt8) (q : Nat) : Decidable (sealS b q) := by unfold sealS; infer_instance
theorem encB_at {b : List UInt8} {r : Rc} {q : Nat} (hs : sealS b q) (hf : flds r = b.take q) : encB r = b := by
  unfold encB
  rw [hf, ← hs.2, List.take_append_drop]
theorem take_of_drop {b p x : List UInt8} {q : Nat} (h : b = p ++ x) (hx : x = b.drop q) (hq : q ≤ b.length) : b.take q = p := by
  have hl : p.length = q := by
    have h1 := congrArg List.length h
    have h2 := congrArg List.length hx
    rw [List.length_append] at h1
    rw [List.length_drop] at h2
    omega
  rw [h, ← hl, List.take_left]
theorem head2 {b : List UInt8} (h6 : 6 ≤ b.length) (h0 : b.getD 0 0 = 107) {k : Int} (h1 : U (b.getD 1 0) = k) : b = 107 :: UInt8.ofNat k.toNat :: b.drop 2 := by
  match b, h6 with
  | x :: y :: l, _ =>
    simp only [List.getD_cons_zero, List.getD_cons_succ] at h0 h1
    subst h0
    rw [← h1]
    have : UInt8.ofNat (U y).toNat = y := by
      apply UInt8.toNat_inj.mp
      rw [UInt8.toNat_ofNat']
      have := y.toNat_lt
      unfold U
      omega
    rw [this]
    rfl
end Go.Proofs.Yticdkmnjolkacab
