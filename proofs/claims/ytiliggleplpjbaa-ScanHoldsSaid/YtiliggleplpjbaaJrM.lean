/- Notes of the journal: plain. -/
import Derived.Test.YtiliggleplpjbaaWordMath
import Derived.Test.YtiliggleplpjbaaLib
namespace Go.Proofs.Ytiliggleplpjbaa
set_option linter.unusedVariables false
set_option linter.unusedSimpArgs false
open Go Go.RowKit
structure Nt where
  kind : Int
  key : List UInt8
  gen : Int
  cart : Int
  data : List UInt8
  sum : List UInt8
  size : Int
  places : List (Int × Int)
deriving DecidableEq
def R64 (z : Int) : Prop := -9223372036854775808 ≤ z ∧ z ≤ 9223372036854775807
def inB (n lo hi : Int) : Bool := decide (lo ≤ n) && decide (n ≤ hi)
theorem inB_iff (n lo hi : Int) : inB n lo hi = true ↔ lo ≤ n ∧ n ≤ hi := by unfold inB; simp
def plOk (p : Int × Int) : Bool := inB p.1 0 31 && inB p.2 0 1024
def goodN (n : Nt) : Bool := inB n.kind 1 6 && decide (n.key.length ≤ 16) && inB n.gen 0 1099511627776 && inB n.cart 0 31 && decide (n.data.length ≤ 512) && decide (n.sum.length ≤ 32) && inB n.size 0 512 && decide (n.places.length ≤ 40) && n.places.all plOk
structure Good (n : Nt) : Prop where
  kind : 1 ≤ n.kind ∧ n.kind ≤ 6
  key : n.key.length ≤ 16
  gen : 0 ≤ n.gen ∧ n.gen ≤ 1099511627776
  cart : 0 ≤ n.cart ∧ n.cart ≤ 31
  data : n.data.length ≤ 512
  sum : n.sum.length ≤ 32
  size : 0 ≤ n.size ∧ n.size ≤ 512
  many : n.places.length ≤ 40
  all : ∀ p ∈ n.places, (0 ≤ p.1 ∧ p.1 ≤ 31) ∧ (0 ≤ p.2 ∧ p.2 ≤ 1024)
theorem good_iff (n : Nt) : goodN n = true ↔ Good n := by
  unfold goodN plOk
  simp only [Bool.and_eq_true, inB_iff, decide_eq_true_eq, List.all_eq_true]
  constructor
  · rintro ⟨⟨⟨⟨⟨⟨⟨⟨a, b⟩, c⟩, d⟩, e⟩, f⟩, g⟩, h⟩, i⟩
    exact ⟨a, b, c, d, e, f, g, h, i⟩
  · rintro ⟨a, b, c, d, e, f, g, h, i⟩
    exact ⟨⟨⟨⟨⟨⟨⟨⟨a, b⟩, c⟩, d⟩, e⟩, f⟩, g⟩, h⟩, i⟩
def encP (l : List (Int × Int)) : List UInt8 := l.flatMap (fun p => enc p.1.toNat ++ enc p.2.toNat)
theorem encP_nil : encP [] = [] := rfl
theorem encP_cons (p : Int × Int) (l : List (Int × Int)) : encP (p :: l) = enc p.1.toNat ++ (enc p.2.toNat ++ encP l) := by unfold encP; rw [List.flatMap_cons, List.append_assoc]
theorem encP_snoc (l : List (Int × Int)) (p : Int × Int) : encP (l ++ [p]) = encP l ++ (enc p.1.toNat ++ enc p.2.toNat) := by unfold encP; rw [List.flatMap_append]; simp
def encN (n : Nt) : List UInt8 := enc n.kind.toNat ++ (enc n.key.length ++ (n.key ++ (enc n.gen.toNat ++ (enc n.cart.toNat ++ (enc n.data.length ++ (n.data ++ (enc n.sum.length ++ (n.sum ++ (enc n.size.toNat ++ (enc n.places.length ++ encP n.places))))))))))
theorem leadGo_canon : ∀ (f : Nat) (l : List UInt8) (i acc n k : Nat), leadGo (f + 1) l i acc = some (n, k) → ∃ m j, k = i + (j + 1) ∧ n = acc + m * 2 ^ (7 * i) ∧ (0 < i → 0 < m) ∧ l.take (j + 1) = vint f m
  | f, [], i, acc, n, k, h => by simp [leadGo] at h
  | f, x :: l, i, acc, n, k, h => by
    unfold leadGo at h
    by_cases hx : x.toNat < 128
    · rw [if_pos hx] at h
      by_cases h0 : x.toNat = 0 ∧ 0 < i
      · rw [if_pos h0] at h; cases h
      · rw [if_neg h0] at h
        injection h with h
        injection h with h1 h2
        refine ⟨x.toNat, 0, h2.symm, ?_, fun hi => by omega, ?_⟩
        · rw [← h1, Nat.mod_eq_of_lt hx]
        · rw [vint_small f _ hx]
          simp
    · rw [if_neg hx] at h
      cases f with
      | zero => simp [leadGo] at h
      | succ f =>
        obtain ⟨m, j, hk, hn, hm, ht⟩ := leadGo_canon f l (i + 1) _ n k h
        have hm0 := hm (by omega)
        have hlt := x.toNat_lt
        refine ⟨x.toNat % 128 + 128 * m, j + 1, by omega, ?_, fun _ => by omega, ?_⟩
        · rw [hn, show 7 * (i + 1) = 7 * i + 7 from by omega, Nat.pow_add, Nat.add_mul, Nat.add_assoc]
          congr 2
          rw [show (2 : Nat) ^ 7 = 128 from rfl, Nat.mul_comm (2 ^ (7 * i)) 128, ← Nat.mul_assoc, Nat.mul_comm m 128]
        · rw [vint_big f _ (by omega), List.take_succ_cons, ht]
          congr 2
          · have : x.toNat % 128 + 128 * m = x.toNat - 128 + 128 * m := by omega
            apply UInt8.toNat_inj.mp
            rw [UInt8.toNat_ofNat']
            omega
          · omega
theorem lead_canon {l : List UInt8} {n k : Nat} (h : lead l = some (n, k)) : l = enc n ++ l.drop k := by
  have hlt := lead_lt h
  obtain ⟨m, j, hk, hn, -, ht⟩ := leadGo_canon 8 l 0 0 n k h
  have e : n = m := by omega
  subst e
  rw [enc8 n hlt, ← ht, show k = j + 1 from by omega, List.take_append_drop]

theorem rget_enc {n : Nat} {most : Int} (hn : (n : Int) ≤ most) (hm : most ≤ 9223372036854775807) (l : List UInt8) : rget (some (enc n ++ l)) most = ((n : Int), some l) := by
  unfold rget
  simp only [lead_enc n (by omega) l, List.drop_left]
  rw [if_pos hn]
theorem rget_encz {x : Int} {most : Int} (h0 : 0 ≤ x) (hn : x ≤ most) (hm : most ≤ 9223372036854775807) (l : List UInt8) : rget (some (enc x.toNat ++ l)) most = (x, some l) := by
  rw [rget_enc (by omega) hm]
  congr 1
  omega
theorem rtext_enc {k : List UInt8} {most : Int} (hk : (k.length : Int) ≤ most) (hm : most ≤ 9223372036854775807) (l : List UInt8) : rtext (some (enc k.length ++ (k ++ l))) most = (k, some l) := by
  unfold rtext
  rw [rget_enc hk hm]
  simp
theorem rget_canon {st : RS} {m x : Int} {l' : List UInt8} (h : rget st m = (x, some l')) : ∃ l, st = some l ∧ l = enc x.toNat ++ l' ∧ 0 ≤ x ∧ x ≤ m := by
  cases st with
  | none => cases h
  | some l =>
    unfold rget at h
    cases hl : lead l with
    | none => simp only [hl] at h; cases h
    | some p =>
      obtain ⟨n, k⟩ := p
      simp only [hl] at h
      split at h
      · rename_i hm
        injection h with h1 h2
        injection h2 with h2
        have h3 := lead_canon hl
        rw [h2] at h3
        exact ⟨l, rfl, by rw [← h1, Int.toNat_natCast]; exact h3, by omega, by omega⟩
      · cases h
theorem rtext_canon {st : RS} {m : Int} {s l' : List UInt8} (h : rtext st m = (s, some l')) : ∃ l, st = some l ∧ l = enc s.length ++ (s ++ l') ∧ (s.length : Int) ≤ m := by
  unfold rtext at h
  rcases hr : rget st m with ⟨n, _ | t⟩
  · rw [hr] at h; cases h
  · rw [hr] at h
    simp only at h
    obtain ⟨l, h1, h2, h3, h4⟩ := rget_canon hr
    split at h
    · rename_i hle
      injection h with h5 h6
      injection h6 with h6
      have h7 : s.length = n.toNat := by rw [← h5, List.length_take, Nat.min_eq_left hle]
      exact ⟨l, h1, by rw [h7, ← h5, ← h6, List.take_append_drop]; exact h2, by omega⟩
    · cases h
/-- so many places, read one behind the other -/
def plS (m1 m2 : Int) : Nat → RS → List (Int × Int) × RS
  | 0, st => ([], st)
  | k + 1, st => ((plS m1 m2 k st).1 ++ [((rget (plS m1 m2 k st).2 m1).1, (rget (rget (plS m1 m2 k st).2 m1).2 m2).1)], (rget (rget (plS m1 m2 k st).2 m1).2 m2).2)
theorem plS_length (m1 m2 : Int) (k : Nat) (st : RS) : (plS m1 m2 k st).1.length = k := by
  induction k with
  | zero => rfl
  | succ k ih => unfold plS; rw [List.length_append, ih]; rfl
theorem plS_none (m1 m2 : Int) (k : Nat) : (plS m1 m2 k none).2 = none := by
  induction k with
  | zero => rfl
  | succ k ih => unfold plS; rw [ih]; rfl
theorem plS_enc {m1 m2 : Int} (h1 : 31 ≤ m1) (h2 : 1024 ≤ m2) (h3 : m1 ≤ 9223372036854775807) (h4 : m2 ≤ 9223372036854775807) (P : List (Int × Int)) (hP : ∀ p ∈ P, (0 ≤ p.1 ∧ p.1 ≤ 31) ∧ (0 ≤ p.2 ∧ p.2 ≤ 1024)) (l : List UInt8) :
    ∀ k, k ≤ P.length → plS m1 m2 k (some (encP P ++ l)) = (P.take k, some (encP (P.drop k) ++ l)) := by
  intro k
  induction k with
  | zero => intro _; rfl
  | succ k ih =>
    intro hk
    have hp := hP P[k] (List.getElem_mem _)
    unfold plS
    rw [ih (by omega)]
    simp only
    rw [List.drop_eq_getElem_cons (show k < P.length by omega), encP_cons, List.append_assoc, List.append_assoc, rget_encz hp.1.1 (by omega) h3]
    simp only
    rw [rget_encz hp.2.1 (by omega) h4]
    simp only
    rw [List.take_succ_eq_append_getElem (show k < P.length by omega)]
theorem plS_canon {m1 m2 : Int} : ∀ {k : Nat} {st : RS} {P : List (Int × Int)} {l' : List UInt8}, plS m1 m2 k st = (P, some l') → ∃ l, st = some l ∧ l = encP P ++ l'
  | 0, st, P, l', h => by
    unfold plS at h
    injection h with h1 h2
    exact ⟨l', h2, by rw [← h1]; rfl⟩
  | k + 1, st, P, l', h => by
    unfold plS at h
    injection h with h1 h2
    have e2 : rget (rget (plS m1 m2 k st).2 m1).2 m2 = ((rget (rget (plS m1 m2 k st).2 m1).2 m2).1, some l') := by rw [← h2]
    obtain ⟨l2, a1, a2, -, -⟩ := rget_canon e2
    have e1 : rget (plS m1 m2 k st).2 m1 = ((rget (plS m1 m2 k st).2 m1).1, some l2) := by rw [← a1]
    obtain ⟨l3, b1, b2, -, -⟩ := rget_canon e1
    have e0 : plS m1 m2 k st = ((plS m1 m2 k st).1, some l3) := by rw [← b1]
    obtain ⟨l4, c1, c2⟩ := plS_canon e0
    refine ⟨l4, c1, ?_⟩
    rw [← h1, encP_snoc, c2, b2, a2]
    simp only [List.append_assoc]
/-- what is read up to the most that is allowed for each field -/
structure Lim where
  kind : Int
  key : Int
  gen : Int
  cart : Int
  data : Int
  sum : Int
  size : Int
  many : Int
  pc : Int
  pp : Int
def Lim.Ok (L : Lim) : Prop := (6 ≤ L.kind ∧ L.kind ≤ 9223372036854775807) ∧ (16 ≤ L.key ∧ L.key ≤ 9223372036854775807) ∧ (1099511627776 ≤ L.gen ∧ L.gen ≤ 9223372036854775807) ∧ (31 ≤ L.cart ∧ L.cart ≤ 9223372036854775807) ∧ (512 ≤ L.data ∧ L.data ≤ 9223372036854775807) ∧ (32 ≤ L.sum ∧ L.sum ≤ 9223372036854775807) ∧ (512 ≤ L.size ∧ L.size ≤ 9223372036854775807) ∧ (40 ≤ L.many ∧ L.many ≤ 9223372036854775807) ∧ (31 ≤ L.pc ∧ L.pc ≤ 9223372036854775807) ∧ (1024 ≤ L.pp ∧ L.pp ≤ 9223372036854775807)
def limC : Lim := ⟨6, 16, 1099511627776, 31, 512, 32, 512, 40, 31, 1024⟩
def limR : Lim := ⟨4611686018427387904, 4611686018427387904, 4611686018427387904, 4611686018427387904, 4611686018427387904, 4611686018427387904, 4611686018427387904, 4611686018427387904, 4611686018427387904, 4611686018427387904⟩
theorem limC_ok : limC.Ok := by unfold Lim.Ok limC; simp only; omega
theorem limR_ok : limR.Ok := by unfold Lim.Ok limR; simp only; omega
def d1 (L : Lim) (b : List UInt8) := rget (some b) L.kind
def d2 (L : Lim) (b : List UInt8) := rtext (d1 L b).2 L.key
def d3 (L : Lim) (b : List UInt8) := rget (d2 L b).2 L.gen
def d4 (L : Lim) (b : List UInt8) := rget (d3 L b).2 L.cart
def d5 (L : Lim) (b : List UInt8) := rtext (d4 L b).2 L.data
def d6 (L : Lim) (b : List UInt8) := rtext (d5 L b).2 L.sum
def d7 (L : Lim) (b : List UInt8) := rget (d6 L b).2 L.size
def d8 (L : Lim) (b : List UInt8) := rget (d7 L b).2 L.many
def d9 (L : Lim) (b : List UInt8) := plS L.pc L.pp (d8 L b).1.toNat (d8 L b).2
def decR (L : Lim) (b : List UInt8) : Nt := ⟨(d1 L b).1, (d2 L b).1, (d3 L b).1, (d4 L b).1, (d5 L b).1, (d6 L b).1, (d7 L b).1, (d9 L b).1⟩
def decL (L : Lim) (b : List UInt8) : Option Nt := if (rend (d9 L b).2 && goodN (decR L b)) = true then some (decR L b) else none
def decN (b : List UInt8) : Option Nt := decL limC b
theorem decL_enc {L : Lim} (hL : L.Ok) {n : Nt} (h : goodN n = true) : decL L (encN n) = some n := by
  have g := (good_iff n).1 h
  obtain ⟨q1, q2, q3, q4, q5, q6, q7, q8, q9, q10⟩ := hL
  have f1 : d1 L (encN n) = _ := rget_encz (show 0 ≤ n.kind by have := g.kind; omega) (by have := g.kind; omega) q1.2 _
  have f2 := (show d2 L (encN n) = rtext (d1 L (encN n)).2 L.key from rfl).trans ((congrArg (fun x : _ × RS => rtext x.2 L.key) f1).trans (rtext_enc (by have := g.key; omega) q2.2 _))
  have f3 := (show d3 L (encN n) = rget (d2 L (encN n)).2 L.gen from rfl).trans ((congrArg (fun x : _ × RS => rget x.2 L.gen) f2).trans (rget_encz g.gen.1 (by have := g.gen; omega) q3.2 _))
  have f4 := (show d4 L (encN n) = rget (d3 L (encN n)).2 L.cart from rfl).trans ((congrArg (fun x : _ × RS => rget x.2 L.cart) f3).trans (rget_encz g.cart.1 (by have := g.cart; omega) q4.2 _))
  have f5 := (show d5 L (encN n) = rtext (d4 L (encN n)).2 L.data from rfl).trans ((congrArg (fun x : _ × RS => rtext x.2 L.data) f4).trans (rtext_enc (by have := g.data; omega) q5.2 _))
  have f6 := (show d6 L (encN n) = rtext (d5 L (encN n)).2 L.sum from rfl).trans ((congrArg (fun x : _ × RS => rtext x.2 L.sum) f5).trans (rtext_enc (by have := g.sum; omega) q6.2 _))
  have f7 := (show d7 L (encN n) = rget (d6 L (encN n)).2 L.size from rfl).trans ((congrArg (fun x : _ × RS => rget x.2 L.size) f6).trans (rget_encz g.size.1 (by have := g.size; omega) q7.2 _))
  have f8 := (show d8 L (encN n) = rget (d7 L (encN n)).2 L.many from rfl).trans ((congrArg (fun x : _ × RS => rget x.2 L.many) f7).trans (rget_enc (by have := g.many; omega) q8.2 _))
  have f9 : d9 L (encN n) = (n.places, some []) := by
    unfold d9
    rw [f8]
    have := plS_enc q9.1 q10.1 q9.2 q10.2 n.places g.all [] n.places.length (Nat.le_refl _)
    rw [List.append_nil, List.take_length, List.drop_length] at this
    exact this
  have hd : decR L (encN n) = n := by
    unfold decR
    rw [f1, f2, f3, f4, f5, f6, f7, f9]
  unfold decL
  rw [hd, f9, h]
  rfl
theorem dec_some {L : Lim} {b : List UInt8} {n : Nt} (h : decL L b = some n) : goodN n = true ∧ encN n = b ∧ decR L b = n ∧ (d9 L b).2 = some [] := by
  unfold decL at h
  split at h
  · rename_i hg
    rw [Bool.and_eq_true] at hg
    injection h with h
    rw [h] at hg
    have e9 : (d9 L b).2 = some [] := by
      have h1 := hg.1
      unfold rend at h1
      split at h1
      · cases h1
      · rename_i l hl
        rw [hl, List.isEmpty_iff.1 h1]
    refine ⟨hg.2, ?_, h, e9⟩
    have p9 : plS L.pc L.pp (d8 L b).1.toNat (d8 L b).2 = ((d9 L b).1, some []) := by rw [← e9]; rfl
    obtain ⟨l8, a8, b8⟩ := plS_canon p9
    have hlen := plS_length L.pc L.pp (d8 L b).1.toNat (d8 L b).2
    have p8 : rget (d7 L b).2 L.many = ((d8 L b).1, some l8) := by rw [← a8]; rfl
    obtain ⟨l7, a7, b7, c7, -⟩ := rget_canon p8
    have p7 : rget (d6 L b).2 L.size = ((d7 L b).1, some l7) := by rw [← a7]; rfl
    obtain ⟨l6, a6, b6, -, -⟩ := rget_canon p7
    have p6 : rtext (d5 L b).2 L.sum = ((d6 L b).1, some l6) := by rw [← a6]; rfl
    obtain ⟨l5, a5, b5, -⟩ := rtext_canon p6
    have p5 : rtext (d4 L b).2 L.data = ((d5 L b).1, some l5) := by rw [← a5]; rfl
    obtain ⟨l4, a4, b4, -⟩ := rtext_canon p5
    have p4 : rget (d3 L b).2 L.cart = ((d4 L b).1, some l4) := by rw [← a4]; rfl
    obtain ⟨l3, a3, b3, -, -⟩ := rget_canon p4
    have p3 : rget (d2 L b).2 L.gen = ((d3 L b).1, some l3) := by rw [← a3]; rfl
    obtain ⟨l2, a2, b2, -, -⟩ := rget_canon p3
    have p2 : rtext (d1 L b).2 L.key = ((d2 L b).1, some l2) := by rw [← a2]; rfl
    obtain ⟨l1, a1, b1, -⟩ := rtext_canon p2
    have p1 : rget (some b) L.kind = ((d1 L b).1, some l1) := by rw [← a1]; rfl
    obtain ⟨l0, a0, b0, -, -⟩ := rget_canon p1
    injection a0 with a0
    rw [List.append_nil] at b8
    have hm : (d9 L b).1.length = (d8 L b).1.toNat := hlen
    rw [← h]
    unfold encN decR
    simp only
    rw [hm, ← b8, ← b7, ← b6, ← b5, ← b4, ← b3, ← b2, ← b1, ← b0, ← a0]
  · cases h
theorem decL_eq {L : Lim} (hL : L.Ok) (b : List UInt8) : decL L b = decN b := by
  cases h : decL L b with
  | some n =>
    obtain ⟨h1, h2, -, -⟩ := dec_some h
    rw [← h2]
    exact (decL_enc limC_ok h1).symm
  | none =>
    cases h2 : decN b with
    | none => rfl
    | some n =>
      obtain ⟨h1, h3, -, -⟩ := dec_some h2
      rw [← h3, decL_enc hL h1] at h
      cases h
theorem decN_enc {n : Nt} (h : goodN n = true) : decN (encN n) = some n := decL_enc limC_ok h
theorem decN_some {b : List UInt8} {n : Nt} (h : decN b = some n) : goodN n = true ∧ encN n = b := ⟨(dec_some h).1, (dec_some h).2.1⟩
theorem encN_inj {a b : Nt} (ha : goodN a = true) (hb : goodN b = true) (h : encN a = encN b) : a = b := by
  have h1 := decN_enc ha
  rw [h, decN_enc hb] at h1
  injection h1 with h1
  exact h1.symm
end Go.Proofs.Ytiliggleplpjbaa
