/- Varints as plain functions. -/
import Derived.Test.YtdgkcgiknfjpjaaBaseA
import Derived.WalkSpells
import Derived.Deep.DeepMust
import Derived.Deep.DeepCutAuto
namespace Go.Proofs.Ytdgkcgiknfjpjaa

def vint : Nat → Nat → List UInt8
  | 0, n => [UInt8.ofNat n]
  | f + 1, n => if n < 128 then [UInt8.ofNat n] else UInt8.ofNat (n % 128 + 128) :: vint f (n / 128)
def enc (n : Nat) : List UInt8 := vint 9 n
theorem vint_small (f n : Nat) (h : n < 128) : vint f n = [UInt8.ofNat n] := by
  cases f with
  | zero => rfl
  | succ f => exact if_pos h
theorem vint_big (f n : Nat) (h : 128 ≤ n) : vint (f + 1) n = UInt8.ofNat (n % 128 + 128) :: vint f (n / 128) := if_neg (by omega)
theorem vint_length (f n : Nat) : 1 ≤ (vint f n).length ∧ (vint f n).length ≤ f + 1 := by
  induction f generalizing n with
  | zero => exact ⟨Nat.le_refl _, Nat.le_refl _⟩
  | succ f ih =>
    unfold vint
    split
    · simp
    · have := ih (n / 128)
      simp only [List.length_cons]; omega
theorem or128 (n : Nat) : UInt8.ofNat (n % 128) ||| 128 = UInt8.ofNat (n % 128 + 128) := by
  have h : ∀ m, m < 128 → UInt8.ofNat m ||| 128 = UInt8.ofNat (m + 128) := by decide +kernel
  exact h _ (Nat.mod_lt _ (by decide))
/-- the bytes of n, of which there are so many: the first k of them -/
def rb (n long : Nat) : Nat → List UInt8
  | 0 => []
  | k + 1 => rb n long k ++ [if k + 1 < long then UInt8.ofNat (n / 2 ^ (7 * k) % 128 + 128) else UInt8.ofNat (n / 2 ^ (7 * k) % 128)]
theorem rb_length (n long k : Nat) : (rb n long k).length = k := by
  induction k with
  | zero => rfl
  | succ k ih => rw [rb, List.length_append, ih]; rfl
theorem rb_front (n long k : Nat) : rb n (long + 1) (k + 1) = (if 1 < long + 1 then UInt8.ofNat (n % 128 + 128) else UInt8.ofNat (n % 128)) :: rb (n / 128) long k := by
  induction k with
  | zero => simp [rb]
  | succ k ih =>
    rw [rb, ih, List.cons_append]
    congr 1
    rw [rb]
    have h1 : n / 2 ^ (7 * (k + 1)) = n / 128 / 2 ^ (7 * k) := by
      rw [Nat.div_div_eq_div_mul, show 7 * (k + 1) = 7 + 7 * k from by omega, Nat.pow_add]
    rw [h1]
    congr 2
    by_cases h : k + 1 < long
    · rw [if_pos h, if_pos (by omega)]
    · rw [if_neg h, if_neg (by omega)]
theorem rb_vint (long : Nat) (h1 : 1 ≤ long) : ∀ (f n : Nat), long ≤ f + 1 → n < 2 ^ (7 * long) → (long = 1 ∨ 2 ^ (7 * (long - 1)) ≤ n) → rb n long long = vint f n := by
  induction long with
  | zero => omega
  | succ long ih =>
    intro f n hf hn hl
    rw [rb_front]
    by_cases h0 : long = 0
    · subst h0
      have : n < 128 := by simpa using hn
      rw [if_neg (by omega), vint_small f n this, Nat.mod_eq_of_lt this]
      rfl
    · have hge : 2 ^ (7 * long) ≤ n := by rcases hl with h | h; omega; simpa using h
      have h128 : 128 ≤ n := Nat.le_trans (show 2 ^ 7 ≤ 2 ^ (7 * long) from Nat.pow_le_pow_right (by decide) (by omega)) hge
      obtain ⟨f, rfl⟩ : ∃ f', f = f' + 1 := ⟨f - 1, by omega⟩
      rw [if_pos (by omega), vint_big f n h128]
      congr 1
      refine ih (by omega) f (n / 128) (by omega) ?_ ?_
      · rw [show 7 * (long + 1) = 7 * long + 7 from by omega, Nat.pow_add] at hn
        exact Nat.div_lt_of_lt_mul (by rw [Nat.mul_comm]; exact hn)
      · by_cases hl1 : long = 1
        · exact .inl hl1
        · refine .inr ?_
          have e : 7 * long = 7 * (long - 1) + 7 := by omega
          rw [e, Nat.pow_add] at hge
          exact (Nat.le_div_iff_mul_le (by decide)).mpr hge

/-! ### decoding -/
def leadGo : Nat → List UInt8 → Nat → Nat → Option (Nat × Nat)
  | 0, _, _, _ => none
  | _ + 1, [], _, _ => none
  | f + 1, x :: l, i, acc =>
    if x.toNat < 128 then (if x.toNat = 0 ∧ 0 < i then none else some (acc + x.toNat % 128 * 2 ^ (7 * i), i + 1)) else leadGo f l (i + 1) (acc + x.toNat % 128 * 2 ^ (7 * i))
/-- the number that bytes begin with, and how many bytes it has -/
def lead (l : List UInt8) : Option (Nat × Nat) := leadGo 9 l 0 0
theorem leadGo_bound : ∀ (f : Nat) (l : List UInt8) (i acc n k : Nat), acc < 2 ^ (7 * i) → leadGo f l i acc = some (n, k) → n < 2 ^ (7 * k) ∧ i < k ∧ k ≤ i + f ∧ k ≤ i + l.length
  | 0, _, _, _, _, _, _, h => by simp [leadGo] at h
  | f + 1, [], _, _, _, _, _, h => by simp [leadGo] at h
  | f + 1, x :: l, i, acc, n, k, ha, h => by
    have hacc : acc + x.toNat % 128 * 2 ^ (7 * i) < 2 ^ (7 * (i + 1)) := by
      rw [show 7 * (i + 1) = 7 * i + 7 from by omega, Nat.pow_add]
      have h1 : x.toNat % 128 * 2 ^ (7 * i) ≤ 127 * 2 ^ (7 * i) := Nat.mul_le_mul_right _ (by omega)
      omega
    unfold leadGo at h
    split at h
    · split at h
      · cases h
      · injection h with h
        injection h with h1 h2
        subst h1 h2
        simp only [List.length_cons]
        exact ⟨hacc, by omega, by omega, by omega⟩
    · have := leadGo_bound f l (i + 1) _ n k hacc h
      simp only [List.length_cons]
      omega
theorem lead_bound {l : List UInt8} {n k : Nat} (h : lead l = some (n, k)) : n < 2 ^ (7 * k) ∧ 1 ≤ k ∧ k ≤ 9 ∧ k ≤ l.length := by
  have := leadGo_bound 9 l 0 0 n k (by decide) h
  omega
theorem lead_lt {l : List UInt8} {n k : Nat} (h : lead l = some (n, k)) : n ≤ 9223372036854775807 := by
  have hb := lead_bound h
  have : 2 ^ (7 * k) ≤ 2 ^ 63 := Nat.pow_le_pow_right (by decide) (by omega)
  omega
/-- what is encoded is decoded -/
theorem leadGo_vint : ∀ (f n i acc : Nat) (l : List UInt8) (g : Nat), f + 1 ≤ g → n < 2 ^ (7 * (f + 1)) → (n = 0 → i = 0) → leadGo g (vint f n ++ l) i acc = some (acc + n * 2 ^ (7 * i), i + (vint f n).length)
  | f, n, i, acc, l, g, hg, hn, h0 => by
    obtain ⟨g, rfl⟩ : ∃ g', g = g' + 1 := ⟨g - 1, by omega⟩
    by_cases hs : n < 128
    · rw [vint_small f n hs]
      have e : (UInt8.ofNat n).toNat = n := by rw [UInt8.toNat_ofNat']; omega
      show leadGo (g + 1) (UInt8.ofNat n :: l) i acc = _
      unfold leadGo
      rw [e, if_pos hs, if_neg (by omega), Nat.mod_eq_of_lt hs]
      rfl
    · obtain ⟨f, rfl⟩ : ∃ f', f = f' + 1 := by
        cases f with
        | zero => exact absurd (by simpa using hn) hs
        | succ f => exact ⟨f, rfl⟩
      rw [vint_big f n (by omega)]
      have e : (UInt8.ofNat (n % 128 + 128)).toNat = n % 128 + 128 := by rw [UInt8.toNat_ofNat']; omega
      rw [List.cons_append]
      unfold leadGo
      have e2 : (n % 128 + 128) % 128 = n % 128 := by omega
      rw [e, if_neg (by omega), e2]
      have hn' : n / 128 < 2 ^ (7 * (f + 1)) := by
        rw [show 7 * (f + 1 + 1) = 7 * (f + 1) + 7 from by omega, Nat.pow_add] at hn
        exact Nat.div_lt_of_lt_mul (by rw [Nat.mul_comm]; exact hn)
      rw [leadGo_vint f (n / 128) (i + 1) _ l g (by omega) hn' (by omega)]
      have e3 : acc + n % 128 * 2 ^ (7 * i) + n / 128 * 2 ^ (7 * (i + 1)) = acc + n * 2 ^ (7 * i) := by
        rw [show 7 * (i + 1) = 7 + 7 * i from by omega, Nat.pow_add, ← Nat.mul_assoc, Nat.add_assoc, ← Nat.add_mul]
        congr 2
        omega
      rw [e3, List.length_cons]
      congr 2
      omega
  termination_by f => f
theorem vint_fuel : ∀ (f n : Nat), n < 2 ^ (7 * (f + 1)) → vint (f + 1) n = vint f n
  | 0, n, h => by rw [vint_small _ n (by simpa using h), vint_small _ n (by simpa using h)]
  | f + 1, n, h => by
    by_cases hs : n < 128
    · rw [vint_small _ n hs, vint_small _ n hs]
    · rw [vint_big _ n (by omega), vint_big _ n (by omega)]
      congr 1
      refine vint_fuel f (n / 128) ?_
      rw [show 7 * (f + 1 + 1) = 7 * (f + 1) + 7 from by omega, Nat.pow_add] at h
      exact Nat.div_lt_of_lt_mul (by rw [Nat.mul_comm]; exact h)
theorem enc8 (n : Nat) (hn : n ≤ 9223372036854775807) : enc n = vint 8 n := vint_fuel 8 n (by omega)
theorem enc_length (n : Nat) (hn : n ≤ 9223372036854775807) : 1 ≤ (enc n).length ∧ (enc n).length ≤ 9 := by
  rw [enc8 n hn]; exact vint_length 8 n
theorem lead_enc (n : Nat) (hn : n ≤ 9223372036854775807) (l : List UInt8) : lead (enc n ++ l) = some (n, (enc n).length) := by
  rw [enc8 n hn]
  have := leadGo_vint 8 n 0 0 l 9 (by omega) (by omega) (fun _ => rfl)
  simpa [lead] using this
/-- the bytes of a number, as the reference counts them -/
theorem rb_enc (n long : Nat) (hn : n ≤ 9223372036854775807) (h1 : 1 ≤ long) (h9 : long ≤ 9) (hlt : long = 9 ∨ n / 2 ^ (7 * long) = 0) (hge : long = 1 ∨ 0 < n / 2 ^ (7 * (long - 1))) : rb n long long = enc n := by
  rw [enc8 n hn]
  refine rb_vint long h1 8 n (by omega) ?_ ?_
  · rcases hlt with rfl | h
    · have : 2 ^ (7 * 9) = 9223372036854775808 := by decide
      omega
    · have hp := Nat.two_pow_pos (7 * long)
      have := Nat.lt_of_div_eq_zero hp h
      exact this
  · rcases hge with h | h
    · exact .inl h
    · refine .inr ?_
      have hp := Nat.two_pow_pos (7 * (long - 1))
      exact (Nat.div_pos_iff.mp h).2
/-! ### a reader: what is left, or nothing that is good -/
abbrev RS := Option (List UInt8)
def rget (st : RS) (most : Int) : Int × RS :=
  match st with
  | none => (0, none)
  | some l =>
    match lead l with
    | none => (0, none)
    | some (n, k) => if (n : Int) ≤ most then ((n : Int), some (l.drop k)) else (0, none)
def rtext (st : RS) (most : Int) : List UInt8 × RS :=
  match rget st most with
  | (_, none) => ([], none)
  | (n, some l) => if n.toNat ≤ l.length then (l.take n.toNat, some (l.drop n.toNat)) else ([], none)
def rend (st : RS) : Bool := match st with | none => false | some l => l.isEmpty
theorem rget_nonneg (st : RS) (most : Int) : 0 ≤ (rget st most).1 := by
  unfold rget
  split
  · exact Int.le_refl _
  · split
    · exact Int.le_refl _
    · split
      · exact Int.natCast_nonneg _
      · exact Int.le_refl _
end Go.Proofs.Ytdgkcgiknfjpjaa
/- The walks of word: what is put. -/
namespace Go.Proofs.Ytdgkcgiknfjpjaa
set_option linter.unusedVariables false
open Go Go.RowKit

set_option maxRecDepth 10000 in
theorem copied_any (A : Option Addr) (n c : Nat) (l : List UInt8) (hn : l.length = n) (hl : n ≤ 140737488355328) (w : World) (hr : Rd w w.heap.size A l) :
    Calls Try.prog 94 #[.slice A n c] w fun e w' => ∃ v, e = .returned v ∧ OB w' w.heap.size v l ∧ Below w.heap.size w w' := by
  replace hr := Lib.hid hr
  replace hn := Lib.hid hn
  go_enter Try.func94, Try.ntmps94
  go_wp2_with (first
    | (refine wpl_make rfl (.tmp 5) (.tmp 5) rfl w.heap.size n rfl rfl hl (Nat.le_refl _) ?_; intro w1 hown1 hb1)
    | (with_reducible refine wpl_copy_full rfl (.tmp 7) (.tmp 8) rfl w.heap.size w.heap.size n _ hown1 w1.heap.size A c l hn.out rfl rfl (hr.out.up hb1) ?_; intro w2 hown2 hb2))
  go_ret
  exact ⟨_, rfl, hown2, hb1.trans hb2⟩

@[go_sem] theorem u8_wrapMod (k : Nat) : IntKind.u8.wrap ((k : Int) % 128) = U (UInt8.ofNat (k % 128)) := by
  rw [IntKind.wrap_u8]; unfold U; rw [UInt8.toNat_ofNat']; omega
set_option maxRecDepth 10000 in
theorem putNumber_any (base : Nat) (v : Value) (l : List UInt8) (n : Int) (h0 : -9223372036854775808 ≤ n) (h1 : n ≤ 9223372036854775807) (hl : l.length ≤ 140737488355300) (w : World) (ho : OB w base v l) (hbase : base ≤ w.heap.size) :
    Calls Try.prog 93 #[v, .int .i64 n] w fun e w' => ∃ v', e = .returned v' ∧ OB w' base v' (l ++ enc n.toNat) ∧ Below base w w' := by
  obtain ⟨m, hm, hme, hcase⟩ : ∃ m : Nat, m ≤ 9223372036854775807 ∧ n.toNat = m ∧ ((n < 0 ∧ m = 0) ∨ (0 ≤ n ∧ n = m)) := ⟨n.toNat, by omega, rfl, by omega⟩
  rw [hme]
  clear hme
  replace ho := Lib.hid ho
  have hen := Lib.hid (enc_length m hm)
  have hst := Lib.hid (enc8 m hm)
  have hm9 : Hid (m < 2 ^ (7 * (8 + 1))) := (show m < 2 ^ (7 * (8 + 1)) by omega)
  rcases hcase with ⟨hn, rfl⟩ | ⟨hn, rfl⟩
  all_goals
    go_enter Try.func93, Try.ntmps93
    go_wp2
    go_loopw [0, 1] (fun v' i wr => ∃ (k f : Nat) (l' : List UInt8), i = .int .i64 k ∧ k ≤ 9223372036854775807 ∧ OB wr base v' l' ∧ Hid (l' ++ vint f k = l ++ enc _) ∧ Hid (k < 2 ^ (7 * (f + 1))) ∧ Below base w wr) (fun _ i _ => (intOf i).toNat)
    case atStart => exact ⟨_, 8, l, rfl, by omega, ho.out, by rw [hst.out]; rfl, hm9, Below.refl _ _⟩
    case round =>
      obtain ⟨k, f, l', rfl, hk, hown, hv, hf, hb⟩ := hrel
      have hz := hb.size
      have hlen : l'.length ≤ l.length + 9 := by
        have := congrArg List.length hv.out
        have := hen.out
        simp only [List.length_append] at *
        omega
      by_cases hlt : 128 ≤ k
      · go_wp2_with (at_builtin; refine wpl_append rfl (.tmp 9) (.tmp 14) rfl base u0 l' rfl (hown.alloc _) (wr.heap.size + 1) (some ⟨wr.heap.size, 0, none⟩) 1 [UInt8.ofNat (k % 128) ||| 128] rfl (Rd.lit _ _ _ _ rfl _ (by simp)) (by simp; omega) (by simp; omega) ?_; intro v1 w1 hown1 hg1 _)
        go_roundw
        case rel =>
          obtain ⟨f, rfl⟩ : ∃ f', f = f' + 1 := by
            cases f with
            | zero => exact absurd hf.out (by omega)
            | succ f => exact ⟨f, rfl⟩
          have hv := hv.out
          have hf := hf.out
          rw [vint_big f k hlt, ← or128] at hv
          refine ⟨k / 128, f, _, by simp, by omega, hown1, (show _ = _ by rw [← hv, List.append_assoc]; rfl), (show _ < _ from ?_), below_app (OB.alloc hown _) (hb.alloc (by omega) _) (by simp; omega) hg1⟩
          rw [show 7 * (f + 1 + 1) = 7 * (f + 1) + 7 from by omega, Nat.pow_add] at hf
          exact Nat.div_lt_of_lt_mul (by rw [Nat.mul_comm]; exact hf)
        case measure => simp [intOf]; omega
      · go_wp2_with (at_builtin; refine wpl_append rfl (.tmp 18) (.tmp 21) rfl base u0 l' rfl (hown.alloc _) (wr.heap.size + 1) (some ⟨wr.heap.size, 0, none⟩) 1 [UInt8.ofNat k] rfl (Rd.lit _ _ _ _ rfl _ (by simp)) (by simp; omega) (by simp; omega) ?_; intro v1 w1 hown1 hg1 _)
        go_ret
        have hv := hv.out
        rw [vint_small f k (by omega)] at hv
        exact ⟨v1, rfl, by rw [← hv]; exact hown1, below_app (OB.alloc hown _) (hb.alloc (by omega) _) (by simp; omega) hg1⟩

set_option maxRecDepth 10000 in
theorem put_any (A : Option Addr) (k c : Nat) (l : List UInt8) (hk : l.length = k) (n : Int) (h0 : -9223372036854775808 ≤ n) (h1 : n ≤ 9223372036854775807) (hl : k ≤ 140737488355300) (w : World) (hr : Rd w w.heap.size A l) :
    Calls Try.prog 74 #[.slice A k c, .int .i64 n] w fun e w' => ∃ v', e = .returned v' ∧ OB w' w.heap.size v' (l ++ enc n.toNat) ∧ Below w.heap.size w w' := by
  replace hr := Lib.hid hr
  replace hk := Lib.hid hk
  go_enter Try.func74, Try.ntmps74
  go_wp2_with fail
  refine (copied_any A k c l hk.out (by omega) w hr.out).mono ?_
  rintro e w1 ⟨v1, rfl, hown, hb⟩
  go_wp2_with fail
  refine (putNumber_any w.heap.size v1 l n h0 h1 (by rw [hk.out]; exact hl) w1 hown hb.size).mono ?_
  rintro e w2 ⟨v2, rfl, hown2, hb2⟩
  go_wp2_with fail
  go_ret
  exact ⟨v2, rfl, hown2, hb.trans hb2⟩
set_option maxRecDepth 10000 in
theorem text_any (A : Option Addr) (k c : Nat) (l : List UInt8) (hk : l.length = k) (m : List UInt8) (hl : k + m.length ≤ 140737488355300) (w : World) (hr : Rd w w.heap.size A l) :
    Calls Try.prog 75 #[.slice A k c, .string (bs m)] w fun e w' => ∃ v', e = .returned v' ∧ OB w' w.heap.size v' ((l ++ enc m.length) ++ m) ∧ Below w.heap.size w w' := by
  replace hr := Lib.hid hr
  replace hk := Lib.hid hk
  have hen := Lib.hid (enc_length m.length (by omega))
  go_enter Try.func75, Try.ntmps75
  go_wp2_with fail
  refine (copied_any A k c l hk.out (by omega) w hr.out).mono ?_
  rintro e w1 ⟨v1, rfl, hown, hb⟩
  go_wp2_with fail
  refine (putNumber_any w.heap.size v1 l (m.length : Int) (by omega) (by omega) (by rw [hk.out]; omega) w1 hown hb.size).mono ?_
  rintro e w2 ⟨v2, rfl, hown2, hb2⟩
  rw [Int.toNat_natCast] at hown2
  have hb12 := hb.trans hb2
  go_wp2_with (refine wpl_append_str rfl (.tmp 9) (.tmp 10) rfl w.heap.size v2 (l ++ enc m.length) rfl hown2 m rfl (by rw [List.length_append, hk.out]; have := hen.out; omega) hb12.size ?_; intro v3 w3 hown3 hg3)
  go_ret
  exact ⟨v3, rfl, hown3, below_app hown2 hb12 hb12.size hg3⟩
end Go.Proofs.Ytdgkcgiknfjpjaa
/- The walks of word: the reader. -/
namespace Go.Proofs.Ytdgkcgiknfjpjaa
set_option linter.unusedVariables false
open Go Go.RowKit

/-- block g is a reader in this state, below whose block its bytes lie -/
def Rdr (w : World) (g : Nat) : RS → Prop
  | none => w.heap[g]? = some (.cells #[.slice none 0 0, .bool true] 135 (0, 0))
  | some l => ∃ A c, w.heap[g]? = some (.cells #[.slice A l.length c, .bool false] 135 (0, 0)) ∧ l.length ≤ c ∧ c ≤ maxLen ∧ Rd w g A l
theorem Rdr.keep {w w' : World} {g : Nat} {st : RS} (h : Rdr w g st) (hb : ∀ k, k ≤ g → w'.heap[k]? = w.heap[k]?) : Rdr w' g st := by
  cases st with
  | none => exact (hb g (Nat.le_refl _)).trans h
  | some l =>
    obtain ⟨A, c, h1, h2, h3, h4⟩ := h
    exact ⟨A, c, (hb g (Nat.le_refl _)).trans h1, h2, h3, h4.keep fun p hp => World.cell?_of_block (hb p.block (by omega))⟩
theorem Rdr.lt {w : World} {g : Nat} {st : RS} (h : Rdr w g st) : g < w.heap.size := by
  cases st with
  | none => exact (Array.getElem?_eq_some_iff.1 h).1
  | some l =>
    obtain ⟨A, c, h1, _⟩ := h
    exact (Array.getElem?_eq_some_iff.1 h1).1
theorem Rdr.below {w w' : World} {g : Nat} {st : RS} (h : Rdr w g st) {B : Nat} (hb : Below B w w') (hg : g < B) : Rdr w' g st := h.keep fun k hk => hb.block k (by omega)

set_option maxRecDepth 10000 in
theorem new_any (A : Option Addr) (n c : Nat) (l : List UInt8) (hn : l.length = n) (hl : n ≤ 140737488355328) (w : World) (hr : Rd w w.heap.size A l) :
    Calls Try.prog 77 #[.slice A n c] w fun e w' => ∃ g, e = .returned (.pointer (some ⟨g, 0, none⟩)) ∧ w.heap.size ≤ g ∧ Rdr w' g (some l) ∧ Below w.heap.size w w' := by
  replace hr := Lib.hid hr
  replace hn := Lib.hid hn
  go_enter Try.func77, Try.ntmps77
  go_wp2_with fail
  refine (clone_any A n c l hn.out hl w hr.out).mono ?_
  rintro e w1 ⟨v, rfl, hv, hb⟩
  obtain ⟨A1, c1, rfl, hc1, hm1, hR1, -⟩ := hv.form
  replace hR1 := Lib.hid hR1
  clear hv
  go_wp2
  go_ret
  exact ⟨w1.heap.size, rfl, hb.size, ⟨A1, c1, heap_alloc_new w1 _, hc1, hm1, hR1.out.alloc (Nat.le_refl _) _⟩, hb.alloc hb.size _⟩

set_option maxRecDepth 10000 in
theorem fail_any (g : Nat) (st : RS) (w : World) (h : Rdr w g st) :
    Calls Try.prog 96 #[.pointer (some ⟨g, 0, none⟩)] w fun e w' => e = .returned (.tuple #[]) ∧ Rdr w' g none ∧ Below g w w' ∧ w'.heap.size = w.heap.size ∧ ∀ k, k ≠ g → w'.heap[k]? = w.heap[k]? := by
  obtain ⟨v, b, hh⟩ : ∃ v b, w.heap[g]? = some (.cells #[v, .bool b] 135 (0, 0)) := by
    cases st with
    | none => exact ⟨_, _, h⟩
    | some l => obtain ⟨A, c, h1, _⟩ := h; exact ⟨_, _, h1⟩
  clear h
  have hc0 : w.cell? ⟨g, 0, none⟩ = some v := by simp [World.cell?, hh]
  have hc1 : w.cell? ⟨g, 1, none⟩ = some (.bool b) := by simp [World.cell?, hh]
  have hf0 : w.frozen? ⟨g, 0, none⟩ = false := by simp [World.frozen?, hh]
  have hf1 : w.frozen? ⟨g, 1, none⟩ = false := by simp [World.frozen?, hh]
  replace hh := Lib.hid hh
  go_enter Try.func96, Try.ntmps96
  go_wp2
  go_end0
  refine ⟨rfl, ?_, (((Below.refl g w).setCell (p := ⟨g, 1, none⟩) (Nat.le_refl _) _).setCell (p := ⟨g, 0, none⟩) (Nat.le_refl _) _), by simp [World.setCell], fun k hk => ?_⟩
  · have hh := hh.out
    show _ = _
    simp [World.setCell, Array.getElem?_modify, hh]
  · rw [Below.heap_setCell _ _ _ _ hk, Below.heap_setCell _ _ _ _ hk]

/-! ### the leading number -/
theorem u8_mod128 (x : UInt8) : U x % 128 = ((x.toNat % 128 : Nat) : Int) := by unfold U; omega
theorem acc_step (acc i m : Nat) (hi : i ≤ 8) (ha : acc < 2 ^ (7 * i)) (hm : m < 128) : bits .or .i64 (acc : Int) (wrap64 ((m : Int) * 2 ^ (7 * i))) = ((acc + m * 2 ^ (7 * i) : Nat) : Int) := by
  have hp : 2 ^ (7 * i) ≤ 2 ^ 56 := Nat.pow_le_pow_right (by decide) (by omega)
  have e : ((m : Int) * 2 ^ (7 * i)) = ((m * 2 ^ (7 * i) : Nat) : Int) := by simp
  have h1 : m * 2 ^ (7 * i) ≤ 127 * 2 ^ 56 := Nat.mul_le_mul (by omega) hp
  have e2 : wrap64 ((m : Int) * 2 ^ (7 * i)) = ((m * 2 ^ (7 * i) : Nat) : Int) := by
    rw [e]; generalize m * 2 ^ (7 * i) = q at *; unfold wrap64; omega
  rw [e2]
  show IntKind.i64.wrap ((BitVec.ofInt 64 (acc : Int) ||| BitVec.ofInt 64 ((m * 2 ^ (7 * i) : Nat) : Int)).toNat : Int) = _
  rw [BitVec.ofInt_natCast, BitVec.ofInt_natCast, BitVec.toNat_or, BitVec.toNat_ofNat, BitVec.toNat_ofNat, Nat.mod_eq_of_lt (by omega), Nat.mod_eq_of_lt (by omega)]
  have e3 : acc ||| m * 2 ^ (7 * i) = acc + m * 2 ^ (7 * i) := by
    rw [Nat.or_comm, Nat.mul_comm m, ← Nat.two_pow_add_eq_or_of_lt ha, Nat.add_comm]
  rw [e3, IntKind.wrap_i64]
  omega

/-- what leadingNumber answers -/
def leadRes (l : List UInt8) : Value := match lead l with
  | some (n, k) => .tuple #[.int .i64 n, .int .i64 k]
  | none => .tuple #[.int .i64 0, .int .i64 0]
theorem leadGo_step (f : Nat) (l : List UInt8) (k acc : Nat) (hk : k < l.length) :
    leadGo (f + 1) (l.drop k) k acc = if l[k].toNat < 128 then (if l[k].toNat = 0 ∧ 0 < k then none else some (acc + l[k].toNat % 128 * 2 ^ (7 * k), k + 1)) else leadGo f (l.drop (k + 1)) (k + 1) (acc + l[k].toNat % 128 * 2 ^ (7 * k)) := by
  rw [List.drop_eq_getElem_cons hk]
  rfl
set_option maxHeartbeats 400000 in
set_option maxRecDepth 10000 in
theorem leading_any (A : Option Addr) (n c : Nat) (l : List UInt8) (hn : l.length = n) (hl : n ≤ 9223372036854775807) (hc : n ≤ c) (w : World) (hr : Rd w w.heap.size A l) :
    Calls Try.prog 95 #[.slice A n c] w fun e w' => e = .returned (leadRes l) ∧ w = w' := by
  replace hr := Lib.hid hr
  have hx9 : max (9 : Int) 0 = 9 := by decide
  have hxn : max (n : Int) 0 = n := by omega
  have hcs : (∃ m : Nat, m = 9 ∧ 9 < n) ∨ (∃ m : Nat, m = n ∧ n ≤ 9) := by
    by_cases h : 9 < n
    · exact .inl ⟨9, rfl, h⟩
    · exact .inr ⟨n, rfl, by omega⟩
  rcases hcs with ⟨m, hm, h9⟩ | ⟨m, hm, h9⟩
  all_goals
    have hmi : Hid ((m = 9 ∨ m = l.length) ∧ m ≤ 9 ∧ m ≤ l.length) := (show (m = 9 ∨ m = l.length) ∧ m ≤ 9 ∧ m ≤ l.length by omega)
    have hnc : (9 : Int) ≤ c ∨ (n : Int) ≤ 9 := by omega
    replace hm := Lib.hid hm
    have hnh := Lib.hid hn
    clear hn
    go_enter Try.func95, Try.ntmps95
    go_wp2
    go_loop [2, 12] (fun acc i => ∃ k a : Nat, k ≤ m ∧ i = .int .i64 k ∧ acc = .int .i64 a ∧ Hid (a < 2 ^ (7 * k)) ∧ Hid (leadGo (9 - k) (l.drop k) k a = lead l)) (fun _ i => m - (intOf i).toNat)
    case atStart => exact ⟨0, 0, Nat.zero_le _, rfl, rfl, (show 0 < 2 ^ (7 * 0) by decide), rfl⟩
    case round =>
      obtain ⟨k, a, hk, rfl, rfl, ha, hg⟩ := hrel
      by_cases hlt : k < m
      · have hkl : k < l.length := by have := hmi.out; omega
        have hk8 : k ≤ 8 := by have := hmi.out; omega
        have hst := leadGo_step (8 - k) l k a hkl
        rw [show 8 - k + 1 = 9 - k from by omega, hg.out] at hst
        have hkn : (k : Int) < n := by have := hnh.out; omega
        have hkm := hm.out
        have hk9 : (k : Int) < 9 := by omega
        obtain ⟨ad, rfl, -, hcell⟩ := hr.out.at_ hkl
        clear hkm
        generalize l[k] = x at *
        have hacc := acc_step a k (x.toNat % 128) hk8 ha.out (by omega)
        rw [← u8_mod128 x] at hacc
        replace hacc := Lib.hid hacc
        have hnew : Hid (a + x.toNat % 128 * 2 ^ (7 * k) < 2 ^ (7 * (k + 1))) := (show _ < _ by
          have ha := ha.out
          rw [show 7 * (k + 1) = 7 * k + 7 from by omega, Nat.pow_add]
          have h1 : x.toNat % 128 * 2 ^ (7 * k) ≤ 127 * 2 ^ (7 * k) := Nat.mul_le_mul_right _ (by omega)
          omega)
        have hu0 := U_lo x
        have hu1 := U_hi x
        by_cases hx : x.toNat < 128
        · have hxu : U x < 128 := by unfold U; omega
          rw [if_pos hx] at hst
          cases h0 : (x == 0)
          · have hx0 : ¬ (x.toNat = 0 ∧ 0 < k) := fun h => by
              have : x = 0 := UInt8.toNat_inj.mp h.1
              rw [this] at h0; exact absurd h0 (by decide)
            rw [if_neg hx0] at hst
            replace hst := Lib.hid hst
            clear hx hx0
            go_wp2
            go_ret2
            refine ⟨?_, rfl⟩
            unfold leadRes
            rw [hst.out]
            show Ending.returned (Value.tuple #[.int .i64 (bits .or .i64 (a : Int) (wrap64 (U x % 128 * 2 ^ (7 * k)))), .int .i64 ((k : Int) + 1)]) = _
            rw [hacc.out]; rfl
          · have hx0 : x.toNat = 0 := by
              have : x = 0 := eq_of_beq h0
              rw [this]; rfl
            by_cases hk0 : 0 < k
            · rw [if_pos ⟨hx0, hk0⟩] at hst
              replace hst := Lib.hid hst
              clear hx hx0
              go_wp2
              go_ret2
              refine ⟨?_, rfl⟩
              unfold leadRes
              rw [hst.out]; rfl
            · rw [if_neg (fun h => hk0 h.2)] at hst
              replace hst := Lib.hid hst
              clear hx hx0
              go_wp2
              go_ret2
              refine ⟨?_, rfl⟩
              unfold leadRes
              rw [hst.out]
              show Ending.returned (Value.tuple #[.int .i64 (bits .or .i64 (a : Int) (wrap64 (U x % 128 * 2 ^ (7 * k)))), .int .i64 ((k : Int) + 1)]) = _
              rw [hacc.out]; rfl
        · have hxu : 128 ≤ U x := by unfold U; omega
          rw [if_neg hx] at hst
          replace hst := Lib.hid hst
          clear hx
          go_wp2
          go_round
          case rel => exact ⟨k + 1, _, by omega, by go_num, by rw [hacc.out], hnew, by rw [show 9 - (k + 1) = 8 - k from by omega]; exact hst.out.symm⟩
          case measure => simp [intOf]; omega
      · have hkm : k = m := by omega
        have hnone : lead l = none := by
          have hg := hg.out
          have hmi := hmi.out
          rw [← hg]
          rcases hmi.1 with h | h
          · rw [hkm, h]; rfl
          · rw [hkm, h, List.drop_length]
            cases 9 - l.length <;> rfl
        replace hnone := Lib.hid hnone
        have hkn : Hid (k = m) := hkm
        have hm2 := hm.out
        first
          | (have hk2 : (9 : Int) ≤ k := by omega
             clear hm2 hkm
             go_wp2
             go_ret2
             refine ⟨?_, rfl⟩
             unfold leadRes
             rw [hnone.out]; rfl)
          | (have hk2 : (n : Int) ≤ k := by omega
             clear hm2 hkm
             go_wp2
             go_ret2
             refine ⟨?_, rfl⟩
             unfold leadRes
             rw [hnone.out]; rfl)
end Go.Proofs.Ytdgkcgiknfjpjaa
/- The walks of word: Get, Text, End. -/
namespace Go.Proofs.Ytdgkcgiknfjpjaa
set_option linter.unusedVariables false
open Go Go.RowKit

theorem Rd.cutAt {w : World} {B : Nat} {A : Option Addr} {l : List UInt8} (h : Rd w B A l) {k : Nat} (hk : k ≤ l.length) : Rd w B (A.map (·.add k)) (l.drop k) := by
  unfold Rd
  refine ⟨by simp, fun hn => ?_⟩
  rw [List.length_drop] at hn
  obtain ⟨ad, rfl, hb, hcell⟩ := h.2 (by omega)
  refine ⟨ad.add k, rfl, by rw [block_of_add]; exact hb, fun j u hu => ?_⟩
  rw [add_of_add]
  refine hcell _ u ?_
  rw [List.map_drop, List.getElem?_drop] at hu
  exact hu
theorem Rd.cutEnd {w : World} {B : Nat} {A : Option Addr} {l : List UInt8} {k : Nat} (hk : l.length ≤ k) : Rd w B A (l.drop k) := by
  rw [List.drop_eq_nil_of_le hk]; exact Rd.nil_
theorem rdr_set {w : World} {g n : Nat} {v : Value} {l' : List UInt8} {A' : Option Addr} {c' : Nat} (hh : w.heap[g]? = some (.cells #[v, .bool false] 135 (0, 0)))
    (h1 : Rd w g A' l') (hn : l'.length = n) (hc : n ≤ c') (hm : c' ≤ maxLen) : Rdr (w.setCell ⟨g, 0, none⟩ (.slice A' n c')) g (some l') ∧ w.grownBy (w.setCell ⟨g, 0, none⟩ (.slice A' n c')) (some g) := by
  subst hn
  refine ⟨⟨A', c', ?_, hc, hm, h1.keep fun p hp => World.cell?_setCell_other w _ p _ (fun e => by subst e; exact absurd hp (Nat.lt_irrefl _))⟩, ⟨rfl, rfl, rfl, by simp [World.setCell], fun k _ hk => Below.heap_setCell _ _ _ _ (fun e => hk (by rw [e]))⟩⟩
  simp [World.setCell, Array.getElem?_modify, hh]
set_option maxRecDepth 10000 in
theorem get_nil (most : Int) (w : World) :
    Calls Try.prog 78 #[.pointer none, .int .i64 most] w fun e w' => e = .returned (.int .i64 0) ∧ w = w' := by
  go_enter Try.func78, Try.ntmps78
  go_wp2
  go_ret
  exact ⟨rfl, rfl⟩
theorem grown_of_fail {g : Nat} {w w' : World} (hb : Below g w w') (hs : w'.heap.size = w.heap.size) (hk : ∀ k, k ≠ g → w'.heap[k]? = w.heap[k]?) : w.grownBy w' (some g) :=
  ⟨hb.os, hb.tape, hb.output, by omega, fun k _ hne => hk k (fun e => hne (by rw [e]))⟩
set_option maxHeartbeats 400000 in
set_option maxRecDepth 10000 in
theorem get_any (g : Nat) (st : RS) (most : Int) (h0 : -9223372036854775808 ≤ most) (h1 : most ≤ 9223372036854775807) (w : World) (h : Rdr w g st) (hlen : ∀ l, st = some l → l.length ≤ 140737488355328) :
    Calls Try.prog 78 #[.pointer (some ⟨g, 0, none⟩), .int .i64 most] w fun e w' => e = .returned (.int .i64 (rget st most).1) ∧ Rdr w' g (rget st most).2 ∧ w.grownBy w' (some g) := by
  cases st with
  | none =>
    have hh : w.heap[g]? = some (.cells #[.slice none 0 0, .bool true] 135 (0, 0)) := h
    have hc1 : w.cell? ⟨g, 1, none⟩ = some (.bool true) := by simp [World.cell?, hh]
    replace h := Lib.hid h
    replace hh := Lib.hid hh
    go_enter Try.func78, Try.ntmps78
    go_wp2
    go_ret
    exact ⟨rfl, h.out, World.grownBy.refl _ _⟩
  | some l =>
    have hl := hlen l rfl
    have hR := h
    obtain ⟨A, c, hh, hcl, hcm, hr⟩ := hR
    have hc0 : w.cell? ⟨g, 0, none⟩ = some (.slice A l.length c) := by simp [World.cell?, hh]
    have hc1 : w.cell? ⟨g, 1, none⟩ = some (.bool false) := by simp [World.cell?, hh]
    have hf0 : w.frozen? ⟨g, 0, none⟩ = false := by simp [World.frozen?, hh]
    have hlead := leading_any A l.length c l rfl (by omega) hcl w (hr.more (Nat.le_of_lt h.lt))
    replace hlead := Lib.hid hlead
    replace h := Lib.hid h
    replace hh := Lib.hid hh
    replace hr := Lib.hid hr
    clear hlen
    cases hld : lead l with
    | none =>
      have hres : Hid (leadRes l = .tuple #[.int .i64 0, .int .i64 0]) := (show _ = _ by unfold leadRes; rw [hld])
      have hrg : rget (some l) most = (0, none) := by simp only [rget, hld]
      rw [hrg]
      clear hld hrg
      go_enter Try.func78, Try.ntmps78
      go_wp2_with fail
      refine hlead.out.mono ?_
      rintro e w' ⟨rfl, rfl⟩
      rw [hres.out]
      go_wp2_with fail
      refine (fail_any g _ w h.out).mono ?_
      rintro e w' ⟨rfl, hn, hb, hs, hk⟩
      go_wp2_with fail
      go_ret
      exact ⟨rfl, hn, grown_of_fail hb hs hk⟩
    | some p =>
      obtain ⟨n, k⟩ := p
      have hb := lead_bound hld
      have hn := lead_lt hld
      have hres : Hid (leadRes l = .tuple #[.int .i64 n, .int .i64 k]) := (show _ = _ by unfold leadRes; rw [hld])
      have hk0 : ((k : Int) == 0) = false := by
        rw [Bool.eq_false_iff]; simp only [ne_eq, beq_iff_eq]; omega
      by_cases hm : (n : Int) ≤ most
      · have hrg : rget (some l) most = ((n : Int), some (l.drop k)) := by simp only [rget, hld, if_pos hm]
        rw [hrg]
        clear hld hrg
        have hkc : (k : Int) ≤ (c : Int) := by omega
        have hkl : (k : Int) ≤ (l.length : Int) := by omega
        replace hb := Lib.hid hb
        go_enter Try.func78, Try.ntmps78
        go_wp2_with fail
        refine hlead.out.mono ?_
        rintro e w' ⟨rfl, rfl⟩
        rw [hres.out]
        go_wp2_with fail
        · have hb := hb.out
          go_ret
          exact ⟨rfl, rdr_set hh.out (Rd.cutEnd (by omega)) (by simp) (by omega) (by omega)⟩
        · have hb := hb.out
          go_ret
          exact ⟨rfl, rdr_set hh.out (hr.out.cutAt hb.2.2.2) (by simp) (by omega) (by omega)⟩
      · have hrg : rget (some l) most = (0, none) := by simp only [rget, hld, if_neg hm]
        rw [hrg]
        clear hld hrg
        have hm2 : most < (n : Int) := by omega
        replace hb := Lib.hid hb
        go_enter Try.func78, Try.ntmps78
        go_wp2_with fail
        refine hlead.out.mono ?_
        rintro e w' ⟨rfl, rfl⟩
        rw [hres.out]
        go_wp2_with fail
        refine (fail_any g _ w h.out).mono ?_
        rintro e w' ⟨rfl, hn, hb, hs, hk⟩
        go_wp2_with fail
        go_ret
        exact ⟨rfl, hn, grown_of_fail hb hs hk⟩

theorem grownBy_trans {a b c : World} {row : Option Nat} (h : a.grownBy b row) (k : b.grownBy c row) : a.grownBy c row :=
  ⟨k.os.trans h.os, k.tape.trans h.tape, k.output.trans h.output, Nat.le_trans h.size k.size, fun i hi hne => (k.block i (Nat.lt_of_lt_of_le hi h.size) hne).trans (h.block i hi hne)⟩
theorem rget_none {st : RS} {most : Int} (h : (rget st most).2 = none) : (rget st most).1 = 0 := by
  cases st with
  | none => rfl
  | some l =>
    unfold rget at h ⊢
    simp only at h ⊢
    split
    · rfl
    · split
      · rename_i h1 h2
        rw [h1] at h
        simp [h2] at h
      · rfl
theorem rget_some {st : RS} {most : Int} {l' : List UInt8} (h : (rget st most).2 = some l') : ∃ (n : Nat) (l : List UInt8), (rget st most).1 = n ∧ n ≤ 9223372036854775807 ∧ st = some l ∧ l'.length ≤ l.length := by
  cases st with
  | none => cases h
  | some l =>
    unfold rget at h ⊢
    simp only at h ⊢
    cases hl : lead l with
    | none => rw [hl] at h; cases h
    | some p =>
      obtain ⟨n, k⟩ := p
      rw [hl] at h
      simp only at h ⊢
      by_cases hm : (n : Int) ≤ most
      · rw [if_pos hm] at h ⊢
        injection h with h
        exact ⟨n, l, rfl, lead_lt hl, rfl, by rw [← h]; simp⟩
      · rw [if_neg hm] at h; cases h
set_option maxRecDepth 10000 in
theorem text_nil (most : Int) (w : World) :
    Calls Try.prog 79 #[.pointer none, .int .i64 most] w fun e w' => e = .returned (.string (bs [])) ∧ w = w' := by
  have hf : ∀ w, Calls Try.prog 96 #[.pointer none] w fun e w' => e = .returned (.tuple #[]) ∧ w = w' := fun w => by
    go_enter Try.func96, Try.ntmps96
    go_wp2
    go_end0
    exact ⟨rfl, rfl⟩
  replace hf := Lib.hid hf
  go_enter Try.func79, Try.ntmps79
  go_wp2_with (first | (go_at_call 78; refine (get_nil _ _).mono ?_; rintro e w' ⟨rfl, rfl⟩) | (go_at_call 96; refine (hf.out _).mono ?_; rintro e w' ⟨rfl, rfl⟩))
  go_ret
  exact ⟨rfl, rfl⟩
set_option maxHeartbeats 400000 in
set_option maxRecDepth 10000 in
theorem rtext_any (g : Nat) (st : RS) (most : Int) (h0 : -9223372036854775808 ≤ most) (h1 : most ≤ 9223372036854775807) (w : World) (h : Rdr w g st) (hlen : ∀ l, st = some l → l.length ≤ 140737488355328) :
    Calls Try.prog 79 #[.pointer (some ⟨g, 0, none⟩), .int .i64 most] w fun e w' => e = .returned (.string (bs (rtext st most).1)) ∧ Rdr w' g (rtext st most).2 ∧ w.grownBy w' (some g) := by
  have hget := get_any g st most h0 h1 w h hlen
  have hn1 := @rget_none st most
  have hs1 := @rget_some st most
  have hrt : rtext st most = (match rget st most with | (_, none) => ([], none) | (n, some l) => if n.toNat ≤ l.length then (l.take n.toNat, some (l.drop n.toNat)) else ([], none)) := rfl
  rcases hr : rget st most with ⟨n, _ | l'⟩
  · rw [hr] at hget hn1 hrt
    obtain rfl : n = 0 := hn1 rfl
    simp only at hrt
    rw [hrt]
    replace hget := Lib.hid hget
    clear hr hn1 hs1 hrt hlen h
    go_enter Try.func79, Try.ntmps79
    go_wp2_with fail
    refine hget.out.mono ?_
    rintro e w1 ⟨rfl, hR, hg⟩
    have hh : w1.heap[g]? = some (.cells #[.slice none 0 0, .bool true] 135 (0, 0)) := hR
    have hc0 : w1.cell? ⟨g, 0, none⟩ = some (.slice none 0 0) := by simp [World.cell?, hh]
    have hf0 : w1.frozen? ⟨g, 0, none⟩ = false := by simp [World.frozen?, hh]
    replace hh := Lib.hid hh
    replace hR := Lib.hid hR
    have hcv : ∀ W : World, (convert 22 9 (.slice none 0 0)).run Try.prog W = .ok (.string (bs [])) W := fun W => run_str (w := W) (B := 0) (A := none) 0 Rd.nil_
    go_wp2_with fail
    go_ret
    refine ⟨rfl, ?_, grownBy_trans hg ⟨rfl, rfl, rfl, by simp [World.setCell], fun k _ hk => Below.heap_setCell _ _ _ _ (fun e => hk (by rw [e]))⟩⟩
    have hh := hh.out
    show _ = _
    simp [World.setCell, Array.getElem?_modify, hh]
  · rw [hr] at hget hs1 hrt
    obtain ⟨m, l, hm, hm63, hst, hll⟩ := hs1 rfl
    simp only at hm
    subst hm
    have hl := hlen l hst
    simp only [Int.toNat_natCast] at hrt
    replace hget := Lib.hid hget
    clear hr hn1 hs1 hlen h
    by_cases hle : m ≤ l'.length
    · rw [if_pos hle] at hrt
      rw [hrt]
      clear hrt
      go_enter Try.func79, Try.ntmps79
      go_wp2_with fail
      refine hget.out.mono ?_
      rintro e w1 ⟨rfl, hR, hg⟩
      obtain ⟨A, c, hh, hcl, hcm, hrd⟩ := hR
      have hc0 : w1.cell? ⟨g, 0, none⟩ = some (.slice A l'.length c) := by simp [World.cell?, hh]
      have hf0 : w1.frozen? ⟨g, 0, none⟩ = false := by simp [World.frozen?, hh]
      have hcv : (convert 22 9 (.slice A m c)).run Try.prog w1 = .ok (.string (bs (l'.take m))) w1 := run_str_at c (hrd.take m hle) (by simp; omega)
      have hmc : (m : Int) ≤ (c : Int) := by omega
      have hml : (m : Int) ≤ (l'.length : Int) := by omega
      replace hh := Lib.hid hh
      replace hrd := Lib.hid hrd
      go_wp2_with fail
      · go_ret
        have hx := rdr_set hh.out (Rd.cutEnd (l := l') (A := A) (k := m) (by omega)) (by simp) (n := l'.length - m) (c' := 0) (by omega) (by omega)
        exact ⟨rfl, hx.1, grownBy_trans hg hx.2⟩
      · go_ret
        have hx := rdr_set hh.out (hrd.out.cutAt hle) (by simp) (n := l'.length - m) (c' := c - m) (by omega) (by omega)
        exact ⟨rfl, hx.1, grownBy_trans hg hx.2⟩
    · rw [if_neg hle] at hrt
      rw [hrt]
      clear hrt
      have hle2 : (l'.length : Int) < m := by omega
      go_enter Try.func79, Try.ntmps79
      go_wp2_with fail
      refine hget.out.mono ?_
      rintro e w1 ⟨rfl, hR, hg⟩
      have hR2 := Lib.hid hR
      obtain ⟨A, c, hh, hcl, hcm, hrd⟩ := hR
      have hc0 : w1.cell? ⟨g, 0, none⟩ = some (.slice A l'.length c) := by simp [World.cell?, hh]
      clear hh hrd
      go_wp2_with fail
      refine (fail_any g _ w1 hR2.out).mono ?_
      rintro e w' ⟨rfl, hn, hb, hs, hk⟩
      go_wp2_with fail
      go_ret
      exact ⟨rfl, hn, grownBy_trans hg (grown_of_fail hb hs hk)⟩
end Go.Proofs.Ytdgkcgiknfjpjaa
/- The reference of word. -/
namespace Go.Proofs.Ytdgkcgiknfjpjaa
set_option linter.unusedVariables false
open Go Go.RowKit

theorem shr_nat (n i : Nat) : (n : Int) / 2 ^ (7 * i) = ((n / 2 ^ (7 * i) : Nat) : Int) := by
  have : ((2 : Int) ^ (7 * i)) = ((2 ^ (7 * i) : Nat) : Int) := by simp
  rw [this]; rfl
@[go_sem] theorem u8_wrapModAdd (k : Nat) : IntKind.u8.wrap ((k : Int) % 128 + 128) = U (UInt8.ofNat (k % 128 + 128)) := by
  rw [IntKind.wrap_u8]; unfold U; rw [UInt8.toNat_ofNat']; omega
set_option maxRecDepth 4000 in
/-- a string's bytes as a new slice -/
theorem run_tobytes (w : World) (m : List UInt8) : ∃ c w', (convert 9 22 (.string (bs m))).run Try.prog w = .ok (.slice (some ⟨w.heap.size, 0, none⟩) m.length c) w' ∧ m.length ≤ c ∧
    Rd w' w'.heap.size (some ⟨w.heap.size, 0, none⟩) m ∧ Below w.heap.size w w' := by
  have h := run_bytes_of_string (P := Try.prog) w 9 22 5 (bs m) Try.underlying9 Try.underlying22 Try.underlying5
  rw [bs_size] at h
  refine ⟨_, _, h, grownCap_ge _ _ _ _, ⟨by simp, fun _ => ⟨_, rfl, by simp, fun j u hu => ?_⟩⟩, (Below.refl w.heap.size w).drew.alloc (Nat.le_refl _) _⟩
  have hj : j < m.length := by
    have := (List.getElem?_eq_some_iff.mp hu).1
    simpa using this
  rw [List.getElem?_map, List.getElem?_eq_getElem hj] at hu
  injection hu with hu
  have hadd : (⟨w.heap.size, 0, none⟩ : Addr).add j = ⟨w.heap.size, j, none⟩ := by unfold Addr.add; split <;> simp_all
  have hblk : ∀ o : Obj, (w.drew.alloc o).heap[w.heap.size]? = some o := fun o => heap_alloc_new w.drew o
  rw [hadd, cell_of_row _ _ j _ _ _ (hblk _), bytesRow_at (bs m) _ j (by simpa [bs] using hj), ← hu]
  simp [bs, vb, U]
end Go.Proofs.Ytdgkcgiknfjpjaa
/- The reference of word: Number and Word. -/
namespace Go.Proofs.Ytdgkcgiknfjpjaa
set_option linter.unusedVariables false
open Go Go.RowKit

def rnum (b : List UInt8) (at_ : Nat) (most : Int) : Int × Int := match lead (b.drop at_) with
  | some (n, k) => if (n : Int) ≤ most then ((n : Int), (at_ : Int) + k) else (0, -1)
  | none => (0, -1)
theorem shl_step (k m : Nat) (hk : k ≤ 8) (hm : m < 128) : ∃ p : Nat, p = m * 2 ^ (7 * k) ∧ p ≤ 127 * 2 ^ 56 ∧ wrap64 ((m : Int) * 2 ^ (7 * k)) = (p : Int) := by
  have hp : 2 ^ (7 * k) ≤ 2 ^ 56 := Nat.pow_le_pow_right (by decide) (by omega)
  have h1 : m * 2 ^ (7 * k) ≤ 127 * 2 ^ 56 := Nat.mul_le_mul (by omega) hp
  refine ⟨_, rfl, h1, ?_⟩
  have e : ((m : Int) * 2 ^ (7 * k)) = ((m * 2 ^ (7 * k) : Nat) : Int) := by simp
  rw [e]
  generalize m * 2 ^ (7 * k) = q at *
  unfold wrap64
  omega
end Go.Proofs.Ytdgkcgiknfjpjaa
/- The laws of word: the fixed fact, and readers beside each other. -/
namespace Go.Proofs.Ytdgkcgiknfjpjaa
set_option linter.unusedVariables false
open Go Go.RowKit

theorem Rdr.heapAt {w : World} {g : Nat} {st : RS} (h : Rdr w g st) : ∃ A n c b, w.heap[g]? = some (.cells #[.slice A n c, .bool b] 135 (0, 0)) := by
  cases st with
  | none => exact ⟨_, _, _, _, h⟩
  | some l => obtain ⟨A, c, h1, _⟩ := h; exact ⟨_, _, _, _, h1⟩
theorem not_int_at {w : World} {g : Nat} {st : RS} (h : Rdr w g st) {p : Addr} {x : Int} (hc : w.cell? p = some (.int .u8 x)) : p.block ≠ g := by
  intro e
  obtain ⟨A, n, c, b, hh⟩ := h.heapAt
  unfold World.cell? at hc
  rw [e, hh] at hc
  simp only at hc
  split at hc
  · cases hc
  · rcases ho : p.off with _ | _ | k
    · rw [ho] at hc; simp at hc
    · rw [ho] at hc; simp at hc
    · rw [ho] at hc; simp at hc
theorem Rd.other {w w' : World} {g B : Nat} {st : RS} {A : Option Addr} {l : List UInt8} (h : Rdr w g st) (hr : Rd w B A l) (hB : B ≤ w.heap.size) (hg : w.grownBy w' (some g)) : Rd w' B A l := by
  refine ⟨hr.1, fun hn => ?_⟩
  obtain ⟨ad, rfl, hb, hcell⟩ := hr.2 hn
  refine ⟨ad, rfl, hb, fun j u hu => ?_⟩
  have h1 := hcell j u hu
  rw [← h1]
  refine World.cell?_of_block ?_
  have hne : (ad.add j).block ≠ g := by
    rw [List.getElem?_map, Option.map_eq_some_iff] at hu
    obtain ⟨x, -, rfl⟩ := hu
    exact not_int_at h h1
  rw [block_of_add] at hne ⊢
  obtain ⟨_, _, _, _, hk⟩ := hg
  exact hk _ (by omega) (fun e => hne (by injection e))
theorem Rdr.other {w w' : World} {g g2 : Nat} {st st2 : RS} (h : Rdr w g st) (h2 : Rdr w g2 st2) (hne : g ≠ g2) (hg : w.grownBy w' (some g)) : Rdr w' g2 st2 := by
  have hlt := h2.lt
  have hgk := hg
  obtain ⟨_, _, _, _, hk⟩ := hgk
  have hh := hk g2 hlt (fun e => hne (by injection e with e; exact e.symm))
  cases st2 with
  | none => exact hh.trans h2
  | some l =>
    obtain ⟨A, c, h3, h4, h5, h6⟩ := h2
    exact ⟨A, c, hh.trans h3, h4, h5, h6.other h (by omega) hg⟩
theorem Rdr.below' {w w' : World} {g : Nat} {st : RS} (h : Rdr w g st) (hb : Below w.heap.size w w') : Rdr w' g st := h.below hb h.lt
theorem below_grown {B g : Nat} {w0 w w' : World} (hb : Below B w0 w) (hB : B ≤ w.heap.size) (hg : w.grownBy w' (some g)) (hBg : B ≤ g) : Below B w0 w' :=
  hb.grown hg hB (fun k hk => by injection hk with hk; omega)
theorem grown_size {g : Nat} {w w' : World} (hg : w.grownBy w' (some g)) : w.heap.size ≤ w'.heap.size := by
  obtain ⟨_, _, _, h, _⟩ := hg
  exact h
theorem enc300 : enc 300 = [172, 2] := by decide +kernel
theorem rget300 : rget (some [172, 2, 2, 97, 98]) 300 = (300, some [2, 97, 98]) := by decide +kernel
theorem rtext2 : rtext (some [2, 97, 98]) 2 = ([97, 98], some []) := by decide +kernel
theorem rgetbad : rget (some [128, 0]) 9 = (0, none) := by decide +kernel
end Go.Proofs.Ytdgkcgiknfjpjaa
