/- The fixed facts of mat's laws. -/
import Derived.Test.YtdgkcgiknfjpjaaMatB
import Derived.Test.YtdgkcgiknfjpjaaBaseB
import Derived.Test.YtdgkcgiknfjpjaaMatA
namespace Go.Proofs.Ytdgkcgiknfjpjaa
set_option linter.unusedVariables false
set_option linter.unusedSimpArgs false
open Go Go.RowKit
theorem tbl_at1 {w : World} {v0 : Value} {l0 : List UInt8} (h0 : Byt l0 v0 w) : ∀ (i : Nat) (v : Value) (l : List UInt8), [v0][i]? = some v → [l0][i]? = some l → Byt l v w
  | 0, v, l, e1, e2 => by injection e1 with e1; injection e2 with e2; subst e1; subst e2; exact h0
  | n + 1, v, l, e1, e2 => by simp at e1
theorem tbl_at2 {w : World} {v0 v1 : Value} {l0 l1 : List UInt8} (h0 : Byt l0 v0 w) (h1 : Byt l1 v1 w) : ∀ (i : Nat) (v : Value) (l : List UInt8), [v0, v1][i]? = some v → [l0, l1][i]? = some l → Byt l v w
  | 0, v, l, e1, e2 => by injection e1 with e1; injection e2 with e2; subst e1; subst e2; exact h0
  | n + 1, v, l, e1, e2 => tbl_at1 h1 n v l e1 e2
theorem tbl_at3 {w : World} {v0 v1 v2 : Value} {l0 l1 l2 : List UInt8} (h0 : Byt l0 v0 w) (h1 : Byt l1 v1 w) (h2 : Byt l2 v2 w) : ∀ (i : Nat) (v : Value) (l : List UInt8), [v0, v1, v2][i]? = some v → [l0, l1, l2][i]? = some l → Byt l v w
  | 0, v, l, e1, e2 => by injection e1 with e1; injection e2 with e2; subst e1; subst e2; exact h0
  | n + 1, v, l, e1, e2 => tbl_at2 h1 h2 n v l e1 e2
/-! ### what the functions answer, as facts -/
theorem TB.tbl {w : World} {base g n m : Nat} {G C : Nat → Nat} {M : Mx} (h : TB w base g n m G C M) (hn : n ≤ 1000000) (c : Nat) (hc : n ≤ c) (hm : c ≤ maxLen) : Tbl (tabM n m M) (.slice (some ⟨g, 0, none⟩) n c) w :=
  ⟨_, c, by rw [tabM_length], by rw [tabM_length]; exact hc, hm, by rw [tabM_length]; exact h.rt⟩
theorem times_tbl {w : World} {La Lb : List (List UInt8)} {va vb : Value} (ha : Tbl La va w) (hb : Tbl Lb vb w) :
    Calls Try.prog 57 #[va, vb] w fun e w' => ∃ u L b, e = .returned (.tuple #[u, .bool b]) ∧ Tbl L u w' ∧ Below w.heap.size w w' ∧ b = fits La Lb ∧ L = if fits La Lb = true then tabM La.length (width Lb) (mm Lb.length (ent La) (ent Lb)) else [] := by
  obtain ⟨A, c, rfl, a1, a2, a3⟩ := ha
  obtain ⟨A2, c2, rfl, b1, b2, b3⟩ := hb
  have hm : maxLen = 9223372036854775807 := rfl
  cases hf : fits La Lb with
  | true =>
    refine (times_ok A _ c La a1 A2 _ c2 Lb b1 w a3 b3 hf).mono ?_
    rintro e w' ⟨g, G, C, rfl, h1, h2⟩
    unfold fits at hf
    rw [Bool.and_eq_true, Bool.and_eq_true] at hf
    have h3 := (isTab_iff.mp hf.1.1).2.1
    exact ⟨_, _, true, rfl, h1.tbl (by omega) _ (Nat.le_refl _) (by rw [hm]; omega), h2, rfl, (if_pos rfl).symm⟩
  | false =>
    refine (times_no A _ c La a1 (by rw [← hm]; exact a2) A2 _ c2 Lb b1 (by rw [← hm]; exact b2) w a3 b3 hf).mono ?_
    rintro e w' ⟨rfl, rfl⟩
    exact ⟨_, [], false, rfl, ⟨none, 0, rfl, Nat.le_refl _, Nat.zero_le _, rfl, fun h => absurd h (by decide)⟩, Below.refl _ _, rfl, rfl⟩
theorem same_tbl {w : World} {La Lb : List (List UInt8)} {va vb : Value} (ha : Tbl La va w) (hb : Tbl Lb vb w) :
    Calls Try.prog 16 #[va, vb] w fun e w' => e = .returned (.bool (La == Lb)) ∧ Below w.heap.size w w' := by
  obtain ⟨A, c, rfl, a1, a2, a3⟩ := ha
  obtain ⟨A2, c2, rfl, b1, b2, b3⟩ := hb
  have hm : maxLen = 9223372036854775807 := rfl
  exact rsameT_any A _ c La (by omega) A2 _ c2 Lb (by omega) w a3 b3
theorem tbl_nil {w : World} : Tbl [] (.slice none 0 0) w := ⟨none, 0, rfl, Nat.le_refl _, Nat.zero_le _, rfl, fun h => absurd h (by decide)⟩
/-- what Invert answers -/
def InvAns (La L : List (List UInt8)) (b : Bool) : Prop :=
  (b = true ∧ square La = true ∧ ∃ X : Mx, L = tabM La.length La.length X ∧ EqM La.length La.length (mm La.length X (ent La)) idM ∧ EqM La.length La.length (mm La.length (ent La) X) idM) ∨ (b = false ∧ L = [] ∧ (square La = true → HasKer La.length (ent La)))
theorem invert_tbl {w : World} {La : List (List UInt8)} {va : Value} (ha : Tbl La va w) :
    Calls Try.prog 56 #[va] w fun e w' => ∃ u L b, e = .returned (.tuple #[u, .bool b]) ∧ Tbl L u w' ∧ Below w.heap.size w w' ∧ InvAns La L b := by
  obtain ⟨A, c, rfl, a1, a2, a3⟩ := ha
  have hm : maxLen = 9223372036854775807 := rfl
  cases hf : square La with
  | true =>
    refine (invert_ok A _ c La a1 hf w a3).mono ?_
    rintro e w' ⟨hb, ⟨rfl, hk⟩ | ⟨g, G, C, X, rfl, ht, h1, h2⟩⟩
    · exact ⟨_, [], false, rfl, tbl_nil, hb, .inr ⟨rfl, rfl, fun _ => hk⟩⟩
    · have hf' := hf
      unfold square at hf'
      rw [Bool.and_eq_true] at hf'
      have h3 := (isTab_iff.mp hf'.1).2.1
      exact ⟨_, _, true, rfl, ht.tbl (by omega) _ (Nat.le_refl _) (by rw [hm]; omega), hb, .inl ⟨rfl, hf, X, rfl, h1, h2⟩⟩
  | false =>
    refine (invert_no A _ c La a1 (by rw [← hm]; exact a2) hf w a3).mono ?_
    rintro e w' ⟨rfl, rfl⟩
    exact ⟨_, [], false, rfl, tbl_nil, Below.refl _ _, .inr ⟨rfl, rfl, fun h => absurd (hf.symm.trans h) (by decide)⟩⟩
theorem code_tbl (m n : Nat) (h1 : 1 ≤ m) (hmn : m ≤ n) (h32 : n ≤ 32) (w : World) :
    Calls Try.prog 55 #[.int .i64 m, .int .i64 n] w fun e w' => ∃ u, e = .returned u ∧ Tbl (tabM n m (codeE m)) u w' ∧ Below w.heap.size w w' := by
  refine (code_ok m n h1 hmn h32 w).mono ?_
  rintro e w' ⟨g, G, C, rfl, ht, hb⟩
  exact ⟨_, rfl, ht.tbl (by omega) _ (Nat.le_refl _) (by simp only [maxLen]; omega), hb⟩
theorem ans2 {L : List (List UInt8)} {b : Bool} (h : InvAns [[2]] L b) : b = true ∧ L = [[142]] := by
  have hs : square [[2]] = true := by decide
  have h142 : EqM 1 1 (mm 1 (ent [[2]]) (ent [[142]])) idM := fun i j hi hj => by
    obtain rfl : i = 0 := by omega
    obtain rfl : j = 0 := by omega
    decide +kernel
  have h142' : EqM 1 1 (mm 1 (ent [[142]]) (ent [[2]])) idM := fun i j hi hj => by
    obtain rfl : i = 0 := by omega
    obtain rfl : j = 0 := by omega
    decide +kernel
  rcases h with ⟨rfl, -, X, rfl, h1, h2⟩ | ⟨rfl, rfl, hk⟩
  · refine ⟨rfl, ?_⟩
    rw [show ([[2]] : List (List UInt8)).length = 1 from rfl] at h1 ⊢
    rw [tabM_congr (B := ent [[142]]) (inv_unique h1 h142)]
    decide +kernel
  · exact (not_both (noKer_of_left h142') (hk hs)).elim
theorem ans11 {L : List (List UInt8)} {b : Bool} (h : InvAns [[1, 1], [1, 1]] L b) : b = false := by
  rcases h with ⟨rfl, -, X, rfl, h1, h2⟩ | ⟨rfl, -, -⟩
  · exfalso
    refine not_both (noKer_of_left h1) ⟨fun _ => 1, fun i hi => ?_, 0, by decide, by decide⟩
    have hi' : i < 2 := hi
    rcases (by omega : i = 0 ∨ i = 1) with rfl | rfl <;> decide +kernel
  · rfl
end Go.Proofs.Ytdgkcgiknfjpjaa
/- Any k rows of a code have no kernel. -/
namespace Go.Proofs.Ytdgkcgiknfjpjaa
set_option linter.unusedVariables false
theorem filter_ne_len (a : Nat) : ∀ l : List Nat, l.Nodup → a ∈ l → (l.filter (fun x => x != a)).length + 1 = l.length
  | [], _, h => by cases h
  | b :: l, hn, hm => by
    have hn' := List.nodup_cons.mp hn
    by_cases e : b = a
    · subst e
      have h1 : l.filter (fun x => x != b) = l := List.filter_eq_self.mpr (fun x hx => by
        have : x ≠ b := fun e => hn'.1 (e ▸ hx)
        simpa using this)
      rw [List.filter_cons, if_neg (by simp), h1]; rfl
    · have hm' : a ∈ l := by
        rcases List.mem_cons.mp hm with h | h
        · exact absurd h.symm e
        · exact h
      have := filter_ne_len a l hn'.2 hm'
      rw [List.filter_cons, if_pos (by simpa using e), List.length_cons, List.length_cons]
      omega
theorem diff_len : ∀ (lo l : List Nat), lo.Nodup → l.Nodup → (∀ x, x ∈ lo → x ∈ l) → (l.filter (fun x => !(lo.contains x))).length + lo.length = l.length
  | [], l, _, _, _ => by
    have h1 : l.filter (fun x => !(([] : List Nat).contains x)) = l := List.filter_eq_self.mpr (fun x hx => by simp)
    rw [h1]; rfl
  | a :: lo, l, hlo, hl, hs => by
    have hlo' := List.nodup_cons.mp hlo
    have h1 := filter_ne_len a l hl (hs a (by simp))
    have h2 := diff_len lo (l.filter (fun x => x != a)) hlo'.2 (hl.sublist List.filter_sublist) (fun x hx => List.mem_filter.mpr ⟨hs x (by simp [hx]), by
      have : x ≠ a := fun e => hlo'.1 (e ▸ hx)
      simpa using this⟩)
    rw [List.filter_filter] at h2
    have h3 : l.filter (fun x => !((a :: lo).contains x)) = l.filter (fun x => !(lo.contains x) && (x != a)) := by
      refine List.filter_congr (fun x _ => ?_)
      rw [List.contains_cons, Bool.not_or, Bool.and_comm]
      rfl
    rw [h3, List.length_cons]
    omega
theorem split_len (k : Nat) : ∀ rs : List Nat, (rs.filter (fun r => decide (r < k))).length + (rs.filter (fun r => decide (k ≤ r))).length = rs.length
  | [] => rfl
  | a :: rs => by
    have := split_len k rs
    by_cases h : a < k
    · rw [List.filter_cons, List.filter_cons, if_pos (by simpa using h), if_neg (by simp; omega), List.length_cons, List.length_cons]; omega
    · rw [List.filter_cons, List.filter_cons, if_neg (by simpa using h), if_pos (by simp; omega), List.length_cons, List.length_cons]; omega
theorem lsum_append (a b : List Nat) (f : Nat → UInt8) : lsum (a ++ b) f = lsum a f ^^^ lsum b f := by
  induction a with
  | nil => exact (zx _).symm
  | cons x a ih => rw [List.cons_append, lsum_cons, lsum_cons, ih, xa]
theorem gsum_lsum (n : Nat) (f : Nat → UInt8) : gsum n f = lsum (List.range n) f := by
  induction n with
  | zero => rfl
  | succ n ih =>
    rw [List.range_succ, lsum_append, ← ih]
    show gsum n f ^^^ f n = gsum n f ^^^ (f n ^^^ 0)
    rw [x0]
theorem lsum_filter (p : Nat → Bool) (f : Nat → UInt8) : ∀ l : List Nat, (∀ y, y ∈ l → p y = false → f y = 0) → lsum l f = lsum (l.filter p) f
  | [], _ => rfl
  | a :: l, h => by
    have ih := lsum_filter p f l (fun y hy => h y (by simp [hy]))
    by_cases hp : p a = true
    · rw [List.filter_cons, if_pos hp, lsum_cons, lsum_cons, ih]
    · rw [List.filter_cons, if_neg hp, lsum_cons, h a (by simp) (by simpa using hp), zx, ih]
/-- any k rows of a code have no kernel -/
theorem pick_noKer (k n : Nat) (hn : n ≤ 256) (hkn : k ≤ n) (rs : List Nat) (hnd : rs.Nodup) (hlen : rs.length = k) (hlt : ∀ r, r ∈ rs → r < n) : NoKer k (fun i j => codeE k (rs.getD i 0) j) := by
  intro v hv
  have hrow : ∀ r, r ∈ rs → gsum k (fun j => gmul (codeE k r j) (v j)) = 0 := by
    intro r hr
    obtain ⟨i, hi, e⟩ := List.getElem_of_mem hr
    have h : gsum k (fun j => gmul (codeE k (rs.getD i 0) j) (v j)) = 0 := hv i (by omega)
    have e2 : rs.getD i 0 = r := by rw [List.getD_eq_getElem?_getD, List.getElem?_eq_getElem hi, e]; rfl
    rw [e2] at h
    exact h
  have hlo : ∀ r, r ∈ rs → r < k → v r = 0 := by
    intro r hr hrk
    have h := hrow r hr
    rw [gsum_one hrk _ (fun j hj hne => by unfold codeE; rw [if_neg (by omega), if_neg (by omega), gmul_zero_l])] at h
    unfold codeE at h
    rw [if_neg (by omega), if_pos rfl, gmul_one_l] at h
    exact h
  have h1 := split_len k rs
  have h2 := diff_len (rs.filter (fun r => decide (r < k))) (List.range k) (hnd.sublist List.filter_sublist) List.nodup_range (fun x hx => by
    have := (List.mem_filter.mp hx).2
    exact List.mem_range.mpr (by simpa using this))
  rw [List.length_range] at h2
  intro i hi
  by_cases hil : (rs.filter (fun r => decide (r < k))).contains i = true
  · have h3 := List.mem_filter.mp (by simpa using hil : i ∈ rs.filter (fun r => decide (r < k)))
    exact hlo i h3.1 hi
  · refine cauchy (fun x => UInt8.ofNat x) (rs.filter (fun r => decide (k ≤ r))) ((List.range k).filter (fun x => !((rs.filter (fun r => decide (r < k))).contains x))) (hnd.sublist List.filter_sublist) (List.nodup_range.sublist List.filter_sublist) (by omega) ?_ ?_ ?_ v ?_ i ?_
    · intro a b ha hb hne
      have := hlt a (List.mem_filter.mp ha).1
      have := hlt b (List.mem_filter.mp hb).1
      exact ofNat_ne (by omega) (by omega) hne
    · intro a b ha hb hne
      have := List.mem_range.mp (List.mem_filter.mp ha).1
      have := List.mem_range.mp (List.mem_filter.mp hb).1
      exact ofNat_ne (by omega) (by omega) hne
    · intro a b ha hb
      have h3 := hlt a (List.mem_filter.mp ha).1
      have h4 := (List.mem_filter.mp ha).2
      have h5 := List.mem_range.mp (List.mem_filter.mp hb).1
      have h6 : k ≤ a := by simpa using h4
      exact ofNat_ne (by omega) (by omega) (by omega)
    · intro x hx
      have hx1 := (List.mem_filter.mp hx).1
      have hx2 : k ≤ x := by simpa using (List.mem_filter.mp hx).2
      have hx3 := hlt x hx1
      have h := hrow x hx1
      rw [gsum_lsum, lsum_filter (fun x => !((rs.filter (fun r => decide (r < k))).contains x)) _ _ (fun y hy hp => by
        have hp' : (rs.filter (fun r => decide (r < k))).contains y = true := by
          cases hh : (rs.filter (fun r => decide (r < k))).contains y with
          | true => rfl
          | false => rw [hh] at hp; cases hp
        have h3 := List.mem_filter.mp (by simpa using hp' : y ∈ rs.filter (fun r => decide (r < k)))
        rw [hlo y h3.1 (List.mem_range.mp hy), gmul_zero_r])] at h
      rw [← h]
      refine lsum_congr (fun y hy => ?_)
      have hy2 := List.mem_range.mp (List.mem_filter.mp hy).1
      unfold codeE
      rw [if_pos hx2, fx_eq (by omega) (by omega), gmul_comm]
    · refine List.mem_filter.mpr ⟨List.mem_range.mpr hi, ?_⟩
      cases hh : (rs.filter (fun r => decide (r < k))).contains i with
      | true => exact absurd hh hil
      | false => rfl
end Go.Proofs.Ytdgkcgiknfjpjaa
/- mat's laws: Times, Code, Groups. -/
namespace Go.Proofs.Ytdgkcgiknfjpjaa
set_option linter.unusedVariables false
set_option linter.unusedSimpArgs false
open Go Go.RowKit
theorem Tbl.gr {w w' : World} {L : List (List UInt8)} {v : Value} (hr : Gr w w') (h : Hid (Tbl L v w)) : Hid (Tbl L v w') := Lib.hid ((tbP L).st hr h.out)
theorem Gr.go {x y z : World} (h1 : Hid (Gr x y)) (h2 : Gr y z) : Hid (Gr x z) := Lib.hid (h1.out.trans h2)
def prod (La Lb : List (List UInt8)) : List (List UInt8) := if fits La Lb = true then tabM La.length (width Lb) (mm Lb.length (ent La) (ent Lb)) else []
theorem times_p {w : World} {La Lb : List (List UInt8)} {va vb : Value} (ha : Hid (Tbl La va w)) (hb : Hid (Tbl Lb vb w)) :
    Calls Try.prog 57 #[va, vb] w fun e w' => ∃ u, e = .returned (.tuple #[u, .bool (fits La Lb)]) ∧ Hid (Tbl (prod La Lb) u w') ∧ Gr w w' := by
  refine (times_tbl ha.out hb.out).mono ?_
  rintro e w' ⟨u, L, b, rfl, h1, h2, rfl, rfl⟩
  exact ⟨u, rfl, Lib.hid h1, h2⟩
theorem same_p {w : World} {La Lb : List (List UInt8)} {va vb : Value} (ha : Hid (Tbl La va w)) (hb : Hid (Tbl Lb vb w)) :
    Calls Try.prog 16 #[va, vb] w fun e w' => e = .returned (.bool (La == Lb)) ∧ Gr w w' := same_tbl ha.out hb.out
theorem beqTT (L : List (List UInt8)) : (L == L) = true := by simp
theorem mcode_p (m n : Int) (hm : -9223372036854775808 ≤ m ∧ m ≤ 9223372036854775807) (w : World) :
    Calls Try.prog 55 #[.int .i64 m, .int .i64 n] w fun e w' => ∃ u, e = .returned u ∧ Hid (Tbl (if m < 1 ∨ n < m ∨ 32 < n then [] else tabM n.toNat m.toNat (codeE m.toNat)) u w') ∧ Gr w w' := by
  by_cases h : m < 1 ∨ n < m ∨ 32 < n
  · refine (code_no m n hm h w).mono ?_
    rintro e w' ⟨rfl, rfl⟩
    rw [if_pos h]
    exact ⟨_, rfl, Lib.hid tbl_nil, Below.refl _ _⟩
  · have e1 : m = (m.toNat : Int) := by omega
    have e2 : n = (n.toNat : Int) := by omega
    rw [if_neg h, e1, e2]
    refine (code_tbl m.toNat n.toNat (by omega) (by omega) (by omega) w).mono ?_
    rintro e w' ⟨u, rfl, h1, h2⟩
    rw [Int.toNat_natCast, Int.toNat_natCast]
    exact ⟨u, rfl, Lib.hid h1, h2⟩
theorem fits_iff {La Lb : List (List UInt8)} : fits La Lb = true ↔ (isTab La = true ∧ isTab Lb = true ∧ width La = Lb.length) := by
  unfold fits
  rw [Bool.and_eq_true, Bool.and_eq_true, beq_iff_eq, and_assoc]
theorem prod_tab {La Lb : List (List UInt8)} (h : fits La Lb = true) : isTab (prod La Lb) = true ∧ width (prod La Lb) = width Lb ∧ (prod La Lb).length = La.length := by
  obtain ⟨h1, h2, h3⟩ := fits_iff.mp h
  obtain ⟨a1, a2, a3, a4, -⟩ := isTab_iff.mp h1
  obtain ⟨b1, b2, b3, b4, -⟩ := isTab_iff.mp h2
  have hp : prod La Lb = tabM La.length (width Lb) (mm Lb.length (ent La) (ent Lb)) := if_pos h
  obtain ⟨i1, i2⟩ := isTab_tabM a1 a2 b3 b4 (mm Lb.length (ent La) (ent Lb))
  rw [hp]
  exact ⟨i1, i2, tabM_length _ _ _⟩
theorem prod_ent {La Lb : List (List UInt8)} (h : fits La Lb = true) {i j : Nat} (hi : i < La.length) (hj : j < width Lb) : ent (prod La Lb) i j = mm Lb.length (ent La) (ent Lb) i j := by
  have hp : prod La Lb = tabM La.length (width Lb) (mm Lb.length (ent La) (ent Lb)) := if_pos h
  rw [hp, ent_tabM hi hj]
theorem prod_assoc {La Lb Lc : List (List UInt8)} (h1 : fits La Lb = true) (h2 : fits Lb Lc = true) : fits (prod La Lb) Lc = true ∧ fits La (prod Lb Lc) = true ∧ prod (prod La Lb) Lc = prod La (prod Lb Lc) := by
  obtain ⟨p1, p2, p3⟩ := prod_tab h1
  obtain ⟨q1, q2, q3⟩ := prod_tab h2
  obtain ⟨a1, a2, a3⟩ := fits_iff.mp h1
  obtain ⟨b1, b2, b3⟩ := fits_iff.mp h2
  have f1 : fits (prod La Lb) Lc = true := fits_iff.mpr ⟨p1, b2, by rw [p2]; exact b3⟩
  have f2 : fits La (prod Lb Lc) = true := fits_iff.mpr ⟨a1, q1, by rw [q3]; exact a3⟩
  refine ⟨f1, f2, ?_⟩
  rw [show prod (prod La Lb) Lc = tabM (prod La Lb).length (width Lc) (mm Lc.length (ent (prod La Lb)) (ent Lc)) from if_pos f1, show prod La (prod Lb Lc) = tabM La.length (width (prod Lb Lc)) (mm (prod Lb Lc).length (ent La) (ent (prod Lb Lc))) from if_pos f2, p3, q2, q3]
  refine tabM_congr (fun i j hi hj => ?_)
  rw [mm_congr (A' := mm Lb.length (ent La) (ent Lb)) (B' := ent Lc) (fun k hk => prod_ent h1 hi (by rw [b3]; exact hk)) (fun _ _ => rfl), mm_assoc]
  exact (mm_congr (fun _ _ => rfl) (fun k hk => prod_ent h2 hk hj)).symm
end Go.Proofs.Ytdgkcgiknfjpjaa
/- mat's laws: Inverts, Back. -/
namespace Go.Proofs.Ytdgkcgiknfjpjaa
set_option linter.unusedVariables false
set_option linter.unusedSimpArgs false
open Go Go.RowKit
theorem inv_p {w : World} {La : List (List UInt8)} {va : Value} (ha : Hid (Tbl La va w)) :
    Calls Try.prog 56 #[va] w fun e w' => ∃ u L b, e = .returned (.tuple #[u, .bool b]) ∧ Hid (Tbl L u w') ∧ InvAns La L b ∧ Gr w w' := by
  refine (invert_tbl ha.out).mono ?_
  rintro e w' ⟨u, L, b, rfl, h1, h2, h3⟩
  exact ⟨u, L, b, rfl, Lib.hid h1, h3, h2⟩
theorem sq_of {La : List (List UInt8)} (h : square La = true) : isTab La = true ∧ La.length = width La ∧ 1 ≤ La.length ∧ La.length ≤ 32 ∧ tabM La.length La.length (ent La) = La := by
  unfold square at h
  rw [Bool.and_eq_true, beq_iff_eq] at h
  obtain ⟨h1, h2, h3, h4, h5⟩ := isTab_iff.mp h.1
  exact ⟨h.1, h.2, h1, h2, tab_of (fun r hr => by rw [h5 r hr, h.2])⟩
theorem sq_tabM {n : Nat} (h1 : 1 ≤ n) (h2 : n ≤ 32) (X : Mx) : square (tabM n n X) = true := by
  obtain ⟨i1, i2⟩ := isTab_tabM h1 h2 h1 h2 X
  unfold square
  rw [i1, i2, tabM_length]; simp
theorem Tbl.cell0 {w : World} {La : List (List UInt8)} {b o c : Nat} (h : Tbl La (.slice (some ⟨b, o, none⟩) La.length c) w) (hn : 0 < La.length) : ∃ A0 c0, w.cell? ⟨b, o, none⟩ = some (.slice A0 (width La) c0) := by
  obtain ⟨A, c', e, -, -, hr⟩ := h
  injection e with e1 e2 e3
  subst e1
  obtain ⟨b', o', A0, c0, l0, e, -, hl, hc, -⟩ := hr.at_ (i := 0) hn
  injection e with e
  injection e with e4 e5
  subst e4 e5
  rw [width_get hl]
  exact ⟨A0, c0, hc⟩
theorem Tbl.form0 {w : World} {La : List (List UInt8)} {v : Value} (h : Tbl La v w) (hn : 0 < La.length) : ∃ b o c, v = .slice (some ⟨b, o, none⟩) La.length c := by
  obtain ⟨A, c', e, -, -, hr⟩ := h
  obtain ⟨b', o', A0, c0, l0, rfl, -⟩ := hr.at_ (i := 0) hn
  exact ⟨b', o', c', e⟩
theorem Tbl.form {w : World} {La : List (List UInt8)} {v : Value} (h : Tbl La v w) : ∃ A c, v = .slice A La.length c := by
  obtain ⟨A, c', e, -⟩ := h
  exact ⟨A, c', e⟩
/-- a table and one that turns it back -/
theorem prod_sq {La : List (List UInt8)} (hs : square La = true) (X : Mx) : fits La (tabM La.length La.length X) = true ∧ prod La (tabM La.length La.length X) = tabM La.length La.length (mm La.length (ent La) X) ∧
    fits (tabM La.length La.length X) La = true ∧ prod (tabM La.length La.length X) La = tabM La.length La.length (mm La.length X (ent La)) := by
  obtain ⟨h1, h2, h3, h4, h5⟩ := sq_of hs
  obtain ⟨i1, i2⟩ := isTab_tabM h3 h4 h3 h4 X
  have f1 : fits La (tabM La.length La.length X) = true := fits_iff.mpr ⟨h1, i1, by rw [tabM_length, ← h2]⟩
  have f2 : fits (tabM La.length La.length X) La = true := fits_iff.mpr ⟨i1, h1, i2⟩
  refine ⟨f1, ?_, f2, ?_⟩
  · rw [show prod La (tabM La.length La.length X) = tabM La.length (width (tabM La.length La.length X)) (mm (tabM La.length La.length X).length (ent La) (ent (tabM La.length La.length X))) from if_pos f1, i2, tabM_length]
    exact tabM_congr (fun i j hi hj => mm_congr (fun _ _ => rfl) (fun k hk => ent_tabM hk hj X))
  · rw [show prod (tabM La.length La.length X) La = tabM (tabM La.length La.length X).length (width La) (mm La.length (ent (tabM La.length La.length X)) (ent La)) from if_pos f2, ← h2, tabM_length]
    exact tabM_congr (fun i j hi hj => mm_congr (fun k hk => ent_tabM hi hk X) (fun _ _ => rfl))
theorem ans_unique {La L : List (List UInt8)} {b : Bool} (h : InvAns La L b) (hs : square La = true) {Y : Mx} (h1 : EqM La.length La.length (mm La.length Y (ent La)) idM) (h2 : EqM La.length La.length (mm La.length (ent La) Y) idM) : b = true ∧ L = tabM La.length La.length Y := by
  rcases h with ⟨rfl, -, X, rfl, g1, g2⟩ | ⟨rfl, rfl, hk⟩
  · exact ⟨rfl, tabM_congr (inv_unique g1 h2)⟩
  · exact (not_both (noKer_of_left h1) (hk hs)).elim
theorem ans_back {La L : List (List UInt8)} {b : Bool} (hs : square La = true) {X : Mx} (h : InvAns (tabM La.length La.length X) L b) (h1 : EqM La.length La.length (mm La.length X (ent La)) idM) (h2 : EqM La.length La.length (mm La.length (ent La) X) idM) : b = true ∧ L = La := by
  obtain ⟨q1, q2, q3, q4, q5⟩ := sq_of hs
  obtain ⟨e1, e2⟩ := ans_unique h (sq_tabM q3 q4 X) (Y := ent La) (by
    rw [tabM_length]
    intro i j hi hj
    rw [mm_congr (A' := ent La) (B' := X) (fun _ _ => rfl) (fun k hk => ent_tabM hk hj X)]
    exact h2 i j hi hj) (by
    rw [tabM_length]
    intro i j hi hj
    rw [mm_congr (A' := X) (B' := ent La) (fun k hk => ent_tabM hi hk X) (fun _ _ => rfl)]
    exact h1 i j hi hj)
  refine ⟨e1, ?_⟩
  rw [e2, tabM_length, q5]
/-- two tables of one size, turned back together -/
theorem ans_both {La Lb L : List (List UInt8)} {b : Bool} (hs : square La = true) (hn : Lb.length = La.length) (hs2 : square Lb = true) {X Y : Mx} (h : InvAns (prod La Lb) L b)
    (h1 : EqM La.length La.length (mm La.length X (ent La)) idM) (h2 : EqM La.length La.length (mm La.length (ent La) X) idM) (g1 : EqM Lb.length Lb.length (mm Lb.length Y (ent Lb)) idM) (g2 : EqM Lb.length Lb.length (mm Lb.length (ent Lb) Y) idM) :
    b = true ∧ fits (tabM Lb.length Lb.length Y) (tabM La.length La.length X) = true ∧ prod (tabM Lb.length Lb.length Y) (tabM La.length La.length X) = L := by
  obtain ⟨q1, q2, q3, q4, q5⟩ := sq_of hs
  obtain ⟨r1, r2, r3, r4, r5⟩ := sq_of hs2
  rw [hn] at g1 g2 r3 r4 r5 ⊢
  have f0 : fits La Lb = true := fits_iff.mpr ⟨q1, r1, by rw [← q2, hn]⟩
  have hP : prod La Lb = tabM La.length La.length (mm La.length (ent La) (ent Lb)) := by
    rw [show prod La Lb = tabM La.length (width Lb) (mm Lb.length (ent La) (ent Lb)) from if_pos f0, ← r2, hn]
  obtain ⟨i1, i2⟩ := isTab_tabM q3 q4 q3 q4 X
  obtain ⟨j1, j2⟩ := isTab_tabM q3 q4 q3 q4 Y
  have f2 : fits (tabM La.length La.length Y) (tabM La.length La.length X) = true := fits_iff.mpr ⟨j1, i1, by rw [j2, tabM_length]⟩
  rw [hP] at h
  have key : ∀ (n : Nat) (A B C D : Mx), EqM n n (mm n B C) idM → EqM n n (mm n A D) idM → EqM n n (mm n (mm n A B) (mm n C D)) idM := fun n A B C D k1 k2 i j hi hj => by
    rw [mm_assoc, mm_congr (A' := A) (B' := D) (fun _ _ => rfl) (fun k hk => by
      rw [← mm_assoc, mm_congr (A' := idM) (B' := D) (fun l hl => k1 k l hk hl) (fun _ _ => rfl), mm_id_l hk])]
    exact k2 i j hi hj
  obtain ⟨e1, e2⟩ := ans_unique h (sq_tabM q3 q4 _) (Y := mm La.length Y X) (by
    rw [tabM_length]
    intro i j hi hj
    rw [mm_congr (A' := mm La.length Y X) (B' := mm La.length (ent La) (ent Lb)) (fun _ _ => rfl) (fun k hk => ent_tabM hk hj _)]
    exact key _ _ _ _ _ h1 g1 i j hi hj) (by
    rw [tabM_length]
    intro i j hi hj
    rw [mm_congr (A' := mm La.length (ent La) (ent Lb)) (B' := mm La.length Y X) (fun k hk => ent_tabM hi hk _) (fun _ _ => rfl)]
    exact key _ _ _ _ _ g2 h2 i j hi hj)
  refine ⟨e1, f2, ?_⟩
  rw [e2, tabM_length, show prod (tabM La.length La.length Y) (tabM La.length La.length X) = tabM (tabM La.length La.length Y).length (width (tabM La.length La.length X)) (mm (tabM La.length La.length X).length (ent (tabM La.length La.length Y)) (ent (tabM La.length La.length X))) from if_pos f2, i2, tabM_length, tabM_length]
  exact tabM_congr (fun i j hi hj => mm_congr (fun k hk => ent_tabM hi hk Y) (fun k hk => ent_tabM hk hj X))
end Go.Proofs.Ytdgkcgiknfjpjaa
/- Tables of the call's own whose rows lie below: what is appended shares the rows. -/
namespace Go.Proofs.Ytdgkcgiknfjpjaa
set_option linter.unusedVariables false
open Go Go.RowKit
/-- v is a slice of the call's own; its rows L lie below B -/
def AB (w : World) (B : Nat) (v : Value) (L : List (List UInt8)) : Prop :=
  ∃ rows : List Value, w.ownsRow B 22 1 v L.length rows ∧ rows.length = L.length ∧ ∀ (i : Nat) (l : List UInt8), L[i]? = some l → ∃ A c, rows[i]? = some (.slice A l.length c) ∧ Rd w B A l ∧ l.length ≤ c ∧ c ≤ maxLen
/-- v is a slice, only read; its rows L lie below B -/
def RR (w : World) (B : Nat) (v : Value) (L : List (List UInt8)) : Prop :=
  ∃ A c, v = .slice A L.length c ∧ L.length ≤ c ∧ c ≤ maxLen ∧ (0 < L.length → ∃ b o, A = some ⟨b, o, none⟩ ∧ b < w.heap.size ∧ ∀ i l, L[i]? = some l → ∃ A' c', w.cell? ⟨b, o + i, none⟩ = some (.slice A' l.length c') ∧ Rd w B A' l ∧ l.length ≤ c' ∧ c' ≤ maxLen)
section
variable {w w' : World} {B : Nat} {v : Value} {L : List (List UInt8)}
theorem AB.rr (h : AB w B v L) : RR w B v L := by
  obtain ⟨rows, h1, h2, h3⟩ := h
  by_cases hn : 0 < L.length
  · obtain ⟨g, c, rfl, h4, h5, h6, h7, -, -, h8, -⟩ := row_at h1 hn
    refine ⟨_, c, rfl, h4, h5, fun _ => ⟨g, 0, rfl, h7, fun i l hl => ?_⟩⟩
    obtain ⟨A', c', h9, r1, r2, r3⟩ := h3 i l hl
    exact ⟨A', c', by rw [Nat.zero_add]; exact h8 i _ h9, r1, r2, r3⟩
  · obtain ⟨A, c, e, h4, h5⟩ := row_form h1
    exact ⟨A, c, e, h4, h5, fun h => absurd h hn⟩
theorem RR.tbl (h : RR w B v L) (hs : B ≤ w.heap.size) : Tbl L v w := by
  obtain ⟨A, c, e, h1, h2, h3⟩ := h
  refine ⟨A, c, e, h1, h2, rfl, fun hn => ?_⟩
  obtain ⟨b, o, eA, hb, hr⟩ := h3 hn
  refine ⟨b, o, eA, hb, fun i l hl => ?_⟩
  obtain ⟨A', c', r1, r2, r3, r4⟩ := hr i l hl
  exact ⟨A', c', r1, r3, r4, r2.more hs⟩
theorem AB.tbl (h : AB w B v L) (hs : B ≤ w.heap.size) : Tbl L v w := h.rr.tbl hs
theorem RR.keep (h : RR w B v L) (hsz : w.heap.size ≤ w'.heap.size) (hB : ∀ k, k < B → w'.heap[k]? = w.heap[k]?) (hv : ∀ k, v.ownBlock = some k → k < w.heap.size → w'.heap[k]? = w.heap[k]?) : RR w' B v L := by
  obtain ⟨A, c, rfl, h1, h2, h3⟩ := h
  refine ⟨A, c, rfl, h1, h2, fun hn => ?_⟩
  obtain ⟨b, o, rfl, hb, hr⟩ := h3 hn
  refine ⟨b, o, rfl, Nat.lt_of_lt_of_le hb hsz, fun i l hl => ?_⟩
  obtain ⟨A', c', r1, r2, r3, r4⟩ := hr i l hl
  exact ⟨A', c', (World.cell?_of_block (w := w) (hv b rfl hb)).trans r1, r2.keep (fun p hp => World.cell?_of_block (hB _ hp)), r3, r4⟩
theorem RR.below (h : RR w B v L) (hb : Below w.heap.size w w') (hs : B ≤ w.heap.size) : RR w' B v L :=
  h.keep hb.size (fun k hk => hb.block k (by omega)) (fun k _ hk => hb.block k hk)
theorem RR.grown (h : RR w B v L) {row : Option Nat} (hg : w.grownBy w' row) (hs : B ≤ w.heap.size) (hr : ∀ k, row = some k → B ≤ k ∧ v.ownBlock ≠ some k) : RR w' B v L :=
  h.keep hg.size (fun k hk => hg.block k (by omega) (fun e => by have := (hr k e.symm).1; omega)) (fun k hk hlt => hg.block k hlt (fun e => (hr k e.symm).2 hk))
theorem AB.up (h : AB w B v L) : ∀ k, v.ownBlock = some k → B ≤ k ∧ k < w.heap.size := by
  obtain ⟨rows, h1, -, -⟩ := h
  exact h1.lt
theorem AB.keep (h : AB w B v L) (hB : ∀ k, k < B → w'.heap[k]? = w.heap[k]?) (hv : ∀ k, v.ownBlock = some k → w'.heap[k]? = w.heap[k]?) : AB w' B v L := by
  obtain ⟨rows, h1, h2, h3⟩ := h
  refine ⟨rows, row_keep h1 hv, h2, fun i l hl => ?_⟩
  obtain ⟨A, c, r1, r2, r3⟩ := h3 i l hl
  exact ⟨A, c, r1, r2.keep (fun p hp => World.cell?_of_block (hB _ hp)), r3⟩
theorem AB.below (h : AB w B v L) (hb : Below w.heap.size w w') (hs : B ≤ w.heap.size) : AB w' B v L :=
  h.keep (fun k hk => hb.block k (by omega)) (fun k hk => hb.block k (h.up k hk).2)
theorem AB.grown (h : AB w B v L) {row : Option Nat} (hg : w.grownBy w' row) (hs : B ≤ w.heap.size) (hr : ∀ k, row = some k → B ≤ k ∧ v.ownBlock ≠ some k) : AB w' B v L :=
  h.keep (fun k hk => hg.block k (by omega) (fun e => by have := (hr k e.symm).1; omega)) (fun k hk => hg.block k (h.up k hk).2 (fun e => (hr k e.symm).2 hk))
theorem AB.empty (w : World) (B : Nat) (hb : B ≤ w.heap.size) : AB (w.alloc (.cells #[] 22)) B (.slice (some ⟨w.heap.size, 0, none⟩) 0 0) [] :=
  ⟨[], World.ownsRow_made w #[] 0 hb (by simp [maxLen]) rfl, rfl, fun i l h => by simp at h⟩
theorem AB.form (h : AB w B v L) : ∃ A c, v = .slice A L.length c := by
  obtain ⟨A, c, e, -⟩ := h.rr
  exact ⟨A, c, e⟩
theorem RR.form (h : RR w B v L) : ∃ A c, v = .slice A L.length c := by
  obtain ⟨A, c, e, -⟩ := h
  exact ⟨A, c, e⟩
theorem RR.form0 (h : RR w B v L) (hn : 0 < L.length) : ∃ b o c, v = .slice (some ⟨b, o, none⟩) L.length c ∧ L.length ≤ c ∧ b < w.heap.size := by
  obtain ⟨A, c, e, h1, -, h3⟩ := h
  obtain ⟨b, o, rfl, hb, -⟩ := h3 hn
  exact ⟨b, o, c, e, h1, hb⟩
theorem RR.cell {b o n c : Nat} (h : RR w B (.slice (some ⟨b, o, none⟩) n c) L) {i : Nat} {l : List UInt8} (hl : L[i]? = some l) : ∃ A' c', w.cell? ⟨b, o + i, none⟩ = some (.slice A' l.length c') ∧ Rd w B A' l ∧ l.length ≤ c' ∧ c' ≤ maxLen := by
  obtain ⟨A, c0, e, -, -, h3⟩ := h
  injection e with e1 e2 e3
  subst e1
  have hi := (List.getElem?_eq_some_iff.mp hl).1
  obtain ⟨b', o', e, -, hr⟩ := h3 (by omega)
  injection e with e
  injection e with e4 e5
  subst e4 e5
  exact hr i l hl
end
theorem wpl_append_sh {w : World} {ops : Array Oper} {rest : List Oper} {o : Oper} {a : Act} {Q : Exit → Act → World → Prop} (hgd : o.guard = none) (s x : Operand)
    (ho : o.op = .call { callee := .builtin .append, args := #[s, x], argTypes := #[27, 27] })
    (B : Nat) (v : Value) (L : List (List UInt8)) (hs : a.eval s = v) (hat : AB w B v L) (A : Option Addr) (c : Nat) (l : List UInt8) (hrow : Rd w B A l) (hlc : l.length ≤ c) (hcm : c ≤ maxLen)
    (Bx : Nat) (Ax : Option Addr) (cx : Nat) (hx : a.eval x = .slice Ax 1 cx) (hr : Reads w Bx 1 Ax 1 [.slice A l.length c])
    (hlen : L.length ≤ 1000000) (hbase : B ≤ w.heap.size)
    (h : ∀ v' w', AB w' B v' (L ++ [l]) → w.grownBy w' v.ownBlock → (v'.ownBlock = v.ownBlock ∨ v'.ownBlock = some w.heap.size) → wpList Try.prog ops Q rest (a.put o.dst v') w') : wpList Try.prog ops Q (o :: rest) a w := by
  obtain ⟨i0, hi, hz0, hz1, hz2⟩ := info_parts info_bb
  have hup := hat.up
  obtain ⟨rows, h1, h2, h3⟩ := hat
  refine wpList_plain hgd fun _ hK => wp_append_any w s x 27 ho B 22 i0 _ 1 24 Try.underlying27 hi hz0 hz1 hz2 rfl (by omega) v L.length rows hs h1 Bx Ax 1 cx [.slice A l.length c] hx hr (fun u hu => by simp at hu; subst hu; rfl)
    (by simp only [maxLen]; omega) (by omega) hbase fun v' w' q1 q2 q3 => hK _ _ (h v' w' ?_ q2 q3)
  have hkeep : ∀ {A' : Option Addr} {l' : List UInt8}, Rd w B A' l' → Rd w' B A' l' := fun hrd => hrd.keep (fun p hp => World.cell?_of_block (q2.block p.block (by omega) (fun e => by have := (hup _ e.symm).1; omega)))
  refine ⟨rows ++ [.slice A l.length c], by rw [List.length_append]; exact q1, by simp [h2], fun i l' hl => ?_⟩
  by_cases hi2 : i < L.length
  · rw [List.getElem?_append_left hi2] at hl
    obtain ⟨A', c', h4, h5, h6⟩ := h3 i l' hl
    exact ⟨A', c', by rw [List.getElem?_append_left (by omega)]; exact h4, hkeep h5, h6⟩
  · have hi3 : i = L.length := by
      have := (List.getElem?_eq_some_iff.mp hl).1
      simp at this
      omega
    subst hi3
    rw [List.getElem?_append_right (Nat.le_refl _), Nat.sub_self] at hl
    simp at hl
    subst hl
    exact ⟨A, c, by rw [List.getElem?_append_right (by omega), h2, Nat.sub_self]; rfl, hkeep hrow, hlc, hcm⟩
/-! ### picks -/
theorem perm_erase : ∀ (l : List Nat) (a : Nat) (h : a < l.length), (l[a] :: l.eraseIdx a).Perm l
  | [], a, h => by simp at h
  | x :: l, 0, h => List.Perm.refl _
  | x :: l, a + 1, h => by
    have h' : a < l.length := by simpa using h
    exact (List.Perm.swap x (l[a]) (l.eraseIdx a)).trans ((perm_erase l a h').cons x)
/-- what stands at a has left -/
theorem pick_perm {rs left : List Nat} {a : Nat} (ha : a < left.length) : ((rs ++ [left[a]]) ++ left.eraseIdx a).Perm (rs ++ left) := by
  rw [List.append_assoc]
  refine List.Perm.append_left rs ?_
  exact perm_erase left a ha
theorem take_erase_lt {left : List Nat} {a s : Nat} (hs : s ≤ a) : (left.take s).eraseIdx a = left.take s := List.eraseIdx_of_length_le (by rw [List.length_take]; omega)
theorem take_erase_at {left : List Nat} {a : Nat} (ha : a < left.length) : (left.take (a + 1)).eraseIdx a = (left.take a).eraseIdx a := by
  rw [take_erase_lt (Nat.le_refl _), List.take_succ_eq_append_getElem ha, List.eraseIdx_append_of_length_le (by rw [List.length_take]; omega)]
  rw [List.length_take, Nat.min_eq_left (by omega), Nat.sub_self]
  simp
theorem take_erase_ne {left : List Nat} {a s : Nat} (hs : s < left.length) (hne : s ≠ a) : (left.take (s + 1)).eraseIdx a = (left.take s).eraseIdx a ++ [left[s]] := by
  rw [List.take_succ_eq_append_getElem hs]
  by_cases h : s < a
  · rw [List.eraseIdx_of_length_le (by rw [List.length_append, List.length_take]; simp; omega), take_erase_lt (by omega)]
  · rw [List.eraseIdx_append_of_lt_length (by rw [List.length_take]; omega)]
end Go.Proofs.Ytdgkcgiknfjpjaa
/- mat's laws: rows of a table by picks. -/
namespace Go.Proofs.Ytdgkcgiknfjpjaa
set_option linter.unusedVariables false
set_option linter.unusedSimpArgs false
open Go Go.RowKit
theorem map_range {L : List (List UInt8)} : (List.range L.length).map (fun r => L.getD r []) = L := by
  refine List.ext_getElem? fun i => ?_
  by_cases h : i < L.length
  · rw [List.getElem?_map, List.getElem?_range h, List.getElem?_eq_getElem h]
    simp [List.getD_eq_getElem?_getD, h]
  · rw [List.getElem?_eq_none (by simp; omega), List.getElem?_eq_none (by omega)]
theorem rt_rr {w : World} {A : Option Addr} {n c : Nat} {L : List (List UInt8)} (h : RT w w.heap.size A n L) (hc : n ≤ c) (hm : c ≤ maxLen) : RR w w.heap.size (.slice A n c) L := by
  refine ⟨A, c, by rw [h.1], by rw [h.1]; exact hc, hm, fun hn => ?_⟩
  obtain ⟨b, o, e, hb, hr⟩ := h.2 (by rw [← h.1]; exact hn)
  exact ⟨b, o, e, hb, fun i l hl => by obtain ⟨A', c', r1, r2, r3, r4⟩ := hr i l hl; exact ⟨A', c', r1, r4, r2, r3⟩⟩
theorem tmod_u8 (p : UInt8) (m : Nat) : Int.tmod (U p) (m : Int) = ((p.toNat % m : Nat) : Int) := by
  unfold U
  rw [Int.ofNat_tmod]
theorem take_erase_at2 {left : List Nat} {a s : Nat} (h : s = a) (ha : s < left.length) : (left.take (s + 1)).eraseIdx a = (left.take s).eraseIdx a := by
  subst h
  exact take_erase_at ha
def Sep (x y : Value) : Prop := ∀ q, x.ownBlock = some q → y.ownBlock ≠ some q
end Go.Proofs.Ytdgkcgiknfjpjaa
/- mat's laws: any rows of a code. -/
namespace Go.Proofs.Ytdgkcgiknfjpjaa
set_option linter.unusedVariables false
set_option linter.unusedSimpArgs false
open Go Go.RowKit
theorem pick_tab {nn m : Nat} {C : Mx} (rs : List Nat) (h : ∀ r, r ∈ rs → r < nn) : rs.map (fun r => (tabM nn m C).getD r []) = tabM rs.length m (fun i => C (rs.getD i 0)) := by
  refine List.ext_getElem? fun i => ?_
  by_cases hi : i < rs.length
  · rw [List.getElem?_map, tabM_get hi, List.getElem?_eq_getElem hi, Option.map_some]
    rw [List.getD_eq_getElem?_getD, tabM_get (h _ (List.getElem_mem hi)), List.getD_eq_getElem?_getD, List.getElem?_eq_getElem hi]
    rfl
  · rw [List.getElem?_eq_none (by simp; omega), List.getElem?_eq_none (by rw [tabM_length]; omega)]
theorem noKer_ent {n : Nat} {M : Mx} (h : NoKer n M) : NoKer n (ent (tabM n n M)) := fun v hv => h v (fun i hi => by
  rw [← hv i hi]
  exact mv_congr (fun k hk => (ent_tabM hi hk M).symm) (fun _ _ => rfl))
theorem prod_id {L : List (List UInt8)} (ht : isTab L = true) : fits (tabM L.length L.length idM) L = true ∧ prod (tabM L.length L.length idM) L = L := by
  obtain ⟨a1, a2, a3, a4, a5⟩ := isTab_iff.mp ht
  obtain ⟨i1, i2⟩ := isTab_tabM a1 a2 a1 a2 idM
  have f : fits (tabM L.length L.length idM) L = true := fits_iff.mpr ⟨i1, ht, i2⟩
  refine ⟨f, ?_⟩
  rw [show prod (tabM L.length L.length idM) L = tabM (tabM L.length L.length idM).length (width L) (mm L.length (ent (tabM L.length L.length idM)) (ent L)) from if_pos f, tabM_length]
  rw [tabM_congr (B := ent L) (fun i j hi hj => by
    rw [mm_congr (A' := idM) (B' := ent L) (fun k hk => ent_tabM hi hk idM) (fun _ _ => rfl), mm_id_l hi])]
  exact tab_of a5
/-- a square table turned back, before a column -/
theorem back_col {T C : List (List UInt8)} (hs : square T = true) {X : Mx} (h1 : EqM T.length T.length (mm T.length X (ent T)) idM) (hc : isTab C = true) (hl : C.length = T.length) :
    fits T C = true ∧ fits (tabM T.length T.length X) (prod T C) = true ∧ prod (tabM T.length T.length X) (prod T C) = C := by
  obtain ⟨q1, q2, q3, q4, q5⟩ := sq_of hs
  obtain ⟨-, -, f2, p2⟩ := prod_sq hs X
  have f1 : fits T C = true := fits_iff.mpr ⟨q1, hc, by rw [← q2, hl]⟩
  obtain ⟨-, e2, e3⟩ := prod_assoc f2 f1
  refine ⟨f1, e2, ?_⟩
  rw [← e3, p2, tabM_congr h1, ← hl]
  exact (prod_id hc).2
theorem ob_lit1 (w : World) (base : Nat) (hb : base ≤ w.heap.size) (x : UInt8) : OB (w.alloc (.cells #[.int .u8 (U x)] 5)) base (.slice (some ⟨w.heap.size, 0, none⟩) 1 1) [x] :=
  ⟨by simp, .inr ⟨w.heap.size, 1, #[.int .u8 (U x)], rfl, hb, heap_alloc_new w _, Nat.le_refl _, by simp [maxLen], rfl, by simp [vb]⟩⟩
theorem tabM1_snoc (t : Nat) (f : Nat → UInt8) : tabM t 1 (fun i _ => f i) ++ [[f t]] = tabM (t + 1) 1 (fun i _ => f i) := by
  rw [← tabM_snoc]
  rfl
end Go.Proofs.Ytdgkcgiknfjpjaa
