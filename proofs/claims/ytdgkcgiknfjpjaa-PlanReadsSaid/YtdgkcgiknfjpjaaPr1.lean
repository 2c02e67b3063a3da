/- plan: which slots are read, in the order in which they are asked: plain. -/
import Derived.Test.YtdgkcgiknfjpjaaEn2
import Derived.Test.YtdgkcgiknfjpjaaRs6
namespace Go.Proofs.Ytdgkcgiknfjpjaa
set_option linter.unusedVariables false
set_option linter.unusedSimpArgs false
open Go Go.RowKit
theorem cntQ_next (P : Nat → Bool) (k : Nat) : cntQ P (k + 1) = cntQ P k + (if P k = true then 1 else 0) := by
  unfold cntQ
  rw [List.range_succ, List.filter_append, List.length_append]
  by_cases h : P k = true
  · rw [if_pos h, List.filter_cons_of_pos h]; rfl
  · rw [if_neg h, List.filter_cons_of_neg h]; rfl
theorem cntQ_le (P : Nat → Bool) (k : Nat) : cntQ P k ≤ k := by
  unfold cntQ
  have := List.length_filter_le P (List.range k)
  rw [List.length_range] at this
  exact this
theorem cntQ_congr {P P' : Nat → Bool} {k : Nat} (h : ∀ j, j < k → P j = P' j) : cntQ P k = cntQ P' k := by
  induction k with
  | zero => rfl
  | succ k ih => rw [cntQ_next, cntQ_next, ih (fun j hj => h j (by omega)), h k (by omega)]
theorem cntQ_mono {P P' : Nat → Bool} {k : Nat} (h : ∀ j, j < k → P j = true → P' j = true) : cntQ P k ≤ cntQ P' k := by
  induction k with
  | zero => exact Nat.le_refl _
  | succ k ih =>
    rw [cntQ_next, cntQ_next]
    have := ih (fun j hj => h j (by omega))
    by_cases e : P k = true
    · rw [if_pos e, if_pos (h k (by omega) e)]; omega
    · rw [if_neg e]; omega
theorem cntQ_all {P : Nat → Bool} {k : Nat} (h : ∀ j, j < k → P j = true) : cntQ P k = k := by
  induction k with
  | zero => rfl
  | succ k ih => rw [cntQ_next, ih (fun j hj => h j (by omega)), if_pos (h k (by omega))]
theorem cntQ_lt {P : Nat → Bool} {k j : Nat} (hj : j < k) (h : P j = false) : cntQ P k < k := by
  induction k with
  | zero => omega
  | succ k ih =>
    rw [cntQ_next]
    by_cases e : j = k
    · subst e
      rw [h, if_neg (by decide)]
      have := cntQ_le P j
      omega
    · have := ih (by omega)
      split <;> omega
theorem cntQ_one {P P' : Nat → Bool} {k j : Nat} (hj : j < k) (h0 : P j = false) (h1 : P' j = true) (h : ∀ i, i < k → i ≠ j → P' i = P i) : cntQ P' k = cntQ P k + 1 := by
  induction k with
  | zero => omega
  | succ k ih =>
    rw [cntQ_next, cntQ_next]
    by_cases e : j = k
    · subst e
      rw [h0, h1, if_pos rfl, if_neg (by decide), cntQ_congr (P := P') (P' := P) (fun i hi => h i (by omega) (by omega))]
    · rw [ih (by omega) (fun i hi hn => h i (by omega) hn), h k (by omega) (by omega)]
      omega
theorem cntQ_sum {A L : Nat → Bool} (k : Nat) : cntQ (fun j => !(A j && !L j)) k + cntQ A k = k + cntQ (fun j => A j && L j) k := by
  induction k with
  | zero => rfl
  | succ k ih =>
    rw [cntQ_next, cntQ_next, cntQ_next]
    cases A k <;> cases L k
    · show cntQ _ k + 1 + (cntQ A k + 0) = k + 1 + (cntQ _ k + 0); omega
    · show cntQ _ k + 1 + (cntQ A k + 0) = k + 1 + (cntQ _ k + 0); omega
    · show cntQ _ k + 0 + (cntQ A k + 1) = k + 1 + (cntQ _ k + 0); omega
    · show cntQ _ k + 1 + (cntQ A k + 1) = k + 1 + (cntQ _ k + 1); omega
/-- the list of what is asked, and its flags -/
structure As (m : Nat) (fl : List Bool) (X : List Nat) : Prop where
  len : fl.length = m
  nodup : X.Nodup
  lt : ∀ s ∈ X, s < m
  flag : ∀ s, s < m → fl.getD s false = decide (s ∈ X)
theorem As.nil_ (m : Nat) : As m (List.replicate m false) [] := ⟨by simp, List.nodup_nil, fun s h => (by cases h), fun s h => (by rw [List.getD_eq_getElem?_getD, List.getElem?_replicate, if_pos h]; rfl)⟩
theorem As.snoc {m : Nat} {fl : List Bool} {X : List Nat} (h : As m fl X) {s : Nat} (hs : s < m) (hn : s ∉ X) : As m (fl.set s true) (X ++ [s]) := by
  refine ⟨by rw [List.length_set, h.len], ?_, fun x hx => ?_, fun x hx => ?_⟩
  · rw [List.nodup_append]
    refine ⟨h.nodup, by simp, fun a ha b hb => ?_⟩
    simp at hb
    subst hb
    exact fun e => hn (e ▸ ha)
  · rcases List.mem_append.mp hx with hx | hx
    · exact h.lt x hx
    · simp at hx; omega
  · rw [List.getD_eq_getElem?_getD]
    by_cases e : s = x
    · subst e
      rw [List.getElem?_set_self (by rw [h.len]; exact hs)]
      simp
    · rw [List.getElem?_set_ne e, ← List.getD_eq_getElem?_getD, h.flag x hx]
      have : (x ∈ X ++ [s]) ↔ x ∈ X := by
        rw [List.mem_append]
        simp
        omega
      rw [decide_eq_decide]
      exact this.symm
theorem As.le {m : Nat} {fl : List Bool} {X : List Nat} (h : As m fl X) : X.length ≤ m := by
  have := List.Nodup.length_le_of_subset h.nodup (l₂ := List.range m) (fun s hs => List.mem_range.mpr (h.lt s hs))
  rw [List.length_range] at this
  exact this
/-- is slot s one that can not be read? -/
def lackS (lk : List Nat) (s : Nat) : Bool := match lk[s / 10]? with
  | some x => lackP x (s % 10)
  | none => false
/-- the state of the reading: X asked, i of them seen -/
structure Rdq (lk : List Nat) (q : Nat) (fl : List Bool) (X : List Nat) (i : Nat) : Prop where
  asd : As (10 * q) fl X
  cnt : ∀ g, g < q → cntQ (fun j => decide (10 * g + j ∈ X)) 10 = 10 ∨ cntQ (fun j => decide (10 * g + j ∈ X)) 10 = 8 + cntQ (fun j => decide (10 * g + j ∈ X.take i) && lackS lk (10 * g + j)) 10
theorem take_next {X : List Nat} {i s : Nat} (hi : X[i]? = some s) : X.take (i + 1) = X.take i ++ [s] := by rw [List.take_add_one, hi]; rfl
theorem nodup_take {X : List Nat} (h : X.Nodup) {i s : Nat} (hi : X[i]? = some s) : s ∉ X.take i := fun hm => by
  obtain ⟨j, hj⟩ := List.getElem?_of_mem hm
  have hjl := (List.getElem?_eq_some_iff.mp hj).1
  rw [List.length_take] at hjl
  rw [List.getElem?_take, if_pos (by omega)] at hj
  have hil := (List.getElem?_eq_some_iff.mp hi).1
  have := (List.getElem?_inj (by omega) h).mp (hj.trans hi.symm)
  omega
/-- a slot that can be read -/
theorem Rdq.good {lk : List Nat} {q : Nat} {fl : List Bool} {X : List Nat} {i s : Nat} (h : Rdq lk q fl X i) (hi : X[i]? = some s) (hl : lackS lk s = false) : Rdq lk q fl X (i + 1) := by
  refine ⟨h.asd, fun g hg => ?_⟩
  rcases h.cnt g hg with h1 | h1
  · exact .inl h1
  · refine .inr (h1.trans ?_)
    congr 1
    refine cntQ_congr fun j hj => ?_
    rw [take_next hi]
    by_cases e : 10 * g + j = s
    · rw [e, hl, Bool.and_false, Bool.and_false]
    · congr 1
      rw [decide_eq_decide, List.mem_append]
      simp [e]
theorem Rdq.lacks {lk : List Nat} {q : Nat} {fl : List Bool} {X : List Nat} {i s : Nat} (h : Rdq lk q fl X i) (hi : X[i]? = some s) (hl : lackS lk s = true) : s < 10 * q ∧ cntQ (fun j => decide (10 * (s / 10) + j ∈ X.take (i + 1)) && lackS lk (10 * (s / 10) + j)) 10 = cntQ (fun j => decide (10 * (s / 10) + j ∈ X.take i) && lackS lk (10 * (s / 10) + j)) 10 + 1 ∧
    ∀ g, g ≠ s / 10 → cntQ (fun j => decide (10 * g + j ∈ X.take (i + 1)) && lackS lk (10 * g + j)) 10 = cntQ (fun j => decide (10 * g + j ∈ X.take i) && lackS lk (10 * g + j)) 10 := by
  have hsm := h.asd.lt s (List.mem_of_getElem? hi)
  have hnt := nodup_take h.asd.nodup hi
  have hs10 : 10 * (s / 10) + s % 10 = s := by omega
  refine ⟨hsm, cntQ_one (j := s % 10) (by omega) ?_ ?_ fun j hj hne => ?_, fun g hg => cntQ_congr fun j hj => ?_⟩
  · rw [hs10, decide_eq_false hnt]; rfl
  · rw [hs10, take_next hi, hl, decide_eq_true (List.mem_append_right _ (List.mem_singleton.mpr rfl))]; rfl
  · congr 1
    rw [decide_eq_decide, take_next hi, List.mem_append]
    have : ¬ 10 * (s / 10) + j = s := by omega
    simp [this]
  · congr 1
    rw [decide_eq_decide, take_next hi, List.mem_append]
    have : ¬ 10 * g + j = s := by omega
    simp [this]
/-- one that can not, and none is left in its group -/
theorem Rdq.none_ {lk : List Nat} {q : Nat} {fl : List Bool} {X : List Nat} {i s : Nat} (h : Rdq lk q fl X i) (hi : X[i]? = some s) (hl : lackS lk s = true) (ha : ∀ k, k < 10 * q → k / 10 = s / 10 → fl.getD k false = true) : Rdq lk q fl X (i + 1) := by
  obtain ⟨hsm, h1, h2⟩ := h.lacks hi hl
  refine ⟨h.asd, fun g hg => ?_⟩
  by_cases e : g = s / 10
  · subst e
    refine .inl (cntQ_all fun j hj => ?_)
    have := ha (10 * (s / 10) + j) (by omega) (by omega)
    rw [h.asd.flag _ (by omega)] at this
    exact this
  · rw [h2 g e]
    exact h.cnt g hg
/-- one that can not, and another one of its group is asked -/
theorem Rdq.more {lk : List Nat} {q : Nat} {fl : List Bool} {X : List Nat} {i s r : Nat} (h : Rdq lk q fl X i) (hi : X[i]? = some s) (hl : lackS lk s = true) (hr : r < 10 * q) (hg10 : r / 10 = s / 10) (ha : fl.getD r false = false) : r ∉ X ∧ Rdq lk q (fl.set r true) (X ++ [r]) (i + 1) := by
  obtain ⟨hsm, h1, h2⟩ := h.lacks hi hl
  have hil := (List.getElem?_eq_some_iff.mp hi).1
  have hn : r ∉ X := fun hm => by
    rw [h.asd.flag r hr, decide_eq_true hm] at ha
    cases ha
  have htk : (X ++ [r]).take (i + 1) = X.take (i + 1) := List.take_append_of_le_length (by omega)
  refine ⟨hn, h.asd.snoc hr hn, fun g hg => ?_⟩
  rw [htk]
  by_cases e : g = s / 10
  · subst e
    rw [h1]
    have h3 : cntQ (fun j => decide (10 * (s / 10) + j ∈ X ++ [r])) 10 = cntQ (fun j => decide (10 * (s / 10) + j ∈ X)) 10 + 1 := by
      have hr10 : 10 * (s / 10) + r % 10 = r := by omega
      refine cntQ_one (j := r % 10) (by omega) ?_ ?_ fun j hj hne => ?_
      · rw [hr10, decide_eq_false hn]
      · rw [hr10, decide_eq_true (List.mem_append_right _ (List.mem_singleton.mpr rfl))]
      · rw [decide_eq_decide, List.mem_append]
        have : ¬ 10 * (s / 10) + j = r := by omega
        simp [this]
    have h4 : cntQ (fun j => decide (10 * (s / 10) + j ∈ X)) 10 < 10 := cntQ_lt (j := r % 10) (by omega) (by
      rw [show 10 * (s / 10) + r % 10 = r by omega, decide_eq_false hn])
    rcases h.cnt _ hg with h5 | h5
    · omega
    · exact .inr (by omega)
  · rw [h2 g e]
    have h3 : cntQ (fun j => decide (10 * g + j ∈ X ++ [r])) 10 = cntQ (fun j => decide (10 * g + j ∈ X)) 10 := cntQ_congr fun j hj => by
      rw [decide_eq_decide, List.mem_append]
      have : ¬ 10 * g + j = r := by omega
      simp [this]
    rw [h3]
    exact h.cnt g hg
/-- what lacks at the end: what was not asked, or can not be read -/
def missP (lk : List Nat) (X : List Nat) (t j : Nat) : Bool := !(decide (10 * t + j ∈ X) && !lackS lk (10 * t + j))
theorem Rdq.few {lk : List Nat} {q : Nat} {fl : List Bool} {X : List Nat} (h : Rdq lk q fl X X.length) {t : Nat} (ht : t < q) (hc : cntQ (fun j => lackS lk (10 * t + j)) 10 ≤ 2) : cntQ (missP lk X t) 10 ≤ 2 := by
  have hs := cntQ_sum (A := fun j => decide (10 * t + j ∈ X)) (L := fun j => lackS lk (10 * t + j)) 10
  have he : cntQ (fun j => !(decide (10 * t + j ∈ X) && !lackS lk (10 * t + j))) 10 = cntQ (missP lk X t) 10 := rfl
  rw [he] at hs
  have hb : cntQ (fun j => decide (10 * t + j ∈ X) && lackS lk (10 * t + j)) 10 ≤ cntQ (fun j => lackS lk (10 * t + j)) 10 := cntQ_mono fun j hj h => by
    rw [Bool.and_eq_true] at h
    exact h.2
  rcases h.cnt t ht with h1 | h1
  · omega
  · rw [List.take_length] at h1
    omega
theorem miss_many {lk : List Nat} {X : List Nat} {t : Nat} (hc : 3 ≤ cntQ (fun j => lackS lk (10 * t + j)) 10) : 3 ≤ cntQ (missP lk X t) 10 := by
  refine Nat.le_trans hc (cntQ_mono fun j hj h => ?_)
  unfold missP
  rw [h]
  simp
/-- the slots asked first -/
theorem first_nil {q : Nat} (h1 : 1 ≤ q) (h4 : q ≤ 4) : firstV [] q = (catF [] q, true) ∧ (catF [] q).Nodup ∧ (∀ s ∈ catF [] q, s < 10 * q) ∧ (∀ g, g < q → cntQ (fun j => decide (10 * g + j ∈ catF [] q)) 10 = 8) ∧ (catF [] q).length = 8 * q := by
  have h : q = 1 ∨ q = 2 ∨ q = 3 ∨ q = 4 := by omega
  rcases h with rfl | rfl | rfl | rfl <;> exact ⟨by decide +kernel, by decide +kernel, by decide +kernel, by decide +kernel, by decide +kernel⟩
theorem Rdq.start {lk : List Nat} {q : Nat} {fl : List Bool} (h1 : 1 ≤ q) (h4 : q ≤ 4) (h : As (10 * q) fl (catF [] q)) : Rdq lk q fl (catF [] q) 0 := by
  refine ⟨h, fun g hg => .inr ?_⟩
  rw [(first_nil h1 h4).2.2.2.1 g hg]
  have : cntQ (fun j => decide (10 * g + j ∈ (catF [] q).take 0) && lackS lk (10 * g + j)) 10 = cntQ (fun _ => false) 10 := cntQ_congr fun j hj => by simp
  rw [this, cntQ_none]
/-- the shards of a blob of which those that miss are gone -/
theorem blobS_miss {d : List UInt8} {q : Nat} {S G : List (List UInt8)} (hS : BlobS d q (fun _ _ => false) S) (P : Nat → Nat → Bool) (hG : G.length = 10 * q) (h : ∀ t j, t < q → j < 10 → G[10 * t + j]? = if P t j = true then some [] else S[10 * t + j]?) : BlobS d q P G := by
  refine ⟨hG, fun t ht => List.ext_getElem? fun i => ?_⟩
  by_cases hi : i < 10
  · rw [sgrp_get hi, tabN_get hi, h t i ht hi]
    have h2 := congrArg (fun l => l[i]?) (hS.2 t ht)
    simp only [sgrp_get hi, tabN_get hi] at h2
    rw [h2]
    cases P t i <;> rfl
  · rw [List.getElem?_eq_none (by rw [sgrp_length (by omega)]; omega), List.getElem?_eq_none (by rw [tabN_length]; omega)]
end Go.Proofs.Ytdgkcgiknfjpjaa
