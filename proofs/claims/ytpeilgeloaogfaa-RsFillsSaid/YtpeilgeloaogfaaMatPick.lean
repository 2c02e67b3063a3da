/- Any k rows of a code have no kernel. -/
import Derived.Test.YtpeilgeloaogfaaMatCode
namespace Go.Proofs.Ytpeilgeloaogfaa
set_option linter.unusedVariables false
theorem filter_ne_len (a : Nat) : ∀ l : List Nat, l.Nodup → a ∈ l → (l.filter (fun x => x != a)).length + 1 = l.length
  | [], _, h => by cases h
  | b :: l, hn, hm => by
    have hn' := List.nodup_cons.mp hn
    by_cases e : b = a
    · subst e
      have h1 : l.filter (fun x => x != b) = l := List.filter_eq_self.mpr (fun x hx => by
        have : x ≠ b := fun e => hn'.1 (e ▸ hx)
        simpa using this)
      rw [List.filter_cons, if_neg (by simp), h1]; rfl
    · have hm' : a ∈ l := by
        rcases List.mem_cons.mp hm with h | h
        · exact absurd h.symm e
        · exact h
      have := filter_ne_len a l hn'.2 hm'
      rw [List.filter_cons, if_pos (by simpa using e), List.length_cons, List.length_cons]
      omega
theorem diff_len : ∀ (lo l : List Nat), lo.Nodup → l.Nodup → (∀ x, x ∈ lo → x ∈ l) → (l.filter (fun x => !(lo.contains x))).length + lo.length = l.length
  | [], l, _, _, _ => by
    have h1 : l.filter (fun x => !(([] : List Nat).contains x)) = l := List.filter_eq_self.mpr (fun x hx => by simp)
    rw [h1]; rfl
  | a :: lo, l, hlo, hl, hs => by
    have hlo' := List.nodup_cons.mp hlo
    have h1 := filter_ne_len a l hl (hs a (by simp))
    have h2 := diff_len lo (l.filter (fun x => x != a)) hlo'.2 (hl.sublist List.filter_sublist) (fun x hx => List.mem_filter.mpr ⟨hs x (by simp [hx]), by
      have : x ≠ a := fun e => hlo'.1 (e ▸ hx)
      simpa using this⟩)
    rw [List.filter_filter] at h2
    have h3 : l.filter (fun x => !((a :: lo).contains x)) = l.filter (fun x => !(lo.contains x) && (x != a)) := by
      refine List.filter_congr (fun x _ => ?_)
      rw [List.contains_cons, Bool.not_or, Bool.and_comm]
      rfl
    rw [h3, List.length_cons]
    omega
theorem split_len (k : Nat) : ∀ rs : List Nat, (rs.filter (fun r => decide (r < k))).length + (rs.filter (fun r => decide (k ≤ r))).length = rs.length
  | [] => rfl
  | a :: rs => by
    have := split_len k rs
    by_cases h : a < k
    · rw [List.filter_cons, List.filter_cons, if_pos (by simpa using h), if_neg (by simp; omega), List.length_cons, List.length_cons]; omega
    · rw [List.filter_cons, List.filter_cons, if_neg (by simpa using h), if_pos (by simp; omega), List.length_cons, List.length_cons]; omega
theorem lsum_append (a b : List Nat) (f : Nat → UInt8) : lsum (a ++ b) f = lsum a f ^^^ lsum b f := by
  induction a with
  | nil => exact (zx _).symm
  | cons x a ih => rw [List.cons_append, lsum_cons, lsum_cons, ih, xa]
theorem gsum_lsum (n : Nat) (f : Nat → UInt8) : gsum n f = lsum (List.range n) f := by
  induction n with
  | zero => rfl
  | succ n ih =>
    rw [List.range_succ, lsum_append, ← ih]
    show gsum n f ^^^ f n = gsum n f ^^^ (f n ^^^ 0)
    rw [x0]
theorem lsum_filter (p : Nat → Bool) (f : Nat → UInt8) : ∀ l : List Nat, (∀ y, y ∈ l → p y = false → f y = 0) → lsum l f = lsum (l.filter p) f
  | [], _ => rfl
  | a :: l, h => by
    have ih := lsum_filter p f l (fun y hy => h y (by simp [hy]))
    by_cases hp : p a = true
    · rw [List.filter_cons, if_pos hp, lsum_cons, lsum_cons, ih]
    · rw [List.filter_cons, if_neg hp, lsum_cons, h a (by simp) (by simpa using hp), zx, ih]
/-- any k rows of a code have no kernel -/
theorem pick_noKer (k n : Nat) (hn : n ≤ 256) (hkn : k ≤ n) (rs : List Nat) (hnd : rs.Nodup) (hlen : rs.length = k) (hlt : ∀ r, r ∈ rs → r < n) : NoKer k (fun i j => codeE k (rs.getD i 0) j) := by
  intro v hv
  have hrow : ∀ r, r ∈ rs → gsum k (fun j => gmul (codeE k r j) (v j)) = 0 := by
    intro r hr
    obtain ⟨i, hi, e⟩ := List.getElem_of_mem hr
    have h : gsum k (fun j => gmul (codeE k (rs.getD i 0) j) (v j)) = 0 := hv i (by omega)
    have e2 : rs.getD i 0 = r := by rw [List.getD_eq_getElem?_getD, List.getElem?_eq_getElem hi, e]; rfl
    rw [e2] at h
    exact h
  have hlo : ∀ r, r ∈ rs → r < k → v r = 0 := by
    intro r hr hrk
    have h := hrow r hr
    rw [gsum_one hrk _ (fun j hj hne => by unfold codeE; rw [if_neg (by omega), if_neg (by omega), gmul_zero_l])] at h
    unfold codeE at h
    rw [if_neg (by omega), if_pos rfl, gmul_one_l] at h
    exact h
  have h1 := split_len k rs
  have h2 := diff_len (rs.filter (fun r => decide (r < k))) (List.range k) (hnd.sublist List.filter_sublist) List.nodup_range (fun x hx => by
    have := (List.mem_filter.mp hx).2
    exact List.mem_range.mpr (by simpa using this))
  rw [List.length_range] at h2
  intro i hi
  by_cases hil : (rs.filter (fun r => decide (r < k))).contains i = true
  · have h3 := List.mem_filter.mp (by simpa using hil : i ∈ rs.filter (fun r => decide (r < k)))
    exact hlo i h3.1 hi
  · refine cauchy (fun x => UInt8.ofNat x) (rs.filter (fun r => decide (k ≤ r))) ((List.range k).filter (fun x => !((rs.filter (fun r => decide (r < k))).contains x))) (hnd.sublist List.filter_sublist) (List.nodup_range.sublist List.filter_sublist) (by omega) ?_ ?_ ?_ v ?_ i ?_
    · intro a b ha hb hne
      have := hlt a (List.mem_filter.mp ha).1
      have := hlt b (List.mem_filter.mp hb).1
      exact ofNat_ne (by omega) (by omega) hne
    · intro a b ha hb hne
      have := List.mem_range.mp (List.mem_filter.mp ha).1
      have := List.mem_range.mp (List.mem_filter.mp hb).1
      exact ofNat_ne (by omega) (by omega) hne
    · intro a b ha hb
      have h3 := hlt a (List.mem_filter.mp ha).1
      have h4 := (List.mem_filter.mp ha).2
      have h5 := List.mem_range.mp (List.mem_filter.mp hb).1
      have h6 : k ≤ a := by simpa using h4
      exact ofNat_ne (by omega) (by omega) (by omega)
    · intro x hx
      have hx1 := (List.mem_filter.mp hx).1
      have hx2 : k ≤ x := by simpa using (List.mem_filter.mp hx).2
      have hx3 := hlt x hx1
      have h := hrow x hx1
      rw [gsum_lsum, lsum_filter (fun x => !((rs.filter (fun r => decide (r < k))).contains x)) _ _ (fun y hy hp => by
        have hp' : (rs.filter (fun r => decide (r < k))).contains y = true := by
          cases hh : (rs.filter (fun r => decide (r < k))).contains y with
          | true => rfl
          | false => rw [hh] at hp; cases hp
        have h3 := List.mem_filter.mp (by simpa using hp' : y ∈ rs.filter (fun r => decide (r < k)))
        rw [hlo y h3.1 (List.mem_range.mp hy), gmul_zero_r])] at h
      rw [← h]
      refine lsum_congr (fun y hy => ?_)
      have hy2 := List.mem_range.mp (List.mem_filter.mp hy).1
      unfold codeE
      rw [if_pos hx2, fx_eq (by omega) (by omega), gmul_comm]
    · refine List.mem_filter.mpr ⟨List.mem_range.mpr hi, ?_⟩
      cases hh : (rs.filter (fun r => decide (r < k))).contains i with
      | true => exact absurd hh hil
      | false => rfl
end Go.Proofs.Ytpeilgeloaogfaa
