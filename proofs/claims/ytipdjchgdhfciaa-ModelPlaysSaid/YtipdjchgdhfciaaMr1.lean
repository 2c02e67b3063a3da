/- model: the reference's list, rising by keys. -/
import Derived.Test.YtipdjchgdhfciaaMd11
namespace Go.Proofs.Ytipdjchgdhfciaa
set_option linter.unusedVariables false
set_option linter.unusedSimpArgs false
open Go Go.RowKit Go.Maps Go.Sort
abbrev Pr := List UInt8 × List UInt8
def Rise (R : List Pr) : Prop := R.Pairwise (fun x y => x.1 < y.1)
def posR (R : List Pr) (k : List UInt8) : Nat := (R.takeWhile (fun p => decide (p.1 < k))).length
theorem bl_irrefl (x : List UInt8) : ¬ x < x := List.lt_irrefl x
theorem bl_trans {x y z : List UInt8} (h1 : x < y) (h2 : y < z) : x < z := List.lt_trans h1 h2
theorem bl_le {x y : List UInt8} (h : ¬ x < y) : y ≤ x := List.not_lt.mp h
theorem bl_ne {x y : List UInt8} (h : ¬ x < y) (hn : x ≠ y) : y < x := Classical.byContradiction fun hc => hn (List.le_antisymm (bl_le hc) (bl_le h))
theorem rise_eq {R S : List Pr} (h : R.Perm S) (hr : Rise R) (hs : Rise S) : R = S :=
  List.Perm.eq_of_pairwise (le := fun (x y : Pr) => x.1 < y.1) (fun (a b : Pr) _ _ (h1 : a.1 < b.1) (h2 : b.1 < a.1) => absurd (bl_trans h1 h2) (bl_irrefl _)) hr hs h
theorem rise_pairs {L : List En} (h : Dist L) : Rise (pairsL L) := by
  have hs : (keysL L).Pairwise (fun a b => a < b) := by
    rw [List.pairwise_iff_getElem]
    intro i j hi hj hij
    obtain ⟨d, rfl⟩ : ∃ d, j = i + 1 + d := ⟨j - (i + 1), by omega⟩
    clear hij
    induction d with
    | zero => exact keysL_lt h (List.getElem?_eq_getElem hi) (List.getElem?_eq_getElem hj)
    | succ d ih => exact bl_trans (ih (by omega)) (keysL_lt h (List.getElem?_eq_getElem (by omega)) (List.getElem?_eq_getElem hj))
  unfold Rise pairsL
  exact List.pairwise_map.mpr hs
theorem pairs_perm {L : List En} (h : Dist L) : (pairsL L).Perm (pairsOf L) := by
  have e : pairsOf L = (L.map Prod.fst).map (fun k => (k, dataOf L k)) := by
    unfold pairsOf
    rw [List.map_map]
    refine List.map_congr_left fun x hx => ?_
    show (x.1, x.2.2) = (x.1, dataOf L x.1)
    rw [dataOf_at h hx]
  rw [e]
  exact (List.mergeSort_perm _ _).map _
theorem pairs_mem {L : List En} {p : Pr} : p ∈ pairsL L → hasK L p.1 = true ∧ p.2 = dataOf L p.1 := fun hp => by
  obtain ⟨k, hk, rfl⟩ := List.mem_map.mp hp
  exact ⟨(hasK_iff L k).mpr (keysL_mem.mp hk), rfl⟩
theorem take_pos (R : List Pr) (k : List UInt8) : R.take (posR R k) = R.takeWhile (fun p => decide (p.1 < k)) := by
  unfold posR
  conv => lhs; arg 2; rw [← List.takeWhile_append_dropWhile (p := fun p : Pr => decide (p.1 < k)) (l := R)]
  rw [List.take_left]
theorem pos_le (R : List Pr) (k : List UInt8) : posR R k ≤ R.length := by
  unfold posR
  exact (List.takeWhile_sublist _).length_le
theorem pos_before {R : List Pr} {k : List UInt8} : ∀ p ∈ R.take (posR R k), p.1 < k := fun p hp => by
  rw [take_pos] at hp
  have := List.all_eq_true.mp (List.all_takeWhile (p := fun p : Pr => decide (p.1 < k)) (l := R)) p hp
  simpa using this
theorem pos_not (R : List Pr) (k : List UInt8) : ∀ p, R[posR R k]? = some p → ¬ p.1 < k := by
  unfold posR
  induction R with
  | nil => intro p hp; simp at hp
  | cons x R ih =>
    intro p hp
    by_cases h : x.1 < k
    · rw [List.takeWhile_cons_of_pos (by simpa using h), List.length_cons, List.getElem?_cons_succ] at hp
      exact ih p hp
    · rw [List.takeWhile_cons_of_neg (by simpa using h)] at hp
      simp at hp; subst hp; exact h
theorem pos_behind {R : List Pr} (hr : Rise R) {k : List UInt8} : ∀ p ∈ R.drop (posR R k), ¬ p.1 < k := fun p hp => by
  obtain ⟨j, hj⟩ := List.getElem?_of_mem hp
  rw [List.getElem?_drop] at hj
  rcases Nat.eq_zero_or_pos j with h0 | h0
  · subst h0; exact pos_not R k p hj
  · obtain ⟨hl, e⟩ := List.getElem?_eq_some_iff.mp hj
    obtain ⟨q, hq⟩ : ∃ q, R[posR R k]? = some q := ⟨_, List.getElem?_eq_getElem (by omega)⟩
    obtain ⟨hl2, e2⟩ := List.getElem?_eq_some_iff.mp hq
    have h1 := List.pairwise_iff_getElem.mp hr _ _ hl2 hl (by omega)
    rw [e, e2] at h1
    exact fun h => pos_not R k q hq (bl_trans h1 h)
/-- a key is there just if it stands where it would be -/
theorem is_at {R : List Pr} (hr : Rise R) (k : List UInt8) : R.any (fun p => p.1 == k) = (match R[posR R k]? with | some p => p.1 == k | none => false) := by
  rw [Bool.eq_iff_iff, List.any_eq_true]
  constructor
  · rintro ⟨p, hp, e⟩
    have e := eq_of_beq e
    rw [← List.take_append_drop (posR R k) R] at hp
    rcases List.mem_append.mp hp with hp | hp
    · exact absurd (e ▸ pos_before p hp) (bl_irrefl _)
    · obtain ⟨j, hj⟩ := List.getElem?_of_mem hp
      rw [List.getElem?_drop] at hj
      rcases Nat.eq_zero_or_pos j with h0 | h0
      · subst h0; rw [Nat.add_zero] at hj; rw [hj]; simp [e]
      · obtain ⟨hl, e1⟩ := List.getElem?_eq_some_iff.mp hj
        obtain ⟨q, hq⟩ : ∃ q, R[posR R k]? = some q := ⟨_, List.getElem?_eq_getElem (by omega)⟩
        obtain ⟨hl2, e2⟩ := List.getElem?_eq_some_iff.mp hq
        have h1 := List.pairwise_iff_getElem.mp hr _ _ hl2 hl (by omega)
        rw [e1, e2, e] at h1
        exact absurd h1 (pos_not R k q hq)
  · intro h
    cases hq : R[posR R k]? with
    | none => rw [hq] at h; cases h
    | some p => rw [hq] at h; exact ⟨p, List.mem_of_getElem? hq, h⟩
theorem any_pairs (L : List En) (k : List UInt8) : (pairsL L).any (fun p => p.1 == k) = hasK L k := by
  rw [Bool.eq_iff_iff, List.any_eq_true]
  constructor
  · rintro ⟨p, hp, e⟩; rw [← eq_of_beq e]; exact (pairs_mem hp).1
  · intro h
    have := keysL_mem.mpr ((hasK_iff L k).mp h)
    exact ⟨(k, dataOf L k), List.mem_map.mpr ⟨k, this, rfl⟩, by simp⟩
theorem pairs_put {L : List En} (h : Dist L) {k : List UInt8} (hk : hasK L k = false) (v : Value) (d : List UInt8) (hd : Dist (L ++ [(k, v, d)])) :
    pairsL (L ++ [(k, v, d)]) = (pairsL L).take (posR (pairsL L) k) ++ [(k, d)] ++ (pairsL L).drop (posR (pairsL L) k) := by
  have hr := rise_pairs h
  have hno : ∀ p ∈ pairsL L, p.1 ≠ k := fun p hp e => by
    have := (pairs_mem hp).1; rw [e, hk] at this; cases this
  refine rise_eq ?_ (rise_pairs hd) ?_
  · refine (pairs_perm hd).trans ?_
    have e : pairsOf (L ++ [(k, v, d)]) = pairsOf L ++ [(k, d)] := by unfold pairsOf; rw [List.map_append]; rfl
    rw [e]
    refine ((pairs_perm h).symm.append_right _).trans ?_
    conv => lhs; arg 1; rw [← List.take_append_drop (posR (pairsL L) k) (pairsL L)]
    rw [List.append_assoc, List.append_assoc]
    exact List.Perm.append_left _ List.perm_append_comm
  · unfold Rise
    rw [List.append_assoc, List.pairwise_append]
    refine ⟨List.Pairwise.sublist (List.take_sublist _ _) hr, ?_, fun x hx y hy => ?_⟩
    · rw [List.singleton_append, List.pairwise_cons]
      exact ⟨fun y hy => bl_ne (pos_behind hr y hy) (hno y (List.mem_of_mem_drop hy)), List.Pairwise.sublist (List.drop_sublist _ _) hr⟩
    · have h1 := pos_before x hx
      rcases List.mem_append.mp hy with h2 | h2
      · simp at h2; subst h2; exact h1
      · exact bl_trans h1 (bl_ne (pos_behind hr y h2) (hno y (List.mem_of_mem_drop h2)))
theorem pairs_del {L : List En} (h : Dist L) {k : List UInt8} (hk : hasK L k = true) (hd : Dist (delK L k)) :
    pairsL (delK L k) = (pairsL L).take (posR (pairsL L) k) ++ (pairsL L).drop (posR (pairsL L) k + 1) := by
  have hr := rise_pairs h
  have ha := any_pairs L k
  rw [hk, is_at hr] at ha
  obtain ⟨p, hp⟩ : ∃ p, (pairsL L)[posR (pairsL L) k]? = some p := by
    cases hq : (pairsL L)[posR (pairsL L) k]? with
    | none => rw [hq] at ha; cases ha
    | some p => exact ⟨p, rfl⟩
  rw [hp] at ha
  have hpk : p.1 = k := eq_of_beq ha
  obtain ⟨hl, e⟩ := List.getElem?_eq_some_iff.mp hp
  have hs : pairsL L = (pairsL L).take (posR (pairsL L) k) ++ p :: (pairsL L).drop (posR (pairsL L) k + 1) := by
    rw [← e, ← List.drop_eq_getElem_cons hl, List.take_append_drop]
  have hf : (pairsL L).filter (fun q => q.1 != k) = (pairsL L).take (posR (pairsL L) k) ++ (pairsL L).drop (posR (pairsL L) k + 1) := by
    have hr2 := hr
    unfold Rise at hr2
    rw [hs, List.pairwise_append] at hr2
    obtain ⟨-, h2, -⟩ := hr2
    obtain ⟨h3, -⟩ := List.pairwise_cons.mp h2
    conv => lhs; rw [hs]
    rw [List.filter_append, List.filter_cons_of_neg (by simp [hpk]), List.filter_eq_self.mpr (fun q hq => by
      simp only [bne_iff_ne, ne_eq]; intro e2; exact bl_irrefl _ (e2 ▸ pos_before q hq)), List.filter_eq_self.mpr (fun q hq => by
      simp only [bne_iff_ne, ne_eq]; intro e2; have := h3 q hq; rw [hpk, e2] at this; exact bl_irrefl _ this)]
  rw [← hf]
  refine rise_eq ?_ (rise_pairs hd) (List.Pairwise.filter _ hr)
  refine (pairs_perm hd).trans ?_
  have e2 : pairsOf (delK L k) = (pairsOf L).filter (fun q => q.1 != k) := by
    unfold pairsOf delK
    rw [List.filter_map]; rfl
  rw [e2]
  exact (pairs_perm h).symm.filter _
end Go.Proofs.Ytipdjchgdhfciaa
