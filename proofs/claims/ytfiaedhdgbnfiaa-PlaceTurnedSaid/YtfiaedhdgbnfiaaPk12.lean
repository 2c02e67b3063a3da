/- place: one more left out. -/
import Derived.Test.YtfiaedhdgbnfiaaPk9
namespace Go.Proofs.Ytfiaedhdgbnfiaa
set_option linter.unusedVariables false
set_option linter.unusedSimpArgs false
open Go Go.RowKit
theorem hasC_filter {acc : List Fr} {c d : Int} (h : d ≠ c) : hasC (acc.filter (fun y => y.1 != c)) d = hasC acc d := by
  rw [Bool.eq_iff_iff, hasC_iff, hasC_iff]
  constructor
  · rintro ⟨y, hy, e⟩; exact ⟨y, (List.mem_filter.mp hy).1, e⟩
  · rintro ⟨y, hy, e⟩; exact ⟨y, List.mem_filter.mpr ⟨hy, by rw [e]; simpa using h⟩, e⟩
theorem mayL_more (but : List Int) (c : Int) (l : List Fr) : mayL (but ++ [c]) l = (mayL but l).filter (fun y => y.1 != c) :=
  list_snoc_ind (p := fun l => mayL (but ++ [c]) l = (mayL but l).filter (fun y => y.1 != c)) rfl (fun l x ih => by
    rw [mayL_snoc, mayL_snoc, ih]
    obtain ⟨acc, hacc⟩ : ∃ acc, acc = mayL but l := ⟨_, rfl⟩
    rw [← hacc]
    unfold addM
    by_cases e : x.1 = c
    · have h1 : (but ++ [c]).contains x.1 = true := by rw [List.contains_iff_mem, e]; simp
      rw [h1]
      have h2 : ∀ b : Bool, (b && !true) = false := fun b => by cases b <;> rfl
      rw [h2, if_neg (by simp)]
      split
      · rw [List.filter_append]; simp [e]
      · rfl
    · have h1 : (but ++ [c]).contains x.1 = but.contains x.1 := by
        rw [Bool.eq_iff_iff, List.contains_iff_mem, List.contains_iff_mem]; simp [e]
      rw [h1, hasC_filter e]
      split
      · rw [List.filter_append]; simp [e]
      · rfl) l
theorem srt_filter (m : List Fr) (p : Fr → Bool) : srt (m.filter p) = (srt m).filter p :=
  sorted_eq ((srt_perm _).trans ((srt_perm m).symm.filter p)) (srt_sorted _) ((srt_sorted m).filter p)
theorem filter_take {s : List Fr} (hap : Apart s) {k : Nat} {z : Fr} (hz : s[k]? = some z) : (s.filter (fun y => y.1 != z.1)).take k = s.take k ∧ (s.filter (fun y => y.1 != z.1)).length + 1 = s.length := by
  obtain ⟨hk, e⟩ := List.getElem?_eq_some_iff.mp hz
  have hs : s = s.take k ++ z :: s.drop (k + 1) := by
    rw [← e, ← List.drop_eq_getElem_cons hk, List.take_append_drop]
  have h1 : ∀ y ∈ s.take k, (y.1 != z.1) = true := fun y hy => by
    obtain ⟨j, hj⟩ := List.getElem?_of_mem hy
    rw [List.getElem?_take] at hj
    split at hj
    · simp only [bne_iff_ne, ne_eq]
      intro e2
      have := apart_at hap hj hz e2
      omega
    · cases hj
  have h2 : ∀ y ∈ s.drop (k + 1), (y.1 != z.1) = true := fun y hy => by
    obtain ⟨j, hj⟩ := List.getElem?_of_mem hy
    rw [List.getElem?_drop] at hj
    simp only [bne_iff_ne, ne_eq]
    intro e2
    have := apart_at hap hj hz e2
    omega
  have hf : s.filter (fun y => y.1 != z.1) = s.take k ++ s.drop (k + 1) := by
    conv => lhs; rw [hs]
    rw [List.filter_append, List.filter_cons_of_neg (by simp), List.filter_eq_self.mpr h1, List.filter_eq_self.mpr h2]
  rw [hf]
  refine ⟨?_, ?_⟩
  · rw [List.take_append_of_le_length (by rw [List.length_take]; omega), List.take_take, Nat.min_self]
  · rw [List.length_append, List.length_take, List.length_drop]; omega
theorem pickOk_nat (l : List Fr) (k : Nat) (but : List Int) : pickOk l k but = decide (k ≤ (mayL but l).length) := by
  unfold pickOk
  rw [decide_eq_true (by omega), Bool.true_and]
  congr 1
  simp
theorem pickR_nat {l : List Fr} {k : Nat} {but : List Int} (h : k ≤ (mayL but l).length) : pickR l k but = ((srt (mayL but l)).take k).map Prod.fst := by
  unfold pickR
  rw [if_pos (by rw [pickOk_nat]; exact decide_eq_true h)]
  rfl
theorem pickR_no {l : List Fr} {k : Nat} {but : List Int} (h : ¬ k ≤ (mayL but l).length) : pickR l k but = [] := by
  unfold pickR
  rw [if_neg (by rw [pickOk_nat, decide_eq_false h]; simp)]
/-- one more is there: then those of the smaller number stand in front, and without it the smaller number's are as they were -/
theorem more_yes {l : List Fr} {k : Nat} {but : List Int} (h : k + 1 ≤ (mayL but l).length) :
    ∃ c, pickR l ((k + 1 : Nat) : Int) but = pickR l k but ++ [c] ∧ (pickR l k but).length = k ∧ pickOk l k but = true ∧ pickOk l ((k + 1 : Nat) : Int) but = true ∧
      pickOk l k (but ++ [c]) = true ∧ pickR l k (but ++ [c]) = pickR l k but := by
  obtain ⟨z, hz⟩ : ∃ z, (srt (mayL but l))[k]? = some z := ⟨_, List.getElem?_eq_getElem (by rw [srt_len]; omega)⟩
  have hap := srt_apart (mayL_apart but l)
  obtain ⟨f1, f2⟩ := filter_take hap hz
  have hlen : (mayL (but ++ [z.1]) l).length + 1 = (mayL but l).length := by
    rw [mayL_more, ← srt_len (mayL but l), ← f2, ← srt_filter, srt_len]
  refine ⟨z.1, ?_, ?_, ?_, ?_, ?_, ?_⟩
  · rw [pickR_nat h, pickR_nat (by omega), List.take_add_one, hz, List.map_append]; rfl
  · rw [pickR_nat (by omega), List.length_map, List.length_take, srt_len]; omega
  · rw [pickOk_nat]; exact decide_eq_true (by omega)
  · rw [pickOk_nat]; exact decide_eq_true h
  · rw [pickOk_nat]; exact decide_eq_true (by omega)
  · rw [pickR_nat (by omega), pickR_nat (by omega), mayL_more, srt_filter, f1]
end Go.Proofs.Ytfiaedhdgbnfiaa
