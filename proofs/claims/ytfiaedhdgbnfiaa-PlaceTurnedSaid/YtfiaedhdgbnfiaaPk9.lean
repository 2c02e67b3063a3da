/- place: the best one that is left. -/
import Derived.Test.YtfiaedhdgbnfiaaPk7
namespace Go.Proofs.Ytfiaedhdgbnfiaa
set_option linter.unusedVariables false
set_option linter.unusedSimpArgs false
open Go Go.RowKit
theorem srt_at_mem {may : List Fr} {k : Nat} {z : Fr} (h : (srt may)[k]? = some z) : z ∈ may := (srt_perm may).mem_iff.mp (List.mem_of_getElem? h)
theorem srt_apart {may : List Fr} (h : Apart may) : Apart (srt may) := apart_perm (srt_perm may).symm h
theorem outK_mem {may : List Fr} {k : Nat} {c : Int} : c ∈ ((srt may).take k).map Prod.fst ↔ ∃ j z, j < k ∧ (srt may)[j]? = some z ∧ z.1 = c := by
  rw [List.mem_map]
  constructor
  · rintro ⟨z, hz, e⟩
    obtain ⟨j, hj⟩ := List.getElem?_of_mem hz
    rw [List.getElem?_take] at hj
    split at hj
    · exact ⟨j, z, by assumption, hj, e⟩
    · cases hj
  · rintro ⟨j, z, hj, hz, e⟩
    refine ⟨z, ?_, e⟩
    apply List.mem_of_getElem? (i := j)
    rw [List.getElem?_take, if_pos hj, hz]
theorem apart_at {s : List Fr} (h : Apart s) {i j : Nat} {x y : Fr} (hx : s[i]? = some x) (hy : s[j]? = some y) (e : x.1 = y.1) : i = j := by
  obtain ⟨hi, ex⟩ := List.getElem?_eq_some_iff.mp hx
  obtain ⟨hj, ey⟩ := List.getElem?_eq_some_iff.mp hy
  unfold Apart at h
  rw [List.pairwise_iff_getElem] at h
  rcases Nat.lt_trichotomy i j with h1 | h1 | h1
  · have := h i j hi hj h1; rw [ex, ey] at this; exact absurd e this
  · exact h1
  · have := h j i hj hi h1; rw [ex, ey] at this; exact absurd e.symm this
theorem next_out {may : List Fr} (hap : Apart may) {k : Nat} (hk : k < may.length) : ∃ z, (srt may)[k]? = some z ∧ z ∈ may ∧ z.1 ∉ ((srt may).take k).map Prod.fst := by
  obtain ⟨z, hz⟩ : ∃ z, (srt may)[k]? = some z := ⟨_, List.getElem?_eq_getElem (by rw [srt_len]; exact hk)⟩
  refine ⟨z, hz, srt_at_mem hz, fun h => ?_⟩
  obtain ⟨j, y, hj, hy, e⟩ := outK_mem.mp h
  have := apart_at (srt_apart hap) hy hz e
  omega
theorem leF_anti {x y : Fr} (h1 : leF x y = true) (h2 : leF y x = true) : x = y := by
  rw [leF_iff] at *; exact Prod.ext (by omega) (by omega)
theorem best_is {may : List Fr} (hap : Apart may) {k : Nat} (hk : k < may.length) {x : Fr} (hx : x ∈ may) (hno : x.1 ∉ ((srt may).take k).map Prod.fst)
    (hb : ∀ y, y ∈ may → y.1 ∉ ((srt may).take k).map Prod.fst → leF x y = true) : (srt may)[k]? = some x := by
  obtain ⟨z, hz, hzm, hzo⟩ := next_out hap hk
  have h1 := hb z hzm hzo
  obtain ⟨j, hj⟩ := List.getElem?_of_mem ((srt_perm may).mem_iff.mpr hx)
  have hjk : k ≤ j := by
    by_cases h : j < k
    · exact absurd (outK_mem.mpr ⟨j, x, h, hj, rfl⟩) hno
    · omega
  by_cases e : j = k
  · subst e; exact hj
  · obtain ⟨hi1, e1⟩ := List.getElem?_eq_some_iff.mp hj
    obtain ⟨hi2, e2⟩ := List.getElem?_eq_some_iff.mp hz
    have h2 := List.pairwise_iff_getElem.mp (srt_sorted may) k j hi2 hi1 (by omega)
    rw [e1, e2] at h2
    rw [hz, leF_anti h1 h2]
/-- the best of the first i that is not out -/
def Bst (may : List Fr) (out : List Int) (i : Nat) (z : Int) : Prop :=
  (z = -1 ∧ ∀ j y, j < i → may[j]? = some y → out.contains y.1 = true) ∨
  (∃ (a : Nat) (x : Fr), z = a ∧ a < i ∧ may[a]? = some x ∧ out.contains x.1 = false ∧ ∀ j y, j < i → may[j]? = some y → out.contains y.1 = false → leF x y = true)
theorem Bst.start (may : List Fr) (out : List Int) : Bst may out 0 (-1) := .inl ⟨rfl, fun j y h => absurd h (by omega)⟩
section
variable {may : List Fr} {out : List Int} {i : Nat} {z : Int} {y : Fr}
theorem Bst.skip (h : Bst may out i z) (hy : may[i]? = some y) (hc : out.contains y.1 = true) : Bst may out (i + 1) z := by
  rcases h with ⟨e, h⟩ | ⟨a, x, e, ha, hx, hxo, h⟩
  · refine .inl ⟨e, fun j q hj hq => ?_⟩
    by_cases ej : j = i
    · subst ej; rw [hy] at hq; injection hq with hq; subst hq; exact hc
    · exact h j q (by omega) hq
  · refine .inr ⟨a, x, e, by omega, hx, hxo, fun j q hj hq hqo => ?_⟩
    by_cases ej : j = i
    · subst ej; rw [hy] at hq; injection hq with hq; subst hq; rw [hc] at hqo; cases hqo
    · exact h j q (by omega) hq hqo
theorem Bst.first (h : ∀ j y, j < i → may[j]? = some y → out.contains y.1 = true) (hy : may[i]? = some y) (hc : out.contains y.1 = false) : Bst may out (i + 1) i := by
  refine .inr ⟨i, y, rfl, by omega, hy, hc, fun j q hj hq hqo => ?_⟩
  by_cases ej : j = i
  · subst ej; rw [hy] at hq; injection hq with hq; subst hq; rw [leF_iff]; omega
  · rw [h j q (by omega) hq] at hqo; cases hqo
theorem Bst.better {a : Nat} {x : Fr} (h : ∀ j y, j < i → may[j]? = some y → out.contains y.1 = false → leF x y = true) (hy : may[i]? = some y) (hc : out.contains y.1 = false) (hlt : ltF y x = true) : Bst may out (i + 1) i := by
  refine .inr ⟨i, y, rfl, by omega, hy, hc, fun j q hj hq hqo => ?_⟩
  by_cases ej : j = i
  · subst ej; rw [hy] at hq; injection hq with hq; subst hq; rw [leF_iff]; omega
  · have := h j q (by omega) hq hqo
    rw [leF_iff] at *; rw [ltF_iff] at hlt; omega
theorem Bst.keep {a : Nat} {x : Fr} (ha : a < i) (hx : may[a]? = some x) (hxo : out.contains x.1 = false) (h : ∀ j y, j < i → may[j]? = some y → out.contains y.1 = false → leF x y = true) (hy : may[i]? = some y) (hlt : ltF y x = false) : Bst may out (i + 1) a := by
  refine .inr ⟨a, x, rfl, by omega, hx, hxo, fun j q hj hq hqo => ?_⟩
  by_cases ej : j = i
  · subst ej; rw [hy] at hq; injection hq with hq; subst hq; unfold leF; rw [hlt]; rfl
  · exact h j q (by omega) hq hqo
end
theorem Bst.done {may : List Fr} (hap : Apart may) {k : Nat} (hk : k < may.length) {z : Int} (h : Bst may (((srt may).take k).map Prod.fst) may.length z) :
    ∃ (a : Nat) (x : Fr), z = a ∧ a < may.length ∧ may[a]? = some x ∧ (srt may)[k]? = some x := by
  rcases h with ⟨e, h⟩ | ⟨a, x, e, ha, hx, hxo, h⟩
  · obtain ⟨q, hq, hqm, hqo⟩ := next_out hap hk
    obtain ⟨j, hj⟩ := List.getElem?_of_mem hqm
    have := h j q (List.getElem?_eq_some_iff.mp hj).1 hj
    rw [List.contains_iff_mem] at this
    exact absurd this hqo
  · refine ⟨a, x, e, ha, hx, best_is hap hk (List.mem_of_getElem? hx) (fun hm => ?_) fun y hy hyo => ?_⟩
    · rw [List.contains_iff_mem.mpr hm] at hxo; cases hxo
    · obtain ⟨j, hj⟩ := List.getElem?_of_mem hy
      refine h j y (List.getElem?_eq_some_iff.mp hj).1 hj ?_
      rw [← Bool.not_eq_true, List.contains_iff_mem]; exact hyo
theorem hasC_take {acc : List Fr} {k : Nat} {y : Fr} {c : Int} (hy : acc[k]? = some y) : hasC (acc.take (k + 1)) c = (hasC (acc.take k) c || y.1 == c) := by
  unfold hasC; rw [List.take_add_one, hy, List.any_append]; simp
end Go.Proofs.Ytfiaedhdgbnfiaa
