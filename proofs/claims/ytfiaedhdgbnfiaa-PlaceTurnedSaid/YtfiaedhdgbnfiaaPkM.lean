/- place: what Pick comes to, as plain lists. -/
import Derived.Shelf.SlSortCmp.NoneTotal
namespace Go.Proofs.Ytfiaedhdgbnfiaa
set_option linter.unusedVariables false
open Go Go.Sort
/-- a cartridge and its room -/
abbrev Fr := Int × Int
def hasC (acc : List Fr) (c : Int) : Bool := acc.any (fun y => y.1 == c)
def addM (but : List Int) (acc : List Fr) (x : Fr) : List Fr := if decide (0 < x.2) && !(hasC acc x.1) && !(but.contains x.1) then acc ++ [x] else acc
/-- what may be chosen, in the list's order -/
def mayL (but : List Int) (l : List Fr) : List Fr := l.foldl (addM but) []
theorem mayL_snoc (but : List Int) (l : List Fr) (x : Fr) : mayL but (l ++ [x]) = addM but (mayL but l) x := by
  unfold mayL; rw [List.foldl_append]; rfl
theorem mayL_nil (but : List Int) : mayL but [] = [] := rfl
theorem hasC_iff (acc : List Fr) (c : Int) : hasC acc c = true ↔ ∃ y ∈ acc, y.1 = c := by
  unfold hasC; rw [List.any_eq_true]; simp
def Apart (l : List Fr) : Prop := l.Pairwise (fun x y => x.1 ≠ y.1)
theorem list_snoc_ind {α : Type} {p : List α → Prop} (h0 : p []) (h1 : ∀ l x, p l → p (l ++ [x])) (l : List α) : p l := by
  have : ∀ m : List α, p m.reverse := fun m => by
    induction m with
    | nil => exact h0
    | cons x m ih => rw [List.reverse_cons]; exact h1 _ _ ih
  have h := this l.reverse
  rwa [List.reverse_reverse] at h
theorem addM_apart {but : List Int} {acc : List Fr} {x : Fr} (h : Apart acc) : Apart (addM but acc x) := by
  unfold addM
  split
  · rename_i hc
    unfold Apart
    rw [List.pairwise_append]
    refine ⟨h, List.pairwise_singleton _ _, fun y hy z hz => ?_⟩
    rw [List.mem_singleton] at hz
    subst hz
    intro e
    have : hasC acc z.1 = true := (hasC_iff _ _).mpr ⟨y, hy, e⟩
    simp [this] at hc
  · exact h
theorem mayL_apart (but : List Int) (l : List Fr) : Apart (mayL but l) :=
  list_snoc_ind (p := fun l => Apart (mayL but l)) List.Pairwise.nil (fun l x ih => by rw [mayL_snoc]; exact addM_apart ih) l
theorem mem_addM {but : List Int} {acc : List Fr} {x y : Fr} : y ∈ addM but acc x ↔ y ∈ acc ∨ (y = x ∧ 0 < x.2 ∧ hasC acc x.1 = false ∧ x.1 ∉ but) := by
  unfold addM
  split
  · rename_i hc
    simp at hc
    simp only [List.mem_append, List.mem_singleton]
    constructor
    · rintro (h | h)
      · exact .inl h
      · exact .inr ⟨h, hc.1.1, hc.1.2, hc.2⟩
    · rintro (h | h)
      · exact .inl h
      · exact .inr h.1
  · rename_i hc
    constructor
    · exact .inl
    · rintro (h | ⟨-, h1, h2, h3⟩)
      · exact h
      · exact absurd (by simp [h1, h2, h3]) hc
theorem mayL_sub (but : List Int) (l : List Fr) : ∀ y ∈ mayL but l, y ∈ l ∧ 0 < y.2 ∧ y.1 ∉ but :=
  list_snoc_ind (p := fun l => ∀ y ∈ mayL but l, y ∈ l ∧ 0 < y.2 ∧ y.1 ∉ but) (fun y h => by cases h) (fun l x ih y hy => by
    rw [mayL_snoc, mem_addM] at hy
    rcases hy with h | ⟨rfl, h1, h2, h3⟩
    · obtain ⟨a, b⟩ := ih y h; exact ⟨List.mem_append_left _ a, b⟩
    · exact ⟨by simp, h1, h3⟩) l
theorem hasC_mayL (but : List Int) (l : List Fr) (c : Int) : hasC (mayL but l) c = (l.any (fun y => y.1 == c && decide (0 < y.2)) && !(but.contains c)) := by
  refine list_snoc_ind (p := fun l => hasC (mayL but l) c = (l.any (fun y => y.1 == c && decide (0 < y.2)) && !(but.contains c))) (by simp [mayL_nil, hasC]) (fun l x ih => ?_) l
  rw [mayL_snoc, List.any_append, Bool.eq_iff_iff, hasC_iff]
  have h0 := hasC_iff (mayL but l) c
  constructor
  · rintro ⟨y, hy, rfl⟩
    rw [mem_addM] at hy
    rcases hy with h | ⟨rfl, h1, h2, h3⟩
    · have : hasC (mayL but l) y.1 = true := h0.mpr ⟨y, h, rfl⟩
      rw [ih] at this
      simp at this ⊢
      exact ⟨.inl this.1, this.2⟩
    · simp [h1, h3]
  · intro h
    simp only [List.any_cons, List.any_nil, Bool.or_false, Bool.and_eq_true, Bool.or_eq_true, Bool.not_eq_true', beq_iff_eq, decide_eq_true_eq] at h
    by_cases hc : hasC (mayL but l) c = true
    · obtain ⟨y, hy, e⟩ := h0.mp hc
      exact ⟨y, mem_addM.mpr (.inl hy), e⟩
    · have hf : hasC (mayL but l) c = false := by simpa using hc
      rcases h with ⟨h1 | ⟨rfl, h2⟩, h3⟩
      · rw [ih, h1, h3] at hf; simp at hf
      · exact ⟨x, mem_addM.mpr (.inr ⟨rfl, h2, hf, by simpa using h3⟩), rfl⟩
/-- the room of a cartridge by the first place where it stands with any -/
def roomL (l : List Fr) (c : Int) : Int := ((l.find? (fun y => y.1 == c && decide (0 < y.2))).map Prod.snd).getD 0
theorem roomL_mem (but : List Int) (l : List Fr) : ∀ y ∈ mayL but l, roomL l y.1 = y.2 :=
  list_snoc_ind (p := fun l => ∀ y ∈ mayL but l, roomL l y.1 = y.2) (fun y h => by cases h) (fun l x ih y hy => by
    rw [mayL_snoc, mem_addM] at hy
    unfold roomL at ih ⊢
    rw [List.find?_append]
    rcases hy with h | ⟨rfl, h1, h2, h3⟩
    · have h4 := ih y h
      have h5 := (mayL_sub but l y h).2.1
      cases hf : l.find? (fun z => z.1 == y.1 && decide (0 < z.2)) with
      | none => rw [hf] at h4; simp at h4; omega
      | some z => rw [hf] at h4; simpa using h4
    · have h6 := hasC_mayL but l y.1
      rw [h2] at h6
      have h7 : l.any (fun z => z.1 == y.1 && decide (0 < z.2)) = false := by
        cases ha : l.any (fun z => z.1 == y.1 && decide (0 < z.2)) with
        | false => rfl
        | true => rw [ha] at h6; simp at h6; exact absurd h6 h3
      have h8 : l.find? (fun z => z.1 == y.1 && decide (0 < z.2)) = none := by
        rw [List.find?_eq_none]
        intro z hz hp
        rw [List.any_eq_false] at h7
        exact h7 z hz hp
      rw [h8]
      simp [h1]) l
/-! ### the order: more room first, then the smaller number -/
def cfF (x y : Fr) : Int := if Lib.compareInt y.2 x.2 = 0 then Lib.compareInt x.1 y.1 else Lib.compareInt y.2 x.2
def ltF (x y : Fr) : Bool := decide (y.2 < x.2) || (x.2 == y.2 && decide (x.1 < y.1))
theorem ltF_of (x y : Fr) : ltOf cfF x y = ltF x y := by
  unfold ltOf cfF Lib.compareInt ltF
  by_cases h1 : y.2 < x.2
  · simp [h1]
  · by_cases h2 : x.2 < y.2
    · simp [h1, h2, show ¬ x.2 = y.2 by omega]
    · have h3 : x.2 = y.2 := by omega
      simp [h3]
      by_cases h4 : x.1 < y.1
      · simp [h4]
      · by_cases h5 : y.1 < x.1 <;> simp [h4, h5]
theorem ltF_iff (x y : Fr) : ltF x y = true ↔ y.2 < x.2 ∨ (x.2 = y.2 ∧ x.1 < y.1) := by unfold ltF; simp
theorem ltF_not (x y : Fr) : ltF x y = false ↔ x.2 < y.2 ∨ (x.2 = y.2 ∧ y.1 ≤ x.1) := by
  rw [Bool.eq_false_iff, ne_eq, ltF_iff]; omega
theorem swoF : SWO (ltOf cfF) where
  irrefl x := by rw [ltF_of, ltF_not]; omega
  trans x y z h1 h2 := by rw [ltF_of, ltF_iff] at *; omega
  ntrans x y z h1 h2 := by rw [ltF_of, ltF_not] at *; omega
theorem totF (x y : Fr) (h1 : ltOf cfF x y = false) (h2 : ltOf cfF y x = false) : x = y := by
  rw [ltF_of, ltF_not] at *
  exact Prod.ext (by omega) (by omega)
def leF (x y : Fr) : Bool := !(ltF y x)
theorem leF_iff (x y : Fr) : leF x y = true ↔ y.2 < x.2 ∨ (x.2 = y.2 ∧ x.1 ≤ y.1) := by
  unfold leF; rw [Bool.not_eq_true', ltF_not]; omega
/-- sorted -/
def srt (l : List Fr) : List Fr := l.mergeSort leF
theorem srt_perm (l : List Fr) : (srt l).Perm l := List.mergeSort_perm _ _
theorem srt_len (l : List Fr) : (srt l).length = l.length := (srt_perm l).length_eq
theorem srt_sorted (l : List Fr) : (srt l).Pairwise (fun x y => leF x y = true) :=
  List.pairwise_mergeSort (fun a b c h1 h2 => by rw [leF_iff] at *; omega) (fun a b => by
    rw [Bool.or_eq_true, leF_iff, leF_iff]; omega) l
theorem sorted_eq {l m : List Fr} (h : l.Perm m) (hl : l.Pairwise (fun x y => leF x y = true)) (hm : m.Pairwise (fun x y => leF x y = true)) : l = m :=
  List.Perm.eq_of_pairwise (le := fun x y => leF x y = true) (fun a b _ _ h1 h2 => by rw [leF_iff] at *; exact Prod.ext (by omega) (by omega)) hl hm h
theorem srt_eq {l m : List Fr} (h : l.Perm m) : srt l = srt m := sorted_eq ((srt_perm l).trans (h.trans (srt_perm m).symm)) (srt_sorted l) (srt_sorted m)
theorem apart_perm {l m : List Fr} (h : l.Perm m) (hl : Apart l) : Apart m := by
  unfold Apart at *
  exact (List.Perm.pairwise_iff (fun h => Ne.symm h) h).mp hl
/-- what Pick answers, if there are so many -/
def pickL (l : List Fr) (n : Nat) (but : List Int) : List Int := ((srt (mayL but l)).take n).map Prod.fst
theorem pickL_len {l : List Fr} {n : Nat} {but : List Int} (h : n ≤ (mayL but l).length) : (pickL l n but).length = n := by
  unfold pickL; rw [List.length_map, List.length_take, srt_len]; omega
end Go.Proofs.Ytfiaedhdgbnfiaa
