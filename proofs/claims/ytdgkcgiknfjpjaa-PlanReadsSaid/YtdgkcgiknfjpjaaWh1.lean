/- plan.Whole: the groups of the shards, and what of them is right. -/
import Derived.Test.YtdgkcgiknfjpjaaJnA
import Derived.Test.YtdgkcgiknfjpjaaDig15
namespace Go.Proofs.Ytdgkcgiknfjpjaa
set_option linter.unusedVariables false
open Go Go.RowKit
/-- the ten shards of group t -/
def sgrp (S : List (List UInt8)) (t : Nat) : List (List UInt8) := (S.drop (10 * t)).take 10
theorem sgrp_length {S : List (List UInt8)} {t : Nat} (h : 10 * t + 10 ≤ S.length) : (sgrp S t).length = 10 := by
  unfold sgrp
  rw [List.length_take, List.length_drop]
  omega
theorem sgrp_get {S : List (List UInt8)} {t i : Nat} (hi : i < 10) : (sgrp S t)[i]? = S[10 * t + i]? := by
  unfold sgrp
  rw [List.getElem?_take_of_lt hi, List.getElem?_drop]
/-- a group of rows is a table of its own -/
theorem RT.sgrp {w : World} {B b o n t : Nat} {S : List (List UInt8)} (h : RT w B (some ⟨b, o, none⟩) n S) (ht : 10 * t + 10 ≤ n) : RT w B (some ⟨b, o + 10 * t, none⟩) 10 (sgrp S t) := by
  obtain ⟨hl, hr⟩ := h
  obtain ⟨b2, o2, e, hb, hrow⟩ := hr (by omega)
  injection e with e
  injection e with e1 e2
  subst e1 e2
  refine ⟨sgrp_length (by omega), fun _ => ⟨b, o + 10 * t, rfl, hb, fun i l hi => ?_⟩⟩
  have hi10 : i < 10 := by
    have := (List.getElem?_eq_some_iff.mp hi).1
    rw [sgrp_length (by omega)] at this
    exact this
  rw [sgrp_get hi10] at hi
  have := hrow (10 * t + i) l hi
  unfold rowAt at this ⊢
  rw [show o + 10 * t + i = o + (10 * t + i) by omega]
  exact this
/-- the data of the first t groups, each right -/
def GsOk (S : List (List UInt8)) (t : Nat) (Gs : List (List UInt8)) : Prop :=
  Gs.length = t ∧ ∀ i g, Gs[i]? = some g → shardsOk (sgrp S i) ∧ 8 ≤ (pidx (sgrp S i) 10).length ∧ ∃ D, Solves (sgrp S i) D ∧ g = flat 8 16 D
theorem GsOk.nil (S : List (List UInt8)) : GsOk S 0 [] := ⟨rfl, fun i g h => by simp at h⟩
theorem GsOk.snoc {S : List (List UInt8)} {t : Nat} {Gs : List (List UInt8)} (h : GsOk S t Gs) {D : Mx} (h1 : shardsOk (sgrp S t)) (h2 : 8 ≤ (pidx (sgrp S t) 10).length) (h3 : Solves (sgrp S t) D) : GsOk S (t + 1) (Gs ++ [flat 8 16 D]) := by
  refine ⟨by simp [h.1], fun i g hi => ?_⟩
  by_cases e : i < Gs.length
  · rw [List.getElem?_append_left e] at hi
    exact h.2 i g hi
  · have hl := (List.getElem?_eq_some_iff.mp hi).1
    rw [List.length_append] at hl
    obtain rfl : i = t := by have := h.1; simp at hl; omega
    rw [List.getElem?_append_right (by omega), show i - Gs.length = 0 by have := h.1; omega] at hi
    injection hi with hi
    exact ⟨h1, h2, D, h3, hi.symm⟩
/-- what Whole answers: np places, z the size, s the sum -/
def WholePost (S : List (List UInt8)) (np : Nat) (z : Int) (s : List UInt8) (w : World) (e : Ending) (w' : World) : Prop := Gr w w' ∧
  (((S.length = 0 ∨ S.length ≠ np ∨ S.length % 10 ≠ 0) ∧ e = .returned (.tuple #[.slice none 0 0, .int .i64 1])) ∨
   (S.length ≠ 0 ∧ S.length = np ∧ S.length % 10 = 0 ∧
    ((∃ t Gs, 10 * t < S.length ∧ GsOk S t Gs ∧ shardsOk (sgrp S t) ∧ (pidx (sgrp S t) 10).length < 8 ∧ e = .returned (.tuple #[.slice none 0 0, .int .i64 9])) ∨
     (∃ t Gs, 10 * t < S.length ∧ GsOk S t Gs ∧ ¬ shardsOk (sgrp S t) ∧ e = .returned (.tuple #[.slice none 0 0, .int .i64 1])) ∨
     (∃ Gs, GsOk S (S.length / 10) Gs ∧ joinOk Gs z = true ∧ dg (joinV Gs z) = s ∧ ∃ A n c, e = .returned (.tuple #[.slice A n c, .int .i64 0]) ∧ Hid (OB w' w.heap.size (.slice A n c) (joinV Gs z))) ∨
     (∃ Gs, GsOk S (S.length / 10) Gs ∧ (joinOk Gs z = false ∨ dg (joinV Gs z) ≠ s) ∧ e = .returned (.tuple #[.slice none 0 0, .int .i64 9])))))
end Go.Proofs.Ytdgkcgiknfjpjaa
