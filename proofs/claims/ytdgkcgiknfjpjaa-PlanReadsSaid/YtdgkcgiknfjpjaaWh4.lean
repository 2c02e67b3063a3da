/- plan.Whole and the reference's answer alike; the law PlanWhole. -/
import Derived.Test.YtdgkcgiknfjpjaaWh3
namespace Go.Proofs.Ytdgkcgiknfjpjaa
set_option linter.unusedVariables false
set_option linter.unusedSimpArgs false
open Go Go.RowKit
/-- groups that are right are those of one choice of what solves them -/
theorem GsOk.choice {S : List (List UInt8)} {T : Nat} {Gs : List (List UInt8)} (h : GsOk S T Gs) : ∃ Ds : Nat → Mx, (∀ i, i < T → Solves (sgrp S i) (Ds i)) ∧ Gs = gsD Ds T := by
  have h1 : ∀ i, ∃ D : Mx, i < T → Solves (sgrp S i) D ∧ Gs[i]? = some (flat 8 16 D) := fun i => by
    by_cases hi : i < T
    · have hg : i < Gs.length := by rw [h.1]; exact hi
      obtain ⟨-, -, D, h2, h3⟩ := h.2 i Gs[i] (List.getElem?_eq_getElem hg)
      exact ⟨D, fun _ => ⟨h2, by rw [List.getElem?_eq_getElem hg, h3]⟩⟩
    · exact ⟨fun _ _ => 0, fun h => absurd h hi⟩
  refine ⟨fun i => Classical.choose (h1 i), fun i hi => (Classical.choose_spec (h1 i) hi).1, List.ext_getElem? fun i => ?_⟩
  by_cases hi : i < T
  · rw [(Classical.choose_spec (h1 i) hi).2]
    unfold gsD
    rw [List.getElem?_map, List.getElem?_range hi]
    rfl
  · rw [List.getElem?_eq_none (by rw [h.1]; omega), List.getElem?_eq_none (by rw [gsD_length]; omega)]
theorem GsOk.fine {S : List (List UInt8)} {T : Nat} {Gs : List (List UInt8)} (h : GsOk S T Gs) {i : Nat} (hi : i < T) : fineG S i := by
  have hg : i < Gs.length := by rw [h.1]; exact hi
  obtain ⟨h1, h2, -⟩ := h.2 i Gs[i] (List.getElem?_eq_getElem hg)
  exact ⟨h1, h2⟩
/-- the bytes and the number that Whole answers -/
def WAns (w : World) (e : Ending) (w' : World) (x : Int) (d : List UInt8) : Prop := Gr w w' ∧ ∃ A c, e = .returned (.tuple #[.slice A d.length c, .int .i64 x]) ∧ OB w' w.heap.size (.slice A d.length c) d
theorem OB.none_ (w : World) (B : Nat) : OB w B (.slice none 0 0) [] := World.ownsRow_nil w B _ 1
theorem WAns.none_ {w : World} {e : Ending} {w' : World} {x : Int} (hg : Gr w w') (he : e = .returned (.tuple #[.slice none 0 0, .int .i64 x])) : WAns w e w' x [] := ⟨hg, none, 0, he, OB.none_ _ _⟩
theorem WAns.some_ {w : World} {e : Ending} {w' : World} {x : Int} {d : List UInt8} {A : Option Addr} {n c : Nat} (hg : Gr w w') (he : e = .returned (.tuple #[.slice A n c, .int .i64 x])) (ho : OB w' w.heap.size (.slice A n c) d) : WAns w e w' x d := by
  obtain ⟨A', c', e', -⟩ := ho.form
  injection e' with e1 e2 e3
  subst e1 e2 e3
  exact ⟨hg, A, c, he, ho⟩
theorem whole_alike {S : List (List UInt8)} {np : Nat} {z : Int} {s : List UInt8} {w : World} {e : Ending} {w' : World} (h : WholePost S np z s w e w') :
    ∃ (x : Int) (d : List UInt8) (Ds : Nat → Mx), (x = 0 ∨ x = 1 ∨ x = 9) ∧ WAns w e w' x d ∧ (S.length ≠ 0 → S.length = np → S.length % 10 = 0 → ∀ t, 10 * t < S.length → (∀ i, i < t → fineG S i) → fineG S t → Solves (sgrp S t) (Ds t)) ∧ ∀ v r v', RWholePost S Ds np z s v r v' → WAns v r v' x d := by
  obtain ⟨hg, ⟨hbad, he⟩ | ⟨h1, h2, h3, hc⟩⟩ := h
  · refine ⟨1, [], fun _ _ _ => 0, .inr (.inl rfl), .none_ hg he, fun h1 h2 h3 => by omega, ?_⟩
    rintro v r v' ⟨hg', ⟨-, he'⟩ | ⟨h1, h2, h3, -⟩⟩
    · exact .none_ hg' he'
    · omega
  · have part : ∀ {t : Nat} {Gs : List (List UInt8)}, GsOk S t Gs → ¬ fineG S t → ∃ Ds : Nat → Mx, (S.length ≠ 0 → S.length = np → S.length % 10 = 0 → ∀ t, 10 * t < S.length → (∀ i, i < t → fineG S i) → fineG S t → Solves (sgrp S t) (Ds t)) := fun {t Gs} hG hn => by
      obtain ⟨Ds, hD, -⟩ := hG.choice
      refine ⟨Ds, fun _ _ _ k _ hp hf => ?_⟩
      rcases Nat.lt_trichotomy k t with hk | hk | hk
      · exact hD k hk
      · subst hk; exact absurd hf hn
      · exact absurd (hp t hk) hn
    rcases hc with ⟨t, Gs, h10, hG, hs, hp, he⟩ | ⟨t, Gs, h10, hG, hs, he⟩ | ⟨Gs, hG, hj, hd, A, n, c, he, ho⟩ | ⟨Gs, hG, hj, he⟩
    · have hn : ¬ fineG S t := fun hf => by have := hf.2; omega
      obtain ⟨Ds, hDs⟩ := part hG hn
      refine ⟨9, [], Ds, .inr (.inr rfl), .none_ hg he, hDs, ?_⟩
      rintro v r v' ⟨hg', ⟨hbad, -⟩ | ⟨-, -, -, hc'⟩⟩
      · omega
      rcases hc' with ⟨t', h10', hp', hs', -, he'⟩ | ⟨t', h10', hp', hs', he'⟩ | ⟨hp', -⟩ | ⟨hp', -⟩
      · exact .none_ hg' he'
      · exfalso
        rcases Nat.lt_trichotomy t' t with hk | hk | hk
        · exact hs' (hG.fine hk).1
        · subst hk; exact hs' hs
        · exact hn (hp' t hk)
      · exact absurd (hp' t (by omega)) hn
      · exact absurd (hp' t (by omega)) hn
    · have hn : ¬ fineG S t := fun hf => hs hf.1
      obtain ⟨Ds, hDs⟩ := part hG hn
      refine ⟨1, [], Ds, .inr (.inl rfl), .none_ hg he, hDs, ?_⟩
      rintro v r v' ⟨hg', ⟨hbad, -⟩ | ⟨-, -, -, hc'⟩⟩
      · omega
      rcases hc' with ⟨t', h10', hp', hs', hk', he'⟩ | ⟨t', h10', hp', hs', he'⟩ | ⟨hp', -⟩ | ⟨hp', -⟩
      · exfalso
        rcases Nat.lt_trichotomy t' t with hk | hk | hk
        · have := (hG.fine hk).2; omega
        · subst hk; exact hs hs'
        · exact hn (hp' t hk)
      · exact .none_ hg' he'
      · exact absurd (hp' t (by omega)) hn
      · exact absurd (hp' t (by omega)) hn
    · obtain ⟨Ds, hD, hGe⟩ := hG.choice
      refine ⟨0, joinV Gs z, Ds, .inl rfl, .some_ hg he ho.out, fun _ _ _ k hk _ _ => hD k (by omega), ?_⟩
      rintro v r v' ⟨hg', ⟨hbad, -⟩ | ⟨-, -, -, hc'⟩⟩
      · omega
      rw [hGe] at hj hd ⊢
      rcases hc' with ⟨t', h10', hp', hs', hk', he'⟩ | ⟨t', h10', hp', hs', he'⟩ | ⟨hp', hj', hd', A', n', c', he', ho'⟩ | ⟨hp', hj', -⟩
      · have := (hG.fine (i := t') (by omega)).2; omega
      · exact absurd (hG.fine (i := t') (by omega)).1 hs'
      · exact .some_ hg' he' ho'.out
      · rcases hj' with hj' | hj'
        · rw [hj] at hj'; cases hj'
        · exact absurd hd hj'
    · obtain ⟨Ds, hD, hGe⟩ := hG.choice
      refine ⟨9, [], Ds, .inr (.inr rfl), .none_ hg he, fun _ _ _ k hk _ _ => hD k (by omega), ?_⟩
      rintro v r v' ⟨hg', ⟨hbad, -⟩ | ⟨-, -, -, hc'⟩⟩
      · omega
      rw [hGe] at hj
      rcases hc' with ⟨t', h10', hp', hs', hk', he'⟩ | ⟨t', h10', hp', hs', he'⟩ | ⟨hp', hj', hd', A', n', c', he', ho'⟩ | ⟨hp', hj', he'⟩
      · have := (hG.fine (i := t') (by omega)).2; omega
      · exact absurd (hG.fine (i := t') (by omega)).1 hs'
      · rcases hj with hj | hj
        · rw [hj] at hj'; cases hj'
        · exact absurd hd' hj
      · exact .none_ hg' he'
end Go.Proofs.Ytdgkcgiknfjpjaa
