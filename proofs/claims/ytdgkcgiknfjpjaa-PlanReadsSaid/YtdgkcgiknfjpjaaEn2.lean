/- plan.Whole of a blob's shards, some lacking. -/
import Derived.Test.YtdgkcgiknfjpjaaEn1
import Derived.Test.YtdgkcgiknfjpjaaWh4
import Derived.Test.YtdgkcgiknfjpjaaBl9
namespace Go.Proofs.Ytdgkcgiknfjpjaa
set_option linter.unusedVariables false
set_option linter.unusedSimpArgs false
open Go Go.RowKit
/-- how many of the first k lack -/
def cntQ (P : Nat → Bool) (k : Nat) : Nat := ((List.range k).filter P).length
theorem pidx_cntQ (M : Mx) (P : Nat → Bool) : (pidx (tabN 10 16 M P) 10).length + cntQ P 10 = 10 := by
  rw [tabN_pidx 10 (Nat.le_refl _)]
  unfold cntQ
  generalize 10 = k
  induction k with
  | zero => rfl
  | succ k ih =>
    rw [List.range_succ, List.filter_append, List.filter_append, List.length_append, List.length_append]
    by_cases h : P k = true
    · rw [List.filter_cons_of_pos (p := P) h, List.filter_cons_of_neg (p := fun r => !P r) (by simp [h])]
      simp only [List.filter_nil, List.length_nil, List.length_cons]
      omega
    · rw [List.filter_cons_of_neg (p := P) h, List.filter_cons_of_pos (p := fun r => !P r) (by simp [h])]
      simp only [List.filter_nil, List.length_nil, List.length_cons]
      omega
/-- the shards of a blob, some lacking -/
def BlobS (d : List UInt8) (q : Nat) (P : Nat → Nat → Bool) (S : List (List UInt8)) : Prop := S.length = 10 * q ∧ ∀ t, t < q → sgrp S t = tabN 10 16 (encM (grpB d q t)) (P t)
theorem BlobS.fine {d : List UInt8} {q : Nat} {P : Nat → Nat → Bool} {S : List (List UInt8)} (h : BlobS d q P S) {t : Nat} (ht : t < q) : shardsOk (sgrp S t) ∧ (pidx (sgrp S t) 10).length + cntQ (P t) 10 = 10 := by
  rw [h.2 t ht]
  exact ⟨tabN_ok, pidx_cntQ _ _⟩
theorem BlobS.groups {d : List UInt8} {q : Nat} {P : Nat → Nat → Bool} {S : List (List UInt8)} (hq : ngrp d.length = q) (h : BlobS d q P S) {Gs : List (List UInt8)} (hG : GsOk S q Gs) : Gs = splD d := by
  refine List.ext_getElem? fun i => ?_
  unfold splD
  rw [hq]
  by_cases hi : i < q
  · rw [tabM_get hi]
    have hg : i < Gs.length := by rw [hG.1]; exact hi
    obtain ⟨-, h2, D, h3, h4⟩ := hG.2 i Gs[i] (List.getElem?_eq_getElem hg)
    rw [List.getElem?_eq_getElem hg, h4]
    rw [h.2 i hi] at h2 h3
    rw [dec_back (grpB_len d q i) h2 h3]
    rfl
  · rw [List.getElem?_eq_none (by rw [hG.1]; omega), List.getElem?_eq_none (by rw [tabM_length]; omega)]
theorem whole_blob {S : List (List UInt8)} {dd : List UInt8} {q : Nat} {P : Nat → Nat → Bool} {z : Int} {s : List UInt8} {w : World} {e : Ending} {w' : World} (hd : dd.length ≤ 512) (hq : ngrp dd.length = q) (hB : BlobS dd q P S) (hP : ∀ t, t < q → cntQ (P t) 10 ≤ 2) (h : WholePost S (10 * q) z s w e w') :
    (joinOk (splD dd) z = true ∧ dg (joinV (splD dd) z) = s ∧ WAns w e w' 0 (joinV (splD dd) z)) ∨ ((joinOk (splD dd) z = false ∨ dg (joinV (splD dd) z) ≠ s) ∧ WAns w e w' 9 []) := by
  obtain ⟨-, hq1, -, -⟩ := ngrp_spec hd
  rw [hq] at hq1
  have hl := hB.1
  have hdv : S.length / 10 = q := by omega
  obtain ⟨hg, ⟨hbad, -⟩ | ⟨-, -, -, hc⟩⟩ := h
  · omega
  rcases hc with ⟨t, Gs, h10, hG, hs, hp, he⟩ | ⟨t, Gs, h10, hG, hs, he⟩ | ⟨Gs, hG, hj, hds, A, n, c, he, ho⟩ | ⟨Gs, hG, hj, he⟩
  · have := (hB.fine (t := t) (by omega)).2; have := hP t (by omega); omega
  · exact absurd (hB.fine (t := t) (by omega)).1 hs
  · rw [hdv] at hG
    have hGe := hB.groups hq hG
    rw [hGe] at hj hds ho
    exact .inl ⟨hj, hds, .some_ hg he ho.out⟩
  · rw [hdv] at hG
    have hGe := hB.groups hq hG
    rw [hGe] at hj
    exact .inr ⟨hj, .none_ hg he⟩
theorem whole_lost {S : List (List UInt8)} {dd : List UInt8} {q : Nat} {P : Nat → Nat → Bool} {z : Int} {s : List UInt8} {w : World} {e : Ending} {w' : World} (hB : BlobS dd q P S) {t0 : Nat} (ht : t0 < q) (hP : 3 ≤ cntQ (P t0) 10) (h : WholePost S (10 * q) z s w e w') : WAns w e w' 9 [] := by
  have hl := hB.1
  have hdv : S.length / 10 = q := by omega
  have h0 := (hB.fine ht).2
  obtain ⟨hg, ⟨hbad, -⟩ | ⟨-, -, -, hc⟩⟩ := h
  · omega
  rcases hc with ⟨t, Gs, h10, hG, hs, hp, he⟩ | ⟨t, Gs, h10, hG, hs, he⟩ | ⟨Gs, hG, hj, hds, A, n, c, he, ho⟩ | ⟨Gs, hG, hj, he⟩
  · exact .none_ hg he
  · exact absurd (hB.fine (t := t) (by omega)).1 hs
  · rw [hdv] at hG
    have := (hG.fine ht).2; omega
  · rw [hdv] at hG
    have := (hG.fine ht).2; omega
/-- all the shards of a blob -/
theorem blobS_all {p : Rp} {E : List Re} (hE : E.map (·.r) = recsP p) : BlobS p.l p.q (fun _ _ => false) (E.map (·.r.data)) := by
  have hS : E.map (·.r.data) = (recsP p).map (·.data) := by rw [← hE, List.map_map]; rfl
  rw [hS]
  refine ⟨by rw [List.length_map, recsP_len], fun t ht => List.ext_getElem? fun i => ?_⟩
  by_cases hi : i < 10
  · rw [sgrp_get hi, tabN_get hi, List.getElem?_map, recsP_at p ht hi]
    rfl
  · rw [List.getElem?_eq_none (by rw [sgrp_length (by rw [List.length_map, recsP_len]; omega)]; omega), List.getElem?_eq_none (by rw [tabN_length]; omega)]
theorem cntQ_none : cntQ (fun _ => false) 10 = 0 := by decide
theorem joinV_len {L : List (List UInt8)} {z : Int} (h : joinOk L z = true) : ((joinV L z).length : Int) = z := by
  unfold joinOk at h
  simp only [Bool.and_eq_true, decide_eq_true_iff] at h
  obtain ⟨⟨h0, h1⟩, -⟩ := h
  have hl : 0 < L.length := List.length_pos_iff.mpr h0
  unfold joinV
  rw [row_length]
  unfold groupsOf inB at h1
  by_cases hz : 0 ≤ z
  · omega
  · rw [if_neg (by simp; omega)] at h1
    omega
end Go.Proofs.Ytdgkcgiknfjpjaa
