/- The laws of blob: awake. -/
import Derived.Test.YtdgkcgiknfjpjaaBl3
import Derived.Test.YtdgkcgiknfjpjaaJnA
namespace Go.Proofs.Ytdgkcgiknfjpjaa
set_option linter.unusedVariables false
set_option linter.unusedSimpArgs false
open Go Go.RowKit
theorem join_spl {l : List UInt8} (h : l.length ≤ 512) : joinOk (splD l) (l.length : Int) = true := by
  obtain ⟨hg, h1, h4, hn⟩ := ngrp_spec h
  unfold joinOk splD
  rw [tabM_length, hg]
  have hne : tabM (ngrp l.length) 128 (partM 128 (padD l (ngrp l.length))) ≠ [] := fun e => by
    have := congrArg List.length e
    rw [tabM_length] at this
    simp at this
    omega
  rw [decide_eq_true hne, decide_eq_true rfl]
  simp only [Bool.true_and, List.all_eq_true]
  intro r hr
  obtain ⟨i, hi⟩ := List.getElem?_of_mem hr
  have hlt : i < ngrp l.length := by have := (List.getElem?_eq_some_iff.mp hi).1; rwa [tabM_length] at this
  rw [tabM_get hlt] at hi
  injection hi with hi
  rw [← hi, row_length]
  rfl
theorem OB.len_ {w : World} {base n c : Nat} {A : Option Addr} {l : List UInt8} (h : OB w base (.slice A n c) l) : l.length = n := by
  obtain ⟨A', c', e, -⟩ := h.form
  injection e with _ e _
  exact e.symm
theorem OR.cell {E : List Re} {base n c g : Nat} {w : World} (h : OR E (.slice (some ⟨g, 0, none⟩) n c) base w) {i : Nat} {x : Re} (hx : E[i]? = some x) {j : Nat} {u : Value} (hj : x.cells[j]? = some u) : w.cell? ⟨g, i * 10 + j, none⟩ = some u := by
  have hi := (List.getElem?_eq_some_iff.mp hx).1
  obtain ⟨g', c', e, -, -, -, -, -, -, hc, -⟩ := row_at h.row (by omega)
  injection e with e _ _
  injection e with e
  injection e with e _ _
  subst e
  exact hc _ _ ((flatRe_at hx j (by have := (List.getElem?_eq_some_iff.mp hj).1; exact this)).trans hj)
theorem OR.form0 {E : List Re} {v : Value} {base : Nat} {w : World} (h : OR E v base w) (hE : 0 < E.length) : ∃ g c, v = .slice (some ⟨g, 0, none⟩) E.length c := by
  obtain ⟨g', c', e, -⟩ := row_at h.row hE
  exact ⟨g', c', e⟩
set_option maxHeartbeats 4000000 in
set_option maxRecDepth 20000 in
theorem awake18_any (w : World) : Calls Try.prog 13 #[] w fun e w' => e = .returned (.bool true) ∧ Gr w w' := by
  obtain ⟨Z, hZ⟩ : ∃ Z : List UInt8, List.replicate 130 0 = Z := ⟨_, rfl⟩
  have hZl : Z.length = 130 := by rw [← hZ]; simp
  have hng : ngrp 130 = 2 := by decide
  have hsl : (splD Z).length = 2 := by unfold splD; rw [tabM_length, hZl, hng]
  have hjo : joinOk (splD Z) 130 = true := by have := join_spl (l := Z) (by omega); rw [hZl] at this; exact this
  replace hZ := Lib.hid hZ
  replace hZl := Lib.hid hZl
  replace hng := Lib.hid hng
  replace hsl := Lib.hid hsl
  replace hjo := Lib.hid hjo
  go_enter Try.func13, Try.ntmps13
  go_wp2_with (refine wpl_make rfl (.const (.int .i64 130)) (.const (.int .i64 130)) rfl w.heap.size 130 rfl rfl (by decide) (Nat.le_refl _) ?_; intro w1 ho1 hb1; rw [hZ.out] at ho1; have hg1 := Lib.hid (show Gr w w1 from hb1); have hr1 := Lib.hid ho1.rd.1; clear ho1 hb1)
  refine (bsplit_any _ 130 _ Z hZl.out (by decide) w1 hr1.out).mono ?_
  clear hr1
  rintro e w2 ⟨u, rfl, hT, hg2⟩
  obtain ⟨Au, cu, rfl, hT1, hT2, hT3⟩ := hT
  have hT : Tbl (splD Z) (.slice Au (splD Z).length cu) w2 := ⟨Au, cu, rfl, hT1, hT2, hT3⟩
  rw [hsl.out] at hT ⊢
  have hjn := Lib.hid (join_any (L := splD Z) 130 ⟨by decide, by decide⟩ w2 (Lib.hid hT))
  replace hg2 := Lib.hid (hg1.out.trans hg2)
  clear hT hT1 hT2 hT3 hg1
  go_wp2_with fail
  refine hjn.out.mono ?_
  clear hjn
  rintro e w3 hpost
  rcases hpost with ⟨-, A3, n3, c3, rfl, -, ho3, hg3⟩ | ⟨hf, -⟩
  case inr => rw [hjo.out] at hf; cases hf
  have hn3 : n3 = 130 := by
    have h1 := ho3.out.len_
    unfold joinV at h1
    rw [row_length] at h1
    exact h1.symm
  subst hn3
  replace hg3 := Lib.hid (hg2.out.trans hg3)
  clear ho3 hg2
  have hs3 := Below.size hg3.out
  go_wp2_with (refine wpl_make rfl (.const (.int .i64 130)) (.const (.int .i64 130)) rfl w3.heap.size 130 rfl rfl (by decide) (Nat.le_refl _) ?_; intro w4 ho4 hb4; rw [hZ.out] at ho4; have hg4 := Lib.hid (hg3.out.trans hb4); have hr4 := Lib.hid ho4.rd.1; clear ho4 hb4)
  refine (brec_any [97] 3 (by decide) ⟨by decide, by decide⟩ _ 130 _ Z hZl.out (by decide) w4 hr4.out).mono ?_
  clear hr4
  rintro e w5 ⟨hg5, hpost⟩
  rcases hpost with ⟨-, v5, E, rfl, hE, ho5⟩ | ⟨hf, -⟩
  case inr => exact absurd hf (by show ¬ nameOk [97] 3 = false; decide)
  have hE20 : E.length = 20 := by
    have h1 := congrArg List.length hE
    rw [List.length_map, recsP_len] at h1
    simp only [hng.out] at h1
    exact h1
  obtain ⟨g5, c5, rfl⟩ := ho5.form0 (by omega)
  have hx19 : ∃ x, E[19]? = some x ∧ x.r.group = 1 ∧ x.r.index = 9 := by
    obtain ⟨x, hx⟩ : ∃ x, E[19]? = some x := ⟨_, List.getElem?_eq_getElem (by omega)⟩
    refine ⟨x, hx, ?_⟩
    have h1 := congrArg (fun t : List Rc => t[19]?) hE
    have h2 := recsP_at ⟨[97], 3, Z, ngrp 130⟩ (k := 1) (i := 9) (by show 1 < ngrp 130; rw [hng.out]; decide) (by decide)
    simp only [List.getElem?_map, hx, Option.map_some] at h1
    rw [show 10 * 1 + 9 = 19 from rfl, ← h1] at h2
    injection h2 with h2
    rw [h2]
    exact ⟨rfl, rfl⟩
  rw [hE20]
  replace hg5 := Lib.hid (hg4.out.trans hg5)
  replace ho5 := Lib.hid ho5
  replace hx19 := Lib.hid hx19
  replace hE20 := Lib.hid hE20
  clear hE hg4
  go_wp2_with fail
  refine (brec_any [] 3 (by decide) ⟨by decide, by decide⟩ none 0 0 [] rfl (by decide) w5 Rd.nil_).mono ?_
  rintro e w6 ⟨hg6, hpost⟩
  rcases hpost with ⟨hf, -⟩ | ⟨-, rfl⟩
  case inl => exact absurd hf (by show ¬ nameOk [] 3 = true; decide)
  replace ho5 := OR.gr hg6 ho5
  replace hg6 := Lib.hid (hg5.out.trans hg6)
  clear hg5
  obtain ⟨x, hx, h1, h2⟩ := hx19.out
  have c194 : w6.cell? ⟨g5, 194, none⟩ = some (.int .i64 1) := by rw [← h1]; exact ho5.out.cell (i := 19) (j := 4) hx rfl
  have c196 : w6.cell? ⟨g5, 196, none⟩ = some (.int .i64 9) := by rw [← h2]; exact ho5.out.cell (i := 19) (j := 6) hx rfl
  clear hx h1 h2
  have k0 : groupsOf 0 = 1 := by decide
  have k1 : groupsOf 129 = 2 := by decide
  have k2 : groupsOf 513 = 0 := by decide
  have b0 := bgroups_any 0 ⟨by decide, by decide⟩ w6
  have b1 := bgroups_any 129 ⟨by decide, by decide⟩ w6
  have b2 := bgroups_any 513 ⟨by decide, by decide⟩ w6
  rw [k0] at b0
  rw [k1] at b1
  rw [k2] at b2
  replace b0 := Lib.hid b0
  replace b1 := Lib.hid b1
  replace b2 := Lib.hid b2
  clear k0 k1 k2
  go_wp2_with fail
  refine b0.out.mono ?_
  rintro e w7 ⟨rfl, hw7⟩
  rw [hw7]
  clear hw7
  go_wp2_with fail
  refine b1.out.mono ?_
  rintro e w7 ⟨rfl, hw7⟩
  rw [hw7]
  clear hw7
  go_wp2_with fail
  refine b2.out.mono ?_
  rintro e w7 ⟨rfl, hw7⟩
  rw [hw7]
  clear hw7
  go_wp2_with fail
  go_ret
  exact ⟨rfl, hg6.out⟩
end Go.Proofs.Ytdgkcgiknfjpjaa
