/- lib: the reference's library: Go. -/
import Derived.Test.YtfjhdcppehfiiaaLr3
namespace Go.Proofs.Ytfjhdcppehfiiaa
set_option linter.unusedVariables false
set_option linter.unusedSimpArgs false
open Go Go.RowKit
section
variable (lo g : Nat) (vc vd va : Value) (C : List Nat) (D : List RD) (L : List Nat) (w : World) (h : Hid (Lr w lo g vc vd va C D L)) (T : Nat) (hP : Hid (PR T D))
include h hP
set_option maxHeartbeats 2000000 in
set_option maxRecDepth 10000 in
theorem rgo_any (hL : L.length ≤ 1000000) (z p : Int) : Calls Try.prog 48 #[.pointer (some ⟨g, 0, none⟩), .int .i64 z, .int .i64 p] w fun e w' => ∃ b r va' D' L', e = .returned (.tuple #[.bool b, .int .i64 r]) ∧ Hid (Lr w' lo g vc vd va' C D' L') ∧ L'.length ≤ L.length + 1 ∧ Hid (PR T D') ∧ Hid (TChg lo rlts w w') := by
  have hIs := ris_any lo g vc vd va C D L w h z
  have hWi := Lib.hid (rwith_any lo g vc vd va C D L w h z)
  have hTa := Lib.hid (rtakes_any lo g vc vd va C D L w h hL)
  have fin : Hid (∀ b r w', Below w.heap.size w w' → ∃ b' r' va' D' L', Ending.returned (.tuple #[.bool b, .int .i64 r]) = .returned (.tuple #[.bool b', .int .i64 r']) ∧ Hid (Lr w' lo g vc vd va' C D' L') ∧ L'.length ≤ L.length + 1 ∧ Hid (PR T D') ∧ Hid (TChg lo rlts w w')) := Lib.hid (fun b r w' hb => ⟨b, r, va, D, L, rfl, Lr.gr hb h, by omega, hP, Lib.hid (TChg.of_below hb)⟩)
  by_cases hz : 0 ≤ z ∧ z < C.length
  · rw [decide_eq_true hz] at hIs
    replace hIs := Lib.hid hIs
    replace hz := Lib.hid hz
    by_cases hp0 : p < 0
    · go_enter Try.func48, Try.ntmps48
      go_wp2_with (go_at_call 40; go_must (refine hIs.out.mono ?_); rintro e w' ⟨rfl, hee⟩; rw [hee]; clear hee)
      go_ret2
      exact fin.out _ _ _ (Below.refl _ _)
    · have i1 : decide (p < 0) = false := decide_eq_false hp0
      by_cases hp1 : 1024 < p
      · go_enter Try.func48, Try.ntmps48
        go_wp2_with (go_at_call 40; go_must (refine hIs.out.mono ?_); rintro e w' ⟨rfl, hee⟩; rw [hee]; clear hee)
        go_ret2
        exact fin.out _ _ _ (Below.refl _ _)
      · have i2 : decide (1024 < p) = false := decide_eq_false hp1
        have hp0' : 0 ≤ p := by omega
        have hp1' : p ≤ 1024 := by omega
        clear hp0 hp1
        go_enter Try.func48, Try.ntmps48
        go_upto_region 3 with (go_at_call 40; go_must (refine hIs.out.mono ?_); rintro e w' ⟨rfl, hee⟩; rw [hee]; clear hee)
        clear hIs
        go_wp2_with fail
        refine hWi.out.mono ?_
        clear hWi
        rintro e w' ⟨he, hee⟩
        rw [hee]
        clear hee w'
        rcases he with rfl | ⟨j, rfl, hj⟩
        · go_wp2_with fail
          refine hTa.out.mono ?_
          clear hTa
          rintro e w1 ⟨he, hb1⟩
          have h1 := Lr.gr hb1 h
          rcases he with rfl | ⟨j, rfl, hj⟩
          · replace hb1 := Lib.hid hb1
            go_wp2_with fail
            go_ret2
            exact fin.out _ _ _ hb1.out
          · clear fin h
            obtain ⟨d, hd⟩ : ∃ d, D[j]? = some d := ⟨_, List.getElem?_eq_getElem hj⟩
            have h1c := h1.out
            obtain ⟨Ac, cc, Ad, cd, Aa, ca, rfl, rfl, rfl⟩ := h1c.form
            have c1 := blk_cell (j := 1) h1c.blk rfl
            obtain ⟨bd, rfl, -, -, -⟩ := h1c.driveAt (by omega)
            obtain ⟨h4, t4, ht⟩ := h1c.putD (d' := ⟨z, 0, true⟩) hd
            have hP4 := Lib.hid (hP.out.set (j := j) (d' := ⟨z, 0, true⟩) (Int.le_refl 0) (by show (0 : Int) ≤ 1024 + T; omega))
            have ha := Lib.hid (rasked_any lo g _ _ _ C _ L _ (Lib.hid h4) hL j (by rw [List.length_set]; exact hj))
            replace t4 := Lib.hid ((TChg.of_below (lo := lo) (ts := rlts) hb1).trans (t4.mono (Nat.le_refl _) (by simp)))
            replace ht := Lib.hid ht
            replace hd := Lib.hid hd
            replace hb1 := Lib.hid hb1
            clear h4 h1c h1
            have i3 : (j : Int) < (D.length : Int) := by omega
            have i4 : (0 : Int) ≤ (j : Int) := by omega
            have i5 : decide ((j : Int) < 0) = false := decide_eq_false (by omega)
            go_wp2_with (first
              | (go_at_call 56; go_must (refine ha.out.mono ?_); rintro e w2 ⟨rfl, ⟨va2, L2, h2, hL2⟩, t2⟩)
              | (refine wpList_store_mid rfl 85 (.tmp 37) (.tmp 36) rfl bd (j * 3) #[.int .i64 z, .int .i64 0, .bool true] rfl rfl ht.out info_rd (all_oneCell_toArray (cs := [.int .i64 z, .int .i64 0, .bool true]) (one_r _ _ _)) ?_))
            go_ret2
            exact ⟨_, _, _, _, _, rfl, h2, hL2, hP4, Lib.hid (t4.out.trans t2.out)⟩
        · clear hTa fin
          have ha := Lib.hid (rasked_any lo g _ _ _ C _ L _ h hL j hj)
          have i5 : decide ((j : Int) < 0) = false := decide_eq_false (by omega)
          go_upto_region 11 with (fail)
          go_wp2_with fail
          refine ha.out.mono ?_
          clear ha
          rintro e w2 ⟨rfl, ⟨va2, L2, h2, hL2⟩, t2⟩
          obtain ⟨d, hd⟩ : ∃ d, D[j]? = some d := ⟨_, List.getElem?_eq_getElem hj⟩
          have h2c := h2.out
          obtain ⟨Ac, cc, Ad, cd, Aa, ca, rfl, rfl, rfl⟩ := h2c.form
          have c1 := blk_cell (j := 1) h2c.blk rfl
          obtain ⟨bd, rfl, -, -, hc⟩ := h2c.driveAt (by omega)
          obtain ⟨-, a1, -⟩ := hc j d hd
          obtain ⟨h4, t4, f4⟩ := h2c.setD (k := 1) (u := .int .i64 p) (d' := { d with pos := p }) hd (by decide) rfl
          have hP4 := Lib.hid (hP.out.set (j := j) (d' := { d with pos := p }) hp0' (by show p ≤ 1024 + (T : Int); omega))
          replace t4 := Lib.hid (t2.out.trans (t4.mono (Nat.le_refl _) (by simp)))
          replace h4 := Lib.hid h4
          clear hc h2c
          obtain ⟨c, q, wk⟩ := d
          simp only at a1 h4 hP4
          replace hd := Lib.hid hd
          have i3 : (j : Int) < (D.length : Int) := by omega
          have i4 : (0 : Int) ≤ (j : Int) := by omega
          by_cases hq : q = p
          · subst hq
            go_wp2_with fail
            go_ret2
            exact ⟨_, _, _, _, _, rfl, h2, hL2, hP, t2⟩
          · have i6 : (q == p) = false := beq_false_of_ne hq
            replace hq := Lib.hid hq
            go_wp2_with fail
            go_ret2
            exact ⟨_, _, _, _, _, rfl, h4, hL2, hP4, t4⟩
  · rw [decide_eq_false hz] at hIs
    replace hIs := Lib.hid hIs
    replace hz := Lib.hid hz
    go_enter Try.func48, Try.ntmps48
    go_wp2_with (go_at_call 40; go_must (refine hIs.out.mono ?_); rintro e w' ⟨rfl, hee⟩; rw [hee]; clear hee)
    go_ret2
    exact fin.out _ _ _ (Below.refl _ _)
end
end Go.Proofs.Ytfjhdcppehfiiaa
