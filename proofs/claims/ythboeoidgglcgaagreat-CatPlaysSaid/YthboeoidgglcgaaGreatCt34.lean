/- cat: whether two lists of texts are one. -/
import Derived.Test.YthboeoidgglcgaaGreatCtZ
namespace Go.Proofs.YthboeoidgglcgaaGreat
set_option linter.unusedVariables false
set_option linter.unusedSimpArgs false
open Go Go.RowKit Go.Maps Go.Sort Go.Shelf Go.Proofs
theorem OS.len {l : List By} {A : Option Addr} {n c base : Nat} {w : World} (h : OS l (.slice A n c) base w) : l.length = n ∧ n ≤ maxLen := by
  obtain ⟨A', c', e, h1, h2⟩ := OS.form h
  injection e with _ e _
  exact ⟨e.symm, by omega⟩
set_option maxHeartbeats 2000000 in
set_option maxRecDepth 10000 in
theorem same_any (l m : List By) (A B : Option Addr) (n n2 c d b1 b2 : Nat) (w : World) (h : OS l (.slice A n c) b1 w) (h2 : OS m (.slice B n2 d) b2 w) :
    Calls Tryz.prog 31 #[.slice A n c, .slice B n2 d] w fun e w' => e = .returned (.bool (decide (l = m))) ∧ Gr w w' := by
  obtain ⟨hl, hnm⟩ := OS.len h
  obtain ⟨hl2, -⟩ := OS.len h2
  have hnm : n ≤ 9223372036854775807 := by simp only [maxLen] at hnm; omega
  replace h := Lib.hid h
  replace h2 := Lib.hid h2
  obtain ⟨k, hk⟩ : ∃ k, decide (l = m) = k := ⟨_, rfl⟩
  rw [hk]
  replace hk := Lib.hid hk
  by_cases hne : n = n2
  · subst hne
    replace hl := Lib.hid hl
    replace hl2 := Lib.hid hl2
    go_enter Tryz.func31, Tryz.ntmps31
    go_wp2_with fail
    go_loopw [5] (fun i wr => ∃ j : Nat, i = .int .i64 j ∧ j ≤ n ∧ Hid (∀ t, t < j → l[t]? = m[t]?) ∧ Hid (Gr w wr)) (fun i _ => n - (intOf i).toNat)
    case atStart => exact ⟨0, rfl, Nat.zero_le _, Lib.hid (fun t ht => absurd ht (by omega)), Lib.hid (Gr.refl _)⟩
    case round =>
      obtain ⟨j, rfl, hj, hall, hb⟩ := hrel
      by_cases hlt : j < n
      · have ii : (j : Int) < (n : Int) := by omega
        have hgd : Gr wr wr.drew := (Below.refl _ _).drew
        obtain ⟨wd, hwd⟩ : ∃ wd, wd = wr.drew := ⟨_, rfl⟩
        rw [← hwd] at hgd
        have hb2 : Hid (Gr w wd) := Lib.hid (hb.out.trans hgd)
        obtain ⟨g1, rfl, -, -, hg1, hc1⟩ := OS.at_ (OS.below hb2.out h.out) (by rw [hl.out]; omega)
        obtain ⟨g2, rfl, -, -, hg2, hc2⟩ := OS.at_ (OS.below hb2.out h2.out) (by rw [hl2.out]; omega)
        obtain ⟨x, hx⟩ : ∃ x, l[j]? = some x := ⟨_, List.getElem?_eq_getElem (by rw [hl.out]; exact hlt)⟩
        obtain ⟨y, hy⟩ : ∃ y, m[j]? = some y := ⟨_, List.getElem?_eq_getElem (by rw [hl2.out]; exact hlt)⟩
        have x0 := hc1 j x hx
        have y0 := hc2 j y hy
        replace hx := Lib.hid hx
        replace hy := Lib.hid hy
        clear hc1 hc2 hgd
        go_upto_region 6 with (fail)
        by_cases hxy : x = y
        · have hall2 : Hid (∀ t, t < j + 1 → l[t]? = m[t]?) := Lib.hid (fun t ht => by
            by_cases ht' : t < j
            · exact hall.out t ht'
            · have : t = j := by omega
              subst this
              rw [hx.out, hy.out, hxy])
          subst hxy
          refine wpR_region (Eq) 9999 (by kernel_rfl) ?_
          (rw [← hwd]; replace hwd := Lib.hid hwd)
          refine wT (i := 0) (v := ?_) (⟨fun _ => rfl, Eq.trans⟩) (some 17) rfl (fun w' hw' => ?_) ?_
          rotate_left
          · go_simp; with_reducible rfl
          simp only [Act.put, List.setIfInBounds_toArray, List.set_cons_zero, List.set_cons_succ]
          refine wT (i := 1) (v := ?_) (⟨fun _ => rfl, Eq.trans⟩) (some 18) rfl (fun w' hw' => ?_) ?_
          rotate_left
          · go_simp; with_reducible rfl
          simp only [Act.put, List.setIfInBounds_toArray, List.set_cons_zero, List.set_cons_succ]
          refine wT (i := 2) (v := ?_) (⟨fun _ => rfl, Eq.trans⟩) (some 19) rfl (fun w' hw' => ?_) ?_
          rotate_left
          · go_simp; with_reducible rfl
          simp only [Act.put, List.setIfInBounds_toArray, List.set_cons_zero, List.set_cons_succ]
          refine wT (i := 3) (v := ?_) (⟨fun _ => rfl, Eq.trans⟩) (some 20) rfl (fun w' hw' => ?_) ?_
          rotate_left
          · subst hw'; go_simp; with_reducible rfl
          simp only [Act.put, List.setIfInBounds_toArray, List.set_cons_zero, List.set_cons_succ]
          refine wT (i := 4) (v := ?_) (⟨fun _ => rfl, Eq.trans⟩) (some 21) rfl (fun w' hw' => ?_) ?_
          rotate_left
          · go_simp; with_reducible rfl
          simp only [Act.put, List.setIfInBounds_toArray, List.set_cons_zero, List.set_cons_succ]
          refine wT (i := 5) (v := ?_) (⟨fun _ => rfl, Eq.trans⟩) (some 22) rfl (fun w' hw' => ?_) ?_
          rotate_left
          · go_simp; with_reducible rfl
          simp only [Act.put, List.setIfInBounds_toArray, List.set_cons_zero, List.set_cons_succ]
          refine wT (i := 6) (v := ?_) (⟨fun _ => rfl, Eq.trans⟩) (some 23) rfl (fun w' hw' => ?_) ?_
          rotate_left
          · go_simp; with_reducible rfl
          simp only [Act.put, List.setIfInBounds_toArray, List.set_cons_zero, List.set_cons_succ]
          refine wT (i := 7) (v := ?_) (⟨fun _ => rfl, Eq.trans⟩) (some 24) rfl (fun w' hw' => ?_) ?_
          rotate_left
          · subst hw'; go_simp; with_reducible rfl
          simp only [Act.put, List.setIfInBounds_toArray, List.set_cons_zero, List.set_cons_succ]
          refine wT (i := 8) (v := ?_) (⟨fun _ => rfl, Eq.trans⟩) (some 25) rfl (fun w' hw' => ?_) ?_
          rotate_left
          · go_simp; with_reducible rfl
          simp only [Act.put, List.setIfInBounds_toArray, List.set_cons_zero, List.set_cons_succ]
          refine wpR_done (by kernel_rfl) ?_ _
          go_wp2_with fail
          go_roundw
          case rel => exact ⟨j + 1, by go_num, by omega, hall2, hb2⟩
          case measure => simp [intOf]; omega
        · have hxyb : (x == y) = false := by simpa using hxy
          have hkf : k = false := by
            rw [← hk.out]
            exact decide_eq_false (fun e => hxy (by have h1 := hx.out; rw [e, hy.out] at h1; injection h1 with h1; exact h1.symm))
          subst hkf
          refine wpR_region (Eq) 9999 (by kernel_rfl) ?_
          (rw [← hwd]; replace hwd := Lib.hid hwd)
          refine wT (i := 0) (v := ?_) (⟨fun _ => rfl, Eq.trans⟩) (some 17) rfl (fun w' hw' => ?_) ?_
          rotate_left
          · go_simp; with_reducible rfl
          simp only [Act.put, List.setIfInBounds_toArray, List.set_cons_zero, List.set_cons_succ]
          refine wT (i := 1) (v := ?_) (⟨fun _ => rfl, Eq.trans⟩) (some 18) rfl (fun w' hw' => ?_) ?_
          rotate_left
          · go_simp; with_reducible rfl
          simp only [Act.put, List.setIfInBounds_toArray, List.set_cons_zero, List.set_cons_succ]
          refine wT (i := 2) (v := ?_) (⟨fun _ => rfl, Eq.trans⟩) (some 19) rfl (fun w' hw' => ?_) ?_
          rotate_left
          · go_simp; with_reducible rfl
          simp only [Act.put, List.setIfInBounds_toArray, List.set_cons_zero, List.set_cons_succ]
          refine wT (i := 3) (v := ?_) (⟨fun _ => rfl, Eq.trans⟩) (some 20) rfl (fun w' hw' => ?_) ?_
          rotate_left
          · subst hw'; go_simp; with_reducible rfl
          simp only [Act.put, List.setIfInBounds_toArray, List.set_cons_zero, List.set_cons_succ]
          refine wT (i := 4) (v := ?_) (⟨fun _ => rfl, Eq.trans⟩) (some 21) rfl (fun w' hw' => ?_) ?_
          rotate_left
          · go_simp; with_reducible rfl
          simp only [Act.put, List.setIfInBounds_toArray, List.set_cons_zero, List.set_cons_succ]
          refine wT (i := 5) (v := ?_) (⟨fun _ => rfl, Eq.trans⟩) (some 22) rfl (fun w' hw' => ?_) ?_
          rotate_left
          · go_simp; with_reducible rfl
          simp only [Act.put, List.setIfInBounds_toArray, List.set_cons_zero, List.set_cons_succ]
          refine wT (i := 6) (v := ?_) (⟨fun _ => rfl, Eq.trans⟩) (some 23) rfl (fun w' hw' => ?_) ?_
          rotate_left
          · go_simp; with_reducible rfl
          simp only [Act.put, List.setIfInBounds_toArray, List.set_cons_zero, List.set_cons_succ]
          refine wT (i := 7) (v := ?_) (⟨fun _ => rfl, Eq.trans⟩) (some 24) rfl (fun w' hw' => ?_) ?_
          rotate_left
          · subst hw'; go_simp; with_reducible rfl
          simp only [Act.put, List.setIfInBounds_toArray, List.set_cons_zero, List.set_cons_succ]
          refine wT (i := 8) (v := ?_) (⟨fun _ => rfl, Eq.trans⟩) (some 25) rfl (fun w' hw' => ?_) ?_
          rotate_left
          · go_simp; with_reducible rfl
          simp only [Act.put, List.setIfInBounds_toArray, List.set_cons_zero, List.set_cons_succ]
          refine wpR_done (by kernel_rfl) ?_ _
          go_wp2_with fail
          go_ret
          exact ⟨rfl, hb2.out⟩
      · obtain rfl : j = n := by omega
        have hkt : k = true := by
          rw [← hk.out]
          exact decide_eq_true (List.ext_getElem? fun t => by
            by_cases ht : t < j
            · exact hall.out t ht
            · rw [List.getElem?_eq_none (by rw [hl.out]; omega), List.getElem?_eq_none (by rw [hl2.out]; omega)])
        subst hkt
        go_wp2_with fail
        go_ret
        exact ⟨rfl, hb.out⟩
  · have hkf : k = false := by
      rw [← hk.out]
      exact decide_eq_false (fun e => hne (by rw [← hl, ← hl2, e]))
    subst hkf
    have hnb : ((n : Int) != (n2 : Int)) = true := by simp; omega
    replace hl := Lib.hid hl
    replace hl2 := Lib.hid hl2
    go_enter Tryz.func31, Tryz.ntmps31
    go_wp2_with fail
    go_ret
    exact ⟨rfl, Gr.refl _⟩
/-- what two catalogs show -/
def viewE (c d : CtP) : Bool := decide (notesP c = notesP d) && decide (keysP c = keysP d) && decide (c.W.map Prod.fst = d.W.map Prod.fst)
end Go.Proofs.YthboeoidgglcgaaGreat
