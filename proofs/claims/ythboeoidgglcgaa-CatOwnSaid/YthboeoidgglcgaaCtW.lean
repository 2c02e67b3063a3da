/- cat: whether two lists of texts are one. -/
import Derived.Test.YthboeoidgglcgaaCtZ
namespace Go.Proofs.Ythboeoidgglcgaa
set_option linter.unusedVariables false
set_option linter.unusedSimpArgs false
open Go Go.RowKit Go.Maps Go.Sort Go.Shelf Go.Proofs
theorem OS.len {l : List By} {A : Option Addr} {n c base : Nat} {w : World} (h : OS l (.slice A n c) base w) : l.length = n ∧ n ≤ maxLen := by
  obtain ⟨A', c', e, h1, h2⟩ := OS.form h
  injection e with _ e _
  exact ⟨e.symm, by omega⟩
set_option maxHeartbeats 2000000 in
set_option maxRecDepth 10000 in
theorem same_any (l m : List By) (A B : Option Addr) (n n2 c d b1 b2 : Nat) (w : World) (h : OS l (.slice A n c) b1 w) (h2 : OS m (.slice B n2 d) b2 w) :
    Calls Try.prog 38 #[.slice A n c, .slice B n2 d] w fun e w' => e = .returned (.bool (decide (l = m))) ∧ Gr w w' := by
  obtain ⟨hl, hnm⟩ := OS.len h
  obtain ⟨hl2, -⟩ := OS.len h2
  have hnm : n ≤ 9223372036854775807 := by simp only [maxLen] at hnm; omega
  replace h := Lib.hid h
  replace h2 := Lib.hid h2
  obtain ⟨k, hk⟩ : ∃ k, decide (l = m) = k := ⟨_, rfl⟩
  rw [hk]
  replace hk := Lib.hid hk
  by_cases hne : n = n2
  · subst hne
    replace hl := Lib.hid hl
    replace hl2 := Lib.hid hl2
    go_enter Try.func38, Try.ntmps38
    go_wp2_with fail
    go_loopw [5] (fun i wr => ∃ j : Nat, i = .int .i64 j ∧ j ≤ n ∧ Hid (∀ t, t < j → l[t]? = m[t]?) ∧ Hid (Gr w wr)) (fun i _ => n - (intOf i).toNat)
    case atStart => exact ⟨0, rfl, Nat.zero_le _, Lib.hid (fun t ht => absurd ht (by omega)), Lib.hid (Gr.refl _)⟩
    case round =>
      obtain ⟨j, rfl, hj, hall, hb⟩ := hrel
      by_cases hlt : j < n
      · have ii : (j : Int) < (n : Int) := by omega
        have hgd : Gr wr wr.drew := (Below.refl _ _).drew
        obtain ⟨wd, hwd⟩ : ∃ wd, wd = wr.drew := ⟨_, rfl⟩
        rw [← hwd] at hgd
        have hb2 : Hid (Gr w wd) := Lib.hid (hb.out.trans hgd)
        obtain ⟨g1, rfl, -, -, hg1, hc1⟩ := OS.at_ (OS.below hb2.out h.out) (by rw [hl.out]; omega)
        obtain ⟨g2, rfl, -, -, hg2, hc2⟩ := OS.at_ (OS.below hb2.out h2.out) (by rw [hl2.out]; omega)
        obtain ⟨x, hx⟩ : ∃ x, l[j]? = some x := ⟨_, List.getElem?_eq_getElem (by rw [hl.out]; exact hlt)⟩
        obtain ⟨y, hy⟩ : ∃ y, m[j]? = some y := ⟨_, List.getElem?_eq_getElem (by rw [hl2.out]; exact hlt)⟩
        have x0 := hc1 j x hx
        have y0 := hc2 j y hy
        replace hx := Lib.hid hx
        replace hy := Lib.hid hy
        clear hc1 hc2 hgd
        go_upto_region 6 with (fail)
        by_cases hxy : x = y
        · have hall2 : Hid (∀ t, t < j + 1 → l[t]? = m[t]?) := Lib.hid (fun t ht => by
            by_cases ht' : t < j
            · exact hall.out t ht'
            · have : t = j := by omega
              subst this
              rw [hx.out, hy.out, hxy])
          subst hxy
          refine wpR_region (Eq) 9999 (by kernel_rfl) ?_
          (rw [← hwd]; replace hwd := Lib.hid hwd)
          refine wpR_take (i := 0) (v := ?_) (⟨fun _ => rfl, Eq.trans⟩) (some 17) rfl (by kernel_rfl) (by kernel_rfl) (by kernel_rfl) (by kernel_rfl) (by kernel_rfl) (fun _ _ _ h => h) (by kernel_rfl) (fun w' hw' => ?_) ?_
          rotate_left
          · go_simp; with_reducible rfl
          simp only [Act.put, List.setIfInBounds_toArray, List.set_cons_zero, List.set_cons_succ]
          refine wpR_take (i := 1) (v := ?_) (⟨fun _ => rfl, Eq.trans⟩) (some 18) rfl (by kernel_rfl) (by kernel_rfl) (by kernel_rfl) (by kernel_rfl) (by kernel_rfl) (fun _ _ _ h => h) (by kernel_rfl) (fun w' hw' => ?_) ?_
          rotate_left
          · go_simp; with_reducible rfl
          simp only [Act.put, List.setIfInBounds_toArray, List.set_cons_zero, List.set_cons_succ]
          refine wpR_take (i := 2) (v := ?_) (⟨fun _ => rfl, Eq.trans⟩) (some 19) rfl (by kernel_rfl) (by kernel_rfl) (by kernel_rfl) (by kernel_rfl) (by kernel_rfl) (fun _ _ _ h => h) (by kernel_rfl) (fun w' hw' => ?_) ?_
          rotate_left
          · go_simp; with_reducible rfl
          simp only [Act.put, List.setIfInBounds_toArray, List.set_cons_zero, List.set_cons_succ]
          refine wpR_take (i := 3) (v := ?_) (⟨fun _ => rfl, Eq.trans⟩) (some 20) rfl (by kernel_rfl) (by kernel_rfl) (by kernel_rfl) (by kernel_rfl) (by kernel_rfl) (fun _ _ _ h => h) (by kernel_rfl) (fun w' hw' => ?_) ?_
          rotate_left
          · subst hw'; go_simp; with_reducible rfl
          simp only [Act.put, List.setIfInBounds_toArray, List.set_cons_zero, List.set_cons_succ]
          refine wpR_take (i := 4) (v := ?_) (⟨fun _ => rfl, Eq.trans⟩) (some 21) rfl (by kernel_rfl) (by kernel_rfl) (by kernel_rfl) (by kernel_rfl) (by kernel_rfl) (fun _ _ _ h => h) (by kernel_rfl) (fun w' hw' => ?_) ?_
          rotate_left
          · go_simp; with_reducible rfl
          simp only [Act.put, List.setIfInBounds_toArray, List.set_cons_zero, List.set_cons_succ]
          refine wpR_take (i := 5) (v := ?_) (⟨fun _ => rfl, Eq.trans⟩) (some 22) rfl (by kernel_rfl) (by kernel_rfl) (by kernel_rfl) (by kernel_rfl) (by kernel_rfl) (fun _ _ _ h => h) (by kernel_rfl) (fun w' hw' => ?_) ?_
          rotate_left
          · go_simp; with_reducible rfl
          simp only [Act.put, List.setIfInBounds_toArray, List.set_cons_zero, List.set_cons_succ]
          refine wpR_take (i := 6) (v := ?_) (⟨fun _ => rfl, Eq.trans⟩) (some 23) rfl (by kernel_rfl) (by kernel_rfl) (by kernel_rfl) (by kernel_rfl) (by kernel_rfl) (fun _ _ _ h => h) (by kernel_rfl) (fun w' hw' => ?_) ?_
          rotate_left
          · go_simp; with_reducible rfl
          simp only [Act.put, List.setIfInBounds_toArray, List.set_cons_zero, List.set_cons_succ]
          refine wpR_take (i := 7) (v := ?_) (⟨fun _ => rfl, Eq.trans⟩) (some 24) rfl (by kernel_rfl) (by kernel_rfl) (by kernel_rfl) (by kernel_rfl) (by kernel_rfl) (fun _ _ _ h => h) (by kernel_rfl) (fun w' hw' => ?_) ?_
          rotate_left
          · subst hw'; go_simp; with_reducible rfl
          simp only [Act.put, List.setIfInBounds_toArray, List.set_cons_zero, List.set_cons_succ]
          refine wpR_take (i := 8) (v := ?_) (⟨fun _ => rfl, Eq.trans⟩) (some 25) rfl (by kernel_rfl) (by kernel_rfl) (by kernel_rfl) (by kernel_rfl) (by kernel_rfl) (fun _ _ _ h => h) (by kernel_rfl) (fun w' hw' => ?_) ?_
          rotate_left
          · go_simp; with_reducible rfl
          simp only [Act.put, List.setIfInBounds_toArray, List.set_cons_zero, List.set_cons_succ]
          refine wpR_done (by kernel_rfl) ?_ _
          go_wp2_with fail
          go_roundw
          case rel => exact ⟨j + 1, by go_num, by omega, hall2, hb2⟩
          case measure => simp [intOf]; omega
        · have hxyb : (x == y) = false := by simpa using hxy
          have hkf : k = false := by
            rw [← hk.out]
            exact decide_eq_false (fun e => hxy (by have h1 := hx.out; rw [e, hy.out] at h1; injection h1 with h1; exact h1.symm))
          subst hkf
          refine wpR_region (Eq) 9999 (by kernel_rfl) ?_
          (rw [← hwd]; replace hwd := Lib.hid hwd)
          refine wpR_take (i := 0) (v := ?_) (⟨fun _ => rfl, Eq.trans⟩) (some 17) rfl (by kernel_rfl) (by kernel_rfl) (by kernel_rfl) (by kernel_rfl) (by kernel_rfl) (fun _ _ _ h => h) (by kernel_rfl) (fun w' hw' => ?_) ?_
          rotate_left
          · go_simp; with_reducible rfl
          simp only [Act.put, List.setIfInBounds_toArray, List.set_cons_zero, List.set_cons_succ]
          refine wpR_take (i := 1) (v := ?_) (⟨fun _ => rfl, Eq.trans⟩) (some 18) rfl (by kernel_rfl) (by kernel_rfl) (by kernel_rfl) (by kernel_rfl) (by kernel_rfl) (fun _ _ _ h => h) (by kernel_rfl) (fun w' hw' => ?_) ?_
          rotate_left
          · go_simp; with_reducible rfl
          simp only [Act.put, List.setIfInBounds_toArray, List.set_cons_zero, List.set_cons_succ]
          refine wpR_take (i := 2) (v := ?_) (⟨fun _ => rfl, Eq.trans⟩) (some 19) rfl (by kernel_rfl) (by kernel_rfl) (by kernel_rfl) (by kernel_rfl) (by kernel_rfl) (fun _ _ _ h => h) (by kernel_rfl) (fun w' hw' => ?_) ?_
          rotate_left
          · go_simp; with_reducible rfl
          simp only [Act.put, List.setIfInBounds_toArray, List.set_cons_zero, List.set_cons_succ]
          refine wpR_take (i := 3) (v := ?_) (⟨fun _ => rfl, Eq.trans⟩) (some 20) rfl (by kernel_rfl) (by kernel_rfl) (by kernel_rfl) (by kernel_rfl) (by kernel_rfl) (fun _ _ _ h => h) (by kernel_rfl) (fun w' hw' => ?_) ?_
          rotate_left
          · subst hw'; go_simp; with_reducible rfl
          simp only [Act.put, List.setIfInBounds_toArray, List.set_cons_zero, List.set_cons_succ]
          refine wpR_take (i := 4) (v := ?_) (⟨fun _ => rfl, Eq.trans⟩) (some 21) rfl (by kernel_rfl) (by kernel_rfl) (by kernel_rfl) (by kernel_rfl) (by kernel_rfl) (fun _ _ _ h => h) (by kernel_rfl) (fun w' hw' => ?_) ?_
          rotate_left
          · go_simp; with_reducible rfl
          simp only [Act.put, List.setIfInBounds_toArray, List.set_cons_zero, List.set_cons_succ]
          refine wpR_take (i := 5) (v := ?_) (⟨fun _ => rfl, Eq.trans⟩) (some 22) rfl (by kernel_rfl) (by kernel_rfl) (by kernel_rfl) (by kernel_rfl) (by kernel_rfl) (fun _ _ _ h => h) (by kernel_rfl) (fun w' hw' => ?_) ?_
          rotate_left
          · go_simp; with_reducible rfl
          simp only [Act.put, List.setIfInBounds_toArray, List.set_cons_zero, List.set_cons_succ]
          refine wpR_take (i := 6) (v := ?_) (⟨fun _ => rfl, Eq.trans⟩) (some 23) rfl (by kernel_rfl) (by kernel_rfl) (by kernel_rfl) (by kernel_rfl) (by kernel_rfl) (fun _ _ _ h => h) (by kernel_rfl) (fun w' hw' => ?_) ?_
          rotate_left
          · go_simp; with_reducible rfl
          simp only [Act.put, List.setIfInBounds_toArray, List.set_cons_zero, List.set_cons_succ]
          refine wpR_take (i := 7) (v := ?_) (⟨fun _ => rfl, Eq.trans⟩) (some 24) rfl (by kernel_rfl) (by kernel_rfl) (by kernel_rfl) (by kernel_rfl) (by kernel_rfl) (fun _ _ _ h => h) (by kernel_rfl) (fun w' hw' => ?_) ?_
          rotate_left
          · subst hw'; go_simp; with_reducible rfl
          simp only [Act.put, List.setIfInBounds_toArray, List.set_cons_zero, List.set_cons_succ]
          refine wpR_take (i := 8) (v := ?_) (⟨fun _ => rfl, Eq.trans⟩) (some 25) rfl (by kernel_rfl) (by kernel_rfl) (by kernel_rfl) (by kernel_rfl) (by kernel_rfl) (fun _ _ _ h => h) (by kernel_rfl) (fun w' hw' => ?_) ?_
          rotate_left
          · go_simp; with_reducible rfl
          simp only [Act.put, List.setIfInBounds_toArray, List.set_cons_zero, List.set_cons_succ]
          refine wpR_done (by kernel_rfl) ?_ _
          go_wp2_with fail
          go_ret
          exact ⟨rfl, hb2.out⟩
      · obtain rfl : j = n := by omega
        have hkt : k = true := by
          rw [← hk.out]
          exact decide_eq_true (List.ext_getElem? fun t => by
            by_cases ht : t < j
            · exact hall.out t ht
            · rw [List.getElem?_eq_none (by rw [hl.out]; omega), List.getElem?_eq_none (by rw [hl2.out]; omega)])
        subst hkt
        go_wp2_with fail
        go_ret
        exact ⟨rfl, hb.out⟩
  · have hkf : k = false := by
      rw [← hk.out]
      exact decide_eq_false (fun e => hne (by rw [← hl, ← hl2, e]))
    subst hkf
    have hnb : ((n : Int) != (n2 : Int)) = true := by simp; omega
    replace hl := Lib.hid hl
    replace hl2 := Lib.hid hl2
    go_enter Try.func38, Try.ntmps38
    go_wp2_with fail
    go_ret
    exact ⟨rfl, Gr.refl _⟩
/-- what two catalogs show -/
def viewE (c d : CtP) : Bool := decide (notesP c = notesP d) && decide (keysP c = keysP d) && decide (c.W.map Prod.fst = d.W.map Prod.fst)
set_option maxHeartbeats 2000000 in
set_option maxRecDepth 10000 in
theorem views_any (lo1 g1 t1 lo2 g2 t2 : Nat) (x1 x2 : CtX) (c1 c2 : CtP) (w : World) (h1 : Hid (Ca w lo1 g1 x1 c1 t1)) (h2 : Hid (Ca w lo2 g2 x2 c2 t2)) (ht1 : t1 ≤ 1000) (ht2 : t2 ≤ 1000) (hv : viewE c1 c2 = true) :
    Calls Try.prog 13 #[.pointer (some ⟨g1, 0, none⟩), .pointer (some ⟨g2, 0, none⟩)] w fun e w' => e = .returned (.bool true) ∧ Gr w w' := by
  unfold viewE at hv
  rw [Bool.and_eq_true, Bool.and_eq_true, decide_eq_true_iff, decide_eq_true_iff, decide_eq_true_iff] at hv
  obtain ⟨⟨hv1, hv2⟩, hv3⟩ := hv
  have hn1 := Lib.hid (notes_any lo1 g1 t1 x1 c1 w h1 ht1)
  replace hv1 := Lib.hid hv1
  replace hv2 := Lib.hid hv2
  replace hv3 := Lib.hid hv3
  go_enter Try.func13, Try.ntmps13
  go_wp2_with (first
    | (go_at_call 11; first
      | (refine hn1.out.mono ?_; clear hn1; rintro e wa ⟨E1, A1, d1, rfl, hE1, ho1, hga⟩
         obtain ⟨m1, hm1⟩ : ∃ m, E1.length = m := ⟨_, rfl⟩
         rw [hm1] at ho1 ⊢
         replace hm1 := Lib.hid hm1
         have hn2 := Lib.hid (notes_any lo2 g2 t2 x2 c2 wa (Lib.hid (h2.out.gr hga)) ht2)
         replace ho1 := Lib.hid ho1
         replace hE1 := Lib.hid hE1
         replace hga := Lib.hid hga)
      | (refine hn2.out.mono ?_; clear hn2; rintro e wb ⟨E2, A2, d2, rfl, hE2, ho2, hgb⟩
         have hwb : Hid (Gr w wb) := Lib.hid (hga.out.trans hgb)
         have hal := Lib.hid (alike_any _ _ _ _ wb ((ho1.out.gr hgb).ns) ho2.ns)
         rw [hE1.out, hE2, hv1.out, decide_eq_true rfl] at hal
         obtain ⟨m2, hm2⟩ : ∃ m, E2.length = m := ⟨_, rfl⟩
         rw [hm2] at hal ⊢
         replace hm2 := Lib.hid hm2
         replace ho2 := Lib.hid ho2
         replace hgb := Lib.hid hgb))
    | (go_at_call 16; go_must (refine hal.out.mono ?_); clear hal; rintro e wc ⟨rfl, hgc⟩
       have hwc : Hid (Gr w wc) := Lib.hid (hwb.out.trans hgc)
       have hk1 := Lib.hid (keys_any lo1 g1 t1 x1 c1 wc (Lib.hid (h1.out.gr hwc.out)) ht1)
       replace hgc := Lib.hid hgc)
    | (go_at_call 17; first
      | (refine hk1.out.mono ?_; clear hk1; rintro e we ⟨A3, d3, rfl, ho3, hge⟩
         have hwe : Hid (Gr w we) := Lib.hid (hwc.out.trans hge)
         have hk2 := Lib.hid (keys_any lo2 g2 t2 x2 c2 we (Lib.hid (h2.out.gr hwe.out)) ht2)
         obtain ⟨m3, hm3⟩ : ∃ m, (keysP c1).length = m := ⟨_, rfl⟩
         rw [hm3] at ho3 ⊢
         replace hm3 := Lib.hid hm3
         replace ho3 := Lib.hid ho3
         replace hge := Lib.hid hge)
      | (refine hk2.out.mono ?_; clear hk2; rintro e wf ⟨A4, d4, rfl, ho4, hgf⟩
         have hwf : Hid (Gr w wf) := Lib.hid (hwe.out.trans hgf)
         obtain ⟨m4, hm4⟩ : ∃ m, (keysP c2).length = m := ⟨_, rfl⟩
         rw [hm4] at ho4 ⊢
         have hs1 := Lib.hid (same_any _ _ _ _ _ _ _ _ _ _ wf (OS.below hgf ho3.out) ho4)
         rw [hv2.out, decide_eq_true rfl] at hs1
         replace hm4 := Lib.hid hm4
         replace ho4 := Lib.hid ho4
         replace hgf := Lib.hid hgf))
    | (go_at_call 38; first
      | (refine hs1.out.mono ?_; clear hs1; rintro e wg ⟨rfl, hgg⟩
         have hwg : Hid (Gr w wg) := Lib.hid (hwf.out.trans hgg)
         have ht1' := Lib.hid (staged_any lo1 g1 t1 x1 c1 wg (Lib.hid (h1.out.gr hwg.out)) ht1)
         replace hgg := Lib.hid hgg)
      | (refine hs2.out.mono ?_; clear hs2; rintro e wz ⟨rfl, hgz⟩
         have hwz : Hid (Gr w wz) := Lib.hid (hwj.out.trans hgz)))
    | (go_at_call 18; first
      | (refine ht1'.out.mono ?_; clear ht1'; rintro e wh ⟨A5, d5, rfl, ho5, hgh⟩
         have hwh : Hid (Gr w wh) := Lib.hid (hwg.out.trans hgh)
         have ht2' := Lib.hid (staged_any lo2 g2 t2 x2 c2 wh (Lib.hid (h2.out.gr hwh.out)) ht2)
         obtain ⟨m5, hm5⟩ : ∃ m, x1.W.length = m := ⟨_, rfl⟩
         rw [hm5] at ho5 ⊢
         replace hm5 := Lib.hid hm5
         replace ho5 := Lib.hid ho5
         replace hgh := Lib.hid hgh)
      | (refine ht2'.out.mono ?_; clear ht2'; rintro e wj ⟨A6, d6, rfl, ho6, hgj⟩
         have hwj : Hid (Gr w wj) := Lib.hid (hwh.out.trans hgj)
         obtain ⟨m6, hm6⟩ : ∃ m, x2.W.length = m := ⟨_, rfl⟩
         rw [hm6] at ho6 ⊢
         have hs2 := Lib.hid (same_any _ _ _ _ _ _ _ _ _ _ wj (OS.below hgj ho5.out) ho6)
         rw [hv3.out, decide_eq_true rfl] at hs2
         replace hm6 := Lib.hid hm6
         replace ho6 := Lib.hid ho6
         replace hgj := Lib.hid hgj)))
  go_ret
  exact ⟨by first | rfl | simp, hwz.out⟩
end Go.Proofs.Ythboeoidgglcgaa
/- cat: a catalog's notes make the same, plain. -/
namespace Go.Proofs.Ythboeoidgglcgaa
set_option linter.unusedVariables false
set_option linter.unusedSimpArgs false
open Go Go.RowKit Go.Maps Go.Sort Go.Shelf Go.Proofs
/-- all notes are taken -/
def runN : CtP → List Nt → Option CtP
  | c, [] => some c
  | c, n :: L => if (c.apply n).1 = 0 then runN (c.apply n).2 L else none
theorem runN_cons (c : CtP) (n : Nt) (L : List Nt) : runN c (n :: L) = if (c.apply n).1 = 0 then runN (c.apply n).2 L else none := rfl
theorem runN_append (c : CtP) (L M : List Nt) : runN c (L ++ M) = (runN c L).bind (fun d => runN d M) := by
  induction L generalizing c with
  | nil => rfl
  | cons n L ih =>
    rw [List.cons_append, runN_cons, runN_cons]
    split
    · exact ih _
    · rfl
theorem runN_snoc {c d : CtP} {L : List Nt} (h : runN c L = some d) {n : Nt} {d' : CtP} (hn : d.apply n = (0, d')) : runN c (L ++ [n]) = some d' := by
  rw [runN_append, h]
  show runN d [n] = _
  unfold runN
  rw [hn, if_pos rfl]
  rfl
theorem runN_at {c d : CtP} {L : List Nt} (h : runN c L = some d) : ∀ i n, L[i]? = some n → ∃ di, runN c (L.take i) = some di ∧ (di.apply n).1 = 0 ∧ runN c (L.take (i + 1)) = some (di.apply n).2 := by
  intro i n hn
  have e : L = L.take i ++ n :: L.drop (i + 1) := by
    have h1 := List.getElem?_eq_some_iff.mp hn
    obtain ⟨h2, h3⟩ := h1
    rw [← h3, ← List.drop_eq_getElem_cons h2, List.take_append_drop]
  have h' := h
  rw [e, runN_append] at h'
  cases hd : runN c (L.take i) with
  | none => rw [hd] at h'; cases h'
  | some di =>
    rw [hd] at h'
    have h' : runN di (n :: L.drop (i + 1)) = some d := h'
    unfold runN at h'
    split at h'
    · rename_i h0
      refine ⟨di, rfl, h0, ?_⟩
      rw [List.take_add_one, hn]
      exact runN_snoc hd (Prod.ext h0 rfl)
    · cases h'
/-- two catalogs that show the same -/
structure Sm (c d : CtP) : Prop where
  W : c.W = d.W
  E : c.E = d.E
  b : begP c = begP d
  T : c.T = d.T
  R : c.R.Perm d.R
  G : c.G = d.G
theorem Sm.view {c d : CtP} (h : Sm c d) : viewE c d = true := by
  have hk : keysP c = keysP d := by unfold keysP; rw [h.W, h.E]
  have hn : notesP c = notesP d := by
    unfold notesP genP
    rw [h.W, h.E, h.b, h.T, h.G, show sortZ c.R = sortZ d.R from mergeSort_of_perm_i h.R]
  unfold viewE
  rw [hk, hn, h.W]
  simp
theorem takeN {α : Type} {L : List α} {i : Nat} {x : α} (h : L[i]? = some x) : L.take (i + 1) = L.take i ++ [x] := by rw [List.take_add_one, h]; rfl
theorem mem_takeN {α : Type} {L : List α} {i : Nat} {x : α} (h : x ∈ L.take i) : x ∈ L := List.mem_of_mem_take h
/-- what comes before differs -/
theorem pair_take {α : Type} {R : α → α → Prop} {L : List α} (h : L.Pairwise R) {i : Nat} {x : α} (hx : L[i]? = some x) : ∀ y ∈ L.take i, R y x := by
  intro y hy
  obtain ⟨j, hj⟩ := List.mem_iff_getElem?.mp hy
  rw [List.getElem?_take] at hj
  split at hj
  · rename_i hji
    obtain ⟨a1, a2⟩ := List.getElem?_eq_some_iff.mp hj
    obtain ⟨b1, b2⟩ := List.getElem?_eq_some_iff.mp hx
    have := List.pairwise_iff_getElem.mp h j i a1 b1 hji
    rwa [a2, b2] at this
  · cases hj
theorem run_steps {α : Type} (f : α → Nt) (g : List α → CtP) (L : List α) (hs : ∀ i x, L[i]? = some x → (g (L.take i)).apply (f x) = (0, g (L.take i ++ [x]))) : runN (g []) (L.map f) = some (g L) := by
  have h : ∀ i, i ≤ L.length → runN (g []) ((L.take i).map f) = some (g (L.take i)) := by
    intro i
    induction i with
    | zero => intro _; rfl
    | succ i ih =>
      intro hi
      have hx := List.getElem?_eq_getElem (show i < L.length by omega)
      rw [takeN hx, List.map_append]
      exact runN_snoc (ih (by omega)) (hs i _ hx)
  have := h L.length (Nat.le_refl _)
  rwa [List.take_length] at this
theorem hasP_no {V : Type} {L : List (By × V)} {k : By} (h : ∀ y ∈ L, y.1 ≠ k) : hasP L k = false := by
  cases hh : hasP L k with
  | false => rfl
  | true => obtain ⟨e, he, e1⟩ := (hasP_iff L k).mp hh; exact absurd e1 (h e he)
theorem insP_end {V : Type} {L : List (By × V)} {k : By} (v : V) (h : ∀ y ∈ L, y.1 < k) : insP L k v = L ++ [(k, v)] := by
  unfold insP
  have h12 : L.takeWhile (fun e => decide (e.1 < k)) = L ∧ L.dropWhile (fun e => decide (e.1 < k)) = [] := by
    induction L with
    | nil => exact ⟨rfl, rfl⟩
    | cons y L ih =>
      have hy : (fun e : By × V => decide (e.1 < k)) y = true := decide_eq_true (h y (by simp))
      obtain ⟨a, b⟩ := ih (fun z hz => h z (List.mem_cons_of_mem _ hz))
      exact ⟨by rw [List.takeWhile_cons_of_pos (p := fun e : By × V => decide (e.1 < k)) hy, a], by rw [List.dropWhile_cons_of_pos (p := fun e : By × V => decide (e.1 < k)) hy, b]⟩
  rw [h12.1, h12.2]
section
variable {c : CtP} (h : c.Ok)
include h
theorem run_W : runN CtP.none_ (c.W.map n1) = some ⟨c.W, [], [], [], [], 0⟩ := by
  refine run_steps n1 (fun W => ⟨W, [], [], [], [], 0⟩) c.W (fun i x hx => ?_)
  have hok := h.okW x (List.mem_of_getElem? hx)
  have hno : hasP (c.W.take i) x.1 = false := hasP_no (pair_take h.dW hx)
  show CtP.put _ _ = _
  unfold CtP.put n1
  simp only
  rw [if_neg (by rw [hok.1]; simp; exact hok.2), if_neg (by unfold CtP.has; simp only; rw [hno]; simp [hasP])]
theorem begP_ok : ∀ e ∈ begP c, 1 ≤ e.2 ∧ e.2 ≤ c.G ∧ keyOk e.1 = true ∧ hasP c.W e.1 = true := fun e he => by
  obtain ⟨h1, h2⟩ := List.mem_filter.mp he
  obtain ⟨a, b, d, -⟩ := h.okB e h1
  exact ⟨a, b, d, h2⟩
theorem run_B : runN ⟨c.W, [], [], [], [], 0⟩ ((begP c).map n4) = some ⟨c.W, [], begP c, [], [], lastG (begP c)⟩ := by
  refine run_steps n4 (fun B => ⟨c.W, [], B, [], [], lastG B⟩) (begP c) (fun i x hx => ?_)
  have hok := begP_ok h x (List.mem_of_getElem? hx)
  have hr : (begP c).Pairwise (fun x y => x.2 < y.2) := List.Pairwise.filter _ h.rB
  have hd : DistP (begP c) := List.Pairwise.filter _ h.dB
  have hl : lastG ((begP c).take i) < x.2 := by
    unfold lastG
    cases hh : ((begP c).take i).getLast? with
    | none => exact Int.lt_of_lt_of_le (by decide) hok.1
    | some e => exact pair_take hr hx e (List.mem_of_getLast? hh)
  have hk0 : x.1 ≠ [] := fun e => by have := hok.2.2.1; rw [e] at this; revert this; decide
  have hno : hasP ((begP c).take i) x.1 = false := hasP_no (pair_take hd hx)
  have hlt : CtP.later ⟨c.W, [], (begP c).take i, [], [], lastG ((begP c).take i)⟩ x.2 = true := (later_iff _ _).mpr ⟨hl, Int.le_trans hok.2.1 h.g1⟩
  show CtP.begin_ _ _ = _
  unfold CtP.begin_ n4
  simp only
  rw [if_neg (by rw [hlt]; simp), if_neg (by unfold CtP.has; simp only; rw [hok.2.2.2]; simp), if_neg hk0, delP_no hno]
  congr 2
  unfold lastG
  rw [List.getLast?_append]
  rfl
theorem run_G : runN ⟨c.W, [], begP c, [], [], lastG (begP c)⟩ ((if lastG (begP c) < c.G then [(([] : By), c.G)] else []).map n4) = some ⟨c.W, [], begP c, [], [], c.G⟩ := by
  by_cases hg : lastG (begP c) < c.G
  · rw [if_pos hg]
    have hlt : CtP.later ⟨c.W, [], begP c, [], [], lastG (begP c)⟩ c.G = true := (later_iff _ _).mpr ⟨hg, h.g1⟩
    have ha : CtP.apply ⟨c.W, [], begP c, [], [], lastG (begP c)⟩ (n4 ([], c.G)) = (0, ⟨c.W, [], begP c, [], [], c.G⟩) := by
      show CtP.begin_ _ _ = _
      unfold CtP.begin_ n4
      simp only
      rw [if_neg (by rw [hlt]; simp), if_neg (by simp)]
      simp
    exact runN_snoc (L := []) rfl ha
  · rw [if_neg hg]
    have : lastG (begP c) = c.G := by
      have h1 : lastG (begP c) ≤ c.G := by
        unfold lastG
        cases hh : (begP c).getLast? with
        | none => exact h.g0
        | some e => exact (begP_ok h e (List.mem_of_getLast? hh)).2.1
      omega
    rw [this]
    rfl
theorem run_E : runN ⟨c.W, [], begP c, [], [], c.G⟩ ((c.E.map Prod.snd).map n2) = some ⟨c.W, c.E, begP c, [], [], c.G⟩ := by
  rw [List.map_map]
  refine run_steps (n2 ∘ Prod.snd) (fun E => ⟨c.W, E, begP c, [], [], c.G⟩) c.E (fun i x hx => ?_)
  obtain ⟨h1, h2, h3, h4, h5, h6⟩ := h.okE x (List.mem_of_getElem? hx)
  have hW : hasP c.W x.1 = false := by
    cases hh : hasP c.W x.1 with
    | false => rfl
    | true => have := h.ap _ hh; rw [(hasP_iff _ _).mpr ⟨x, List.mem_of_getElem? hx, rfl⟩] at this; cases this
  have hlt := pair_take h.rE hx
  have hno : hasP (c.E.take i) x.1 = false := hasP_no (fun y hy e => bl_irrefl x.1 (by have := hlt y hy; rw [e] at this; exact this))
  have hnm : CtP.named ⟨c.W, c.E.take i, begP c, [], [], c.G⟩ x.1 x.2.gen = true := (named_iff _ _ _).mpr ⟨h2, h3, h4⟩
  obtain ⟨x1, ⟨a, b, d, e, f⟩⟩ := x
  simp only at h1 h2 h3 h4 h5 h6 hW hlt hno hnm
  subst h1
  show CtP.placed _ _ = _
  unfold CtP.placed
  simp only [Function.comp, n2]
  refine Eq.trans (if_neg (by rw [hnm]; simp; exact ⟨h5, h6⟩)) ?_
  rw [delP_no hW, delP_no hno, insP_end _ hlt]
theorem run_T : runN ⟨c.W, c.E, begP c, [], [], c.G⟩ (tombsN c.T) = some ⟨c.W, c.E, begP c, c.T, [], c.G⟩ := by
  unfold tombsN
  refine run_steps (fun e : By × Int => (⟨6, e.1, e.2, 0, [], [], 1, []⟩ : Nt)) (fun T => ⟨c.W, c.E, begP c, T, [], c.G⟩) c.T (fun i x hx => ?_)
  obtain ⟨h1, h2, h3⟩ := h.okT x (List.mem_of_getElem? hx)
  have hno : x ∉ c.T.take i := fun hm => pair_take h.dT hx x hm rfl
  have hnm : CtP.named ⟨c.W, c.E, begP c, c.T.take i, [], c.G⟩ x.1 x.2 = true := (named_iff _ _ _).mpr ⟨h3, h1, h2⟩
  show CtP.turnT _ _ = _
  unfold CtP.turnT
  simp only
  rw [if_pos ⟨trivial, hno, hnm⟩]
theorem run_R : runN ⟨c.W, c.E, begP c, c.T, [], c.G⟩ ((sortZ c.R).map n5) = some ⟨c.W, c.E, begP c, c.T, sortZ c.R, c.G⟩ := by
  refine run_steps n5 (fun R => ⟨c.W, c.E, begP c, c.T, R, c.G⟩) (sortZ c.R) (fun i x hx => ?_)
  have hp : (sortZ c.R).Perm c.R := List.mergeSort_perm _ _
  obtain ⟨h1, h2⟩ := h.okR x (hp.mem_iff.mp (List.mem_of_getElem? hx))
  have hno : x ∉ (sortZ c.R).take i := fun hm => pair_take (hp.nodup_iff.mpr h.dR) hx x hm rfl
  show CtP.retire _ _ = _
  unfold CtP.retire n5
  simp only
  rw [if_neg (by omega), if_neg (by simpa using hno)]
theorem run_all : runN CtP.none_ (notesP c) = some ⟨c.W, c.E, begP c, c.T, sortZ c.R, c.G⟩ := by
  unfold notesP genP
  simp only [List.map_append, runN_append, run_W h, Option.bind_some, run_B h, run_G h, run_E h, run_T h, run_R h]
omit h in
theorem sm_run : Sm c ⟨c.W, c.E, begP c, c.T, sortZ c.R, c.G⟩ := by
  refine ⟨rfl, rfl, ?_, rfl, (List.mergeSort_perm _ _).symm, rfl⟩
  unfold begP
  simp only
  rw [List.filter_filter]
  congr 1
  funext e
  simp
end
end Go.Proofs.Ythboeoidgglcgaa
/- cat: two catalogs that show the same answer the same, and go on showing the same. -/
namespace Go.Proofs.Ythboeoidgglcgaa
set_option linter.unusedVariables false
set_option linter.unusedSimpArgs false
set_option linter.unusedSectionVars false
open Go Go.RowKit Go.Maps Go.Sort Go.Shelf Go.Proofs
def begF (B : List (By × Int)) (W : List (By × By)) : List (By × Int) := B.filter (fun e => hasP W e.1)
theorem begF_put {B : List (By × Int)} {W : List (By × By)} {k d : By} (h : ∀ e ∈ B, e.1 ≠ k) : begF B (W ++ [(k, d)]) = begF B W := by
  unfold begF
  refine List.filter_congr (fun e he => ?_)
  rw [hasP_snoc]
  have : (k == e.1) = false := by simpa using fun e1 => h e he e1.symm
  rw [this, Bool.or_false]
theorem begF_del (B : List (By × Int)) (W : List (By × By)) (k : By) : begF B (delP W k) = (begF B W).filter (fun e => e.1 != k) := by
  unfold begF
  rw [List.filter_filter]
  refine List.filter_congr (fun e he => ?_)
  rw [hasP_del, Bool.and_comm]
theorem begF_gone (B : List (By × Int)) (W : List (By × By)) (k : By) : begF (delP B k) (delP W k) = (begF B W).filter (fun e => e.1 != k) := by
  rw [begF_del]
  unfold begF delP
  rw [List.filter_filter, List.filter_filter, List.filter_filter]
  refine List.filter_congr (fun e he => ?_)
  cases (e.1 != k) <;> cases hasP W e.1 <;> rfl
theorem begF_beg (B : List (By × Int)) (W : List (By × By)) (k : By) (g : Int) : begF (delP B k ++ [(k, g)]) W = (begF B W).filter (fun e => e.1 != k) ++ (if hasP W k = true then [(k, g)] else []) := by
  unfold begF
  rw [List.filter_append]
  congr 1
  · unfold delP
    rw [List.filter_filter, List.filter_filter]
    refine List.filter_congr (fun e he => ?_)
    rw [Bool.and_comm]
  · by_cases hk : hasP W k = true
    · rw [if_pos hk]; simp [hk]
    · rw [if_neg hk]; simp [hk]
def SmA (p q : Int × CtP) : Prop := p.1 = q.1 ∧ Sm p.2 q.2
theorem SmA.ite {p q : Prop} [Decidable p] [Decidable q] {a b a' b' : Int × CtP} (h : p ↔ q) (h1 : p → SmA a a') (h2 : ¬p → SmA b b') : SmA (if p then a else b) (if q then a' else b') := by
  by_cases hp : p
  · rw [if_pos hp, if_pos (h.mp hp)]; exact h1 hp
  · rw [if_neg hp, if_neg (fun hq => hp (h.mpr hq))]; exact h2 hp
section
variable {W : List (By × By)} {E : List (By × EnP)} {B B' T : List (By × Int)} {R R' : List Int} {G : Int}
variable (hc : CtP.Ok ⟨W, E, B, T, R, G⟩) (hd : CtP.Ok ⟨W, E, B', T, R', G⟩) (hb : begF B W = begF B' W) (hR : R.Perm R') (n : Nt)
theorem SmA.same (hb : begF B W = begF B' W) (hR : R.Perm R') (z : Int) : SmA (z, ⟨W, E, B, T, R, G⟩) (z, ⟨W, E, B', T, R', G⟩) := ⟨rfl, ⟨rfl, rfl, hb, rfl, hR, rfl⟩⟩
include hc hd hb hR
theorem SmA.put : SmA (CtP.put ⟨W, E, B, T, R, G⟩ n) (CtP.put ⟨W, E, B', T, R', G⟩ n) := by
  unfold CtP.put
  refine SmA.ite Iff.rfl (fun _ => SmA.same hb hR _) (fun h1 => SmA.ite Iff.rfl (fun _ => SmA.same hb hR _) (fun h2 => ?_))
  have hno : ∀ {B0 : List (By × Int)} {R0 : List Int}, CtP.Ok ⟨W, E, B0, T, R0, G⟩ → ∀ e ∈ B0, e.1 ≠ n.key := fun h0 e he e1 => by
    have := (h0.okB e he).2.2.2
    rw [e1] at this
    exact h2 this
  refine ⟨rfl, ⟨rfl, rfl, ?_, rfl, hR, rfl⟩⟩
  show begF B (W ++ [(n.key, n.data)]) = begF B' (W ++ [(n.key, n.data)])
  rw [begF_put (hno hc), begF_put (hno hd)]
  exact hb
theorem SmA.placed : SmA (CtP.placed ⟨W, E, B, T, R, G⟩ n) (CtP.placed ⟨W, E, B', T, R', G⟩ n) := by
  unfold CtP.placed
  refine SmA.ite Iff.rfl (fun _ => SmA.same hb hR _) (fun h1 => ⟨rfl, ⟨rfl, rfl, ?_, rfl, hR, rfl⟩⟩)
  show begF B (delP W n.key) = begF B' (delP W n.key)
  rw [begF_del, begF_del, hb]
theorem SmA.gone : SmA (CtP.gone ⟨W, E, B, T, R, G⟩ n) (CtP.gone ⟨W, E, B', T, R', G⟩ n) := by
  unfold CtP.gone
  refine SmA.ite Iff.rfl (fun _ => SmA.same hb hR _) (fun h1 => SmA.ite Iff.rfl (fun _ => SmA.same hb hR _) (fun h2 => ⟨rfl, ⟨rfl, rfl, ?_, ?_, hR, rfl⟩⟩))
  · show begF (delP B n.key) (delP W n.key) = begF (delP B' n.key) (delP W n.key)
    rw [begF_gone, begF_gone, hb]
  · show (if hasP E n.key = true ∨ hasP B n.key = true then T ++ [(n.key, n.gen)] else T) = (if hasP E n.key = true ∨ hasP B' n.key = true then T ++ [(n.key, n.gen)] else T)
    have hh : (hasP E n.key || hasP W n.key) = true := by
      have h1' : ¬ (hasP E n.key || hasP W n.key) = false := h1
      cases hx : (hasP E n.key || hasP W n.key) with
      | true => rfl
      | false => exact absurd hx h1'
    have hw : hasP E n.key = false → ∀ B0 : List (By × Int), hasP B0 n.key = hasP (begF B0 W) n.key := fun hE B0 => by
      rw [hE, Bool.false_or] at hh
      rw [Bool.eq_iff_iff, hasP_iff, hasP_iff]
      unfold begF
      constructor
      · rintro ⟨e, he, e1⟩; exact ⟨e, List.mem_filter.mpr ⟨he, by rw [e1]; exact hh⟩, e1⟩
      · rintro ⟨e, he, e1⟩; exact ⟨e, (List.mem_filter.mp he).1, e1⟩
    cases hE : hasP E n.key with
    | true => rw [if_pos (.inl rfl), if_pos (.inl rfl)]
    | false => rw [hw hE B, hw hE B', hb]
theorem SmA.begin_ : SmA (CtP.begin_ ⟨W, E, B, T, R, G⟩ n) (CtP.begin_ ⟨W, E, B', T, R', G⟩ n) := by
  unfold CtP.begin_
  refine SmA.ite Iff.rfl (fun _ => SmA.same hb hR _) (fun h1 => SmA.ite Iff.rfl (fun _ => SmA.same hb hR _) (fun h2 => ⟨rfl, ⟨rfl, rfl, ?_, rfl, hR, rfl⟩⟩))
  show begF (if n.key = [] then B else delP B n.key ++ [(n.key, n.gen)]) W = begF (if n.key = [] then B' else delP B' n.key ++ [(n.key, n.gen)]) W
  by_cases hk : n.key = []
  · rw [if_pos hk, if_pos hk]; exact hb
  · rw [if_neg hk, if_neg hk, begF_beg, begF_beg, hb]
theorem SmA.retire : SmA (CtP.retire ⟨W, E, B, T, R, G⟩ n) (CtP.retire ⟨W, E, B', T, R', G⟩ n) := by
  unfold CtP.retire
  refine SmA.ite Iff.rfl (fun _ => SmA.same hb hR _) (fun h1 => ⟨rfl, ⟨rfl, rfl, hb, rfl, ?_, rfl⟩⟩)
  show List.Perm (if R.contains n.cart = true then R else R ++ [n.cart]) (if R'.contains n.cart = true then R' else R' ++ [n.cart])
  have e : R.contains n.cart = R'.contains n.cart := by
    rw [Bool.eq_iff_iff, List.contains_iff_mem, List.contains_iff_mem]
    exact hR.mem_iff
  rw [e]
  split
  · exact hR
  · exact hR.append_right _
theorem SmA.turnT : SmA (CtP.turnT ⟨W, E, B, T, R, G⟩ n) (CtP.turnT ⟨W, E, B', T, R', G⟩ n) := by
  unfold CtP.turnT
  exact SmA.ite Iff.rfl (fun _ => ⟨rfl, ⟨rfl, rfl, hb, rfl, hR, rfl⟩⟩) (fun h1 => SmA.ite Iff.rfl (fun _ => ⟨rfl, ⟨rfl, rfl, hb, rfl, hR, rfl⟩⟩) (fun _ => SmA.same hb hR _))
theorem SmA.apply : SmA (CtP.apply ⟨W, E, B, T, R, G⟩ n) (CtP.apply ⟨W, E, B', T, R', G⟩ n) := by
  unfold CtP.apply
  exact SmA.ite Iff.rfl (fun _ => SmA.put hc hd hb hR n) (fun _ => SmA.ite Iff.rfl (fun _ => SmA.placed hc hd hb hR n) (fun _ => SmA.ite Iff.rfl (fun _ => SmA.gone hc hd hb hR n) (fun _ => SmA.ite Iff.rfl (fun _ => SmA.begin_ hc hd hb hR n)
    (fun _ => SmA.ite Iff.rfl (fun _ => SmA.retire hc hd hb hR n) (fun _ => SmA.ite Iff.rfl (fun _ => SmA.turnT hc hd hb hR n) (fun _ => SmA.same hb hR _))))))
end
theorem Sm.apply {c d : CtP} (h : Sm c d) (hc : c.Ok) (hd : d.Ok) (n : Nt) : (c.apply n).1 = (d.apply n).1 ∧ Sm (c.apply n).2 (d.apply n).2 := by
  obtain ⟨W, E, B, T, R, G⟩ := c
  obtain ⟨W', E', B', T', R', G'⟩ := d
  obtain ⟨h1, h2, h3, h4, h5, h6⟩ := h
  simp only at h1 h2 h4 h5 h6
  subst h1 h2 h4 h6
  exact SmA.apply hc hd h3 h5 n
end Go.Proofs.Ythboeoidgglcgaa
/- cat: two catalogs side by side in memory. -/
namespace Go.Proofs.Ythboeoidgglcgaa
set_option linter.unusedVariables false
set_option linter.unusedSimpArgs false
open Go Go.RowKit Go.Maps Go.Sort Go.Shelf Go.Proofs
theorem row_type {w : World} {b e size n k : Nat} {v : Value} {xs : List Value} (h : w.ownsRow b e size v n xs) (hk : v.ownBlock = some k) : ∃ cs, w.heap[k]? = some (.cells cs e (0, 0)) := by
  rcases h.2 with ⟨rfl, -⟩ | ⟨g, cap, cur, rfl, -, hg, -⟩
  · cases hk
  · injection hk with hk
    subst hk
    exact ⟨_, hg⟩
theorem Ca.typ {w : World} {lo g t : Nat} {x : CtX} {c : CtP} (h : Ca w lo g x c t) {k : Nat} (hk : x.S g k) {T : TypeId} {cs : Array Value} (hT : T ≠ 65 ∧ T ≠ 67 ∧ T ≠ 85) : w.heap[k]? ≠ some (.cells cs T (0, 0)) := by
  have hno : ∀ {T2 : TypeId} {cs2 : Array Value}, w.heap[k]? = some (.cells cs2 T2 (0, 0)) → T ≠ T2 → w.heap[k]? ≠ some (.cells cs T (0, 0)) := fun h2 hne e => by
    rw [h2] at e
    injection e with e
    injection e with _ e _
    exact hne e.symm
  rcases hk with rfl | rfl | rfl | rfl | hk | hk
  · exact hno h.blk hT.1
  · exact h.me.notcell
  · exact h.mb.notcell
  · exact h.mr.notcell
  · obtain ⟨cs2, e⟩ := row_type h.ws hk
    exact hno e hT.2.1
  · obtain ⟨cs2, e⟩ := row_type h.ts hk
    exact hno e hT.2.2
theorem Ca.apart {w w' : World} {lo g t lo2 g2 s : Nat} {x y : CtX} {c d : CtP} (hx : Ca w lo g x c t) (hy : Ca w lo2 g2 y d s) (hap : ∀ k, x.S g k → ¬ y.S g2 k) (hu : Upd (x.S g) w w') : Ca w' lo2 g2 y d s := by
  refine hy.keep (fun k hk => hu.2.2.2.2 k (hy.lt k hk).1 (fun hs => hap k hs hk)) (fun e he k hk => hu.2.2.2.2 k ((hy.wd e he).lt k hk).2 (fun hs => ?_)) (fun e he k hk => hu.2.2.2.2 k ((hy.ep e he).1.lt k hk).2 (fun hs => ?_))
  · obtain ⟨cs, e1⟩ := row_type (hy.wd e he) hk
    exact hx.typ hs (by decide) e1
  · obtain ⟨cs, e1⟩ := row_type (hy.ep e he).1 hk
    exact hx.typ hs (by decide) e1
def KeepR (lo N : Nat) (w w' : World) : Prop := w.heap.size ≤ w'.heap.size ∧ ∀ k, lo ≤ k → k < N → w'.heap[k]? = w.heap[k]?
theorem OND.keepR {E : List Ne} {v : Value} {B N : Nat} {w w' : World} (h : OND E v B w) (hN : w.heap.size = N) (hk : KeepR B N w w') : OND E v B w' := by
  have hnd : ND E B w' := fun x hx => ⟨row_keep (h.2 x hx).1 (fun k h1 => hk.2 k ((h.2 x hx).1.lt k h1).1 (by rw [← hN]; exact ((h.2 x hx).1.lt k h1).2)), row_keep (h.2 x hx).2.1 (fun k h1 => hk.2 k ((h.2 x hx).2.1.lt k h1).1 (by rw [← hN]; exact ((h.2 x hx).2.1.lt k h1).2)), (h.2 x hx).2.2⟩
  exact ⟨⟨row_keep h.1.row (fun k h1 => hk.2 k (h.1.row.lt k h1).1 (by rw [← hN]; exact (h.1.row.lt k h1).2)), hnd.ntv, h.1.ap⟩, hnd⟩
theorem KeepR.step {lo N : Nat} {S : Nat → Prop} {w w1 w2 : World} (h : KeepR lo N w w1) (hw : w.heap.size = N) (hu : Upd S w1 w2) (hS : ∀ k, S k → k < lo ∨ N ≤ k) : KeepR lo N w w2 :=
  ⟨Nat.le_trans h.1 hu.2.2.2.1, fun k h1 h2 => (hu.2.2.2.2 k (Nat.lt_of_lt_of_le h2 (by rw [← hw]; exact h.1)) (fun hs => by have := hS k hs; omega)).trans (h.2 k h1 h2)⟩
theorem FarP.of_nd {E : List Ne} {B N : Nat} {w : World} {x : CtX} {g : Nat} (h : ND E B w) (hN : w.heap.size = N) (hS : ∀ k, x.S g k → k < B ∨ N ≤ k) {q : Ne} (hq : q ∈ E) : FarP q.n q.agg x g := by
  intro hn A' ca' A2' c2' ad he ha hs
  unfold Ne.agg Nt.agg at he
  injection he with he
  have he' : some (Value.slice q.A2 q.n.places.length q.c2) = some (Value.slice A2' q.n.places.length c2') := congrArg (fun a : Array Value => a[7]?) he
  injection he' with he'
  injection he' with he' _
  obtain ⟨b, c, e1, -⟩ := row_at (h q hq).2.1 hn
  have hl := (h q hq).2.1.lt b (by rw [e1]; rfl)
  injection e1 with e1 _ _
  rw [he', ha] at e1
  injection e1 with e1
  subst e1
  have := hS _ hs
  simp only at this
  omega
theorem notesP_len {c : CtP} {t : Nat} (h : c.Few t) : (notesP c).length ≤ 5 * t + 1 := by
  have h0 := genP_len h
  obtain ⟨h1, h2, h3, h4, h5⟩ := h
  unfold notesP tombsN
  simp only [List.length_append, List.length_map, sortZ_len]
  omega
end Go.Proofs.Ythboeoidgglcgaa
/- cat: the states of the two loops of CatNotes. -/
namespace Go.Proofs.Ythboeoidgglcgaa
set_option linter.unusedVariables false
set_option linter.unusedSimpArgs false
set_option linter.unusedSectionVars false
open Go Go.RowKit Go.Maps Go.Sort Go.Shelf Go.Proofs
theorem keyOk_len {k : By} (h : keyOk k = true) : k.length ≤ maxLen := by have := ((keyOk_iff k).mp h).2; simp only [maxLen]; omega
theorem notesP_ok {c : CtP} (h : c.Ok) : ∀ n ∈ notesP c, n.key.length ≤ maxLen ∧ I64 n.cart := by
  have z0 : I64 0 := by unfold I64; simp
  intro n hn
  unfold notesP at hn
  rcases List.mem_append.mp hn with hn | hn
  · rcases List.mem_append.mp hn with hn | hn
    · rcases List.mem_append.mp hn with hn | hn
      · rcases List.mem_append.mp hn with hn | hn
        · obtain ⟨e, he, rfl⟩ := List.mem_map.mp hn
          exact ⟨keyOk_len (h.okW e he).1, z0⟩
        · obtain ⟨e, he, rfl⟩ := List.mem_map.mp hn
          unfold genP at he
          rcases List.mem_append.mp he with he | he
          · exact ⟨keyOk_len (begP_ok h e he).2.2.1, z0⟩
          · split at he
            · rw [List.mem_singleton] at he; subst he; exact ⟨by show (0 : Nat) ≤ _; omega, z0⟩
            · cases he
      · obtain ⟨e, he, rfl⟩ := List.mem_map.mp hn
        obtain ⟨e2, he2, rfl⟩ := List.mem_map.mp he
        obtain ⟨h1, h2, -⟩ := h.okE e2 he2
        exact ⟨by show e2.2.key.length ≤ _; rw [h1]; exact keyOk_len h2, z0⟩
    · unfold tombsN at hn
      obtain ⟨e, he, rfl⟩ := List.mem_map.mp hn
      exact ⟨keyOk_len (h.okT e he).2.2, z0⟩
  · obtain ⟨z, hz, rfl⟩ := List.mem_map.mp hn
    have hz := h.okR z ((List.mergeSort_perm _ _).mem_iff.mp hz)
    exact ⟨by show (0 : Nat) ≤ _; omega, by unfold I64; show _ ≤ z ∧ z ≤ _; omega⟩
/-- while a catalog takes another's notes -/
def L1 (w1 w3 : World) (N2 gd : Nat) (Ns : List Nt) (k : Nat) (wr : World) : Prop :=
  ∃ x di, runN CtP.none_ (Ns.take k) = some di ∧ Ca wr w1.heap.size gd x di k ∧ (∀ j, x.S gd j → j < N2 ∨ w3.heap.size ≤ j) ∧ Gr w1 wr ∧ KeepR N2 w3.heap.size w3 wr
theorem L1.step {w1 w3 wr : World} {N2 gd k : Nat} {E : List Ne} {vE : Value} {q : Ne} {dP : CtP} (h : L1 w1 w3 N2 gd (E.map (·.n)) k wr) (ho : OND E vE N2 w3) (hq : E[k]? = some q) (hrun : runN CtP.none_ (E.map (·.n)) = some dP)
    (hk : q.n.key.length ≤ maxLen) (hI : I64 q.n.cart) (hk9 : k ≤ 900) :
    Calls Try.prog 12 #[.pointer (some ⟨gd, 0, none⟩), q.agg] wr fun e w' => e = .returned (.int .i64 0) ∧ L1 w1 w3 N2 gd (E.map (·.n)) (k + 1) w' := by
  obtain ⟨x, di, hr, hc, hS, hg, hkp⟩ := h
  have hq' : (E.map (·.n))[k]? = some q.n := by rw [List.getElem?_map, hq]; rfl
  obtain ⟨di', hr', h0, hr2⟩ := runN_at hrun k q.n hq'
  rw [hr] at hr'
  injection hr' with hr'
  subst hr'
  have hond := ho.keepR rfl hkp
  have hv : NtV q.n q.agg wr := (hond.1.vs q (List.mem_of_getElem? hq)).ntv
  have hlo : w1.heap.size ≤ wr.heap.size := Below.size hg
  refine (apply_any _ gd k x di wr (Lib.hid hc) hk9 hlo q.n q.agg hk hv hI (FarP.of_nd ho.2 rfl hS (List.mem_of_getElem? hq))).mono ?_
  rintro e w' ⟨he, x', hc', hu, hS'⟩
  refine ⟨by rw [he, h0], x', (di.apply q.n).2, hr2, hc'.out, fun j hj => ?_, ?_, hkp.step rfl hu hS⟩
  · rcases hS' j hj with h1 | h1
    · exact hS j h1
    · exact .inr (Nat.le_trans hkp.1 h1)
  · exact Below.trans hg (Upd.to_below (Below.refl _ wr) hu hlo (fun k hk => (hc.lt k hk).2))
theorem L1.cell {w1 w3 wr : World} {N2 gd k m c : Nat} {E : List Ne} {A : Option Addr} {q : Ne} {Ns : List Nt} (h : L1 w1 w3 N2 gd Ns k wr) (ho : OND E (.slice A m c) N2 w3) (hq : E[k]? = some q) (hm : k < m) :
    ∃ b, A = some ⟨b, 0, none⟩ ∧ ∀ j v, j < 8 → q.cells[j]? = some v → wr.cell? ⟨b, k * 8 + j, none⟩ = some v := by
  obtain ⟨x, di, hr, hc, hS, hg, hkp⟩ := h
  obtain ⟨b, e, hb, hcell⟩ := (ho.keepR rfl hkp).cell (by omega)
  exact ⟨b, e, fun j v hj hv => hcell k q j v hq hj hv⟩
/-- two catalogs apart, both above all that came in -/
structure L2 (w0 wr : World) (lo1 lo2 gc gd : Nat) (x y : CtX) (c d : CtP) (ta tb : Nat) : Prop where
  hc : Ca wr lo1 gc x c ta
  hd : Ca wr lo2 gd y d tb
  ap : ∀ j, x.S gc j → ¬ y.S gd j
  gr : Gr w0 wr
  l1 : w0.heap.size ≤ lo1
  l2 : w0.heap.size ≤ lo2
section
variable {w0 wr : World} {lo1 lo2 gc gd : Nat} {x y : CtX} {c d : CtP} {ta tb : Nat}
theorem L2.swap (h : L2 w0 wr lo1 lo2 gc gd x y c d ta tb) : L2 w0 wr lo2 lo1 gd gc y x d c tb ta := ⟨h.hd, h.hc, fun j h1 h2 => h.ap j h2 h1, h.gr, h.l2, h.l1⟩
theorem L2.on (h : L2 w0 wr lo1 lo2 gc gd x y c d ta tb) {w' : World} (hg : Gr wr w') : L2 w0 w' lo1 lo2 gc gd x y c d ta tb := ⟨h.hc.gr hg, h.hd.gr hg, h.ap, h.gr.trans hg, h.l1, h.l2⟩
theorem L2.step (h : L2 w0 wr lo1 lo2 gc gd x y c d ta tb) (ht : ta ≤ 900) {n : Nt} (hn : n.Ok) {A A2 : Option Addr} {cc c2 : Nat} (hv : NtV n (n.agg A cc A2 c2) w0) (hpl : Pls n.places (.slice A2 n.places.length c2) w0) :
    Calls Try.prog 12 #[.pointer (some ⟨gc, 0, none⟩), n.agg A cc A2 c2] wr fun e w' => e = .returned (.int .i64 (c.apply n).1) ∧ ∃ x', L2 w0 w' lo1 lo2 gc gd x' y (c.apply n).2 d (ta + 1) tb ∧ Below w0.heap.size wr w' := by
  have hlo : lo1 ≤ wr.heap.size := by have := h.hc.lt gc (.inl rfl); omega
  refine (apply_any lo1 gc ta x c wr (Lib.hid h.hc) ht hlo n _ hn.key (NtV.gr h.gr (Lib.hid hv)).out (i64_r hn.cart) (FarP.of_low hpl (fun k hk => Nat.le_trans h.l1 (h.hc.lt k hk).2))).mono ?_
  rintro e w' ⟨he, x', hc', hu, hS'⟩
  have hb : Below w0.heap.size wr w' := Upd.to_below (Below.refl _ wr) hu (Below.size h.gr) (fun k hk => Nat.le_trans h.l1 (h.hc.lt k hk).2)
  refine ⟨he, x', ⟨hc'.out, h.hc.apart h.hd h.ap hu, fun j hj hy => ?_, Below.trans h.gr hb, h.l1, h.l2⟩, hb⟩
  rcases hS' j hj with h1 | h1
  · exact h.ap j h1 hy
  · have := (h.hd.lt j hy).1; omega
end
theorem L1.two {w0 w1 w3 wr : World} {N2 lo gc gd ta : Nat} {x : CtX} {c dP : CtP} {Ns : List Nt} {k : Nat} (h : L1 w1 w3 N2 gd Ns k wr) (hk : Ns.length ≤ k) (hrun : runN CtP.none_ Ns = some dP) (hc : Ca w1 lo gc x c ta) (hg : Gr w0 w1) (hlo : w0.heap.size ≤ lo) :
    ∃ y, L2 w0 wr lo w1.heap.size gc gd x y c dP ta k := by
  obtain ⟨y, di, hr, hcd, hS, hg1, hkp⟩ := h
  rw [List.take_of_length_le hk, hrun] at hr
  injection hr with hr
  subst hr
  exact ⟨y, hc.gr hg1, hcd, fun j h1 h2 => by have := (hc.lt j h1).1; have := (hcd.lt j h2).2; omega, hg.trans hg1, hlo, Below.size hg⟩
theorem L1.start {w1 w2 w3 : World} {gd : Nat} {x : CtX} {Ns : List Nt} (hd : Ca w2 w1.heap.size gd x CtP.none_ 0) (hg1 : Gr w1 w2) (hg2 : Gr w2 w3) : L1 w1 w3 w2.heap.size gd Ns 0 w3 :=
  ⟨x, CtP.none_, rfl, hd.gr hg2, fun j hj => .inl (hd.lt j hj).1, hg1.trans hg2, Nat.le_refl _, fun k _ _ => rfl⟩
end Go.Proofs.Ythboeoidgglcgaa
