/- cat: entries that are one, told by the reference. -/
import Derived.Test.YthboeoidgglcgaaGreatCpA
namespace Go.Proofs.YthboeoidgglcgaaGreat
set_option linter.unusedVariables false
set_option linter.unusedSimpArgs false
set_option linter.unusedSectionVars false
open Go Go.RowKit Go.Maps Go.Sort Go.Shelf Go.Proofs
set_option maxRecDepth 10000 in
set_option maxHeartbeats 4000000 in
theorem sameE_any (ek : By) (eg ez : Int) (eu : By) (pl : List (Int × Int)) (A : Option Addr) (c : Nat) (A2 : Option Addr) (c2 n : Nat) (hn : pl.length = n) (w : World) (hp : Pls pl (.slice A n c) w) (hp2 : Pls pl (.slice A2 n c2) w) :
    Calls Tryz.prog 28 #[.agg #[.string (bs ek), .int .i64 eg, .int .i64 ez, .string (bs eu), .slice A n c], .agg #[.string (bs ek), .int .i64 eg, .int .i64 ez, .string (bs eu), .slice A2 n c2]] w fun e w' => e = .returned (.bool true) ∧ Gr w w' := by
  obtain ⟨N, hN⟩ : ∃ N, w.heap.size = N := ⟨_, rfl⟩
  obtain ⟨W, hW⟩ : ∃ W, (w.alloc (.cells #[.string (bs ek), .int .i64 eg, .int .i64 ez, .string (bs eu), .slice A n c] 43)).alloc (.cells #[.string (bs ek), .int .i64 eg, .int .i64 ez, .string (bs eu), .slice A2 n c2] 43) = W := ⟨_, rfl⟩
  have hg1 : Gr w (w.alloc (.cells #[.string (bs ek), .int .i64 eg, .int .i64 ez, .string (bs eu), .slice A n c] 43)) := Gr.alloc _ _
  have hg2 : Gr w W := by rw [← hW]; exact hg1.trans (Gr.alloc _ _)
  have hs1 : (w.alloc (.cells #[.string (bs ek), .int .i64 eg, .int .i64 ez, .string (bs eu), .slice A n c] 43)).heap.size = N + 1 := by rw [← hN]; simp
  have hb1 : W.heap[N]? = some (.cells #[.string (bs ek), .int .i64 eg, .int .i64 ez, .string (bs eu), .slice A n c] 43 (0, 0)) := by
    rw [← hW]
    exact blk_below (by rw [← hN]; exact heap_alloc_new w _) (Gr.alloc _ _)
  have hb2 : W.heap[N + 1]? = some (.cells #[.string (bs ek), .int .i64 eg, .int .i64 ez, .string (bs eu), .slice A2 n c2] 43 (0, 0)) := by
    rw [← hW, ← hs1]; exact heap_alloc_new _ _
  obtain ⟨A', c', e1, hc1, hc2, hh1, -⟩ := (Pls.gr hg2 (Lib.hid hp)).out
  injection e1 with e1 ed e2
  subst e1 e2
  clear ed
  obtain ⟨A2', c2', e3, hc3, hc4, hh2, -⟩ := (Pls.gr hg2 (Lib.hid hp2)).out
  injection e3 with e3 ed e4
  subst e3 e4
  clear ed
  rw [hn] at hh1 hh2 hc1 hc3
  have hnm : n ≤ 9223372036854775807 := by simp only [maxLen] at hc2; omega
  have a0 := blk_cell (j := 0) hb1 rfl
  have a1 := blk_cell (j := 1) hb1 rfl
  have a2 := blk_cell (j := 2) hb1 rfl
  have a3 := blk_cell (j := 3) hb1 rfl
  have a4 := blk_cell (j := 4) hb1 rfl
  have b0 := blk_cell (j := 0) hb2 rfl
  have b1 := blk_cell (j := 1) hb2 rfl
  have b2 := blk_cell (j := 2) hb2 rfl
  have b3 := blk_cell (j := 3) hb2 rfl
  have b4 := blk_cell (j := 4) hb2 rfl
  replace hb1 := Lib.hid hb1
  replace hb2 := Lib.hid hb2
  replace hh1 := Lib.hid hh1
  replace hh2 := Lib.hid hh2
  replace hg1 := Lib.hid hg1
  replace hg2 := Lib.hid hg2
  replace hn := Lib.hid hn
  replace hp := Lib.hid hp
  replace hp2 := Lib.hid hp2
  clear hc1 hc3 hc2 hc4
  go_enter Tryz.func28, Tryz.ntmps28
  go_wp2_with fail
  clear a0 a1 a2 a3 a4 b0 b1 b2 b3 b4 hs1 hN hW
  go_loopw [5] (fun u wr => ∃ i : Nat, i ≤ n ∧ u = .int .i64 i ∧ Hid (Gr W wr)) (fun u _ => (n - intOf u).toNat)
  case atStart => exact ⟨0, Nat.zero_le _, rfl, Lib.hid (Gr.refl _)⟩
  case round =>
    obtain ⟨i, hi, rfl, hgi⟩ := hrel
    have a4 := blk_cell (j := 4) (blk_below hb1.out hgi.out) rfl
    by_cases hlt : i < n
    · have ii : (i : Int) < (n : Int) := by omega
      obtain ⟨b, o, rfl, hbl, hcell⟩ := hh1.out (by omega)
      obtain ⟨b', o', rfl, hbl', hcell'⟩ := hh2.out (by omega)
      obtain ⟨x, hx⟩ : ∃ x, pl[i]? = some x := ⟨_, List.getElem?_eq_getElem (by rw [hn.out]; exact hlt)⟩
      obtain ⟨we, hwe⟩ : ∃ we, we = wr.drew := ⟨_, rfl⟩
      have hgwe : Gr wr we := by rw [hwe]; exact (Below.refl _ _).drew
      have hge := Lib.hid (hgi.out.trans hgwe)
      obtain ⟨p0, p1⟩ := hcell i x hx
      obtain ⟨r0, r1⟩ := hcell' i x hx
      have p0 := (cellGr hge.out (a := ⟨b, o + i * 2, none⟩) hbl).trans p0
      have p1 := (cellGr hge.out (a := ⟨b, o + i * 2 + 1, none⟩) hbl).trans p1
      have r0 := (cellGr hge.out (a := ⟨b', o' + i * 2, none⟩) hbl').trans r0
      have r1 := (cellGr hge.out (a := ⟨b', o' + i * 2 + 1, none⟩) hbl').trans r1
      have d4 := blk_cell (j := 4) (blk_below hb1.out hge.out) rfl
      have f4 := blk_cell (j := 4) (blk_below hb2.out hge.out) rfl
      clear hcell hcell' hbl hbl'
      replace hx := Lib.hid hx
      replace hgwe := Lib.hid hgwe
      go_upto_region 6 with (fail)
      refine wpR_region (Eq) 9999 (by kernel_rfl) ?_
      (rw [← hwe]; replace hwe := Lib.hid hwe)
      refine wT (i := 0) (v := ?_) (⟨fun _ => rfl, Eq.trans⟩) (some 48) rfl (fun w' hw' => ?_) ?_
      rotate_left
      · go_simp; with_reducible rfl
      simp only [Act.put, List.setIfInBounds_toArray, List.set_cons_zero, List.set_cons_succ]
      refine wT (i := 1) (v := ?_) (⟨fun _ => rfl, Eq.trans⟩) (some 49) rfl (fun w' hw' => ?_) ?_
      rotate_left
      · subst hw'; go_simp; with_reducible rfl
      simp only [Act.put, List.setIfInBounds_toArray, List.set_cons_zero, List.set_cons_succ]
      refine wT (i := 2) (v := ?_) (⟨fun _ => rfl, Eq.trans⟩) (some 50) rfl (fun w' hw' => ?_) ?_
      rotate_left
      · go_simp; with_reducible rfl
      simp only [Act.put, List.setIfInBounds_toArray, List.set_cons_zero, List.set_cons_succ]
      refine wT (i := 3) (v := ?_) (⟨fun _ => rfl, Eq.trans⟩) (some 51) rfl (fun w' hw' => ?_) ?_
      rotate_left
      · go_simp; with_reducible rfl
      simp only [Act.put, List.setIfInBounds_toArray, List.set_cons_zero, List.set_cons_succ]
      refine wT (i := 4) (v := ?_) (⟨fun _ => rfl, Eq.trans⟩) (some 52) rfl (fun w' hw' => ?_) ?_
      rotate_left
      · go_simp; with_reducible rfl
      simp only [Act.put, List.setIfInBounds_toArray, List.set_cons_zero, List.set_cons_succ]
      refine wT (i := 5) (v := ?_) (⟨fun _ => rfl, Eq.trans⟩) (some 53) rfl (fun w' hw' => ?_) ?_
      rotate_left
      · subst hw'; go_simp; with_reducible rfl
      simp only [Act.put, List.setIfInBounds_toArray, List.set_cons_zero, List.set_cons_succ]
      refine wT (i := 6) (v := ?_) (⟨fun _ => rfl, Eq.trans⟩) (some 54) rfl (fun w' hw' => ?_) ?_
      rotate_left
      · go_simp; with_reducible rfl
      simp only [Act.put, List.setIfInBounds_toArray, List.set_cons_zero, List.set_cons_succ]
      refine wT (i := 7) (v := ?_) (⟨fun _ => rfl, Eq.trans⟩) (some 55) rfl (fun w' hw' => ?_) ?_
      rotate_left
      · subst hw'; go_simp; with_reducible rfl
      simp only [Act.put, List.setIfInBounds_toArray, List.set_cons_zero, List.set_cons_succ]
      refine wT (i := 8) (v := ?_) (⟨fun _ => rfl, Eq.trans⟩) (some 56) rfl (fun w' hw' => ?_) ?_
      rotate_left
      · go_simp; with_reducible rfl
      simp only [Act.put, List.setIfInBounds_toArray, List.set_cons_zero, List.set_cons_succ]
      refine wT (i := 9) (v := ?_) (⟨fun _ => rfl, Eq.trans⟩) (some 57) rfl (fun w' hw' => ?_) ?_
      rotate_left
      · go_simp; with_reducible rfl
      simp only [Act.put, List.setIfInBounds_toArray, List.set_cons_zero, List.set_cons_succ]
      refine wT (i := 10) (v := ?_) (⟨fun _ => rfl, Eq.trans⟩) (some 58) rfl (fun w' hw' => ?_) ?_
      rotate_left
      · go_simp; with_reducible rfl
      simp only [Act.put, List.setIfInBounds_toArray, List.set_cons_zero, List.set_cons_succ]
      refine wT (i := 11) (v := ?_) (⟨fun _ => rfl, Eq.trans⟩) (some 59) rfl (fun w' hw' => ?_) ?_
      rotate_left
      · subst hw'; go_simp; with_reducible rfl
      simp only [Act.put, List.setIfInBounds_toArray, List.set_cons_zero, List.set_cons_succ]
      refine wT (i := 12) (v := ?_) (⟨fun _ => rfl, Eq.trans⟩) (some 60) rfl (fun w' hw' => ?_) ?_
      rotate_left
      · go_simp; with_reducible rfl
      simp only [Act.put, List.setIfInBounds_toArray, List.set_cons_zero, List.set_cons_succ]
      refine wT (i := 13) (v := ?_) (⟨fun _ => rfl, Eq.trans⟩) (some 61) rfl (fun w' hw' => ?_) ?_
      rotate_left
      · go_simp; with_reducible rfl
      simp only [Act.put, List.setIfInBounds_toArray, List.set_cons_zero, List.set_cons_succ]
      refine wT (i := 14) (v := ?_) (⟨fun _ => rfl, Eq.trans⟩) (some 62) rfl (fun w' hw' => ?_) ?_
      rotate_left
      · go_simp; with_reducible rfl
      simp only [Act.put, List.setIfInBounds_toArray, List.set_cons_zero, List.set_cons_succ]
      refine wT (i := 15) (v := ?_) (⟨fun _ => rfl, Eq.trans⟩) (some 63) rfl (fun w' hw' => ?_) ?_
      rotate_left
      · subst hw'; go_simp; with_reducible rfl
      simp only [Act.put, List.setIfInBounds_toArray, List.set_cons_zero, List.set_cons_succ]
      refine wT (i := 16) (v := ?_) (⟨fun _ => rfl, Eq.trans⟩) (some 64) rfl (fun w' hw' => ?_) ?_
      rotate_left
      · go_simp; with_reducible rfl
      simp only [Act.put, List.setIfInBounds_toArray, List.set_cons_zero, List.set_cons_succ]
      refine wT (i := 17) (v := ?_) (⟨fun _ => rfl, Eq.trans⟩) (some 65) rfl (fun w' hw' => ?_) ?_
      rotate_left
      · go_simp; with_reducible rfl
      simp only [Act.put, List.setIfInBounds_toArray, List.set_cons_zero, List.set_cons_succ]
      refine wT (i := 18) (v := ?_) (⟨fun _ => rfl, Eq.trans⟩) (some 66) rfl (fun w' hw' => ?_) ?_
      rotate_left
      · go_simp; with_reducible rfl
      simp only [Act.put, List.setIfInBounds_toArray, List.set_cons_zero, List.set_cons_succ]
      refine wT (i := 19) (v := ?_) (⟨fun _ => rfl, Eq.trans⟩) (some 67) rfl (fun w' hw' => ?_) ?_
      rotate_left
      · subst hw'; go_simp; with_reducible rfl
      simp only [Act.put, List.setIfInBounds_toArray, List.set_cons_zero, List.set_cons_succ]
      refine wT (i := 20) (v := ?_) (⟨fun _ => rfl, Eq.trans⟩) (some 68) rfl (fun w' hw' => ?_) ?_
      rotate_left
      · go_simp; with_reducible rfl
      simp only [Act.put, List.setIfInBounds_toArray, List.set_cons_zero, List.set_cons_succ]
      refine wT (i := 21) (v := ?_) (⟨fun _ => rfl, Eq.trans⟩) (some 69) rfl (fun w' hw' => ?_) ?_
      rotate_left
      · subst hw'; go_simp; with_reducible rfl
      simp only [Act.put, List.setIfInBounds_toArray, List.set_cons_zero, List.set_cons_succ]
      refine wT (i := 22) (v := ?_) (⟨fun _ => rfl, Eq.trans⟩) (some 70) rfl (fun w' hw' => ?_) ?_
      rotate_left
      · go_simp; with_reducible rfl
      simp only [Act.put, List.setIfInBounds_toArray, List.set_cons_zero, List.set_cons_succ]
      refine wT (i := 23) (v := ?_) (⟨fun _ => rfl, Eq.trans⟩) (some 71) rfl (fun w' hw' => ?_) ?_
      rotate_left
      · go_simp; with_reducible rfl
      simp only [Act.put, List.setIfInBounds_toArray, List.set_cons_zero, List.set_cons_succ]
      refine wT (i := 24) (v := ?_) (⟨fun _ => rfl, Eq.trans⟩) (some 72) rfl (fun w' hw' => ?_) ?_
      rotate_left
      · go_simp; with_reducible rfl
      simp only [Act.put, List.setIfInBounds_toArray, List.set_cons_zero, List.set_cons_succ]
      refine wT (i := 25) (v := ?_) (⟨fun _ => rfl, Eq.trans⟩) (some 73) rfl (fun w' hw' => ?_) ?_
      rotate_left
      · subst hw'; go_simp; with_reducible rfl
      simp only [Act.put, List.setIfInBounds_toArray, List.set_cons_zero, List.set_cons_succ]
      refine wT (i := 26) (v := ?_) (⟨fun _ => rfl, Eq.trans⟩) (some 74) rfl (fun w' hw' => ?_) ?_
      rotate_left
      · go_simp; with_reducible rfl
      simp only [Act.put, List.setIfInBounds_toArray, List.set_cons_zero, List.set_cons_succ]
      refine wT (i := 27) (v := ?_) (⟨fun _ => rfl, Eq.trans⟩) (some 75) rfl (fun w' hw' => ?_) ?_
      rotate_left
      · go_simp; with_reducible rfl
      simp only [Act.put, List.setIfInBounds_toArray, List.set_cons_zero, List.set_cons_succ]
      refine wpR_done (by kernel_rfl) ?_ _
      go_wp2_with fail
      go_roundw
      case rel => exact ⟨i + 1, by omega, by go_num, hge⟩
      case measure => simp [intOf]; omega
    · obtain rfl : n = i := by omega
      go_wp2_with fail
      go_ret
      exact ⟨rfl, hg2.out.trans hgi.out⟩
set_option maxRecDepth 10000 in
set_option maxHeartbeats 4000000 in
theorem alikeE_any (L : List EnP) (E E2 : List Et) (A : Option Addr) (c : Nat) (A2 : Option Addr) (c2 n b1 b2 : Nat) (hn : L.length = n) (he : E.map (·.e) = L) (he2 : E2.map (·.e) = L) (w : World) (h : OE E (.slice A n c) b1 w) (h2 : OE E2 (.slice A2 n c2) b2 w) :
    Calls Tryz.prog 35 #[.slice A n c, .slice A2 n c2] w fun e w' => e = .returned (.bool true) ∧ Gr w w' := by
  have hl1 : Hid (E.length = n) := Lib.hid (by rw [← hn, ← he, List.length_map])
  have hl2 : Hid (E2.length = n) := Lib.hid (by rw [← hn, ← he2, List.length_map])
  have hnm : n ≤ 9223372036854775807 := by
    obtain ⟨A', c', e, h3, h4⟩ := row_form h.1
    rw [hl1.out] at h3
    simp only [maxLen] at h4
    omega
  replace hn := Lib.hid hn
  replace he := Lib.hid he
  replace he2 := Lib.hid he2
  replace h := Lib.hid h
  replace h2 := Lib.hid h2
  go_enter Tryz.func35, Tryz.ntmps35
  go_wp2_with fail
  go_loopw [5] (fun u wr => ∃ i : Nat, i ≤ n ∧ u = .int .i64 i ∧ Hid (Gr w wr)) (fun u _ => (n - intOf u).toNat)
  case atStart => exact ⟨0, Nat.zero_le _, rfl, Lib.hid (Gr.refl _)⟩
  case round =>
    obtain ⟨i, hi, rfl, hgi⟩ := hrel
    by_cases hlt : i < n
    · have ii : (i : Int) < (n : Int) := by omega
      obtain ⟨we, hwe⟩ : ∃ we, we = wr.drew := ⟨_, rfl⟩
      have hgwe : Gr wr we := by rw [hwe]; exact (Below.refl _ _).drew
      have hge := Lib.hid (hgi.out.trans hgwe)
      have ho1 := h.out.gr hge.out
      have ho2 := h2.out.gr hge.out
      have hr1 := ho1.1
      have hr2 := ho2.1
      rw [hl1.out] at hr1
      rw [hl2.out] at hr2
      obtain ⟨g1, c1', e1, -, -, -, hlt1, -, -, hc1, -⟩ := row_at hr1 (by omega)
      obtain ⟨g2, c2', e2, -, -, -, hlt2, -, -, hc2, -⟩ := row_at hr2 (by omega)
      injection e1 with e1 _ e3
      injection e2 with e2 _ e4
      subst e1 e2 e3 e4
      obtain ⟨x, hx⟩ : ∃ x, E[i]? = some x := ⟨_, List.getElem?_eq_getElem (by rw [hl1.out]; exact hlt)⟩
      obtain ⟨x2, hx2⟩ : ∃ x, E2[i]? = some x := ⟨_, List.getElem?_eq_getElem (by rw [hl2.out]; exact hlt)⟩
      have hxe : x2.e = x.e := by
        have h5 := congrArg (fun l => l[i]?) (he.out.trans he2.out.symm)
        simp only [List.getElem?_map, hx, hx2, Option.map_some] at h5
        injection h5 with h5
        exact h5.symm
      have p1 := (ho1.2 x (List.mem_of_getElem? hx)).pls
      have p2 := (ho2.2 x2 (List.mem_of_getElem? hx2)).pls
      obtain ⟨xe, xA, xc⟩ := x
      obtain ⟨xe2, xA2, xc2⟩ := x2
      simp only at hxe
      subst hxe
      obtain ⟨ek, eg, ez, eu, pl⟩ := xe2
      unfold Et.v at p1 p2
      simp only at p1 p2
      obtain ⟨lp, hlp⟩ : ∃ lp, pl.length = lp := ⟨_, rfl⟩
      have u0 := hc1 _ (.string (bs ek)) ((flatE_at hx 0 (by omega)).trans rfl)
      have u1 := hc1 _ (.int .i64 eg) ((flatE_at hx 1 (by omega)).trans rfl)
      have u2 := hc1 _ (.int .i64 ez) ((flatE_at hx 2 (by omega)).trans rfl)
      have u3 := hc1 _ (.string (bs eu)) ((flatE_at hx 3 (by omega)).trans rfl)
      have u4 := hc1 _ (.slice xA pl.length xc) ((flatE_at hx 4 (by omega)).trans rfl)
      have v0 := hc2 _ (.string (bs ek)) ((flatE_at hx2 0 (by omega)).trans rfl)
      have v1 := hc2 _ (.int .i64 eg) ((flatE_at hx2 1 (by omega)).trans rfl)
      have v2 := hc2 _ (.int .i64 ez) ((flatE_at hx2 2 (by omega)).trans rfl)
      have v3 := hc2 _ (.string (bs eu)) ((flatE_at hx2 3 (by omega)).trans rfl)
      have v4 := hc2 _ (.slice xA2 pl.length xc2) ((flatE_at hx2 4 (by omega)).trans rfl)
      rw [hlp] at p1 p2 u4 v4
      rw [Nat.add_zero] at u0 v0
      have hU : Hid (∀ q, Gr we q → q.cell? ⟨g1, i * 5, none⟩ = some (.string (bs ek)) ∧ q.cell? ⟨g1, i * 5 + 1, none⟩ = some (.int .i64 eg) ∧ q.cell? ⟨g1, i * 5 + 2, none⟩ = some (.int .i64 ez) ∧ q.cell? ⟨g1, i * 5 + 3, none⟩ = some (.string (bs eu)) ∧ q.cell? ⟨g1, i * 5 + 4, none⟩ = some (.slice xA lp xc)) := Lib.hid (fun q hq => ⟨(cellGr hq (a := ⟨g1, i * 5, none⟩) hlt1).trans u0, (cellGr hq (a := ⟨g1, i * 5 + 1, none⟩) hlt1).trans u1, (cellGr hq (a := ⟨g1, i * 5 + 2, none⟩) hlt1).trans u2, (cellGr hq (a := ⟨g1, i * 5 + 3, none⟩) hlt1).trans u3, (cellGr hq (a := ⟨g1, i * 5 + 4, none⟩) hlt1).trans u4⟩)
      have hV : Hid (∀ q, Gr we q → q.cell? ⟨g2, i * 5, none⟩ = some (.string (bs ek)) ∧ q.cell? ⟨g2, i * 5 + 1, none⟩ = some (.int .i64 eg) ∧ q.cell? ⟨g2, i * 5 + 2, none⟩ = some (.int .i64 ez) ∧ q.cell? ⟨g2, i * 5 + 3, none⟩ = some (.string (bs eu)) ∧ q.cell? ⟨g2, i * 5 + 4, none⟩ = some (.slice xA2 lp xc2)) := Lib.hid (fun q hq => ⟨(cellGr hq (a := ⟨g2, i * 5, none⟩) hlt2).trans v0, (cellGr hq (a := ⟨g2, i * 5 + 1, none⟩) hlt2).trans v1, (cellGr hq (a := ⟨g2, i * 5 + 2, none⟩) hlt2).trans v2, (cellGr hq (a := ⟨g2, i * 5 + 3, none⟩) hlt2).trans v3, (cellGr hq (a := ⟨g2, i * 5 + 4, none⟩) hlt2).trans v4⟩)
      clear u0 u1 u2 u3 u4 v0 v1 v2 v3 v4 hlt1 hlt2
      have hse := Lib.hid (sameE_any ek eg ez eu pl xA xc xA2 xc2 lp hlp we p1 p2)
      replace p1 := Lib.hid p1
      replace p2 := Lib.hid p2
      replace hlp := Lib.hid hlp
      replace ho1 := Lib.hid ho1
      replace ho2 := Lib.hid ho2
      replace hr1 := Lib.hid hr1
      replace hr2 := Lib.hid hr2
      replace hx := Lib.hid hx
      replace hx2 := Lib.hid hx2
      replace hgwe := Lib.hid hgwe
      clear hc1 hc2
      go_upto_region 6 with (fail)
      refine wpR_region (Gr) 9999 (by kernel_rfl) ?_
      (rw [← hwe]; replace hwe := Lib.hid hwe)
      refine wT (i := 0) (v := ?_) (Gr.road) (some 17) rfl (fun w' hw' => ?_) ?_
      rotate_left
      · go_simp; with_reducible rfl
      simp only [Act.put, List.setIfInBounds_toArray, List.set_cons_zero, List.set_cons_succ]
      refine wT (i := 1) (v := ?_) (Gr.road) (some 18) rfl (fun w' hw' => ?_) ?_
      rotate_left
      · go_simp; with_reducible rfl
      simp only [Act.put, List.setIfInBounds_toArray, List.set_cons_zero, List.set_cons_succ]
      refine wT (i := 2) (v := ?_) (Gr.road) (some 19) rfl (fun w' hw' => ?_) ?_
      rotate_left
      · go_simp; with_reducible rfl
      simp only [Act.put, List.setIfInBounds_toArray, List.set_cons_zero, List.set_cons_succ]
      refine wT (i := 3) (v := ?_) (Gr.road) (some 20) rfl (fun w' hw' => ?_) ?_
      rotate_left
      · obtain ⟨u0, u1, u2, u3, u4⟩ := hU.out _ hw'; go_simp; with_reducible rfl
      simp only [Act.put, List.setIfInBounds_toArray, List.set_cons_zero, List.set_cons_succ]
      refine wT (i := 4) (v := ?_) (Gr.road) (some 21) rfl (fun w' hw' => ?_) ?_
      rotate_left
      · go_simp; with_reducible rfl
      simp only [Act.put, List.setIfInBounds_toArray, List.set_cons_zero, List.set_cons_succ]
      refine wT (i := 5) (v := ?_) (Gr.road) (some 22) rfl (fun w' hw' => ?_) ?_
      rotate_left
      · go_simp; with_reducible rfl
      simp only [Act.put, List.setIfInBounds_toArray, List.set_cons_zero, List.set_cons_succ]
      refine wT (i := 6) (v := ?_) (Gr.road) (some 23) rfl (fun w' hw' => ?_) ?_
      rotate_left
      · go_simp; with_reducible rfl
      simp only [Act.put, List.setIfInBounds_toArray, List.set_cons_zero, List.set_cons_succ]
      refine wT (i := 7) (v := ?_) (Gr.road) (some 24) rfl (fun w' hw' => ?_) ?_
      rotate_left
      · obtain ⟨v0, v1, v2, v3, v4⟩ := hV.out _ hw'; go_simp; with_reducible rfl
      simp only [Act.put, List.setIfInBounds_toArray, List.set_cons_zero, List.set_cons_succ]
      refine wpR_one 8 rfl (by kernel_rfl) (by kernel_rfl) (fun K hK => ?_)
      go_simp
      refine hse.out.mono ?_
      rintro e w9 ⟨rfl, hg9⟩
      refine hK _ _ (fun _ => hg9) ?_
      clear hK K
      clear hse
      replace hg9 := Lib.hid hg9
      try simp only [Act.put, List.setIfInBounds_toArray, List.set_cons_zero, List.set_cons_succ]
      refine wT (i := 9) (v := ?_) (Gr.road) (some 26) rfl (fun w' hw' => ?_) ?_
      rotate_left
      · go_simp; with_reducible rfl
      simp only [Act.put, List.setIfInBounds_toArray, List.set_cons_zero, List.set_cons_succ]
      refine wpR_done (by kernel_rfl) ?_ _
      go_wp2_with fail
      go_roundw
      case rel => exact ⟨i + 1, by omega, by go_num, Lib.hid (hge.out.trans hg9.out)⟩
      case measure => simp [intOf]; omega
    · obtain rfl : n = i := by omega
      go_wp2_with fail
      go_ret
      exact ⟨rfl, hgi.out⟩
end Go.Proofs.YthboeoidgglcgaaGreat
