/- Whether two notes are one. -/
import Derived.Test.YthboeoidgglcgaaGreatNt8
namespace Go.Proofs.YthboeoidgglcgaaGreat
set_option linter.unusedVariables false
set_option linter.unusedSimpArgs false
open Go Go.RowKit
def sameN (a b : Nt) : Bool := decide (a = b)
theorem sameN_eq (a b : Nt) : sameN a b = ((a.kind == b.kind) && (a.key == b.key) && (a.gen == b.gen) && (a.cart == b.cart) && (a.data == b.data) && (a.sum == b.sum) && (a.size == b.size) && (a.places == b.places)) := by
  unfold sameN
  rw [Bool.eq_iff_iff, decide_eq_true_iff]
  cases a; cases b
  simp [and_assoc]
set_option maxHeartbeats 16000000 in
set_option maxRecDepth 10000 in
theorem rsame_any (a b : Nt) (v u : Value) (w : World) (h : NtV a v w) (h2 : NtV b u w) :
    Calls Tryz.prog 59 #[v, u] w fun e w' => e = .returned (.bool (sameN a b)) ∧ Gr w w' := by
  obtain ⟨A, c, A2, c2, rfl, hB, hP⟩ := h
  obtain ⟨B, d, B2, d2, rfl, hB2, hP2⟩ := h2
  have hbx0 := heap_alloc_new w (.cells (a.cells A c A2 c2) 37)
  have hb1 := Gr.alloc w (.cells (a.cells A c A2 c2) 37)
  have hbx := Lib.hid (blk_alloc hbx0 (.cells (b.cells B d B2 d2) 37))
  have hby := Lib.hid (heap_alloc_new (w.alloc (.cells (a.cells A c A2 c2) 37)) (.cells (b.cells B d B2 d2) 37))
  have hb := Lib.hid (hb1.trans (Gr.alloc _ (.cells (b.cells B d B2 d2) 37)))
  obtain ⟨N, hN⟩ : ∃ N, w.heap.size = N := ⟨_, rfl⟩
  have hN1 : (w.alloc (.cells (a.cells A c A2 c2) 37)).heap.size = N + 1 := by rw [← hN]; simp
  rw [hN1] at hby
  rw [hN] at hbx
  clear hbx0 hb1
  obtain ⟨ld, hld⟩ : ∃ ld, a.data.length = ld := ⟨_, rfl⟩
  obtain ⟨ld2, hld2⟩ : ∃ ld2, b.data.length = ld2 := ⟨_, rfl⟩
  obtain ⟨np, hnp⟩ : ∃ np, a.places.length = np := ⟨_, rfl⟩
  obtain ⟨np2, hnp2⟩ : ∃ np2, b.places.length = np2 := ⟨_, rfl⟩
  replace hB := Byt.gr hb.out (Lib.hid hB)
  replace hB2 := Byt.gr hb.out (Lib.hid hB2)
  replace hP := Pls.gr hb.out (Lib.hid hP)
  replace hP2 := Pls.gr hb.out (Lib.hid hP2)
  unfold Nt.agg
  unfold Nt.cells at hb hbx hby hB hB2 hP hP2 hN1
  rw [hld] at hb hbx hby hB hB2 hP hP2 hN1 ⊢
  rw [hld2] at hb hbx hby hB hB2 hP hP2 ⊢
  rw [hnp] at hb hbx hby hB hB2 hP hP2 hN1 ⊢
  rw [hnp2] at hb hbx hby hB hB2 hP hP2 ⊢
  obtain ⟨wa, hwa⟩ : ∃ wa, (w.alloc (.cells #[.int .i64 a.kind, .string (bs a.key), .int .i64 a.gen, .int .i64 a.cart, .slice A ld c, .string (bs a.sum), .int .i64 a.size, .slice A2 np c2] 37)).alloc (.cells #[.int .i64 b.kind, .string (bs b.key), .int .i64 b.gen, .int .i64 b.cart, .slice B ld2 d, .string (bs b.sum), .int .i64 b.size, .slice B2 np2 d2] 37) = wa := ⟨_, rfl⟩
  have cv : ∀ W : World, W = wa → (convert 34 9 (.slice A ld c)).run Tryz.prog W = .ok (.string (bs a.data)) W := fun W e => by
    rw [e, ← hwa]
    obtain ⟨A', c', e', -, -, hR'⟩ := hB.out
    injection e' with e1 e2 e3
    subst e1
    exact run_str_at c hR' hld
  have cv2 : ∀ W : World, W = wa → (convert 34 9 (.slice B ld2 d)).run Tryz.prog W = .ok (.string (bs b.data)) W := fun W e => by
    rw [e, ← hwa]
    obtain ⟨A', c', e', -, -, hR'⟩ := hB2.out
    injection e' with e1 e2 e3
    subst e1
    exact run_str_at d hR' hld2
  have cva := cv _ hwa
  have cvb := cv2 _ hwa
  rw [hwa] at hb hbx hby hP hP2
  obtain ⟨R, hR⟩ : ∃ R, sameN a b = R := ⟨_, rfl⟩
  rw [hR]
  clear hB hB2 cv cv2 hN1
  rw [hwa] at cva cvb
  have x0 := blk_cell (j := 0) (v := .int .i64 a.kind) hbx.out rfl
  have x1 := blk_cell (j := 1) (v := .string (bs a.key)) hbx.out rfl
  have x2 := blk_cell (j := 2) (v := .int .i64 a.gen) hbx.out rfl
  have x3 := blk_cell (j := 3) (v := .int .i64 a.cart) hbx.out rfl
  have x4 := blk_cell (j := 4) (v := .slice A ld c) hbx.out rfl
  have x5 := blk_cell (j := 5) (v := .string (bs a.sum)) hbx.out rfl
  have x6 := blk_cell (j := 6) (v := .int .i64 a.size) hbx.out rfl
  have x7 := blk_cell (j := 7) (v := .slice A2 np c2) hbx.out rfl
  have y0 := blk_cell (j := 0) (v := .int .i64 b.kind) hby.out rfl
  have y1 := blk_cell (j := 1) (v := .string (bs b.key)) hby.out rfl
  have y2 := blk_cell (j := 2) (v := .int .i64 b.gen) hby.out rfl
  have y3 := blk_cell (j := 3) (v := .int .i64 b.cart) hby.out rfl
  have y4 := blk_cell (j := 4) (v := .slice B ld2 d) hby.out rfl
  have y5 := blk_cell (j := 5) (v := .string (bs b.sum)) hby.out rfl
  have y6 := blk_cell (j := 6) (v := .int .i64 b.size) hby.out rfl
  have y7 := blk_cell (j := 7) (v := .slice B2 np2 d2) hby.out rfl
  replace hR := Lib.hid hR
  replace hld := Lib.hid hld
  replace hld2 := Lib.hid hld2
  replace hnp := Lib.hid hnp
  replace hnp2 := Lib.hid hnp2
  replace hwa := Lib.hid hwa
  replace hN := Lib.hid hN
  go_enter Tryz.func59, Tryz.ntmps59
  go_upto_region 1 with (fail)
  rw [hN.out, hwa.out]
  by_cases H : (a.kind = b.kind ∧ a.key = b.key ∧ a.gen = b.gen ∧ a.cart = b.cart) ∧ a.data = b.data ∧ a.sum = b.sum ∧ a.size = b.size ∧ np = np2
  · obtain ⟨⟨h0, h1, h2, h3⟩, h4, h5, h6, hnn⟩ := H
    go_upto_region 4 with (fail)
    have hv' : Hid ((a.places == b.places) = R) := Lib.hid (by
      have := hR.out
      rw [sameN_eq, h0, h1, h2, h3, h4, h5, h6] at this
      simpa using this)
    clear h0 h1 h2 h3 h4 h5 h6 cva cvb x0 x1 x2 x3 x4 x5 x6 x7 y0 y1 y2 y3 y4 y5 y6 y7
    subst hnn
    obtain ⟨⟨A', c', e', hc1, hc2, hcell, -⟩, ⟨B', d', e2', -, -, hcell2, -⟩⟩ := And.intro hP.out hP2.out
    injection e' with e1 e2 e3
    subst e1
    injection e2' with e4 e5 e6
    subst e4
    rw [hnp.out] at hcell
    rw [hnp2.out] at hcell2
    replace hcell := Lib.hid hcell
    replace hcell2 := Lib.hid hcell2
    have hnm : np ≤ 9223372036854775807 := by simp only [maxLen] at hc2; omega
    clear hP hP2 hwa hc1 hc2 e2 e3 e5 e6
    go_loopw [5] (fun i wr => ∃ j : Nat, i = .int .i64 j ∧ j ≤ np ∧ Hid (∀ t, t < j → a.places[t]? = b.places[t]?) ∧ Hid (Gr wa wr)) (fun i _ => np - (intOf i).toNat)
    case atStart => exact ⟨0, rfl, Nat.zero_le _, Lib.hid (fun t ht => absurd ht (by omega)), Lib.hid (Gr.refl _)⟩
    case round =>
      obtain ⟨j, rfl, hj, hall, hgr⟩ := hrel
      have hgw := hb.out.trans hgr.out
      have X0 := blk_below hbx.out hgr.out
      have Y0 := blk_below hby.out hgr.out
      have x7 := blk_cell (j := 7) (v := .slice A2 np c2) X0 rfl
      have y7 := blk_cell (j := 7) (v := .slice B2 np d2) Y0 rfl
      replace hgw := Lib.hid hgw
      replace X0 := Lib.hid X0
      replace Y0 := Lib.hid Y0
      by_cases hlt : j < np
      · obtain ⟨⟨p1, p2⟩, hq⟩ : ∃ q, a.places[j]? = some q := ⟨_, List.getElem?_eq_getElem (by rw [hnp.out]; exact hlt)⟩
        obtain ⟨⟨q1, q2⟩, hq2⟩ : ∃ q, b.places[j]? = some q := ⟨_, List.getElem?_eq_getElem (by rw [hnp2.out]; exact hlt)⟩
        obtain ⟨b0, o, e, hbl, hce⟩ := hcell.out (by omega)
        obtain ⟨b2, o2, e2, hbl2, hce2⟩ := hcell2.out (by omega)
        subst e
        subst e2
        obtain ⟨y0, y1⟩ := hce j _ hq
        obtain ⟨z0, z1⟩ := hce2 j _ hq2
        clear hce hce2
        simp only at y0 y1 z0 z1
        have hgd := hgr.out.trans (show Gr wr wr.drew from (Below.refl _ _).drew)
        have hgdw := hb.out.trans hgd
        have Xd := blk_below hbx.out hgd
        have Yd := blk_below hby.out hgd
        obtain ⟨wd, hwd⟩ : ∃ wd, wd = wr.drew := ⟨_, rfl⟩
        rw [← hwd] at hgd hgdw Xd Yd
        have xd7 := blk_cell (j := 7) (v := .slice (some ⟨b0, o, none⟩) np c2) Xd rfl
        have yd7 := blk_cell (j := 7) (v := .slice (some ⟨b2, o2, none⟩) np d2) Yd rfl
        have x0 := (cellGr hgd (a := ⟨b0, o + j * 2, none⟩) hbl).trans y0
        have x1 := (cellGr hgd (a := ⟨b0, o + j * 2 + 1, none⟩) hbl).trans y1
        have u0 := (cellGr hgd (a := ⟨b2, o2 + j * 2, none⟩) hbl2).trans z0
        have u1 := (cellGr hgd (a := ⟨b2, o2 + j * 2 + 1, none⟩) hbl2).trans z1
        clear y0 y1 z0 z1 Xd Yd
        have hgd' : Hid (Gr wa wd) := Lib.hid hgd
        replace hgdw := Lib.hid hgdw
        clear hgd
        replace hq := Lib.hid hq
        replace hq2 := Lib.hid hq2
        go_upto_region 6 with (fail)
        by_cases h1 : p1 = q1
        · subst h1
          by_cases h2 : p2 = q2
          · subst h2
            have hall2 : Hid (∀ t, t < j + 1 → a.places[t]? = b.places[t]?) := Lib.hid (fun t ht => by
              by_cases ht' : t < j
              · exact hall.out t ht'
              · have : t = j := by omega
                subst this
                rw [hq.out, hq2.out])
            have s0 : (p1 == p1) = true := beq_self_eq_true _
            have s1 : (p2 == p2) = true := beq_self_eq_true _
            refine wpR_region (Eq) 9999 (by kernel_rfl) ?_
            (rw [← hwd]; replace hwd := Lib.hid hwd)
            refine wT (i := 0) (v := ?_) (⟨fun _ => rfl, Eq.trans⟩) (some 71) rfl (fun w' hw' => ?_) ?_
            rotate_left
            · go_simp; with_reducible rfl
            simp only [Act.put, List.setIfInBounds_toArray, List.set_cons_zero, List.set_cons_succ]
            refine wT (i := 1) (v := ?_) (⟨fun _ => rfl, Eq.trans⟩) (some 72) rfl (fun w' hw' => ?_) ?_
            rotate_left
            · subst hw'; go_simp; with_reducible rfl
            simp only [Act.put, List.setIfInBounds_toArray, List.set_cons_zero, List.set_cons_succ]
            refine wT (i := 2) (v := ?_) (⟨fun _ => rfl, Eq.trans⟩) (some 73) rfl (fun w' hw' => ?_) ?_
            rotate_left
            · go_simp; with_reducible rfl
            simp only [Act.put, List.setIfInBounds_toArray, List.set_cons_zero, List.set_cons_succ]
            refine wT (i := 3) (v := ?_) (⟨fun _ => rfl, Eq.trans⟩) (some 74) rfl (fun w' hw' => ?_) ?_
            rotate_left
            · go_simp; with_reducible rfl
            simp only [Act.put, List.setIfInBounds_toArray, List.set_cons_zero, List.set_cons_succ]
            refine wT (i := 4) (v := ?_) (⟨fun _ => rfl, Eq.trans⟩) (some 75) rfl (fun w' hw' => ?_) ?_
            rotate_left
            · go_simp; with_reducible rfl
            simp only [Act.put, List.setIfInBounds_toArray, List.set_cons_zero, List.set_cons_succ]
            refine wT (i := 5) (v := ?_) (⟨fun _ => rfl, Eq.trans⟩) (some 76) rfl (fun w' hw' => ?_) ?_
            rotate_left
            · subst hw'; go_simp; with_reducible rfl
            simp only [Act.put, List.setIfInBounds_toArray, List.set_cons_zero, List.set_cons_succ]
            refine wT (i := 6) (v := ?_) (⟨fun _ => rfl, Eq.trans⟩) (some 77) rfl (fun w' hw' => ?_) ?_
            rotate_left
            · go_simp; with_reducible rfl
            simp only [Act.put, List.setIfInBounds_toArray, List.set_cons_zero, List.set_cons_succ]
            refine wT (i := 7) (v := ?_) (⟨fun _ => rfl, Eq.trans⟩) (some 78) rfl (fun w' hw' => ?_) ?_
            rotate_left
            · subst hw'; go_simp; with_reducible rfl
            simp only [Act.put, List.setIfInBounds_toArray, List.set_cons_zero, List.set_cons_succ]
            refine wT (i := 8) (v := ?_) (⟨fun _ => rfl, Eq.trans⟩) (some 79) rfl (fun w' hw' => ?_) ?_
            rotate_left
            · go_simp; with_reducible rfl
            simp only [Act.put, List.setIfInBounds_toArray, List.set_cons_zero, List.set_cons_succ]
            refine wT (i := 9) (v := ?_) (⟨fun _ => rfl, Eq.trans⟩) (some 80) rfl (fun w' hw' => ?_) ?_
            rotate_left
            · go_simp; with_reducible rfl
            simp only [Act.put, List.setIfInBounds_toArray, List.set_cons_zero, List.set_cons_succ]
            refine wT (i := 10) (v := ?_) (⟨fun _ => rfl, Eq.trans⟩) (some 81) rfl (fun w' hw' => ?_) ?_
            rotate_left
            · go_simp; with_reducible rfl
            simp only [Act.put, List.setIfInBounds_toArray, List.set_cons_zero, List.set_cons_succ]
            refine wT (i := 11) (v := ?_) (⟨fun _ => rfl, Eq.trans⟩) (some 82) rfl (fun w' hw' => ?_) ?_
            rotate_left
            · subst hw'; go_simp; with_reducible rfl
            simp only [Act.put, List.setIfInBounds_toArray, List.set_cons_zero, List.set_cons_succ]
            refine wT (i := 12) (v := ?_) (⟨fun _ => rfl, Eq.trans⟩) (some 83) rfl (fun w' hw' => ?_) ?_
            rotate_left
            · go_simp; with_reducible rfl
            simp only [Act.put, List.setIfInBounds_toArray, List.set_cons_zero, List.set_cons_succ]
            refine wT (i := 13) (v := ?_) (⟨fun _ => rfl, Eq.trans⟩) (some 84) rfl (fun w' hw' => ?_) ?_
            rotate_left
            · go_simp; with_reducible rfl
            simp only [Act.put, List.setIfInBounds_toArray, List.set_cons_zero, List.set_cons_succ]
            refine wT (i := 14) (v := ?_) (⟨fun _ => rfl, Eq.trans⟩) (some 85) rfl (fun w' hw' => ?_) ?_
            rotate_left
            · go_simp; with_reducible rfl
            simp only [Act.put, List.setIfInBounds_toArray, List.set_cons_zero, List.set_cons_succ]
            refine wT (i := 15) (v := ?_) (⟨fun _ => rfl, Eq.trans⟩) (some 86) rfl (fun w' hw' => ?_) ?_
            rotate_left
            · subst hw'; go_simp; with_reducible rfl
            simp only [Act.put, List.setIfInBounds_toArray, List.set_cons_zero, List.set_cons_succ]
            refine wT (i := 16) (v := ?_) (⟨fun _ => rfl, Eq.trans⟩) (some 87) rfl (fun w' hw' => ?_) ?_
            rotate_left
            · go_simp; with_reducible rfl
            simp only [Act.put, List.setIfInBounds_toArray, List.set_cons_zero, List.set_cons_succ]
            refine wT (i := 17) (v := ?_) (⟨fun _ => rfl, Eq.trans⟩) (some 88) rfl (fun w' hw' => ?_) ?_
            rotate_left
            · go_simp; with_reducible rfl
            simp only [Act.put, List.setIfInBounds_toArray, List.set_cons_zero, List.set_cons_succ]
            refine wT (i := 18) (v := ?_) (⟨fun _ => rfl, Eq.trans⟩) (some 89) rfl (fun w' hw' => ?_) ?_
            rotate_left
            · go_simp; with_reducible rfl
            simp only [Act.put, List.setIfInBounds_toArray, List.set_cons_zero, List.set_cons_succ]
            refine wT (i := 19) (v := ?_) (⟨fun _ => rfl, Eq.trans⟩) (some 90) rfl (fun w' hw' => ?_) ?_
            rotate_left
            · subst hw'; go_simp; with_reducible rfl
            simp only [Act.put, List.setIfInBounds_toArray, List.set_cons_zero, List.set_cons_succ]
            refine wT (i := 20) (v := ?_) (⟨fun _ => rfl, Eq.trans⟩) (some 91) rfl (fun w' hw' => ?_) ?_
            rotate_left
            · go_simp; with_reducible rfl
            simp only [Act.put, List.setIfInBounds_toArray, List.set_cons_zero, List.set_cons_succ]
            refine wT (i := 21) (v := ?_) (⟨fun _ => rfl, Eq.trans⟩) (some 92) rfl (fun w' hw' => ?_) ?_
            rotate_left
            · subst hw'; go_simp; with_reducible rfl
            simp only [Act.put, List.setIfInBounds_toArray, List.set_cons_zero, List.set_cons_succ]
            refine wT (i := 22) (v := ?_) (⟨fun _ => rfl, Eq.trans⟩) (some 93) rfl (fun w' hw' => ?_) ?_
            rotate_left
            · go_simp; with_reducible rfl
            simp only [Act.put, List.setIfInBounds_toArray, List.set_cons_zero, List.set_cons_succ]
            refine wT (i := 23) (v := ?_) (⟨fun _ => rfl, Eq.trans⟩) (some 94) rfl (fun w' hw' => ?_) ?_
            rotate_left
            · go_simp; with_reducible rfl
            simp only [Act.put, List.setIfInBounds_toArray, List.set_cons_zero, List.set_cons_succ]
            refine wT (i := 24) (v := ?_) (⟨fun _ => rfl, Eq.trans⟩) (some 95) rfl (fun w' hw' => ?_) ?_
            rotate_left
            · go_simp; with_reducible rfl
            simp only [Act.put, List.setIfInBounds_toArray, List.set_cons_zero, List.set_cons_succ]
            refine wT (i := 25) (v := ?_) (⟨fun _ => rfl, Eq.trans⟩) (some 96) rfl (fun w' hw' => ?_) ?_
            rotate_left
            · subst hw'; go_simp; with_reducible rfl
            simp only [Act.put, List.setIfInBounds_toArray, List.set_cons_zero, List.set_cons_succ]
            refine wT (i := 26) (v := ?_) (⟨fun _ => rfl, Eq.trans⟩) (some 97) rfl (fun w' hw' => ?_) ?_
            rotate_left
            · go_simp; with_reducible rfl
            simp only [Act.put, List.setIfInBounds_toArray, List.set_cons_zero, List.set_cons_succ]
            refine wT (i := 27) (v := ?_) (⟨fun _ => rfl, Eq.trans⟩) (some 98) rfl (fun w' hw' => ?_) ?_
            rotate_left
            · go_simp; with_reducible rfl
            simp only [Act.put, List.setIfInBounds_toArray, List.set_cons_zero, List.set_cons_succ]
            refine wpR_done (by kernel_rfl) ?_ _
            clear x7 y7 xd7 yd7 x0 x1 u0 u1
            go_wp2_with fail
            go_roundw
            case rel => exact ⟨j + 1, by go_num, by omega, hall2, hgd'⟩
            case measure => simp [intOf]; omega
          · have hres : Hid (R = false) := Lib.hid (by
              rw [← hv'.out, beq_eq_false_iff_ne]
              intro e
              rw [e, hq2.out] at hq
              have hq := hq.out
              injection hq with hq
              injection hq with ha hb
              exact h2 hb.symm)
            have s0 : (p1 == p1) = true := beq_self_eq_true _
            have s1 : (p2 == q2) = false := beq_eq_false_iff_ne.mpr h2
            have s1' : (p2 != q2) = true := by unfold bne; rw [s1]; rfl
            replace h2 := Lib.hid h2
            refine wpR_region (Eq) 9999 (by kernel_rfl) ?_
            (rw [← hwd]; replace hwd := Lib.hid hwd)
            refine wT (i := 0) (v := ?_) (⟨fun _ => rfl, Eq.trans⟩) (some 71) rfl (fun w' hw' => ?_) ?_
            rotate_left
            · go_simp; with_reducible rfl
            simp only [Act.put, List.setIfInBounds_toArray, List.set_cons_zero, List.set_cons_succ]
            refine wT (i := 1) (v := ?_) (⟨fun _ => rfl, Eq.trans⟩) (some 72) rfl (fun w' hw' => ?_) ?_
            rotate_left
            · subst hw'; go_simp; with_reducible rfl
            simp only [Act.put, List.setIfInBounds_toArray, List.set_cons_zero, List.set_cons_succ]
            refine wT (i := 2) (v := ?_) (⟨fun _ => rfl, Eq.trans⟩) (some 73) rfl (fun w' hw' => ?_) ?_
            rotate_left
            · go_simp; with_reducible rfl
            simp only [Act.put, List.setIfInBounds_toArray, List.set_cons_zero, List.set_cons_succ]
            refine wT (i := 3) (v := ?_) (⟨fun _ => rfl, Eq.trans⟩) (some 74) rfl (fun w' hw' => ?_) ?_
            rotate_left
            · go_simp; with_reducible rfl
            simp only [Act.put, List.setIfInBounds_toArray, List.set_cons_zero, List.set_cons_succ]
            refine wT (i := 4) (v := ?_) (⟨fun _ => rfl, Eq.trans⟩) (some 75) rfl (fun w' hw' => ?_) ?_
            rotate_left
            · go_simp; with_reducible rfl
            simp only [Act.put, List.setIfInBounds_toArray, List.set_cons_zero, List.set_cons_succ]
            refine wT (i := 5) (v := ?_) (⟨fun _ => rfl, Eq.trans⟩) (some 76) rfl (fun w' hw' => ?_) ?_
            rotate_left
            · subst hw'; go_simp; with_reducible rfl
            simp only [Act.put, List.setIfInBounds_toArray, List.set_cons_zero, List.set_cons_succ]
            refine wT (i := 6) (v := ?_) (⟨fun _ => rfl, Eq.trans⟩) (some 77) rfl (fun w' hw' => ?_) ?_
            rotate_left
            · go_simp; with_reducible rfl
            simp only [Act.put, List.setIfInBounds_toArray, List.set_cons_zero, List.set_cons_succ]
            refine wT (i := 7) (v := ?_) (⟨fun _ => rfl, Eq.trans⟩) (some 78) rfl (fun w' hw' => ?_) ?_
            rotate_left
            · subst hw'; go_simp; with_reducible rfl
            simp only [Act.put, List.setIfInBounds_toArray, List.set_cons_zero, List.set_cons_succ]
            refine wT (i := 8) (v := ?_) (⟨fun _ => rfl, Eq.trans⟩) (some 79) rfl (fun w' hw' => ?_) ?_
            rotate_left
            · go_simp; with_reducible rfl
            simp only [Act.put, List.setIfInBounds_toArray, List.set_cons_zero, List.set_cons_succ]
            refine wT (i := 9) (v := ?_) (⟨fun _ => rfl, Eq.trans⟩) (some 80) rfl (fun w' hw' => ?_) ?_
            rotate_left
            · go_simp; with_reducible rfl
            simp only [Act.put, List.setIfInBounds_toArray, List.set_cons_zero, List.set_cons_succ]
            refine wT (i := 10) (v := ?_) (⟨fun _ => rfl, Eq.trans⟩) (some 81) rfl (fun w' hw' => ?_) ?_
            rotate_left
            · go_simp; with_reducible rfl
            simp only [Act.put, List.setIfInBounds_toArray, List.set_cons_zero, List.set_cons_succ]
            refine wT (i := 11) (v := ?_) (⟨fun _ => rfl, Eq.trans⟩) (some 82) rfl (fun w' hw' => ?_) ?_
            rotate_left
            · subst hw'; go_simp; with_reducible rfl
            simp only [Act.put, List.setIfInBounds_toArray, List.set_cons_zero, List.set_cons_succ]
            refine wT (i := 12) (v := ?_) (⟨fun _ => rfl, Eq.trans⟩) (some 83) rfl (fun w' hw' => ?_) ?_
            rotate_left
            · go_simp; with_reducible rfl
            simp only [Act.put, List.setIfInBounds_toArray, List.set_cons_zero, List.set_cons_succ]
            refine wT (i := 13) (v := ?_) (⟨fun _ => rfl, Eq.trans⟩) (some 84) rfl (fun w' hw' => ?_) ?_
            rotate_left
            · go_simp; with_reducible rfl
            simp only [Act.put, List.setIfInBounds_toArray, List.set_cons_zero, List.set_cons_succ]
            refine wT (i := 14) (v := ?_) (⟨fun _ => rfl, Eq.trans⟩) (some 85) rfl (fun w' hw' => ?_) ?_
            rotate_left
            · go_simp; with_reducible rfl
            simp only [Act.put, List.setIfInBounds_toArray, List.set_cons_zero, List.set_cons_succ]
            refine wT (i := 15) (v := ?_) (⟨fun _ => rfl, Eq.trans⟩) (some 86) rfl (fun w' hw' => ?_) ?_
            rotate_left
            · subst hw'; go_simp; with_reducible rfl
            simp only [Act.put, List.setIfInBounds_toArray, List.set_cons_zero, List.set_cons_succ]
            refine wT (i := 16) (v := ?_) (⟨fun _ => rfl, Eq.trans⟩) (some 87) rfl (fun w' hw' => ?_) ?_
            rotate_left
            · go_simp; with_reducible rfl
            simp only [Act.put, List.setIfInBounds_toArray, List.set_cons_zero, List.set_cons_succ]
            refine wT (i := 17) (v := ?_) (⟨fun _ => rfl, Eq.trans⟩) (some 88) rfl (fun w' hw' => ?_) ?_
            rotate_left
            · go_simp; with_reducible rfl
            simp only [Act.put, List.setIfInBounds_toArray, List.set_cons_zero, List.set_cons_succ]
            refine wT (i := 18) (v := ?_) (⟨fun _ => rfl, Eq.trans⟩) (some 89) rfl (fun w' hw' => ?_) ?_
            rotate_left
            · go_simp; with_reducible rfl
            simp only [Act.put, List.setIfInBounds_toArray, List.set_cons_zero, List.set_cons_succ]
            refine wT (i := 19) (v := ?_) (⟨fun _ => rfl, Eq.trans⟩) (some 90) rfl (fun w' hw' => ?_) ?_
            rotate_left
            · subst hw'; go_simp; with_reducible rfl
            simp only [Act.put, List.setIfInBounds_toArray, List.set_cons_zero, List.set_cons_succ]
            refine wT (i := 20) (v := ?_) (⟨fun _ => rfl, Eq.trans⟩) (some 91) rfl (fun w' hw' => ?_) ?_
            rotate_left
            · go_simp; with_reducible rfl
            simp only [Act.put, List.setIfInBounds_toArray, List.set_cons_zero, List.set_cons_succ]
            refine wT (i := 21) (v := ?_) (⟨fun _ => rfl, Eq.trans⟩) (some 92) rfl (fun w' hw' => ?_) ?_
            rotate_left
            · subst hw'; go_simp; with_reducible rfl
            simp only [Act.put, List.setIfInBounds_toArray, List.set_cons_zero, List.set_cons_succ]
            refine wT (i := 22) (v := ?_) (⟨fun _ => rfl, Eq.trans⟩) (some 93) rfl (fun w' hw' => ?_) ?_
            rotate_left
            · go_simp; with_reducible rfl
            simp only [Act.put, List.setIfInBounds_toArray, List.set_cons_zero, List.set_cons_succ]
            refine wT (i := 23) (v := ?_) (⟨fun _ => rfl, Eq.trans⟩) (some 94) rfl (fun w' hw' => ?_) ?_
            rotate_left
            · go_simp; with_reducible rfl
            simp only [Act.put, List.setIfInBounds_toArray, List.set_cons_zero, List.set_cons_succ]
            refine wT (i := 24) (v := ?_) (⟨fun _ => rfl, Eq.trans⟩) (some 95) rfl (fun w' hw' => ?_) ?_
            rotate_left
            · go_simp; with_reducible rfl
            simp only [Act.put, List.setIfInBounds_toArray, List.set_cons_zero, List.set_cons_succ]
            refine wT (i := 25) (v := ?_) (⟨fun _ => rfl, Eq.trans⟩) (some 96) rfl (fun w' hw' => ?_) ?_
            rotate_left
            · subst hw'; go_simp; with_reducible rfl
            simp only [Act.put, List.setIfInBounds_toArray, List.set_cons_zero, List.set_cons_succ]
            refine wT (i := 26) (v := ?_) (⟨fun _ => rfl, Eq.trans⟩) (some 97) rfl (fun w' hw' => ?_) ?_
            rotate_left
            · go_simp; with_reducible rfl
            simp only [Act.put, List.setIfInBounds_toArray, List.set_cons_zero, List.set_cons_succ]
            refine wT (i := 27) (v := ?_) (⟨fun _ => rfl, Eq.trans⟩) (some 98) rfl (fun w' hw' => ?_) ?_
            rotate_left
            · go_simp; with_reducible rfl
            simp only [Act.put, List.setIfInBounds_toArray, List.set_cons_zero, List.set_cons_succ]
            refine wpR_done (by kernel_rfl) ?_ _
            go_wp2_with fail
            go_ret
            exact ⟨by first | (rw [hres.out]; rfl) | rw [hres.out], hgdw.out⟩
        · have hres : Hid (R = false) := Lib.hid (by
            rw [← hv'.out, beq_eq_false_iff_ne]
            intro e
            rw [e, hq2.out] at hq
            have hq := hq.out
            injection hq with hq
            injection hq with ha hb
            exact h1 ha.symm)
          have s0 : (p1 == q1) = false := beq_eq_false_iff_ne.mpr h1
          have s0' : (p1 != q1) = true := by unfold bne; rw [s0]; rfl
          replace h1 := Lib.hid h1
          refine wpR_region (Eq) 9999 (by kernel_rfl) ?_
          (rw [← hwd]; replace hwd := Lib.hid hwd)
          refine wT (i := 0) (v := ?_) (⟨fun _ => rfl, Eq.trans⟩) (some 71) rfl (fun w' hw' => ?_) ?_
          rotate_left
          · go_simp; with_reducible rfl
          simp only [Act.put, List.setIfInBounds_toArray, List.set_cons_zero, List.set_cons_succ]
          refine wT (i := 1) (v := ?_) (⟨fun _ => rfl, Eq.trans⟩) (some 72) rfl (fun w' hw' => ?_) ?_
          rotate_left
          · subst hw'; go_simp; with_reducible rfl
          simp only [Act.put, List.setIfInBounds_toArray, List.set_cons_zero, List.set_cons_succ]
          refine wT (i := 2) (v := ?_) (⟨fun _ => rfl, Eq.trans⟩) (some 73) rfl (fun w' hw' => ?_) ?_
          rotate_left
          · go_simp; with_reducible rfl
          simp only [Act.put, List.setIfInBounds_toArray, List.set_cons_zero, List.set_cons_succ]
          refine wT (i := 3) (v := ?_) (⟨fun _ => rfl, Eq.trans⟩) (some 74) rfl (fun w' hw' => ?_) ?_
          rotate_left
          · go_simp; with_reducible rfl
          simp only [Act.put, List.setIfInBounds_toArray, List.set_cons_zero, List.set_cons_succ]
          refine wT (i := 4) (v := ?_) (⟨fun _ => rfl, Eq.trans⟩) (some 75) rfl (fun w' hw' => ?_) ?_
          rotate_left
          · go_simp; with_reducible rfl
          simp only [Act.put, List.setIfInBounds_toArray, List.set_cons_zero, List.set_cons_succ]
          refine wT (i := 5) (v := ?_) (⟨fun _ => rfl, Eq.trans⟩) (some 76) rfl (fun w' hw' => ?_) ?_
          rotate_left
          · subst hw'; go_simp; with_reducible rfl
          simp only [Act.put, List.setIfInBounds_toArray, List.set_cons_zero, List.set_cons_succ]
          refine wT (i := 6) (v := ?_) (⟨fun _ => rfl, Eq.trans⟩) (some 77) rfl (fun w' hw' => ?_) ?_
          rotate_left
          · go_simp; with_reducible rfl
          simp only [Act.put, List.setIfInBounds_toArray, List.set_cons_zero, List.set_cons_succ]
          refine wT (i := 7) (v := ?_) (⟨fun _ => rfl, Eq.trans⟩) (some 78) rfl (fun w' hw' => ?_) ?_
          rotate_left
          · subst hw'; go_simp; with_reducible rfl
          simp only [Act.put, List.setIfInBounds_toArray, List.set_cons_zero, List.set_cons_succ]
          refine wT (i := 8) (v := ?_) (⟨fun _ => rfl, Eq.trans⟩) (some 79) rfl (fun w' hw' => ?_) ?_
          rotate_left
          · go_simp; with_reducible rfl
          simp only [Act.put, List.setIfInBounds_toArray, List.set_cons_zero, List.set_cons_succ]
          refine wT (i := 9) (v := ?_) (⟨fun _ => rfl, Eq.trans⟩) (some 80) rfl (fun w' hw' => ?_) ?_
          rotate_left
          · go_simp; with_reducible rfl
          simp only [Act.put, List.setIfInBounds_toArray, List.set_cons_zero, List.set_cons_succ]
          refine wT (i := 10) (v := ?_) (⟨fun _ => rfl, Eq.trans⟩) (some 81) rfl (fun w' hw' => ?_) ?_
          rotate_left
          · go_simp; with_reducible rfl
          simp only [Act.put, List.setIfInBounds_toArray, List.set_cons_zero, List.set_cons_succ]
          refine wT (i := 11) (v := ?_) (⟨fun _ => rfl, Eq.trans⟩) (some 82) rfl (fun w' hw' => ?_) ?_
          rotate_left
          · subst hw'; go_simp; with_reducible rfl
          simp only [Act.put, List.setIfInBounds_toArray, List.set_cons_zero, List.set_cons_succ]
          refine wT (i := 12) (v := ?_) (⟨fun _ => rfl, Eq.trans⟩) (some 83) rfl (fun w' hw' => ?_) ?_
          rotate_left
          · go_simp; with_reducible rfl
          simp only [Act.put, List.setIfInBounds_toArray, List.set_cons_zero, List.set_cons_succ]
          refine wT (i := 13) (v := ?_) (⟨fun _ => rfl, Eq.trans⟩) (some 84) rfl (fun w' hw' => ?_) ?_
          rotate_left
          · go_simp; with_reducible rfl
          simp only [Act.put, List.setIfInBounds_toArray, List.set_cons_zero, List.set_cons_succ]
          refine wpR_skip (i := 14) (⟨fun _ => rfl, Eq.trans⟩) (some 85) rfl (by kernel_rfl) (by kernel_rfl) (by kernel_rfl) (by kernel_rfl) (by kernel_rfl) (fun _ _ _ h => h) (by kernel_rfl) ?_
          simp only [Act.put, List.setIfInBounds_toArray, List.set_cons_zero, List.set_cons_succ]
          refine wpR_skip (i := 15) (⟨fun _ => rfl, Eq.trans⟩) (some 86) rfl (by kernel_rfl) (by kernel_rfl) (by kernel_rfl) (by kernel_rfl) (by kernel_rfl) (fun _ _ _ h => h) (by kernel_rfl) ?_
          simp only [Act.put, List.setIfInBounds_toArray, List.set_cons_zero, List.set_cons_succ]
          refine wpR_skip (i := 16) (⟨fun _ => rfl, Eq.trans⟩) (some 87) rfl (by kernel_rfl) (by kernel_rfl) (by kernel_rfl) (by kernel_rfl) (by kernel_rfl) (fun _ _ _ h => h) (by kernel_rfl) ?_
          simp only [Act.put, List.setIfInBounds_toArray, List.set_cons_zero, List.set_cons_succ]
          refine wpR_skip (i := 17) (⟨fun _ => rfl, Eq.trans⟩) (some 88) rfl (by kernel_rfl) (by kernel_rfl) (by kernel_rfl) (by kernel_rfl) (by kernel_rfl) (fun _ _ _ h => h) (by kernel_rfl) ?_
          simp only [Act.put, List.setIfInBounds_toArray, List.set_cons_zero, List.set_cons_succ]
          refine wpR_skip (i := 18) (⟨fun _ => rfl, Eq.trans⟩) (some 89) rfl (by kernel_rfl) (by kernel_rfl) (by kernel_rfl) (by kernel_rfl) (by kernel_rfl) (fun _ _ _ h => h) (by kernel_rfl) ?_
          simp only [Act.put, List.setIfInBounds_toArray, List.set_cons_zero, List.set_cons_succ]
          refine wpR_skip (i := 19) (⟨fun _ => rfl, Eq.trans⟩) (some 90) rfl (by kernel_rfl) (by kernel_rfl) (by kernel_rfl) (by kernel_rfl) (by kernel_rfl) (fun _ _ _ h => h) (by kernel_rfl) ?_
          simp only [Act.put, List.setIfInBounds_toArray, List.set_cons_zero, List.set_cons_succ]
          refine wpR_skip (i := 20) (⟨fun _ => rfl, Eq.trans⟩) (some 91) rfl (by kernel_rfl) (by kernel_rfl) (by kernel_rfl) (by kernel_rfl) (by kernel_rfl) (fun _ _ _ h => h) (by kernel_rfl) ?_
          simp only [Act.put, List.setIfInBounds_toArray, List.set_cons_zero, List.set_cons_succ]
          refine wpR_skip (i := 21) (⟨fun _ => rfl, Eq.trans⟩) (some 92) rfl (by kernel_rfl) (by kernel_rfl) (by kernel_rfl) (by kernel_rfl) (by kernel_rfl) (fun _ _ _ h => h) (by kernel_rfl) ?_
          simp only [Act.put, List.setIfInBounds_toArray, List.set_cons_zero, List.set_cons_succ]
          refine wpR_skip (i := 22) (⟨fun _ => rfl, Eq.trans⟩) (some 93) rfl (by kernel_rfl) (by kernel_rfl) (by kernel_rfl) (by kernel_rfl) (by kernel_rfl) (fun _ _ _ h => h) (by kernel_rfl) ?_
          simp only [Act.put, List.setIfInBounds_toArray, List.set_cons_zero, List.set_cons_succ]
          refine wpR_skip (i := 23) (⟨fun _ => rfl, Eq.trans⟩) (some 94) rfl (by kernel_rfl) (by kernel_rfl) (by kernel_rfl) (by kernel_rfl) (by kernel_rfl) (fun _ _ _ h => h) (by kernel_rfl) ?_
          simp only [Act.put, List.setIfInBounds_toArray, List.set_cons_zero, List.set_cons_succ]
          refine wpR_skip (i := 24) (⟨fun _ => rfl, Eq.trans⟩) (some 95) rfl (by kernel_rfl) (by kernel_rfl) (by kernel_rfl) (by kernel_rfl) (by kernel_rfl) (fun _ _ _ h => h) (by kernel_rfl) ?_
          simp only [Act.put, List.setIfInBounds_toArray, List.set_cons_zero, List.set_cons_succ]
          refine wpR_skip (i := 25) (⟨fun _ => rfl, Eq.trans⟩) (some 96) rfl (by kernel_rfl) (by kernel_rfl) (by kernel_rfl) (by kernel_rfl) (by kernel_rfl) (fun _ _ _ h => h) (by kernel_rfl) ?_
          simp only [Act.put, List.setIfInBounds_toArray, List.set_cons_zero, List.set_cons_succ]
          refine wpR_skip (i := 26) (⟨fun _ => rfl, Eq.trans⟩) (some 97) rfl (by kernel_rfl) (by kernel_rfl) (by kernel_rfl) (by kernel_rfl) (by kernel_rfl) (fun _ _ _ h => h) (by kernel_rfl) ?_
          simp only [Act.put, List.setIfInBounds_toArray, List.set_cons_zero, List.set_cons_succ]
          refine wT (i := 27) (v := ?_) (⟨fun _ => rfl, Eq.trans⟩) (some 98) rfl (fun w' hw' => ?_) ?_
          rotate_left
          · go_simp; with_reducible rfl
          simp only [Act.put, List.setIfInBounds_toArray, List.set_cons_zero, List.set_cons_succ]
          refine wpR_done (by kernel_rfl) ?_ _
          go_wp2_with fail
          go_ret
          exact ⟨by first | (rw [hres.out]; rfl) | rw [hres.out], hgdw.out⟩
      · obtain rfl : j = np := by omega
        clear hlt
        have hres : Hid (R = true) := Lib.hid (by
          rw [← hv'.out, beq_iff_eq]
          refine List.ext_getElem? fun t => ?_
          by_cases ht : t < j
          · exact hall.out t ht
          · rw [List.getElem?_eq_none (by rw [hnp.out]; omega), List.getElem?_eq_none (by rw [hnp2.out]; omega)])
        go_wp2_with fail
        go_ret
        exact ⟨by first | (rw [hres.out]; rfl) | rw [hres.out], hgw.out⟩
  · have hres : Hid (R = false) := Lib.hid (by
      rw [← hR.out]
      unfold sameN
      refine decide_eq_false (fun e => H ?_)
      subst e
      exact ⟨⟨rfl, rfl, rfl, rfl⟩, rfl, rfl, rfl, by rw [← hnp.out, hnp2.out]⟩)
    replace H := Lib.hid H
    clear hP hP2 hbx hby
    go_upto_region 4 with (fail)
    all_goals try (go_ret; exact ⟨by first | (rw [hres.out]; rfl) | rw [hres.out], hb.out⟩)
    all_goals
      exfalso
      have H := H.out
      rename_i e0 e1 e2 e3 e4 e5 e6 hz _ _
      have hz' : np = np2 := by
        by_cases hh : (np : Int) = np2
        · omega
        · rw [bne_iff_ne.mpr hh] at hz; cases hz
      exact H ⟨⟨e0, e1, e2, e3⟩, e4, e5, e6, hz'⟩
theorem NsV.len {L : List Nt} {v : Value} {w : World} (h : NsV L v w) : ∃ A c, v = .slice A L.length c ∧ L.length ≤ c ∧ c ≤ maxLen := by
  obtain ⟨E, A, c, rfl, e, h1, h2, -⟩ := h
  exact ⟨A, c, by rw [List.length_map]; exact e, by rw [List.length_map]; exact h1, h2⟩
/-- a note of a slice -/
theorem NsV.get {L : List Nt} {A0 : Option Addr} {n0 c0 : Nat} {w : World} (h : NsV L (.slice A0 n0 c0) w) {i : Nat} (hi : i < L.length) : ∃ (b o : Nat) (xn : Nt) (xA : Option Addr) (xc : Nat) (xA2 : Option Addr) (xc2 : Nat), A0 = some ⟨b, o, none⟩ ∧ L[i]? = some xn ∧ NeV ⟨xn, xA, xc, xA2, xc2⟩ w ∧ b < w.heap.size ∧
    ∀ w', Gr w w' → w'.cell? ⟨b, o + i * 8, none⟩ = some (.int .i64 xn.kind) ∧ w'.cell? ⟨b, o + i * 8 + 1, none⟩ = some (.string (bs xn.key)) ∧ w'.cell? ⟨b, o + i * 8 + 2, none⟩ = some (.int .i64 xn.gen) ∧ w'.cell? ⟨b, o + i * 8 + 3, none⟩ = some (.int .i64 xn.cart) ∧ w'.cell? ⟨b, o + i * 8 + 4, none⟩ = some (.slice xA xn.data.length xc) ∧ w'.cell? ⟨b, o + i * 8 + 5, none⟩ = some (.string (bs xn.sum)) ∧ w'.cell? ⟨b, o + i * 8 + 6, none⟩ = some (.int .i64 xn.size) ∧ w'.cell? ⟨b, o + i * 8 + 7, none⟩ = some (.slice xA2 xn.places.length xc2) := by
  obtain ⟨E, A, c, rfl, e, h1, h2, h3, h4⟩ := h
  injection e with e1 e2 e3
  subst e1
  rw [List.length_map] at hi
  obtain ⟨b, o, rfl, hb, hc⟩ := h3 (by omega)
  have hx := List.getElem?_eq_getElem hi
  obtain ⟨⟨xn, xA, xc, xA2, xc2⟩, hxx⟩ : ∃ x, E[i] = x := ⟨_, rfl⟩
  rw [hxx] at hx
  refine ⟨b, o, xn, xA, xc, xA2, xc2, rfl, by rw [List.getElem?_map, hx]; rfl, h4 _ (List.mem_of_getElem? hx), hb, fun w' hw' => ?_⟩
  have hk := fun j u hu => (cellGr hw' (a := ⟨b, o + i * 8 + j, none⟩) hb).trans (hc i _ hx j u hu)
  exact ⟨hk 0 _ rfl, hk 1 _ rfl, hk 2 _ rfl, hk 3 _ rfl, hk 4 _ rfl, hk 5 _ rfl, hk 6 _ rfl, hk 7 _ rfl⟩
theorem ON.empty (w : World) (base : Nat) (hb : base ≤ w.heap.size) : ON [] (.slice (some ⟨w.heap.size, 0, none⟩) 0 0) base (w.alloc (.cells #[] 37)) := ⟨World.ownsRow_made w #[] 0 hb (by simp [maxLen]) rfl, fun x h => (by cases h), fun x h => (by cases h)⟩
set_option maxHeartbeats 4000000 in
set_option maxRecDepth 20000 in
theorem alike_any (L M : List Nt) (v u : Value) (w : World) (h : NsV L v w) (h2 : NsV M u w) :
    Calls Tryz.prog 37 #[v, u] w fun e w' => e = .returned (.bool (decide (L = M))) ∧ Gr w w' := by
  obtain ⟨A, c, rfl, hc1, hc2⟩ := h.len
  obtain ⟨B, d, rfl, hd1, hd2⟩ := h2.len
  obtain ⟨n, hn⟩ : ∃ n, L.length = n := ⟨_, rfl⟩
  obtain ⟨m, hm⟩ : ∃ m, M.length = m := ⟨_, rfl⟩
  rw [hn] at h hc1 ⊢
  rw [hm] at h2 hd1 ⊢
  have hnm : n ≤ 9223372036854775807 := by simp only [maxLen] at hc2; omega
  replace h := Lib.hid h
  replace h2 := Lib.hid h2
  obtain ⟨k, hk⟩ : ∃ k, decide (L = M) = k := ⟨_, rfl⟩
  rw [hk]
  replace hk := Lib.hid hk
  clear hc1 hc2 hd1 hd2
  by_cases hne : n = m
  · subst hne
    replace hn := Lib.hid hn
    replace hm := Lib.hid hm
    go_enter Tryz.func37, Tryz.ntmps37
    go_wp2_with fail
    go_loopw [5] (fun i wr => ∃ j : Nat, i = .int .i64 j ∧ j ≤ n ∧ Hid (∀ t, t < j → L[t]? = M[t]?) ∧ Hid (Gr w wr)) (fun i _ => n - (intOf i).toNat)
    case atStart => exact ⟨0, rfl, Nat.zero_le _, Lib.hid (fun t ht => absurd ht (by omega)), Lib.hid (Gr.refl _)⟩
    case round =>
      obtain ⟨j, rfl, hj, hall, hb⟩ := hrel
      by_cases hlt : j < n
      · obtain ⟨b, o, xn, xA, xc, xA2, xc2, rfl, hq, hxv, hbl, hcx⟩ := (NsV.gr hb.out h).out.get (i := j) (by rw [hn.out]; exact hlt)
        obtain ⟨b2, o2, yn, yA, yc, yA2, yc2, rfl, hq2, hyv, hbl2, hcy⟩ := (NsV.gr hb.out h2).out.get (i := j) (by rw [hm.out]; exact hlt)
        have hgd : Gr wr wr.drew := (Below.refl _ _).drew
        obtain ⟨wd, hwd⟩ : ∃ wd, wd = wr.drew := ⟨_, rfl⟩
        rw [← hwd] at hgd
        have hcx' : Hid (∀ w', Gr wd w' → w'.cell? ⟨b, o + j * 8, none⟩ = some (.int .i64 xn.kind) ∧ w'.cell? ⟨b, o + j * 8 + 1, none⟩ = some (.string (bs xn.key)) ∧ w'.cell? ⟨b, o + j * 8 + 2, none⟩ = some (.int .i64 xn.gen) ∧ w'.cell? ⟨b, o + j * 8 + 3, none⟩ = some (.int .i64 xn.cart) ∧ w'.cell? ⟨b, o + j * 8 + 4, none⟩ = some (.slice xA xn.data.length xc) ∧ w'.cell? ⟨b, o + j * 8 + 5, none⟩ = some (.string (bs xn.sum)) ∧ w'.cell? ⟨b, o + j * 8 + 6, none⟩ = some (.int .i64 xn.size) ∧ w'.cell? ⟨b, o + j * 8 + 7, none⟩ = some (.slice xA2 xn.places.length xc2)) := Lib.hid (fun w' hw' => hcx w' (hgd.trans hw'))
        have hcy' : Hid (∀ w', Gr wd w' → w'.cell? ⟨b2, o2 + j * 8, none⟩ = some (.int .i64 yn.kind) ∧ w'.cell? ⟨b2, o2 + j * 8 + 1, none⟩ = some (.string (bs yn.key)) ∧ w'.cell? ⟨b2, o2 + j * 8 + 2, none⟩ = some (.int .i64 yn.gen) ∧ w'.cell? ⟨b2, o2 + j * 8 + 3, none⟩ = some (.int .i64 yn.cart) ∧ w'.cell? ⟨b2, o2 + j * 8 + 4, none⟩ = some (.slice yA yn.data.length yc) ∧ w'.cell? ⟨b2, o2 + j * 8 + 5, none⟩ = some (.string (bs yn.sum)) ∧ w'.cell? ⟨b2, o2 + j * 8 + 6, none⟩ = some (.int .i64 yn.size) ∧ w'.cell? ⟨b2, o2 + j * 8 + 7, none⟩ = some (.slice yA2 yn.places.length yc2)) := Lib.hid (fun w' hw' => hcy w' (hgd.trans hw'))
        have hxd : Hid (NtV xn (.agg #[.int .i64 xn.kind, .string (bs xn.key), .int .i64 xn.gen, .int .i64 xn.cart, .slice xA xn.data.length xc, .string (bs xn.sum), .int .i64 xn.size, .slice xA2 xn.places.length xc2]) wd) := Lib.hid (NeV.ntv (hxv.gr hgd))
        have hyd : Hid (NtV yn (.agg #[.int .i64 yn.kind, .string (bs yn.key), .int .i64 yn.gen, .int .i64 yn.cart, .slice yA yn.data.length yc, .string (bs yn.sum), .int .i64 yn.size, .slice yA2 yn.places.length yc2]) wd) := Lib.hid (NeV.ntv (hyv.gr hgd))
        have hb2 : Hid (Gr w wd) := Lib.hid (hb.out.trans hgd)
        clear hcx hcy hxv hyv hgd hbl hbl2
        replace hq := Lib.hid hq
        replace hq2 := Lib.hid hq2
        go_upto_region 6 with (fail)
        by_cases hpq : xn = yn
        · have hsm : sameN xn yn = true := by rw [hpq]; exact decide_eq_true rfl
          have hall2 : Hid (∀ t, t < j + 1 → L[t]? = M[t]?) := Lib.hid (fun t ht => by
            by_cases ht' : t < j
            · exact hall.out t ht'
            · have : t = j := by omega
              subst this
              rw [hq.out, hq2.out, hpq])
          replace hpq := Lib.hid hpq
          replace hsm := Lib.hid hsm
          refine wpR_region (Gr) 9999 (by kernel_rfl) ?_
          (rw [← hwd]; replace hwd := Lib.hid hwd)
          refine wT (i := 0) (v := ?_) (Gr.road) (some 17) rfl (fun w' hw' => ?_) ?_
          rotate_left
          · go_simp; with_reducible rfl
          simp only [Act.put, List.setIfInBounds_toArray, List.set_cons_zero, List.set_cons_succ]
          refine wT (i := 1) (v := ?_) (Gr.road) (some 18) rfl (fun w' hw' => ?_) ?_
          rotate_left
          · go_simp; with_reducible rfl
          simp only [Act.put, List.setIfInBounds_toArray, List.set_cons_zero, List.set_cons_succ]
          refine wT (i := 2) (v := ?_) (Gr.road) (some 19) rfl (fun w' hw' => ?_) ?_
          rotate_left
          · go_simp; with_reducible rfl
          simp only [Act.put, List.setIfInBounds_toArray, List.set_cons_zero, List.set_cons_succ]
          refine wT (i := 3) (v := ?_) (Gr.road) (some 20) rfl (fun w' hw' => ?_) ?_
          rotate_left
          · obtain ⟨q0, q1, q2, q3, q4, q5, q6, q7⟩ := hcx'.out w' hw'; go_simp; with_reducible rfl
          simp only [Act.put, List.setIfInBounds_toArray, List.set_cons_zero, List.set_cons_succ]
          refine wT (i := 4) (v := ?_) (Gr.road) (some 21) rfl (fun w' hw' => ?_) ?_
          rotate_left
          · go_simp; with_reducible rfl
          simp only [Act.put, List.setIfInBounds_toArray, List.set_cons_zero, List.set_cons_succ]
          refine wT (i := 5) (v := ?_) (Gr.road) (some 22) rfl (fun w' hw' => ?_) ?_
          rotate_left
          · go_simp; with_reducible rfl
          simp only [Act.put, List.setIfInBounds_toArray, List.set_cons_zero, List.set_cons_succ]
          refine wT (i := 6) (v := ?_) (Gr.road) (some 23) rfl (fun w' hw' => ?_) ?_
          rotate_left
          · go_simp; with_reducible rfl
          simp only [Act.put, List.setIfInBounds_toArray, List.set_cons_zero, List.set_cons_succ]
          refine wT (i := 7) (v := ?_) (Gr.road) (some 24) rfl (fun w' hw' => ?_) ?_
          rotate_left
          · obtain ⟨q0, q1, q2, q3, q4, q5, q6, q7⟩ := hcy'.out w' hw'; go_simp; with_reducible rfl
          simp only [Act.put, List.setIfInBounds_toArray, List.set_cons_zero, List.set_cons_succ]
          refine wpR_one 8 rfl (by kernel_rfl) (by kernel_rfl) (fun K hK => ?_)
          go_simp
          refine (rsame_any xn yn _ _ wd hxd.out hyd.out).mono ?_
          rw [hsm.out]
          rintro e w5 ⟨rfl, hr5⟩
          refine hK _ _ (fun _ => hr5) ?_
          clear hK K
          replace hb2 := Lib.hid (hb2.out.trans hr5)
          clear hr5
          try simp only [Act.put, List.setIfInBounds_toArray, List.set_cons_zero, List.set_cons_succ]
          refine wT (i := 9) (v := ?_) (Gr.road) (some 26) rfl (fun w' hw' => ?_) ?_
          rotate_left
          · go_simp; with_reducible rfl
          simp only [Act.put, List.setIfInBounds_toArray, List.set_cons_zero, List.set_cons_succ]
          refine wpR_done (by kernel_rfl) ?_ _
          go_wp2_with fail
          go_roundw
          case rel => exact ⟨j + 1, by go_num, by omega, hall2, hb2⟩
          case measure => simp [intOf]; omega
        · have hres : Hid (k = false) := Lib.hid (by
            rw [← hk.out]
            refine decide_eq_false (fun e => hpq ?_)
            rw [e, hq2.out] at hq
            have hq := hq.out
            injection hq with hq
            exact hq.symm)
          have hsm : sameN xn yn = false := decide_eq_false hpq
          replace hpq := Lib.hid hpq
          replace hsm := Lib.hid hsm
          refine wpR_region (Gr) 9999 (by kernel_rfl) ?_
          (rw [← hwd]; replace hwd := Lib.hid hwd)
          refine wT (i := 0) (v := ?_) (Gr.road) (some 17) rfl (fun w' hw' => ?_) ?_
          rotate_left
          · go_simp; with_reducible rfl
          simp only [Act.put, List.setIfInBounds_toArray, List.set_cons_zero, List.set_cons_succ]
          refine wT (i := 1) (v := ?_) (Gr.road) (some 18) rfl (fun w' hw' => ?_) ?_
          rotate_left
          · go_simp; with_reducible rfl
          simp only [Act.put, List.setIfInBounds_toArray, List.set_cons_zero, List.set_cons_succ]
          refine wT (i := 2) (v := ?_) (Gr.road) (some 19) rfl (fun w' hw' => ?_) ?_
          rotate_left
          · go_simp; with_reducible rfl
          simp only [Act.put, List.setIfInBounds_toArray, List.set_cons_zero, List.set_cons_succ]
          refine wT (i := 3) (v := ?_) (Gr.road) (some 20) rfl (fun w' hw' => ?_) ?_
          rotate_left
          · obtain ⟨q0, q1, q2, q3, q4, q5, q6, q7⟩ := hcx'.out w' hw'; go_simp; with_reducible rfl
          simp only [Act.put, List.setIfInBounds_toArray, List.set_cons_zero, List.set_cons_succ]
          refine wT (i := 4) (v := ?_) (Gr.road) (some 21) rfl (fun w' hw' => ?_) ?_
          rotate_left
          · go_simp; with_reducible rfl
          simp only [Act.put, List.setIfInBounds_toArray, List.set_cons_zero, List.set_cons_succ]
          refine wT (i := 5) (v := ?_) (Gr.road) (some 22) rfl (fun w' hw' => ?_) ?_
          rotate_left
          · go_simp; with_reducible rfl
          simp only [Act.put, List.setIfInBounds_toArray, List.set_cons_zero, List.set_cons_succ]
          refine wT (i := 6) (v := ?_) (Gr.road) (some 23) rfl (fun w' hw' => ?_) ?_
          rotate_left
          · go_simp; with_reducible rfl
          simp only [Act.put, List.setIfInBounds_toArray, List.set_cons_zero, List.set_cons_succ]
          refine wT (i := 7) (v := ?_) (Gr.road) (some 24) rfl (fun w' hw' => ?_) ?_
          rotate_left
          · obtain ⟨q0, q1, q2, q3, q4, q5, q6, q7⟩ := hcy'.out w' hw'; go_simp; with_reducible rfl
          simp only [Act.put, List.setIfInBounds_toArray, List.set_cons_zero, List.set_cons_succ]
          refine wpR_one 8 rfl (by kernel_rfl) (by kernel_rfl) (fun K hK => ?_)
          go_simp
          refine (rsame_any xn yn _ _ wd hxd.out hyd.out).mono ?_
          rw [hsm.out]
          rintro e w5 ⟨rfl, hr5⟩
          refine hK _ _ (fun _ => hr5) ?_
          clear hK K
          replace hb2 := Lib.hid (hb2.out.trans hr5)
          clear hr5
          try simp only [Act.put, List.setIfInBounds_toArray, List.set_cons_zero, List.set_cons_succ]
          refine wT (i := 9) (v := ?_) (Gr.road) (some 26) rfl (fun w' hw' => ?_) ?_
          rotate_left
          · go_simp; with_reducible rfl
          simp only [Act.put, List.setIfInBounds_toArray, List.set_cons_zero, List.set_cons_succ]
          refine wpR_done (by kernel_rfl) ?_ _
          go_wp2_with fail
          go_ret
          exact ⟨by first | (rw [hres.out]; rfl) | rw [hres.out], hb2.out⟩
      · obtain rfl : j = n := by omega
        clear hlt
        have hres : Hid (k = true) := Lib.hid (by
          rw [← hk.out]
          refine decide_eq_true (List.ext_getElem? fun t => ?_)
          by_cases ht : t < j
          · exact hall.out t ht
          · rw [List.getElem?_eq_none (by rw [hn.out]; omega), List.getElem?_eq_none (by rw [hm.out]; omega)])
        go_wp2_with fail
        go_ret
        exact ⟨by first | (rw [hres.out]; rfl) | rw [hres.out], hb.out⟩
  · have hres : Hid (k = false) := Lib.hid (by
      rw [← hk.out]
      refine decide_eq_false (fun e => hne ?_)
      rw [← hn, ← hm, e])
    replace hn := Lib.hid hn
    replace hm := Lib.hid hm
    have hne2 : ((n : Int) == m) = false := beq_eq_false_iff_ne.mpr (by omega)
    go_enter Tryz.func37, Tryz.ntmps37
    go_wp2_with fail
    go_ret
    exact ⟨by first | (rw [hres.out]; rfl) | rw [hres.out], Gr.refl _⟩
end Go.Proofs.YthboeoidgglcgaaGreat
