/- cat: the reference's Keys. -/
import Derived.Test.YthboeoidgglcgaaGreatCpC
namespace Go.Proofs.YthboeoidgglcgaaGreat
set_option linter.unusedVariables false
set_option linter.unusedSimpArgs false
set_option linter.unusedSectionVars false
open Go Go.RowKit Go.Maps Go.Sort Go.Shelf Go.Proofs
theorem OS.row {l : List By} {v : Value} {base : Nat} {w : World} (h : OS l v base w) : w.ownsRow base 9 1 v l.length (l.map sV) := h
theorem map_sV_take (l : List By) (p : Nat) : (l.map sV).take (p * 1) = (l.take p).map sV := by rw [Nat.mul_one, List.map_take]
theorem map_sV_drop (l : List By) (p : Nat) : (l.map sV).drop (p * 1) = (l.drop p).map sV := by rw [Nat.mul_one, List.map_drop]
set_option maxRecDepth 10000 in
set_option maxHeartbeats 4000000 in
theorem rkeys_any (lo g : Nat) (y : RcX) (c : CtP) (w : World) (h : Hid (Rc w lo g y c)) (hf : c.Few 999) (hok : c.Ok) : Calls Tryz.prog 34 #[.pointer (some ⟨g, 0, none⟩)] w fun e w' => ∃ A cc, e = .returned (.slice A (keysP c).length cc) ∧ OS (keysP c) (.slice A (keysP c).length cc) w.heap.size w' ∧ Gr w w' := by
  obtain ⟨B0, hB0⟩ : ∃ b, w.heap.size = b := ⟨_, rfl⟩
  obtain ⟨nE, hnE⟩ : ∃ n, c.E.length = n := ⟨_, rfl⟩
  obtain ⟨nW, hnW⟩ : ∃ n, c.W.length = n := ⟨_, rfl⟩
  have hEl : nE ≤ 999 := by have := hf.2.1; omega
  have hWl : nW ≤ 999 := by have := hf.1; omega
  have hlen1 : Hid (y.E.length = nE) := Lib.hid (h.out.len.trans hnE)
  obtain ⟨AH, cH, hvH, -, -⟩ := row_form h.out.hs.1
  rw [hlen1.out] at hvH
  obtain ⟨AW, cW, hvW, -, -⟩ := row_form h.out.ws
  rw [hnW] at hvW
  have hcT : Hid (∀ q, Gr w q → Rc q lo g y c) := Lib.hid (fun q hq => h.out.gr hq)
  have hkeyE : Hid (∀ j x, c.E[j]? = some x → ∃ bH, AH = some ⟨bH, 0, none⟩ ∧ ∀ q, Gr w q → q.cell? ⟨bH, j * 5, none⟩ = some (.string (bs x.1))) := Lib.hid (fun j x hx => by
    have hj := (List.getElem?_eq_some_iff.mp hx).1
    obtain ⟨bH, cH', e, -, -, -, hb, -, -, hcell, -⟩ := row_at h.out.hs.1 (by rw [hlen1.out]; omega)
    rw [hvH] at e
    injection e with e1 _ _
    obtain ⟨xe, hxe⟩ : ∃ xe, y.E[j]? = some xe := ⟨_, List.getElem?_eq_getElem (by rw [hlen1.out]; omega)⟩
    have hk5 : xe.e.key = x.1 := by
      have h1 := congrArg (fun l => l[j]?) h.out.he
      simp only [List.getElem?_map, hxe, hx, Option.map_some] at h1
      injection h1 with h1
      rw [h1]
      exact (hok.okE x (List.mem_of_getElem? hx)).1
    refine ⟨bH, e1, fun q hq => (cellGr hq (a := ⟨bH, j * 5, none⟩) hb).trans ?_⟩
    have := hcell _ (.string (bs xe.e.key)) ((flatE_at hxe 0 (by omega)).trans rfl)
    rw [hk5, Nat.add_zero] at this
    exact this)
  have hkeyW : Hid (∀ j x, c.W[j]? = some x → ∃ bH, AW = some ⟨bH, 0, none⟩ ∧ ∀ q, Gr w q → q.cell? ⟨bH, j * 2, none⟩ = some (.string (bs x.1))) := Lib.hid (fun j x hx => by
    have hj := (List.getElem?_eq_some_iff.mp hx).1
    obtain ⟨bH, cH', e, -, -, -, hb, -, -, hcell, -⟩ := row_at h.out.ws (by omega)
    rw [hvW] at e
    injection e with e1 _ _
    exact ⟨bH, e1, fun q hq => (cellGr hq (a := ⟨bH, j * 2, none⟩) hb).trans (hcell _ _ (flatB_at hx).1)⟩)
  have hlow : Hid (∀ q, Gr w q → B0 ≤ q.heap.size) := Lib.hid (fun q hq => by rw [← hB0]; exact Below.size hq)
  have hgo : Hid (∀ q r, Gr w q → Below B0 q r → Gr w r) := Lib.hid (fun q r h1 h2 => by unfold Gr at h1 ⊢; rw [hB0] at h1 ⊢; exact h1.trans h2)
  have ho0 : Hid (OS [] (.slice (some ⟨w.heap.size, 0, none⟩) 0 0) B0 (w.alloc (.cells #[] 9))) := Lib.hid (World.ownsRow_made w #[] 0 (by rw [hB0]; exact Nat.le_refl _) (by simp [maxLen]) rfl)
  have hg0 : Hid (Gr w (w.alloc (.cells #[] 9))) := Lib.hid (Gr.alloc _ _)
  have y1 := blk_cell (j := 1) (hcT.out _ hg0.out).blk rfl
  rw [hvH] at y1
  rw [hB0]
  replace hB0 := Lib.hid hB0
  replace hvH := Lib.hid hvH
  replace hvW := Lib.hid hvW
  replace hnE := Lib.hid hnE
  replace hnW := Lib.hid hnW
  go_enter Tryz.func34, Tryz.ntmps34
  go_wp2_with fail
  go_loopw [3, 4] (fun q u wr => ∃ (j : Nat) (A1 : Option Addr) (c1 : Nat), j ≤ nE ∧ q = .slice A1 j c1 ∧ u = .int .i64 j ∧ Hid (OS ((c.E.map Prod.fst).take j) (.slice A1 j c1) B0 wr) ∧ Hid (Gr w wr)) (fun _ u _ => (nE - intOf u).toNat)
  case atStart => exact ⟨0, _, _, Nat.zero_le _, rfl, rfl, ho0, hg0⟩
  case round =>
    obtain ⟨j, A1, c1, hj, rfl, rfl, ho, hg⟩ := hrel
    clear ho0 hg0 y1
    have y1 := blk_cell (j := 1) (hcT.out _ hg.out).blk rfl
    rw [hvH.out] at y1
    by_cases hlt : j < nE
    · have ii : (j : Int) < (nE : Int) := by omega
      obtain ⟨x, hx⟩ : ∃ x, c.E[j]? = some x := ⟨_, List.getElem?_eq_getElem (by rw [hnE.out]; exact hlt)⟩
      obtain ⟨bH, rfl, hkx⟩ := hkeyE.out j x hx
      have q0 := hkx wr hg.out
      have htk : Hid ((c.E.map Prod.fst).take (j + 1) = (c.E.map Prod.fst).take j ++ [x.1]) := Lib.hid (by rw [List.take_add_one, List.getElem?_map, hx]; rfl)
      have htl : Hid (((c.E.map Prod.fst).take j).length = j) := Lib.hid (by rw [List.length_take, List.length_map, hnE.out]; omega)
      have hr9 : Hid (Reads (wr.alloc (.cells #[.string (bs x.1)] 9)) (wr.heap.size + 1) 1 (some ⟨wr.heap.size, 0, none⟩) 1 [sV x.1]) := Lib.hid (sV_lit wr x.1)
      have hg9 : Gr wr (wr.alloc (.cells #[.string (bs x.1)] 9)) := Gr.alloc _ _
      have hw9 := Lib.hid (hg.out.trans hg9)
      have ho9 := Lib.hid (OS.below hg9 ho.out)
      replace hx := Lib.hid hx
      clear ho hg9 hkx
      go_wp2_with (at_builtin; go_must (refine wpl_appS rfl _ _ rfl B0 (.slice A1 j c1) ((c.E.map Prod.fst).take j) rfl ho9.out (some ⟨wr.heap.size, 0, none⟩) 1 _ x.1 rfl hr9.out (by rw [htl.out]; omega) (hlow.out _ hw9.out) ?_); intro v8 w8 ho8 hg8; have hb8 := (Below.refl B0 _).grown hg8 (hlow.out _ hw9.out) (fun q hq => (World.ownsRow.lt ho9.out q hq).1); replace hb8 := Lib.hid (hgo.out _ _ hw9.out hb8); obtain ⟨A8, c8, rfl, -, -⟩ := OS.form ho8; have hl8 : ((c.E.map Prod.fst).take j ++ [x.1]).length = j + 1 := (by rw [List.length_append, htl.out]; rfl); rw [hl8] at ho8 ⊢; replace ho8 := Lib.hid ho8; replace hl8 := Lib.hid hl8; clear hg8)
      go_roundw
      case rel => exact ⟨j + 1, A8, c8, by omega, rfl, by go_num, Lib.hid (by rw [htk.out]; exact ho8.out), hb8⟩
      case measure => simp [intOf]; omega
    · obtain rfl : nE = j := by omega
      have e : (c.E.map Prod.fst).take nE = keysI c 0 := by rw [keysI_zero, List.take_of_length_le (by rw [List.length_map, hnE.out]; exact Nat.le_refl _)]
      rw [e] at ho
      rename World => wS
      have y0 := blk_cell (j := 0) (hcT.out _ hg.out).blk rfl
      rw [hvW.out] at y0
      go_wp2_with fail
      clear y0 y1
      go_loopw [3, 5] (fun q u wr => ∃ (j : Nat) (A1 : Option Addr) (c1 m1 : Nat), j ≤ nW ∧ q = .slice A1 m1 c1 ∧ u = .int .i64 j ∧ Hid (m1 = nE + j) ∧ Hid (OS (keysI c j) (.slice A1 m1 c1) B0 wr) ∧ Hid (Gr w wr)) (fun _ u _ => (nW - intOf u).toNat)
      case atStart => exact ⟨0, A1, c1, nE, Nat.zero_le _, rfl, rfl, Lib.hid rfl, ho, hg⟩
      case round =>
        obtain ⟨j, A2, c2, m2, hj2, rfl, rfl, hm2, ho2, hg2⟩ := hrel
        clear ho hg
        have y0 := blk_cell (j := 0) (hcT.out _ hg2.out).blk rfl
        rw [hvW.out] at y0
        by_cases hlt2 : j < nW
        · have ii : (j : Int) < (nW : Int) := by omega
          obtain ⟨x, hx⟩ : ∃ x, c.W[j]? = some x := ⟨_, List.getElem?_eq_getElem (by rw [hnW.out]; exact hlt2)⟩
          obtain ⟨bW, rfl, hkx⟩ := hkeyW.out j x hx
          have hkx' := Lib.hid hkx
          have hks := Lib.hid (keysI_succ hx)
          have hkl : Hid ((keysI c j).length = m2) := Lib.hid (by rw [keysI_len c j (by rw [hnW.out]; omega), hnE.out]; exact hm2.out.symm)
          have hml : m2 ≤ 1998 := by have := hm2.out; omega
          obtain ⟨pos, hpos⟩ : ∃ m, ((keysI c j).takeWhile (fun e => decide (e < x.1))).length = m := ⟨_, rfl⟩
          have hpm : pos ≤ m2 := by rw [← hpos, ← hkl.out]; exact (List.takeWhile_sublist _).length_le
          replace hx := Lib.hid hx
          replace hpos := Lib.hid hpos
          clear hkx
          rename World => wr
          have hrow2 : Hid (∀ q, Gr wr q → q.ownsRow B0 9 1 (.slice A2 m2 c2) m2 ((keysI c j).map sV)) := Lib.hid (fun q hq => by have := OS.row (OS.below hq ho2.out); rw [hkl.out] at this; exact this)
          have hm2c : m2 ≤ c2 := by obtain ⟨A', c', e, h1, -⟩ := row_form (hrow2.out wr (Gr.refl _)); injection e with _ _ e; omega
          go_upto_block 4 with (fail)
          clear y0
          go_cut [6] (fun v6 wq => v6 = .int .i64 pos ∧ Hid (Gr wr wq))
          case first =>
            go_wp2_with fail
            go_loopw [6] (fun u wq => ∃ i : Nat, i ≤ pos ∧ u = .int .i64 i ∧ Hid (Gr wr wq)) (fun u _ => (pos - intOf u).toNat)
            case atStart => exact ⟨0, Nat.zero_le _, rfl, Lib.hid (Gr.refl _)⟩
            case round =>
              obtain ⟨i, hi, rfl, hgi⟩ := hrel
              rename World => wq
              obtain ⟨we, hwe⟩ : ∃ we, we = wq.drew := ⟨_, rfl⟩
              have hgwe : Gr wq we := by rw [hwe]; exact (Below.refl _ _).drew
              have hge := Lib.hid (hgi.out.trans hgwe)
              have hge0 := Lib.hid (hg2.out.trans hge.out)
              replace hgwe := Lib.hid hgwe
              by_cases him : i < m2
              · have iim : (i : Int) < (m2 : Int) := by omega
                obtain ⟨kx, hkk⟩ : ∃ kx, (keysI c j)[i]? = some kx := ⟨_, List.getElem?_eq_getElem (by rw [hkl.out]; exact him)⟩
                obtain ⟨bO, cO', eO, -, -, -, -, -, -, hcellO, -⟩ := row_at (hrow2.out we hge.out) (by omega)
                injection eO with eO1 _ eO3
                subst eO1 eO3
                have d0 := hcellO i (.string (bs kx)) (by rw [List.getElem?_map, hkk]; rfl)
                have d1 := blk_cell (j := 0) (hcT.out we hge0.out).blk rfl
                rw [hvW.out] at d1
                have d2 := hkx'.out we hge0.out
                clear hcellO
                by_cases hip : i < pos
                · have hless : Op.bytesLess kx x.1 = true := by rw [bytesLess_eq]; exact decide_eq_true (twK_lt (by rw [hpos.out]; exact hip) hkk)
                  replace hkk := Lib.hid hkk
                  go_upto_region 10 with (fail)
                  refine wpR_region (Eq) 9999 (by kernel_rfl) ?_
                  (rw [← hwe]; replace hwe := Lib.hid hwe)
                  refine wT (i := 0) (v := ?_) (⟨fun _ => rfl, Eq.trans⟩) (some 38) rfl (fun w' hw' => ?_) ?_
                  rotate_left
                  · go_simp; with_reducible rfl
                  simp only [Act.put, List.setIfInBounds_toArray, List.set_cons_zero, List.set_cons_succ]
                  refine wT (i := 1) (v := ?_) (⟨fun _ => rfl, Eq.trans⟩) (some 39) rfl (fun w' hw' => ?_) ?_
                  rotate_left
                  · go_simp; with_reducible rfl
                  simp only [Act.put, List.setIfInBounds_toArray, List.set_cons_zero, List.set_cons_succ]
                  refine wT (i := 2) (v := ?_) (⟨fun _ => rfl, Eq.trans⟩) (some 40) rfl (fun w' hw' => ?_) ?_
                  rotate_left
                  · go_simp; with_reducible rfl
                  simp only [Act.put, List.setIfInBounds_toArray, List.set_cons_zero, List.set_cons_succ]
                  refine wT (i := 3) (v := ?_) (⟨fun _ => rfl, Eq.trans⟩) (some 41) rfl (fun w' hw' => ?_) ?_
                  rotate_left
                  · go_simp; with_reducible rfl
                  simp only [Act.put, List.setIfInBounds_toArray, List.set_cons_zero, List.set_cons_succ]
                  refine wT (i := 4) (v := ?_) (⟨fun _ => rfl, Eq.trans⟩) (some 42) rfl (fun w' hw' => ?_) ?_
                  rotate_left
                  · go_simp; with_reducible rfl
                  simp only [Act.put, List.setIfInBounds_toArray, List.set_cons_zero, List.set_cons_succ]
                  refine wT (i := 5) (v := ?_) (⟨fun _ => rfl, Eq.trans⟩) (some 43) rfl (fun w' hw' => ?_) ?_
                  rotate_left
                  · go_simp; with_reducible rfl
                  simp only [Act.put, List.setIfInBounds_toArray, List.set_cons_zero, List.set_cons_succ]
                  refine wT (i := 6) (v := ?_) (⟨fun _ => rfl, Eq.trans⟩) (some 44) rfl (fun w' hw' => ?_) ?_
                  rotate_left
                  · go_simp; with_reducible rfl
                  simp only [Act.put, List.setIfInBounds_toArray, List.set_cons_zero, List.set_cons_succ]
                  refine wT (i := 7) (v := ?_) (⟨fun _ => rfl, Eq.trans⟩) (some 45) rfl (fun w' hw' => ?_) ?_
                  rotate_left
                  · go_simp; with_reducible rfl
                  simp only [Act.put, List.setIfInBounds_toArray, List.set_cons_zero, List.set_cons_succ]
                  refine wT (i := 8) (v := ?_) (⟨fun _ => rfl, Eq.trans⟩) (some 46) rfl (fun w' hw' => ?_) ?_
                  rotate_left
                  · subst hw'; go_simp; with_reducible rfl
                  simp only [Act.put, List.setIfInBounds_toArray, List.set_cons_zero, List.set_cons_succ]
                  refine wT (i := 9) (v := ?_) (⟨fun _ => rfl, Eq.trans⟩) (some 47) rfl (fun w' hw' => ?_) ?_
                  rotate_left
                  · go_simp; with_reducible rfl
                  simp only [Act.put, List.setIfInBounds_toArray, List.set_cons_zero, List.set_cons_succ]
                  refine wT (i := 10) (v := ?_) (⟨fun _ => rfl, Eq.trans⟩) (some 48) rfl (fun w' hw' => ?_) ?_
                  rotate_left
                  · go_simp; with_reducible rfl
                  simp only [Act.put, List.setIfInBounds_toArray, List.set_cons_zero, List.set_cons_succ]
                  refine wT (i := 11) (v := ?_) (⟨fun _ => rfl, Eq.trans⟩) (some 49) rfl (fun w' hw' => ?_) ?_
                  rotate_left
                  · go_simp; with_reducible rfl
                  simp only [Act.put, List.setIfInBounds_toArray, List.set_cons_zero, List.set_cons_succ]
                  refine wT (i := 12) (v := ?_) (⟨fun _ => rfl, Eq.trans⟩) (some 50) rfl (fun w' hw' => ?_) ?_
                  rotate_left
                  · subst hw'; go_simp; with_reducible rfl
                  simp only [Act.put, List.setIfInBounds_toArray, List.set_cons_zero, List.set_cons_succ]
                  refine wT (i := 13) (v := ?_) (⟨fun _ => rfl, Eq.trans⟩) (some 51) rfl (fun w' hw' => ?_) ?_
                  rotate_left
                  · go_simp; with_reducible rfl
                  simp only [Act.put, List.setIfInBounds_toArray, List.set_cons_zero, List.set_cons_succ]
                  refine wT (i := 14) (v := ?_) (⟨fun _ => rfl, Eq.trans⟩) (some 52) rfl (fun w' hw' => ?_) ?_
                  rotate_left
                  · go_simp; with_reducible rfl
                  simp only [Act.put, List.setIfInBounds_toArray, List.set_cons_zero, List.set_cons_succ]
                  refine wT (i := 15) (v := ?_) (⟨fun _ => rfl, Eq.trans⟩) (some 53) rfl (fun w' hw' => ?_) ?_
                  rotate_left
                  · go_simp; with_reducible rfl
                  simp only [Act.put, List.setIfInBounds_toArray, List.set_cons_zero, List.set_cons_succ]
                  refine wT (i := 16) (v := ?_) (⟨fun _ => rfl, Eq.trans⟩) (some 54) rfl (fun w' hw' => ?_) ?_
                  rotate_left
                  · subst hw'; go_simp; with_reducible rfl
                  simp only [Act.put, List.setIfInBounds_toArray, List.set_cons_zero, List.set_cons_succ]
                  refine wT (i := 17) (v := ?_) (⟨fun _ => rfl, Eq.trans⟩) (some 55) rfl (fun w' hw' => ?_) ?_
                  rotate_left
                  · go_simp; with_reducible rfl
                  simp only [Act.put, List.setIfInBounds_toArray, List.set_cons_zero, List.set_cons_succ]
                  refine wT (i := 18) (v := ?_) (⟨fun _ => rfl, Eq.trans⟩) (some 56) rfl (fun w' hw' => ?_) ?_
                  rotate_left
                  · go_simp; with_reducible rfl
                  simp only [Act.put, List.setIfInBounds_toArray, List.set_cons_zero, List.set_cons_succ]
                  refine wpR_done (by kernel_rfl) ?_ _
                  go_wp2_with fail
                  go_roundw
                  case rel => exact ⟨i + 1, by omega, by go_num, hge⟩
                  case measure => simp [intOf]; omega
                · obtain rfl : pos = i := by omega
                  have hless : Op.bytesLess kx x.1 = false := by rw [bytesLess_eq]; exact decide_eq_false (twK_not (by rw [hpos.out]; exact hkk))
                  replace hkk := Lib.hid hkk
                  go_upto_region 10 with (fail)
                  refine wpR_region (Eq) 9999 (by kernel_rfl) ?_
                  (rw [← hwe]; replace hwe := Lib.hid hwe)
                  refine wT (i := 0) (v := ?_) (⟨fun _ => rfl, Eq.trans⟩) (some 38) rfl (fun w' hw' => ?_) ?_
                  rotate_left
                  · go_simp; with_reducible rfl
                  simp only [Act.put, List.setIfInBounds_toArray, List.set_cons_zero, List.set_cons_succ]
                  refine wT (i := 1) (v := ?_) (⟨fun _ => rfl, Eq.trans⟩) (some 39) rfl (fun w' hw' => ?_) ?_
                  rotate_left
                  · go_simp; with_reducible rfl
                  simp only [Act.put, List.setIfInBounds_toArray, List.set_cons_zero, List.set_cons_succ]
                  refine wT (i := 2) (v := ?_) (⟨fun _ => rfl, Eq.trans⟩) (some 40) rfl (fun w' hw' => ?_) ?_
                  rotate_left
                  · go_simp; with_reducible rfl
                  simp only [Act.put, List.setIfInBounds_toArray, List.set_cons_zero, List.set_cons_succ]
                  refine wT (i := 3) (v := ?_) (⟨fun _ => rfl, Eq.trans⟩) (some 41) rfl (fun w' hw' => ?_) ?_
                  rotate_left
                  · go_simp; with_reducible rfl
                  simp only [Act.put, List.setIfInBounds_toArray, List.set_cons_zero, List.set_cons_succ]
                  refine wT (i := 4) (v := ?_) (⟨fun _ => rfl, Eq.trans⟩) (some 42) rfl (fun w' hw' => ?_) ?_
                  rotate_left
                  · go_simp; with_reducible rfl
                  simp only [Act.put, List.setIfInBounds_toArray, List.set_cons_zero, List.set_cons_succ]
                  refine wT (i := 5) (v := ?_) (⟨fun _ => rfl, Eq.trans⟩) (some 43) rfl (fun w' hw' => ?_) ?_
                  rotate_left
                  · go_simp; with_reducible rfl
                  simp only [Act.put, List.setIfInBounds_toArray, List.set_cons_zero, List.set_cons_succ]
                  refine wT (i := 6) (v := ?_) (⟨fun _ => rfl, Eq.trans⟩) (some 44) rfl (fun w' hw' => ?_) ?_
                  rotate_left
                  · go_simp; with_reducible rfl
                  simp only [Act.put, List.setIfInBounds_toArray, List.set_cons_zero, List.set_cons_succ]
                  refine wT (i := 7) (v := ?_) (⟨fun _ => rfl, Eq.trans⟩) (some 45) rfl (fun w' hw' => ?_) ?_
                  rotate_left
                  · go_simp; with_reducible rfl
                  simp only [Act.put, List.setIfInBounds_toArray, List.set_cons_zero, List.set_cons_succ]
                  refine wT (i := 8) (v := ?_) (⟨fun _ => rfl, Eq.trans⟩) (some 46) rfl (fun w' hw' => ?_) ?_
                  rotate_left
                  · subst hw'; go_simp; with_reducible rfl
                  simp only [Act.put, List.setIfInBounds_toArray, List.set_cons_zero, List.set_cons_succ]
                  refine wT (i := 9) (v := ?_) (⟨fun _ => rfl, Eq.trans⟩) (some 47) rfl (fun w' hw' => ?_) ?_
                  rotate_left
                  · go_simp; with_reducible rfl
                  simp only [Act.put, List.setIfInBounds_toArray, List.set_cons_zero, List.set_cons_succ]
                  refine wT (i := 10) (v := ?_) (⟨fun _ => rfl, Eq.trans⟩) (some 48) rfl (fun w' hw' => ?_) ?_
                  rotate_left
                  · go_simp; with_reducible rfl
                  simp only [Act.put, List.setIfInBounds_toArray, List.set_cons_zero, List.set_cons_succ]
                  refine wT (i := 11) (v := ?_) (⟨fun _ => rfl, Eq.trans⟩) (some 49) rfl (fun w' hw' => ?_) ?_
                  rotate_left
                  · go_simp; with_reducible rfl
                  simp only [Act.put, List.setIfInBounds_toArray, List.set_cons_zero, List.set_cons_succ]
                  refine wT (i := 12) (v := ?_) (⟨fun _ => rfl, Eq.trans⟩) (some 50) rfl (fun w' hw' => ?_) ?_
                  rotate_left
                  · subst hw'; go_simp; with_reducible rfl
                  simp only [Act.put, List.setIfInBounds_toArray, List.set_cons_zero, List.set_cons_succ]
                  refine wT (i := 13) (v := ?_) (⟨fun _ => rfl, Eq.trans⟩) (some 51) rfl (fun w' hw' => ?_) ?_
                  rotate_left
                  · go_simp; with_reducible rfl
                  simp only [Act.put, List.setIfInBounds_toArray, List.set_cons_zero, List.set_cons_succ]
                  refine wT (i := 14) (v := ?_) (⟨fun _ => rfl, Eq.trans⟩) (some 52) rfl (fun w' hw' => ?_) ?_
                  rotate_left
                  · go_simp; with_reducible rfl
                  simp only [Act.put, List.setIfInBounds_toArray, List.set_cons_zero, List.set_cons_succ]
                  refine wT (i := 15) (v := ?_) (⟨fun _ => rfl, Eq.trans⟩) (some 53) rfl (fun w' hw' => ?_) ?_
                  rotate_left
                  · go_simp; with_reducible rfl
                  simp only [Act.put, List.setIfInBounds_toArray, List.set_cons_zero, List.set_cons_succ]
                  refine wT (i := 16) (v := ?_) (⟨fun _ => rfl, Eq.trans⟩) (some 54) rfl (fun w' hw' => ?_) ?_
                  rotate_left
                  · subst hw'; go_simp; with_reducible rfl
                  simp only [Act.put, List.setIfInBounds_toArray, List.set_cons_zero, List.set_cons_succ]
                  refine wT (i := 17) (v := ?_) (⟨fun _ => rfl, Eq.trans⟩) (some 55) rfl (fun w' hw' => ?_) ?_
                  rotate_left
                  · go_simp; with_reducible rfl
                  simp only [Act.put, List.setIfInBounds_toArray, List.set_cons_zero, List.set_cons_succ]
                  refine wT (i := 18) (v := ?_) (⟨fun _ => rfl, Eq.trans⟩) (some 56) rfl (fun w' hw' => ?_) ?_
                  rotate_left
                  · go_simp; with_reducible rfl
                  simp only [Act.put, List.setIfInBounds_toArray, List.set_cons_zero, List.set_cons_succ]
                  refine wpR_done (by kernel_rfl) ?_ _
                  go_wp2_with fail
                  go_meet
                  exact ⟨rfl, hge⟩
              · obtain rfl : pos = i := by omega
                obtain rfl : m2 = pos := by omega
                go_upto_region 10 with (fail)
                refine wpR_region (Eq) 9999 (by kernel_rfl) ?_
                (rw [← hwe]; replace hwe := Lib.hid hwe)
                refine wT (i := 0) (v := ?_) (⟨fun _ => rfl, Eq.trans⟩) (some 38) rfl (fun w' hw' => ?_) ?_
                rotate_left
                · go_simp; with_reducible rfl
                simp only [Act.put, List.setIfInBounds_toArray, List.set_cons_zero, List.set_cons_succ]
                refine wT (i := 1) (v := ?_) (⟨fun _ => rfl, Eq.trans⟩) (some 39) rfl (fun w' hw' => ?_) ?_
                rotate_left
                · go_simp; with_reducible rfl
                simp only [Act.put, List.setIfInBounds_toArray, List.set_cons_zero, List.set_cons_succ]
                refine wT (i := 2) (v := ?_) (⟨fun _ => rfl, Eq.trans⟩) (some 40) rfl (fun w' hw' => ?_) ?_
                rotate_left
                · go_simp; with_reducible rfl
                simp only [Act.put, List.setIfInBounds_toArray, List.set_cons_zero, List.set_cons_succ]
                refine wT (i := 3) (v := ?_) (⟨fun _ => rfl, Eq.trans⟩) (some 41) rfl (fun w' hw' => ?_) ?_
                rotate_left
                · go_simp; with_reducible rfl
                simp only [Act.put, List.setIfInBounds_toArray, List.set_cons_zero, List.set_cons_succ]
                refine wT (i := 4) (v := ?_) (⟨fun _ => rfl, Eq.trans⟩) (some 42) rfl (fun w' hw' => ?_) ?_
                rotate_left
                · go_simp; with_reducible rfl
                simp only [Act.put, List.setIfInBounds_toArray, List.set_cons_zero, List.set_cons_succ]
                refine wpR_skip (i := 5) (⟨fun _ => rfl, Eq.trans⟩) (some 43) rfl (by kernel_rfl) (by kernel_rfl) (by kernel_rfl) (by kernel_rfl) (by kernel_rfl) (fun _ _ _ h => h) (by kernel_rfl) ?_
                simp only [Act.put, List.setIfInBounds_toArray, List.set_cons_zero, List.set_cons_succ]
                refine wpR_skip (i := 6) (⟨fun _ => rfl, Eq.trans⟩) (some 44) rfl (by kernel_rfl) (by kernel_rfl) (by kernel_rfl) (by kernel_rfl) (by kernel_rfl) (fun _ _ _ h => h) (by kernel_rfl) ?_
                simp only [Act.put, List.setIfInBounds_toArray, List.set_cons_zero, List.set_cons_succ]
                refine wpR_skip (i := 7) (⟨fun _ => rfl, Eq.trans⟩) (some 45) rfl (by kernel_rfl) (by kernel_rfl) (by kernel_rfl) (by kernel_rfl) (by kernel_rfl) (fun _ _ _ h => h) (by kernel_rfl) ?_
                simp only [Act.put, List.setIfInBounds_toArray, List.set_cons_zero, List.set_cons_succ]
                refine wpR_skip (i := 8) (⟨fun _ => rfl, Eq.trans⟩) (some 46) rfl (by kernel_rfl) (by kernel_rfl) (by kernel_rfl) (by kernel_rfl) (by kernel_rfl) (fun _ _ _ h => h) (by kernel_rfl) ?_
                simp only [Act.put, List.setIfInBounds_toArray, List.set_cons_zero, List.set_cons_succ]
                refine wpR_skip (i := 9) (⟨fun _ => rfl, Eq.trans⟩) (some 47) rfl (by kernel_rfl) (by kernel_rfl) (by kernel_rfl) (by kernel_rfl) (by kernel_rfl) (fun _ _ _ h => h) (by kernel_rfl) ?_
                simp only [Act.put, List.setIfInBounds_toArray, List.set_cons_zero, List.set_cons_succ]
                refine wpR_skip (i := 10) (⟨fun _ => rfl, Eq.trans⟩) (some 48) rfl (by kernel_rfl) (by kernel_rfl) (by kernel_rfl) (by kernel_rfl) (by kernel_rfl) (fun _ _ _ h => h) (by kernel_rfl) ?_
                simp only [Act.put, List.setIfInBounds_toArray, List.set_cons_zero, List.set_cons_succ]
                refine wpR_skip (i := 11) (⟨fun _ => rfl, Eq.trans⟩) (some 49) rfl (by kernel_rfl) (by kernel_rfl) (by kernel_rfl) (by kernel_rfl) (by kernel_rfl) (fun _ _ _ h => h) (by kernel_rfl) ?_
                simp only [Act.put, List.setIfInBounds_toArray, List.set_cons_zero, List.set_cons_succ]
                refine wpR_skip (i := 12) (⟨fun _ => rfl, Eq.trans⟩) (some 50) rfl (by kernel_rfl) (by kernel_rfl) (by kernel_rfl) (by kernel_rfl) (by kernel_rfl) (fun _ _ _ h => h) (by kernel_rfl) ?_
                simp only [Act.put, List.setIfInBounds_toArray, List.set_cons_zero, List.set_cons_succ]
                refine wpR_skip (i := 13) (⟨fun _ => rfl, Eq.trans⟩) (some 51) rfl (by kernel_rfl) (by kernel_rfl) (by kernel_rfl) (by kernel_rfl) (by kernel_rfl) (fun _ _ _ h => h) (by kernel_rfl) ?_
                simp only [Act.put, List.setIfInBounds_toArray, List.set_cons_zero, List.set_cons_succ]
                refine wpR_skip (i := 14) (⟨fun _ => rfl, Eq.trans⟩) (some 52) rfl (by kernel_rfl) (by kernel_rfl) (by kernel_rfl) (by kernel_rfl) (by kernel_rfl) (fun _ _ _ h => h) (by kernel_rfl) ?_
                simp only [Act.put, List.setIfInBounds_toArray, List.set_cons_zero, List.set_cons_succ]
                refine wpR_skip (i := 15) (⟨fun _ => rfl, Eq.trans⟩) (some 53) rfl (by kernel_rfl) (by kernel_rfl) (by kernel_rfl) (by kernel_rfl) (by kernel_rfl) (fun _ _ _ h => h) (by kernel_rfl) ?_
                simp only [Act.put, List.setIfInBounds_toArray, List.set_cons_zero, List.set_cons_succ]
                refine wpR_skip (i := 16) (⟨fun _ => rfl, Eq.trans⟩) (some 54) rfl (by kernel_rfl) (by kernel_rfl) (by kernel_rfl) (by kernel_rfl) (by kernel_rfl) (fun _ _ _ h => h) (by kernel_rfl) ?_
                simp only [Act.put, List.setIfInBounds_toArray, List.set_cons_zero, List.set_cons_succ]
                refine wpR_skip (i := 17) (⟨fun _ => rfl, Eq.trans⟩) (some 55) rfl (by kernel_rfl) (by kernel_rfl) (by kernel_rfl) (by kernel_rfl) (by kernel_rfl) (fun _ _ _ h => h) (by kernel_rfl) ?_
                simp only [Act.put, List.setIfInBounds_toArray, List.set_cons_zero, List.set_cons_succ]
                refine wT (i := 18) (v := ?_) (⟨fun _ => rfl, Eq.trans⟩) (some 56) rfl (fun w' hw' => ?_) ?_
                rotate_left
                · go_simp; with_reducible rfl
                simp only [Act.put, List.setIfInBounds_toArray, List.set_cons_zero, List.set_cons_succ]
                refine wpR_done (by kernel_rfl) ?_ _
                go_wp2_with fail
                go_meet
                exact ⟨rfl, hge⟩
          case rest =>
            obtain ⟨rfl, hgF⟩ := hcut
            rename World => wF
            have hgF0 := Lib.hid (hg2.out.trans hgF.out)
            have ipn : (pos : Int) ≤ (m2 : Int) := by omega
            have ipc : (pos : Int) ≤ (c2 : Int) := by omega
            have hinc : (m2 : Int) ≤ (c2 : Int) := by omega
            have hrF := Lib.hid (hcT.out wF hgF0.out)
            go_upto_region 12 with (fail)
            go_cut [7] (fun v7 wq => ∃ (A7 : Option Addr) (m7 c7 : Nat), v7 = .slice A7 m7 c7 ∧ Hid (((keysI c j).take pos ++ [x.1]).length = m7) ∧ Hid (wq.ownsRow B0 9 1 (.slice A7 m7 c7) m7 (((keysI c j).take pos ++ [x.1]).map sV)) ∧ Hid (Gr wF wq))
            case first =>
              obtain ⟨wd, hwd⟩ : ∃ wd, wd = wF.drew := ⟨_, rfl⟩
              have hgd : Gr wF wd := by rw [hwd]; exact (Below.refl _ _).drew
              have hgd0 := Lib.hid (hgF0.out.trans hgd)
              have hcd := Lib.hid (hcT.out wd hgd0.out)
              have hlo2 : Hid (B0 ≤ wd.heap.size) := Lib.hid (hlow.out _ hgd0.out)
              obtain ⟨B2, hB2⟩ : ∃ b, wd.heap.size = b := ⟨_, rfl⟩
              have hgB : g < B2 := by rw [← hB2]; exact blk_lt hcd.out.blk
              have hqd : Hid (Below B2 wd wd) := Lib.hid (Below.refl _ _)
              have hzd : Hid (B2 ≤ wd.heap.size) := Lib.hid (by rw [hB2]; exact Nat.le_refl _)
              have hlB : Hid (B0 ≤ B2) := Lib.hid (by rw [← hB2]; exact hlo2.out)
              have hgBB : Hid (∀ q, Below B2 wd q → Gr wF q) := Lib.hid (fun q h1 => Gr.trans hgd (by unfold Gr; rw [hB2]; exact h1))
              have hRt : Hid (Reads wd B2 1 A2 pos (List.map sV ((keysI c j).take pos))) := Lib.hid (by have h2 := ((Reads.of_own (hrow2.out wd (hgF.out.trans hgd))).part hm2c hpm).1; rw [map_sV_take, hB2] at h2; exact h2)
              have hLl : Hid (((keysI c j).take pos).length ≤ 2000) := Lib.hid (by rw [List.length_take, hkl.out]; omega)
              replace hgd := Lib.hid hgd
              replace hB2 := Lib.hid hB2
              refine wpR_region (Below B2) 9999 (by kernel_rfl) ?_
              (rw [← hwd]; replace hwd := Lib.hid hwd)
              refine wT (i := 1) (v := ?_) (⟨fun x => Below.refl _ x, fun h1 h2 => h1.trans h2⟩) (some 60) rfl (fun w' hw' => ?_) ?_
              rotate_left
              · go_simp; with_reducible rfl
              simp only [Act.put, List.setIfInBounds_toArray, List.set_cons_zero, List.set_cons_succ]
              refine wT (i := 2) (v := ?_) (⟨fun x => Below.refl _ x, fun h1 h2 => h1.trans h2⟩) (some 61) rfl (fun w' hw' => ?_) ?_
              rotate_left
              · go_simp; with_reducible rfl
              simp only [Act.put, List.setIfInBounds_toArray, List.set_cons_zero, List.set_cons_succ]
              refine wT (i := 3) (v := ?_) (⟨fun x => Below.refl _ x, fun h1 h2 => h1.trans h2⟩) (some 62) rfl (fun w' hw' => ?_) ?_
              rotate_left
              · go_simp; with_reducible rfl
              simp only [Act.put, List.setIfInBounds_toArray, List.set_cons_zero, List.set_cons_succ]
              refine wT (i := 5) (v := ?_) (⟨fun x => Below.refl _ x, fun h1 h2 => h1.trans h2⟩) (some 64) rfl (fun w' hw' => ?_) ?_
              rotate_left
              · go_simp; with_reducible rfl
              simp only [Act.put, List.setIfInBounds_toArray, List.set_cons_zero, List.set_cons_succ]
              refine wT (i := 6) (v := ?_) (⟨fun x => Below.refl _ x, fun h1 h2 => h1.trans h2⟩) (some 65) rfl (fun w' hw' => ?_) ?_
              rotate_left
              · go_simp; with_reducible rfl
              simp only [Act.put, List.setIfInBounds_toArray, List.set_cons_zero, List.set_cons_succ]
              refine wT (i := 7) (v := ?_) (⟨fun x => Below.refl _ x, fun h1 h2 => h1.trans h2⟩) (some 66) rfl (fun w' hw' => ?_) ?_
              rotate_left
              · go_simp; with_reducible rfl
              simp only [Act.put, List.setIfInBounds_toArray, List.set_cons_zero, List.set_cons_succ]
              refine wT (i := 8) (v := ?_) (⟨fun x => Below.refl _ x, fun h1 h2 => h1.trans h2⟩) (some 67) rfl (fun w' hw' => ?_) ?_
              rotate_left
              · have q := blk_cell (j := 0) ((hw'.block g hgB).trans hcd.out.blk) rfl; rw [hvW.out] at q; go_simp; with_reducible rfl
              simp only [Act.put, List.setIfInBounds_toArray, List.set_cons_zero, List.set_cons_succ]
              refine wT (i := 9) (v := ?_) (⟨fun x => Below.refl _ x, fun h1 h2 => h1.trans h2⟩) (some 68) rfl (fun w' hw' => ?_) ?_
              rotate_left
              · go_simp; with_reducible rfl
              simp only [Act.put, List.setIfInBounds_toArray, List.set_cons_zero, List.set_cons_succ]
              refine wT (i := 10) (v := ?_) (⟨fun x => Below.refl _ x, fun h1 h2 => h1.trans h2⟩) (some 69) rfl (fun w' hw' => ?_) ?_
              rotate_left
              · go_simp; with_reducible rfl
              simp only [Act.put, List.setIfInBounds_toArray, List.set_cons_zero, List.set_cons_succ]
              refine wT (i := 11) (v := ?_) (⟨fun x => Below.refl _ x, fun h1 h2 => h1.trans h2⟩) (some 70) rfl (fun w' hw' => ?_) ?_
              rotate_left
              · go_simp; with_reducible rfl
              simp only [Act.put, List.setIfInBounds_toArray, List.set_cons_zero, List.set_cons_succ]
              refine wT (i := 12) (v := ?_) (⟨fun x => Below.refl _ x, fun h1 h2 => h1.trans h2⟩) (some 71) rfl (fun w' hw' => ?_) ?_
              rotate_left
              · have q := hkx'.out _ (hgF0.out.trans (hgBB.out _ hw')); go_simp; with_reducible rfl
              simp only [Act.put, List.setIfInBounds_toArray, List.set_cons_zero, List.set_cons_succ]
              refine wpR_two 0 13 rfl rfl (by kernel_rfl) (by kernel_rfl) (by kernel_rfl) (fun K hK => ?_) (fun K hK => ?_)
              · go_simp
                obtain ⟨g0, hg0e⟩ : ∃ g0, wd.heap.size = g0 := ⟨_, rfl⟩
                obtain ⟨V0, hV0⟩ : ∃ W, W = wd.alloc (.cells #[] 9) := ⟨_, rfl⟩
                have hr0 : Below B2 wd V0 := by rw [hV0]; exact (Below.refl _ _).alloc hzd.out _
                have ho0 : Hid (V0.ownsRow B0 9 1 (.slice (some ⟨g0, 0, none⟩) 0 0) ([] : List (By)).length (List.map sV [])) := Lib.hid (by rw [hV0, ← hg0e]; exact World.ownsRow_made _ #[] 0 (Nat.le_trans hlB.out hzd.out) (by simp [maxLen]) rfl)
                have hgB0 : Hid (B2 ≤ g0) := Lib.hid (by rw [← hg0e]; exact hzd.out)
                have hq0 : Hid (Below B2 wd V0) := Lib.hid (hqd.out.trans hr0)
                have hz0 : Hid (B2 ≤ V0.heap.size) := Lib.hid (Nat.le_trans hzd.out hr0.size)
                rw [← hV0, hg0e]
                replace hV0 := Lib.hid hV0
                replace hg0e := Lib.hid hg0e
                refine hK _ _ (fun _ => hr0) ?_
                clear hK K
                try simp only [Act.put, List.setIfInBounds_toArray, List.set_cons_zero, List.set_cons_succ]
                refine wpR_two 4 13 rfl rfl (by kernel_rfl) (by kernel_rfl) (by kernel_rfl) (fun K hK => ?_) (fun K hK => ?_)
                · refine wp_appK (.tmp 59) (.tmp 62) rfl B0 _ [] rfl ho0.out _ _ ((keysI c j).take pos) rfl ((hRt.out.below hq0.out).more (Nat.le_refl _)) (by have := hLl.out; simp; omega) (Nat.le_trans hlB.out hz0.out) ?_
                  intro v7 V4 ho7 hgr7 hlc7
                  rw [List.nil_append] at ho7
                  have hr7 : Below B2 V0 V4 := (Below.refl _ _).grown hgr7 hz0.out (fun j hj => by injection hj with hj; have hj : g0 = j := hj; rw [← hj]; exact hgB0.out)
                  have hown7 : Hid (∀ j, v7.ownBlock = some j → B2 ≤ j) := Lib.hid (fun j hj => by rcases hlc7 with e | e; (· have e2 := e.symm.trans hj; injection e2 with e2; have e2 : g0 = j := e2; rw [← e2]; exact hgB0.out); (· have e2 := e.symm.trans hj; injection e2 with e2; rw [← e2]; exact hz0.out))
                  replace ho7 := Lib.hid ho7
                  have hq4 : Hid (Below B2 wd V4) := Lib.hid (hq0.out.trans hr7)
                  have hz4 : Hid (B2 ≤ V4.heap.size) := Lib.hid (Nat.le_trans hz0.out hr7.size)
                  refine hK _ _ (fun _ => hr7) ?_
                  clear hK K
                  clear hgr7 hr7 hlc7
                  try simp only [Act.put, List.setIfInBounds_toArray, List.set_cons_zero, List.set_cons_succ]
                  refine wpR_one 13 rfl (by kernel_rfl) (by kernel_rfl) (fun K hK => ?_)
                  go_simp
                  obtain ⟨g9, hg9e⟩ : ∃ g9, V4.heap.size = g9 := ⟨_, rfl⟩
                  obtain ⟨V13, hV9⟩ : ∃ W, W = V4.alloc (.cells #[.string (bs x.1)] 9) := ⟨_, rfl⟩
                  have hr9 : Below B2 V4 V13 := by rw [hV9]; exact (Below.refl _ _).alloc hz4.out _
                  have hl9 : Hid (V13.heap[g9]? = some (.cells #[.string (bs x.1)] 9 (0, 0))) := Lib.hid (by rw [hV9, ← hg9e]; exact heap_alloc_new _ _)
                  have hq13 : Hid (Below B2 wd V13) := Lib.hid (hq4.out.trans hr9)
                  have hz13 : Hid (B2 ≤ V13.heap.size) := Lib.hid (Nat.le_trans hz4.out hr9.size)
                  replace ho7 := Lib.hid (row_below ho7.out (show Gr V4 V13 by rw [hV9]; exact Gr.alloc _ _))
                  rw [← hV9, hg9e]
                  replace hV9 := Lib.hid hV9
                  replace hg9e := Lib.hid hg9e
                  refine hK _ _ (fun _ => hr9) ?_
                  clear hK K
                  try simp only [Act.put, List.setIfInBounds_toArray, List.set_cons_zero, List.set_cons_succ]
                  refine wpR_one 14 rfl (by kernel_rfl) (by kernel_rfl) (fun K hK => ?_)
                  refine wp_appK (.tmp 63) (.tmp 72) rfl B0 _ ((keysI c j).take pos) rfl ho7.out _ _ [x.1] rfl (Reads.blk1 hl9.out) (by have := hLl.out; simp; omega) (Nat.le_trans hlB.out hz13.out) ?_
                  intro v8 V14 ho10 hgr10 hlc10
                  have hr10 : Below B2 V13 V14 := (Below.refl _ _).grown hgr10 hz13.out hown7.out
                  obtain ⟨A10, k10, rfl, -, -⟩ := row_form ho10
                  obtain ⟨m10, hm10⟩ : ∃ m, (((keysI c j).take pos) ++ [x.1]).length = m := ⟨_, rfl⟩
                  replace ho10 := Lib.hid ho10
                  rw [hm10]
                  have hq14 : Hid (Below B2 wd V14) := Lib.hid (hq13.out.trans hr10)
                  have hb10 := Lib.hid ((hq14.out.block g hgB).trans hcd.out.blk)
                  refine hK _ _ (fun _ => hr10) ?_
                  clear hK K
                  clear hgr10 hr10 hlc10
                  simp only [List.getElem_toArray, List.getElem_cons_succ, List.getElem_cons_zero, Act.put, List.setIfInBounds_toArray, List.set_cons_zero, List.set_cons_succ]
                  try simp only [Act.put, List.setIfInBounds_toArray, List.set_cons_zero, List.set_cons_succ]
                  refine wT (i := 15) (v := ?_) (⟨fun x => Below.refl _ x, fun h1 h2 => h1.trans h2⟩) (some 7) rfl (fun w' hw' => ?_) ?_
                  rotate_left
                  · go_simp; with_reducible rfl
                  simp only [Act.put, List.setIfInBounds_toArray, List.set_cons_zero, List.set_cons_succ]
                  refine wpR_done (by kernel_rfl) ?_ _
                  go_wp2_with fail
                  go_meet
                  exact ⟨A10, m10, k10, rfl, Lib.hid hm10, Lib.hid (by rw [hm10] at ho10; exact ho10.out), Lib.hid (hgBB.out _ hq14.out)⟩
                · go_simp
                  obtain ⟨g9, hg9e⟩ : ∃ g9, V0.heap.size = g9 := ⟨_, rfl⟩
                  obtain ⟨V13, hV9⟩ : ∃ W, W = V0.alloc (.cells #[.string (bs x.1)] 9) := ⟨_, rfl⟩
                  have hr9 : Below B2 V0 V13 := by rw [hV9]; exact (Below.refl _ _).alloc hz0.out _
                  have hl9 : Hid (V13.heap[g9]? = some (.cells #[.string (bs x.1)] 9 (0, 0))) := Lib.hid (by rw [hV9, ← hg9e]; exact heap_alloc_new _ _)
                  have hq13 : Hid (Below B2 wd V13) := Lib.hid (hq0.out.trans hr9)
                  have hz13 : Hid (B2 ≤ V13.heap.size) := Lib.hid (Nat.le_trans hz0.out hr9.size)
                  have hne : Hid (g9 ≠ g0) := Lib.hid (by have := (World.ownsRow.lt ho0.out g0 rfl).2; omega)
                  replace ho0 := Lib.hid (row_below ho0.out (show Gr V0 V13 by rw [hV9]; exact Gr.alloc _ _))
                  rw [← hV9, hg9e]
                  replace hV9 := Lib.hid hV9
                  replace hg9e := Lib.hid hg9e
                  refine hK _ _ (fun _ => hr9) ?_
                  clear hK K
                  try simp only [Act.put, List.setIfInBounds_toArray, List.set_cons_zero, List.set_cons_succ]
                  refine wpR_one 4 rfl (by kernel_rfl) (by kernel_rfl) (fun K hK => ?_)
                  refine wp_appK (.tmp 59) (.tmp 62) rfl B0 _ [] rfl ho0.out _ _ ((keysI c j).take pos) rfl ((hRt.out.below hq13.out).more (Nat.le_refl _)) (by have := hLl.out; simp; omega) (Nat.le_trans hlB.out hz13.out) ?_
                  intro v7 V4 ho7 hgr7 hlc7
                  rw [List.nil_append] at ho7
                  have hr7 : Below B2 V13 V4 := (Below.refl _ _).grown hgr7 hz13.out (fun j hj => by injection hj with hj; have hj : g0 = j := hj; rw [← hj]; exact hgB0.out)
                  have hown7 : Hid (∀ j, v7.ownBlock = some j → B2 ≤ j) := Lib.hid (fun j hj => by rcases hlc7 with e | e; (· have e2 := e.symm.trans hj; injection e2 with e2; have e2 : g0 = j := e2; rw [← e2]; exact hgB0.out); (· have e2 := e.symm.trans hj; injection e2 with e2; rw [← e2]; exact hz13.out))
                  replace hl9 := Lib.hid ((hgr7.block g9 (blk_lt hl9.out) (fun e => hne.out (by injection e))).trans hl9.out)
                  replace ho7 := Lib.hid ho7
                  have hq4 : Hid (Below B2 wd V4) := Lib.hid (hq13.out.trans hr7)
                  have hz4 : Hid (B2 ≤ V4.heap.size) := Lib.hid (Nat.le_trans hz13.out hr7.size)
                  refine hK _ _ (fun _ => hr7) ?_
                  clear hK K
                  clear hgr7 hr7 hlc7
                  try simp only [Act.put, List.setIfInBounds_toArray, List.set_cons_zero, List.set_cons_succ]
                  refine wpR_one 14 rfl (by kernel_rfl) (by kernel_rfl) (fun K hK => ?_)
                  refine wp_appK (.tmp 63) (.tmp 72) rfl B0 _ ((keysI c j).take pos) rfl ho7.out _ _ [x.1] rfl (Reads.blk1 hl9.out) (by have := hLl.out; simp; omega) (Nat.le_trans hlB.out hz4.out) ?_
                  intro v8 V14 ho10 hgr10 hlc10
                  have hr10 : Below B2 V4 V14 := (Below.refl _ _).grown hgr10 hz4.out hown7.out
                  obtain ⟨A10, k10, rfl, -, -⟩ := row_form ho10
                  obtain ⟨m10, hm10⟩ : ∃ m, (((keysI c j).take pos) ++ [x.1]).length = m := ⟨_, rfl⟩
                  replace ho10 := Lib.hid ho10
                  rw [hm10]
                  have hq14 : Hid (Below B2 wd V14) := Lib.hid (hq4.out.trans hr10)
                  have hb10 := Lib.hid ((hq14.out.block g hgB).trans hcd.out.blk)
                  refine hK _ _ (fun _ => hr10) ?_
                  clear hK K
                  clear hgr10 hr10 hlc10
                  simp only [List.getElem_toArray, List.getElem_cons_succ, List.getElem_cons_zero, Act.put, List.setIfInBounds_toArray, List.set_cons_zero, List.set_cons_succ]
                  try simp only [Act.put, List.setIfInBounds_toArray, List.set_cons_zero, List.set_cons_succ]
                  refine wT (i := 15) (v := ?_) (⟨fun x => Below.refl _ x, fun h1 h2 => h1.trans h2⟩) (some 7) rfl (fun w' hw' => ?_) ?_
                  rotate_left
                  · go_simp; with_reducible rfl
                  simp only [Act.put, List.setIfInBounds_toArray, List.set_cons_zero, List.set_cons_succ]
                  refine wpR_done (by kernel_rfl) ?_ _
                  go_wp2_with fail
                  go_meet
                  exact ⟨A10, m10, k10, rfl, Lib.hid hm10, Lib.hid (by rw [hm10] at ho10; exact ho10.out), Lib.hid (hgBB.out _ hq14.out)⟩
              · go_simp
                obtain ⟨g9, hg9e⟩ : ∃ g9, wd.heap.size = g9 := ⟨_, rfl⟩
                obtain ⟨V13, hV9⟩ : ∃ W, W = wd.alloc (.cells #[.string (bs x.1)] 9) := ⟨_, rfl⟩
                have hr9 : Below B2 wd V13 := by rw [hV9]; exact (Below.refl _ _).alloc hzd.out _
                have hl9 : Hid (V13.heap[g9]? = some (.cells #[.string (bs x.1)] 9 (0, 0))) := Lib.hid (by rw [hV9, ← hg9e]; exact heap_alloc_new _ _)
                have hq13 : Hid (Below B2 wd V13) := Lib.hid (hqd.out.trans hr9)
                have hz13 : Hid (B2 ≤ V13.heap.size) := Lib.hid (Nat.le_trans hzd.out hr9.size)
                rw [← hV9, hg9e]
                replace hV9 := Lib.hid hV9
                replace hg9e := Lib.hid hg9e
                refine hK _ _ (fun _ => hr9) ?_
                clear hK K
                try simp only [Act.put, List.setIfInBounds_toArray, List.set_cons_zero, List.set_cons_succ]
                refine wpR_one 0 rfl (by kernel_rfl) (by kernel_rfl) (fun K hK => ?_)
                go_simp
                obtain ⟨g0, hg0e⟩ : ∃ g0, V13.heap.size = g0 := ⟨_, rfl⟩
                obtain ⟨V0, hV0⟩ : ∃ W, W = V13.alloc (.cells #[] 9) := ⟨_, rfl⟩
                have hr0 : Below B2 V13 V0 := by rw [hV0]; exact (Below.refl _ _).alloc hz13.out _
                have ho0 : Hid (V0.ownsRow B0 9 1 (.slice (some ⟨g0, 0, none⟩) 0 0) ([] : List (By)).length (List.map sV [])) := Lib.hid (by rw [hV0, ← hg0e]; exact World.ownsRow_made _ #[] 0 (Nat.le_trans hlB.out hz13.out) (by simp [maxLen]) rfl)
                have hgB0 : Hid (B2 ≤ g0) := Lib.hid (by rw [← hg0e]; exact hz13.out)
                have hq0 : Hid (Below B2 wd V0) := Lib.hid (hq13.out.trans hr0)
                have hz0 : Hid (B2 ≤ V0.heap.size) := Lib.hid (Nat.le_trans hz13.out hr0.size)
                have hne : Hid (g9 ≠ g0) := Lib.hid (by have := blk_lt hl9.out; omega)
                replace hl9 := Lib.hid (blk_below hl9.out (show Below V13.heap.size V13 V0 by rw [hV0]; exact Gr.alloc _ _))
                rw [← hV0, hg0e]
                replace hV0 := Lib.hid hV0
                replace hg0e := Lib.hid hg0e
                refine hK _ _ (fun _ => hr0) ?_
                clear hK K
                try simp only [Act.put, List.setIfInBounds_toArray, List.set_cons_zero, List.set_cons_succ]
                refine wpR_one 4 rfl (by kernel_rfl) (by kernel_rfl) (fun K hK => ?_)
                refine wp_appK (.tmp 59) (.tmp 62) rfl B0 _ [] rfl ho0.out _ _ ((keysI c j).take pos) rfl ((hRt.out.below hq0.out).more (Nat.le_refl _)) (by have := hLl.out; simp; omega) (Nat.le_trans hlB.out hz0.out) ?_
                intro v7 V4 ho7 hgr7 hlc7
                rw [List.nil_append] at ho7
                have hr7 : Below B2 V0 V4 := (Below.refl _ _).grown hgr7 hz0.out (fun j hj => by injection hj with hj; have hj : g0 = j := hj; rw [← hj]; exact hgB0.out)
                have hown7 : Hid (∀ j, v7.ownBlock = some j → B2 ≤ j) := Lib.hid (fun j hj => by rcases hlc7 with e | e; (· have e2 := e.symm.trans hj; injection e2 with e2; have e2 : g0 = j := e2; rw [← e2]; exact hgB0.out); (· have e2 := e.symm.trans hj; injection e2 with e2; rw [← e2]; exact hz0.out))
                replace hl9 := Lib.hid ((hgr7.block g9 (blk_lt hl9.out) (fun e => hne.out (by injection e))).trans hl9.out)
                replace ho7 := Lib.hid ho7
                have hq4 : Hid (Below B2 wd V4) := Lib.hid (hq0.out.trans hr7)
                have hz4 : Hid (B2 ≤ V4.heap.size) := Lib.hid (Nat.le_trans hz0.out hr7.size)
                refine hK _ _ (fun _ => hr7) ?_
                clear hK K
                clear hgr7 hr7 hlc7
                try simp only [Act.put, List.setIfInBounds_toArray, List.set_cons_zero, List.set_cons_succ]
                refine wpR_one 14 rfl (by kernel_rfl) (by kernel_rfl) (fun K hK => ?_)
                refine wp_appK (.tmp 63) (.tmp 72) rfl B0 _ ((keysI c j).take pos) rfl ho7.out _ _ [x.1] rfl (Reads.blk1 hl9.out) (by have := hLl.out; simp; omega) (Nat.le_trans hlB.out hz4.out) ?_
                intro v8 V14 ho10 hgr10 hlc10
                have hr10 : Below B2 V4 V14 := (Below.refl _ _).grown hgr10 hz4.out hown7.out
                obtain ⟨A10, k10, rfl, -, -⟩ := row_form ho10
                obtain ⟨m10, hm10⟩ : ∃ m, (((keysI c j).take pos) ++ [x.1]).length = m := ⟨_, rfl⟩
                replace ho10 := Lib.hid ho10
                rw [hm10]
                have hq14 : Hid (Below B2 wd V14) := Lib.hid (hq4.out.trans hr10)
                have hb10 := Lib.hid ((hq14.out.block g hgB).trans hcd.out.blk)
                refine hK _ _ (fun _ => hr10) ?_
                clear hK K
                clear hgr10 hr10 hlc10
                simp only [List.getElem_toArray, List.getElem_cons_succ, List.getElem_cons_zero, Act.put, List.setIfInBounds_toArray, List.set_cons_zero, List.set_cons_succ]
                try simp only [Act.put, List.setIfInBounds_toArray, List.set_cons_zero, List.set_cons_succ]
                refine wT (i := 15) (v := ?_) (⟨fun x => Below.refl _ x, fun h1 h2 => h1.trans h2⟩) (some 7) rfl (fun w' hw' => ?_) ?_
                rotate_left
                · go_simp; with_reducible rfl
                simp only [Act.put, List.setIfInBounds_toArray, List.set_cons_zero, List.set_cons_succ]
                refine wpR_done (by kernel_rfl) ?_ _
                go_wp2_with fail
                go_meet
                exact ⟨A10, m10, k10, rfl, Lib.hid hm10, Lib.hid (by rw [hm10] at ho10; exact ho10.out), Lib.hid (hgBB.out _ hq14.out)⟩
            case rest =>
              obtain ⟨A7, m7, c7, rfl, hm7, ho7, hg7⟩ := hcut
              rename World => wG
              have hgG0 := hgF0.out.trans hg7.out
              have hgGr := hgF.out.trans hg7.out
              have hRd := ((Reads.of_own (hrow2.out wG hgGr)).part hm2c hpm).2
              rw [map_sV_drop] at hRd
              simp only [Nat.mul_one] at hRd
              have hll : Hid (((keysI c j).take pos ++ [x.1]).length + ((keysI c j).drop pos).length ≤ 1000000) := Lib.hid (by rw [List.length_append, List.length_take, List.length_drop, hkl.out]; simp; omega)
              have hloG := hlow.out _ hgG0
              have hins : Hid ((keysI c j).take pos ++ [x.1] ++ (keysI c j).drop pos = keysI c (j + 1)) := Lib.hid (by rw [hks.out, insK_at, hpos.out]; simp)
              have ho7' : Hid (wG.ownsRow B0 9 1 (.slice A7 m7 c7) ((keysI c j).take pos ++ [x.1]).length (((keysI c j).take pos ++ [x.1]).map sV)) := Lib.hid (by rw [hm7.out]; exact ho7.out)
              have hgG0' := Lib.hid hgG0
              have hnl : Hid ((keysI c (j + 1)).length = m2 + 1) := Lib.hid (by rw [keysI_len c (j + 1) (by rw [hnW.out]; omega), hnE.out, hm2.out]; omega)
              replace hRd := Lib.hid hRd
              replace hgGr := Lib.hid hgGr
              clear hgG0
              go_wp2_with (at_builtin; go_must (refine wpl_appK rfl (.tmp 74) (.tmp 77) rfl B0 (.slice A7 m7 c7) ((keysI c j).take pos ++ [x.1]) rfl ho7'.out _ _ ((keysI c j).drop pos) rfl hRd.out hll.out hloG ?_); intro v9 w9 ho9 hg9 hloc9; rw [hins.out, hnl.out] at ho9; obtain ⟨A9, c9, rfl, -, -⟩ := row_form ho9; have hb9 := Lib.hid (hgo.out _ _ hgG0'.out ((Below.refl B0 _).grown hg9 hloG (fun q hq => (World.ownsRow.lt ho7'.out q hq).1))); replace ho9 := Lib.hid ho9; replace hg9 := Lib.hid hg9; replace hloc9 := Lib.hid hloc9)
              all_goals go_roundw
              all_goals first
                | exact ⟨j + 1, A9, c9, m2 + 1, by omega, rfl, by go_num, Lib.hid (by have := hm2.out; omega), Lib.hid (by unfold OS; rw [hnl.out]; exact ho9.out), hb9⟩
                | (simp [intOf]; omega)
        · obtain rfl : nW = j := by omega
          have e2 : keysI c nW = keysP c := by rw [← hnW.out]; exact keysI_end hok
          rw [e2] at ho2
          go_wp2_with fail
          go_ret
          have e3 : m2 = (keysP c).length := by rw [hm2.out, keysP_len, hnE.out, hnW.out]; omega
          rw [← e3]
          exact ⟨A2, c2, rfl, ho2.out, hg2.out⟩
end Go.Proofs.YthboeoidgglcgaaGreat
