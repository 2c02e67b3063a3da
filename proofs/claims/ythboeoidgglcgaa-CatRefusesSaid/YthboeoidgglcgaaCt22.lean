/- cat: the notes that begin. -/
import Derived.Test.YthboeoidgglcgaaCt21
namespace Go.Proofs.Ythboeoidgglcgaa
set_option linter.unusedVariables false
set_option linter.unusedSimpArgs false
open Go Go.RowKit Go.Maps Go.Sort Go.Shelf Go.Proofs
theorem bM_get (B : List (By × Int)) (k : By) : getP (bM B) k (.int .i64 0) = .int .i64 (getP B k 0) := by
  unfold getP bM
  rw [List.find?_map]
  rw [show (fun e : By × Value => e.1 == k) ∘ (fun e : By × Int => (e.1, Value.int .i64 e.2)) = (fun e => e.1 == k) from rfl]
  cases B.find? (fun e => e.1 == k) <;> rfl
theorem colB_take {B : List (By × Int)} {W : List (By × By)} {k : Nat} {e : By × By} (h : W[k]? = some e) : colB B (W.take (k + 1)) = colB B (W.take k) ++ (if hasP B e.1 = true then [(e.1, getP B e.1 0)] else []) := by
  unfold colB
  rw [List.take_add_one, h, List.filterMap_append]
  congr 1
  show List.filterMap _ [e] = _
  rw [List.filterMap_cons, List.filterMap_nil]
  split <;> (rename_i h1; split at h1) <;> first | (cases h1; simp_all) | simp_all
theorem colB_len (B : List (By × Int)) (W : List (By × By)) : (colB B W).length ≤ W.length := by unfold colB; exact List.length_filterMap_le _ _
theorem begP_len (c : CtP) : (begP c).length ≤ c.B.length := List.length_filter_le _ _
section
variable (lo g t : Nat) (x : CtX) (c : CtP) (w : World) (h : Hid (Ca w lo g x c t))
include h
set_option maxRecDepth 10000 in
set_option maxHeartbeats 2000000 in
theorem genNotes_any (ht : t ≤ 1000) : Calls Try.prog 29 #[.pointer (some ⟨g, 0, none⟩)] w fun e w' => ∃ A cc, e = .returned (.slice A (genP c).length cc) ∧ O4 (genP c) (.slice A (genP c).length cc) w.heap.size w' ∧ Gr w w' := by
  obtain ⟨A, cp, hv⟩ : ∃ A cp, x.vs = .slice A x.W.length cp := by obtain ⟨A, cp, _, _, e, -⟩ := h.out.form; exact ⟨A, cp, e⟩
  have hbk := h.out.blk
  rw [hv] at hbk
  have c0 := blk_cell (j := 0) hbk rfl
  obtain ⟨n, hn⟩ : ∃ n, x.W.length = n := ⟨_, rfl⟩
  have hlen : n ≤ 1000 := by have h1 := h.out.few.1; rw [h.out.wc, List.length_map] at h1; omega
  have hnW : Hid (c.W.length = n) := Lib.hid (by rw [h.out.wc, List.length_map]; exact hn)
  rw [hn] at c0
  have hlB : Hid (c.B.length ≤ 1000) := Lib.hid (by have h1 := h.out.few.2.2.1; omega)
  have hbd : Hid (∀ k, BdG (colB c.B (c.W.take k))) := Lib.hid (fun k e he => by
    have := h.out.ok.okB e ((colB_mem h.out.ok.dB _ e).mp he).1
    have := h.out.ok.g1
    omega)
  obtain ⟨B0, hB0⟩ : ∃ B0, w.heap.size = B0 := ⟨_, rfl⟩
  have hlow : Hid (∀ y, Gr w y → B0 ≤ y.heap.size) := Lib.hid (fun y hy => by rw [← hB0]; exact Below.size hy)
  have hgo : Hid (∀ y z, Gr w y → Below B0 y z → Gr w z) := Lib.hid (fun y z h1 h2 => by unfold Gr at h1 ⊢; rw [hB0] at h1 ⊢; exact h1.trans h2)
  rw [hB0]
  replace hB0 := Lib.hid hB0
  replace hbk := Lib.hid hbk
  replace hn := Lib.hid hn
  replace hv := Lib.hid hv
  go_enter Try.func29, Try.ntmps29
  go_wp2_with fail
  go_loopw [3, 14] (fun u z wr => ∃ (k m : Nat) (A1 : Option Addr) (c1 : Nat), k ≤ n ∧ u = .slice A1 m c1 ∧ z = .int .i64 k ∧ Hid ((colB c.B (c.W.take k)).length = m) ∧ Hid (O4 (colB c.B (c.W.take k)) (.slice A1 m c1) B0 wr) ∧ Hid (Gr w wr)) (fun _ z _ => (n - intOf z).toNat)
  case atStart => exact ⟨0, 0, none, 0, Nat.zero_le _, rfl, rfl, Lib.hid rfl, Lib.hid (World.ownsRow_nil w B0 _ 8), Lib.hid (Gr.refl _)⟩
  case round =>
    obtain ⟨k, m, A1, c1, hk, rfl, rfl, hm, ho, hg⟩ := hrel
    by_cases hlt : k < n
    · have ii : (k : Int) < (n : Int) := by omega
      obtain ⟨q, hq⟩ : ∃ q, x.W[k]? = some q := ⟨_, List.getElem?_eq_getElem (by rw [hn.out]; exact hlt)⟩
      obtain ⟨b, cp', hv', hb, x0, x1, -⟩ := (h.out.gr hg.out).stag hq
      rw [hv.out, hn.out] at hv'
      injection hv' with e1 _ e3
      subst e1 e3
      obtain ⟨qk, qd, qA, qc⟩ := q
      simp only at x0 x1
      have hcq : c.W[k]? = some (qk, qd) := by rw [h.out.wc, List.getElem?_map, hq]; rfl
      have htk := Lib.hid (colB_take (B := c.B) hcq)
      have hkey : Hid (qk.length ≤ maxLen) := Lib.hid (key_le (h.out.ok.okW _ (List.mem_of_getElem? hcq)).1)
      obtain ⟨nd, hnd⟩ : ∃ m, qd.length = m := ⟨_, rfl⟩
      rw [hnd] at x1
      obtain ⟨W, hW⟩ : ∃ W, wr.alloc (.cells #[.string (bs qk), .slice qA nd qc] 67) = W := ⟨_, rfl⟩
      obtain ⟨N, hN⟩ : ∃ N, wr.heap.size = N := ⟨_, rfl⟩
      have hgW : Gr wr W := by rw [← hW]; exact Gr.alloc _ _
      have hbW : W.heap[N]? = some (.cells #[.string (bs qk), .slice qA nd qc] 67 (0, 0)) := by rw [← hW, ← hN]; exact heap_alloc_new wr _
      replace hgW := Lib.hid hgW
      replace hbW := Lib.hid hbW
      replace hnd := Lib.hid hnd
      replace hcq := Lib.hid hcq
      replace hq := Lib.hid hq
      go_upto_region 5 with (fail)
      (try rw [hW])
      replace hW := Lib.hid hW
      replace hN := Lib.hid hN
      clear x0 x1
      obtain ⟨wd, hwd⟩ : ∃ wd, wd = W.drew := ⟨_, rfl⟩
      have hgd : Gr W wd := by rw [hwd]; exact (Below.refl _ _).drew
      have hbd2 : Hid (wd.heap[N]? = some (.cells #[.string (bs qk), .slice qA nd qc] 67 (0, 0))) := Lib.hid (blk_below hbW.out hgd)
      have hgw : Hid (Gr w wd) := Lib.hid ((hg.out.trans hgW.out).trans hgd)
      have hcd := Lib.hid (h.out.gr hgw.out)
      have hod := Lib.hid (row_below (row_below ho.out hgW.out) hgd)
      obtain ⟨hp, hhp⟩ : ∃ hp, hasP c.B qk = hp := ⟨_, rfl⟩
      have hlk := hcd.out.mb.look lawS Try.underlying60 zeroI (keyS hkey.out)
      rw [bM_has, hhp, bM_get] at hlk
      simp only at htk
      rw [hhp] at htk
      generalize getP c.B qk 0 = gv at hlk htk
      replace hhp := Lib.hid hhp
      clear hgd ho
      refine wpR_region (Eq) 9999 (by kernel_rfl) ?_
      (rw [← hwd]; replace hwd := Lib.hid hwd)
      refine wpR_take (i := 0) (v := ?_) (⟨fun _ => rfl, Eq.trans⟩) (some 19) rfl (by kernel_rfl) (by kernel_rfl) (by kernel_rfl) (by kernel_rfl) (by kernel_rfl) (fun _ _ _ h => h) (by kernel_rfl) (fun w' hw' => ?_) ?_
      rotate_left
      · go_simp; with_reducible rfl
      simp only [Act.put, List.setIfInBounds_toArray, List.set_cons_zero, List.set_cons_succ]
      refine wpR_take (i := 1) (v := ?_) (⟨fun _ => rfl, Eq.trans⟩) (some 20) rfl (by kernel_rfl) (by kernel_rfl) (by kernel_rfl) (by kernel_rfl) (by kernel_rfl) (fun _ _ _ h => h) (by kernel_rfl) (fun w' hw' => ?_) ?_
      rotate_left
      · go_simp; with_reducible rfl
      simp only [Act.put, List.setIfInBounds_toArray, List.set_cons_zero, List.set_cons_succ]
      refine wpR_take (i := 2) (v := ?_) (⟨fun _ => rfl, Eq.trans⟩) (some 21) rfl (by kernel_rfl) (by kernel_rfl) (by kernel_rfl) (by kernel_rfl) (by kernel_rfl) (fun _ _ _ h => h) (by kernel_rfl) (fun w' hw' => ?_) ?_
      rotate_left
      · go_simp; with_reducible rfl
      simp only [Act.put, List.setIfInBounds_toArray, List.set_cons_zero, List.set_cons_succ]
      refine wpR_take (i := 3) (v := ?_) (⟨fun _ => rfl, Eq.trans⟩) (some 22) rfl (by kernel_rfl) (by kernel_rfl) (by kernel_rfl) (by kernel_rfl) (by kernel_rfl) (fun _ _ _ h => h) (by kernel_rfl) (fun w' hw' => ?_) ?_
      rotate_left
      · have q := blk_cell (j := 2) hcd.out.blk rfl; subst hw'; go_simp; with_reducible rfl
      simp only [Act.put, List.setIfInBounds_toArray, List.set_cons_zero, List.set_cons_succ]
      refine wpR_take (i := 4) (v := ?_) (⟨fun _ => rfl, Eq.trans⟩) (some 23) rfl (by kernel_rfl) (by kernel_rfl) (by kernel_rfl) (by kernel_rfl) (by kernel_rfl) (fun _ _ _ h => h) (by kernel_rfl) (fun w' hw' => ?_) ?_
      rotate_left
      · go_simp; with_reducible rfl
      simp only [Act.put, List.setIfInBounds_toArray, List.set_cons_zero, List.set_cons_succ]
      refine wpR_take (i := 5) (v := ?_) (⟨fun _ => rfl, Eq.trans⟩) (some 24) rfl (by kernel_rfl) (by kernel_rfl) (by kernel_rfl) (by kernel_rfl) (by kernel_rfl) (fun _ _ _ h => h) (by kernel_rfl) (fun w' hw' => ?_) ?_
      rotate_left
      · have q := blk_cell (j := 0) hbd2.out rfl; subst hw'; go_simp; with_reducible rfl
      simp only [Act.put, List.setIfInBounds_toArray, List.set_cons_zero, List.set_cons_succ]
      refine wpR_take (i := 6) (v := ?_) (⟨fun _ => rfl, Eq.trans⟩) (some 25) rfl (by kernel_rfl) (by kernel_rfl) (by kernel_rfl) (by kernel_rfl) (by kernel_rfl) (fun _ _ _ h => h) (by kernel_rfl) (fun w' hw' => ?_) ?_
      rotate_left
      · subst hw'; go_simp; with_reducible rfl
      simp only [Act.put, List.setIfInBounds_toArray, List.set_cons_zero, List.set_cons_succ]
      refine wpR_take (i := 7) (v := ?_) (⟨fun _ => rfl, Eq.trans⟩) (some 18) rfl (by kernel_rfl) (by kernel_rfl) (by kernel_rfl) (by kernel_rfl) (by kernel_rfl) (fun _ _ _ h => h) (by kernel_rfl) (fun w' hw' => ?_) ?_
      rotate_left
      · go_simp; with_reducible rfl
      simp only [Act.put, List.setIfInBounds_toArray, List.set_cons_zero, List.set_cons_succ]
      refine wpR_take (i := 8) (v := ?_) (⟨fun _ => rfl, Eq.trans⟩) (some 26) rfl (by kernel_rfl) (by kernel_rfl) (by kernel_rfl) (by kernel_rfl) (by kernel_rfl) (fun _ _ _ h => h) (by kernel_rfl) (fun w' hw' => ?_) ?_
      rotate_left
      · go_simp; with_reducible rfl
      simp only [Act.put, List.setIfInBounds_toArray, List.set_cons_zero, List.set_cons_succ]
      refine wpR_take (i := 9) (v := ?_) (⟨fun _ => rfl, Eq.trans⟩) (some 27) rfl (by kernel_rfl) (by kernel_rfl) (by kernel_rfl) (by kernel_rfl) (by kernel_rfl) (fun _ _ _ h => h) (by kernel_rfl) (fun w' hw' => ?_) ?_
      rotate_left
      · go_simp; with_reducible rfl
      simp only [Act.put, List.setIfInBounds_toArray, List.set_cons_zero, List.set_cons_succ]
      refine wpR_take (i := 10) (v := ?_) (⟨fun _ => rfl, Eq.trans⟩) (some 6) rfl (by kernel_rfl) (by kernel_rfl) (by kernel_rfl) (by kernel_rfl) (by kernel_rfl) (fun _ _ _ h => h) (by kernel_rfl) (fun w' hw' => ?_) ?_
      rotate_left
      · go_simp; with_reducible rfl
      simp only [Act.put, List.setIfInBounds_toArray, List.set_cons_zero, List.set_cons_succ]
      refine wpR_take (i := 11) (v := ?_) (⟨fun _ => rfl, Eq.trans⟩) (some 7) rfl (by kernel_rfl) (by kernel_rfl) (by kernel_rfl) (by kernel_rfl) (by kernel_rfl) (fun _ _ _ h => h) (by kernel_rfl) (fun w' hw' => ?_) ?_
      rotate_left
      · go_simp; with_reducible rfl
      simp only [Act.put, List.setIfInBounds_toArray, List.set_cons_zero, List.set_cons_succ]
      refine wpR_done (by kernel_rfl) ?_ _
      clear hlk
      have y0 := blk_cell (j := 0) hbd2.out rfl
      cases hp with
      | false =>
        rw [if_neg (by decide), List.append_nil] at htk
        go_wp2_with fail
        go_roundw
        case rel => exact ⟨k + 1, m, A1, c1, by omega, rfl, by go_num, Lib.hid (by rw [htk.out]; exact hm.out), Lib.hid (by rw [htk.out]; exact hod.out), hgw⟩
        case measure => simp [intOf]; omega
      | true =>
        rw [if_pos rfl] at htk
        have hlit : Hid (Reads _ _ 8 _ 1 _) := Lib.hid (Reads.noteLit wd (e4 (qk, gv)))
        have hg2 : Hid (Gr w (wd.alloc (.cells (e4 (qk, gv)).cells.toArray 32))) := Lib.hid (hgw.out.trans (Gr.alloc _ _))
        have ho2 := Lib.hid (O4.on (L := colB c.B (c.W.take k)) (row_below hod.out (Gr.alloc wd (.cells (e4 (qk, gv)).cells.toArray 32))))
        have hml : Hid (((colB c.B (c.W.take k)).map e4).length ≤ 1000) := Lib.hid (by rw [List.length_map]; have h1 := colB_len c.B (c.W.take k); rw [List.length_take] at h1; omega)
        go_wp2_with (at_builtin; go_must (refine wpl_appN rfl (.tmp 29) (.tmp 34) rfl B0 (.slice A1 m c1) _ (e4 (qk, gv)) rfl ho2.out (some ⟨wd.heap.size, 0, none⟩) 1 rfl hlit.out (neN_v rfl rfl _) (neN_apt rfl rfl _) (by have := hml.out; omega) (hlow.out _ hg2.out) ?_); intro v6 w6 ho6 hg6 hb6; replace hb6 := Lib.hid (hgo.out _ _ hg2.out hb6); rw [show (colB c.B (c.W.take k)).map e4 ++ [e4 (qk, gv)] = (colB c.B (c.W.take k) ++ [(qk, gv)]).map e4 from by rw [List.map_append]; rfl] at ho6; have ho7 := O4.of_on ho6; clear ho6; rw [← htk.out] at ho7; obtain ⟨A6, c6, rfl, -, -⟩ := row_form ho7; have hl6 : (colB c.B (c.W.take (k + 1))).length = m + 1 := (by rw [htk.out, List.length_append, hm.out]; rfl); rw [hl6] at ho7 ⊢; replace hl6 := Lib.hid hl6; replace ho7 := Lib.hid ho7; clear hg6)
        go_roundw
        case rel => exact ⟨k + 1, m + 1, A6, c6, by omega, rfl, by go_num, hl6, ho7, hb6⟩
        case measure => simp [intOf]; omega
    · obtain rfl : k = n := by omega
      have e : (c.W.take k) = c.W := List.take_of_length_le (by rw [hnW.out]; exact Nat.le_refl _)
      rw [e] at ho hm
      have hbdk : BdG (colB c.B c.W) := by have := hbd.out k; rw [e] at this; exact this
      have hsz : (colB c.B c.W).length ≤ 1000 := by have := colB_len c.B c.W; rw [hnW.out] at this; omega
      have hcall := Lib.hid (sortG_any (colB c.B c.W) hbdk (.slice A1 m c1) B0 wr ho.out (by omega))
      replace hbdk := Lib.hid hbdk
      replace hsz := Lib.hid hsz
      replace e := Lib.hid e
      clear ho
      go_upto_region 11 with (go_at_call 46; go_must (refine hcall.out.mono ?_); clear hcall; rintro e w5 ⟨rfl, L', hp5, hs5, ho5, hb5⟩)
      have hm5 : L'.length = m := by rw [hp5.length_eq]; exact hm.out
      obtain rfl : L' = begP c := begP_of h.out.ok hp5 hs5
      have hg5 := Lib.hid (hgo.out _ _ hg.out hb5)
      have hc5 := Lib.hid (h.out.gr hg5.out)
      have hm4 : m ≤ 1000 := by rw [← hm5]; exact Nat.le_trans (begP_len c) hlB.out
      replace hm4 := Lib.hid hm4
      replace hm5 := Lib.hid hm5
      replace ho5 := Lib.hid ho5
      clear hp5 hs5 hb5
      have g5 := blk_cell (j := 5) hc5.out.blk rfl
      obtain ⟨lg, hlg⟩ : ∃ lg, lastG (begP c) = lg := ⟨_, rfl⟩
      have hgen : Hid (genP c = begP c ++ (if lg < c.G then [([], c.G)] else [])) := Lib.hid (by unfold genP; rw [hlg])
      generalize c.G = cG at g5 hgen
      have hfin : Hid (∀ wz, Gr w wz → O4 (begP c) (.slice A1 m c1) B0 wz → ¬ lg < cG → ∃ A cc, (Ending.returned (.slice A1 m c1)) = .returned (.slice A (genP c).length cc) ∧ O4 (genP c) (.slice A (genP c).length cc) B0 wz ∧ Gr w wz) := Lib.hid (fun wz h1 h2 h3 => by
        rw [hgen.out, if_neg h3, List.append_nil, hm5.out]
        exact ⟨A1, c1, rfl, h2, h1⟩)
      have hlit : Hid (Reads _ _ 8 _ 1 _) := Lib.hid (Reads.noteLit w5 (e4 ([], cG)))
      have hg6 : Hid (Gr w (w5.alloc (.cells (e4 ([], cG)).cells.toArray 32))) := Lib.hid (hg5.out.trans (Gr.alloc _ _))
      have ho6 := Lib.hid (O4.on (L := begP c) (row_below ho5.out (Gr.alloc w5 (.cells (e4 ([], cG)).cells.toArray 32))))
      have hml : Hid (((begP c).map e4).length ≤ 1000) := Lib.hid (by rw [List.length_map, hm5.out]; exact hm4.out)
      have hfin2 : Hid (∀ v7 wz, Gr w wz → ON ((begP c).map e4 ++ [e4 ([], cG)]) v7 B0 wz → lg < cG → ∃ A cc, (Ending.returned v7) = .returned (.slice A (genP c).length cc) ∧ O4 (genP c) (.slice A (genP c).length cc) B0 wz ∧ Gr w wz) := Lib.hid (fun v7 wz h1 h2 h3 => by
        rw [show (begP c).map e4 ++ [e4 ([], cG)] = (begP c ++ [([], cG)]).map e4 from by rw [List.map_append]; rfl] at h2
        have h4 := O4.of_on h2
        rw [hgen.out, if_pos h3]
        obtain ⟨A6, c6, rfl, -, -⟩ := row_form h4
        exact ⟨A6, c6, rfl, h4, h1⟩)
      rcases Nat.eq_zero_or_pos m with hm0 | hm0
      · subst hm0
        have hbe : begP c = [] := List.eq_nil_of_length_eq_zero hm5.out
        have hl0 : lg = 0 := by rw [← hlg, hbe]; rfl
        subst hl0
        replace hbe := Lib.hid hbe
        replace hlg := Lib.hid hlg
        by_cases hgt : (0 : Int) < cG
        · go_wp2_with (at_builtin; go_must (refine wpl_appN rfl (.tmp 55) (.tmp 61) rfl B0 (.slice A1 0 c1) _ (e4 ([], cG)) rfl ho6.out (some ⟨w5.heap.size, 0, none⟩) 1 rfl hlit.out (neN_v rfl rfl _) (neN_apt rfl rfl _) (by have := hml.out; omega) (hlow.out _ hg6.out) ?_); intro v7 w7 ho7 hg7 hb7; replace hb7 := Lib.hid (hgo.out _ _ hg6.out hb7))
          go_ret
          exact hfin2.out _ _ hb7.out ho7 hgt
        · go_wp2_with fail
          go_ret
          exact hfin.out _ hg5.out ho5.out hgt
      · obtain ⟨p, hp⟩ : ∃ p, m = p + 1 := ⟨m - 1, by omega⟩
        obtain ⟨q, hq⟩ : ∃ q, (begP c)[p]? = some q := ⟨_, List.getElem?_eq_getElem (by rw [hm5.out]; omega)⟩
        have hl0 : lg = q.2 := by
          rw [← hlg]
          unfold lastG
          rw [List.getLast?_eq_getElem?, hm5.out, show m - 1 = p from by omega, hq]
        subst hl0
        have hrow := ho5.out
        unfold O4 at hrow
        rw [hm5.out] at hrow
        obtain ⟨b, cp', hv', -, -, -, hb, -, -, hcell, -⟩ := row_at hrow hm0
        injection hv' with e1 _ e3
        subst e1 e3
        have z2 := hcell _ _ ((flatN_at (l := (begP c).map e4) (i := p) (x := e4 q) (by rw [List.getElem?_map, hq]; rfl) 2 (by decide)).trans rfl)
        obtain ⟨qk, qg⟩ := q
        replace z2 : w5.cell? ⟨b, p * 8 + 2, none⟩ = some (.int .i64 qg) := z2
        simp only at hfin hfin2 hgen hlg
        have s1 : IntKind.i64.wrap ((m : Int) - 1) = (p : Int) := by rw [IntKind.wrap_i64]; have := hm4.out; omega
        have i1 : (p : Int) < (m : Int) := by omega
        have i2 : (0 : Int) < (m : Int) := by omega
        have i3 : ¬ (p : Int) < 0 := by omega
        replace hp := Lib.hid hp
        replace hq := Lib.hid hq
        replace hlg := Lib.hid hlg
        replace hrow := Lib.hid hrow
        clear hcell
        by_cases hgt : qg < cG
        · go_wp2_with (at_builtin; go_must (refine wpl_appN rfl (.tmp 55) (.tmp 61) rfl B0 (.slice (some ⟨b, 0, none⟩) m c1) _ (e4 ([], cG)) rfl ho6.out (some ⟨w5.heap.size, 0, none⟩) 1 rfl hlit.out (neN_v rfl rfl _) (neN_apt rfl rfl _) (by have := hml.out; omega) (hlow.out _ hg6.out) ?_); intro v7 w7 ho7 hg7 hb7; replace hb7 := Lib.hid (hgo.out _ _ hg6.out hb7))
          go_ret
          exact hfin2.out _ _ hb7.out ho7 hgt
        · go_wp2_with fail
          go_ret
          exact hfin.out _ hg5.out ho5.out hgt
end
end Go.Proofs.Ythboeoidgglcgaa
