/- cat: the reference's Apply: gone. -/
import Derived.Test.YthboeoidgglcgaaGreatCpC
namespace Go.Proofs.YthboeoidgglcgaaGreat
set_option linter.unusedVariables false
set_option linter.unusedSimpArgs false
set_option linter.unusedSectionVars false
open Go Go.RowKit Go.Maps Go.Sort Go.Shelf Go.Proofs
set_option maxRecDepth 10000 in
set_option maxHeartbeats 4000000 in
theorem rap3_any (lo g : Nat) (y : RcX) (c : CtP) (w : World) (h : Hid (Rc w lo g y c)) (hf : c.Few 999) (hok : c.Ok) (n : Nt) (v : Value) (hk : n.key.length ≤ maxLen) (w0 : World) (hv : NtV n v w0) (h0 : w0.heap.size ≤ lo) (hg0 : Gr w0 w) (hI : I64 n.cart) (hk1 : n.kind = 3) :
    Calls Tryz.prog 6 #[.pointer (some ⟨g, 0, none⟩), v] w (RPost lo g y w (c.gone n)) := by
  obtain ⟨A, ca, A2, c2, rfl, hdt, hpl⟩ := hv
  obtain ⟨N, hN⟩ : ∃ N, w.heap.size = N := ⟨_, rfl⟩
  obtain ⟨rc, hrc⟩ : ∃ rc, c.gone n = rc := ⟨_, rfl⟩
  rw [hrc]
  unfold CtP.gone at hrc
  obtain ⟨nk, ny, ng, nc, nd, nu, ns, np⟩ := n
  unfold Nt.agg
  simp only at hk1 hk hrc hdt hpl hI ⊢
  subst hk1
  obtain ⟨ld, hld⟩ : ∃ ld, nd.length = ld := ⟨_, rfl⟩
  obtain ⟨lp, hlp⟩ : ∃ lp, np.length = lp := ⟨_, rfl⟩
  rw [hld] at hdt ⊢
  rw [hlp] at hpl ⊢
  obtain ⟨W, hW⟩ : ∃ W, w.alloc (.cells #[.int .i64 3, .string (bs ny), .int .i64 ng, .int .i64 nc, .slice A ld ca, .string (bs nu), .int .i64 ns, .slice A2 lp c2] 37) = W := ⟨_, rfl⟩
  have hgW : Gr w W := by rw [← hW]; exact Gr.alloc _ _
  have hbW : W.heap[N]? = some (.cells #[.int .i64 3, .string (bs ny), .int .i64 ng, .int .i64 nc, .slice A ld ca, .string (bs nu), .int .i64 ns, .slice A2 lp c2] 37 (0, 0)) := by rw [← hW, ← hN]; exact heap_alloc_new w _
  have z0 := blk_cell (j := 0) hbW rfl
  have z1 := blk_cell (j := 1) hbW rfl
  have z2 := blk_cell (j := 2) hbW rfl
  have z4 := blk_cell (j := 4) hbW rfl
  have z6 := blk_cell (j := 6) hbW rfl
  have hcW := Lib.hid (h.out.gr hgW)
  have hfr : Hid (∀ {c' w'}, RcAct lo g y W c' w' → RcAct lo g y w c' w') := Lib.hid (fun h1 => RcAct.from_ hgW h1)
  have hsame : Hid (∀ w', Gr W w' → RcAct lo g y w c w') := Lib.hid (fun w' h1 => RcAct.gr h (hgW.trans h1))
  have hhc := Lib.hid (rhas_any lo g y c W hcW (few1 hf) hok ny)
  have hlt := Lib.hid (rlater_any lo g y c W hcW ng)
  have hhx : Hid (c.B.length ≤ 999 ∧ c.T.length ≤ 999) := Lib.hid ⟨hf.2.2.1, hf.2.2.2.1⟩
  have hbg := Lib.hid (rbegan_any lo g y c W hcW (few1 hf) hok ny)
  have his := Lib.hid (ris13_any lo g y c W hcW (few1 hf) (fun e he => (hok.okE e he).1) ny)
  have hgp := Lib.hid (getB_pos hok ny)
  replace hgW := Lib.hid hgW
  replace hbW := Lib.hid hbW
  replace hld := Lib.hid hld
  replace hlp := Lib.hid hlp
  replace hdt := Lib.hid hdt
  replace hpl := Lib.hid hpl
  cases hha : c.has ny with
  | false =>
    rw [hha] at hhc hrc
    obtain rfl : rc = (5, c) := by rw [← hrc, if_pos rfl]
    replace hha := Lib.hid hha
    clear hrc
    go_enter Tryz.func6, Tryz.ntmps6
    go_wp2_with (go_at_call 12; go_must (refine hhc.out.mono ?_); clear hhc; rintro e w' ⟨rfl, hww⟩; rw [hww]; clear hww w')
    go_ret
    exact ⟨rfl, hsame.out _ (Gr.refl _)⟩
  | true =>
    rw [hha] at hhc hrc
    rw [if_neg (by decide)] at hrc
    cases hla : c.later ng with
    | false =>
      rw [hla] at hlt hrc
      obtain rfl : rc = (12, c) := by rw [← hrc, if_pos rfl]
      replace hha := Lib.hid hha
      replace hla := Lib.hid hla
      clear hrc
      go_enter Tryz.func6, Tryz.ntmps6
      go_wp2_with (first
        | (go_at_call 12; go_must (refine hhc.out.mono ?_); clear hhc; rintro e w' ⟨rfl, hww⟩; rw [hww]; clear hww w')
        | (go_at_call 24; go_must (refine hlt.out.mono ?_); clear hlt; rintro e w' ⟨rfl, hww⟩; rw [hww]; clear hww w'))
      go_ret
      exact ⟨rfl, hsame.out _ (Gr.refl _)⟩
    | true =>
      rw [hla] at hlt hrc
      rw [if_neg (by decide)] at hrc
      replace hha := Lib.hid hha
      replace hla := Lib.hid hla
      have hbB := Lib.hid hbW
      go_enter Tryz.func6, Tryz.ntmps6
      go_upto_region 24 with (first
        | (go_at_call 12; go_must (refine hhc.out.mono ?_); clear hhc; rintro e w' ⟨rfl, hww⟩; rw [hww]; clear hww w')
        | (go_at_call 24; go_must (refine hlt.out.mono ?_); clear hlt; rintro e w' ⟨rfl, hww⟩; rw [hww]; clear hww w'))
      cases hE : hasP c.E ny with
      | true =>
        obtain ⟨iE, xE, eE, -⟩ := idxP_yes hE
        rw [eE] at his
        rw [if_pos (.inl hE)] at hrc
        replace hE := Lib.hid hE
        clear eE
        go_upto_region 25 with (go_at_call 14; go_must (refine his.out.mono ?_); clear his; rintro e w' ⟨rfl, hww⟩; rw [hww]; clear hww w')
        obtain ⟨AT, cT, hvT, -, -⟩ := row_form hcW.out.ts
        obtain ⟨nT, hnT⟩ : ∃ m, c.T.length = m := ⟨_, rfl⟩
        rw [hnT] at hvT
        obtain ⟨wd, hwd⟩ : ∃ wd, wd = W.drew := ⟨_, rfl⟩
        have hgd : Gr W wd := by rw [hwd]; exact (Below.refl _ _).drew
        have hcd := Lib.hid (hcW.out.gr hgd)
        have hbd := Lib.hid (blk_below hbB.out hgd)
        obtain ⟨B2, hB2⟩ : ∃ b, wd.heap.size = b := ⟨_, rfl⟩
        have hgB : g < B2 := by rw [← hB2]; exact blk_lt hcd.out.blk
        have hqd : Hid (Below B2 wd wd) := Lib.hid (Below.refl _ _)
        have hzd : Hid (B2 ≤ wd.heap.size) := Lib.hid (by rw [hB2]; exact Nat.le_refl _)
        have hlB : Hid (lo ≤ B2) := Lib.hid (by have := hcd.out.lg; omega)
        have hgBB : Hid (∀ q, Below B2 wd q → Gr W q) := Lib.hid (fun q h1 => Gr.trans hgd (by unfold Gr; rw [hB2]; exact h1))
        replace hgd := Lib.hid hgd
        replace hB2 := Lib.hid hB2
        have hRt : Hid (Reads wd B2 2 AT nT (flatT c.T)) := Lib.hid (by have := hcd.out.ts; rw [hvT, hnT] at this; have h2 := Reads.of_own this; rw [hB2.out] at h2; exact h2)
        have hLl : Hid (c.T.length ≤ 1000) := Lib.hid (by have := hhx.out.2; omega)
        replace hvT := Lib.hid hvT
        replace hnT := Lib.hid hnT
        refine wpR_region (Below B2) 16 (by kernel_rfl) ?_
        (rw [← hwd]; replace hwd := Lib.hid hwd)
        refine wT (i := 0) (v := ?_) (⟨fun x => Below.refl _ x, fun h1 h2 => h1.trans h2⟩) (some 167) rfl (fun w' hw' => ?_) ?_
        rotate_left
        · go_simp; with_reducible rfl
        simp only [Act.put, List.setIfInBounds_toArray, List.set_cons_zero, List.set_cons_succ]
        refine wT (i := 2) (v := ?_) (⟨fun x => Below.refl _ x, fun h1 h2 => h1.trans h2⟩) (some 169) rfl (fun w' hw' => ?_) ?_
        rotate_left
        · go_simp; with_reducible rfl
        simp only [Act.put, List.setIfInBounds_toArray, List.set_cons_zero, List.set_cons_succ]
        refine wT (i := 3) (v := ?_) (⟨fun x => Below.refl _ x, fun h1 h2 => h1.trans h2⟩) (some 170) rfl (fun w' hw' => ?_) ?_
        rotate_left
        · go_simp; with_reducible rfl
        simp only [Act.put, List.setIfInBounds_toArray, List.set_cons_zero, List.set_cons_succ]
        refine wT (i := 4) (v := ?_) (⟨fun x => Below.refl _ x, fun h1 h2 => h1.trans h2⟩) (some 171) rfl (fun w' hw' => ?_) ?_
        rotate_left
        · go_simp; with_reducible rfl
        simp only [Act.put, List.setIfInBounds_toArray, List.set_cons_zero, List.set_cons_succ]
        refine wT (i := 5) (v := ?_) (⟨fun x => Below.refl _ x, fun h1 h2 => h1.trans h2⟩) (some 172) rfl (fun w' hw' => ?_) ?_
        rotate_left
        · have q := blk_cell (j := 3) ((hw'.block g hgB).trans hcd.out.blk) rfl; rw [hvT.out] at q; go_simp; with_reducible rfl
        simp only [Act.put, List.setIfInBounds_toArray, List.set_cons_zero, List.set_cons_succ]
        refine wT (i := 7) (v := ?_) (⟨fun x => Below.refl _ x, fun h1 h2 => h1.trans h2⟩) (some 174) rfl (fun w' hw' => ?_) ?_
        rotate_left
        · go_simp; with_reducible rfl
        simp only [Act.put, List.setIfInBounds_toArray, List.set_cons_zero, List.set_cons_succ]
        refine wT (i := 8) (v := ?_) (⟨fun x => Below.refl _ x, fun h1 h2 => h1.trans h2⟩) (some 175) rfl (fun w' hw' => ?_) ?_
        rotate_left
        · have q1 := blk_cell (j := 1) ((hw'.block N (by rw [← hB2.out]; exact blk_lt hbd.out)).trans hbd.out) rfl; go_simp; with_reducible rfl
        simp only [Act.put, List.setIfInBounds_toArray, List.set_cons_zero, List.set_cons_succ]
        refine wT (i := 9) (v := ?_) (⟨fun x => Below.refl _ x, fun h1 h2 => h1.trans h2⟩) (some 176) rfl (fun w' hw' => ?_) ?_
        rotate_left
        · go_simp; with_reducible rfl
        simp only [Act.put, List.setIfInBounds_toArray, List.set_cons_zero, List.set_cons_succ]
        refine wT (i := 10) (v := ?_) (⟨fun x => Below.refl _ x, fun h1 h2 => h1.trans h2⟩) (some 177) rfl (fun w' hw' => ?_) ?_
        rotate_left
        · have q2 := blk_cell (j := 2) ((hw'.block N (by rw [← hB2.out]; exact blk_lt hbd.out)).trans hbd.out) rfl; go_simp; with_reducible rfl
        simp only [Act.put, List.setIfInBounds_toArray, List.set_cons_zero, List.set_cons_succ]
        refine wT (i := 11) (v := ?_) (⟨fun x => Below.refl _ x, fun h1 h2 => h1.trans h2⟩) (some 178) rfl (fun w' hw' => ?_) ?_
        rotate_left
        · go_simp; with_reducible rfl
        simp only [Act.put, List.setIfInBounds_toArray, List.set_cons_zero, List.set_cons_succ]
        refine wpR_two 1 12 rfl rfl (by kernel_rfl) (by kernel_rfl) (by kernel_rfl) (fun K hK => ?_) (fun K hK => ?_)
        · go_simp
          obtain ⟨g0, hg0e⟩ : ∃ g0, wd.heap.size = g0 := ⟨_, rfl⟩
          obtain ⟨V1, hV0⟩ : ∃ W, W = wd.alloc (.cells #[] 63) := ⟨_, rfl⟩
          have hr0 : Below B2 wd V1 := by rw [hV0]; exact (Below.refl _ _).alloc hzd.out _
          have ho0 : Hid (V1.ownsRow lo 63 2 (.slice (some ⟨g0, 0, none⟩) 0 0) ([] : List (By × Int)).length (flatT [])) := Lib.hid (by rw [hV0, ← hg0e]; exact World.ownsRow_made _ #[] 0 (Nat.le_trans hlB.out hzd.out) (by simp [maxLen]) rfl)
          have hgB0 : Hid (B2 ≤ g0) := Lib.hid (by rw [← hg0e]; exact hzd.out)
          have hq1 : Hid (Below B2 wd V1) := Lib.hid (hqd.out.trans hr0)
          have hz1 : Hid (B2 ≤ V1.heap.size) := Lib.hid (Nat.le_trans hzd.out hr0.size)
          rw [← hV0, hg0e]
          replace hV0 := Lib.hid hV0
          replace hg0e := Lib.hid hg0e
          refine hK _ _ (fun _ => hr0) ?_
          clear hK K
          try simp only [Act.put, List.setIfInBounds_toArray, List.set_cons_zero, List.set_cons_succ]
          refine wpR_two 6 12 rfl rfl (by kernel_rfl) (by kernel_rfl) (by kernel_rfl) (fun K hK => ?_) (fun K hK => ?_)
          · refine wp_appM (.tmp 168) (.tmp 172) rfl lo _ [] rfl ho0.out _ _ c.T rfl ((hRt.out.below hq1.out).more (Nat.le_refl _)) (by have := hLl.out; simp; omega) (Nat.le_trans hlB.out hz1.out) ?_
            intro v7 V6 ho7 hgr7 hlc7
            rw [List.nil_append] at ho7
            have hr7 : Below B2 V1 V6 := (Below.refl _ _).grown hgr7 hz1.out (fun j hj => by injection hj with hj; have hj : g0 = j := hj; rw [← hj]; exact hgB0.out)
            have hown7 : Hid (∀ j, v7.ownBlock = some j → B2 ≤ j) := Lib.hid (fun j hj => by rcases hlc7 with e | e; (· have e2 := e.symm.trans hj; injection e2 with e2; have e2 : g0 = j := e2; rw [← e2]; exact hgB0.out); (· have e2 := e.symm.trans hj; injection e2 with e2; rw [← e2]; exact hz1.out))
            replace ho7 := Lib.hid ho7
            have hq6 : Hid (Below B2 wd V6) := Lib.hid (hq1.out.trans hr7)
            have hz6 : Hid (B2 ≤ V6.heap.size) := Lib.hid (Nat.le_trans hz1.out hr7.size)
            refine hK _ _ (fun _ => hr7) ?_
            clear hK K
            clear hgr7 hr7 hlc7
            try simp only [Act.put, List.setIfInBounds_toArray, List.set_cons_zero, List.set_cons_succ]
            refine wpR_one 12 rfl (by kernel_rfl) (by kernel_rfl) (fun K hK => ?_)
            go_simp
            obtain ⟨g9, hg9e⟩ : ∃ g9, V6.heap.size = g9 := ⟨_, rfl⟩
            obtain ⟨V12, hV9⟩ : ∃ W, W = V6.alloc (.cells #[.string (bs ny), .int .i64 ng] 63) := ⟨_, rfl⟩
            have hr9 : Below B2 V6 V12 := by rw [hV9]; exact (Below.refl _ _).alloc hz6.out _
            have hl9 : Hid (V12.heap[g9]? = some (.cells #[.string (bs ny), .int .i64 ng] 63 (0, 0))) := Lib.hid (by rw [hV9, ← hg9e]; exact heap_alloc_new _ _)
            have hq12 : Hid (Below B2 wd V12) := Lib.hid (hq6.out.trans hr9)
            have hz12 : Hid (B2 ≤ V12.heap.size) := Lib.hid (Nat.le_trans hz6.out hr9.size)
            replace ho7 := Lib.hid (row_below ho7.out (show Gr V6 V12 by rw [hV9]; exact Gr.alloc _ _))
            rw [← hV9, hg9e]
            replace hV9 := Lib.hid hV9
            replace hg9e := Lib.hid hg9e
            refine hK _ _ (fun _ => hr9) ?_
            clear hK K
            try simp only [Act.put, List.setIfInBounds_toArray, List.set_cons_zero, List.set_cons_succ]
            refine wpR_one 13 rfl (by kernel_rfl) (by kernel_rfl) (fun K hK => ?_)
            refine wp_appM (.tmp 173) (.tmp 179) rfl lo _ c.T rfl ho7.out _ _ [(ny, ng)] rfl (Reads.blk2 hl9.out) (by have := hLl.out; simp; omega) (Nat.le_trans hlB.out hz12.out) ?_
            intro v8 V13 ho10 hgr10 hlc10
            have hr10 : Below B2 V12 V13 := (Below.refl _ _).grown hgr10 hz12.out hown7.out
            obtain ⟨A10, k10, rfl, -, -⟩ := row_form ho10
            obtain ⟨m10, hm10⟩ : ∃ m, (c.T ++ [(ny, ng)]).length = m := ⟨_, rfl⟩
            replace ho10 := Lib.hid ho10
            rw [hm10]
            have hq13 : Hid (Below B2 wd V13) := Lib.hid (hq12.out.trans hr10)
            have hb10 := Lib.hid ((hq13.out.block g hgB).trans hcd.out.blk)
            refine hK _ _ (fun _ => hr10) ?_
            clear hK K
            clear hgr10 hr10 hlc10
            try simp only [Act.put, List.setIfInBounds_toArray, List.set_cons_zero, List.set_cons_succ]
            refine wU (i := 14) (v := ?_) (⟨fun x => Below.refl _ x, fun h1 h2 => h1.trans h2⟩) (some 181) rfl (fun w' => ?_) ?_
            rotate_left
            · go_simp; with_reducible rfl
            simp only [Act.put, List.setIfInBounds_toArray, List.set_cons_zero, List.set_cons_succ]
            refine wT (i := 15) (v := ?_) (⟨fun x => Below.refl _ x, fun h1 h2 => h1.trans h2⟩) (some 182) rfl (fun w' hw' => ?_) ?_
            rotate_left
            · go_simp; with_reducible rfl
            simp only [Act.put, List.setIfInBounds_toArray, List.set_cons_zero, List.set_cons_succ]
            refine wpR_one 16 rfl (by kernel_rfl) (by kernel_rfl) (fun K hK => ?_)
            have cc3 := blk_cell (j := 3) hb10.out rfl
            have f3 := blk_free hb10.out 3
            go_simp
            refine hK _ _ (fun h => absurd h (by decide)) ?_
            clear hK K
            clear cc3 f3
            skip
            try simp only [Act.put, List.setIfInBounds_toArray, List.set_cons_zero, List.set_cons_succ]
            refine wpR_done (by kernel_rfl) ?_ _
            obtain ⟨WQ, hWQ⟩ : ∃ W, W = V13.setCell ⟨g, 3, none⟩ (.slice A10 m10 k10) := ⟨_, rfl⟩
            rw [← hWQ]
            have hgV : Gr W V13 := hgBB.out _ hq13.out
            have hR1 : Hid (Rc WQ lo g { y with vT := .slice A10 m10 k10 } { c with T := c.T ++ [(ny, ng)] }) := Lib.hid (by rw [hWQ]; exact (hcW.out.gr hgV).setT (T' := c.T ++ [(ny, ng)]) (v := .slice A10 m10 k10) (by rw [← hm10]; exact ho10.out))
            have hu1 : Hid (Upd (y.S g) W WQ) := Lib.hid (by rw [hWQ]; exact Upd.gr_set (S := y.S g) (j := 3) (u := .slice A10 m10 k10) hgV (.inl rfl))
            have hT1 : Hid ((c.T ++ [(ny, ng)]).length ≤ 1000) := Lib.hid (by rw [List.length_append]; have := hhx.out.2; simp; omega)
            have hv1 : Hid ((RcX.mk y.vW y.vH y.vB (.slice A10 m10 k10) y.vR y.E).vW = y.vW) := Lib.hid rfl
            replace hWQ := Lib.hid hWQ
            clear hgV hm10
            have hdr := Lib.hid (rdrop_any2 lo g { y with vT := Value.slice A10 m10 k10 } { c with T := c.T ++ [(ny, ng)] } WQ hR1 (few2 hf _ hT1.out) hok.dW hok.rE hok.ap (fun e he => (hok.okE e he).1) ny)
            have hbQ := Lib.hid (hcW.out.other hu1.out hbB.out (by decide) (by decide))
            have zq1 := blk_cell (j := 1) hbQ.out rfl
            go_upto_region 27 with (go_at_call 23; go_must (refine hdr.out.mono ?_); clear hdr; rintro e w1 ⟨rfl, y2, hc2, hu2, hS2⟩)
            clear zq1
            have hb1 := Lib.hid (hR1.out.other hu2 hbQ.out (by decide) (by decide))
            obtain ⟨w7, hw7⟩ : ∃ w7, w7 = w1.drew := ⟨_, rfl⟩
            have hg7 : Gr w1 w7 := by rw [hw7]; exact (Below.refl _ _).drew
            have hc7 := Lib.hid (hc2.out.gr hg7)
            have hb7 := Lib.hid (blk_below hb1.out hg7)
            replace hg7 := Lib.hid hg7
            replace hu2 := Lib.hid hu2
            replace hS2 := Lib.hid hS2
            refine wpR_region (Gr) 10 (by kernel_rfl) ?_
            (rw [← hw7]; replace hw7 := Lib.hid hw7)
            refine wT (i := 0) (v := ?_) (Gr.road) (some 187) rfl (fun w' hw' => ?_) ?_
            rotate_left
            · go_simp; with_reducible rfl
            simp only [Act.put, List.setIfInBounds_toArray, List.set_cons_zero, List.set_cons_succ]
            refine wT (i := 1) (v := ?_) (Gr.road) (some 188) rfl (fun w' hw' => ?_) ?_
            rotate_left
            · go_simp; with_reducible rfl
            simp only [Act.put, List.setIfInBounds_toArray, List.set_cons_zero, List.set_cons_succ]
            refine wT (i := 2) (v := ?_) (Gr.road) (some 189) rfl (fun w' hw' => ?_) ?_
            rotate_left
            · go_simp; with_reducible rfl
            simp only [Act.put, List.setIfInBounds_toArray, List.set_cons_zero, List.set_cons_succ]
            refine wT (i := 3) (v := ?_) (Gr.road) (some 190) rfl (fun w' hw' => ?_) ?_
            rotate_left
            · go_simp; with_reducible rfl
            simp only [Act.put, List.setIfInBounds_toArray, List.set_cons_zero, List.set_cons_succ]
            refine wT (i := 4) (v := ?_) (Gr.road) (some 191) rfl (fun w' hw' => ?_) ?_
            rotate_left
            · have q := blk_cell (j := 2) (blk_below hc7.out.blk hw') rfl; go_simp; with_reducible rfl
            simp only [Act.put, List.setIfInBounds_toArray, List.set_cons_zero, List.set_cons_succ]
            refine wT (i := 5) (v := ?_) (Gr.road) (some 192) rfl (fun w' hw' => ?_) ?_
            rotate_left
            · go_simp; with_reducible rfl
            simp only [Act.put, List.setIfInBounds_toArray, List.set_cons_zero, List.set_cons_succ]
            refine wT (i := 6) (v := ?_) (Gr.road) (some 193) rfl (fun w' hw' => ?_) ?_
            rotate_left
            · have q := blk_cell (j := 1) (blk_below hb7.out hw') rfl; go_simp; with_reducible rfl
            simp only [Act.put, List.setIfInBounds_toArray, List.set_cons_zero, List.set_cons_succ]
            refine wpR_one 7 rfl (by kernel_rfl) (by kernel_rfl) (fun K hK => ?_)
            go_simp
            refine (rwithout_any c.B lo _ w7 hc7.out.bs (by have := hhx.out.1; omega) ny).mono ?_
            rintro e w8 ⟨v8, rfl, ho8, hg8⟩
            refine hK _ _ (fun _ => hg8) ?_
            clear hK K
            obtain ⟨A8, k8, rfl, -, -⟩ := row_form ho8
            generalize hm8 : (delP c.B ny).length = m8 at *
            have hb8 := Lib.hid (blk_below hc7.out.blk hg8)
            have hg8' := Lib.hid hg8
            have ho8' := Lib.hid ho8
            replace hm8 := Lib.hid hm8
            clear hg8 ho8
            try simp only [Act.put, List.setIfInBounds_toArray, List.set_cons_zero, List.set_cons_succ]
            refine wU (i := 8) (v := ?_) (Gr.road) (some 195) rfl (fun w' => ?_) ?_
            rotate_left
            · go_simp; with_reducible rfl
            simp only [Act.put, List.setIfInBounds_toArray, List.set_cons_zero, List.set_cons_succ]
            refine wT (i := 9) (v := ?_) (Gr.road) (some 196) rfl (fun w' hw' => ?_) ?_
            rotate_left
            · go_simp; with_reducible rfl
            simp only [Act.put, List.setIfInBounds_toArray, List.set_cons_zero, List.set_cons_succ]
            refine wpR_one 10 rfl (by kernel_rfl) (by kernel_rfl) (fun K hK => ?_)
            have cc := blk_cell (j := 2) hb8.out rfl
            have ff := blk_free hb8.out 2
            go_simp
            refine hK _ _ (fun h => absurd h (by decide)) ?_
            clear hK K
            clear cc ff
            try simp only [Act.put, List.setIfInBounds_toArray, List.set_cons_zero, List.set_cons_succ]
            refine wpR_done (by kernel_rfl) ?_ _
            have hc8 := hc7.out.gr hg8'.out
            have hfin8 := hc8.setB (B' := delP c.B ny) (v := .slice A8 m8 k8) (by rw [hm8.out]; exact row_more ho8'.out (by have h1 := hc7.out.lg; have h2 := blk_lt hc7.out.blk; omega))
            have hfin9 := hfin8.setG ng
            have hne : N ≠ g := blk_apart2 hb7.out hc7.out.blk (by decide)
            have z9 := blk_cell (j := 2) ((blk_other (w := w8) hne 2 (.slice A8 m8 k8)).trans (blk_below hb7.out hg8'.out)) rfl
            have cc9 := blk_cell (j := 5) hfin8.blk rfl
            have ff9 := blk_free hfin8.blk 5
            have hact : Hid (RcAct lo g y W { c with W := delP c.W ny, E := delP c.E ny, B := delP c.B ny, T := c.T ++ [(ny, ng)], G := ng } ((w8.setCell ⟨g, 2, none⟩ (.slice A8 m8 k8)).setCell ⟨g, 5, none⟩ (.int .i64 ng))) := Lib.hid (RcAct.two hu1.out (fun q hq => .inl (by rcases hq with rfl | hq; (· exact .inl rfl); (· exact .inr hq))) (RcAct.two hu2.out hS2.out ⟨_, Lib.hid hfin9, (Upd.gr_set (hg7.out.trans hg8'.out) (.inl rfl)).trans (Upd.of_grown (blk_grown _ g 5 _) (.inl rfl)), fun q hq => .inl hq⟩))
            replace hfin8 := Lib.hid hfin8
            replace hfin9 := Lib.hid hfin9
            replace hc8 := Lib.hid hc8
            clear hne
            go_wp2_with fail
            go_ret
            exact ⟨by subst hrc; rfl, by subst hrc; exact hfr.out hact.out⟩
          · go_simp
            obtain ⟨g9, hg9e⟩ : ∃ g9, V1.heap.size = g9 := ⟨_, rfl⟩
            obtain ⟨V12, hV9⟩ : ∃ W, W = V1.alloc (.cells #[.string (bs ny), .int .i64 ng] 63) := ⟨_, rfl⟩
            have hr9 : Below B2 V1 V12 := by rw [hV9]; exact (Below.refl _ _).alloc hz1.out _
            have hl9 : Hid (V12.heap[g9]? = some (.cells #[.string (bs ny), .int .i64 ng] 63 (0, 0))) := Lib.hid (by rw [hV9, ← hg9e]; exact heap_alloc_new _ _)
            have hq12 : Hid (Below B2 wd V12) := Lib.hid (hq1.out.trans hr9)
            have hz12 : Hid (B2 ≤ V12.heap.size) := Lib.hid (Nat.le_trans hz1.out hr9.size)
            have hne : Hid (g9 ≠ g0) := Lib.hid (by have := (World.ownsRow.lt ho0.out g0 rfl).2; omega)
            replace ho0 := Lib.hid (row_below ho0.out (show Gr V1 V12 by rw [hV9]; exact Gr.alloc _ _))
            rw [← hV9, hg9e]
            replace hV9 := Lib.hid hV9
            replace hg9e := Lib.hid hg9e
            refine hK _ _ (fun _ => hr9) ?_
            clear hK K
            try simp only [Act.put, List.setIfInBounds_toArray, List.set_cons_zero, List.set_cons_succ]
            refine wpR_one 6 rfl (by kernel_rfl) (by kernel_rfl) (fun K hK => ?_)
            refine wp_appM (.tmp 168) (.tmp 172) rfl lo _ [] rfl ho0.out _ _ c.T rfl ((hRt.out.below hq12.out).more (Nat.le_refl _)) (by have := hLl.out; simp; omega) (Nat.le_trans hlB.out hz12.out) ?_
            intro v7 V6 ho7 hgr7 hlc7
            rw [List.nil_append] at ho7
            have hr7 : Below B2 V12 V6 := (Below.refl _ _).grown hgr7 hz12.out (fun j hj => by injection hj with hj; have hj : g0 = j := hj; rw [← hj]; exact hgB0.out)
            have hown7 : Hid (∀ j, v7.ownBlock = some j → B2 ≤ j) := Lib.hid (fun j hj => by rcases hlc7 with e | e; (· have e2 := e.symm.trans hj; injection e2 with e2; have e2 : g0 = j := e2; rw [← e2]; exact hgB0.out); (· have e2 := e.symm.trans hj; injection e2 with e2; rw [← e2]; exact hz12.out))
            replace hl9 := Lib.hid ((hgr7.block g9 (blk_lt hl9.out) (fun e => hne.out (by injection e))).trans hl9.out)
            replace ho7 := Lib.hid ho7
            have hq6 : Hid (Below B2 wd V6) := Lib.hid (hq12.out.trans hr7)
            have hz6 : Hid (B2 ≤ V6.heap.size) := Lib.hid (Nat.le_trans hz12.out hr7.size)
            refine hK _ _ (fun _ => hr7) ?_
            clear hK K
            clear hgr7 hr7 hlc7
            try simp only [Act.put, List.setIfInBounds_toArray, List.set_cons_zero, List.set_cons_succ]
            refine wpR_one 13 rfl (by kernel_rfl) (by kernel_rfl) (fun K hK => ?_)
            refine wp_appM (.tmp 173) (.tmp 179) rfl lo _ c.T rfl ho7.out _ _ [(ny, ng)] rfl (Reads.blk2 hl9.out) (by have := hLl.out; simp; omega) (Nat.le_trans hlB.out hz6.out) ?_
            intro v8 V13 ho10 hgr10 hlc10
            have hr10 : Below B2 V6 V13 := (Below.refl _ _).grown hgr10 hz6.out hown7.out
            obtain ⟨A10, k10, rfl, -, -⟩ := row_form ho10
            obtain ⟨m10, hm10⟩ : ∃ m, (c.T ++ [(ny, ng)]).length = m := ⟨_, rfl⟩
            replace ho10 := Lib.hid ho10
            rw [hm10]
            have hq13 : Hid (Below B2 wd V13) := Lib.hid (hq6.out.trans hr10)
            have hb10 := Lib.hid ((hq13.out.block g hgB).trans hcd.out.blk)
            refine hK _ _ (fun _ => hr10) ?_
            clear hK K
            clear hgr10 hr10 hlc10
            try simp only [Act.put, List.setIfInBounds_toArray, List.set_cons_zero, List.set_cons_succ]
            refine wU (i := 14) (v := ?_) (⟨fun x => Below.refl _ x, fun h1 h2 => h1.trans h2⟩) (some 181) rfl (fun w' => ?_) ?_
            rotate_left
            · go_simp; with_reducible rfl
            simp only [Act.put, List.setIfInBounds_toArray, List.set_cons_zero, List.set_cons_succ]
            refine wT (i := 15) (v := ?_) (⟨fun x => Below.refl _ x, fun h1 h2 => h1.trans h2⟩) (some 182) rfl (fun w' hw' => ?_) ?_
            rotate_left
            · go_simp; with_reducible rfl
            simp only [Act.put, List.setIfInBounds_toArray, List.set_cons_zero, List.set_cons_succ]
            refine wpR_one 16 rfl (by kernel_rfl) (by kernel_rfl) (fun K hK => ?_)
            have cc3 := blk_cell (j := 3) hb10.out rfl
            have f3 := blk_free hb10.out 3
            go_simp
            refine hK _ _ (fun h => absurd h (by decide)) ?_
            clear hK K
            clear cc3 f3
            skip
            try simp only [Act.put, List.setIfInBounds_toArray, List.set_cons_zero, List.set_cons_succ]
            refine wpR_done (by kernel_rfl) ?_ _
            obtain ⟨WQ, hWQ⟩ : ∃ W, W = V13.setCell ⟨g, 3, none⟩ (.slice A10 m10 k10) := ⟨_, rfl⟩
            rw [← hWQ]
            have hgV : Gr W V13 := hgBB.out _ hq13.out
            have hR1 : Hid (Rc WQ lo g { y with vT := .slice A10 m10 k10 } { c with T := c.T ++ [(ny, ng)] }) := Lib.hid (by rw [hWQ]; exact (hcW.out.gr hgV).setT (T' := c.T ++ [(ny, ng)]) (v := .slice A10 m10 k10) (by rw [← hm10]; exact ho10.out))
            have hu1 : Hid (Upd (y.S g) W WQ) := Lib.hid (by rw [hWQ]; exact Upd.gr_set (S := y.S g) (j := 3) (u := .slice A10 m10 k10) hgV (.inl rfl))
            have hT1 : Hid ((c.T ++ [(ny, ng)]).length ≤ 1000) := Lib.hid (by rw [List.length_append]; have := hhx.out.2; simp; omega)
            have hv1 : Hid ((RcX.mk y.vW y.vH y.vB (.slice A10 m10 k10) y.vR y.E).vW = y.vW) := Lib.hid rfl
            replace hWQ := Lib.hid hWQ
            clear hgV hm10
            have hdr := Lib.hid (rdrop_any2 lo g { y with vT := Value.slice A10 m10 k10 } { c with T := c.T ++ [(ny, ng)] } WQ hR1 (few2 hf _ hT1.out) hok.dW hok.rE hok.ap (fun e he => (hok.okE e he).1) ny)
            have hbQ := Lib.hid (hcW.out.other hu1.out hbB.out (by decide) (by decide))
            have zq1 := blk_cell (j := 1) hbQ.out rfl
            go_upto_region 27 with (go_at_call 23; go_must (refine hdr.out.mono ?_); clear hdr; rintro e w1 ⟨rfl, y2, hc2, hu2, hS2⟩)
            clear zq1
            have hb1 := Lib.hid (hR1.out.other hu2 hbQ.out (by decide) (by decide))
            obtain ⟨w7, hw7⟩ : ∃ w7, w7 = w1.drew := ⟨_, rfl⟩
            have hg7 : Gr w1 w7 := by rw [hw7]; exact (Below.refl _ _).drew
            have hc7 := Lib.hid (hc2.out.gr hg7)
            have hb7 := Lib.hid (blk_below hb1.out hg7)
            replace hg7 := Lib.hid hg7
            replace hu2 := Lib.hid hu2
            replace hS2 := Lib.hid hS2
            refine wpR_region (Gr) 10 (by kernel_rfl) ?_
            (rw [← hw7]; replace hw7 := Lib.hid hw7)
            refine wT (i := 0) (v := ?_) (Gr.road) (some 187) rfl (fun w' hw' => ?_) ?_
            rotate_left
            · go_simp; with_reducible rfl
            simp only [Act.put, List.setIfInBounds_toArray, List.set_cons_zero, List.set_cons_succ]
            refine wT (i := 1) (v := ?_) (Gr.road) (some 188) rfl (fun w' hw' => ?_) ?_
            rotate_left
            · go_simp; with_reducible rfl
            simp only [Act.put, List.setIfInBounds_toArray, List.set_cons_zero, List.set_cons_succ]
            refine wT (i := 2) (v := ?_) (Gr.road) (some 189) rfl (fun w' hw' => ?_) ?_
            rotate_left
            · go_simp; with_reducible rfl
            simp only [Act.put, List.setIfInBounds_toArray, List.set_cons_zero, List.set_cons_succ]
            refine wT (i := 3) (v := ?_) (Gr.road) (some 190) rfl (fun w' hw' => ?_) ?_
            rotate_left
            · go_simp; with_reducible rfl
            simp only [Act.put, List.setIfInBounds_toArray, List.set_cons_zero, List.set_cons_succ]
            refine wT (i := 4) (v := ?_) (Gr.road) (some 191) rfl (fun w' hw' => ?_) ?_
            rotate_left
            · have q := blk_cell (j := 2) (blk_below hc7.out.blk hw') rfl; go_simp; with_reducible rfl
            simp only [Act.put, List.setIfInBounds_toArray, List.set_cons_zero, List.set_cons_succ]
            refine wT (i := 5) (v := ?_) (Gr.road) (some 192) rfl (fun w' hw' => ?_) ?_
            rotate_left
            · go_simp; with_reducible rfl
            simp only [Act.put, List.setIfInBounds_toArray, List.set_cons_zero, List.set_cons_succ]
            refine wT (i := 6) (v := ?_) (Gr.road) (some 193) rfl (fun w' hw' => ?_) ?_
            rotate_left
            · have q := blk_cell (j := 1) (blk_below hb7.out hw') rfl; go_simp; with_reducible rfl
            simp only [Act.put, List.setIfInBounds_toArray, List.set_cons_zero, List.set_cons_succ]
            refine wpR_one 7 rfl (by kernel_rfl) (by kernel_rfl) (fun K hK => ?_)
            go_simp
            refine (rwithout_any c.B lo _ w7 hc7.out.bs (by have := hhx.out.1; omega) ny).mono ?_
            rintro e w8 ⟨v8, rfl, ho8, hg8⟩
            refine hK _ _ (fun _ => hg8) ?_
            clear hK K
            obtain ⟨A8, k8, rfl, -, -⟩ := row_form ho8
            generalize hm8 : (delP c.B ny).length = m8 at *
            have hb8 := Lib.hid (blk_below hc7.out.blk hg8)
            have hg8' := Lib.hid hg8
            have ho8' := Lib.hid ho8
            replace hm8 := Lib.hid hm8
            clear hg8 ho8
            try simp only [Act.put, List.setIfInBounds_toArray, List.set_cons_zero, List.set_cons_succ]
            refine wU (i := 8) (v := ?_) (Gr.road) (some 195) rfl (fun w' => ?_) ?_
            rotate_left
            · go_simp; with_reducible rfl
            simp only [Act.put, List.setIfInBounds_toArray, List.set_cons_zero, List.set_cons_succ]
            refine wT (i := 9) (v := ?_) (Gr.road) (some 196) rfl (fun w' hw' => ?_) ?_
            rotate_left
            · go_simp; with_reducible rfl
            simp only [Act.put, List.setIfInBounds_toArray, List.set_cons_zero, List.set_cons_succ]
            refine wpR_one 10 rfl (by kernel_rfl) (by kernel_rfl) (fun K hK => ?_)
            have cc := blk_cell (j := 2) hb8.out rfl
            have ff := blk_free hb8.out 2
            go_simp
            refine hK _ _ (fun h => absurd h (by decide)) ?_
            clear hK K
            clear cc ff
            try simp only [Act.put, List.setIfInBounds_toArray, List.set_cons_zero, List.set_cons_succ]
            refine wpR_done (by kernel_rfl) ?_ _
            have hc8 := hc7.out.gr hg8'.out
            have hfin8 := hc8.setB (B' := delP c.B ny) (v := .slice A8 m8 k8) (by rw [hm8.out]; exact row_more ho8'.out (by have h1 := hc7.out.lg; have h2 := blk_lt hc7.out.blk; omega))
            have hfin9 := hfin8.setG ng
            have hne : N ≠ g := blk_apart2 hb7.out hc7.out.blk (by decide)
            have z9 := blk_cell (j := 2) ((blk_other (w := w8) hne 2 (.slice A8 m8 k8)).trans (blk_below hb7.out hg8'.out)) rfl
            have cc9 := blk_cell (j := 5) hfin8.blk rfl
            have ff9 := blk_free hfin8.blk 5
            have hact : Hid (RcAct lo g y W { c with W := delP c.W ny, E := delP c.E ny, B := delP c.B ny, T := c.T ++ [(ny, ng)], G := ng } ((w8.setCell ⟨g, 2, none⟩ (.slice A8 m8 k8)).setCell ⟨g, 5, none⟩ (.int .i64 ng))) := Lib.hid (RcAct.two hu1.out (fun q hq => .inl (by rcases hq with rfl | hq; (· exact .inl rfl); (· exact .inr hq))) (RcAct.two hu2.out hS2.out ⟨_, Lib.hid hfin9, (Upd.gr_set (hg7.out.trans hg8'.out) (.inl rfl)).trans (Upd.of_grown (blk_grown _ g 5 _) (.inl rfl)), fun q hq => .inl hq⟩))
            replace hfin8 := Lib.hid hfin8
            replace hfin9 := Lib.hid hfin9
            replace hc8 := Lib.hid hc8
            clear hne
            go_wp2_with fail
            go_ret
            exact ⟨by subst hrc; rfl, by subst hrc; exact hfr.out hact.out⟩
        · go_simp
          obtain ⟨g9, hg9e⟩ : ∃ g9, wd.heap.size = g9 := ⟨_, rfl⟩
          obtain ⟨V12, hV9⟩ : ∃ W, W = wd.alloc (.cells #[.string (bs ny), .int .i64 ng] 63) := ⟨_, rfl⟩
          have hr9 : Below B2 wd V12 := by rw [hV9]; exact (Below.refl _ _).alloc hzd.out _
          have hl9 : Hid (V12.heap[g9]? = some (.cells #[.string (bs ny), .int .i64 ng] 63 (0, 0))) := Lib.hid (by rw [hV9, ← hg9e]; exact heap_alloc_new _ _)
          have hq12 : Hid (Below B2 wd V12) := Lib.hid (hqd.out.trans hr9)
          have hz12 : Hid (B2 ≤ V12.heap.size) := Lib.hid (Nat.le_trans hzd.out hr9.size)
          rw [← hV9, hg9e]
          replace hV9 := Lib.hid hV9
          replace hg9e := Lib.hid hg9e
          refine hK _ _ (fun _ => hr9) ?_
          clear hK K
          try simp only [Act.put, List.setIfInBounds_toArray, List.set_cons_zero, List.set_cons_succ]
          refine wpR_one 1 rfl (by kernel_rfl) (by kernel_rfl) (fun K hK => ?_)
          go_simp
          obtain ⟨g0, hg0e⟩ : ∃ g0, V12.heap.size = g0 := ⟨_, rfl⟩
          obtain ⟨V1, hV0⟩ : ∃ W, W = V12.alloc (.cells #[] 63) := ⟨_, rfl⟩
          have hr0 : Below B2 V12 V1 := by rw [hV0]; exact (Below.refl _ _).alloc hz12.out _
          have ho0 : Hid (V1.ownsRow lo 63 2 (.slice (some ⟨g0, 0, none⟩) 0 0) ([] : List (By × Int)).length (flatT [])) := Lib.hid (by rw [hV0, ← hg0e]; exact World.ownsRow_made _ #[] 0 (Nat.le_trans hlB.out hz12.out) (by simp [maxLen]) rfl)
          have hgB0 : Hid (B2 ≤ g0) := Lib.hid (by rw [← hg0e]; exact hz12.out)
          have hq1 : Hid (Below B2 wd V1) := Lib.hid (hq12.out.trans hr0)
          have hz1 : Hid (B2 ≤ V1.heap.size) := Lib.hid (Nat.le_trans hz12.out hr0.size)
          have hne : Hid (g9 ≠ g0) := Lib.hid (by have := blk_lt hl9.out; omega)
          replace hl9 := Lib.hid (blk_below hl9.out (show Below V12.heap.size V12 V1 by rw [hV0]; exact Gr.alloc _ _))
          rw [← hV0, hg0e]
          replace hV0 := Lib.hid hV0
          replace hg0e := Lib.hid hg0e
          refine hK _ _ (fun _ => hr0) ?_
          clear hK K
          try simp only [Act.put, List.setIfInBounds_toArray, List.set_cons_zero, List.set_cons_succ]
          refine wpR_one 6 rfl (by kernel_rfl) (by kernel_rfl) (fun K hK => ?_)
          refine wp_appM (.tmp 168) (.tmp 172) rfl lo _ [] rfl ho0.out _ _ c.T rfl ((hRt.out.below hq1.out).more (Nat.le_refl _)) (by have := hLl.out; simp; omega) (Nat.le_trans hlB.out hz1.out) ?_
          intro v7 V6 ho7 hgr7 hlc7
          rw [List.nil_append] at ho7
          have hr7 : Below B2 V1 V6 := (Below.refl _ _).grown hgr7 hz1.out (fun j hj => by injection hj with hj; have hj : g0 = j := hj; rw [← hj]; exact hgB0.out)
          have hown7 : Hid (∀ j, v7.ownBlock = some j → B2 ≤ j) := Lib.hid (fun j hj => by rcases hlc7 with e | e; (· have e2 := e.symm.trans hj; injection e2 with e2; have e2 : g0 = j := e2; rw [← e2]; exact hgB0.out); (· have e2 := e.symm.trans hj; injection e2 with e2; rw [← e2]; exact hz1.out))
          replace hl9 := Lib.hid ((hgr7.block g9 (blk_lt hl9.out) (fun e => hne.out (by injection e))).trans hl9.out)
          replace ho7 := Lib.hid ho7
          have hq6 : Hid (Below B2 wd V6) := Lib.hid (hq1.out.trans hr7)
          have hz6 : Hid (B2 ≤ V6.heap.size) := Lib.hid (Nat.le_trans hz1.out hr7.size)
          refine hK _ _ (fun _ => hr7) ?_
          clear hK K
          clear hgr7 hr7 hlc7
          try simp only [Act.put, List.setIfInBounds_toArray, List.set_cons_zero, List.set_cons_succ]
          refine wpR_one 13 rfl (by kernel_rfl) (by kernel_rfl) (fun K hK => ?_)
          refine wp_appM (.tmp 173) (.tmp 179) rfl lo _ c.T rfl ho7.out _ _ [(ny, ng)] rfl (Reads.blk2 hl9.out) (by have := hLl.out; simp; omega) (Nat.le_trans hlB.out hz6.out) ?_
          intro v8 V13 ho10 hgr10 hlc10
          have hr10 : Below B2 V6 V13 := (Below.refl _ _).grown hgr10 hz6.out hown7.out
          obtain ⟨A10, k10, rfl, -, -⟩ := row_form ho10
          obtain ⟨m10, hm10⟩ : ∃ m, (c.T ++ [(ny, ng)]).length = m := ⟨_, rfl⟩
          replace ho10 := Lib.hid ho10
          rw [hm10]
          have hq13 : Hid (Below B2 wd V13) := Lib.hid (hq6.out.trans hr10)
          have hb10 := Lib.hid ((hq13.out.block g hgB).trans hcd.out.blk)
          refine hK _ _ (fun _ => hr10) ?_
          clear hK K
          clear hgr10 hr10 hlc10
          try simp only [Act.put, List.setIfInBounds_toArray, List.set_cons_zero, List.set_cons_succ]
          refine wU (i := 14) (v := ?_) (⟨fun x => Below.refl _ x, fun h1 h2 => h1.trans h2⟩) (some 181) rfl (fun w' => ?_) ?_
          rotate_left
          · go_simp; with_reducible rfl
          simp only [Act.put, List.setIfInBounds_toArray, List.set_cons_zero, List.set_cons_succ]
          refine wT (i := 15) (v := ?_) (⟨fun x => Below.refl _ x, fun h1 h2 => h1.trans h2⟩) (some 182) rfl (fun w' hw' => ?_) ?_
          rotate_left
          · go_simp; with_reducible rfl
          simp only [Act.put, List.setIfInBounds_toArray, List.set_cons_zero, List.set_cons_succ]
          refine wpR_one 16 rfl (by kernel_rfl) (by kernel_rfl) (fun K hK => ?_)
          have cc3 := blk_cell (j := 3) hb10.out rfl
          have f3 := blk_free hb10.out 3
          go_simp
          refine hK _ _ (fun h => absurd h (by decide)) ?_
          clear hK K
          clear cc3 f3
          skip
          try simp only [Act.put, List.setIfInBounds_toArray, List.set_cons_zero, List.set_cons_succ]
          refine wpR_done (by kernel_rfl) ?_ _
          obtain ⟨WQ, hWQ⟩ : ∃ W, W = V13.setCell ⟨g, 3, none⟩ (.slice A10 m10 k10) := ⟨_, rfl⟩
          rw [← hWQ]
          have hgV : Gr W V13 := hgBB.out _ hq13.out
          have hR1 : Hid (Rc WQ lo g { y with vT := .slice A10 m10 k10 } { c with T := c.T ++ [(ny, ng)] }) := Lib.hid (by rw [hWQ]; exact (hcW.out.gr hgV).setT (T' := c.T ++ [(ny, ng)]) (v := .slice A10 m10 k10) (by rw [← hm10]; exact ho10.out))
          have hu1 : Hid (Upd (y.S g) W WQ) := Lib.hid (by rw [hWQ]; exact Upd.gr_set (S := y.S g) (j := 3) (u := .slice A10 m10 k10) hgV (.inl rfl))
          have hT1 : Hid ((c.T ++ [(ny, ng)]).length ≤ 1000) := Lib.hid (by rw [List.length_append]; have := hhx.out.2; simp; omega)
          have hv1 : Hid ((RcX.mk y.vW y.vH y.vB (.slice A10 m10 k10) y.vR y.E).vW = y.vW) := Lib.hid rfl
          replace hWQ := Lib.hid hWQ
          clear hgV hm10
          have hdr := Lib.hid (rdrop_any2 lo g { y with vT := Value.slice A10 m10 k10 } { c with T := c.T ++ [(ny, ng)] } WQ hR1 (few2 hf _ hT1.out) hok.dW hok.rE hok.ap (fun e he => (hok.okE e he).1) ny)
          have hbQ := Lib.hid (hcW.out.other hu1.out hbB.out (by decide) (by decide))
          have zq1 := blk_cell (j := 1) hbQ.out rfl
          go_upto_region 27 with (go_at_call 23; go_must (refine hdr.out.mono ?_); clear hdr; rintro e w1 ⟨rfl, y2, hc2, hu2, hS2⟩)
          clear zq1
          have hb1 := Lib.hid (hR1.out.other hu2 hbQ.out (by decide) (by decide))
          obtain ⟨w7, hw7⟩ : ∃ w7, w7 = w1.drew := ⟨_, rfl⟩
          have hg7 : Gr w1 w7 := by rw [hw7]; exact (Below.refl _ _).drew
          have hc7 := Lib.hid (hc2.out.gr hg7)
          have hb7 := Lib.hid (blk_below hb1.out hg7)
          replace hg7 := Lib.hid hg7
          replace hu2 := Lib.hid hu2
          replace hS2 := Lib.hid hS2
          refine wpR_region (Gr) 10 (by kernel_rfl) ?_
          (rw [← hw7]; replace hw7 := Lib.hid hw7)
          refine wT (i := 0) (v := ?_) (Gr.road) (some 187) rfl (fun w' hw' => ?_) ?_
          rotate_left
          · go_simp; with_reducible rfl
          simp only [Act.put, List.setIfInBounds_toArray, List.set_cons_zero, List.set_cons_succ]
          refine wT (i := 1) (v := ?_) (Gr.road) (some 188) rfl (fun w' hw' => ?_) ?_
          rotate_left
          · go_simp; with_reducible rfl
          simp only [Act.put, List.setIfInBounds_toArray, List.set_cons_zero, List.set_cons_succ]
          refine wT (i := 2) (v := ?_) (Gr.road) (some 189) rfl (fun w' hw' => ?_) ?_
          rotate_left
          · go_simp; with_reducible rfl
          simp only [Act.put, List.setIfInBounds_toArray, List.set_cons_zero, List.set_cons_succ]
          refine wT (i := 3) (v := ?_) (Gr.road) (some 190) rfl (fun w' hw' => ?_) ?_
          rotate_left
          · go_simp; with_reducible rfl
          simp only [Act.put, List.setIfInBounds_toArray, List.set_cons_zero, List.set_cons_succ]
          refine wT (i := 4) (v := ?_) (Gr.road) (some 191) rfl (fun w' hw' => ?_) ?_
          rotate_left
          · have q := blk_cell (j := 2) (blk_below hc7.out.blk hw') rfl; go_simp; with_reducible rfl
          simp only [Act.put, List.setIfInBounds_toArray, List.set_cons_zero, List.set_cons_succ]
          refine wT (i := 5) (v := ?_) (Gr.road) (some 192) rfl (fun w' hw' => ?_) ?_
          rotate_left
          · go_simp; with_reducible rfl
          simp only [Act.put, List.setIfInBounds_toArray, List.set_cons_zero, List.set_cons_succ]
          refine wT (i := 6) (v := ?_) (Gr.road) (some 193) rfl (fun w' hw' => ?_) ?_
          rotate_left
          · have q := blk_cell (j := 1) (blk_below hb7.out hw') rfl; go_simp; with_reducible rfl
          simp only [Act.put, List.setIfInBounds_toArray, List.set_cons_zero, List.set_cons_succ]
          refine wpR_one 7 rfl (by kernel_rfl) (by kernel_rfl) (fun K hK => ?_)
          go_simp
          refine (rwithout_any c.B lo _ w7 hc7.out.bs (by have := hhx.out.1; omega) ny).mono ?_
          rintro e w8 ⟨v8, rfl, ho8, hg8⟩
          refine hK _ _ (fun _ => hg8) ?_
          clear hK K
          obtain ⟨A8, k8, rfl, -, -⟩ := row_form ho8
          generalize hm8 : (delP c.B ny).length = m8 at *
          have hb8 := Lib.hid (blk_below hc7.out.blk hg8)
          have hg8' := Lib.hid hg8
          have ho8' := Lib.hid ho8
          replace hm8 := Lib.hid hm8
          clear hg8 ho8
          try simp only [Act.put, List.setIfInBounds_toArray, List.set_cons_zero, List.set_cons_succ]
          refine wU (i := 8) (v := ?_) (Gr.road) (some 195) rfl (fun w' => ?_) ?_
          rotate_left
          · go_simp; with_reducible rfl
          simp only [Act.put, List.setIfInBounds_toArray, List.set_cons_zero, List.set_cons_succ]
          refine wT (i := 9) (v := ?_) (Gr.road) (some 196) rfl (fun w' hw' => ?_) ?_
          rotate_left
          · go_simp; with_reducible rfl
          simp only [Act.put, List.setIfInBounds_toArray, List.set_cons_zero, List.set_cons_succ]
          refine wpR_one 10 rfl (by kernel_rfl) (by kernel_rfl) (fun K hK => ?_)
          have cc := blk_cell (j := 2) hb8.out rfl
          have ff := blk_free hb8.out 2
          go_simp
          refine hK _ _ (fun h => absurd h (by decide)) ?_
          clear hK K
          clear cc ff
          try simp only [Act.put, List.setIfInBounds_toArray, List.set_cons_zero, List.set_cons_succ]
          refine wpR_done (by kernel_rfl) ?_ _
          have hc8 := hc7.out.gr hg8'.out
          have hfin8 := hc8.setB (B' := delP c.B ny) (v := .slice A8 m8 k8) (by rw [hm8.out]; exact row_more ho8'.out (by have h1 := hc7.out.lg; have h2 := blk_lt hc7.out.blk; omega))
          have hfin9 := hfin8.setG ng
          have hne : N ≠ g := blk_apart2 hb7.out hc7.out.blk (by decide)
          have z9 := blk_cell (j := 2) ((blk_other (w := w8) hne 2 (.slice A8 m8 k8)).trans (blk_below hb7.out hg8'.out)) rfl
          have cc9 := blk_cell (j := 5) hfin8.blk rfl
          have ff9 := blk_free hfin8.blk 5
          have hact : Hid (RcAct lo g y W { c with W := delP c.W ny, E := delP c.E ny, B := delP c.B ny, T := c.T ++ [(ny, ng)], G := ng } ((w8.setCell ⟨g, 2, none⟩ (.slice A8 m8 k8)).setCell ⟨g, 5, none⟩ (.int .i64 ng))) := Lib.hid (RcAct.two hu1.out (fun q hq => .inl (by rcases hq with rfl | hq; (· exact .inl rfl); (· exact .inr hq))) (RcAct.two hu2.out hS2.out ⟨_, Lib.hid hfin9, (Upd.gr_set (hg7.out.trans hg8'.out) (.inl rfl)).trans (Upd.of_grown (blk_grown _ g 5 _) (.inl rfl)), fun q hq => .inl hq⟩))
          replace hfin8 := Lib.hid hfin8
          replace hfin9 := Lib.hid hfin9
          replace hc8 := Lib.hid hc8
          clear hne
          go_wp2_with fail
          go_ret
          exact ⟨by subst hrc; rfl, by subst hrc; exact hfr.out hact.out⟩
      | false =>
        rw [idxP_no hE] at his
        cases hB : hasP c.B ny with
        | true =>
          rw [if_pos (.inr hB)] at hrc
          have hgt : 0 < getP c.B ny 0 := hgp.out.mpr hB
          obtain ⟨zb, hzb⟩ : ∃ z, getP c.B ny 0 = z := ⟨_, rfl⟩
          rw [hzb] at hbg hgt
          replace hE := Lib.hid hE
          replace hB := Lib.hid hB
          replace hzb := Lib.hid hzb
          go_upto_region 25 with (first
            | (go_at_call 14; go_must (refine his.out.mono ?_); clear his; rintro e w' ⟨rfl, hww⟩; rw [hww]; clear hww w')
            | (go_at_call 25; go_must (refine hbg.out.mono ?_); clear hbg; rintro e w' ⟨rfl, hww⟩; rw [hww]; clear hww w'))
          obtain ⟨AT, cT, hvT, -, -⟩ := row_form hcW.out.ts
          obtain ⟨nT, hnT⟩ : ∃ m, c.T.length = m := ⟨_, rfl⟩
          rw [hnT] at hvT
          obtain ⟨wd, hwd⟩ : ∃ wd, wd = W.drew := ⟨_, rfl⟩
          have hgd : Gr W wd := by rw [hwd]; exact (Below.refl _ _).drew
          have hcd := Lib.hid (hcW.out.gr hgd)
          have hbd := Lib.hid (blk_below hbB.out hgd)
          obtain ⟨B2, hB2⟩ : ∃ b, wd.heap.size = b := ⟨_, rfl⟩
          have hgB : g < B2 := by rw [← hB2]; exact blk_lt hcd.out.blk
          have hqd : Hid (Below B2 wd wd) := Lib.hid (Below.refl _ _)
          have hzd : Hid (B2 ≤ wd.heap.size) := Lib.hid (by rw [hB2]; exact Nat.le_refl _)
          have hlB : Hid (lo ≤ B2) := Lib.hid (by have := hcd.out.lg; omega)
          have hgBB : Hid (∀ q, Below B2 wd q → Gr W q) := Lib.hid (fun q h1 => Gr.trans hgd (by unfold Gr; rw [hB2]; exact h1))
          replace hgd := Lib.hid hgd
          replace hB2 := Lib.hid hB2
          have hRt : Hid (Reads wd B2 2 AT nT (flatT c.T)) := Lib.hid (by have := hcd.out.ts; rw [hvT, hnT] at this; have h2 := Reads.of_own this; rw [hB2.out] at h2; exact h2)
          have hLl : Hid (c.T.length ≤ 1000) := Lib.hid (by have := hhx.out.2; omega)
          replace hvT := Lib.hid hvT
          replace hnT := Lib.hid hnT
          refine wpR_region (Below B2) 16 (by kernel_rfl) ?_
          (rw [← hwd]; replace hwd := Lib.hid hwd)
          refine wT (i := 0) (v := ?_) (⟨fun x => Below.refl _ x, fun h1 h2 => h1.trans h2⟩) (some 167) rfl (fun w' hw' => ?_) ?_
          rotate_left
          · go_simp; with_reducible rfl
          simp only [Act.put, List.setIfInBounds_toArray, List.set_cons_zero, List.set_cons_succ]
          refine wT (i := 2) (v := ?_) (⟨fun x => Below.refl _ x, fun h1 h2 => h1.trans h2⟩) (some 169) rfl (fun w' hw' => ?_) ?_
          rotate_left
          · go_simp; with_reducible rfl
          simp only [Act.put, List.setIfInBounds_toArray, List.set_cons_zero, List.set_cons_succ]
          refine wT (i := 3) (v := ?_) (⟨fun x => Below.refl _ x, fun h1 h2 => h1.trans h2⟩) (some 170) rfl (fun w' hw' => ?_) ?_
          rotate_left
          · go_simp; with_reducible rfl
          simp only [Act.put, List.setIfInBounds_toArray, List.set_cons_zero, List.set_cons_succ]
          refine wT (i := 4) (v := ?_) (⟨fun x => Below.refl _ x, fun h1 h2 => h1.trans h2⟩) (some 171) rfl (fun w' hw' => ?_) ?_
          rotate_left
          · go_simp; with_reducible rfl
          simp only [Act.put, List.setIfInBounds_toArray, List.set_cons_zero, List.set_cons_succ]
          refine wT (i := 5) (v := ?_) (⟨fun x => Below.refl _ x, fun h1 h2 => h1.trans h2⟩) (some 172) rfl (fun w' hw' => ?_) ?_
          rotate_left
          · have q := blk_cell (j := 3) ((hw'.block g hgB).trans hcd.out.blk) rfl; rw [hvT.out] at q; go_simp; with_reducible rfl
          simp only [Act.put, List.setIfInBounds_toArray, List.set_cons_zero, List.set_cons_succ]
          refine wT (i := 7) (v := ?_) (⟨fun x => Below.refl _ x, fun h1 h2 => h1.trans h2⟩) (some 174) rfl (fun w' hw' => ?_) ?_
          rotate_left
          · go_simp; with_reducible rfl
          simp only [Act.put, List.setIfInBounds_toArray, List.set_cons_zero, List.set_cons_succ]
          refine wT (i := 8) (v := ?_) (⟨fun x => Below.refl _ x, fun h1 h2 => h1.trans h2⟩) (some 175) rfl (fun w' hw' => ?_) ?_
          rotate_left
          · have q1 := blk_cell (j := 1) ((hw'.block N (by rw [← hB2.out]; exact blk_lt hbd.out)).trans hbd.out) rfl; go_simp; with_reducible rfl
          simp only [Act.put, List.setIfInBounds_toArray, List.set_cons_zero, List.set_cons_succ]
          refine wT (i := 9) (v := ?_) (⟨fun x => Below.refl _ x, fun h1 h2 => h1.trans h2⟩) (some 176) rfl (fun w' hw' => ?_) ?_
          rotate_left
          · go_simp; with_reducible rfl
          simp only [Act.put, List.setIfInBounds_toArray, List.set_cons_zero, List.set_cons_succ]
          refine wT (i := 10) (v := ?_) (⟨fun x => Below.refl _ x, fun h1 h2 => h1.trans h2⟩) (some 177) rfl (fun w' hw' => ?_) ?_
          rotate_left
          · have q2 := blk_cell (j := 2) ((hw'.block N (by rw [← hB2.out]; exact blk_lt hbd.out)).trans hbd.out) rfl; go_simp; with_reducible rfl
          simp only [Act.put, List.setIfInBounds_toArray, List.set_cons_zero, List.set_cons_succ]
          refine wT (i := 11) (v := ?_) (⟨fun x => Below.refl _ x, fun h1 h2 => h1.trans h2⟩) (some 178) rfl (fun w' hw' => ?_) ?_
          rotate_left
          · go_simp; with_reducible rfl
          simp only [Act.put, List.setIfInBounds_toArray, List.set_cons_zero, List.set_cons_succ]
          refine wpR_two 1 12 rfl rfl (by kernel_rfl) (by kernel_rfl) (by kernel_rfl) (fun K hK => ?_) (fun K hK => ?_)
          · go_simp
            obtain ⟨g0, hg0e⟩ : ∃ g0, wd.heap.size = g0 := ⟨_, rfl⟩
            obtain ⟨V1, hV0⟩ : ∃ W, W = wd.alloc (.cells #[] 63) := ⟨_, rfl⟩
            have hr0 : Below B2 wd V1 := by rw [hV0]; exact (Below.refl _ _).alloc hzd.out _
            have ho0 : Hid (V1.ownsRow lo 63 2 (.slice (some ⟨g0, 0, none⟩) 0 0) ([] : List (By × Int)).length (flatT [])) := Lib.hid (by rw [hV0, ← hg0e]; exact World.ownsRow_made _ #[] 0 (Nat.le_trans hlB.out hzd.out) (by simp [maxLen]) rfl)
            have hgB0 : Hid (B2 ≤ g0) := Lib.hid (by rw [← hg0e]; exact hzd.out)
            have hq1 : Hid (Below B2 wd V1) := Lib.hid (hqd.out.trans hr0)
            have hz1 : Hid (B2 ≤ V1.heap.size) := Lib.hid (Nat.le_trans hzd.out hr0.size)
            rw [← hV0, hg0e]
            replace hV0 := Lib.hid hV0
            replace hg0e := Lib.hid hg0e
            refine hK _ _ (fun _ => hr0) ?_
            clear hK K
            try simp only [Act.put, List.setIfInBounds_toArray, List.set_cons_zero, List.set_cons_succ]
            refine wpR_two 6 12 rfl rfl (by kernel_rfl) (by kernel_rfl) (by kernel_rfl) (fun K hK => ?_) (fun K hK => ?_)
            · refine wp_appM (.tmp 168) (.tmp 172) rfl lo _ [] rfl ho0.out _ _ c.T rfl ((hRt.out.below hq1.out).more (Nat.le_refl _)) (by have := hLl.out; simp; omega) (Nat.le_trans hlB.out hz1.out) ?_
              intro v7 V6 ho7 hgr7 hlc7
              rw [List.nil_append] at ho7
              have hr7 : Below B2 V1 V6 := (Below.refl _ _).grown hgr7 hz1.out (fun j hj => by injection hj with hj; have hj : g0 = j := hj; rw [← hj]; exact hgB0.out)
              have hown7 : Hid (∀ j, v7.ownBlock = some j → B2 ≤ j) := Lib.hid (fun j hj => by rcases hlc7 with e | e; (· have e2 := e.symm.trans hj; injection e2 with e2; have e2 : g0 = j := e2; rw [← e2]; exact hgB0.out); (· have e2 := e.symm.trans hj; injection e2 with e2; rw [← e2]; exact hz1.out))
              replace ho7 := Lib.hid ho7
              have hq6 : Hid (Below B2 wd V6) := Lib.hid (hq1.out.trans hr7)
              have hz6 : Hid (B2 ≤ V6.heap.size) := Lib.hid (Nat.le_trans hz1.out hr7.size)
              refine hK _ _ (fun _ => hr7) ?_
              clear hK K
              clear hgr7 hr7 hlc7
              try simp only [Act.put, List.setIfInBounds_toArray, List.set_cons_zero, List.set_cons_succ]
              refine wpR_one 12 rfl (by kernel_rfl) (by kernel_rfl) (fun K hK => ?_)
              go_simp
              obtain ⟨g9, hg9e⟩ : ∃ g9, V6.heap.size = g9 := ⟨_, rfl⟩
              obtain ⟨V12, hV9⟩ : ∃ W, W = V6.alloc (.cells #[.string (bs ny), .int .i64 ng] 63) := ⟨_, rfl⟩
              have hr9 : Below B2 V6 V12 := by rw [hV9]; exact (Below.refl _ _).alloc hz6.out _
              have hl9 : Hid (V12.heap[g9]? = some (.cells #[.string (bs ny), .int .i64 ng] 63 (0, 0))) := Lib.hid (by rw [hV9, ← hg9e]; exact heap_alloc_new _ _)
              have hq12 : Hid (Below B2 wd V12) := Lib.hid (hq6.out.trans hr9)
              have hz12 : Hid (B2 ≤ V12.heap.size) := Lib.hid (Nat.le_trans hz6.out hr9.size)
              replace ho7 := Lib.hid (row_below ho7.out (show Gr V6 V12 by rw [hV9]; exact Gr.alloc _ _))
              rw [← hV9, hg9e]
              replace hV9 := Lib.hid hV9
              replace hg9e := Lib.hid hg9e
              refine hK _ _ (fun _ => hr9) ?_
              clear hK K
              try simp only [Act.put, List.setIfInBounds_toArray, List.set_cons_zero, List.set_cons_succ]
              refine wpR_one 13 rfl (by kernel_rfl) (by kernel_rfl) (fun K hK => ?_)
              refine wp_appM (.tmp 173) (.tmp 179) rfl lo _ c.T rfl ho7.out _ _ [(ny, ng)] rfl (Reads.blk2 hl9.out) (by have := hLl.out; simp; omega) (Nat.le_trans hlB.out hz12.out) ?_
              intro v8 V13 ho10 hgr10 hlc10
              have hr10 : Below B2 V12 V13 := (Below.refl _ _).grown hgr10 hz12.out hown7.out
              obtain ⟨A10, k10, rfl, -, -⟩ := row_form ho10
              obtain ⟨m10, hm10⟩ : ∃ m, (c.T ++ [(ny, ng)]).length = m := ⟨_, rfl⟩
              replace ho10 := Lib.hid ho10
              rw [hm10]
              have hq13 : Hid (Below B2 wd V13) := Lib.hid (hq12.out.trans hr10)
              have hb10 := Lib.hid ((hq13.out.block g hgB).trans hcd.out.blk)
              refine hK _ _ (fun _ => hr10) ?_
              clear hK K
              clear hgr10 hr10 hlc10
              try simp only [Act.put, List.setIfInBounds_toArray, List.set_cons_zero, List.set_cons_succ]
              refine wU (i := 14) (v := ?_) (⟨fun x => Below.refl _ x, fun h1 h2 => h1.trans h2⟩) (some 181) rfl (fun w' => ?_) ?_
              rotate_left
              · go_simp; with_reducible rfl
              simp only [Act.put, List.setIfInBounds_toArray, List.set_cons_zero, List.set_cons_succ]
              refine wT (i := 15) (v := ?_) (⟨fun x => Below.refl _ x, fun h1 h2 => h1.trans h2⟩) (some 182) rfl (fun w' hw' => ?_) ?_
              rotate_left
              · go_simp; with_reducible rfl
              simp only [Act.put, List.setIfInBounds_toArray, List.set_cons_zero, List.set_cons_succ]
              refine wpR_one 16 rfl (by kernel_rfl) (by kernel_rfl) (fun K hK => ?_)
              have cc3 := blk_cell (j := 3) hb10.out rfl
              have f3 := blk_free hb10.out 3
              go_simp
              refine hK _ _ (fun h => absurd h (by decide)) ?_
              clear hK K
              clear cc3 f3
              skip
              try simp only [Act.put, List.setIfInBounds_toArray, List.set_cons_zero, List.set_cons_succ]
              refine wpR_done (by kernel_rfl) ?_ _
              obtain ⟨WQ, hWQ⟩ : ∃ W, W = V13.setCell ⟨g, 3, none⟩ (.slice A10 m10 k10) := ⟨_, rfl⟩
              rw [← hWQ]
              have hgV : Gr W V13 := hgBB.out _ hq13.out
              have hR1 : Hid (Rc WQ lo g { y with vT := .slice A10 m10 k10 } { c with T := c.T ++ [(ny, ng)] }) := Lib.hid (by rw [hWQ]; exact (hcW.out.gr hgV).setT (T' := c.T ++ [(ny, ng)]) (v := .slice A10 m10 k10) (by rw [← hm10]; exact ho10.out))
              have hu1 : Hid (Upd (y.S g) W WQ) := Lib.hid (by rw [hWQ]; exact Upd.gr_set (S := y.S g) (j := 3) (u := .slice A10 m10 k10) hgV (.inl rfl))
              have hT1 : Hid ((c.T ++ [(ny, ng)]).length ≤ 1000) := Lib.hid (by rw [List.length_append]; have := hhx.out.2; simp; omega)
              have hv1 : Hid ((RcX.mk y.vW y.vH y.vB (.slice A10 m10 k10) y.vR y.E).vW = y.vW) := Lib.hid rfl
              replace hWQ := Lib.hid hWQ
              clear hgV hm10
              have hdr := Lib.hid (rdrop_any2 lo g { y with vT := Value.slice A10 m10 k10 } { c with T := c.T ++ [(ny, ng)] } WQ hR1 (few2 hf _ hT1.out) hok.dW hok.rE hok.ap (fun e he => (hok.okE e he).1) ny)
              have hbQ := Lib.hid (hcW.out.other hu1.out hbB.out (by decide) (by decide))
              have zq1 := blk_cell (j := 1) hbQ.out rfl
              go_upto_region 27 with (go_at_call 23; go_must (refine hdr.out.mono ?_); clear hdr; rintro e w1 ⟨rfl, y2, hc2, hu2, hS2⟩)
              clear zq1
              have hb1 := Lib.hid (hR1.out.other hu2 hbQ.out (by decide) (by decide))
              obtain ⟨w7, hw7⟩ : ∃ w7, w7 = w1.drew := ⟨_, rfl⟩
              have hg7 : Gr w1 w7 := by rw [hw7]; exact (Below.refl _ _).drew
              have hc7 := Lib.hid (hc2.out.gr hg7)
              have hb7 := Lib.hid (blk_below hb1.out hg7)
              replace hg7 := Lib.hid hg7
              replace hu2 := Lib.hid hu2
              replace hS2 := Lib.hid hS2
              refine wpR_region (Gr) 10 (by kernel_rfl) ?_
              (rw [← hw7]; replace hw7 := Lib.hid hw7)
              refine wT (i := 0) (v := ?_) (Gr.road) (some 187) rfl (fun w' hw' => ?_) ?_
              rotate_left
              · go_simp; with_reducible rfl
              simp only [Act.put, List.setIfInBounds_toArray, List.set_cons_zero, List.set_cons_succ]
              refine wT (i := 1) (v := ?_) (Gr.road) (some 188) rfl (fun w' hw' => ?_) ?_
              rotate_left
              · go_simp; with_reducible rfl
              simp only [Act.put, List.setIfInBounds_toArray, List.set_cons_zero, List.set_cons_succ]
              refine wT (i := 2) (v := ?_) (Gr.road) (some 189) rfl (fun w' hw' => ?_) ?_
              rotate_left
              · go_simp; with_reducible rfl
              simp only [Act.put, List.setIfInBounds_toArray, List.set_cons_zero, List.set_cons_succ]
              refine wT (i := 3) (v := ?_) (Gr.road) (some 190) rfl (fun w' hw' => ?_) ?_
              rotate_left
              · go_simp; with_reducible rfl
              simp only [Act.put, List.setIfInBounds_toArray, List.set_cons_zero, List.set_cons_succ]
              refine wT (i := 4) (v := ?_) (Gr.road) (some 191) rfl (fun w' hw' => ?_) ?_
              rotate_left
              · have q := blk_cell (j := 2) (blk_below hc7.out.blk hw') rfl; go_simp; with_reducible rfl
              simp only [Act.put, List.setIfInBounds_toArray, List.set_cons_zero, List.set_cons_succ]
              refine wT (i := 5) (v := ?_) (Gr.road) (some 192) rfl (fun w' hw' => ?_) ?_
              rotate_left
              · go_simp; with_reducible rfl
              simp only [Act.put, List.setIfInBounds_toArray, List.set_cons_zero, List.set_cons_succ]
              refine wT (i := 6) (v := ?_) (Gr.road) (some 193) rfl (fun w' hw' => ?_) ?_
              rotate_left
              · have q := blk_cell (j := 1) (blk_below hb7.out hw') rfl; go_simp; with_reducible rfl
              simp only [Act.put, List.setIfInBounds_toArray, List.set_cons_zero, List.set_cons_succ]
              refine wpR_one 7 rfl (by kernel_rfl) (by kernel_rfl) (fun K hK => ?_)
              go_simp
              refine (rwithout_any c.B lo _ w7 hc7.out.bs (by have := hhx.out.1; omega) ny).mono ?_
              rintro e w8 ⟨v8, rfl, ho8, hg8⟩
              refine hK _ _ (fun _ => hg8) ?_
              clear hK K
              obtain ⟨A8, k8, rfl, -, -⟩ := row_form ho8
              generalize hm8 : (delP c.B ny).length = m8 at *
              have hb8 := Lib.hid (blk_below hc7.out.blk hg8)
              have hg8' := Lib.hid hg8
              have ho8' := Lib.hid ho8
              replace hm8 := Lib.hid hm8
              clear hg8 ho8
              try simp only [Act.put, List.setIfInBounds_toArray, List.set_cons_zero, List.set_cons_succ]
              refine wU (i := 8) (v := ?_) (Gr.road) (some 195) rfl (fun w' => ?_) ?_
              rotate_left
              · go_simp; with_reducible rfl
              simp only [Act.put, List.setIfInBounds_toArray, List.set_cons_zero, List.set_cons_succ]
              refine wT (i := 9) (v := ?_) (Gr.road) (some 196) rfl (fun w' hw' => ?_) ?_
              rotate_left
              · go_simp; with_reducible rfl
              simp only [Act.put, List.setIfInBounds_toArray, List.set_cons_zero, List.set_cons_succ]
              refine wpR_one 10 rfl (by kernel_rfl) (by kernel_rfl) (fun K hK => ?_)
              have cc := blk_cell (j := 2) hb8.out rfl
              have ff := blk_free hb8.out 2
              go_simp
              refine hK _ _ (fun h => absurd h (by decide)) ?_
              clear hK K
              clear cc ff
              try simp only [Act.put, List.setIfInBounds_toArray, List.set_cons_zero, List.set_cons_succ]
              refine wpR_done (by kernel_rfl) ?_ _
              have hc8 := hc7.out.gr hg8'.out
              have hfin8 := hc8.setB (B' := delP c.B ny) (v := .slice A8 m8 k8) (by rw [hm8.out]; exact row_more ho8'.out (by have h1 := hc7.out.lg; have h2 := blk_lt hc7.out.blk; omega))
              have hfin9 := hfin8.setG ng
              have hne : N ≠ g := blk_apart2 hb7.out hc7.out.blk (by decide)
              have z9 := blk_cell (j := 2) ((blk_other (w := w8) hne 2 (.slice A8 m8 k8)).trans (blk_below hb7.out hg8'.out)) rfl
              have cc9 := blk_cell (j := 5) hfin8.blk rfl
              have ff9 := blk_free hfin8.blk 5
              have hact : Hid (RcAct lo g y W { c with W := delP c.W ny, E := delP c.E ny, B := delP c.B ny, T := c.T ++ [(ny, ng)], G := ng } ((w8.setCell ⟨g, 2, none⟩ (.slice A8 m8 k8)).setCell ⟨g, 5, none⟩ (.int .i64 ng))) := Lib.hid (RcAct.two hu1.out (fun q hq => .inl (by rcases hq with rfl | hq; (· exact .inl rfl); (· exact .inr hq))) (RcAct.two hu2.out hS2.out ⟨_, Lib.hid hfin9, (Upd.gr_set (hg7.out.trans hg8'.out) (.inl rfl)).trans (Upd.of_grown (blk_grown _ g 5 _) (.inl rfl)), fun q hq => .inl hq⟩))
              replace hfin8 := Lib.hid hfin8
              replace hfin9 := Lib.hid hfin9
              replace hc8 := Lib.hid hc8
              clear hne
              go_wp2_with fail
              go_ret
              exact ⟨by subst hrc; rfl, by subst hrc; exact hfr.out hact.out⟩
            · go_simp
              obtain ⟨g9, hg9e⟩ : ∃ g9, V1.heap.size = g9 := ⟨_, rfl⟩
              obtain ⟨V12, hV9⟩ : ∃ W, W = V1.alloc (.cells #[.string (bs ny), .int .i64 ng] 63) := ⟨_, rfl⟩
              have hr9 : Below B2 V1 V12 := by rw [hV9]; exact (Below.refl _ _).alloc hz1.out _
              have hl9 : Hid (V12.heap[g9]? = some (.cells #[.string (bs ny), .int .i64 ng] 63 (0, 0))) := Lib.hid (by rw [hV9, ← hg9e]; exact heap_alloc_new _ _)
              have hq12 : Hid (Below B2 wd V12) := Lib.hid (hq1.out.trans hr9)
              have hz12 : Hid (B2 ≤ V12.heap.size) := Lib.hid (Nat.le_trans hz1.out hr9.size)
              have hne : Hid (g9 ≠ g0) := Lib.hid (by have := (World.ownsRow.lt ho0.out g0 rfl).2; omega)
              replace ho0 := Lib.hid (row_below ho0.out (show Gr V1 V12 by rw [hV9]; exact Gr.alloc _ _))
              rw [← hV9, hg9e]
              replace hV9 := Lib.hid hV9
              replace hg9e := Lib.hid hg9e
              refine hK _ _ (fun _ => hr9) ?_
              clear hK K
              try simp only [Act.put, List.setIfInBounds_toArray, List.set_cons_zero, List.set_cons_succ]
              refine wpR_one 6 rfl (by kernel_rfl) (by kernel_rfl) (fun K hK => ?_)
              refine wp_appM (.tmp 168) (.tmp 172) rfl lo _ [] rfl ho0.out _ _ c.T rfl ((hRt.out.below hq12.out).more (Nat.le_refl _)) (by have := hLl.out; simp; omega) (Nat.le_trans hlB.out hz12.out) ?_
              intro v7 V6 ho7 hgr7 hlc7
              rw [List.nil_append] at ho7
              have hr7 : Below B2 V12 V6 := (Below.refl _ _).grown hgr7 hz12.out (fun j hj => by injection hj with hj; have hj : g0 = j := hj; rw [← hj]; exact hgB0.out)
              have hown7 : Hid (∀ j, v7.ownBlock = some j → B2 ≤ j) := Lib.hid (fun j hj => by rcases hlc7 with e | e; (· have e2 := e.symm.trans hj; injection e2 with e2; have e2 : g0 = j := e2; rw [← e2]; exact hgB0.out); (· have e2 := e.symm.trans hj; injection e2 with e2; rw [← e2]; exact hz12.out))
              replace hl9 := Lib.hid ((hgr7.block g9 (blk_lt hl9.out) (fun e => hne.out (by injection e))).trans hl9.out)
              replace ho7 := Lib.hid ho7
              have hq6 : Hid (Below B2 wd V6) := Lib.hid (hq12.out.trans hr7)
              have hz6 : Hid (B2 ≤ V6.heap.size) := Lib.hid (Nat.le_trans hz12.out hr7.size)
              refine hK _ _ (fun _ => hr7) ?_
              clear hK K
              clear hgr7 hr7 hlc7
              try simp only [Act.put, List.setIfInBounds_toArray, List.set_cons_zero, List.set_cons_succ]
              refine wpR_one 13 rfl (by kernel_rfl) (by kernel_rfl) (fun K hK => ?_)
              refine wp_appM (.tmp 173) (.tmp 179) rfl lo _ c.T rfl ho7.out _ _ [(ny, ng)] rfl (Reads.blk2 hl9.out) (by have := hLl.out; simp; omega) (Nat.le_trans hlB.out hz6.out) ?_
              intro v8 V13 ho10 hgr10 hlc10
              have hr10 : Below B2 V6 V13 := (Below.refl _ _).grown hgr10 hz6.out hown7.out
              obtain ⟨A10, k10, rfl, -, -⟩ := row_form ho10
              obtain ⟨m10, hm10⟩ : ∃ m, (c.T ++ [(ny, ng)]).length = m := ⟨_, rfl⟩
              replace ho10 := Lib.hid ho10
              rw [hm10]
              have hq13 : Hid (Below B2 wd V13) := Lib.hid (hq6.out.trans hr10)
              have hb10 := Lib.hid ((hq13.out.block g hgB).trans hcd.out.blk)
              refine hK _ _ (fun _ => hr10) ?_
              clear hK K
              clear hgr10 hr10 hlc10
              try simp only [Act.put, List.setIfInBounds_toArray, List.set_cons_zero, List.set_cons_succ]
              refine wU (i := 14) (v := ?_) (⟨fun x => Below.refl _ x, fun h1 h2 => h1.trans h2⟩) (some 181) rfl (fun w' => ?_) ?_
              rotate_left
              · go_simp; with_reducible rfl
              simp only [Act.put, List.setIfInBounds_toArray, List.set_cons_zero, List.set_cons_succ]
              refine wT (i := 15) (v := ?_) (⟨fun x => Below.refl _ x, fun h1 h2 => h1.trans h2⟩) (some 182) rfl (fun w' hw' => ?_) ?_
              rotate_left
              · go_simp; with_reducible rfl
              simp only [Act.put, List.setIfInBounds_toArray, List.set_cons_zero, List.set_cons_succ]
              refine wpR_one 16 rfl (by kernel_rfl) (by kernel_rfl) (fun K hK => ?_)
              have cc3 := blk_cell (j := 3) hb10.out rfl
              have f3 := blk_free hb10.out 3
              go_simp
              refine hK _ _ (fun h => absurd h (by decide)) ?_
              clear hK K
              clear cc3 f3
              skip
              try simp only [Act.put, List.setIfInBounds_toArray, List.set_cons_zero, List.set_cons_succ]
              refine wpR_done (by kernel_rfl) ?_ _
              obtain ⟨WQ, hWQ⟩ : ∃ W, W = V13.setCell ⟨g, 3, none⟩ (.slice A10 m10 k10) := ⟨_, rfl⟩
              rw [← hWQ]
              have hgV : Gr W V13 := hgBB.out _ hq13.out
              have hR1 : Hid (Rc WQ lo g { y with vT := .slice A10 m10 k10 } { c with T := c.T ++ [(ny, ng)] }) := Lib.hid (by rw [hWQ]; exact (hcW.out.gr hgV).setT (T' := c.T ++ [(ny, ng)]) (v := .slice A10 m10 k10) (by rw [← hm10]; exact ho10.out))
              have hu1 : Hid (Upd (y.S g) W WQ) := Lib.hid (by rw [hWQ]; exact Upd.gr_set (S := y.S g) (j := 3) (u := .slice A10 m10 k10) hgV (.inl rfl))
              have hT1 : Hid ((c.T ++ [(ny, ng)]).length ≤ 1000) := Lib.hid (by rw [List.length_append]; have := hhx.out.2; simp; omega)
              have hv1 : Hid ((RcX.mk y.vW y.vH y.vB (.slice A10 m10 k10) y.vR y.E).vW = y.vW) := Lib.hid rfl
              replace hWQ := Lib.hid hWQ
              clear hgV hm10
              have hdr := Lib.hid (rdrop_any2 lo g { y with vT := Value.slice A10 m10 k10 } { c with T := c.T ++ [(ny, ng)] } WQ hR1 (few2 hf _ hT1.out) hok.dW hok.rE hok.ap (fun e he => (hok.okE e he).1) ny)
              have hbQ := Lib.hid (hcW.out.other hu1.out hbB.out (by decide) (by decide))
              have zq1 := blk_cell (j := 1) hbQ.out rfl
              go_upto_region 27 with (go_at_call 23; go_must (refine hdr.out.mono ?_); clear hdr; rintro e w1 ⟨rfl, y2, hc2, hu2, hS2⟩)
              clear zq1
              have hb1 := Lib.hid (hR1.out.other hu2 hbQ.out (by decide) (by decide))
              obtain ⟨w7, hw7⟩ : ∃ w7, w7 = w1.drew := ⟨_, rfl⟩
              have hg7 : Gr w1 w7 := by rw [hw7]; exact (Below.refl _ _).drew
              have hc7 := Lib.hid (hc2.out.gr hg7)
              have hb7 := Lib.hid (blk_below hb1.out hg7)
              replace hg7 := Lib.hid hg7
              replace hu2 := Lib.hid hu2
              replace hS2 := Lib.hid hS2
              refine wpR_region (Gr) 10 (by kernel_rfl) ?_
              (rw [← hw7]; replace hw7 := Lib.hid hw7)
              refine wT (i := 0) (v := ?_) (Gr.road) (some 187) rfl (fun w' hw' => ?_) ?_
              rotate_left
              · go_simp; with_reducible rfl
              simp only [Act.put, List.setIfInBounds_toArray, List.set_cons_zero, List.set_cons_succ]
              refine wT (i := 1) (v := ?_) (Gr.road) (some 188) rfl (fun w' hw' => ?_) ?_
              rotate_left
              · go_simp; with_reducible rfl
              simp only [Act.put, List.setIfInBounds_toArray, List.set_cons_zero, List.set_cons_succ]
              refine wT (i := 2) (v := ?_) (Gr.road) (some 189) rfl (fun w' hw' => ?_) ?_
              rotate_left
              · go_simp; with_reducible rfl
              simp only [Act.put, List.setIfInBounds_toArray, List.set_cons_zero, List.set_cons_succ]
              refine wT (i := 3) (v := ?_) (Gr.road) (some 190) rfl (fun w' hw' => ?_) ?_
              rotate_left
              · go_simp; with_reducible rfl
              simp only [Act.put, List.setIfInBounds_toArray, List.set_cons_zero, List.set_cons_succ]
              refine wT (i := 4) (v := ?_) (Gr.road) (some 191) rfl (fun w' hw' => ?_) ?_
              rotate_left
              · have q := blk_cell (j := 2) (blk_below hc7.out.blk hw') rfl; go_simp; with_reducible rfl
              simp only [Act.put, List.setIfInBounds_toArray, List.set_cons_zero, List.set_cons_succ]
              refine wT (i := 5) (v := ?_) (Gr.road) (some 192) rfl (fun w' hw' => ?_) ?_
              rotate_left
              · go_simp; with_reducible rfl
              simp only [Act.put, List.setIfInBounds_toArray, List.set_cons_zero, List.set_cons_succ]
              refine wT (i := 6) (v := ?_) (Gr.road) (some 193) rfl (fun w' hw' => ?_) ?_
              rotate_left
              · have q := blk_cell (j := 1) (blk_below hb7.out hw') rfl; go_simp; with_reducible rfl
              simp only [Act.put, List.setIfInBounds_toArray, List.set_cons_zero, List.set_cons_succ]
              refine wpR_one 7 rfl (by kernel_rfl) (by kernel_rfl) (fun K hK => ?_)
              go_simp
              refine (rwithout_any c.B lo _ w7 hc7.out.bs (by have := hhx.out.1; omega) ny).mono ?_
              rintro e w8 ⟨v8, rfl, ho8, hg8⟩
              refine hK _ _ (fun _ => hg8) ?_
              clear hK K
              obtain ⟨A8, k8, rfl, -, -⟩ := row_form ho8
              generalize hm8 : (delP c.B ny).length = m8 at *
              have hb8 := Lib.hid (blk_below hc7.out.blk hg8)
              have hg8' := Lib.hid hg8
              have ho8' := Lib.hid ho8
              replace hm8 := Lib.hid hm8
              clear hg8 ho8
              try simp only [Act.put, List.setIfInBounds_toArray, List.set_cons_zero, List.set_cons_succ]
              refine wU (i := 8) (v := ?_) (Gr.road) (some 195) rfl (fun w' => ?_) ?_
              rotate_left
              · go_simp; with_reducible rfl
              simp only [Act.put, List.setIfInBounds_toArray, List.set_cons_zero, List.set_cons_succ]
              refine wT (i := 9) (v := ?_) (Gr.road) (some 196) rfl (fun w' hw' => ?_) ?_
              rotate_left
              · go_simp; with_reducible rfl
              simp only [Act.put, List.setIfInBounds_toArray, List.set_cons_zero, List.set_cons_succ]
              refine wpR_one 10 rfl (by kernel_rfl) (by kernel_rfl) (fun K hK => ?_)
              have cc := blk_cell (j := 2) hb8.out rfl
              have ff := blk_free hb8.out 2
              go_simp
              refine hK _ _ (fun h => absurd h (by decide)) ?_
              clear hK K
              clear cc ff
              try simp only [Act.put, List.setIfInBounds_toArray, List.set_cons_zero, List.set_cons_succ]
              refine wpR_done (by kernel_rfl) ?_ _
              have hc8 := hc7.out.gr hg8'.out
              have hfin8 := hc8.setB (B' := delP c.B ny) (v := .slice A8 m8 k8) (by rw [hm8.out]; exact row_more ho8'.out (by have h1 := hc7.out.lg; have h2 := blk_lt hc7.out.blk; omega))
              have hfin9 := hfin8.setG ng
              have hne : N ≠ g := blk_apart2 hb7.out hc7.out.blk (by decide)
              have z9 := blk_cell (j := 2) ((blk_other (w := w8) hne 2 (.slice A8 m8 k8)).trans (blk_below hb7.out hg8'.out)) rfl
              have cc9 := blk_cell (j := 5) hfin8.blk rfl
              have ff9 := blk_free hfin8.blk 5
              have hact : Hid (RcAct lo g y W { c with W := delP c.W ny, E := delP c.E ny, B := delP c.B ny, T := c.T ++ [(ny, ng)], G := ng } ((w8.setCell ⟨g, 2, none⟩ (.slice A8 m8 k8)).setCell ⟨g, 5, none⟩ (.int .i64 ng))) := Lib.hid (RcAct.two hu1.out (fun q hq => .inl (by rcases hq with rfl | hq; (· exact .inl rfl); (· exact .inr hq))) (RcAct.two hu2.out hS2.out ⟨_, Lib.hid hfin9, (Upd.gr_set (hg7.out.trans hg8'.out) (.inl rfl)).trans (Upd.of_grown (blk_grown _ g 5 _) (.inl rfl)), fun q hq => .inl hq⟩))
              replace hfin8 := Lib.hid hfin8
              replace hfin9 := Lib.hid hfin9
              replace hc8 := Lib.hid hc8
              clear hne
              go_wp2_with fail
              go_ret
              exact ⟨by subst hrc; rfl, by subst hrc; exact hfr.out hact.out⟩
          · go_simp
            obtain ⟨g9, hg9e⟩ : ∃ g9, wd.heap.size = g9 := ⟨_, rfl⟩
            obtain ⟨V12, hV9⟩ : ∃ W, W = wd.alloc (.cells #[.string (bs ny), .int .i64 ng] 63) := ⟨_, rfl⟩
            have hr9 : Below B2 wd V12 := by rw [hV9]; exact (Below.refl _ _).alloc hzd.out _
            have hl9 : Hid (V12.heap[g9]? = some (.cells #[.string (bs ny), .int .i64 ng] 63 (0, 0))) := Lib.hid (by rw [hV9, ← hg9e]; exact heap_alloc_new _ _)
            have hq12 : Hid (Below B2 wd V12) := Lib.hid (hqd.out.trans hr9)
            have hz12 : Hid (B2 ≤ V12.heap.size) := Lib.hid (Nat.le_trans hzd.out hr9.size)
            rw [← hV9, hg9e]
            replace hV9 := Lib.hid hV9
            replace hg9e := Lib.hid hg9e
            refine hK _ _ (fun _ => hr9) ?_
            clear hK K
            try simp only [Act.put, List.setIfInBounds_toArray, List.set_cons_zero, List.set_cons_succ]
            refine wpR_one 1 rfl (by kernel_rfl) (by kernel_rfl) (fun K hK => ?_)
            go_simp
            obtain ⟨g0, hg0e⟩ : ∃ g0, V12.heap.size = g0 := ⟨_, rfl⟩
            obtain ⟨V1, hV0⟩ : ∃ W, W = V12.alloc (.cells #[] 63) := ⟨_, rfl⟩
            have hr0 : Below B2 V12 V1 := by rw [hV0]; exact (Below.refl _ _).alloc hz12.out _
            have ho0 : Hid (V1.ownsRow lo 63 2 (.slice (some ⟨g0, 0, none⟩) 0 0) ([] : List (By × Int)).length (flatT [])) := Lib.hid (by rw [hV0, ← hg0e]; exact World.ownsRow_made _ #[] 0 (Nat.le_trans hlB.out hz12.out) (by simp [maxLen]) rfl)
            have hgB0 : Hid (B2 ≤ g0) := Lib.hid (by rw [← hg0e]; exact hz12.out)
            have hq1 : Hid (Below B2 wd V1) := Lib.hid (hq12.out.trans hr0)
            have hz1 : Hid (B2 ≤ V1.heap.size) := Lib.hid (Nat.le_trans hz12.out hr0.size)
            have hne : Hid (g9 ≠ g0) := Lib.hid (by have := blk_lt hl9.out; omega)
            replace hl9 := Lib.hid (blk_below hl9.out (show Below V12.heap.size V12 V1 by rw [hV0]; exact Gr.alloc _ _))
            rw [← hV0, hg0e]
            replace hV0 := Lib.hid hV0
            replace hg0e := Lib.hid hg0e
            refine hK _ _ (fun _ => hr0) ?_
            clear hK K
            try simp only [Act.put, List.setIfInBounds_toArray, List.set_cons_zero, List.set_cons_succ]
            refine wpR_one 6 rfl (by kernel_rfl) (by kernel_rfl) (fun K hK => ?_)
            refine wp_appM (.tmp 168) (.tmp 172) rfl lo _ [] rfl ho0.out _ _ c.T rfl ((hRt.out.below hq1.out).more (Nat.le_refl _)) (by have := hLl.out; simp; omega) (Nat.le_trans hlB.out hz1.out) ?_
            intro v7 V6 ho7 hgr7 hlc7
            rw [List.nil_append] at ho7
            have hr7 : Below B2 V1 V6 := (Below.refl _ _).grown hgr7 hz1.out (fun j hj => by injection hj with hj; have hj : g0 = j := hj; rw [← hj]; exact hgB0.out)
            have hown7 : Hid (∀ j, v7.ownBlock = some j → B2 ≤ j) := Lib.hid (fun j hj => by rcases hlc7 with e | e; (· have e2 := e.symm.trans hj; injection e2 with e2; have e2 : g0 = j := e2; rw [← e2]; exact hgB0.out); (· have e2 := e.symm.trans hj; injection e2 with e2; rw [← e2]; exact hz1.out))
            replace hl9 := Lib.hid ((hgr7.block g9 (blk_lt hl9.out) (fun e => hne.out (by injection e))).trans hl9.out)
            replace ho7 := Lib.hid ho7
            have hq6 : Hid (Below B2 wd V6) := Lib.hid (hq1.out.trans hr7)
            have hz6 : Hid (B2 ≤ V6.heap.size) := Lib.hid (Nat.le_trans hz1.out hr7.size)
            refine hK _ _ (fun _ => hr7) ?_
            clear hK K
            clear hgr7 hr7 hlc7
            try simp only [Act.put, List.setIfInBounds_toArray, List.set_cons_zero, List.set_cons_succ]
            refine wpR_one 13 rfl (by kernel_rfl) (by kernel_rfl) (fun K hK => ?_)
            refine wp_appM (.tmp 173) (.tmp 179) rfl lo _ c.T rfl ho7.out _ _ [(ny, ng)] rfl (Reads.blk2 hl9.out) (by have := hLl.out; simp; omega) (Nat.le_trans hlB.out hz6.out) ?_
            intro v8 V13 ho10 hgr10 hlc10
            have hr10 : Below B2 V6 V13 := (Below.refl _ _).grown hgr10 hz6.out hown7.out
            obtain ⟨A10, k10, rfl, -, -⟩ := row_form ho10
            obtain ⟨m10, hm10⟩ : ∃ m, (c.T ++ [(ny, ng)]).length = m := ⟨_, rfl⟩
            replace ho10 := Lib.hid ho10
            rw [hm10]
            have hq13 : Hid (Below B2 wd V13) := Lib.hid (hq6.out.trans hr10)
            have hb10 := Lib.hid ((hq13.out.block g hgB).trans hcd.out.blk)
            refine hK _ _ (fun _ => hr10) ?_
            clear hK K
            clear hgr10 hr10 hlc10
            try simp only [Act.put, List.setIfInBounds_toArray, List.set_cons_zero, List.set_cons_succ]
            refine wU (i := 14) (v := ?_) (⟨fun x => Below.refl _ x, fun h1 h2 => h1.trans h2⟩) (some 181) rfl (fun w' => ?_) ?_
            rotate_left
            · go_simp; with_reducible rfl
            simp only [Act.put, List.setIfInBounds_toArray, List.set_cons_zero, List.set_cons_succ]
            refine wT (i := 15) (v := ?_) (⟨fun x => Below.refl _ x, fun h1 h2 => h1.trans h2⟩) (some 182) rfl (fun w' hw' => ?_) ?_
            rotate_left
            · go_simp; with_reducible rfl
            simp only [Act.put, List.setIfInBounds_toArray, List.set_cons_zero, List.set_cons_succ]
            refine wpR_one 16 rfl (by kernel_rfl) (by kernel_rfl) (fun K hK => ?_)
            have cc3 := blk_cell (j := 3) hb10.out rfl
            have f3 := blk_free hb10.out 3
            go_simp
            refine hK _ _ (fun h => absurd h (by decide)) ?_
            clear hK K
            clear cc3 f3
            skip
            try simp only [Act.put, List.setIfInBounds_toArray, List.set_cons_zero, List.set_cons_succ]
            refine wpR_done (by kernel_rfl) ?_ _
            obtain ⟨WQ, hWQ⟩ : ∃ W, W = V13.setCell ⟨g, 3, none⟩ (.slice A10 m10 k10) := ⟨_, rfl⟩
            rw [← hWQ]
            have hgV : Gr W V13 := hgBB.out _ hq13.out
            have hR1 : Hid (Rc WQ lo g { y with vT := .slice A10 m10 k10 } { c with T := c.T ++ [(ny, ng)] }) := Lib.hid (by rw [hWQ]; exact (hcW.out.gr hgV).setT (T' := c.T ++ [(ny, ng)]) (v := .slice A10 m10 k10) (by rw [← hm10]; exact ho10.out))
            have hu1 : Hid (Upd (y.S g) W WQ) := Lib.hid (by rw [hWQ]; exact Upd.gr_set (S := y.S g) (j := 3) (u := .slice A10 m10 k10) hgV (.inl rfl))
            have hT1 : Hid ((c.T ++ [(ny, ng)]).length ≤ 1000) := Lib.hid (by rw [List.length_append]; have := hhx.out.2; simp; omega)
            have hv1 : Hid ((RcX.mk y.vW y.vH y.vB (.slice A10 m10 k10) y.vR y.E).vW = y.vW) := Lib.hid rfl
            replace hWQ := Lib.hid hWQ
            clear hgV hm10
            have hdr := Lib.hid (rdrop_any2 lo g { y with vT := Value.slice A10 m10 k10 } { c with T := c.T ++ [(ny, ng)] } WQ hR1 (few2 hf _ hT1.out) hok.dW hok.rE hok.ap (fun e he => (hok.okE e he).1) ny)
            have hbQ := Lib.hid (hcW.out.other hu1.out hbB.out (by decide) (by decide))
            have zq1 := blk_cell (j := 1) hbQ.out rfl
            go_upto_region 27 with (go_at_call 23; go_must (refine hdr.out.mono ?_); clear hdr; rintro e w1 ⟨rfl, y2, hc2, hu2, hS2⟩)
            clear zq1
            have hb1 := Lib.hid (hR1.out.other hu2 hbQ.out (by decide) (by decide))
            obtain ⟨w7, hw7⟩ : ∃ w7, w7 = w1.drew := ⟨_, rfl⟩
            have hg7 : Gr w1 w7 := by rw [hw7]; exact (Below.refl _ _).drew
            have hc7 := Lib.hid (hc2.out.gr hg7)
            have hb7 := Lib.hid (blk_below hb1.out hg7)
            replace hg7 := Lib.hid hg7
            replace hu2 := Lib.hid hu2
            replace hS2 := Lib.hid hS2
            refine wpR_region (Gr) 10 (by kernel_rfl) ?_
            (rw [← hw7]; replace hw7 := Lib.hid hw7)
            refine wT (i := 0) (v := ?_) (Gr.road) (some 187) rfl (fun w' hw' => ?_) ?_
            rotate_left
            · go_simp; with_reducible rfl
            simp only [Act.put, List.setIfInBounds_toArray, List.set_cons_zero, List.set_cons_succ]
            refine wT (i := 1) (v := ?_) (Gr.road) (some 188) rfl (fun w' hw' => ?_) ?_
            rotate_left
            · go_simp; with_reducible rfl
            simp only [Act.put, List.setIfInBounds_toArray, List.set_cons_zero, List.set_cons_succ]
            refine wT (i := 2) (v := ?_) (Gr.road) (some 189) rfl (fun w' hw' => ?_) ?_
            rotate_left
            · go_simp; with_reducible rfl
            simp only [Act.put, List.setIfInBounds_toArray, List.set_cons_zero, List.set_cons_succ]
            refine wT (i := 3) (v := ?_) (Gr.road) (some 190) rfl (fun w' hw' => ?_) ?_
            rotate_left
            · go_simp; with_reducible rfl
            simp only [Act.put, List.setIfInBounds_toArray, List.set_cons_zero, List.set_cons_succ]
            refine wT (i := 4) (v := ?_) (Gr.road) (some 191) rfl (fun w' hw' => ?_) ?_
            rotate_left
            · have q := blk_cell (j := 2) (blk_below hc7.out.blk hw') rfl; go_simp; with_reducible rfl
            simp only [Act.put, List.setIfInBounds_toArray, List.set_cons_zero, List.set_cons_succ]
            refine wT (i := 5) (v := ?_) (Gr.road) (some 192) rfl (fun w' hw' => ?_) ?_
            rotate_left
            · go_simp; with_reducible rfl
            simp only [Act.put, List.setIfInBounds_toArray, List.set_cons_zero, List.set_cons_succ]
            refine wT (i := 6) (v := ?_) (Gr.road) (some 193) rfl (fun w' hw' => ?_) ?_
            rotate_left
            · have q := blk_cell (j := 1) (blk_below hb7.out hw') rfl; go_simp; with_reducible rfl
            simp only [Act.put, List.setIfInBounds_toArray, List.set_cons_zero, List.set_cons_succ]
            refine wpR_one 7 rfl (by kernel_rfl) (by kernel_rfl) (fun K hK => ?_)
            go_simp
            refine (rwithout_any c.B lo _ w7 hc7.out.bs (by have := hhx.out.1; omega) ny).mono ?_
            rintro e w8 ⟨v8, rfl, ho8, hg8⟩
            refine hK _ _ (fun _ => hg8) ?_
            clear hK K
            obtain ⟨A8, k8, rfl, -, -⟩ := row_form ho8
            generalize hm8 : (delP c.B ny).length = m8 at *
            have hb8 := Lib.hid (blk_below hc7.out.blk hg8)
            have hg8' := Lib.hid hg8
            have ho8' := Lib.hid ho8
            replace hm8 := Lib.hid hm8
            clear hg8 ho8
            try simp only [Act.put, List.setIfInBounds_toArray, List.set_cons_zero, List.set_cons_succ]
            refine wU (i := 8) (v := ?_) (Gr.road) (some 195) rfl (fun w' => ?_) ?_
            rotate_left
            · go_simp; with_reducible rfl
            simp only [Act.put, List.setIfInBounds_toArray, List.set_cons_zero, List.set_cons_succ]
            refine wT (i := 9) (v := ?_) (Gr.road) (some 196) rfl (fun w' hw' => ?_) ?_
            rotate_left
            · go_simp; with_reducible rfl
            simp only [Act.put, List.setIfInBounds_toArray, List.set_cons_zero, List.set_cons_succ]
            refine wpR_one 10 rfl (by kernel_rfl) (by kernel_rfl) (fun K hK => ?_)
            have cc := blk_cell (j := 2) hb8.out rfl
            have ff := blk_free hb8.out 2
            go_simp
            refine hK _ _ (fun h => absurd h (by decide)) ?_
            clear hK K
            clear cc ff
            try simp only [Act.put, List.setIfInBounds_toArray, List.set_cons_zero, List.set_cons_succ]
            refine wpR_done (by kernel_rfl) ?_ _
            have hc8 := hc7.out.gr hg8'.out
            have hfin8 := hc8.setB (B' := delP c.B ny) (v := .slice A8 m8 k8) (by rw [hm8.out]; exact row_more ho8'.out (by have h1 := hc7.out.lg; have h2 := blk_lt hc7.out.blk; omega))
            have hfin9 := hfin8.setG ng
            have hne : N ≠ g := blk_apart2 hb7.out hc7.out.blk (by decide)
            have z9 := blk_cell (j := 2) ((blk_other (w := w8) hne 2 (.slice A8 m8 k8)).trans (blk_below hb7.out hg8'.out)) rfl
            have cc9 := blk_cell (j := 5) hfin8.blk rfl
            have ff9 := blk_free hfin8.blk 5
            have hact : Hid (RcAct lo g y W { c with W := delP c.W ny, E := delP c.E ny, B := delP c.B ny, T := c.T ++ [(ny, ng)], G := ng } ((w8.setCell ⟨g, 2, none⟩ (.slice A8 m8 k8)).setCell ⟨g, 5, none⟩ (.int .i64 ng))) := Lib.hid (RcAct.two hu1.out (fun q hq => .inl (by rcases hq with rfl | hq; (· exact .inl rfl); (· exact .inr hq))) (RcAct.two hu2.out hS2.out ⟨_, Lib.hid hfin9, (Upd.gr_set (hg7.out.trans hg8'.out) (.inl rfl)).trans (Upd.of_grown (blk_grown _ g 5 _) (.inl rfl)), fun q hq => .inl hq⟩))
            replace hfin8 := Lib.hid hfin8
            replace hfin9 := Lib.hid hfin9
            replace hc8 := Lib.hid hc8
            clear hne
            go_wp2_with fail
            go_ret
            exact ⟨by subst hrc; rfl, by subst hrc; exact hfr.out hact.out⟩
        | false =>
          rw [if_neg (by rw [hE, hB]; simp)] at hrc
          rw [getP_no hB] at hbg
          have hR1 : Hid (Rc W lo g y { c with T := c.T }) := Lib.hid hcW.out
          have hu1 : Hid (Upd (y.S g) W W) := Lib.hid (Upd.refl _ _)
          have hT1 : Hid (c.T.length ≤ 1000) := Lib.hid (by have := hhx.out.2; omega)
          have hv1 : Hid (y.vW = y.vW) := Lib.hid rfl
          replace hE := Lib.hid hE
          replace hB := Lib.hid hB
          go_upto_region 26 with (first
            | (go_at_call 14; go_must (refine his.out.mono ?_); clear his; rintro e w' ⟨rfl, hww⟩; rw [hww]; clear hww w')
            | (go_at_call 25; go_must (refine hbg.out.mono ?_); clear hbg; rintro e w' ⟨rfl, hww⟩; rw [hww]; clear hww w'))
          have hdr := Lib.hid (rdrop_any2 lo g y { c with T := c.T } W hR1 (few2 hf _ hT1.out) hok.dW hok.rE hok.ap (fun e he => (hok.okE e he).1) ny)
          have hbQ := Lib.hid (hcW.out.other hu1.out hbB.out (by decide) (by decide))
          have zq1 := blk_cell (j := 1) hbQ.out rfl
          go_upto_region 27 with (go_at_call 23; go_must (refine hdr.out.mono ?_); clear hdr; rintro e w1 ⟨rfl, y2, hc2, hu2, hS2⟩)
          clear zq1
          have hb1 := Lib.hid (hR1.out.other hu2 hbQ.out (by decide) (by decide))
          obtain ⟨w7, hw7⟩ : ∃ w7, w7 = w1.drew := ⟨_, rfl⟩
          have hg7 : Gr w1 w7 := by rw [hw7]; exact (Below.refl _ _).drew
          have hc7 := Lib.hid (hc2.out.gr hg7)
          have hb7 := Lib.hid (blk_below hb1.out hg7)
          replace hg7 := Lib.hid hg7
          replace hu2 := Lib.hid hu2
          replace hS2 := Lib.hid hS2
          refine wpR_region (Gr) 10 (by kernel_rfl) ?_
          (rw [← hw7]; replace hw7 := Lib.hid hw7)
          refine wT (i := 0) (v := ?_) (Gr.road) (some 187) rfl (fun w' hw' => ?_) ?_
          rotate_left
          · go_simp; with_reducible rfl
          simp only [Act.put, List.setIfInBounds_toArray, List.set_cons_zero, List.set_cons_succ]
          refine wT (i := 1) (v := ?_) (Gr.road) (some 188) rfl (fun w' hw' => ?_) ?_
          rotate_left
          · go_simp; with_reducible rfl
          simp only [Act.put, List.setIfInBounds_toArray, List.set_cons_zero, List.set_cons_succ]
          refine wT (i := 2) (v := ?_) (Gr.road) (some 189) rfl (fun w' hw' => ?_) ?_
          rotate_left
          · go_simp; with_reducible rfl
          simp only [Act.put, List.setIfInBounds_toArray, List.set_cons_zero, List.set_cons_succ]
          refine wT (i := 3) (v := ?_) (Gr.road) (some 190) rfl (fun w' hw' => ?_) ?_
          rotate_left
          · go_simp; with_reducible rfl
          simp only [Act.put, List.setIfInBounds_toArray, List.set_cons_zero, List.set_cons_succ]
          refine wT (i := 4) (v := ?_) (Gr.road) (some 191) rfl (fun w' hw' => ?_) ?_
          rotate_left
          · have q := blk_cell (j := 2) (blk_below hc7.out.blk hw') rfl; go_simp; with_reducible rfl
          simp only [Act.put, List.setIfInBounds_toArray, List.set_cons_zero, List.set_cons_succ]
          refine wT (i := 5) (v := ?_) (Gr.road) (some 192) rfl (fun w' hw' => ?_) ?_
          rotate_left
          · go_simp; with_reducible rfl
          simp only [Act.put, List.setIfInBounds_toArray, List.set_cons_zero, List.set_cons_succ]
          refine wT (i := 6) (v := ?_) (Gr.road) (some 193) rfl (fun w' hw' => ?_) ?_
          rotate_left
          · have q := blk_cell (j := 1) (blk_below hb7.out hw') rfl; go_simp; with_reducible rfl
          simp only [Act.put, List.setIfInBounds_toArray, List.set_cons_zero, List.set_cons_succ]
          refine wpR_one 7 rfl (by kernel_rfl) (by kernel_rfl) (fun K hK => ?_)
          go_simp
          refine (rwithout_any c.B lo _ w7 hc7.out.bs (by have := hhx.out.1; omega) ny).mono ?_
          rintro e w8 ⟨v8, rfl, ho8, hg8⟩
          refine hK _ _ (fun _ => hg8) ?_
          clear hK K
          obtain ⟨A8, k8, rfl, -, -⟩ := row_form ho8
          generalize hm8 : (delP c.B ny).length = m8 at *
          have hb8 := Lib.hid (blk_below hc7.out.blk hg8)
          have hg8' := Lib.hid hg8
          have ho8' := Lib.hid ho8
          replace hm8 := Lib.hid hm8
          clear hg8 ho8
          try simp only [Act.put, List.setIfInBounds_toArray, List.set_cons_zero, List.set_cons_succ]
          refine wU (i := 8) (v := ?_) (Gr.road) (some 195) rfl (fun w' => ?_) ?_
          rotate_left
          · go_simp; with_reducible rfl
          simp only [Act.put, List.setIfInBounds_toArray, List.set_cons_zero, List.set_cons_succ]
          refine wT (i := 9) (v := ?_) (Gr.road) (some 196) rfl (fun w' hw' => ?_) ?_
          rotate_left
          · go_simp; with_reducible rfl
          simp only [Act.put, List.setIfInBounds_toArray, List.set_cons_zero, List.set_cons_succ]
          refine wpR_one 10 rfl (by kernel_rfl) (by kernel_rfl) (fun K hK => ?_)
          have cc := blk_cell (j := 2) hb8.out rfl
          have ff := blk_free hb8.out 2
          go_simp
          refine hK _ _ (fun h => absurd h (by decide)) ?_
          clear hK K
          clear cc ff
          try simp only [Act.put, List.setIfInBounds_toArray, List.set_cons_zero, List.set_cons_succ]
          refine wpR_done (by kernel_rfl) ?_ _
          have hc8 := hc7.out.gr hg8'.out
          have hfin8 := hc8.setB (B' := delP c.B ny) (v := .slice A8 m8 k8) (by rw [hm8.out]; exact row_more ho8'.out (by have h1 := hc7.out.lg; have h2 := blk_lt hc7.out.blk; omega))
          have hfin9 := hfin8.setG ng
          have hne : N ≠ g := blk_apart2 hb7.out hc7.out.blk (by decide)
          have z9 := blk_cell (j := 2) ((blk_other (w := w8) hne 2 (.slice A8 m8 k8)).trans (blk_below hb7.out hg8'.out)) rfl
          have cc9 := blk_cell (j := 5) hfin8.blk rfl
          have ff9 := blk_free hfin8.blk 5
          have hact : Hid (RcAct lo g y W { c with W := delP c.W ny, E := delP c.E ny, B := delP c.B ny, T := c.T, G := ng } ((w8.setCell ⟨g, 2, none⟩ (.slice A8 m8 k8)).setCell ⟨g, 5, none⟩ (.int .i64 ng))) := Lib.hid (RcAct.two hu1.out (fun q hq => .inl (by rcases hq with rfl | hq; (· exact .inl rfl); (· exact .inr hq))) (RcAct.two hu2.out hS2.out ⟨_, Lib.hid hfin9, (Upd.gr_set (hg7.out.trans hg8'.out) (.inl rfl)).trans (Upd.of_grown (blk_grown _ g 5 _) (.inl rfl)), fun q hq => .inl hq⟩))
          replace hfin8 := Lib.hid hfin8
          replace hfin9 := Lib.hid hfin9
          replace hc8 := Lib.hid hc8
          clear hne
          go_wp2_with fail
          go_ret
          exact ⟨by subst hrc; rfl, by subst hrc; exact hfr.out hact.out⟩
end Go.Proofs.YthboeoidgglcgaaGreat
