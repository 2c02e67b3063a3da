/- cat: the reference's rest: begin, retire. -/
import Derived.Test.YthboeoidgglcgaaGreatCpC
namespace Go.Proofs.YthboeoidgglcgaaGreat
set_option linter.unusedVariables false
set_option linter.unusedSimpArgs false
set_option linter.unusedSectionVars false
open Go Go.RowKit Go.Maps Go.Sort Go.Shelf Go.Proofs
theorem Rc.below {w w' : World} {lo g B : Nat} {y : RcX} {c : CtP} (h : Rc w lo g y c) (hb : Below B w w') (hB : w.heap.size = B) : Rc w' lo g y c := h.gr (by unfold Gr; rw [hB]; exact hb)
set_option maxRecDepth 10000 in
set_option maxHeartbeats 4000000 in
theorem rap4_any (lo g : Nat) (y : RcX) (c : CtP) (w : World) (h : Hid (Rc w lo g y c)) (hf : c.Few 999) (hok : c.Ok) (n : Nt) (v : Value) (hk : n.key.length ≤ maxLen) (w0 : World) (hv : NtV n v w0) (h0 : w0.heap.size ≤ lo) (hg0 : Gr w0 w) (hI : I64 n.cart) (hk1 : n.kind = 4) :
    Calls Tryz.prog 27 #[.pointer (some ⟨g, 0, none⟩), v] w (RPost lo g y w (c.begin_ n)) := by
  obtain ⟨A, ca, A2, c2, rfl, hdt, hpl⟩ := hv
  obtain ⟨N, hN⟩ : ∃ N, w.heap.size = N := ⟨_, rfl⟩
  obtain ⟨rc, hrc⟩ : ∃ rc, c.begin_ n = rc := ⟨_, rfl⟩
  rw [hrc]
  unfold CtP.begin_ at hrc
  obtain ⟨nk, ny, ng, nc, nd, nu, ns, np⟩ := n
  unfold Nt.agg
  simp only at hk1 hk hrc hdt hpl hI ⊢
  subst hk1
  obtain ⟨ld, hld⟩ : ∃ ld, nd.length = ld := ⟨_, rfl⟩
  obtain ⟨lp, hlp⟩ : ∃ lp, np.length = lp := ⟨_, rfl⟩
  rw [hld] at hdt ⊢
  rw [hlp] at hpl ⊢
  obtain ⟨W, hW⟩ : ∃ W, w.alloc (.cells #[.int .i64 4, .string (bs ny), .int .i64 ng, .int .i64 nc, .slice A ld ca, .string (bs nu), .int .i64 ns, .slice A2 lp c2] 37) = W := ⟨_, rfl⟩
  have hgW : Gr w W := by rw [← hW]; exact Gr.alloc _ _
  have hbW : W.heap[N]? = some (.cells #[.int .i64 4, .string (bs ny), .int .i64 ng, .int .i64 nc, .slice A ld ca, .string (bs nu), .int .i64 ns, .slice A2 lp c2] 37 (0, 0)) := by rw [← hW, ← hN]; exact heap_alloc_new w _
  have z0 := blk_cell (j := 0) hbW rfl
  have z1 := blk_cell (j := 1) hbW rfl
  have z2 := blk_cell (j := 2) hbW rfl
  have z4 := blk_cell (j := 4) hbW rfl
  have z6 := blk_cell (j := 6) hbW rfl
  have hcW := Lib.hid (h.out.gr hgW)
  have hfr : Hid (∀ {c' w'}, RcAct lo g y W c' w' → RcAct lo g y w c' w') := Lib.hid (fun h1 => RcAct.from_ hgW h1)
  have hsame : Hid (∀ w', Gr W w' → RcAct lo g y w c w') := Lib.hid (fun w' h1 => RcAct.gr h (hgW.trans h1))
  have hhc := Lib.hid (rhas_any lo g y c W hcW (few1 hf) hok ny)
  have hlt := Lib.hid (rlater_any lo g y c W hcW ng)
  have hhx : Hid (c.B.length ≤ 999) := Lib.hid hf.2.2.1
  have hbB := Lib.hid hbW
  have g5 := blk_cell (j := 5) hcW.out.blk rfl
  have f5 := blk_free hcW.out.blk 5
  replace hgW := Lib.hid hgW
  replace hbW := Lib.hid hbW
  replace hld := Lib.hid hld
  replace hlp := Lib.hid hlp
  replace hdt := Lib.hid hdt
  replace hpl := Lib.hid hpl
  cases hla : c.later ng with
  | false =>
    rw [hla] at hlt hrc
    obtain rfl : rc = (12, c) := by rw [← hrc, if_pos rfl]
    replace hla := Lib.hid hla
    clear hrc
    go_enter Tryz.func27, Tryz.ntmps27
    go_wp2_with (go_at_call 24; go_must (refine hlt.out.mono ?_); clear hlt; rintro e w' ⟨rfl, hww⟩; rw [hww]; clear hww w')
    go_ret
    exact ⟨rfl, hsame.out _ (Gr.refl _)⟩
  | true =>
    rw [hla] at hlt hrc
    rw [if_neg (by decide)] at hrc
    replace hla := Lib.hid hla
    have hR6 : Hid (Rc (W.setCell ⟨g, 5, none⟩ (.int .i64 ng)) lo g y { c with G := ng }) := Lib.hid (hcW.out.setG ng)
    have hu6 : Hid (Upd (y.S g) W (W.setCell ⟨g, 5, none⟩ (.int .i64 ng))) := Lib.hid (Upd.of_grown (blk_grown W g 5 _) (.inl rfl))
    have hb6 := Lib.hid (hcW.out.other hu6.out hbB.out (by decide) (by decide))
    have z61 := blk_cell (j := 1) hb6.out rfl
    by_cases hk0 : ny = []
    · subst hk0
      rw [if_neg (by simp)] at hrc
      simp only [if_true] at hrc
      have hact : Hid (RcAct lo g y w { c with G := ng } (W.setCell ⟨g, 5, none⟩ (.int .i64 ng))) := Lib.hid (hfr.out ⟨_, hR6, hu6.out, fun q hq => .inl hq⟩)
      go_enter Tryz.func27, Tryz.ntmps27
      go_wp2_with (first
        | (go_at_call 24; go_must (refine hlt.out.mono ?_); clear hlt; rintro e w' ⟨rfl, hww⟩; rw [hww]; clear hww w')
        | (go_at_call 12; go_must (refine hhc.out.mono ?_); clear hhc; rintro e w' ⟨rfl, hww⟩; rw [hww]; clear hww w'))
      go_ret
      exact ⟨by subst hrc; rfl, by subst hrc; exact hact.out⟩
    · have hne : (ny == []) = false := by simpa using hk0
      cases hha : c.has ny with
      | false =>
        rw [hha] at hhc hrc
        obtain rfl : rc = (5, c) := by rw [← hrc, if_pos ⟨hk0, rfl⟩]
        replace hha := Lib.hid hha
        clear hrc
        go_enter Tryz.func27, Tryz.ntmps27
        go_wp2_with (first
          | (go_at_call 24; go_must (refine hlt.out.mono ?_); clear hlt; rintro e w' ⟨rfl, hww⟩; rw [hww]; clear hww w')
          | (go_at_call 12; go_must (refine hhc.out.mono ?_); clear hhc; rintro e w' ⟨rfl, hww⟩; rw [hww]; clear hww w'))
        go_ret
        exact ⟨rfl, hsame.out _ (Gr.refl _)⟩
      | true =>
        rw [hha] at hhc hrc
        rw [if_neg (by simp), if_neg hk0] at hrc
        replace hha := Lib.hid hha
        have hk0' := Lib.hid hk0
        go_enter Tryz.func27, Tryz.ntmps27
        go_upto_region 8 with (first
          | (go_at_call 24; go_must (refine hlt.out.mono ?_); clear hlt; rintro e w' ⟨rfl, hww⟩; rw [hww]; clear hww w')
          | (go_at_call 12; go_must (refine hhc.out.mono ?_); clear hhc; rintro e w' ⟨rfl, hww⟩; rw [hww]; clear hww w'))
        clear z0 z1 z2 z4 z6 g5 f5 z61
        obtain ⟨WQ, hWQ⟩ : ∃ W6, W6 = W.setCell ⟨g, 5, none⟩ (.int .i64 ng) := ⟨_, rfl⟩
        rw [← hWQ] at hR6 hu6 hb6
        rw [← hWQ]
        replace hWQ := Lib.hid hWQ
        obtain ⟨wd, hwd⟩ : ∃ wd, wd = WQ.drew := ⟨_, rfl⟩
        have hgd : Gr WQ wd := by rw [hwd]; exact (Below.refl _ _).drew
        have hcd := Lib.hid (hR6.out.gr hgd)
        have hbd := Lib.hid (blk_below hb6.out hgd)
        obtain ⟨B2, hB2⟩ : ∃ b, wd.heap.size = b := ⟨_, rfl⟩
        have hgB : g < B2 := by rw [← hB2]; exact blk_lt hcd.out.blk
        have hqd : Hid (Below B2 wd wd) := Lib.hid (Below.refl _ _)
        have hzd : Hid (B2 ≤ wd.heap.size) := Lib.hid (by rw [hB2]; exact Nat.le_refl _)
        have hlB : Hid (lo ≤ B2) := Lib.hid (by have := hcd.out.lg; omega)
        have hgBB : Hid (∀ q, Below B2 wd q → Gr WQ q) := Lib.hid (fun q h1 => Gr.trans hgd (by unfold Gr; rw [hB2]; exact h1))
        replace hgd := Lib.hid hgd
        replace hB2 := Lib.hid hB2
        refine wpR_region (Below B2) 17 (by kernel_rfl) ?_
        (rw [← hwd]; replace hwd := Lib.hid hwd)
        refine wT (i := 0) (v := ?_) (⟨fun x => Below.refl _ x, fun h1 h2 => h1.trans h2⟩) (some 33) rfl (fun w' hw' => ?_) ?_
        rotate_left
        · go_simp; with_reducible rfl
        simp only [Act.put, List.setIfInBounds_toArray, List.set_cons_zero, List.set_cons_succ]
        refine wT (i := 1) (v := ?_) (⟨fun x => Below.refl _ x, fun h1 h2 => h1.trans h2⟩) (some 34) rfl (fun w' hw' => ?_) ?_
        rotate_left
        · go_simp; with_reducible rfl
        simp only [Act.put, List.setIfInBounds_toArray, List.set_cons_zero, List.set_cons_succ]
        refine wT (i := 2) (v := ?_) (⟨fun x => Below.refl _ x, fun h1 h2 => h1.trans h2⟩) (some 35) rfl (fun w' hw' => ?_) ?_
        rotate_left
        · go_simp; with_reducible rfl
        simp only [Act.put, List.setIfInBounds_toArray, List.set_cons_zero, List.set_cons_succ]
        refine wT (i := 3) (v := ?_) (⟨fun x => Below.refl _ x, fun h1 h2 => h1.trans h2⟩) (some 36) rfl (fun w' hw' => ?_) ?_
        rotate_left
        · go_simp; with_reducible rfl
        simp only [Act.put, List.setIfInBounds_toArray, List.set_cons_zero, List.set_cons_succ]
        refine wT (i := 4) (v := ?_) (⟨fun x => Below.refl _ x, fun h1 h2 => h1.trans h2⟩) (some 37) rfl (fun w' hw' => ?_) ?_
        rotate_left
        · have q := blk_cell (j := 2) ((hw'.block g hgB).trans hcd.out.blk) rfl; go_simp; with_reducible rfl
        simp only [Act.put, List.setIfInBounds_toArray, List.set_cons_zero, List.set_cons_succ]
        refine wT (i := 5) (v := ?_) (⟨fun x => Below.refl _ x, fun h1 h2 => h1.trans h2⟩) (some 38) rfl (fun w' hw' => ?_) ?_
        rotate_left
        · go_simp; with_reducible rfl
        simp only [Act.put, List.setIfInBounds_toArray, List.set_cons_zero, List.set_cons_succ]
        refine wT (i := 6) (v := ?_) (⟨fun x => Below.refl _ x, fun h1 h2 => h1.trans h2⟩) (some 39) rfl (fun w' hw' => ?_) ?_
        rotate_left
        · have q1 := blk_cell (j := 1) ((hw'.block N (by rw [← hB2.out]; exact blk_lt hbd.out)).trans hbd.out) rfl; go_simp; with_reducible rfl
        simp only [Act.put, List.setIfInBounds_toArray, List.set_cons_zero, List.set_cons_succ]
        refine wT (i := 8) (v := ?_) (⟨fun x => Below.refl _ x, fun h1 h2 => h1.trans h2⟩) (some 41) rfl (fun w' hw' => ?_) ?_
        rotate_left
        · go_simp; with_reducible rfl
        simp only [Act.put, List.setIfInBounds_toArray, List.set_cons_zero, List.set_cons_succ]
        refine wT (i := 9) (v := ?_) (⟨fun x => Below.refl _ x, fun h1 h2 => h1.trans h2⟩) (some 42) rfl (fun w' hw' => ?_) ?_
        rotate_left
        · have q1 := blk_cell (j := 1) ((hw'.block N (by rw [← hB2.out]; exact blk_lt hbd.out)).trans hbd.out) rfl; go_simp; with_reducible rfl
        simp only [Act.put, List.setIfInBounds_toArray, List.set_cons_zero, List.set_cons_succ]
        refine wT (i := 10) (v := ?_) (⟨fun x => Below.refl _ x, fun h1 h2 => h1.trans h2⟩) (some 43) rfl (fun w' hw' => ?_) ?_
        rotate_left
        · go_simp; with_reducible rfl
        simp only [Act.put, List.setIfInBounds_toArray, List.set_cons_zero, List.set_cons_succ]
        refine wT (i := 11) (v := ?_) (⟨fun x => Below.refl _ x, fun h1 h2 => h1.trans h2⟩) (some 44) rfl (fun w' hw' => ?_) ?_
        rotate_left
        · have q2 := blk_cell (j := 2) ((hw'.block N (by rw [← hB2.out]; exact blk_lt hbd.out)).trans hbd.out) rfl; go_simp; with_reducible rfl
        simp only [Act.put, List.setIfInBounds_toArray, List.set_cons_zero, List.set_cons_succ]
        refine wT (i := 12) (v := ?_) (⟨fun x => Below.refl _ x, fun h1 h2 => h1.trans h2⟩) (some 45) rfl (fun w' hw' => ?_) ?_
        rotate_left
        · go_simp; with_reducible rfl
        simp only [Act.put, List.setIfInBounds_toArray, List.set_cons_zero, List.set_cons_succ]
        refine wpR_two 7 13 rfl rfl (by kernel_rfl) (by kernel_rfl) (by kernel_rfl) (fun K hK => ?_) (fun K hK => ?_)
        · go_simp
          refine (rwithout_any c.B lo _ wd (Rc.below hcd.out hqd.out hB2.out).bs (by have := hhx.out; omega) ny).mono ?_
          rintro e V7 ⟨v8, rfl, ho8, hg8⟩
          have hr8 : Below B2 wd V7 := Below.mono hg8 hzd.out
          have hown8 : Hid (∀ j, v8.ownBlock = some j → B2 ≤ j) := Lib.hid (fun j hj => Nat.le_trans hzd.out (World.ownsRow.lt ho8 j hj).1)
          have hlo8 : Hid (V7.ownsRow lo 63 2 v8 (delP c.B ny).length (flatT (delP c.B ny))) := Lib.hid (row_more ho8 (Nat.le_trans hlB.out hzd.out))
          replace ho8 := hlo8
          have hq7 : Hid (Below B2 wd V7) := Lib.hid (hqd.out.trans hr8)
          have hz7 : Hid (B2 ≤ V7.heap.size) := Lib.hid (Nat.le_trans hzd.out hr8.size)
          replace hg8 := Lib.hid hg8
          refine hK _ _ (fun _ => hr8) ?_
          clear hK K
          clear hlo8
          try simp only [Act.put, List.setIfInBounds_toArray, List.set_cons_zero, List.set_cons_succ]
          refine wpR_one 13 rfl (by kernel_rfl) (by kernel_rfl) (fun K hK => ?_)
          go_simp
          obtain ⟨g9, hg9e⟩ : ∃ g9, V7.heap.size = g9 := ⟨_, rfl⟩
          obtain ⟨V13, hV9⟩ : ∃ W, W = V7.alloc (.cells #[.string (bs ny), .int .i64 ng] 63) := ⟨_, rfl⟩
          have hr9 : Below B2 V7 V13 := by rw [hV9]; exact (Below.refl _ _).alloc hz7.out _
          have hl9 : Hid (V13.heap[g9]? = some (.cells #[.string (bs ny), .int .i64 ng] 63 (0, 0))) := Lib.hid (by rw [hV9, ← hg9e]; exact heap_alloc_new _ _)
          have hq13 : Hid (Below B2 wd V13) := Lib.hid (hq7.out.trans hr9)
          have hz13 : Hid (B2 ≤ V13.heap.size) := Lib.hid (Nat.le_trans hz7.out hr9.size)
          replace ho8 := Lib.hid (row_below ho8.out (show Gr V7 V13 by rw [hV9]; exact Gr.alloc _ _))
          rw [← hV9, hg9e]
          replace hV9 := Lib.hid hV9
          replace hg9e := Lib.hid hg9e
          refine hK _ _ (fun _ => hr9) ?_
          clear hK K
          try simp only [Act.put, List.setIfInBounds_toArray, List.set_cons_zero, List.set_cons_succ]
          refine wpR_one 14 rfl (by kernel_rfl) (by kernel_rfl) (fun K hK => ?_)
          refine wp_appM (.tmp 40) (.tmp 46) rfl lo _ (delP c.B ny) rfl ho8.out _ _ [(ny, ng)] rfl (Reads.blk2 hl9.out) (by have := hhx.out; have := delP_le c.B ny; simp; omega) (Nat.le_trans hlB.out hz13.out) ?_
          intro v10 V14 ho10 hgr10 hlc10
          have hr10 : Below B2 V13 V14 := (Below.refl _ _).grown hgr10 hz13.out hown8.out
          obtain ⟨A10, k10, rfl, -, -⟩ := row_form ho10
          obtain ⟨m10, hm10⟩ : ∃ m, (delP c.B ny ++ [(ny, ng)]).length = m := ⟨_, rfl⟩
          replace ho10 := Lib.hid ho10
          rw [hm10]
          have hq14 : Hid (Below B2 wd V14) := Lib.hid (hq13.out.trans hr10)
          have hb10 := Lib.hid ((hq14.out.block g hgB).trans hcd.out.blk)
          refine hK _ _ (fun _ => hr10) ?_
          clear hK K
          clear hgr10 hr10 hlc10
          try simp only [Act.put, List.setIfInBounds_toArray, List.set_cons_zero, List.set_cons_succ]
          refine wU (i := 15) (v := ?_) (⟨fun x => Below.refl _ x, fun h1 h2 => h1.trans h2⟩) (some 48) rfl (fun w' => ?_) ?_
          rotate_left
          · go_simp; with_reducible rfl
          simp only [Act.put, List.setIfInBounds_toArray, List.set_cons_zero, List.set_cons_succ]
          refine wT (i := 16) (v := ?_) (⟨fun x => Below.refl _ x, fun h1 h2 => h1.trans h2⟩) (some 49) rfl (fun w' hw' => ?_) ?_
          rotate_left
          · go_simp; with_reducible rfl
          simp only [Act.put, List.setIfInBounds_toArray, List.set_cons_zero, List.set_cons_succ]
          refine wpR_one 17 rfl (by kernel_rfl) (by kernel_rfl) (fun K hK => ?_)
          have cc3 := blk_cell (j := 2) hb10.out rfl
          have f3 := blk_free hb10.out 2
          go_simp
          refine hK _ _ (fun h => absurd h (by decide)) ?_
          clear hK K
          clear cc3 f3
          try simp only [Act.put, List.setIfInBounds_toArray, List.set_cons_zero, List.set_cons_succ]
          refine wpR_done (by kernel_rfl) ?_ _
          obtain ⟨WZ, hWZ⟩ : ∃ W, W = V14.setCell ⟨g, 2, none⟩ (.slice A10 m10 k10) := ⟨_, rfl⟩
          rw [← hWZ]
          have hgV : Gr WQ V14 := hgBB.out _ hq14.out
          have hact : Hid (RcAct lo g y w { c with G := ng, B := delP c.B ny ++ [(ny, ng)] } WZ) := Lib.hid (hfr.out (RcAct.two hu6.out (fun q hq => .inl hq) ⟨{ y with vB := Value.slice A10 m10 k10 }, Lib.hid (by rw [hWZ]; exact (hR6.out.gr hgV).setB (B' := delP c.B ny ++ [(ny, ng)]) (v := .slice A10 m10 k10) (by rw [← hm10]; exact ho10.out)), by rw [hWZ]; exact Upd.gr_set hgV (.inl rfl), fun q hq => .inl hq⟩))
          replace hWZ := Lib.hid hWZ
          clear hgV hm10
          go_wp2_with fail
          go_ret
          exact ⟨by subst hrc; rfl, by subst hrc; exact hact.out⟩
        · go_simp
          obtain ⟨g9, hg9e⟩ : ∃ g9, wd.heap.size = g9 := ⟨_, rfl⟩
          obtain ⟨V13, hV9⟩ : ∃ W, W = wd.alloc (.cells #[.string (bs ny), .int .i64 ng] 63) := ⟨_, rfl⟩
          have hr9 : Below B2 wd V13 := by rw [hV9]; exact (Below.refl _ _).alloc hzd.out _
          have hl9 : Hid (V13.heap[g9]? = some (.cells #[.string (bs ny), .int .i64 ng] 63 (0, 0))) := Lib.hid (by rw [hV9, ← hg9e]; exact heap_alloc_new _ _)
          have hq13 : Hid (Below B2 wd V13) := Lib.hid (hqd.out.trans hr9)
          have hz13 : Hid (B2 ≤ V13.heap.size) := Lib.hid (Nat.le_trans hzd.out hr9.size)
          rw [← hV9, hg9e]
          replace hV9 := Lib.hid hV9
          replace hg9e := Lib.hid hg9e
          refine hK _ _ (fun _ => hr9) ?_
          clear hK K
          try simp only [Act.put, List.setIfInBounds_toArray, List.set_cons_zero, List.set_cons_succ]
          refine wpR_one 7 rfl (by kernel_rfl) (by kernel_rfl) (fun K hK => ?_)
          go_simp
          refine (rwithout_any c.B lo _ V13 (Rc.below hcd.out hq13.out hB2.out).bs (by have := hhx.out; omega) ny).mono ?_
          rintro e V7 ⟨v8, rfl, ho8, hg8⟩
          have hr8 : Below B2 V13 V7 := Below.mono hg8 hz13.out
          have hown8 : Hid (∀ j, v8.ownBlock = some j → B2 ≤ j) := Lib.hid (fun j hj => Nat.le_trans hz13.out (World.ownsRow.lt ho8 j hj).1)
          have hlo8 : Hid (V7.ownsRow lo 63 2 v8 (delP c.B ny).length (flatT (delP c.B ny))) := Lib.hid (row_more ho8 (Nat.le_trans hlB.out hz13.out))
          replace hl9 := Lib.hid (blk_below hl9.out hg8)
          replace ho8 := hlo8
          have hq7 : Hid (Below B2 wd V7) := Lib.hid (hq13.out.trans hr8)
          have hz7 : Hid (B2 ≤ V7.heap.size) := Lib.hid (Nat.le_trans hz13.out hr8.size)
          replace hg8 := Lib.hid hg8
          refine hK _ _ (fun _ => hr8) ?_
          clear hK K
          clear hlo8
          try simp only [Act.put, List.setIfInBounds_toArray, List.set_cons_zero, List.set_cons_succ]
          refine wpR_one 14 rfl (by kernel_rfl) (by kernel_rfl) (fun K hK => ?_)
          refine wp_appM (.tmp 40) (.tmp 46) rfl lo _ (delP c.B ny) rfl ho8.out _ _ [(ny, ng)] rfl (Reads.blk2 hl9.out) (by have := hhx.out; have := delP_le c.B ny; simp; omega) (Nat.le_trans hlB.out hz7.out) ?_
          intro v10 V14 ho10 hgr10 hlc10
          have hr10 : Below B2 V7 V14 := (Below.refl _ _).grown hgr10 hz7.out hown8.out
          obtain ⟨A10, k10, rfl, -, -⟩ := row_form ho10
          obtain ⟨m10, hm10⟩ : ∃ m, (delP c.B ny ++ [(ny, ng)]).length = m := ⟨_, rfl⟩
          replace ho10 := Lib.hid ho10
          rw [hm10]
          have hq14 : Hid (Below B2 wd V14) := Lib.hid (hq7.out.trans hr10)
          have hb10 := Lib.hid ((hq14.out.block g hgB).trans hcd.out.blk)
          refine hK _ _ (fun _ => hr10) ?_
          clear hK K
          clear hgr10 hr10 hlc10
          try simp only [Act.put, List.setIfInBounds_toArray, List.set_cons_zero, List.set_cons_succ]
          refine wU (i := 15) (v := ?_) (⟨fun x => Below.refl _ x, fun h1 h2 => h1.trans h2⟩) (some 48) rfl (fun w' => ?_) ?_
          rotate_left
          · go_simp; with_reducible rfl
          simp only [Act.put, List.setIfInBounds_toArray, List.set_cons_zero, List.set_cons_succ]
          refine wT (i := 16) (v := ?_) (⟨fun x => Below.refl _ x, fun h1 h2 => h1.trans h2⟩) (some 49) rfl (fun w' hw' => ?_) ?_
          rotate_left
          · go_simp; with_reducible rfl
          simp only [Act.put, List.setIfInBounds_toArray, List.set_cons_zero, List.set_cons_succ]
          refine wpR_one 17 rfl (by kernel_rfl) (by kernel_rfl) (fun K hK => ?_)
          have cc3 := blk_cell (j := 2) hb10.out rfl
          have f3 := blk_free hb10.out 2
          go_simp
          refine hK _ _ (fun h => absurd h (by decide)) ?_
          clear hK K
          clear cc3 f3
          try simp only [Act.put, List.setIfInBounds_toArray, List.set_cons_zero, List.set_cons_succ]
          refine wpR_done (by kernel_rfl) ?_ _
          obtain ⟨WZ, hWZ⟩ : ∃ W, W = V14.setCell ⟨g, 2, none⟩ (.slice A10 m10 k10) := ⟨_, rfl⟩
          rw [← hWZ]
          have hgV : Gr WQ V14 := hgBB.out _ hq14.out
          have hact : Hid (RcAct lo g y w { c with G := ng, B := delP c.B ny ++ [(ny, ng)] } WZ) := Lib.hid (hfr.out (RcAct.two hu6.out (fun q hq => .inl hq) ⟨{ y with vB := Value.slice A10 m10 k10 }, Lib.hid (by rw [hWZ]; exact (hR6.out.gr hgV).setB (B' := delP c.B ny ++ [(ny, ng)]) (v := .slice A10 m10 k10) (by rw [← hm10]; exact ho10.out)), by rw [hWZ]; exact Upd.gr_set hgV (.inl rfl), fun q hq => .inl hq⟩))
          replace hWZ := Lib.hid hWZ
          clear hgV hm10
          go_wp2_with fail
          go_ret
          exact ⟨by subst hrc; rfl, by subst hrc; exact hact.out⟩
set_option maxRecDepth 10000 in
set_option maxHeartbeats 4000000 in
theorem rap5_any (lo g : Nat) (y : RcX) (c : CtP) (w : World) (h : Hid (Rc w lo g y c)) (hf : c.Few 999) (hok : c.Ok) (n : Nt) (v : Value) (hk : n.key.length ≤ maxLen) (w0 : World) (hv : NtV n v w0) (h0 : w0.heap.size ≤ lo) (hg0 : Gr w0 w) (hI : I64 n.cart) (hk1 : n.kind = 5) :
    Calls Tryz.prog 27 #[.pointer (some ⟨g, 0, none⟩), v] w (RPost lo g y w (c.retire n)) := by
  obtain ⟨A, ca, A2, c2, rfl, hdt, hpl⟩ := hv
  obtain ⟨N, hN⟩ : ∃ N, w.heap.size = N := ⟨_, rfl⟩
  obtain ⟨rc, hrc⟩ : ∃ rc, c.retire n = rc := ⟨_, rfl⟩
  rw [hrc]
  unfold CtP.retire at hrc
  obtain ⟨nk, ny, ng, nc, nd, nu, ns, np⟩ := n
  unfold Nt.agg
  simp only at hk1 hk hrc hdt hpl hI ⊢
  subst hk1
  obtain ⟨ld, hld⟩ : ∃ ld, nd.length = ld := ⟨_, rfl⟩
  obtain ⟨lp, hlp⟩ : ∃ lp, np.length = lp := ⟨_, rfl⟩
  rw [hld] at hdt ⊢
  rw [hlp] at hpl ⊢
  obtain ⟨W, hW⟩ : ∃ W, w.alloc (.cells #[.int .i64 5, .string (bs ny), .int .i64 ng, .int .i64 nc, .slice A ld ca, .string (bs nu), .int .i64 ns, .slice A2 lp c2] 37) = W := ⟨_, rfl⟩
  have hgW : Gr w W := by rw [← hW]; exact Gr.alloc _ _
  have hbW : W.heap[N]? = some (.cells #[.int .i64 5, .string (bs ny), .int .i64 ng, .int .i64 nc, .slice A ld ca, .string (bs nu), .int .i64 ns, .slice A2 lp c2] 37 (0, 0)) := by rw [← hW, ← hN]; exact heap_alloc_new w _
  have z0 := blk_cell (j := 0) hbW rfl
  have z1 := blk_cell (j := 1) hbW rfl
  have z2 := blk_cell (j := 2) hbW rfl
  have z4 := blk_cell (j := 4) hbW rfl
  have z6 := blk_cell (j := 6) hbW rfl
  have hcW := Lib.hid (h.out.gr hgW)
  have hfr : Hid (∀ {c' w'}, RcAct lo g y W c' w' → RcAct lo g y w c' w') := Lib.hid (fun h1 => RcAct.from_ hgW h1)
  have hsame : Hid (∀ w', Gr W w' → RcAct lo g y w c w') := Lib.hid (fun w' h1 => RcAct.gr h (hgW.trans h1))
  have z3 := blk_cell (j := 3) hbW rfl
  have hou := Lib.hid (rout_any lo g y c W hcW (few1 hf) nc)
  have hhx : Hid (c.R.length ≤ 999) := Lib.hid hf.2.2.2.2
  have hbB := Lib.hid hbW
  replace hgW := Lib.hid hgW
  replace hbW := Lib.hid hbW
  replace hld := Lib.hid hld
  replace hlp := Lib.hid hlp
  replace hdt := Lib.hid hdt
  replace hpl := Lib.hid hpl
  by_cases h1 : nc < 0
  · obtain rfl : rc = (12, c) := by rw [← hrc, if_pos (.inl h1)]
    clear hrc
    go_enter Tryz.func27, Tryz.ntmps27
    go_wp2_with fail
    go_ret
    exact ⟨rfl, hsame.out _ (Gr.refl _)⟩
  by_cases h2 : 31 < nc
  · obtain rfl : rc = (12, c) := by rw [← hrc, if_pos (.inr h2)]
    clear hrc
    go_enter Tryz.func27, Tryz.ntmps27
    go_wp2_with fail
    go_ret
    exact ⟨rfl, hsame.out _ (Gr.refl _)⟩
  rw [if_neg (by omega)] at hrc
  cases hct : c.R.contains nc with
  | true =>
    rw [hct] at hou hrc
    simp only [if_true] at hrc
    replace hct := Lib.hid hct
    have hact : Hid (RcAct lo g y w c W) := Lib.hid (hsame.out _ (Gr.refl _))
    go_enter Tryz.func27, Tryz.ntmps27
    go_wp2_with (go_at_call 30; go_must (refine hou.out.mono ?_); clear hou; rintro e w' ⟨rfl, hww⟩; rw [hww]; clear hww w')
    go_ret
    exact ⟨by subst hrc; rfl, by subst hrc; exact hact.out⟩
  | false =>
    rw [hct] at hou hrc
    rw [if_neg (by decide)] at hrc
    replace hct := Lib.hid hct
    go_enter Tryz.func27, Tryz.ntmps27
    go_upto_region 14 with (go_at_call 30; go_must (refine hou.out.mono ?_); clear hou; rintro e w' ⟨rfl, hww⟩; rw [hww]; clear hww w')
    clear z0 z1 z2 z3 z4 z6
    obtain ⟨AT, cT, hvT, -, -⟩ := row_form hcW.out.rs
    obtain ⟨nT, hnT⟩ : ∃ m, c.R.length = m := ⟨_, rfl⟩
    rw [hnT] at hvT
    obtain ⟨wd, hwd⟩ : ∃ wd, wd = W.drew := ⟨_, rfl⟩
    have hgd : Gr W wd := by rw [hwd]; exact (Below.refl _ _).drew
    have hcd := Lib.hid (hcW.out.gr hgd)
    have hbd := Lib.hid (blk_below hbB.out hgd)
    obtain ⟨B2, hB2⟩ : ∃ b, wd.heap.size = b := ⟨_, rfl⟩
    have hgB : g < B2 := by rw [← hB2]; exact blk_lt hcd.out.blk
    have hqd : Hid (Below B2 wd wd) := Lib.hid (Below.refl _ _)
    have hzd : Hid (B2 ≤ wd.heap.size) := Lib.hid (by rw [hB2]; exact Nat.le_refl _)
    have hlB : Hid (lo ≤ B2) := Lib.hid (by have := hcd.out.lg; omega)
    have hgBB : Hid (∀ q, Below B2 wd q → Gr W q) := Lib.hid (fun q h1 => Gr.trans hgd (by unfold Gr; rw [hB2]; exact h1))
    replace hgd := Lib.hid hgd
    replace hB2 := Lib.hid hB2
    have hRt : Hid (Reads wd B2 1 AT nT (List.map encZ c.R)) := Lib.hid (by have := hcd.out.rs; unfold OZ at this; rw [hvT, hnT] at this; have h2 := Reads.of_own this; rw [hB2.out] at h2; exact h2)
    have hLl : Hid (c.R.length ≤ 1000) := Lib.hid (by have := hhx.out; omega)
    replace hvT := Lib.hid hvT
    replace hnT := Lib.hid hnT
    refine wpR_region (Below B2) 13 (by kernel_rfl) ?_
    (rw [← hwd]; replace hwd := Lib.hid hwd)
    refine wT (i := 0) (v := ?_) (⟨fun x => Below.refl _ x, fun h1 h2 => h1.trans h2⟩) (some 66) rfl (fun w' hw' => ?_) ?_
    rotate_left
    · go_simp; with_reducible rfl
    simp only [Act.put, List.setIfInBounds_toArray, List.set_cons_zero, List.set_cons_succ]
    refine wT (i := 2) (v := ?_) (⟨fun x => Below.refl _ x, fun h1 h2 => h1.trans h2⟩) (some 68) rfl (fun w' hw' => ?_) ?_
    rotate_left
    · go_simp; with_reducible rfl
    simp only [Act.put, List.setIfInBounds_toArray, List.set_cons_zero, List.set_cons_succ]
    refine wT (i := 3) (v := ?_) (⟨fun x => Below.refl _ x, fun h1 h2 => h1.trans h2⟩) (some 69) rfl (fun w' hw' => ?_) ?_
    rotate_left
    · go_simp; with_reducible rfl
    simp only [Act.put, List.setIfInBounds_toArray, List.set_cons_zero, List.set_cons_succ]
    refine wT (i := 4) (v := ?_) (⟨fun x => Below.refl _ x, fun h1 h2 => h1.trans h2⟩) (some 70) rfl (fun w' hw' => ?_) ?_
    rotate_left
    · go_simp; with_reducible rfl
    simp only [Act.put, List.setIfInBounds_toArray, List.set_cons_zero, List.set_cons_succ]
    refine wT (i := 5) (v := ?_) (⟨fun x => Below.refl _ x, fun h1 h2 => h1.trans h2⟩) (some 71) rfl (fun w' hw' => ?_) ?_
    rotate_left
    · have q := blk_cell (j := 4) ((hw'.block g hgB).trans hcd.out.blk) rfl; rw [hvT.out] at q; go_simp; with_reducible rfl
    simp only [Act.put, List.setIfInBounds_toArray, List.set_cons_zero, List.set_cons_succ]
    refine wT (i := 7) (v := ?_) (⟨fun x => Below.refl _ x, fun h1 h2 => h1.trans h2⟩) (some 73) rfl (fun w' hw' => ?_) ?_
    rotate_left
    · go_simp; with_reducible rfl
    simp only [Act.put, List.setIfInBounds_toArray, List.set_cons_zero, List.set_cons_succ]
    refine wT (i := 8) (v := ?_) (⟨fun x => Below.refl _ x, fun h1 h2 => h1.trans h2⟩) (some 74) rfl (fun w' hw' => ?_) ?_
    rotate_left
    · have q3 := blk_cell (j := 3) ((hw'.block N (by rw [← hB2.out]; exact blk_lt hbd.out)).trans hbd.out) rfl; go_simp; with_reducible rfl
    simp only [Act.put, List.setIfInBounds_toArray, List.set_cons_zero, List.set_cons_succ]
    refine wpR_two 1 9 rfl rfl (by kernel_rfl) (by kernel_rfl) (by kernel_rfl) (fun K hK => ?_) (fun K hK => ?_)
    · go_simp
      obtain ⟨g0, hg0e⟩ : ∃ g0, wd.heap.size = g0 := ⟨_, rfl⟩
      obtain ⟨V1, hV0⟩ : ∃ W, W = wd.alloc (.cells #[] 3) := ⟨_, rfl⟩
      have hr0 : Below B2 wd V1 := by rw [hV0]; exact (Below.refl _ _).alloc hzd.out _
      have ho0 : Hid (V1.ownsRow lo 3 1 (.slice (some ⟨g0, 0, none⟩) 0 0) ([] : List (Int)).length (List.map encZ [])) := Lib.hid (by rw [hV0, ← hg0e]; exact World.ownsRow_made _ #[] 0 (Nat.le_trans hlB.out hzd.out) (by simp [maxLen]) rfl)
      have hgB0 : Hid (B2 ≤ g0) := Lib.hid (by rw [← hg0e]; exact hzd.out)
      have hq1 : Hid (Below B2 wd V1) := Lib.hid (hqd.out.trans hr0)
      have hz1 : Hid (B2 ≤ V1.heap.size) := Lib.hid (Nat.le_trans hzd.out hr0.size)
      rw [← hV0, hg0e]
      replace hV0 := Lib.hid hV0
      replace hg0e := Lib.hid hg0e
      refine hK _ _ (fun _ => hr0) ?_
      clear hK K
      try simp only [Act.put, List.setIfInBounds_toArray, List.set_cons_zero, List.set_cons_succ]
      refine wpR_two 6 9 rfl rfl (by kernel_rfl) (by kernel_rfl) (by kernel_rfl) (fun K hK => ?_) (fun K hK => ?_)
      · refine wp_appZ (.tmp 67) (.tmp 71) rfl lo _ [] rfl ho0.out _ _ c.R rfl ((hRt.out.below hq1.out).more (Nat.le_refl _)) (by have := hLl.out; simp; omega) (Nat.le_trans hlB.out hz1.out) ?_
        intro v7 V6 ho7 hgr7 hlc7
        rw [List.nil_append] at ho7
        have hr7 : Below B2 V1 V6 := (Below.refl _ _).grown hgr7 hz1.out (fun j hj => by injection hj with hj; have hj : g0 = j := hj; rw [← hj]; exact hgB0.out)
        have hown7 : Hid (∀ j, v7.ownBlock = some j → B2 ≤ j) := Lib.hid (fun j hj => by rcases hlc7 with e | e; (· have e2 := e.symm.trans hj; injection e2 with e2; have e2 : g0 = j := e2; rw [← e2]; exact hgB0.out); (· have e2 := e.symm.trans hj; injection e2 with e2; rw [← e2]; exact hz1.out))
        replace ho7 := Lib.hid ho7
        have hq6 : Hid (Below B2 wd V6) := Lib.hid (hq1.out.trans hr7)
        have hz6 : Hid (B2 ≤ V6.heap.size) := Lib.hid (Nat.le_trans hz1.out hr7.size)
        refine hK _ _ (fun _ => hr7) ?_
        clear hK K
        clear hgr7 hr7 hlc7
        try simp only [Act.put, List.setIfInBounds_toArray, List.set_cons_zero, List.set_cons_succ]
        refine wpR_one 9 rfl (by kernel_rfl) (by kernel_rfl) (fun K hK => ?_)
        go_simp
        obtain ⟨g9, hg9e⟩ : ∃ g9, V6.heap.size = g9 := ⟨_, rfl⟩
        obtain ⟨V9, hV9⟩ : ∃ W, W = V6.alloc (.cells #[.int .i64 nc] 3) := ⟨_, rfl⟩
        have hr9 : Below B2 V6 V9 := by rw [hV9]; exact (Below.refl _ _).alloc hz6.out _
        have hl9 : Hid (V9.heap[g9]? = some (.cells #[.int .i64 nc] 3 (0, 0))) := Lib.hid (by rw [hV9, ← hg9e]; exact heap_alloc_new _ _)
        have hq9 : Hid (Below B2 wd V9) := Lib.hid (hq6.out.trans hr9)
        have hz9 : Hid (B2 ≤ V9.heap.size) := Lib.hid (Nat.le_trans hz6.out hr9.size)
        replace ho7 := Lib.hid (row_below ho7.out (show Gr V6 V9 by rw [hV9]; exact Gr.alloc _ _))
        rw [← hV9, hg9e]
        replace hV9 := Lib.hid hV9
        replace hg9e := Lib.hid hg9e
        refine hK _ _ (fun _ => hr9) ?_
        clear hK K
        try simp only [Act.put, List.setIfInBounds_toArray, List.set_cons_zero, List.set_cons_succ]
        refine wpR_one 10 rfl (by kernel_rfl) (by kernel_rfl) (fun K hK => ?_)
        refine wp_appZ (.tmp 72) (.tmp 75) rfl lo _ c.R rfl ho7.out _ _ [nc] rfl (Reads.blk1 hl9.out) (by have := hLl.out; simp; omega) (Nat.le_trans hlB.out hz9.out) ?_
        intro v8 V10 ho10 hgr10 hlc10
        have hr10 : Below B2 V9 V10 := (Below.refl _ _).grown hgr10 hz9.out hown7.out
        obtain ⟨A10, k10, rfl, -, -⟩ := row_form ho10
        obtain ⟨m10, hm10⟩ : ∃ m, (c.R ++ [nc]).length = m := ⟨_, rfl⟩
        replace ho10 := Lib.hid ho10
        rw [hm10]
        have hq10 : Hid (Below B2 wd V10) := Lib.hid (hq9.out.trans hr10)
        have hb10 := Lib.hid ((hq10.out.block g hgB).trans hcd.out.blk)
        refine hK _ _ (fun _ => hr10) ?_
        clear hK K
        clear hgr10 hr10 hlc10
        try simp only [Act.put, List.setIfInBounds_toArray, List.set_cons_zero, List.set_cons_succ]
        refine wU (i := 11) (v := ?_) (⟨fun x => Below.refl _ x, fun h1 h2 => h1.trans h2⟩) (some 77) rfl (fun w' => ?_) ?_
        rotate_left
        · go_simp; with_reducible rfl
        simp only [Act.put, List.setIfInBounds_toArray, List.set_cons_zero, List.set_cons_succ]
        refine wT (i := 12) (v := ?_) (⟨fun x => Below.refl _ x, fun h1 h2 => h1.trans h2⟩) (some 78) rfl (fun w' hw' => ?_) ?_
        rotate_left
        · go_simp; with_reducible rfl
        simp only [Act.put, List.setIfInBounds_toArray, List.set_cons_zero, List.set_cons_succ]
        refine wpR_one 13 rfl (by kernel_rfl) (by kernel_rfl) (fun K hK => ?_)
        have cc3 := blk_cell (j := 4) hb10.out rfl
        have f3 := blk_free hb10.out 4
        go_simp
        refine hK _ _ (fun h => absurd h (by decide)) ?_
        clear hK K
        clear cc3 f3
        skip
        try simp only [Act.put, List.setIfInBounds_toArray, List.set_cons_zero, List.set_cons_succ]
        refine wpR_done (by kernel_rfl) ?_ _
        have hgV : Gr W V10 := hgBB.out _ hq10.out
        have hact : Hid (RcAct lo g y w { c with R := c.R ++ [nc] } (V10.setCell ⟨g, 4, none⟩ (.slice A10 m10 k10))) := Lib.hid (hfr.out ⟨_, Lib.hid ((hcW.out.gr hgV).setR (R' := c.R ++ [nc]) (v := .slice A10 m10 k10) (by unfold OZ; rw [← hm10]; exact ho10.out)), Upd.gr_set hgV (.inl rfl), fun q hq => .inl hq⟩)
        clear hgV hm10
        go_wp2_with fail
        go_ret
        exact ⟨by subst hrc; rfl, by subst hrc; exact hact.out⟩
      · go_simp
        obtain ⟨g9, hg9e⟩ : ∃ g9, V1.heap.size = g9 := ⟨_, rfl⟩
        obtain ⟨V9, hV9⟩ : ∃ W, W = V1.alloc (.cells #[.int .i64 nc] 3) := ⟨_, rfl⟩
        have hr9 : Below B2 V1 V9 := by rw [hV9]; exact (Below.refl _ _).alloc hz1.out _
        have hl9 : Hid (V9.heap[g9]? = some (.cells #[.int .i64 nc] 3 (0, 0))) := Lib.hid (by rw [hV9, ← hg9e]; exact heap_alloc_new _ _)
        have hq9 : Hid (Below B2 wd V9) := Lib.hid (hq1.out.trans hr9)
        have hz9 : Hid (B2 ≤ V9.heap.size) := Lib.hid (Nat.le_trans hz1.out hr9.size)
        have hne : Hid (g9 ≠ g0) := Lib.hid (by have := (World.ownsRow.lt ho0.out g0 rfl).2; omega)
        replace ho0 := Lib.hid (row_below ho0.out (show Gr V1 V9 by rw [hV9]; exact Gr.alloc _ _))
        rw [← hV9, hg9e]
        replace hV9 := Lib.hid hV9
        replace hg9e := Lib.hid hg9e
        refine hK _ _ (fun _ => hr9) ?_
        clear hK K
        try simp only [Act.put, List.setIfInBounds_toArray, List.set_cons_zero, List.set_cons_succ]
        refine wpR_one 6 rfl (by kernel_rfl) (by kernel_rfl) (fun K hK => ?_)
        refine wp_appZ (.tmp 67) (.tmp 71) rfl lo _ [] rfl ho0.out _ _ c.R rfl ((hRt.out.below hq9.out).more (Nat.le_refl _)) (by have := hLl.out; simp; omega) (Nat.le_trans hlB.out hz9.out) ?_
        intro v7 V6 ho7 hgr7 hlc7
        rw [List.nil_append] at ho7
        have hr7 : Below B2 V9 V6 := (Below.refl _ _).grown hgr7 hz9.out (fun j hj => by injection hj with hj; have hj : g0 = j := hj; rw [← hj]; exact hgB0.out)
        have hown7 : Hid (∀ j, v7.ownBlock = some j → B2 ≤ j) := Lib.hid (fun j hj => by rcases hlc7 with e | e; (· have e2 := e.symm.trans hj; injection e2 with e2; have e2 : g0 = j := e2; rw [← e2]; exact hgB0.out); (· have e2 := e.symm.trans hj; injection e2 with e2; rw [← e2]; exact hz9.out))
        replace hl9 := Lib.hid ((hgr7.block g9 (blk_lt hl9.out) (fun e => hne.out (by injection e))).trans hl9.out)
        replace ho7 := Lib.hid ho7
        have hq6 : Hid (Below B2 wd V6) := Lib.hid (hq9.out.trans hr7)
        have hz6 : Hid (B2 ≤ V6.heap.size) := Lib.hid (Nat.le_trans hz9.out hr7.size)
        refine hK _ _ (fun _ => hr7) ?_
        clear hK K
        clear hgr7 hr7 hlc7
        try simp only [Act.put, List.setIfInBounds_toArray, List.set_cons_zero, List.set_cons_succ]
        refine wpR_one 10 rfl (by kernel_rfl) (by kernel_rfl) (fun K hK => ?_)
        refine wp_appZ (.tmp 72) (.tmp 75) rfl lo _ c.R rfl ho7.out _ _ [nc] rfl (Reads.blk1 hl9.out) (by have := hLl.out; simp; omega) (Nat.le_trans hlB.out hz6.out) ?_
        intro v8 V10 ho10 hgr10 hlc10
        have hr10 : Below B2 V6 V10 := (Below.refl _ _).grown hgr10 hz6.out hown7.out
        obtain ⟨A10, k10, rfl, -, -⟩ := row_form ho10
        obtain ⟨m10, hm10⟩ : ∃ m, (c.R ++ [nc]).length = m := ⟨_, rfl⟩
        replace ho10 := Lib.hid ho10
        rw [hm10]
        have hq10 : Hid (Below B2 wd V10) := Lib.hid (hq6.out.trans hr10)
        have hb10 := Lib.hid ((hq10.out.block g hgB).trans hcd.out.blk)
        refine hK _ _ (fun _ => hr10) ?_
        clear hK K
        clear hgr10 hr10 hlc10
        try simp only [Act.put, List.setIfInBounds_toArray, List.set_cons_zero, List.set_cons_succ]
        refine wU (i := 11) (v := ?_) (⟨fun x => Below.refl _ x, fun h1 h2 => h1.trans h2⟩) (some 77) rfl (fun w' => ?_) ?_
        rotate_left
        · go_simp; with_reducible rfl
        simp only [Act.put, List.setIfInBounds_toArray, List.set_cons_zero, List.set_cons_succ]
        refine wT (i := 12) (v := ?_) (⟨fun x => Below.refl _ x, fun h1 h2 => h1.trans h2⟩) (some 78) rfl (fun w' hw' => ?_) ?_
        rotate_left
        · go_simp; with_reducible rfl
        simp only [Act.put, List.setIfInBounds_toArray, List.set_cons_zero, List.set_cons_succ]
        refine wpR_one 13 rfl (by kernel_rfl) (by kernel_rfl) (fun K hK => ?_)
        have cc3 := blk_cell (j := 4) hb10.out rfl
        have f3 := blk_free hb10.out 4
        go_simp
        refine hK _ _ (fun h => absurd h (by decide)) ?_
        clear hK K
        clear cc3 f3
        skip
        try simp only [Act.put, List.setIfInBounds_toArray, List.set_cons_zero, List.set_cons_succ]
        refine wpR_done (by kernel_rfl) ?_ _
        have hgV : Gr W V10 := hgBB.out _ hq10.out
        have hact : Hid (RcAct lo g y w { c with R := c.R ++ [nc] } (V10.setCell ⟨g, 4, none⟩ (.slice A10 m10 k10))) := Lib.hid (hfr.out ⟨_, Lib.hid ((hcW.out.gr hgV).setR (R' := c.R ++ [nc]) (v := .slice A10 m10 k10) (by unfold OZ; rw [← hm10]; exact ho10.out)), Upd.gr_set hgV (.inl rfl), fun q hq => .inl hq⟩)
        clear hgV hm10
        go_wp2_with fail
        go_ret
        exact ⟨by subst hrc; rfl, by subst hrc; exact hact.out⟩
    · go_simp
      obtain ⟨g9, hg9e⟩ : ∃ g9, wd.heap.size = g9 := ⟨_, rfl⟩
      obtain ⟨V9, hV9⟩ : ∃ W, W = wd.alloc (.cells #[.int .i64 nc] 3) := ⟨_, rfl⟩
      have hr9 : Below B2 wd V9 := by rw [hV9]; exact (Below.refl _ _).alloc hzd.out _
      have hl9 : Hid (V9.heap[g9]? = some (.cells #[.int .i64 nc] 3 (0, 0))) := Lib.hid (by rw [hV9, ← hg9e]; exact heap_alloc_new _ _)
      have hq9 : Hid (Below B2 wd V9) := Lib.hid (hqd.out.trans hr9)
      have hz9 : Hid (B2 ≤ V9.heap.size) := Lib.hid (Nat.le_trans hzd.out hr9.size)
      rw [← hV9, hg9e]
      replace hV9 := Lib.hid hV9
      replace hg9e := Lib.hid hg9e
      refine hK _ _ (fun _ => hr9) ?_
      clear hK K
      try simp only [Act.put, List.setIfInBounds_toArray, List.set_cons_zero, List.set_cons_succ]
      refine wpR_one 1 rfl (by kernel_rfl) (by kernel_rfl) (fun K hK => ?_)
      go_simp
      obtain ⟨g0, hg0e⟩ : ∃ g0, V9.heap.size = g0 := ⟨_, rfl⟩
      obtain ⟨V1, hV0⟩ : ∃ W, W = V9.alloc (.cells #[] 3) := ⟨_, rfl⟩
      have hr0 : Below B2 V9 V1 := by rw [hV0]; exact (Below.refl _ _).alloc hz9.out _
      have ho0 : Hid (V1.ownsRow lo 3 1 (.slice (some ⟨g0, 0, none⟩) 0 0) ([] : List (Int)).length (List.map encZ [])) := Lib.hid (by rw [hV0, ← hg0e]; exact World.ownsRow_made _ #[] 0 (Nat.le_trans hlB.out hz9.out) (by simp [maxLen]) rfl)
      have hgB0 : Hid (B2 ≤ g0) := Lib.hid (by rw [← hg0e]; exact hz9.out)
      have hq1 : Hid (Below B2 wd V1) := Lib.hid (hq9.out.trans hr0)
      have hz1 : Hid (B2 ≤ V1.heap.size) := Lib.hid (Nat.le_trans hz9.out hr0.size)
      have hne : Hid (g9 ≠ g0) := Lib.hid (by have := blk_lt hl9.out; omega)
      replace hl9 := Lib.hid (blk_below hl9.out (show Below V9.heap.size V9 V1 by rw [hV0]; exact Gr.alloc _ _))
      rw [← hV0, hg0e]
      replace hV0 := Lib.hid hV0
      replace hg0e := Lib.hid hg0e
      refine hK _ _ (fun _ => hr0) ?_
      clear hK K
      try simp only [Act.put, List.setIfInBounds_toArray, List.set_cons_zero, List.set_cons_succ]
      refine wpR_one 6 rfl (by kernel_rfl) (by kernel_rfl) (fun K hK => ?_)
      refine wp_appZ (.tmp 67) (.tmp 71) rfl lo _ [] rfl ho0.out _ _ c.R rfl ((hRt.out.below hq1.out).more (Nat.le_refl _)) (by have := hLl.out; simp; omega) (Nat.le_trans hlB.out hz1.out) ?_
      intro v7 V6 ho7 hgr7 hlc7
      rw [List.nil_append] at ho7
      have hr7 : Below B2 V1 V6 := (Below.refl _ _).grown hgr7 hz1.out (fun j hj => by injection hj with hj; have hj : g0 = j := hj; rw [← hj]; exact hgB0.out)
      have hown7 : Hid (∀ j, v7.ownBlock = some j → B2 ≤ j) := Lib.hid (fun j hj => by rcases hlc7 with e | e; (· have e2 := e.symm.trans hj; injection e2 with e2; have e2 : g0 = j := e2; rw [← e2]; exact hgB0.out); (· have e2 := e.symm.trans hj; injection e2 with e2; rw [← e2]; exact hz1.out))
      replace hl9 := Lib.hid ((hgr7.block g9 (blk_lt hl9.out) (fun e => hne.out (by injection e))).trans hl9.out)
      replace ho7 := Lib.hid ho7
      have hq6 : Hid (Below B2 wd V6) := Lib.hid (hq1.out.trans hr7)
      have hz6 : Hid (B2 ≤ V6.heap.size) := Lib.hid (Nat.le_trans hz1.out hr7.size)
      refine hK _ _ (fun _ => hr7) ?_
      clear hK K
      clear hgr7 hr7 hlc7
      try simp only [Act.put, List.setIfInBounds_toArray, List.set_cons_zero, List.set_cons_succ]
      refine wpR_one 10 rfl (by kernel_rfl) (by kernel_rfl) (fun K hK => ?_)
      refine wp_appZ (.tmp 72) (.tmp 75) rfl lo _ c.R rfl ho7.out _ _ [nc] rfl (Reads.blk1 hl9.out) (by have := hLl.out; simp; omega) (Nat.le_trans hlB.out hz6.out) ?_
      intro v8 V10 ho10 hgr10 hlc10
      have hr10 : Below B2 V6 V10 := (Below.refl _ _).grown hgr10 hz6.out hown7.out
      obtain ⟨A10, k10, rfl, -, -⟩ := row_form ho10
      obtain ⟨m10, hm10⟩ : ∃ m, (c.R ++ [nc]).length = m := ⟨_, rfl⟩
      replace ho10 := Lib.hid ho10
      rw [hm10]
      have hq10 : Hid (Below B2 wd V10) := Lib.hid (hq6.out.trans hr10)
      have hb10 := Lib.hid ((hq10.out.block g hgB).trans hcd.out.blk)
      refine hK _ _ (fun _ => hr10) ?_
      clear hK K
      clear hgr10 hr10 hlc10
      try simp only [Act.put, List.setIfInBounds_toArray, List.set_cons_zero, List.set_cons_succ]
      refine wU (i := 11) (v := ?_) (⟨fun x => Below.refl _ x, fun h1 h2 => h1.trans h2⟩) (some 77) rfl (fun w' => ?_) ?_
      rotate_left
      · go_simp; with_reducible rfl
      simp only [Act.put, List.setIfInBounds_toArray, List.set_cons_zero, List.set_cons_succ]
      refine wT (i := 12) (v := ?_) (⟨fun x => Below.refl _ x, fun h1 h2 => h1.trans h2⟩) (some 78) rfl (fun w' hw' => ?_) ?_
      rotate_left
      · go_simp; with_reducible rfl
      simp only [Act.put, List.setIfInBounds_toArray, List.set_cons_zero, List.set_cons_succ]
      refine wpR_one 13 rfl (by kernel_rfl) (by kernel_rfl) (fun K hK => ?_)
      have cc3 := blk_cell (j := 4) hb10.out rfl
      have f3 := blk_free hb10.out 4
      go_simp
      refine hK _ _ (fun h => absurd h (by decide)) ?_
      clear hK K
      clear cc3 f3
      skip
      try simp only [Act.put, List.setIfInBounds_toArray, List.set_cons_zero, List.set_cons_succ]
      refine wpR_done (by kernel_rfl) ?_ _
      have hgV : Gr W V10 := hgBB.out _ hq10.out
      have hact : Hid (RcAct lo g y w { c with R := c.R ++ [nc] } (V10.setCell ⟨g, 4, none⟩ (.slice A10 m10 k10))) := Lib.hid (hfr.out ⟨_, Lib.hid ((hcW.out.gr hgV).setR (R' := c.R ++ [nc]) (v := .slice A10 m10 k10) (by unfold OZ; rw [← hm10]; exact ho10.out)), Upd.gr_set hgV (.inl rfl), fun q hq => .inl hq⟩)
      clear hgV hm10
      go_wp2_with fail
      go_ret
      exact ⟨by subst hrc; rfl, by subst hrc; exact hact.out⟩
end Go.Proofs.YthboeoidgglcgaaGreat
