/- cat: tombs added and struck. -/
import Derived.Test.YthboeoidgglcgaaCt15
namespace Go.Proofs.Ythboeoidgglcgaa
set_option linter.unusedVariables false
set_option linter.unusedSimpArgs false
open Go Go.RowKit Go.Maps
theorem erase_at {α : Type} [BEq α] [LawfulBEq α] : ∀ (l : List α) (x : α) (k : Nat), l[k]? = some x → (∀ j, j < k → l[j]? ≠ some x) → l.erase x = l.eraseIdx k
  | [], x, k, h, _ => by simp at h
  | a :: l, x, 0, h, _ => by
    injection h with h
    subst h
    simp
  | a :: l, x, k + 1, h, hj => by
    have hne : a ≠ x := fun e => hj 0 (by omega) (by rw [e]; rfl)
    rw [List.erase_cons_tail (by simpa using hne), List.eraseIdx_cons_succ, erase_at l x k h (fun j hjk => hj (j + 1) (by omega))]
set_option maxRecDepth 10000 in
set_option maxHeartbeats 2000000 in
theorem turnT_any (lo g t : Nat) (x : CtX) (c : CtP) (w : World) (h : Hid (Ca w lo g x c t)) (ht : t ≤ 900) (hlo : lo ≤ w.heap.size) (n : Nt) (v : Value) (hk : n.key.length ≤ maxLen) (hv : NtV n v w) (hI : I64 n.cart) : Calls Try.prog 37 #[.pointer (some ⟨g, 0, none⟩), v] w (ActPost lo g t x w (c.turnT n)) := by
  have hvn := hv
  obtain ⟨A, ca, A2, c2, rfl, hdt, hpl⟩ := hv
  obtain ⟨N, hN⟩ : ∃ N, w.heap.size = N := ⟨_, rfl⟩
  obtain ⟨rc, hrc⟩ : ∃ rc, c.turnT n = rc := ⟨_, rfl⟩
  rw [hrc]
  have hrc0 := Lib.hid hrc
  unfold CtP.turnT at hrc
  have hvn2 := Lib.hid (fun y (hg : Gr w y) => (NtV.gr hg (Lib.hid hvn)).out)
  obtain ⟨nk, ny, ng, nc, nd, nu, ns, np⟩ := n
  unfold Nt.agg at hvn2 ⊢
  simp only at hk hrc hdt hpl hvn2 hI ⊢
  obtain ⟨ld, hld⟩ : ∃ ld, nd.length = ld := ⟨_, rfl⟩
  obtain ⟨lp, hlp⟩ : ∃ lp, np.length = lp := ⟨_, rfl⟩
  rw [hld] at hdt hvn2 ⊢
  rw [hlp] at hpl hvn2 ⊢
  obtain ⟨W, hW⟩ : ∃ W, w.alloc (.cells #[.int .i64 nk, .string (bs ny), .int .i64 ng, .int .i64 nc, .slice A ld ca, .string (bs nu), .int .i64 ns, .slice A2 lp c2] 32) = W := ⟨_, rfl⟩
  have hgW : Gr w W := by rw [← hW]; exact Gr.alloc _ _
  have hbW : W.heap[N]? = some (.cells #[.int .i64 nk, .string (bs ny), .int .i64 ng, .int .i64 nc, .slice A ld ca, .string (bs nu), .int .i64 ns, .slice A2 lp c2] 32 (0, 0)) := by rw [← hW, ← hN]; exact heap_alloc_new w _
  have hcW := Lib.hid (h.out.gr hgW)
  have hsame := Lib.hid (fun r (w' : World) (hg : Gr w w') => ActPost.same h.out hg r)
  clear hvn
  obtain ⟨Av, cp, hvs⟩ := h.out.cr.formT
  obtain ⟨wd, hwd⟩ : ∃ wd, wd = W.drew := ⟨_, rfl⟩
  have hgd : Hid (Gr w wd) := Lib.hid (by rw [hwd]; exact hgW.trans ((Below.refl _ _).drew))
  have hbd : Hid (wd.heap[N]? = some (.cells #[.int .i64 nk, .string (bs ny), .int .i64 ng, .int .i64 nc, .slice A ld ca, .string (bs nu), .int .i64 ns, .slice A2 lp c2] 32 (0, 0))) := Lib.hid (by rw [hwd]; exact hbW)
  have hcd := Lib.hid (h.out.gr hgd.out)
  have hbk := hcd.out.blk
  rw [hvs] at hbk
  have hTl : c.T.length ≤ 1000 := by have h1 := h.out.few.2.2.2.1; omega
  have hidx := (index_T lo ny ng Av c.T.length cp c.T rfl (by omega) wd (by rw [← hvs]; exact hcd.out.ts)).mono (R' := fun e w' => ∃ z, e = .returned (.int .i64 z) ∧ Below wd.heap.size wd w' ∧ ((z = -1 ∧ (ny, ng) ∉ c.T) ∨ ∃ k : Nat, z = k ∧ c.T[k]? = some (ny, ng) ∧ ∀ j, j < k → c.T[j]? ≠ some (ny, ng))) (fun e w' ⟨h1, h2⟩ => by
    rcases h2 with ⟨h2, h3⟩ | ⟨k, h2, h3, h4⟩
    · exact ⟨_, h2, h1, .inl ⟨rfl, h3⟩⟩
    · exact ⟨_, h2, h1, .inr ⟨k, rfl, h3, h4⟩⟩)
  obtain ⟨nT, hnT⟩ : ∃ nT, c.T.length = nT := ⟨_, rfl⟩
  rw [hnT] at hidx hbk hvs hTl
  replace hidx := Lib.hid hidx
  replace hbk := Lib.hid hbk
  replace hnT := Lib.hid hnT
  replace hvs := Lib.hid hvs
  replace hgW := Lib.hid hgW
  replace hbW := Lib.hid hbW
  replace hdt := Lib.hid hdt
  replace hpl := Lib.hid hpl
  replace hld := Lib.hid hld
  replace hlp := Lib.hid hlp
  replace hI := Lib.hid hI
  go_enter Try.func37, Try.ntmps37
  go_upto_region 1 with (fail)
  replace hW := Lib.hid hW
  replace hN := Lib.hid hN
  refine wpR_region (Gr) 9999 (by kernel_rfl) ?_
  (rw [← hwd]; replace hwd := Lib.hid hwd)
  refine wpR_take (i := 0) (v := ?_) (Gr.road) (some 6) rfl (by kernel_rfl) (by kernel_rfl) (by kernel_rfl) (by kernel_rfl) (by kernel_rfl) (fun _ _ _ h => h) (by kernel_rfl) (fun w' hw' => ?_) ?_
  rotate_left
  · go_simp; with_reducible rfl
  simp only [Act.put, List.setIfInBounds_toArray, List.set_cons_zero, List.set_cons_succ]
  refine wpR_take (i := 1) (v := ?_) (Gr.road) (some 7) rfl (by kernel_rfl) (by kernel_rfl) (by kernel_rfl) (by kernel_rfl) (by kernel_rfl) (fun _ _ _ h => h) (by kernel_rfl) (fun w' hw' => ?_) ?_
  rotate_left
  · go_simp; with_reducible rfl
  simp only [Act.put, List.setIfInBounds_toArray, List.set_cons_zero, List.set_cons_succ]
  refine wpR_take (i := 2) (v := ?_) (Gr.road) (some 8) rfl (by kernel_rfl) (by kernel_rfl) (by kernel_rfl) (by kernel_rfl) (by kernel_rfl) (fun _ _ _ h => h) (by kernel_rfl) (fun w' hw' => ?_) ?_
  rotate_left
  · go_simp; with_reducible rfl
  simp only [Act.put, List.setIfInBounds_toArray, List.set_cons_zero, List.set_cons_succ]
  refine wpR_take (i := 3) (v := ?_) (Gr.road) (some 9) rfl (by kernel_rfl) (by kernel_rfl) (by kernel_rfl) (by kernel_rfl) (by kernel_rfl) (fun _ _ _ h => h) (by kernel_rfl) (fun w' hw' => ?_) ?_
  rotate_left
  · have q := blk_cell (j := 3) (blk_below hbk.out hw') rfl; go_simp; with_reducible rfl
  simp only [Act.put, List.setIfInBounds_toArray, List.set_cons_zero, List.set_cons_succ]
  refine wpR_take (i := 4) (v := ?_) (Gr.road) (some 10) rfl (by kernel_rfl) (by kernel_rfl) (by kernel_rfl) (by kernel_rfl) (by kernel_rfl) (fun _ _ _ h => h) (by kernel_rfl) (fun w' hw' => ?_) ?_
  rotate_left
  · go_simp; with_reducible rfl
  simp only [Act.put, List.setIfInBounds_toArray, List.set_cons_zero, List.set_cons_succ]
  refine wpR_take (i := 5) (v := ?_) (Gr.road) (some 11) rfl (by kernel_rfl) (by kernel_rfl) (by kernel_rfl) (by kernel_rfl) (by kernel_rfl) (fun _ _ _ h => h) (by kernel_rfl) (fun w' hw' => ?_) ?_
  rotate_left
  · have q := blk_cell (j := 1) (blk_below hbd.out hw') rfl; go_simp; with_reducible rfl
  simp only [Act.put, List.setIfInBounds_toArray, List.set_cons_zero, List.set_cons_succ]
  refine wpR_take (i := 6) (v := ?_) (Gr.road) (some 12) rfl (by kernel_rfl) (by kernel_rfl) (by kernel_rfl) (by kernel_rfl) (by kernel_rfl) (fun _ _ _ h => h) (by kernel_rfl) (fun w' hw' => ?_) ?_
  rotate_left
  · go_simp; with_reducible rfl
  simp only [Act.put, List.setIfInBounds_toArray, List.set_cons_zero, List.set_cons_succ]
  refine wpR_take (i := 7) (v := ?_) (Gr.road) (some 13) rfl (by kernel_rfl) (by kernel_rfl) (by kernel_rfl) (by kernel_rfl) (by kernel_rfl) (fun _ _ _ h => h) (by kernel_rfl) (fun w' hw' => ?_) ?_
  rotate_left
  · have q := blk_cell (j := 2) (blk_below hbd.out hw') rfl; go_simp; with_reducible rfl
  simp only [Act.put, List.setIfInBounds_toArray, List.set_cons_zero, List.set_cons_succ]
  refine wpR_take (i := 8) (v := ?_) (Gr.road) (some 14) rfl (by kernel_rfl) (by kernel_rfl) (by kernel_rfl) (by kernel_rfl) (by kernel_rfl) (fun _ _ _ h => h) (by kernel_rfl) (fun w' hw' => ?_) ?_
  rotate_left
  · go_simp; with_reducible rfl
  simp only [Act.put, List.setIfInBounds_toArray, List.set_cons_zero, List.set_cons_succ]
  refine wpR_one 9 rfl (by kernel_rfl) (by kernel_rfl) (fun K hK => ?_)
  go_simp
  refine hidx.out.mono ?_
  rintro e w5 ⟨z, rfl, hb5, hres⟩
  clear hidx
  refine hK _ _ (fun _ => hb5) ?_
  clear hK K
  try simp only [Act.put, List.setIfInBounds_toArray, List.set_cons_zero, List.set_cons_succ]
  refine wpR_take (i := 10) (v := ?_) (Gr.road) (some 5) rfl (by kernel_rfl) (by kernel_rfl) (by kernel_rfl) (by kernel_rfl) (by kernel_rfl) (fun _ _ _ h => h) (by kernel_rfl) (fun w' hw' => ?_) ?_
  rotate_left
  · go_simp; with_reducible rfl
  simp only [Act.put, List.setIfInBounds_toArray, List.set_cons_zero, List.set_cons_succ]
  refine wpR_done (by kernel_rfl) ?_ _
  have hgr5 := Lib.hid (hgd.out.trans hb5)
  have hb5N := Lib.hid (blk_below hbd.out hb5)
  have hc5 := Lib.hid (h.out.gr hgr5.out)
  have hnm := Lib.hid (named_any lo g t x c w5 hc5 ⟨nk, ny, ng, nc, nd, nu, ns, np⟩ _ hk (by have := hvn2.out w5 hgr5.out; rw [← hld.out, ← hlp.out] at this; exact this))
  unfold Nt.agg at hnm
  simp only at hnm
  rw [hld.out, hlp.out] at hnm
  replace hvn2 := Lib.hid hvn2
  have z6 := blk_cell (j := 6) hb5N.out rfl
  rcases hres with ⟨rfl, hno⟩ | ⟨k, rfl, hat, hfst⟩
  · have hno' : (ny, ng) ∉ c.T := hno
    clear hno
    by_cases h1 : ns = 1
    · have z0 := blk_cell (j := 0) hb5N.out rfl
      have z1 := blk_cell (j := 1) hb5N.out rfl
      have z2 := blk_cell (j := 2) hb5N.out rfl
      have z3 := blk_cell (j := 3) hb5N.out rfl
      have z4 := blk_cell (j := 4) hb5N.out rfl
      have z5 := blk_cell (j := 5) hb5N.out rfl
      have z7 := blk_cell (j := 7) hb5N.out rfl
      have i1 : (ns == 1) = true := by rw [h1]; rfl
      have i0 : (ns == 0) = false := by rw [h1]; rfl
      cases hna : c.named ny ng with
      | false =>
        have hrc5 : rc = (12, c) := by rw [← hrc, if_neg (fun hc => by rw [hna] at hc; exact absurd hc.2.2 (by decide)), if_neg (fun hc => by have := hc.1; omega)]
        rw [hna] at hnm
        replace hrc5 := Lib.hid hrc5
        replace hna := Lib.hid hna
        replace h1 := Lib.hid h1
        replace hno' := Lib.hid hno'
        clear hrc h
        go_wp2_with (go_at_call 53; go_must (refine hnm.out.mono ?_); clear hnm; rintro e w6 ⟨rfl, hg6⟩; have z6b := blk_cell (j := 6) (blk_below hb5N.out hg6) rfl)
        go_ret
        rw [hrc5.out]
        exact hsame.out 12 _ (hgr5.out.trans hg6)
      | true =>
        have hrc5 : rc = (0, { c with T := c.T ++ [(ny, ng)] }) := by rw [← hrc, if_pos ⟨h1, hno', hna⟩]
        rw [hna] at hnm
        replace hrc5 := Lib.hid hrc5
        replace hna := Lib.hid hna
        replace h1 := Lib.hid h1
        replace hno' := Lib.hid hno'
        clear hrc hsame
        go_upto_region 4 with (go_at_call 53; go_must (refine hnm.out.mono ?_); clear hnm; rintro e w6 ⟨rfl, hg6⟩)
        obtain ⟨wi, hwi⟩ : ∃ wi, wi = w6.drew := ⟨_, rfl⟩
        have hgi : Hid (Gr w wi) := Lib.hid (by rw [hwi]; exact (hgr5.out.trans hg6).trans ((Below.refl _ _).drew))
        have hbi : Hid (wi.heap[N]? = some (.cells #[.int .i64 nk, .string (bs ny), .int .i64 ng, .int .i64 nc, .slice A ld ca, .string (bs nu), .int .i64 ns, .slice A2 lp c2] 32 (0, 0))) := Lib.hid (by rw [hwi]; exact blk_below hb5N.out (Gr.trans hg6 ((Below.refl _ _).drew)))
        have hci := Lib.hid (h.out.gr hgi.out).cr
        have hbk2 := hci.out.blk
        rw [hvs.out] at hbk2
        replace hbk2 := Lib.hid hbk2
        have hlow : Hid (lo ≤ wi.heap.size) := Lib.hid (Nat.le_trans hlo (Below.size hgi.out))
        clear z0 z1 z2 z3 z4 z5 z6 z7 i1 i0 hg6
        refine wpR_region (TChg lo [85]) 14 (by kernel_rfl) ?_
        (rw [← hwi]; replace hwi := Lib.hid hwi)
        refine wpR_take (i := 0) (v := ?_) (TChg.road _ _) (some 29) rfl (by kernel_rfl) (by kernel_rfl) (by kernel_rfl) (by kernel_rfl) (by kernel_rfl) (fun _ _ _ h => h) (by kernel_rfl) (fun w' hw' => ?_) ?_
        rotate_left
        · go_simp; with_reducible rfl
        simp only [Act.put, List.setIfInBounds_toArray, List.set_cons_zero, List.set_cons_succ]
        refine wpR_take (i := 1) (v := ?_) (TChg.road _ _) (some 30) rfl (by kernel_rfl) (by kernel_rfl) (by kernel_rfl) (by kernel_rfl) (by kernel_rfl) (fun _ _ _ h => h) (by kernel_rfl) (fun w' hw' => ?_) ?_
        rotate_left
        · go_simp; with_reducible rfl
        simp only [Act.put, List.setIfInBounds_toArray, List.set_cons_zero, List.set_cons_succ]
        refine wpR_take (i := 2) (v := ?_) (TChg.road _ _) (some 31) rfl (by kernel_rfl) (by kernel_rfl) (by kernel_rfl) (by kernel_rfl) (by kernel_rfl) (fun _ _ _ h => h) (by kernel_rfl) (fun w' hw' => ?_) ?_
        rotate_left
        · go_simp; with_reducible rfl
        simp only [Act.put, List.setIfInBounds_toArray, List.set_cons_zero, List.set_cons_succ]
        refine wpR_take (i := 3) (v := ?_) (TChg.road _ _) (some 32) rfl (by kernel_rfl) (by kernel_rfl) (by kernel_rfl) (by kernel_rfl) (by kernel_rfl) (fun _ _ _ h => h) (by kernel_rfl) (fun w' hw' => ?_) ?_
        rotate_left
        · go_simp; with_reducible rfl
        simp only [Act.put, List.setIfInBounds_toArray, List.set_cons_zero, List.set_cons_succ]
        refine wpR_take (i := 4) (v := ?_) (TChg.road _ _) (some 33) rfl (by kernel_rfl) (by kernel_rfl) (by kernel_rfl) (by kernel_rfl) (by kernel_rfl) (fun _ _ _ h => h) (by kernel_rfl) (fun w' hw' => ?_) ?_
        rotate_left
        · have q := blk_cell (j := 3) (hw'.block hbk2.out (by decide)) rfl; go_simp; with_reducible rfl
        simp only [Act.put, List.setIfInBounds_toArray, List.set_cons_zero, List.set_cons_succ]
        refine wpR_take (i := 5) (v := ?_) (TChg.road _ _) (some 34) rfl (by kernel_rfl) (by kernel_rfl) (by kernel_rfl) (by kernel_rfl) (by kernel_rfl) (fun _ _ _ h => h) (by kernel_rfl) (fun w' hw' => ?_) ?_
        rotate_left
        · go_simp; with_reducible rfl
        simp only [Act.put, List.setIfInBounds_toArray, List.set_cons_zero, List.set_cons_succ]
        refine wpR_take (i := 6) (v := ?_) (TChg.road _ _) (some 35) rfl (by kernel_rfl) (by kernel_rfl) (by kernel_rfl) (by kernel_rfl) (by kernel_rfl) (fun _ _ _ h => h) (by kernel_rfl) (fun w' hw' => ?_) ?_
        rotate_left
        · have q := blk_cell (j := 1) (hw'.block hbi.out (by decide)) rfl; go_simp; with_reducible rfl
        simp only [Act.put, List.setIfInBounds_toArray, List.set_cons_zero, List.set_cons_succ]
        refine wpR_take (i := 7) (v := ?_) (TChg.road _ _) (some 36) rfl (by kernel_rfl) (by kernel_rfl) (by kernel_rfl) (by kernel_rfl) (by kernel_rfl) (fun _ _ _ h => h) (by kernel_rfl) (fun w' hw' => ?_) ?_
        rotate_left
        · go_simp; with_reducible rfl
        simp only [Act.put, List.setIfInBounds_toArray, List.set_cons_zero, List.set_cons_succ]
        refine wpR_take (i := 8) (v := ?_) (TChg.road _ _) (some 37) rfl (by kernel_rfl) (by kernel_rfl) (by kernel_rfl) (by kernel_rfl) (by kernel_rfl) (fun _ _ _ h => h) (by kernel_rfl) (fun w' hw' => ?_) ?_
        rotate_left
        · have q := blk_cell (j := 2) (hw'.block hbi.out (by decide)) rfl; go_simp; with_reducible rfl
        simp only [Act.put, List.setIfInBounds_toArray, List.set_cons_zero, List.set_cons_succ]
        refine wpR_take (i := 9) (v := ?_) (TChg.road _ _) (some 38) rfl (by kernel_rfl) (by kernel_rfl) (by kernel_rfl) (by kernel_rfl) (by kernel_rfl) (fun _ _ _ h => h) (by kernel_rfl) (fun w' hw' => ?_) ?_
        rotate_left
        · go_simp; with_reducible rfl
        simp only [Act.put, List.setIfInBounds_toArray, List.set_cons_zero, List.set_cons_succ]
        refine wpR_one 10 rfl (by kernel_rfl) (by kernel_rfl) (fun K hK => ?_)
        go_simp
        refine hK _ _ (fun _ => TChg.of_alloc _ _) ?_
        clear hK K
        try simp only [Act.put, List.setIfInBounds_toArray, List.set_cons_zero, List.set_cons_succ]
        refine wpR_one 11 rfl (by kernel_rfl) (by kernel_rfl) (fun K hK => ?_)
        refine wp_appT (.tmp 33) (.tmp 39) rfl lo (.slice Av nT cp) c.T rfl (by have := row_below hci.out.ts (Gr.alloc wi (.cells #[.string (bs ny), .int .i64 ng] 85)); rw [hvs.out] at this; exact this) (wi.heap.size + 1) (some ⟨wi.heap.size, 0, none⟩) 1 (ny, ng) rfl (lit_tomb wi ny ng) (by rw [hnT.out]; omega) (Nat.le_trans hlow.out (by simp)) ?_
        intro v8 w8 hr8 hg8 ho8
        refine hK _ _ (fun _ => TChg.of_row (lo := lo) (by have := row_below hci.out.ts (Gr.alloc wi (.cells #[.string (bs ny), .int .i64 ng] 85)); rw [hvs.out] at this; exact this) hg8 (by simp)) ?_
        clear hK K
        rw [← hvs.out] at hg8 ho8
        have hend := Lib.hid (tomb_end hci.out hr8 hg8 ho8)
        have hb8 : w8.heap[g]? = _ := blk_grow (blk_alloc hci.out.blk (.cells #[.string (bs ny), .int .i64 ng] 85)) hg8 (row_ne (row_below hci.out.ts (Gr.alloc wi (.cells #[.string (bs ny), .int .i64 ng] 85))) (blk_alloc hci.out.blk _) (by decide))
        have k0 := blk_cell (j := 3) hb8 rfl
        have f0 := blk_free hb8 3
        obtain ⟨A8, c8, rfl, -, -⟩ := row_form hr8
        generalize hm8 : (c.T ++ [(ny, ng)]).length = m8 at *
        replace hm8 := Lib.hid hm8
        clear hb8 hg8 hr8 ho8
        try simp only [Act.put, List.setIfInBounds_toArray, List.set_cons_zero, List.set_cons_succ]
        refine wpR_takeU (i := 12) (v := ?_) (TChg.road _ _) (some 41) rfl (by kernel_rfl) (by kernel_rfl) (by kernel_rfl) (by kernel_rfl) (fun _ _ _ h => h) (by kernel_rfl) (fun w' => ?_) ?_
        rotate_left
        · go_simp; with_reducible rfl
        simp only [Act.put, List.setIfInBounds_toArray, List.set_cons_zero, List.set_cons_succ]
        refine wpR_take (i := 13) (v := ?_) (TChg.road _ _) (some 42) rfl (by kernel_rfl) (by kernel_rfl) (by kernel_rfl) (by kernel_rfl) (by kernel_rfl) (fun _ _ _ h => h) (by kernel_rfl) (fun w' hw' => ?_) ?_
        rotate_left
        · go_simp; with_reducible rfl
        simp only [Act.put, List.setIfInBounds_toArray, List.set_cons_zero, List.set_cons_succ]
        refine wpR_one 14 rfl (by kernel_rfl) (by kernel_rfl) (fun K hK => ?_)
        go_simp
        refine hK _ _ (fun h => absurd h (by decide)) ?_
        clear hK K
        try simp only [Act.put, List.setIfInBounds_toArray, List.set_cons_zero, List.set_cons_succ]
        refine wpR_done (by kernel_rfl) ?_ _
        go_wp2_with fail
        go_ret
        rw [hrc5.out]
        obtain ⟨h1, h2, h3⟩ := hend.out
        exact ⟨rfl, { x with vt := .slice A8 m8 c8 }, h1.more (Nat.le_succ _), h.out.wc, h.out.ec, (Upd.of_below hgi.out).trans h2, fun k hk => (h3 k hk).imp id (fun h => Nat.le_trans (Below.size hgi.out) h)⟩
    · have i1 : (ns == 1) = false := beq_false_of_ne h1
      have hrc5 : rc = (12, c) := by rw [← hrc, if_neg (fun hc => h1 hc.1), if_neg (fun hc => hno' hc.2)]
      cases i0 : (ns == 0) with
      | true =>
        replace hrc5 := Lib.hid hrc5
        replace h1 := Lib.hid h1
        replace hno' := Lib.hid hno'
        clear hrc h hnm
        go_wp2_with fail
        go_ret
        rw [hrc5.out]
        exact hsame.out 12 _ hgr5.out
      | false =>
        replace hrc5 := Lib.hid hrc5
        replace h1 := Lib.hid h1
        replace hno' := Lib.hid hno'
        clear hrc h hnm
        go_wp2_with fail
        go_ret
        rw [hrc5.out]
        exact hsame.out 12 _ hgr5.out
  · have hin : (ny, ng) ∈ c.T := List.mem_of_getElem? hat
    have hkT : k < nT := by rw [← hnT.out]; exact (List.getElem?_eq_some_iff.mp hat).1
    have k0 : decide ((k : Int) < 0) = false := decide_eq_false (by omega)
    have k1 : (0 : Int) ≤ (k : Int) := by omega
    by_cases h0 : ns = 0
    · have i1 : (ns == 1) = false := by rw [h0]; rfl
      have i0 : (ns == 0) = true := by rw [h0]; rfl
      have hrc5 : rc = (0, { c with T := c.T.erase (ny, ng) }) := by rw [← hrc, if_neg (fun hc => hc.2.1 hin), if_pos ⟨h0, hin⟩]
      have her := Lib.hid (erase_at c.T (ny, ng) k hat hfst)
      obtain ⟨b, cp', hv', -, -, -, -, -, -, -, -⟩ := row_at hc5.out.ts (by rw [hnT.out]; omega)
      rw [hvs.out, hnT.out] at hv'
      injection hv' with e1 _ e3
      subst e1 e3
      obtain ⟨m, hm⟩ : ∃ m, nT = m + 1 := ⟨nT - 1, by omega⟩
      have hdl := Lib.hid (delete_T lo b nT cp k (k + 1) m c.T rfl hm hkT hnT.out (by omega) w5 (by have := hc5.out.ts; rw [hvs.out] at this; exact this))
      have hbk5 := hc5.out.blk
      rw [hvs.out] at hbk5
      have c3 := blk_cell (j := 3) hbk5 rfl
      have hadd : IntKind.i64.wrap ((k : Int) + 1) = ((k + 1 : Nat) : Int) := by rw [IntKind.wrap_i64]; omega
      replace hrc5 := Lib.hid hrc5
      replace h0 := Lib.hid h0
      replace hbk5 := Lib.hid hbk5
      replace hm := Lib.hid hm
      replace hat := Lib.hid hat
      replace hin := Lib.hid hin
      replace hfst := Lib.hid hfst
      clear hrc hsame hnm
      go_wp2_with (go_at_call 58; go_must (refine hdl.out.mono ?_); clear hdl; rintro e w6 ⟨rfl, hr6, hu6⟩; have hb6 := (hu6.2.2.2.2 g (blk_lt hc5.out.blk) (fun e => row_ne hc5.out.ts hc5.out.blk (by decide) (by rw [hvs.out, e]; rfl))).trans hbk5.out; have k3 := blk_cell (j := 3) hb6 rfl; have f3 := blk_free hb6 3)
      go_ret
      rw [hrc5.out]
      obtain ⟨h1, h2⟩ := hc5.out.cr.setT (v := .slice (some ⟨b, 0, none⟩) m cp) (T' := c.T.eraseIdx k) (Upd.mono hu6 (fun j e => by rw [hvs.out, e]; rfl)) hr6
      rw [← her.out] at h1
      refine ⟨rfl, { x with vt := .slice (some ⟨b, 0, none⟩) m cp }, h1.more (Nat.le_succ _), h.out.wc, h.out.ec, (Upd.of_below hgr5.out).trans h2, fun j hj => .inl ?_⟩
      have e9 : (Value.slice (some ⟨b, 0, none⟩) m cp).ownBlock = x.vt.ownBlock := by rw [hvs.out]; rfl
      unfold CtX.S at hj ⊢
      simp only at hj
      rw [e9] at hj
      exact hj
    · have i0 : (ns == 0) = false := beq_false_of_ne h0
      have hrc5 : rc = (12, c) := by rw [← hrc, if_neg (fun hc => hc.2.1 hin), if_neg (fun hc => h0 hc.1)]
      cases i1 : (ns == 1) with
      | true =>
        replace hrc5 := Lib.hid hrc5
        replace h0 := Lib.hid h0
        replace hat := Lib.hid hat
        replace hin := Lib.hid hin
        replace hfst := Lib.hid hfst
        clear hrc h hnm
        go_wp2_with fail
        go_ret
        rw [hrc5.out]
        exact hsame.out 12 _ hgr5.out
      | false =>
        replace hrc5 := Lib.hid hrc5
        replace h0 := Lib.hid h0
        replace hat := Lib.hid hat
        replace hin := Lib.hid hin
        replace hfst := Lib.hid hfst
        clear hrc h hnm
        go_wp2_with fail
        go_ret
        rw [hrc5.out]
        exact hsame.out 12 _ hgr5.out
end Go.Proofs.Ythboeoidgglcgaa
