/- cat: a key retired; Gen begun. -/
import Derived.Test.YthboeoidgglcgaaCt12
namespace Go.Proofs.Ythboeoidgglcgaa
set_option linter.unusedVariables false
set_option linter.unusedSimpArgs false
open Go Go.RowKit Go.Maps
theorem rM_store (R : List Int) (hn : R.Nodup) (z : Int) : (delP (rM R) z ++ [(z, Value.int .i64 z)]).Perm (rM (if R.contains z = true then R else R ++ [z])) := by
  have e : delP (rM R) z = rM (R.filter (· != z)) := by unfold delP rM; rw [List.filter_map]; rfl
  have e2 : ∀ l : List Int, rM l ++ [(z, Value.int .i64 z)] = rM (l ++ [z]) := fun l => by unfold rM; rw [List.map_append]; rfl
  rw [e, e2]
  unfold rM
  refine List.Perm.map _ ?_
  cases hc : R.contains z with
  | false =>
    rw [if_neg (by simp)]
    have hz : z ∉ R := fun hm => by rw [List.contains_iff_mem.mpr hm] at hc; cases hc
    rw [List.filter_eq_self.mpr (fun y hy => by simp only [bne_iff_ne, ne_eq]; intro e; exact hz (e ▸ hy))]
  | true =>
    rw [if_pos rfl]
    have hz : z ∈ R := List.contains_iff_mem.mp hc
    have h1 : R.filter (· != z) = R.erase z := (List.Nodup.erase_eq_filter hn z).symm
    rw [h1]
    exact (List.perm_append_comm).trans (List.perm_cons_erase hz).symm
set_option maxRecDepth 10000 in
set_option maxHeartbeats 2000000 in
theorem retire_any (lo g t : Nat) (x : CtX) (c : CtP) (w : World) (h : Hid (Ca w lo g x c t)) (ht : t ≤ 900) (hlo : lo ≤ w.heap.size) (n : Nt) (v : Value) (hk : n.key.length ≤ maxLen) (hv : NtV n v w) (hI : I64 n.cart) : Calls Try.prog 36 #[.pointer (some ⟨g, 0, none⟩), v] w (ActPost lo g t x w (c.retire n)) := by
  have hvn := hv
  obtain ⟨A, ca, A2, c2, rfl, hdt, hpl⟩ := hv
  obtain ⟨N, hN⟩ : ∃ N, w.heap.size = N := ⟨_, rfl⟩
  obtain ⟨rc, hrc⟩ : ∃ rc, c.retire n = rc := ⟨_, rfl⟩
  rw [hrc]
  have hrc0 := Lib.hid hrc
  unfold CtP.retire at hrc
  have hvn2 := Lib.hid (fun y (hg : Gr w y) => (NtV.gr hg (Lib.hid hvn)).out)
  obtain ⟨nk, ny, ng, nc, nd, nu, ns, np⟩ := n
  unfold Nt.agg at hvn2 ⊢
  simp only at hk hrc hdt hpl hvn2 hI ⊢
  obtain ⟨ld, hld⟩ : ∃ ld, nd.length = ld := ⟨_, rfl⟩
  obtain ⟨lp, hlp⟩ : ∃ lp, np.length = lp := ⟨_, rfl⟩
  rw [hld] at hdt hvn2 ⊢
  rw [hlp] at hpl hvn2 ⊢
  obtain ⟨W, hW⟩ : ∃ W, w.alloc (.cells #[.int .i64 nk, .string (bs ny), .int .i64 ng, .int .i64 nc, .slice A ld ca, .string (bs nu), .int .i64 ns, .slice A2 lp c2] 32) = W := ⟨_, rfl⟩
  have hgW : Gr w W := by rw [← hW]; exact Gr.alloc _ _
  have hbW : W.heap[N]? = some (.cells #[.int .i64 nk, .string (bs ny), .int .i64 ng, .int .i64 nc, .slice A ld ca, .string (bs nu), .int .i64 ns, .slice A2 lp c2] 32 (0, 0)) := by rw [← hW, ← hN]; exact heap_alloc_new w _
  have hcW := Lib.hid (h.out.gr hgW)
  have hsame := Lib.hid (fun r (w' : World) (hg : Gr w w') => ActPost.same h.out hg r)
  clear hvn
  have y3 := blk_cell (j := 3) hbW rfl
  have hin := in_any nc 0 31 W
  unfold inB at hin
  by_cases hz : nc < 0 ∨ 31 < nc
  · obtain rfl : rc = (12, c) := by rw [← hrc, if_pos hz]
    have e : (decide ((0 : Int) ≤ nc) && decide (nc ≤ 31)) = false := by
      rcases hz with hz | hz
      · rw [decide_eq_false (by omega : ¬ (0 : Int) ≤ nc)]; rfl
      · rw [decide_eq_false (by omega : ¬ nc ≤ 31), Bool.and_false]
    rw [e] at hin
    replace hin := Lib.hid hin
    replace hgW := Lib.hid hgW
    replace hbW := Lib.hid hbW
    replace hdt := Lib.hid hdt
    replace hpl := Lib.hid hpl
    replace hld := Lib.hid hld
    replace hlp := Lib.hid hlp
    replace hI := Lib.hid hI
    clear hrc h hz e
    go_enter Try.func36, Try.ntmps36
    go_wp2_with (go_at_call 56; go_must (refine hin.out.mono ?_); rintro e w' ⟨rfl, hee⟩; rw [hee]; clear hee)
    go_ret
    exact hsame.out 12 _ hgW.out
  · rw [if_neg hz] at hrc
    have e : (decide ((0 : Int) ≤ nc) && decide (nc ≤ 31)) = true := by
      rw [decide_eq_true (by omega : (0 : Int) ≤ nc), decide_eq_true (by omega : nc ≤ 31)]; rfl
    rw [e] at hin
    replace hrc := Lib.hid hrc
    replace hin := Lib.hid hin
    replace hgW := Lib.hid hgW
    replace hbW := Lib.hid hbW
    replace hdt := Lib.hid hdt
    replace hpl := Lib.hid hpl
    replace hld := Lib.hid hld
    replace hlp := Lib.hid hlp
    replace hI := Lib.hid hI
    clear hz e hsame
    go_enter Try.func36, Try.ntmps36
    go_upto_region 3 with (go_at_call 56; go_must (refine hin.out.mono ?_); rintro e w' ⟨rfl, hee⟩; rw [hee]; clear hee)
    replace hW := Lib.hid hW
    replace hN := Lib.hid hN
    obtain ⟨wd, hwd⟩ : ∃ wd, wd = W.drew := ⟨_, rfl⟩
    have hgd : Hid (Gr w wd) := Lib.hid (by rw [hwd]; exact hgW.out.trans ((Below.refl _ _).drew))
    have hbd : Hid (wd.heap[N]? = some (.cells #[.int .i64 nk, .string (bs ny), .int .i64 ng, .int .i64 nc, .slice A ld ca, .string (bs nu), .int .i64 ns, .slice A2 lp c2] 32 (0, 0))) := Lib.hid (by rw [hwd]; exact hbW.out)
    have hcd := Lib.hid (h.out.gr hgd.out)
    obtain ⟨w9, hrun, hm9, hg9⟩ := hcd.out.mr.store lawI Try.underlying61 (by omega) (keyI hI.out) (.int .i64 nc)
    have hend := Lib.hid (hcd.out.cr.setR (Nat.le_succ t) hg9 (hm9.perm (rM_store _ h.out.ok.dR nc)))
    clear y3 hm9
    replace hg9 := Lib.hid hg9
    refine wpR_region (Gr) 8 (by kernel_rfl) ?_
    (rw [← hwd]; replace hwd := Lib.hid hwd)
    refine wpR_take (i := 0) (v := ?_) (Gr.road) (some 9) rfl (by kernel_rfl) (by kernel_rfl) (by kernel_rfl) (by kernel_rfl) (by kernel_rfl) (fun _ _ _ h => h) (by kernel_rfl) (fun w' hw' => ?_) ?_
    rotate_left
    · go_simp; with_reducible rfl
    simp only [Act.put, List.setIfInBounds_toArray, List.set_cons_zero, List.set_cons_succ]
    refine wpR_take (i := 1) (v := ?_) (Gr.road) (some 10) rfl (by kernel_rfl) (by kernel_rfl) (by kernel_rfl) (by kernel_rfl) (by kernel_rfl) (fun _ _ _ h => h) (by kernel_rfl) (fun w' hw' => ?_) ?_
    rotate_left
    · go_simp; with_reducible rfl
    simp only [Act.put, List.setIfInBounds_toArray, List.set_cons_zero, List.set_cons_succ]
    refine wpR_take (i := 2) (v := ?_) (Gr.road) (some 11) rfl (by kernel_rfl) (by kernel_rfl) (by kernel_rfl) (by kernel_rfl) (by kernel_rfl) (fun _ _ _ h => h) (by kernel_rfl) (fun w' hw' => ?_) ?_
    rotate_left
    · go_simp; with_reducible rfl
    simp only [Act.put, List.setIfInBounds_toArray, List.set_cons_zero, List.set_cons_succ]
    refine wpR_take (i := 3) (v := ?_) (Gr.road) (some 12) rfl (by kernel_rfl) (by kernel_rfl) (by kernel_rfl) (by kernel_rfl) (by kernel_rfl) (fun _ _ _ h => h) (by kernel_rfl) (fun w' hw' => ?_) ?_
    rotate_left
    · have q := blk_cell (j := 4) (blk_below hcd.out.blk hw') rfl; go_simp; with_reducible rfl
    simp only [Act.put, List.setIfInBounds_toArray, List.set_cons_zero, List.set_cons_succ]
    refine wpR_take (i := 4) (v := ?_) (Gr.road) (some 13) rfl (by kernel_rfl) (by kernel_rfl) (by kernel_rfl) (by kernel_rfl) (by kernel_rfl) (fun _ _ _ h => h) (by kernel_rfl) (fun w' hw' => ?_) ?_
    rotate_left
    · go_simp; with_reducible rfl
    simp only [Act.put, List.setIfInBounds_toArray, List.set_cons_zero, List.set_cons_succ]
    refine wpR_take (i := 5) (v := ?_) (Gr.road) (some 14) rfl (by kernel_rfl) (by kernel_rfl) (by kernel_rfl) (by kernel_rfl) (by kernel_rfl) (fun _ _ _ h => h) (by kernel_rfl) (fun w' hw' => ?_) ?_
    rotate_left
    · have q := blk_cell (j := 3) (blk_below hbd.out hw') rfl; go_simp; with_reducible rfl
    simp only [Act.put, List.setIfInBounds_toArray, List.set_cons_zero, List.set_cons_succ]
    refine wpR_take (i := 6) (v := ?_) (Gr.road) (some 15) rfl (by kernel_rfl) (by kernel_rfl) (by kernel_rfl) (by kernel_rfl) (by kernel_rfl) (fun _ _ _ h => h) (by kernel_rfl) (fun w' hw' => ?_) ?_
    rotate_left
    · go_simp; with_reducible rfl
    simp only [Act.put, List.setIfInBounds_toArray, List.set_cons_zero, List.set_cons_succ]
    refine wpR_take (i := 7) (v := ?_) (Gr.road) (some 16) rfl (by kernel_rfl) (by kernel_rfl) (by kernel_rfl) (by kernel_rfl) (by kernel_rfl) (fun _ _ _ h => h) (by kernel_rfl) (fun w' hw' => ?_) ?_
    rotate_left
    · have q := blk_cell (j := 3) (blk_below hbd.out hw') rfl; go_simp; with_reducible rfl
    simp only [Act.put, List.setIfInBounds_toArray, List.set_cons_zero, List.set_cons_succ]
    refine wpR_one 8 rfl (by kernel_rfl) (by kernel_rfl) (fun K hK => ?_)
    go_simp
    refine hK _ _ (fun h => absurd h (by decide)) ?_
    clear hK K
    try simp only [Act.put, List.setIfInBounds_toArray, List.set_cons_zero, List.set_cons_succ]
    refine wpR_done (by kernel_rfl) ?_ _
    go_wp2_with fail
    go_ret
    obtain ⟨h1, h2⟩ := hend.out
    rw [← hrc.out]
    exact ⟨rfl, x, h1, h.out.wc, h.out.ec, (Upd.of_below hgd.out).trans h2, fun k hk => .inl hk⟩
set_option maxRecDepth 10000 in
set_option maxHeartbeats 2000000 in
theorem begin_any (lo g t : Nat) (x : CtX) (c : CtP) (w : World) (h : Hid (Ca w lo g x c t)) (ht : t ≤ 900) (hlo : lo ≤ w.heap.size) (n : Nt) (v : Value) (hk : n.key.length ≤ maxLen) (hv : NtV n v w) (hI : I64 n.cart) : Calls Try.prog 35 #[.pointer (some ⟨g, 0, none⟩), v] w (ActPost lo g t x w (c.begin_ n)) := by
  have hvn := hv
  obtain ⟨A, ca, A2, c2, rfl, hdt, hpl⟩ := hv
  obtain ⟨N, hN⟩ : ∃ N, w.heap.size = N := ⟨_, rfl⟩
  obtain ⟨rc, hrc⟩ : ∃ rc, c.begin_ n = rc := ⟨_, rfl⟩
  rw [hrc]
  have hrc0 := Lib.hid hrc
  unfold CtP.begin_ at hrc
  have hvn2 := Lib.hid (fun y (hg : Gr w y) => (NtV.gr hg (Lib.hid hvn)).out)
  obtain ⟨nk, ny, ng, nc, nd, nu, ns, np⟩ := n
  unfold Nt.agg at hvn2 ⊢
  simp only at hk hrc hdt hpl hvn2 hI ⊢
  obtain ⟨ld, hld⟩ : ∃ ld, nd.length = ld := ⟨_, rfl⟩
  obtain ⟨lp, hlp⟩ : ∃ lp, np.length = lp := ⟨_, rfl⟩
  rw [hld] at hdt hvn2 ⊢
  rw [hlp] at hpl hvn2 ⊢
  obtain ⟨W, hW⟩ : ∃ W, w.alloc (.cells #[.int .i64 nk, .string (bs ny), .int .i64 ng, .int .i64 nc, .slice A ld ca, .string (bs nu), .int .i64 ns, .slice A2 lp c2] 32) = W := ⟨_, rfl⟩
  have hgW : Gr w W := by rw [← hW]; exact Gr.alloc _ _
  have hbW : W.heap[N]? = some (.cells #[.int .i64 nk, .string (bs ny), .int .i64 ng, .int .i64 nc, .slice A ld ca, .string (bs nu), .int .i64 ns, .slice A2 lp c2] 32 (0, 0)) := by rw [← hW, ← hN]; exact heap_alloc_new w _
  have hcW := Lib.hid (h.out.gr hgW)
  have hsame := Lib.hid (fun r (w' : World) (hg : Gr w w') => ActPost.same h.out hg r)
  clear hvn
  have y1 := blk_cell (j := 1) hbW rfl
  have y2 := blk_cell (j := 2) hbW rfl
  have hlt := Lib.hid (later_any lo g t x c W hcW ng)
  have hhc := Lib.hid (has_any lo g t x c W hcW (by omega) ny hk)
  cases hla : c.later ng with
  | false =>
    obtain rfl : rc = (12, c) := by rw [← hrc, if_pos hla]
    rw [hla] at hlt
    replace hla := Lib.hid hla
    replace hgW := Lib.hid hgW
    replace hbW := Lib.hid hbW
    replace hdt := Lib.hid hdt
    replace hpl := Lib.hid hpl
    replace hld := Lib.hid hld
    replace hlp := Lib.hid hlp
    replace hI := Lib.hid hI
    clear hrc h hhc
    go_enter Try.func35, Try.ntmps35
    go_wp2_with (go_at_call 55; go_must (refine hlt.out.mono ?_); rintro e w' ⟨rfl, hee⟩; rw [hee]; clear hee)
    go_ret
    exact hsame.out 12 _ hgW.out
  | true =>
    rw [hla] at hlt
    rw [if_neg (by rw [hla]; simp)] at hrc
    have hxx := hcW.out.cr.blk
    have k5 := blk_cell (j := 5) hxx rfl
    have f5 := blk_free hxx 5
    by_cases hke : ny = []
    · have hrc5 : rc = (0, { c with G := ng }) := by rw [← hrc, if_neg (fun hc => hc.1 hke), if_pos hke]
      have hs5 := hcW.out.cr.setG ng
      have e1 : ny.isEmpty = true := by rw [hke]; rfl
      have yy1 := hbW
      have hset := blk_other (w := W) (g := g) (k := N) (fun e => by have := blk_lt h.out.blk; rw [← e, ← hN] at this; omega) 5 (.int .i64 ng)
      rw [yy1] at hset
      have z1 := blk_cell (j := 1) hset rfl
      replace hset := Lib.hid hset
      replace hrc5 := Lib.hid hrc5
      replace hs5 := Lib.hid hs5
      replace hla := Lib.hid hla
      replace hxx := Lib.hid hxx
      replace hke := Lib.hid hke
      replace hgW := Lib.hid hgW
      replace hbW := Lib.hid hbW
      replace hdt := Lib.hid hdt
      replace hpl := Lib.hid hpl
      replace hld := Lib.hid hld
      replace hlp := Lib.hid hlp
      replace hI := Lib.hid hI
      clear hrc hhc hsame yy1
      go_enter Try.func35, Try.ntmps35
      go_wp2_with (go_at_call 55; go_must (refine hlt.out.mono ?_); rintro e w' ⟨rfl, hee⟩; rw [hee]; clear hee)
      go_ret
      obtain ⟨h1, h2⟩ := hs5.out
      rw [hrc5.out]
      exact ⟨rfl, x, h1.more (Nat.le_succ _), h.out.wc, h.out.ec, (Upd.of_below hgW.out).trans h2, fun k hk => .inl hk⟩
    · have e1 : ny.isEmpty = false := by cases ny with | nil => exact absurd rfl hke | cons a l => rfl
      cases hha : c.has ny with
      | false =>
        have hrc5 : rc = (5, c) := by rw [← hrc, if_pos ⟨hke, hha⟩]
        rw [hha] at hhc
        replace hrc5 := Lib.hid hrc5
        replace hla := Lib.hid hla
        replace hha := Lib.hid hha
        replace hxx := Lib.hid hxx
        replace hke := Lib.hid hke
        replace hgW := Lib.hid hgW
        replace hbW := Lib.hid hbW
        replace hdt := Lib.hid hdt
        replace hpl := Lib.hid hpl
        replace hld := Lib.hid hld
        replace hlp := Lib.hid hlp
        replace hI := Lib.hid hI
        clear hrc h
        go_enter Try.func35, Try.ntmps35
        go_wp2_with (first
          | (go_at_call 55; go_must (refine hlt.out.mono ?_); rintro e w' ⟨rfl, hee⟩; rw [hee]; clear hee)
          | (go_at_call 22; go_must (refine hhc.out.mono ?_); clear hhc; rintro e w2 ⟨rfl, hg2⟩))
        go_ret
        rw [hrc5.out]
        exact hsame.out 5 _ (hgW.out.trans hg2)
      | true =>
        have hrc5 : rc = (0, { c with G := ng, B := delP c.B ny ++ [(ny, ng)] }) := by rw [← hrc, if_neg (fun hc => by rw [hha] at hc; exact absurd hc.2 (by decide)), if_neg hke]
        rw [hha] at hhc
        replace hrc5 := Lib.hid hrc5
        replace hla := Lib.hid hla
        replace hha := Lib.hid hha
        replace hxx := Lib.hid hxx
        replace hke := Lib.hid hke
        replace hgW := Lib.hid hgW
        replace hbW := Lib.hid hbW
        replace hdt := Lib.hid hdt
        replace hpl := Lib.hid hpl
        replace hld := Lib.hid hld
        replace hlp := Lib.hid hlp
        replace hI := Lib.hid hI
        clear hrc hsame k5 f5
        go_enter Try.func35, Try.ntmps35
        go_upto_region 5 with (first
          | (go_at_call 55; go_must (refine hlt.out.mono ?_); rintro e w' ⟨rfl, hee⟩; rw [hee]; clear hee)
          | (go_at_call 22; go_must (refine hhc.out.mono ?_); clear hhc; rintro e w2 ⟨rfl, hg2⟩))
        replace hW := Lib.hid hW
        have hc2 := hcW.out.gr hg2
        have hb2 := blk_below hbW.out hg2
        have hxx := hc2.blk
        have k5 := blk_cell (j := 5) hxx rfl
        have f5 := blk_free hxx 5
        have z2 := blk_cell (j := 2) hb2 rfl
        have hs5 := hc2.cr.setG ng
        have hset := blk_other (w := w2) (g := g) (k := N) (fun e => by have := blk_lt h.out.blk; rw [← e, ← hN] at this; omega) 5 (.int .i64 ng)
        rw [hb2] at hset
        obtain ⟨w3, hw3⟩ : ∃ w3, w2.setCell ⟨g, 5, none⟩ (.int .i64 ng) = w3 := ⟨_, rfl⟩
        rw [hw3] at hs5 hset
        replace hs5 := Lib.hid hs5
        have q1 := blk_cell (j := 1) hset rfl
        replace hset := Lib.hid hset
        replace hN := Lib.hid hN
        replace hxx := Lib.hid hxx
        replace hb2 := Lib.hid hb2
        replace hc2 := Lib.hid hc2
        go_upto_region 6 with (fail)
        replace hw3 := Lib.hid hw3
        clear k5 f5 z2 y1 y2
        go_upto_region 7 with (fail)
        obtain ⟨wd, hwd⟩ : ∃ wd, wd = w3.drew := ⟨_, rfl⟩
        have hbd : Hid (wd.heap[N]? = some (.cells #[.int .i64 nk, .string (bs ny), .int .i64 ng, .int .i64 nc, .slice A ld ca, .string (bs nu), .int .i64 ns, .slice A2 lp c2] 32 (0, 0))) := Lib.hid (by rw [hwd]; exact hset.out)
        have hgd : Gr w3 wd := by rw [hwd]; exact (Below.refl _ _).drew
        have hcd := Lib.hid (hs5.out.1.gr hgd)
        obtain ⟨w9, hrun, hm9, hg9⟩ := hcd.out.mb.store lawS Try.underlying60 (by omega) (keyS hk) (.int .i64 ng)
        have hbm : delP (bM c.B) ny ++ [(ny, Value.int .i64 ng)] = bM (delP c.B ny ++ [(ny, ng)]) := by rw [← bM_del]; unfold bM; rw [List.map_append]; rfl
        rw [hbm] at hm9
        have hend := Lib.hid (hcd.out.setB (Nat.le_succ t) hg9 hm9)
        have hfr := Lib.hid ((Upd.of_below (hgW.out.trans hg2)).trans (hs5.out.2.trans (Upd.of_below hgd)))
        clear hm9 q1 hbm hg2 hgd
        replace hg9 := Lib.hid hg9
        refine wpR_region (Gr) 8 (by kernel_rfl) ?_
        (rw [← hwd]; replace hwd := Lib.hid hwd)
        refine wpR_take (i := 0) (v := ?_) (Gr.road) (some 30) rfl (by kernel_rfl) (by kernel_rfl) (by kernel_rfl) (by kernel_rfl) (by kernel_rfl) (fun _ _ _ h => h) (by kernel_rfl) (fun w' hw' => ?_) ?_
        rotate_left
        · go_simp; with_reducible rfl
        simp only [Act.put, List.setIfInBounds_toArray, List.set_cons_zero, List.set_cons_succ]
        refine wpR_take (i := 1) (v := ?_) (Gr.road) (some 31) rfl (by kernel_rfl) (by kernel_rfl) (by kernel_rfl) (by kernel_rfl) (by kernel_rfl) (fun _ _ _ h => h) (by kernel_rfl) (fun w' hw' => ?_) ?_
        rotate_left
        · go_simp; with_reducible rfl
        simp only [Act.put, List.setIfInBounds_toArray, List.set_cons_zero, List.set_cons_succ]
        refine wpR_take (i := 2) (v := ?_) (Gr.road) (some 32) rfl (by kernel_rfl) (by kernel_rfl) (by kernel_rfl) (by kernel_rfl) (by kernel_rfl) (fun _ _ _ h => h) (by kernel_rfl) (fun w' hw' => ?_) ?_
        rotate_left
        · go_simp; with_reducible rfl
        simp only [Act.put, List.setIfInBounds_toArray, List.set_cons_zero, List.set_cons_succ]
        refine wpR_take (i := 3) (v := ?_) (Gr.road) (some 33) rfl (by kernel_rfl) (by kernel_rfl) (by kernel_rfl) (by kernel_rfl) (by kernel_rfl) (fun _ _ _ h => h) (by kernel_rfl) (fun w' hw' => ?_) ?_
        rotate_left
        · have q := blk_cell (j := 2) (blk_below hcd.out.blk hw') rfl; go_simp; with_reducible rfl
        simp only [Act.put, List.setIfInBounds_toArray, List.set_cons_zero, List.set_cons_succ]
        refine wpR_take (i := 4) (v := ?_) (Gr.road) (some 34) rfl (by kernel_rfl) (by kernel_rfl) (by kernel_rfl) (by kernel_rfl) (by kernel_rfl) (fun _ _ _ h => h) (by kernel_rfl) (fun w' hw' => ?_) ?_
        rotate_left
        · go_simp; with_reducible rfl
        simp only [Act.put, List.setIfInBounds_toArray, List.set_cons_zero, List.set_cons_succ]
        refine wpR_take (i := 5) (v := ?_) (Gr.road) (some 35) rfl (by kernel_rfl) (by kernel_rfl) (by kernel_rfl) (by kernel_rfl) (by kernel_rfl) (fun _ _ _ h => h) (by kernel_rfl) (fun w' hw' => ?_) ?_
        rotate_left
        · have q := blk_cell (j := 1) (blk_below hbd.out hw') rfl; go_simp; with_reducible rfl
        simp only [Act.put, List.setIfInBounds_toArray, List.set_cons_zero, List.set_cons_succ]
        refine wpR_take (i := 6) (v := ?_) (Gr.road) (some 36) rfl (by kernel_rfl) (by kernel_rfl) (by kernel_rfl) (by kernel_rfl) (by kernel_rfl) (fun _ _ _ h => h) (by kernel_rfl) (fun w' hw' => ?_) ?_
        rotate_left
        · go_simp; with_reducible rfl
        simp only [Act.put, List.setIfInBounds_toArray, List.set_cons_zero, List.set_cons_succ]
        refine wpR_take (i := 7) (v := ?_) (Gr.road) (some 37) rfl (by kernel_rfl) (by kernel_rfl) (by kernel_rfl) (by kernel_rfl) (by kernel_rfl) (fun _ _ _ h => h) (by kernel_rfl) (fun w' hw' => ?_) ?_
        rotate_left
        · have q := blk_cell (j := 2) (blk_below hbd.out hw') rfl; go_simp; with_reducible rfl
        simp only [Act.put, List.setIfInBounds_toArray, List.set_cons_zero, List.set_cons_succ]
        refine wpR_one 8 rfl (by kernel_rfl) (by kernel_rfl) (fun K hK => ?_)
        go_simp
        refine hK _ _ (fun h => absurd h (by decide)) ?_
        clear hK K
        try simp only [Act.put, List.setIfInBounds_toArray, List.set_cons_zero, List.set_cons_succ]
        refine wpR_done (by kernel_rfl) ?_ _
        go_wp2_with fail
        go_ret
        obtain ⟨h1, h2⟩ := hend.out
        rw [hrc5.out]
        exact ⟨rfl, x, h1, h.out.wc, h.out.ec, hfr.out.trans h2, fun k hk => .inl hk⟩
end Go.Proofs.Ythboeoidgglcgaa
