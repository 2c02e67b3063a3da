/- cat: a key placed. -/
import Derived.Test.YthboeoidgglcgaaGreatCtD
namespace Go.Proofs.YthboeoidgglcgaaGreat
set_option linter.unusedVariables false
set_option linter.unusedSimpArgs false
open Go Go.RowKit Go.Maps
def insE (l : List Et) (q : Et) : List Et := l.takeWhile (fun e => decide (e.e.key < q.e.key)) ++ (q :: l.dropWhile (fun e => decide (e.e.key < q.e.key)))
theorem insE_map {V : Type} (f : Et → By × V) (hf : ∀ e, (f e).1 = e.e.key) (l : List Et) (q : Et) : (insE l q).map f = insP (l.map f) q.e.key (f q).2 := by
  unfold insE insP
  rw [List.map_append, List.map_cons, List.takeWhile_map, List.dropWhile_map]
  have e1 : ((fun e : By × V => decide (e.1 < q.e.key)) ∘ f) = (fun e : Et => decide (e.e.key < q.e.key)) := by funext e; simp only [Function.comp, hf]
  rw [e1]
  have e2 : f q = (q.e.key, (f q).2) := by rw [← hf q]
  rw [← e2]
theorem insE_mem (l : List Et) (q e : Et) (h : e ∈ insE l q) : e = q ∨ e ∈ l := by
  unfold insE at h
  rcases List.mem_append.mp h with h | h
  · exact .inr ((List.takeWhile_sublist _).subset h)
  · rcases List.mem_cons.mp h with h | h
    · exact .inl h
    · exact .inr ((List.dropWhile_sublist _).subset h)
theorem Pls.upd {S : Nat → Prop} {l : List (Int × Int)} {A : Option Addr} {n c : Nat} {w w' : World} (h : Pls l (.slice A n c) w) (hu : Upd S w w') (hA : 0 < l.length → ∀ ad, A = some ad → ¬ S ad.block) : Pls l (.slice A n c) w' := by
  obtain ⟨A', c', e, h1, h2, h3, h4⟩ := h
  refine ⟨A', c', e, h1, h2, fun hp => ?_, h4⟩
  obtain ⟨b, o, eA, hb, hc⟩ := h3 hp
  injection e with e1
  have hn := hA hp _ (e1.trans eA)
  have hbk := hu.2.2.2.2 b hb hn
  exact ⟨b, o, eA, Nat.lt_of_lt_of_le hb hu.2.2.2.1, fun i y hy => ⟨(World.cell?_of_block (a := ⟨b, o + i * 2, none⟩) hbk).trans (hc i y hy).1, (World.cell?_of_block (a := ⟨b, o + i * 2 + 1, none⟩) hbk).trans (hc i y hy).2⟩⟩
/-- a note's places lie in no block that acts on the catalog turn -/
def FarP (n : Nt) (v : Value) (x : CtX) (g : Nat) : Prop := 0 < n.places.length → ∀ A ca A2 c2 ad, v = n.agg A ca A2 c2 → A2 = some ad → ¬ x.S g ad.block
theorem placed_end {w5 w9 : World} {lo g t B0 : Nat} {x : CtX} {B T : List (By × Int)} {R : List Int} {G : Int} {ny nu : By} {ng ns : Int} {np : List (Int × Int)} {A5 : Option Addr} {lp c5 : Nat}
    (h5 : Cr w5 lo g x B T R G t) (hl : np.length = lp) (ho : OP np (.slice A5 lp c5) B0 w5) (hB : lo ≤ B0) (hg : w5.grownBy w9 (some x.be)) (hm : MapB w9 9 KS x.be (t + 1) (delP (eM x.E) ny ++ [(ny, .agg #[.string (bs ny), .int .i64 ng, .int .i64 ns, .string (bs nu), .slice A5 lp c5])])) :
    Cr w9 lo g { x with E := insE (x.E.filter (fun e => e.e.key != ny)) ⟨⟨ny, ng, ns, nu, np⟩, A5, c5⟩ } B T R G (t + 1) ∧ Upd (x.S g) w5 w9 := by
  have e : eM (insE (x.E.filter (fun e => e.e.key != ny)) ⟨⟨ny, ng, ns, nu, np⟩, A5, c5⟩) = insP (delP (eM x.E) ny) ny (.agg #[.string (bs ny), .int .i64 ng, .int .i64 ns, .string (bs nu), .slice A5 lp c5]) := by
    have := insE_map (fun e : Et => (e.e.key, e.agg)) (fun _ => rfl) (x.E.filter (fun e => e.e.key != ny)) ⟨⟨ny, ng, ns, nu, np⟩, A5, c5⟩
    unfold eM at this ⊢
    rw [this]
    have e2 := eM_del x.E ny
    unfold eM at e2
    rw [e2]
    unfold Et.agg Et.v
    simp only
    rw [hl]
  refine h5.setE (Nat.le_succ t) hg ?_ (fun q hq => ?_)
  · rw [e]
    exact hm.perm (insP_perm _ _ _).symm
  · obtain ⟨-, -, -, -, h6, -⟩ := h5.setM hg h5.me.isMap
    rcases insE_mem _ _ _ hq with rfl | hq
    · unfold Et.v
      simp only
      rw [hl]
      refine ⟨row_more (row_keep ho.1 (fun k e' => hg.block k (ho.1.lt k e').2 (fun e2 => ?_))) hB, ho.2⟩
      injection e2 with e2
      exact row_notmap ho.1 h5.me (by rw [← e2]; exact e')
    · exact h6 q (List.mem_filter.mp hq).1
set_option maxRecDepth 10000 in
set_option maxHeartbeats 2000000 in
theorem placed_any (lo g t : Nat) (x : CtX) (c : CtP) (w : World) (h : Hid (Ca w lo g x c t)) (ht : t ≤ 900) (hlo : lo ≤ w.heap.size) (n : Nt) (v : Value) (hk : n.key.length ≤ maxLen) (hv : NtV n v w) (hI : I64 n.cart) (hfar : FarP n v x g) : Calls Tryz.prog 16 #[.pointer (some ⟨g, 0, none⟩), v] w (ActPost lo g t x w (c.placed n)) := by
  have hvn := hv
  obtain ⟨A, ca, A2, c2, rfl, hdt, hpl⟩ := hv
  replace hfar := Lib.hid (fun hp ad hA => hfar hp A ca A2 c2 ad rfl hA)
  obtain ⟨N, hN⟩ : ∃ N, w.heap.size = N := ⟨_, rfl⟩
  obtain ⟨rc, hrc⟩ : ∃ rc, c.placed n = rc := ⟨_, rfl⟩
  rw [hrc]
  have hrc0 := Lib.hid hrc
  unfold CtP.placed at hrc
  have hvn2 := Lib.hid (fun y (hg : Gr w y) => (NtV.gr hg (Lib.hid hvn)).out)
  obtain ⟨nk, ny, ng, nc, nd, nu, ns, np⟩ := n
  unfold Nt.agg at hvn2 ⊢
  simp only at hk hrc hdt hpl hvn2 hI hfar ⊢
  obtain ⟨ld, hld⟩ : ∃ ld, nd.length = ld := ⟨_, rfl⟩
  obtain ⟨lp, hlp⟩ : ∃ lp, np.length = lp := ⟨_, rfl⟩
  rw [hld] at hdt hvn2 ⊢
  rw [hlp] at hpl hvn2 ⊢
  obtain ⟨W, hW⟩ : ∃ W, w.alloc (.cells #[.int .i64 nk, .string (bs ny), .int .i64 ng, .int .i64 nc, .slice A ld ca, .string (bs nu), .int .i64 ns, .slice A2 lp c2] 37) = W := ⟨_, rfl⟩
  have hgW : Gr w W := by rw [← hW]; exact Gr.alloc _ _
  have hbW : W.heap[N]? = some (.cells #[.int .i64 nk, .string (bs ny), .int .i64 ng, .int .i64 nc, .slice A ld ca, .string (bs nu), .int .i64 ns, .slice A2 lp c2] 37 (0, 0)) := by rw [← hW, ← hN]; exact heap_alloc_new w _
  have hcW := Lib.hid (h.out.gr hgW)
  have hsame := Lib.hid (fun r (w' : World) (hg : Gr w w') => ActPost.same h.out hg r)
  clear hvn
  have y1 := blk_cell (j := 1) hbW rfl
  have y6 := blk_cell (j := 6) hbW rfl
  have hgr := Lib.hid (fitGroups_any ns W)
  have hnm := Lib.hid (named_any lo g t x c W hcW ⟨nk, ny, ng, nc, nd, nu, ns, np⟩ _ hk (by have := hvn2.out W hgW; rw [← hld, ← hlp] at this; exact this))
  unfold Nt.agg at hnm
  simp only at hnm
  rw [hld, hlp] at hnm
  have z0 := blk_cell (j := 0) hbW rfl
  have z2 := blk_cell (j := 2) hbW rfl
  have z3 := blk_cell (j := 3) hbW rfl
  have z4 := blk_cell (j := 4) hbW rfl
  have z5 := blk_cell (j := 5) hbW rfl
  have z7 := blk_cell (j := 7) hbW rfl
  have hg4 := grp_le ns
  obtain ⟨gr, hgrn⟩ : ∃ gr, grp ns = gr := ⟨_, rfl⟩
  rw [hgrn] at hgr hrc hg4
  cases hna : c.named ny ng with
  | false =>
    have hrc5 : rc = (12, c) := by rw [← hrc, if_pos (.inl hna)]
    rw [hna] at hnm
    replace hrc5 := Lib.hid hrc5
    replace hna := Lib.hid hna
    replace hgrn := Lib.hid hgrn
    replace hvn2 := Lib.hid hvn2
    replace hgW := Lib.hid hgW
    replace hbW := Lib.hid hbW
    replace hdt := Lib.hid hdt
    replace hpl := Lib.hid hpl
    replace hld := Lib.hid hld
    replace hlp := Lib.hid hlp
    replace hI := Lib.hid hI
    clear hrc h
    go_enter Tryz.func16, Tryz.ntmps16
    go_wp2_with (first
      | (go_at_call 48; go_must (refine hgr.out.mono ?_); rintro e w' ⟨rfl, hee⟩; rw [hee]; clear hee)
      | (go_at_call 49; go_must (refine hnm.out.mono ?_); clear hnm; rintro e w2 ⟨rfl, hg2⟩))
    go_ret
    rw [hrc5.out]
    exact hsame.out 12 _ (hgW.out.trans hg2)
  | true =>
    rw [hna] at hnm
    by_cases hz : gr = 0
    · have hrc5 : rc = (12, c) := by rw [← hrc, if_pos (.inr (.inl hz))]
      subst hz
      replace hrc5 := Lib.hid hrc5
      replace hna := Lib.hid hna
      replace hgrn := Lib.hid hgrn
      replace hvn2 := Lib.hid hvn2
      replace hgW := Lib.hid hgW
      replace hbW := Lib.hid hbW
      replace hdt := Lib.hid hdt
      replace hpl := Lib.hid hpl
      replace hld := Lib.hid hld
      replace hlp := Lib.hid hlp
      replace hI := Lib.hid hI
      clear hrc h
      go_enter Tryz.func16, Tryz.ntmps16
      go_wp2_with (first
        | (go_at_call 48; go_must (refine hgr.out.mono ?_); rintro e w' ⟨rfl, hee⟩; rw [hee]; clear hee)
        | (go_at_call 49; go_must (refine hnm.out.mono ?_); clear hnm; rintro e w2 ⟨rfl, hg2⟩))
      go_ret
      rw [hrc5.out]
      exact hsame.out 12 _ (hgW.out.trans hg2)
    · have hzb : ((gr : Int) == 0) = false := beq_false_of_ne (by omega)
      have hmul : IntKind.i64.wrap (10 * (gr : Int)) = ((10 * gr : Nat) : Int) := by rw [IntKind.wrap_i64]; omega
      by_cases hl : lp = 10 * gr
      · have hrc5 : rc = (0, { c with W := delP c.W ny, E := insP (delP c.E ny) ny ⟨ny, ng, ns, nu, np⟩ }) := by
          rw [← hrc, if_neg (fun hc => hc.elim (fun e => by rw [hna] at e; exact absurd e (by decide)) (fun e => e.elim hz (fun e => e (by rw [hlp]; exact hl))))]
        have hlb : ((lp : Int) != ((10 * gr : Nat) : Int)) = false := by rw [hl]; simp
        have hlp40 : lp ≤ 40 := by omega
        replace hrc5 := Lib.hid hrc5
        replace hna := Lib.hid hna
        replace hgrn := Lib.hid hgrn
        replace hvn2 := Lib.hid hvn2
        replace hl := Lib.hid hl
        replace hz := Lib.hid hz
        replace hg4 := Lib.hid hg4
        replace hgW := Lib.hid hgW
        replace hbW := Lib.hid hbW
        replace hdt := Lib.hid hdt
        replace hpl := Lib.hid hpl
        replace hld := Lib.hid hld
        replace hlp := Lib.hid hlp
        replace hI := Lib.hid hI
        clear hrc hsame
        go_enter Tryz.func16, Tryz.ntmps16
        go_upto_region 4 with (first
          | (go_at_call 48; go_must (refine hgr.out.mono ?_); rintro e w' ⟨rfl, hee⟩; rw [hee]; clear hee)
          | (go_at_call 49; go_must (refine hnm.out.mono ?_); clear hnm; rintro e w2 ⟨rfl, hg2⟩; have hb2 := blk_below hbW.out hg2; have z7 := blk_cell (j := 7) hb2 rfl))
        replace hW := Lib.hid hW
        have hc2 := hcW.out.gr hg2
        have q1 := blk_cell (j := 1) hb2 rfl
        have hgw2 := Lib.hid (hgW.out.trans hg2)
        have hun := Lib.hid (unstage_any lo g t x c.B c.T c.R c.G w2 (Lib.hid hc2.cr) (by have h1 := h.out.few.1; rw [h.out.wc, List.length_map] at h1; omega) ny)
        replace hb2 := Lib.hid hb2
        replace hN := Lib.hid hN
        clear hzb hmul hlb z7 z0 z2 z3 z4 z5 y1 y6 hgr hc2
        go_upto_region 5 with (go_at_call 50; go_must (refine hun.out.mono ?_); clear hun; rintro e w3 ⟨⟨vx, rfl⟩, v3, h3, ho3, hu3⟩)
        have hb3 : w3.heap[N]? = some (.cells #[.int .i64 nk, .string (bs ny), .int .i64 ng, .int .i64 nc, .slice A ld ca, .string (bs nu), .int .i64 ns, .slice A2 lp c2] 37 (0, 0)) := (hu3.2.2.2.2 N (blk_lt hb2.out) (fun hs => by have := (h.out.lt N hs).1; have := hN.out; omega)).trans hb2.out
        obtain ⟨wd, hwd⟩ : ∃ wd, wd = w3.drew := ⟨_, rfl⟩
        have hgd : Gr w3 wd := by rw [hwd]; exact (Below.refl _ _).drew
        have hbd : Hid (wd.heap[N]? = some (.cells #[.int .i64 nk, .string (bs ny), .int .i64 ng, .int .i64 nc, .slice A ld ca, .string (bs nu), .int .i64 ns, .slice A2 lp c2] 37 (0, 0))) := Lib.hid (by rw [hwd]; exact hb3)
        have hcd := Lib.hid (h3.out.gr hgd)
        have hpd : Pls np (.slice A2 lp c2) wd := by
          have hp1 := (Pls.gr hgw2.out hpl).out
          exact (Pls.gr hgd (Lib.hid (hp1.upd hu3 hfar.out))).out
        have hcl := Lib.hid (clonePl_any A2 lp c2 np (by omega) wd hpd)
        have hfr := Lib.hid ((Upd.of_below hgw2.out).trans (hu3.trans (Upd.of_below hgd)))
        have hlod : Hid (lo ≤ wd.heap.size) := Lib.hid (Nat.le_trans hlo (Nat.le_trans (Below.size hgw2.out) (Nat.le_trans hu3.2.2.2.1 (Below.size hgd))))
        have hsS : Hid (∀ k, CtX.S { x with vs := v3, W := filW ny x.W } g k ↔ x.S g k) := Lib.hid (fun k => by unfold CtX.S; simp only; rw [ho3])
        replace hpd := Lib.hid hpd
        replace ho3 := Lib.hid ho3
        clear hb3 hgd hg2 q1
        refine wpR_region (Gr) 18 (by kernel_rfl) ?_
        (rw [← hwd]; replace hwd := Lib.hid hwd)
        refine wT (i := 0) (v := ?_) (Gr.road) (some 29) rfl (fun w' hw' => ?_) ?_
        rotate_left
        · go_simp; with_reducible rfl
        simp only [Act.put, List.setIfInBounds_toArray, List.set_cons_zero, List.set_cons_succ]
        refine wT (i := 1) (v := ?_) (Gr.road) (some 30) rfl (fun w' hw' => ?_) ?_
        rotate_left
        · go_simp; with_reducible rfl
        simp only [Act.put, List.setIfInBounds_toArray, List.set_cons_zero, List.set_cons_succ]
        refine wT (i := 2) (v := ?_) (Gr.road) (some 31) rfl (fun w' hw' => ?_) ?_
        rotate_left
        · go_simp; with_reducible rfl
        simp only [Act.put, List.setIfInBounds_toArray, List.set_cons_zero, List.set_cons_succ]
        refine wT (i := 3) (v := ?_) (Gr.road) (some 32) rfl (fun w' hw' => ?_) ?_
        rotate_left
        · have q := blk_cell (j := 1) (blk_below hcd.out.blk hw') rfl; go_simp; with_reducible rfl
        simp only [Act.put, List.setIfInBounds_toArray, List.set_cons_zero, List.set_cons_succ]
        refine wT (i := 4) (v := ?_) (Gr.road) (some 33) rfl (fun w' hw' => ?_) ?_
        rotate_left
        · go_simp; with_reducible rfl
        simp only [Act.put, List.setIfInBounds_toArray, List.set_cons_zero, List.set_cons_succ]
        refine wT (i := 5) (v := ?_) (Gr.road) (some 34) rfl (fun w' hw' => ?_) ?_
        rotate_left
        · have q := blk_cell (j := 1) (blk_below hbd.out hw') rfl; go_simp; with_reducible rfl
        simp only [Act.put, List.setIfInBounds_toArray, List.set_cons_zero, List.set_cons_succ]
        refine wT (i := 6) (v := ?_) (Gr.road) (some 35) rfl (fun w' hw' => ?_) ?_
        rotate_left
        · go_simp; with_reducible rfl
        simp only [Act.put, List.setIfInBounds_toArray, List.set_cons_zero, List.set_cons_succ]
        refine wT (i := 7) (v := ?_) (Gr.road) (some 36) rfl (fun w' hw' => ?_) ?_
        rotate_left
        · have q := blk_cell (j := 1) (blk_below hbd.out hw') rfl; go_simp; with_reducible rfl
        simp only [Act.put, List.setIfInBounds_toArray, List.set_cons_zero, List.set_cons_succ]
        refine wT (i := 8) (v := ?_) (Gr.road) (some 37) rfl (fun w' hw' => ?_) ?_
        rotate_left
        · go_simp; with_reducible rfl
        simp only [Act.put, List.setIfInBounds_toArray, List.set_cons_zero, List.set_cons_succ]
        refine wT (i := 9) (v := ?_) (Gr.road) (some 38) rfl (fun w' hw' => ?_) ?_
        rotate_left
        · have q := blk_cell (j := 2) (blk_below hbd.out hw') rfl; go_simp; with_reducible rfl
        simp only [Act.put, List.setIfInBounds_toArray, List.set_cons_zero, List.set_cons_succ]
        refine wT (i := 10) (v := ?_) (Gr.road) (some 39) rfl (fun w' hw' => ?_) ?_
        rotate_left
        · go_simp; with_reducible rfl
        simp only [Act.put, List.setIfInBounds_toArray, List.set_cons_zero, List.set_cons_succ]
        refine wT (i := 11) (v := ?_) (Gr.road) (some 40) rfl (fun w' hw' => ?_) ?_
        rotate_left
        · have q := blk_cell (j := 6) (blk_below hbd.out hw') rfl; go_simp; with_reducible rfl
        simp only [Act.put, List.setIfInBounds_toArray, List.set_cons_zero, List.set_cons_succ]
        refine wT (i := 12) (v := ?_) (Gr.road) (some 41) rfl (fun w' hw' => ?_) ?_
        rotate_left
        · go_simp; with_reducible rfl
        simp only [Act.put, List.setIfInBounds_toArray, List.set_cons_zero, List.set_cons_succ]
        refine wT (i := 13) (v := ?_) (Gr.road) (some 42) rfl (fun w' hw' => ?_) ?_
        rotate_left
        · have q := blk_cell (j := 5) (blk_below hbd.out hw') rfl; go_simp; with_reducible rfl
        simp only [Act.put, List.setIfInBounds_toArray, List.set_cons_zero, List.set_cons_succ]
        refine wT (i := 14) (v := ?_) (Gr.road) (some 43) rfl (fun w' hw' => ?_) ?_
        rotate_left
        · go_simp; with_reducible rfl
        simp only [Act.put, List.setIfInBounds_toArray, List.set_cons_zero, List.set_cons_succ]
        refine wT (i := 15) (v := ?_) (Gr.road) (some 44) rfl (fun w' hw' => ?_) ?_
        rotate_left
        · have q := blk_cell (j := 7) (blk_below hbd.out hw') rfl; go_simp; with_reducible rfl
        simp only [Act.put, List.setIfInBounds_toArray, List.set_cons_zero, List.set_cons_succ]
        refine wpR_one 16 rfl (by kernel_rfl) (by kernel_rfl) (fun K hK => ?_)
        go_simp
        refine hcl.out.mono ?_
        rintro e w5 ⟨A5, c5, rfl, ho5, hb5⟩
        refine hK _ _ (fun _ => hb5) ?_
        clear hK K
        clear hcl
        have h5 := hcd.out.gr hb5
        obtain ⟨w9, hrun, hm9, hg9⟩ := h5.me.store lawS Tryz.underlying50 (by omega) (keyS hk) (.agg #[.string (bs ny), .int .i64 ng, .int .i64 ns, .string (bs nu), .slice A5 lp c5])
        have hend := Lib.hid (placed_end h5 hlp.out ho5 hlod.out hg9 hm9)
        replace h5 := Lib.hid h5
        replace hb5 := Lib.hid hb5
        replace hg9 := Lib.hid hg9
        clear hm9 ho5
        try simp only [Act.put, List.setIfInBounds_toArray, List.set_cons_zero, List.set_cons_succ]
        refine wT (i := 17) (v := ?_) (Gr.road) (some 46) rfl (fun w' hw' => ?_) ?_
        rotate_left
        · go_simp; with_reducible rfl
        simp only [Act.put, List.setIfInBounds_toArray, List.set_cons_zero, List.set_cons_succ]
        refine wpR_one 18 rfl (by kernel_rfl) (by kernel_rfl) (fun K hK => ?_)
        go_simp
        refine hK _ _ (fun h => absurd h (by decide)) ?_
        clear hK K
        try simp only [Act.put, List.setIfInBounds_toArray, List.set_cons_zero, List.set_cons_succ]
        refine wpR_done (by kernel_rfl) ?_ _
        go_wp2_with fail
        go_ret
        obtain ⟨h1, h2⟩ := hend.out
        rw [hrc5.out]
        refine ⟨rfl, _, h1, ?_, ?_, hfr.out.trans ((Upd.of_below hb5.out).trans (Upd.mono h2 (fun k hk => (hsS.out k).1 hk))), fun k hk => .inl ((hsS.out k).1 hk)⟩
        · show delP c.W ny = _
          rw [h.out.wc]; exact (filW_wc _ _).symm
        · show insP (delP c.E ny) ny _ = _
          rw [h.out.ec, ← filE_ec]
          exact (insE_map (fun e : Et => (e.e.key, e.e)) (fun _ => rfl) (x.E.filter (fun e => e.e.key != ny)) ⟨⟨ny, ng, ns, nu, np⟩, A5, c5⟩).symm
      · have hrc5 : rc = (12, c) := by rw [← hrc, if_pos (.inr (.inr (by rw [hlp]; exact hl)))]
        have hlb : ((lp : Int) != ((10 * gr : Nat) : Int)) = true := by
          rw [bne_iff_ne]; omega
        replace hrc5 := Lib.hid hrc5
        replace hna := Lib.hid hna
        replace hgrn := Lib.hid hgrn
        replace hvn2 := Lib.hid hvn2
        replace hl := Lib.hid hl
        replace hz := Lib.hid hz
        replace hgW := Lib.hid hgW
        replace hbW := Lib.hid hbW
        replace hdt := Lib.hid hdt
        replace hpl := Lib.hid hpl
        replace hld := Lib.hid hld
        replace hlp := Lib.hid hlp
        replace hI := Lib.hid hI
        clear hrc h
        go_enter Tryz.func16, Tryz.ntmps16
        go_wp2_with (first
          | (go_at_call 48; go_must (refine hgr.out.mono ?_); rintro e w' ⟨rfl, hee⟩; rw [hee]; clear hee)
          | (go_at_call 49; go_must (refine hnm.out.mono ?_); clear hnm; rintro e w2 ⟨rfl, hg2⟩; have hb2 := blk_below hbW.out hg2; have z7 := blk_cell (j := 7) hb2 rfl))
        go_ret
        rw [hrc5.out]
        exact hsame.out 12 _ (hgW.out.trans hg2)
end Go.Proofs.YthboeoidgglcgaaGreat
/- cat: a key that is gone. -/
namespace Go.Proofs.YthboeoidgglcgaaGreat
set_option linter.unusedVariables false
set_option linter.unusedSimpArgs false
open Go Go.RowKit Go.Maps
theorem lit_tomb (w : World) (k : By) (z : Int) : Reads (w.alloc (.cells #[.string (bs k), .int .i64 z] 83)) (w.heap.size + 1) 2 (some ⟨w.heap.size, 0, none⟩) 1 (flatT [(k, z)]) := by
  have hh := World.news_of_block (heap_alloc_new w (.cells #[.string (bs k), .int .i64 z] 83))
  exact ⟨rfl, fun _ => ⟨_, rfl, Nat.lt_succ_self _, fun j u hu => hh j u hu⟩⟩
theorem wp_appT {w : World} {o : Oper} {a : Act} {Q : Exit → Act → World → Prop} {K : Act → World → Prop} (s x : Operand)
    (ho : o.op = .call { callee := .builtin .append, args := #[s, x], argTypes := #[54, 54] })
    (base : Nat) (v : Value) (l : List (By × Int)) (hs : a.eval s = v) (hown : TRow w base v l)
    (B : Nat) (A : Option Addr) (c : Nat) (q : By × Int) (hx : a.eval x = .slice A 1 c) (hr : Reads w B 2 A 1 (flatT [q]))
    (hlen : l.length ≤ 100000) (hbase : base ≤ w.heap.size)
    (h : ∀ v' w', TRow w' base v' (l ++ [q]) → w.grownBy w' v.ownBlock → (v'.ownBlock = v.ownBlock ∨ v'.ownBlock = some w.heap.size) → K (a.put o.dst v') w') : Oper.wp Tryz.prog o a w K Q := by
  obtain ⟨i0, hi, hz0, hz1, hz2⟩ := info_parts info_tomb
  refine wp_append_any w s x 54 ho base 83 i0 _ 2 24 Tryz.underlying54 hi hz0 hz1 hz2 rfl (by omega) v l.length (flatT l) hs hown B A 1 c (flatT [q]) hx hr (flatT_one [q])
    (by simp only [maxLen]; omega) (by omega) hbase fun v' w' h2 h3 h4 => h v' w' ?_ h3 h4
  unfold TRow
  rw [List.length_append, flatT_app]
  exact h2
theorem Cr.formT {w : World} {lo g t : Nat} {x : CtX} {B T : List (By × Int)} {R : List Int} {G : Int} (h : Cr w lo g x B T R G t) : ∃ A ca, x.vt = .slice A T.length ca := by
  obtain ⟨A, ca, e1, -⟩ := row_form h.ts
  exact ⟨A, ca, e1⟩
theorem tomb_end {w5 w8 : World} {lo g t : Nat} {x : CtX} {B T : List (By × Int)} {R : List Int} {G : Int} {q : By × Int} {v8 : Value} {o : Obj}
    (h5 : Cr w5 lo g x B T R G t) (hr8 : TRow w8 lo v8 (T ++ [q])) (hg8 : (w5.alloc o).grownBy w8 x.vt.ownBlock) (ho8 : v8.ownBlock = x.vt.ownBlock ∨ v8.ownBlock = some (w5.alloc o).heap.size) :
    Cr (w8.setCell ⟨g, 3, none⟩ v8) lo g { x with vt := v8 } B (T ++ [q]) R G t ∧ Upd (x.S g) w5 (w8.setCell ⟨g, 3, none⟩ v8) ∧ ∀ k, CtX.S { x with vt := v8 } g k → x.S g k ∨ w5.heap.size ≤ k := by
  have hu : Upd (fun k => x.vt.ownBlock = some k) w5 w8 := (Upd.of_below (Gr.alloc w5 o)).trans (Upd.of_own hg8)
  obtain ⟨h9, hu9⟩ := h5.setT hu hr8
  refine ⟨h9, hu9, fun k hk => ?_⟩
  rcases hk with hk | hk | hk | hk | hk | hk
  · exact .inl (.inl hk)
  · exact .inl (.inr (.inl hk))
  · exact .inl (.inr (.inr (.inl hk)))
  · exact .inl (.inr (.inr (.inr (.inl hk))))
  · exact .inl (.inr (.inr (.inr (.inr (.inl hk)))))
  · have hk : v8.ownBlock = some k := hk
    rcases ho8 with e | e
    · exact .inl (.inr (.inr (.inr (.inr (.inr (by rw [← e]; exact hk))))))
    · rw [hk] at e
      injection e with e
      right
      rw [e]; simp
set_option maxRecDepth 10000 in
set_option maxHeartbeats 2000000 in
theorem gone_any (lo g t : Nat) (x : CtX) (c : CtP) (w : World) (h : Hid (Ca w lo g x c t)) (ht : t ≤ 900) (hlo : lo ≤ w.heap.size) (n : Nt) (v : Value) (hk : n.key.length ≤ maxLen) (hv : NtV n v w) (hI : I64 n.cart) : Calls Tryz.prog 17 #[.pointer (some ⟨g, 0, none⟩), v] w (ActPost lo g t x w (c.gone n)) := by
  have hvn := hv
  obtain ⟨A, ca, A2, c2, rfl, hdt, hpl⟩ := hv
  obtain ⟨N, hN⟩ : ∃ N, w.heap.size = N := ⟨_, rfl⟩
  obtain ⟨rc, hrc⟩ : ∃ rc, c.gone n = rc := ⟨_, rfl⟩
  rw [hrc]
  have hrc0 := Lib.hid hrc
  unfold CtP.gone at hrc
  have hvn2 := Lib.hid (fun y (hg : Gr w y) => (NtV.gr hg (Lib.hid hvn)).out)
  obtain ⟨nk, ny, ng, nc, nd, nu, ns, np⟩ := n
  unfold Nt.agg at hvn2 ⊢
  simp only at hk hrc hdt hpl hvn2 hI ⊢
  obtain ⟨ld, hld⟩ : ∃ ld, nd.length = ld := ⟨_, rfl⟩
  obtain ⟨lp, hlp⟩ : ∃ lp, np.length = lp := ⟨_, rfl⟩
  rw [hld] at hdt hvn2 ⊢
  rw [hlp] at hpl hvn2 ⊢
  obtain ⟨W, hW⟩ : ∃ W, w.alloc (.cells #[.int .i64 nk, .string (bs ny), .int .i64 ng, .int .i64 nc, .slice A ld ca, .string (bs nu), .int .i64 ns, .slice A2 lp c2] 37) = W := ⟨_, rfl⟩
  have hgW : Gr w W := by rw [← hW]; exact Gr.alloc _ _
  have hbW : W.heap[N]? = some (.cells #[.int .i64 nk, .string (bs ny), .int .i64 ng, .int .i64 nc, .slice A ld ca, .string (bs nu), .int .i64 ns, .slice A2 lp c2] 37 (0, 0)) := by rw [← hW, ← hN]; exact heap_alloc_new w _
  have hcW := Lib.hid (h.out.gr hgW)
  have hsame := Lib.hid (fun r (w' : World) (hg : Gr w w') => ActPost.same h.out hg r)
  clear hvn
  have y1 := blk_cell (j := 1) hbW rfl
  have y2 := blk_cell (j := 2) hbW rfl
  have hhc := Lib.hid (has_any lo g t x c W hcW (by omega) ny hk)
  cases hha : c.has ny with
  | false =>
    have hrc5 : rc = (5, c) := by rw [← hrc, if_pos hha]
    rw [hha] at hhc
    replace hrc5 := Lib.hid hrc5
    replace hha := Lib.hid hha
    replace hgW := Lib.hid hgW
    replace hbW := Lib.hid hbW
    replace hdt := Lib.hid hdt
    replace hpl := Lib.hid hpl
    replace hld := Lib.hid hld
    replace hlp := Lib.hid hlp
    replace hI := Lib.hid hI
    replace hvn2 := Lib.hid hvn2
    clear hrc h
    go_enter Tryz.func17, Tryz.ntmps17
    go_wp2_with (go_at_call 11; go_must (refine hhc.out.mono ?_); clear hhc; rintro e w2 ⟨rfl, hg2⟩)
    go_ret
    rw [hrc5.out]
    exact hsame.out 5 _ (hgW.out.trans hg2)
  | true =>
    rw [hha] at hhc
    rw [if_neg (by rw [hha]; simp)] at hrc
    have hlt := Lib.hid (fun y (hg : Gr W y) => later_any lo g t x c y (Lib.hid (hcW.out.gr hg)) ng)
    cases hla : c.later ng with
    | false =>
      have hrc5 : rc = (12, c) := by rw [← hrc, if_pos hla]
      rw [hla] at hlt
      replace hrc5 := Lib.hid hrc5
      replace hha := Lib.hid hha
      replace hla := Lib.hid hla
      replace hgW := Lib.hid hgW
      replace hbW := Lib.hid hbW
      replace hdt := Lib.hid hdt
      replace hpl := Lib.hid hpl
      replace hld := Lib.hid hld
      replace hlp := Lib.hid hlp
      replace hI := Lib.hid hI
      replace hvn2 := Lib.hid hvn2
      clear hrc h
      go_enter Tryz.func17, Tryz.ntmps17
      go_wp2_with (first
        | (go_at_call 11; go_must (refine hhc.out.mono ?_); clear hhc; rintro e w2 ⟨rfl, hg2⟩; have z2 := blk_cell (j := 2) (blk_below hbW.out hg2) rfl; have hl2 := Lib.hid (hlt.out _ hg2))
        | (go_at_call 51; go_must (refine hl2.out.mono ?_); rintro e w' ⟨rfl, hee⟩; rw [hee]; clear hee))
      go_ret
      rw [hrc5.out]
      exact hsame.out 12 _ (hgW.out.trans hg2)
    | true =>
      have hrc5 : rc = (0, { c with W := delP c.W ny, E := delP c.E ny, B := delP c.B ny, T := if hasP c.E ny = true ∨ hasP c.B ny = true then c.T ++ [(ny, ng)] else c.T, G := ng }) := by rw [← hrc, if_neg (by rw [hla]; simp)]
      rw [hla] at hlt
      replace hrc5 := Lib.hid hrc5
      replace hha := Lib.hid hha
      replace hla := Lib.hid hla
      replace hgW := Lib.hid hgW
      replace hbW := Lib.hid hbW
      replace hdt := Lib.hid hdt
      replace hpl := Lib.hid hpl
      replace hld := Lib.hid hld
      replace hlp := Lib.hid hlp
      replace hI := Lib.hid hI
      replace hvn2 := Lib.hid hvn2
      clear hrc hsame
      go_enter Tryz.func17, Tryz.ntmps17
      go_upto_region 5 with (first
        | (go_at_call 11; go_must (refine hhc.out.mono ?_); clear hhc; rintro e w2 ⟨rfl, hg2⟩; have z2 := blk_cell (j := 2) (blk_below hbW.out hg2) rfl; have hl2 := Lib.hid (hlt.out _ hg2))
        | (go_at_call 51; go_must (refine hl2.out.mono ?_); rintro e w' ⟨rfl, hee⟩; rw [hee]; clear hee))
      replace hW := Lib.hid hW
      have hc2 := hcW.out.gr hg2
      have hb2 := blk_below hbW.out hg2
      have hxx := hc2.blk
      have k5 := blk_cell (j := 5) hxx rfl
      have f5 := blk_free hxx 5
      have hs5 := hc2.cr.setG ng
      have hset := blk_other (w := w2) (g := g) (k := N) (fun e => by have := blk_lt h.out.blk; rw [← e, ← hN] at this; omega) 5 (.int .i64 ng)
      rw [hb2] at hset
      obtain ⟨w3, hw3⟩ : ∃ w3, w2.setCell ⟨g, 5, none⟩ (.int .i64 ng) = w3 := ⟨_, rfl⟩
      rw [hw3] at hs5 hset
      have hfr3 := Lib.hid ((Upd.of_below (hgW.out.trans hg2)).trans hs5.2)
      replace hs5 := Lib.hid hs5.1
      replace hset := Lib.hid hset
      replace hN := Lib.hid hN
      replace hxx := Lib.hid hxx
      replace hb2 := Lib.hid hb2
      replace hc2 := Lib.hid hc2
      go_upto_region 6 with (fail)
      replace hw3 := Lib.hid hw3
      clear k5 f5 z2 y1 y2 hlt hl2 hg2
      obtain ⟨EA, Ec, hev, -, -⟩ := h.out.entV ny
      unfold Et.agg Et.v at hev
      simp only at hev
      generalize (entOf c ny).places.length = en at hev
      generalize entOf c ny = e9 at hev
      obtain ⟨ek, eg, es, eu, ep⟩ := e9
      simp only at hev
      obtain ⟨wd, hwd⟩ : ∃ wd, wd = w3.drew := ⟨_, rfl⟩
      have hgd : Gr w3 wd := by rw [hwd]; exact (Below.refl _ _).drew
      have hbd : Hid (wd.heap[N]? = some (.cells #[.int .i64 nk, .string (bs ny), .int .i64 ng, .int .i64 nc, .slice A ld ca, .string (bs nu), .int .i64 ns, .slice A2 lp c2] 37 (0, 0))) := Lib.hid (by rw [hwd]; exact hset.out)
      have hcd := Lib.hid (hs5.out.gr hgd)
      have hfrd := Lib.hid (hfr3.out.trans (Upd.of_below hgd))
      obtain ⟨hp, hhp⟩ : ∃ hp, hasP c.E ny = hp := ⟨_, rfl⟩
      have hlook : Hid (∀ w', Gr wd w' → (Instr.lookup 50 (.map (some x.be)) (.string (bs ny)) true).run Tryz.prog w' = .ok (.tuple #[.agg #[.string (bs ek), .int .i64 eg, .int .i64 es, .string (bs eu), .slice EA en Ec], .bool hp]) w') := Lib.hid (fun w' hw => by
        have := (hcd.out.gr hw).me.look lawS Tryz.underlying50 zeroE (keyS hk)
        rw [hev, h.out.hasE, hhp] at this
        exact this)
      replace hev := Lib.hid hev
      replace hhp := Lib.hid hhp
      clear hgd
      refine wpR_region (Gr) 11 (by kernel_rfl) ?_
      (rw [← hwd]; replace hwd := Lib.hid hwd)
      refine wT (i := 0) (v := ?_) (Gr.road) (some 27) rfl (fun w' hw' => ?_) ?_
      rotate_left
      · go_simp; with_reducible rfl
      simp only [Act.put, List.setIfInBounds_toArray, List.set_cons_zero, List.set_cons_succ]
      refine wT (i := 1) (v := ?_) (Gr.road) (some 28) rfl (fun w' hw' => ?_) ?_
      rotate_left
      · go_simp; with_reducible rfl
      simp only [Act.put, List.setIfInBounds_toArray, List.set_cons_zero, List.set_cons_succ]
      refine wT (i := 2) (v := ?_) (Gr.road) (some 29) rfl (fun w' hw' => ?_) ?_
      rotate_left
      · go_simp; with_reducible rfl
      simp only [Act.put, List.setIfInBounds_toArray, List.set_cons_zero, List.set_cons_succ]
      refine wT (i := 3) (v := ?_) (Gr.road) (some 30) rfl (fun w' hw' => ?_) ?_
      rotate_left
      · have q := blk_cell (j := 1) (blk_below hcd.out.blk hw') rfl; go_simp; with_reducible rfl
      simp only [Act.put, List.setIfInBounds_toArray, List.set_cons_zero, List.set_cons_succ]
      refine wT (i := 4) (v := ?_) (Gr.road) (some 31) rfl (fun w' hw' => ?_) ?_
      rotate_left
      · go_simp; with_reducible rfl
      simp only [Act.put, List.setIfInBounds_toArray, List.set_cons_zero, List.set_cons_succ]
      refine wT (i := 5) (v := ?_) (Gr.road) (some 32) rfl (fun w' hw' => ?_) ?_
      rotate_left
      · have q := blk_cell (j := 1) (blk_below hbd.out hw') rfl; go_simp; with_reducible rfl
      simp only [Act.put, List.setIfInBounds_toArray, List.set_cons_zero, List.set_cons_succ]
      refine wT (i := 6) (v := ?_) (Gr.road) (some 33) rfl (fun w' hw' => ?_) ?_
      rotate_left
      · have q := hlook.out _ hw'; go_simp; with_reducible rfl
      simp only [Act.put, List.setIfInBounds_toArray, List.set_cons_zero, List.set_cons_succ]
      refine wT (i := 7) (v := ?_) (Gr.road) (some 26) rfl (fun w' hw' => ?_) ?_
      rotate_left
      · go_simp; with_reducible rfl
      simp only [Act.put, List.setIfInBounds_toArray, List.set_cons_zero, List.set_cons_succ]
      refine wT (i := 8) (v := ?_) (Gr.road) (some 34) rfl (fun w' hw' => ?_) ?_
      rotate_left
      · go_simp; with_reducible rfl
      simp only [Act.put, List.setIfInBounds_toArray, List.set_cons_zero, List.set_cons_succ]
      refine wU (i := 9) (v := ?_) (Gr.road) (some 35) rfl (fun w' => ?_) ?_
      rotate_left
      · go_simp; with_reducible rfl
      simp only [Act.put, List.setIfInBounds_toArray, List.set_cons_zero, List.set_cons_succ]
      refine wpR_one 10 rfl (by kernel_rfl) (by kernel_rfl) (fun K hK => ?_)
      go_simp
      refine hK _ _ (fun _ => Gr.alloc _ _) ?_
      clear hK K
      try simp only [Act.put, List.setIfInBounds_toArray, List.set_cons_zero, List.set_cons_succ]
      refine wpR_one 11 rfl (by kernel_rfl) (by kernel_rfl) (fun K hK => ?_)
      go_simp
      refine hK _ _ (fun h => absurd h (by decide)) ?_
      clear hK K
      try simp only [Act.put, List.setIfInBounds_toArray, List.set_cons_zero, List.set_cons_succ]
      refine wT (i := 12) (v := ?_) (Gr.road) (some 6) rfl (fun w' hw' => ?_) ?_
      rotate_left
      · go_simp; with_reducible rfl
      simp only [Act.put, List.setIfInBounds_toArray, List.set_cons_zero, List.set_cons_succ]
      refine wpR_done (by kernel_rfl) ?_ _
      obtain ⟨w4, hw4⟩ : ∃ w4, wd.alloc (.cells #[.string (bs ek), .int .i64 eg, .int .i64 es, .string (bs eu), .slice EA en Ec] 43) = w4 := ⟨_, rfl⟩
      have hg4 : Gr wd w4 := by rw [← hw4]; exact Gr.alloc _ _
      have hc4 := Lib.hid (hcd.out.gr hg4)
      have hb4 := Lib.hid (blk_below hbd.out hg4)
      have hfr4 := Lib.hid (hfrd.out.trans (Upd.of_below hg4))
      clear hlook hcd hbd hfrd hg4
      go_upto_region 7 with (fail)
      (try rw [hw4])
      replace hw4 := Lib.hid hw4
      obtain ⟨we, hwe⟩ : ∃ we, we = w4.drew := ⟨_, rfl⟩
      have hge : Gr w4 we := by rw [hwe]; exact (Below.refl _ _).drew
      have hbe : Hid (we.heap[N]? = some (.cells #[.int .i64 nk, .string (bs ny), .int .i64 ng, .int .i64 nc, .slice A ld ca, .string (bs nu), .int .i64 ns, .slice A2 lp c2] 37 (0, 0))) := Lib.hid (by rw [hwe]; exact hb4.out)
      have hce := Lib.hid (hc4.out.gr hge)
      have hfre := Lib.hid (hfr4.out.trans (Upd.of_below hge))
      obtain ⟨hq, hhq⟩ : ∃ hq, hasP c.B ny = hq := ⟨_, rfl⟩
      have hlk2 := hce.out.mb.look lawS Tryz.underlying51 zeroI (keyS hk)
      rw [bM_has, hhq] at hlk2
      generalize getP (bM c.B) ny (.int .i64 0) = bv at hlk2
      have e2 := blk_cell (j := 2) hce.out.blk rfl
      have e1 := blk_cell (j := 1) hbe.out rfl
      replace hhq := Lib.hid hhq
      clear hge
      refine wpR_region (Eq) 9999 (by kernel_rfl) ?_
      (rw [← hwe]; replace hwe := Lib.hid hwe)
      refine wT (i := 0) (v := ?_) (⟨fun _ => rfl, Eq.trans⟩) (some 37) rfl (fun w' hw' => ?_) ?_
      rotate_left
      · go_simp; with_reducible rfl
      simp only [Act.put, List.setIfInBounds_toArray, List.set_cons_zero, List.set_cons_succ]
      refine wT (i := 1) (v := ?_) (⟨fun _ => rfl, Eq.trans⟩) (some 38) rfl (fun w' hw' => ?_) ?_
      rotate_left
      · go_simp; with_reducible rfl
      simp only [Act.put, List.setIfInBounds_toArray, List.set_cons_zero, List.set_cons_succ]
      refine wT (i := 2) (v := ?_) (⟨fun _ => rfl, Eq.trans⟩) (some 39) rfl (fun w' hw' => ?_) ?_
      rotate_left
      · go_simp; with_reducible rfl
      simp only [Act.put, List.setIfInBounds_toArray, List.set_cons_zero, List.set_cons_succ]
      refine wT (i := 3) (v := ?_) (⟨fun _ => rfl, Eq.trans⟩) (some 40) rfl (fun w' hw' => ?_) ?_
      rotate_left
      · subst hw'; go_simp; with_reducible rfl
      simp only [Act.put, List.setIfInBounds_toArray, List.set_cons_zero, List.set_cons_succ]
      refine wT (i := 4) (v := ?_) (⟨fun _ => rfl, Eq.trans⟩) (some 41) rfl (fun w' hw' => ?_) ?_
      rotate_left
      · go_simp; with_reducible rfl
      simp only [Act.put, List.setIfInBounds_toArray, List.set_cons_zero, List.set_cons_succ]
      refine wT (i := 5) (v := ?_) (⟨fun _ => rfl, Eq.trans⟩) (some 42) rfl (fun w' hw' => ?_) ?_
      rotate_left
      · subst hw'; go_simp; with_reducible rfl
      simp only [Act.put, List.setIfInBounds_toArray, List.set_cons_zero, List.set_cons_succ]
      refine wT (i := 6) (v := ?_) (⟨fun _ => rfl, Eq.trans⟩) (some 43) rfl (fun w' hw' => ?_) ?_
      rotate_left
      · subst hw'; go_simp; with_reducible rfl
      simp only [Act.put, List.setIfInBounds_toArray, List.set_cons_zero, List.set_cons_succ]
      refine wT (i := 7) (v := ?_) (⟨fun _ => rfl, Eq.trans⟩) (some 36) rfl (fun w' hw' => ?_) ?_
      rotate_left
      · go_simp; with_reducible rfl
      simp only [Act.put, List.setIfInBounds_toArray, List.set_cons_zero, List.set_cons_succ]
      refine wT (i := 8) (v := ?_) (⟨fun _ => rfl, Eq.trans⟩) (some 44) rfl (fun w' hw' => ?_) ?_
      rotate_left
      · go_simp; with_reducible rfl
      simp only [Act.put, List.setIfInBounds_toArray, List.set_cons_zero, List.set_cons_succ]
      refine wT (i := 9) (v := ?_) (⟨fun _ => rfl, Eq.trans⟩) (some 45) rfl (fun w' hw' => ?_) ?_
      rotate_left
      · go_simp; with_reducible rfl
      simp only [Act.put, List.setIfInBounds_toArray, List.set_cons_zero, List.set_cons_succ]
      refine wT (i := 10) (v := ?_) (⟨fun _ => rfl, Eq.trans⟩) (some 7) rfl (fun w' hw' => ?_) ?_
      rotate_left
      · go_simp; with_reducible rfl
      simp only [Act.put, List.setIfInBounds_toArray, List.set_cons_zero, List.set_cons_succ]
      refine wT (i := 11) (v := ?_) (⟨fun _ => rfl, Eq.trans⟩) (some 8) rfl (fun w' hw' => ?_) ?_
      rotate_left
      · go_simp; with_reducible rfl
      simp only [Act.put, List.setIfInBounds_toArray, List.set_cons_zero, List.set_cons_succ]
      refine wpR_done (by kernel_rfl) ?_ _
      clear hlk2 e2 e1
      have hun := Lib.hid (unstage_any lo g t x c.B c.T c.R ng we hce (by have h1 := h.out.few.1; rw [h.out.wc, List.length_map] at h1; omega) ny)
      have e1 := blk_cell (j := 1) hbe.out rfl
      go_upto_region 9 with (go_at_call 50; go_must (refine hun.out.mono ?_); clear hun; rintro e w5 ⟨⟨vx, rfl⟩, v3, h3, ho3, hu3⟩)
      have hNS : Hid (∀ k, x.S g k → k ≠ N) := Lib.hid (fun k hs e => by have := (h.out.lt k hs).1; have := hN.out; omega)
      have hb5 : w5.heap[N]? = some (.cells #[.int .i64 nk, .string (bs ny), .int .i64 ng, .int .i64 nc, .slice A ld ca, .string (bs nu), .int .i64 ns, .slice A2 lp c2] 37 (0, 0)) := (hu3.2.2.2.2 N (blk_lt hbe.out) (fun hs => hNS.out N hs rfl)).trans hbe.out
      have hfr5 := Lib.hid (hfre.out.trans hu3)
      obtain ⟨x3, hc3, hx3W, hx3E, hx3S⟩ : ∃ x3, Cr w5 lo g x3 c.B c.T c.R ng t ∧ x3.W = filW ny x.W ∧ x3.E = x.E ∧ (∀ k, x3.S g k ↔ x.S g k) := ⟨_, h3.out, rfl, rfl, fun k => by unfold CtX.S; simp only; rw [ho3]⟩
      replace hx3W := Lib.hid hx3W
      replace hx3E := Lib.hid hx3E
      replace hx3S := Lib.hid hx3S
      clear h3 hu3 ho3 e1 hfre hce hbe hfr4 hc4 hb4
      obtain ⟨wf, hwf⟩ : ∃ wf, wf = w5.drew := ⟨_, rfl⟩
      have hgf : Gr w5 wf := by rw [hwf]; exact (Below.refl _ _).drew
      have hbf : Hid (wf.heap[N]? = some (.cells #[.int .i64 nk, .string (bs ny), .int .i64 ng, .int .i64 nc, .slice A ld ca, .string (bs nu), .int .i64 ns, .slice A2 lp c2] 37 (0, 0))) := Lib.hid (by rw [hwf]; exact hb5)
      have hcf := Lib.hid (hc3.gr hgf)
      have hfrf := Lib.hid (hfr5.out.trans (Upd.of_below hgf))
      obtain ⟨w6, hrun6, hm6, hg6⟩ := hcf.out.me.drop lawS Tryz.underlying50 (keyS hk) 0
      rw [← eM_del] at hm6
      have hend6 := hcf.out.setE (E' := x3.E.filter (fun e => e.e.key != ny)) (Nat.le_refl t) hg6 hm6 (fun q hq => (hcf.out.setM hg6 hcf.out.me.isMap).2.2.2.2.1 q (List.mem_filter.mp hq).1)
      have hb6 : w6.heap[N]? = some (.cells #[.int .i64 nk, .string (bs ny), .int .i64 ng, .int .i64 nc, .slice A ld ca, .string (bs nu), .int .i64 ns, .slice A2 lp c2] 37 (0, 0)) := (hend6.2.2.2.2.2 N (blk_lt hbf.out) (fun hs => hNS.out N ((hx3S.out N).1 hs) rfl)).trans hbf.out
      have hfr6 := Lib.hid (hfrf.out.trans (Upd.mono hend6.2 (fun k hk => (hx3S.out k).1 hk)))
      obtain ⟨x6, hc6, hx6W, hx6E, hx6S⟩ : ∃ x6, Cr w6 lo g x6 c.B c.T c.R ng t ∧ x6.W = filW ny x.W ∧ x6.E = x.E.filter (fun e => e.e.key != ny) ∧ (∀ k, x6.S g k ↔ x.S g k) := ⟨_, hend6.1, hx3W.out, by show x3.E.filter _ = _; rw [hx3E.out], fun k => (hx3S.out k)⟩
      replace hx6W := Lib.hid hx6W
      replace hx6E := Lib.hid hx6E
      replace hx6S := Lib.hid hx6S
      replace hg6 := Lib.hid hg6
      replace hend6 := Lib.hid hend6
      replace hb5 := Lib.hid hb5
      replace hb6 := Lib.hid hb6
      replace hc3 := Lib.hid hc3
      replace hc6 := Lib.hid hc6
      clear hm6 hgf
      refine wpR_region (Gr) 6 (by kernel_rfl) ?_
      (rw [← hwf]; replace hwf := Lib.hid hwf)
      refine wU (i := 0) (v := ?_) (Gr.road) (some 50) rfl (fun w' => ?_) ?_
      rotate_left
      · go_simp; with_reducible rfl
      simp only [Act.put, List.setIfInBounds_toArray, List.set_cons_zero, List.set_cons_succ]
      refine wU (i := 1) (v := ?_) (Gr.road) (some 51) rfl (fun w' => ?_) ?_
      rotate_left
      · go_simp; with_reducible rfl
      simp only [Act.put, List.setIfInBounds_toArray, List.set_cons_zero, List.set_cons_succ]
      refine wU (i := 2) (v := ?_) (Gr.road) (some 52) rfl (fun w' => ?_) ?_
      rotate_left
      · go_simp; with_reducible rfl
      simp only [Act.put, List.setIfInBounds_toArray, List.set_cons_zero, List.set_cons_succ]
      refine wT (i := 3) (v := ?_) (Gr.road) (some 53) rfl (fun w' hw' => ?_) ?_
      rotate_left
      · have q := blk_cell (j := 1) (blk_below hcf.out.blk hw') rfl; go_simp; with_reducible rfl
      simp only [Act.put, List.setIfInBounds_toArray, List.set_cons_zero, List.set_cons_succ]
      refine wU (i := 4) (v := ?_) (Gr.road) (some 54) rfl (fun w' => ?_) ?_
      rotate_left
      · go_simp; with_reducible rfl
      simp only [Act.put, List.setIfInBounds_toArray, List.set_cons_zero, List.set_cons_succ]
      refine wT (i := 5) (v := ?_) (Gr.road) (some 55) rfl (fun w' hw' => ?_) ?_
      rotate_left
      · have q := blk_cell (j := 1) (blk_below hbf.out hw') rfl; go_simp; with_reducible rfl
      simp only [Act.put, List.setIfInBounds_toArray, List.set_cons_zero, List.set_cons_succ]
      refine wpR_one 6 rfl (by kernel_rfl) (by kernel_rfl) (fun K hK => ?_)
      go_simp
      refine hK _ _ (fun h => absurd h (by decide)) ?_
      clear hK K
      try simp only [Act.put, List.setIfInBounds_toArray, List.set_cons_zero, List.set_cons_succ]
      refine wpR_done (by kernel_rfl) ?_ _
      clear hrun6 hend6 hc3 hcf hbf hfrf hb5
      go_upto_region 10 with (fail)
      obtain ⟨wh, hwh⟩ : ∃ wh, wh = w6.drew := ⟨_, rfl⟩
      have hgh : Gr w6 wh := by rw [hwh]; exact (Below.refl _ _).drew
      have hbh : Hid (wh.heap[N]? = some (.cells #[.int .i64 nk, .string (bs ny), .int .i64 ng, .int .i64 nc, .slice A ld ca, .string (bs nu), .int .i64 ns, .slice A2 lp c2] 37 (0, 0))) := Lib.hid (by rw [hwh]; exact hb6.out)
      have hch := Lib.hid (hc6.out.gr hgh)
      have hfrh := Lib.hid (hfr6.out.trans (Upd.of_below hgh))
      obtain ⟨w7, hrun7, hm7, hg7⟩ := hch.out.mb.drop lawS Tryz.underlying51 (keyS hk) 0
      rw [← bM_del] at hm7
      have hend7 := hch.out.setB (B' := delP c.B ny) (Nat.le_refl t) hg7 hm7
      have hb7 : w7.heap[N]? = some (.cells #[.int .i64 nk, .string (bs ny), .int .i64 ng, .int .i64 nc, .slice A ld ca, .string (bs nu), .int .i64 ns, .slice A2 lp c2] 37 (0, 0)) := (hend7.2.2.2.2.2 N (blk_lt hbh.out) (fun hs => hNS.out N ((hx6S.out N).1 hs) rfl)).trans hbh.out
      have hfr7 := Lib.hid (hfrh.out.trans (Upd.mono hend7.2 (fun k hk => (hx6S.out k).1 hk)))
      have hc7 := Lib.hid hend7.1
      replace hg7 := Lib.hid hg7
      replace hend7 := Lib.hid hend7
      replace hb7 := Lib.hid hb7
      clear hm7 hgh
      refine wpR_region (Gr) 6 (by kernel_rfl) ?_
      (rw [← hwh]; replace hwh := Lib.hid hwh)
      refine wU (i := 0) (v := ?_) (Gr.road) (some 56) rfl (fun w' => ?_) ?_
      rotate_left
      · go_simp; with_reducible rfl
      simp only [Act.put, List.setIfInBounds_toArray, List.set_cons_zero, List.set_cons_succ]
      refine wU (i := 1) (v := ?_) (Gr.road) (some 57) rfl (fun w' => ?_) ?_
      rotate_left
      · go_simp; with_reducible rfl
      simp only [Act.put, List.setIfInBounds_toArray, List.set_cons_zero, List.set_cons_succ]
      refine wU (i := 2) (v := ?_) (Gr.road) (some 58) rfl (fun w' => ?_) ?_
      rotate_left
      · go_simp; with_reducible rfl
      simp only [Act.put, List.setIfInBounds_toArray, List.set_cons_zero, List.set_cons_succ]
      refine wT (i := 3) (v := ?_) (Gr.road) (some 59) rfl (fun w' hw' => ?_) ?_
      rotate_left
      · have q := blk_cell (j := 2) (blk_below hch.out.blk hw') rfl; go_simp; with_reducible rfl
      simp only [Act.put, List.setIfInBounds_toArray, List.set_cons_zero, List.set_cons_succ]
      refine wU (i := 4) (v := ?_) (Gr.road) (some 60) rfl (fun w' => ?_) ?_
      rotate_left
      · go_simp; with_reducible rfl
      simp only [Act.put, List.setIfInBounds_toArray, List.set_cons_zero, List.set_cons_succ]
      refine wT (i := 5) (v := ?_) (Gr.road) (some 61) rfl (fun w' hw' => ?_) ?_
      rotate_left
      · have q := blk_cell (j := 1) (blk_below hbh.out hw') rfl; go_simp; with_reducible rfl
      simp only [Act.put, List.setIfInBounds_toArray, List.set_cons_zero, List.set_cons_succ]
      refine wpR_one 6 rfl (by kernel_rfl) (by kernel_rfl) (fun K hK => ?_)
      go_simp
      refine hK _ _ (fun h => absurd h (by decide)) ?_
      clear hK K
      try simp only [Act.put, List.setIfInBounds_toArray, List.set_cons_zero, List.set_cons_succ]
      refine wpR_done (by kernel_rfl) ?_ _
      clear hrun7 hend7 hch hbh hfrh hb6 hc6 hfr6
      obtain ⟨d0, hd0⟩ : ∃ d0, d0 = (hp || hq) := ⟨_, rfl⟩
      have hdT : Hid (d0 = true ↔ (hasP c.E ny = true ∨ hasP c.B ny = true)) := Lib.hid (by rw [hd0, hhp.out, hhq.out, Bool.or_eq_true])
      go_upto_region 11 with (fail)
      go_cut [65] (fun z wq => z = .bool d0 ∧ w7 = wq)
      case first =>
        cases hp with
        | true =>
          rw [Bool.true_or] at hd0
          subst hd0
          go_wp2_with fail
          go_meet
          exact ⟨by first | rfl | simp [*], rfl⟩
        | false =>
          rw [Bool.false_or] at hd0
          subst hd0
          go_wp2_with fail
          go_meet
          exact ⟨by first | rfl | simp [*], rfl⟩
      case rest =>
        obtain ⟨rfl, rfl⟩ := hcut
        replace hd0 := Lib.hid hd0
        have hwE : Hid (∀ (xx : CtX), xx.W = filW ny x.W → delP c.W ny = xx.W.map (fun e => (e.k, e.d))) := Lib.hid (fun xx e => by rw [e, h.out.wc]; exact (filW_wc _ _).symm)
        have hwE2 : Hid (∀ (xx : CtX), xx.E = x.E.filter (fun e => e.e.key != ny) → delP c.E ny = xx.E.map (fun e => (e.e.key, e.e))) := Lib.hid (fun xx e => by rw [e, h.out.ec]; exact (filE_ec _ _).symm)
        cases d0 with
        | false =>
          go_wp2_with fail
          go_ret
          rw [hrc5.out]
          have hnT : ¬(hasP c.E ny = true ∨ hasP c.B ny = true) := fun hc => by have := hdT.out.2 hc; cases this
          refine ⟨rfl, x6, ?_, hwE.out _ hx6W.out, hwE2.out _ hx6E.out, hfr7.out, fun k hk => .inl ((hx6S.out k).1 hk)⟩
          show Cr _ lo g x6 (delP c.B ny) (if _ then _ else _) c.R ng (t + 1)
          rw [if_neg hnT]
          exact hc7.out.more (Nat.le_succ _)
        | true =>
          go_upto_region 12 with (fail)
          obtain ⟨Av, cp, hvs⟩ := hc7.out.formT
          obtain ⟨wi, hwi⟩ : ∃ wi, wi = w7.drew := ⟨_, rfl⟩
          have hgi : Gr w7 wi := by rw [hwi]; exact (Below.refl _ _).drew
          have hbi : Hid (wi.heap[N]? = some (.cells #[.int .i64 nk, .string (bs ny), .int .i64 ng, .int .i64 nc, .slice A ld ca, .string (bs nu), .int .i64 ns, .slice A2 lp c2] 37 (0, 0))) := Lib.hid (by rw [hwi]; exact hb7.out)
          have hci := Lib.hid (hc7.out.gr hgi)
          have hfri := Lib.hid (hfr7.out.trans (Upd.of_below hgi))
          have hbk := hci.out.blk
          have hwl : c.T.length ≤ 1000 := by have h1 := h.out.few.2.2.2.1; omega
          rw [hvs] at hbk
          replace hbk := Lib.hid hbk
          have hlow : Hid (lo ≤ wi.heap.size) := Lib.hid (Nat.le_trans hlo hfri.out.2.2.2.1)
          have hsz : Hid (w.heap.size ≤ wi.heap.size) := Lib.hid hfri.out.2.2.2.1
          replace hvs := Lib.hid hvs
          replace hwl := Lib.hid hwl
          generalize c.T.length = nT at hbk hvs
          clear hgi
          refine wpR_region (TChg lo [83]) 14 (by kernel_rfl) ?_
          (rw [← hwi]; replace hwi := Lib.hid hwi)
          refine wT (i := 0) (v := ?_) (TChg.road _ _) (some 66) rfl (fun w' hw' => ?_) ?_
          rotate_left
          · go_simp; with_reducible rfl
          simp only [Act.put, List.setIfInBounds_toArray, List.set_cons_zero, List.set_cons_succ]
          refine wT (i := 1) (v := ?_) (TChg.road _ _) (some 67) rfl (fun w' hw' => ?_) ?_
          rotate_left
          · go_simp; with_reducible rfl
          simp only [Act.put, List.setIfInBounds_toArray, List.set_cons_zero, List.set_cons_succ]
          refine wT (i := 2) (v := ?_) (TChg.road _ _) (some 68) rfl (fun w' hw' => ?_) ?_
          rotate_left
          · go_simp; with_reducible rfl
          simp only [Act.put, List.setIfInBounds_toArray, List.set_cons_zero, List.set_cons_succ]
          refine wT (i := 3) (v := ?_) (TChg.road _ _) (some 69) rfl (fun w' hw' => ?_) ?_
          rotate_left
          · go_simp; with_reducible rfl
          simp only [Act.put, List.setIfInBounds_toArray, List.set_cons_zero, List.set_cons_succ]
          refine wT (i := 4) (v := ?_) (TChg.road _ _) (some 70) rfl (fun w' hw' => ?_) ?_
          rotate_left
          · have q := blk_cell (j := 3) (hw'.block hbk.out (by decide)) rfl; go_simp; with_reducible rfl
          simp only [Act.put, List.setIfInBounds_toArray, List.set_cons_zero, List.set_cons_succ]
          refine wT (i := 5) (v := ?_) (TChg.road _ _) (some 71) rfl (fun w' hw' => ?_) ?_
          rotate_left
          · go_simp; with_reducible rfl
          simp only [Act.put, List.setIfInBounds_toArray, List.set_cons_zero, List.set_cons_succ]
          refine wT (i := 6) (v := ?_) (TChg.road _ _) (some 72) rfl (fun w' hw' => ?_) ?_
          rotate_left
          · have q := blk_cell (j := 1) (hw'.block hbi.out (by decide)) rfl; go_simp; with_reducible rfl
          simp only [Act.put, List.setIfInBounds_toArray, List.set_cons_zero, List.set_cons_succ]
          refine wT (i := 7) (v := ?_) (TChg.road _ _) (some 73) rfl (fun w' hw' => ?_) ?_
          rotate_left
          · go_simp; with_reducible rfl
          simp only [Act.put, List.setIfInBounds_toArray, List.set_cons_zero, List.set_cons_succ]
          refine wT (i := 8) (v := ?_) (TChg.road _ _) (some 74) rfl (fun w' hw' => ?_) ?_
          rotate_left
          · have q := blk_cell (j := 2) (hw'.block hbi.out (by decide)) rfl; go_simp; with_reducible rfl
          simp only [Act.put, List.setIfInBounds_toArray, List.set_cons_zero, List.set_cons_succ]
          refine wT (i := 9) (v := ?_) (TChg.road _ _) (some 75) rfl (fun w' hw' => ?_) ?_
          rotate_left
          · go_simp; with_reducible rfl
          simp only [Act.put, List.setIfInBounds_toArray, List.set_cons_zero, List.set_cons_succ]
          refine wpR_one 10 rfl (by kernel_rfl) (by kernel_rfl) (fun K hK => ?_)
          go_simp
          refine hK _ _ (fun _ => TChg.of_alloc _ _) ?_
          clear hK K
          try simp only [Act.put, List.setIfInBounds_toArray, List.set_cons_zero, List.set_cons_succ]
          refine wpR_one 11 rfl (by kernel_rfl) (by kernel_rfl) (fun K hK => ?_)
          refine wp_appT (.tmp 70) (.tmp 76) rfl lo (.slice Av nT cp) c.T rfl (by have := row_below hci.out.ts (Gr.alloc wi (.cells #[.string (bs ny), .int .i64 ng] 83)); rw [hvs.out] at this; exact this) (wi.heap.size + 1) (some ⟨wi.heap.size, 0, none⟩) 1 (ny, ng) rfl (lit_tomb wi ny ng) (by have := hwl.out; omega) (Nat.le_trans hlow.out (by simp)) ?_
          intro v8 w8 hr8 hg8 ho8
          refine hK _ _ (fun _ => TChg.of_row (lo := lo) (by have := row_below hci.out.ts (Gr.alloc wi (.cells #[.string (bs ny), .int .i64 ng] 83)); rw [hvs.out] at this; exact this) hg8 (by simp)) ?_
          clear hK K
          rw [← hvs.out] at hg8 ho8
          have hend := Lib.hid (tomb_end hci.out hr8 hg8 ho8)
          have hb8 : w8.heap[g]? = _ := blk_grow (blk_alloc hci.out.blk (.cells #[.string (bs ny), .int .i64 ng] 83)) hg8 (row_ne (row_below hci.out.ts (Gr.alloc wi (.cells #[.string (bs ny), .int .i64 ng] 83))) (blk_alloc hci.out.blk _) (by decide))
          have k0 := blk_cell (j := 3) hb8 rfl
          have f0 := blk_free hb8 3
          obtain ⟨A8, c8, rfl, -, -⟩ := row_form hr8
          generalize hm8 : (c.T ++ [(ny, ng)]).length = m8 at *
          replace hm8 := Lib.hid hm8
          clear hb8 hg8 hr8 ho8
          try simp only [Act.put, List.setIfInBounds_toArray, List.set_cons_zero, List.set_cons_succ]
          refine wU (i := 12) (v := ?_) (TChg.road _ _) (some 78) rfl (fun w' => ?_) ?_
          rotate_left
          · go_simp; with_reducible rfl
          simp only [Act.put, List.setIfInBounds_toArray, List.set_cons_zero, List.set_cons_succ]
          refine wT (i := 13) (v := ?_) (TChg.road _ _) (some 79) rfl (fun w' hw' => ?_) ?_
          rotate_left
          · go_simp; with_reducible rfl
          simp only [Act.put, List.setIfInBounds_toArray, List.set_cons_zero, List.set_cons_succ]
          refine wpR_one 14 rfl (by kernel_rfl) (by kernel_rfl) (fun K hK => ?_)
          go_simp
          refine hK _ _ (fun h => absurd h (by decide)) ?_
          clear hK K
          try simp only [Act.put, List.setIfInBounds_toArray, List.set_cons_zero, List.set_cons_succ]
          refine wpR_done (by kernel_rfl) ?_ _
          go_wp2_with fail
          go_ret
          rw [hrc5.out]
          obtain ⟨h1, h2, h3⟩ := hend.out
          refine ⟨rfl, { x6 with vt := .slice A8 m8 c8 }, ?_, hwE.out { x6 with vt := .slice A8 m8 c8 } hx6W.out, hwE2.out { x6 with vt := .slice A8 m8 c8 } hx6E.out, hfri.out.trans (Upd.mono h2 (fun k hk => (hx6S.out k).1 hk)), fun k hk => (h3 k hk).imp (fun h => (hx6S.out k).1 h) (fun h => Nat.le_trans hsz.out h)⟩
          show Cr _ lo g _ (delP c.B ny) (if _ then _ else _) c.R ng (t + 1)
          rw [if_pos (hdT.out.1 (by first | rfl | trivial))]
          exact h1.more (Nat.le_succ _)
end Go.Proofs.YthboeoidgglcgaaGreat
/- cat: tombs added and struck. -/
namespace Go.Proofs.YthboeoidgglcgaaGreat
set_option linter.unusedVariables false
set_option linter.unusedSimpArgs false
open Go Go.RowKit Go.Maps
theorem erase_at {α : Type} [BEq α] [LawfulBEq α] : ∀ (l : List α) (x : α) (k : Nat), l[k]? = some x → (∀ j, j < k → l[j]? ≠ some x) → l.erase x = l.eraseIdx k
  | [], x, k, h, _ => by simp at h
  | a :: l, x, 0, h, _ => by
    injection h with h
    subst h
    simp
  | a :: l, x, k + 1, h, hj => by
    have hne : a ≠ x := fun e => hj 0 (by omega) (by rw [e]; rfl)
    rw [List.erase_cons_tail (by simpa using hne), List.eraseIdx_cons_succ, erase_at l x k h (fun j hjk => hj (j + 1) (by omega))]
set_option maxRecDepth 10000 in
set_option maxHeartbeats 2000000 in
theorem turnT_any (lo g t : Nat) (x : CtX) (c : CtP) (w : World) (h : Hid (Ca w lo g x c t)) (ht : t ≤ 900) (hlo : lo ≤ w.heap.size) (n : Nt) (v : Value) (hk : n.key.length ≤ maxLen) (hv : NtV n v w) (hI : I64 n.cart) : Calls Tryz.prog 20 #[.pointer (some ⟨g, 0, none⟩), v] w (ActPost lo g t x w (c.turnT n)) := by
  have hvn := hv
  obtain ⟨A, ca, A2, c2, rfl, hdt, hpl⟩ := hv
  obtain ⟨N, hN⟩ : ∃ N, w.heap.size = N := ⟨_, rfl⟩
  obtain ⟨rc, hrc⟩ : ∃ rc, c.turnT n = rc := ⟨_, rfl⟩
  rw [hrc]
  have hrc0 := Lib.hid hrc
  unfold CtP.turnT at hrc
  have hvn2 := Lib.hid (fun y (hg : Gr w y) => (NtV.gr hg (Lib.hid hvn)).out)
  obtain ⟨nk, ny, ng, nc, nd, nu, ns, np⟩ := n
  unfold Nt.agg at hvn2 ⊢
  simp only at hk hrc hdt hpl hvn2 hI ⊢
  obtain ⟨ld, hld⟩ : ∃ ld, nd.length = ld := ⟨_, rfl⟩
  obtain ⟨lp, hlp⟩ : ∃ lp, np.length = lp := ⟨_, rfl⟩
  rw [hld] at hdt hvn2 ⊢
  rw [hlp] at hpl hvn2 ⊢
  obtain ⟨W, hW⟩ : ∃ W, w.alloc (.cells #[.int .i64 nk, .string (bs ny), .int .i64 ng, .int .i64 nc, .slice A ld ca, .string (bs nu), .int .i64 ns, .slice A2 lp c2] 37) = W := ⟨_, rfl⟩
  have hgW : Gr w W := by rw [← hW]; exact Gr.alloc _ _
  have hbW : W.heap[N]? = some (.cells #[.int .i64 nk, .string (bs ny), .int .i64 ng, .int .i64 nc, .slice A ld ca, .string (bs nu), .int .i64 ns, .slice A2 lp c2] 37 (0, 0)) := by rw [← hW, ← hN]; exact heap_alloc_new w _
  have hcW := Lib.hid (h.out.gr hgW)
  have hsame := Lib.hid (fun r (w' : World) (hg : Gr w w') => ActPost.same h.out hg r)
  clear hvn
  obtain ⟨Av, cp, hvs⟩ := h.out.cr.formT
  obtain ⟨wd, hwd⟩ : ∃ wd, wd = W.drew := ⟨_, rfl⟩
  have hgd : Hid (Gr w wd) := Lib.hid (by rw [hwd]; exact hgW.trans ((Below.refl _ _).drew))
  have hbd : Hid (wd.heap[N]? = some (.cells #[.int .i64 nk, .string (bs ny), .int .i64 ng, .int .i64 nc, .slice A ld ca, .string (bs nu), .int .i64 ns, .slice A2 lp c2] 37 (0, 0))) := Lib.hid (by rw [hwd]; exact hbW)
  have hcd := Lib.hid (h.out.gr hgd.out)
  have hbk := hcd.out.blk
  rw [hvs] at hbk
  have hTl : c.T.length ≤ 1000 := by have h1 := h.out.few.2.2.2.1; omega
  have hidx := (index_T lo ny ng Av c.T.length cp c.T rfl (by omega) wd (by rw [← hvs]; exact hcd.out.ts)).mono (R' := fun e w' => ∃ z, e = .returned (.int .i64 z) ∧ Below wd.heap.size wd w' ∧ ((z = -1 ∧ (ny, ng) ∉ c.T) ∨ ∃ k : Nat, z = k ∧ c.T[k]? = some (ny, ng) ∧ ∀ j, j < k → c.T[j]? ≠ some (ny, ng))) (fun e w' ⟨h1, h2⟩ => by
    rcases h2 with ⟨h2, h3⟩ | ⟨k, h2, h3, h4⟩
    · exact ⟨_, h2, h1, .inl ⟨rfl, h3⟩⟩
    · exact ⟨_, h2, h1, .inr ⟨k, rfl, h3, h4⟩⟩)
  obtain ⟨nT, hnT⟩ : ∃ nT, c.T.length = nT := ⟨_, rfl⟩
  rw [hnT] at hidx hbk hvs hTl
  replace hidx := Lib.hid hidx
  replace hbk := Lib.hid hbk
  replace hnT := Lib.hid hnT
  replace hvs := Lib.hid hvs
  replace hgW := Lib.hid hgW
  replace hbW := Lib.hid hbW
  replace hdt := Lib.hid hdt
  replace hpl := Lib.hid hpl
  replace hld := Lib.hid hld
  replace hlp := Lib.hid hlp
  replace hI := Lib.hid hI
  go_enter Tryz.func20, Tryz.ntmps20
  go_upto_region 1 with (fail)
  replace hW := Lib.hid hW
  replace hN := Lib.hid hN
  refine wpR_region (Gr) 9999 (by kernel_rfl) ?_
  (rw [← hwd]; replace hwd := Lib.hid hwd)
  refine wT (i := 0) (v := ?_) (Gr.road) (some 6) rfl (fun w' hw' => ?_) ?_
  rotate_left
  · go_simp; with_reducible rfl
  simp only [Act.put, List.setIfInBounds_toArray, List.set_cons_zero, List.set_cons_succ]
  refine wT (i := 1) (v := ?_) (Gr.road) (some 7) rfl (fun w' hw' => ?_) ?_
  rotate_left
  · go_simp; with_reducible rfl
  simp only [Act.put, List.setIfInBounds_toArray, List.set_cons_zero, List.set_cons_succ]
  refine wT (i := 2) (v := ?_) (Gr.road) (some 8) rfl (fun w' hw' => ?_) ?_
  rotate_left
  · go_simp; with_reducible rfl
  simp only [Act.put, List.setIfInBounds_toArray, List.set_cons_zero, List.set_cons_succ]
  refine wT (i := 3) (v := ?_) (Gr.road) (some 9) rfl (fun w' hw' => ?_) ?_
  rotate_left
  · have q := blk_cell (j := 3) (blk_below hbk.out hw') rfl; go_simp; with_reducible rfl
  simp only [Act.put, List.setIfInBounds_toArray, List.set_cons_zero, List.set_cons_succ]
  refine wT (i := 4) (v := ?_) (Gr.road) (some 10) rfl (fun w' hw' => ?_) ?_
  rotate_left
  · go_simp; with_reducible rfl
  simp only [Act.put, List.setIfInBounds_toArray, List.set_cons_zero, List.set_cons_succ]
  refine wT (i := 5) (v := ?_) (Gr.road) (some 11) rfl (fun w' hw' => ?_) ?_
  rotate_left
  · have q := blk_cell (j := 1) (blk_below hbd.out hw') rfl; go_simp; with_reducible rfl
  simp only [Act.put, List.setIfInBounds_toArray, List.set_cons_zero, List.set_cons_succ]
  refine wT (i := 6) (v := ?_) (Gr.road) (some 12) rfl (fun w' hw' => ?_) ?_
  rotate_left
  · go_simp; with_reducible rfl
  simp only [Act.put, List.setIfInBounds_toArray, List.set_cons_zero, List.set_cons_succ]
  refine wT (i := 7) (v := ?_) (Gr.road) (some 13) rfl (fun w' hw' => ?_) ?_
  rotate_left
  · have q := blk_cell (j := 2) (blk_below hbd.out hw') rfl; go_simp; with_reducible rfl
  simp only [Act.put, List.setIfInBounds_toArray, List.set_cons_zero, List.set_cons_succ]
  refine wT (i := 8) (v := ?_) (Gr.road) (some 14) rfl (fun w' hw' => ?_) ?_
  rotate_left
  · go_simp; with_reducible rfl
  simp only [Act.put, List.setIfInBounds_toArray, List.set_cons_zero, List.set_cons_succ]
  refine wpR_one 9 rfl (by kernel_rfl) (by kernel_rfl) (fun K hK => ?_)
  go_simp
  refine hidx.out.mono ?_
  rintro e w5 ⟨z, rfl, hb5, hres⟩
  clear hidx
  refine hK _ _ (fun _ => hb5) ?_
  clear hK K
  try simp only [Act.put, List.setIfInBounds_toArray, List.set_cons_zero, List.set_cons_succ]
  refine wT (i := 10) (v := ?_) (Gr.road) (some 5) rfl (fun w' hw' => ?_) ?_
  rotate_left
  · go_simp; with_reducible rfl
  simp only [Act.put, List.setIfInBounds_toArray, List.set_cons_zero, List.set_cons_succ]
  refine wpR_done (by kernel_rfl) ?_ _
  have hgr5 := Lib.hid (hgd.out.trans hb5)
  have hb5N := Lib.hid (blk_below hbd.out hb5)
  have hc5 := Lib.hid (h.out.gr hgr5.out)
  have hnm := Lib.hid (named_any lo g t x c w5 hc5 ⟨nk, ny, ng, nc, nd, nu, ns, np⟩ _ hk (by have := hvn2.out w5 hgr5.out; rw [← hld.out, ← hlp.out] at this; exact this))
  unfold Nt.agg at hnm
  simp only at hnm
  rw [hld.out, hlp.out] at hnm
  replace hvn2 := Lib.hid hvn2
  have z6 := blk_cell (j := 6) hb5N.out rfl
  rcases hres with ⟨rfl, hno⟩ | ⟨k, rfl, hat, hfst⟩
  · have hno' : (ny, ng) ∉ c.T := hno
    clear hno
    by_cases h1 : ns = 1
    · have z0 := blk_cell (j := 0) hb5N.out rfl
      have z1 := blk_cell (j := 1) hb5N.out rfl
      have z2 := blk_cell (j := 2) hb5N.out rfl
      have z3 := blk_cell (j := 3) hb5N.out rfl
      have z4 := blk_cell (j := 4) hb5N.out rfl
      have z5 := blk_cell (j := 5) hb5N.out rfl
      have z7 := blk_cell (j := 7) hb5N.out rfl
      have i1 : (ns == 1) = true := by rw [h1]; rfl
      have i0 : (ns == 0) = false := by rw [h1]; rfl
      cases hna : c.named ny ng with
      | false =>
        have hrc5 : rc = (12, c) := by rw [← hrc, if_neg (fun hc => by rw [hna] at hc; exact absurd hc.2.2 (by decide)), if_neg (fun hc => by have := hc.1; omega)]
        rw [hna] at hnm
        replace hrc5 := Lib.hid hrc5
        replace hna := Lib.hid hna
        replace h1 := Lib.hid h1
        replace hno' := Lib.hid hno'
        clear hrc h
        go_wp2_with (go_at_call 49; go_must (refine hnm.out.mono ?_); clear hnm; rintro e w6 ⟨rfl, hg6⟩; have z6b := blk_cell (j := 6) (blk_below hb5N.out hg6) rfl)
        go_ret
        rw [hrc5.out]
        exact hsame.out 12 _ (hgr5.out.trans hg6)
      | true =>
        have hrc5 : rc = (0, { c with T := c.T ++ [(ny, ng)] }) := by rw [← hrc, if_pos ⟨h1, hno', hna⟩]
        rw [hna] at hnm
        replace hrc5 := Lib.hid hrc5
        replace hna := Lib.hid hna
        replace h1 := Lib.hid h1
        replace hno' := Lib.hid hno'
        clear hrc hsame
        go_upto_region 4 with (go_at_call 49; go_must (refine hnm.out.mono ?_); clear hnm; rintro e w6 ⟨rfl, hg6⟩)
        obtain ⟨wi, hwi⟩ : ∃ wi, wi = w6.drew := ⟨_, rfl⟩
        have hgi : Hid (Gr w wi) := Lib.hid (by rw [hwi]; exact (hgr5.out.trans hg6).trans ((Below.refl _ _).drew))
        have hbi : Hid (wi.heap[N]? = some (.cells #[.int .i64 nk, .string (bs ny), .int .i64 ng, .int .i64 nc, .slice A ld ca, .string (bs nu), .int .i64 ns, .slice A2 lp c2] 37 (0, 0))) := Lib.hid (by rw [hwi]; exact blk_below hb5N.out (Gr.trans hg6 ((Below.refl _ _).drew)))
        have hci := Lib.hid (h.out.gr hgi.out).cr
        have hbk2 := hci.out.blk
        rw [hvs.out] at hbk2
        replace hbk2 := Lib.hid hbk2
        have hlow : Hid (lo ≤ wi.heap.size) := Lib.hid (Nat.le_trans hlo (Below.size hgi.out))
        clear z0 z1 z2 z3 z4 z5 z6 z7 i1 i0 hg6
        refine wpR_region (TChg lo [83]) 14 (by kernel_rfl) ?_
        (rw [← hwi]; replace hwi := Lib.hid hwi)
        refine wT (i := 0) (v := ?_) (TChg.road _ _) (some 29) rfl (fun w' hw' => ?_) ?_
        rotate_left
        · go_simp; with_reducible rfl
        simp only [Act.put, List.setIfInBounds_toArray, List.set_cons_zero, List.set_cons_succ]
        refine wT (i := 1) (v := ?_) (TChg.road _ _) (some 30) rfl (fun w' hw' => ?_) ?_
        rotate_left
        · go_simp; with_reducible rfl
        simp only [Act.put, List.setIfInBounds_toArray, List.set_cons_zero, List.set_cons_succ]
        refine wT (i := 2) (v := ?_) (TChg.road _ _) (some 31) rfl (fun w' hw' => ?_) ?_
        rotate_left
        · go_simp; with_reducible rfl
        simp only [Act.put, List.setIfInBounds_toArray, List.set_cons_zero, List.set_cons_succ]
        refine wT (i := 3) (v := ?_) (TChg.road _ _) (some 32) rfl (fun w' hw' => ?_) ?_
        rotate_left
        · go_simp; with_reducible rfl
        simp only [Act.put, List.setIfInBounds_toArray, List.set_cons_zero, List.set_cons_succ]
        refine wT (i := 4) (v := ?_) (TChg.road _ _) (some 33) rfl (fun w' hw' => ?_) ?_
        rotate_left
        · have q := blk_cell (j := 3) (hw'.block hbk2.out (by decide)) rfl; go_simp; with_reducible rfl
        simp only [Act.put, List.setIfInBounds_toArray, List.set_cons_zero, List.set_cons_succ]
        refine wT (i := 5) (v := ?_) (TChg.road _ _) (some 34) rfl (fun w' hw' => ?_) ?_
        rotate_left
        · go_simp; with_reducible rfl
        simp only [Act.put, List.setIfInBounds_toArray, List.set_cons_zero, List.set_cons_succ]
        refine wT (i := 6) (v := ?_) (TChg.road _ _) (some 35) rfl (fun w' hw' => ?_) ?_
        rotate_left
        · have q := blk_cell (j := 1) (hw'.block hbi.out (by decide)) rfl; go_simp; with_reducible rfl
        simp only [Act.put, List.setIfInBounds_toArray, List.set_cons_zero, List.set_cons_succ]
        refine wT (i := 7) (v := ?_) (TChg.road _ _) (some 36) rfl (fun w' hw' => ?_) ?_
        rotate_left
        · go_simp; with_reducible rfl
        simp only [Act.put, List.setIfInBounds_toArray, List.set_cons_zero, List.set_cons_succ]
        refine wT (i := 8) (v := ?_) (TChg.road _ _) (some 37) rfl (fun w' hw' => ?_) ?_
        rotate_left
        · have q := blk_cell (j := 2) (hw'.block hbi.out (by decide)) rfl; go_simp; with_reducible rfl
        simp only [Act.put, List.setIfInBounds_toArray, List.set_cons_zero, List.set_cons_succ]
        refine wT (i := 9) (v := ?_) (TChg.road _ _) (some 38) rfl (fun w' hw' => ?_) ?_
        rotate_left
        · go_simp; with_reducible rfl
        simp only [Act.put, List.setIfInBounds_toArray, List.set_cons_zero, List.set_cons_succ]
        refine wpR_one 10 rfl (by kernel_rfl) (by kernel_rfl) (fun K hK => ?_)
        go_simp
        refine hK _ _ (fun _ => TChg.of_alloc _ _) ?_
        clear hK K
        try simp only [Act.put, List.setIfInBounds_toArray, List.set_cons_zero, List.set_cons_succ]
        refine wpR_one 11 rfl (by kernel_rfl) (by kernel_rfl) (fun K hK => ?_)
        refine wp_appT (.tmp 33) (.tmp 39) rfl lo (.slice Av nT cp) c.T rfl (by have := row_below hci.out.ts (Gr.alloc wi (.cells #[.string (bs ny), .int .i64 ng] 83)); rw [hvs.out] at this; exact this) (wi.heap.size + 1) (some ⟨wi.heap.size, 0, none⟩) 1 (ny, ng) rfl (lit_tomb wi ny ng) (by rw [hnT.out]; omega) (Nat.le_trans hlow.out (by simp)) ?_
        intro v8 w8 hr8 hg8 ho8
        refine hK _ _ (fun _ => TChg.of_row (lo := lo) (by have := row_below hci.out.ts (Gr.alloc wi (.cells #[.string (bs ny), .int .i64 ng] 83)); rw [hvs.out] at this; exact this) hg8 (by simp)) ?_
        clear hK K
        rw [← hvs.out] at hg8 ho8
        have hend := Lib.hid (tomb_end hci.out hr8 hg8 ho8)
        have hb8 : w8.heap[g]? = _ := blk_grow (blk_alloc hci.out.blk (.cells #[.string (bs ny), .int .i64 ng] 83)) hg8 (row_ne (row_below hci.out.ts (Gr.alloc wi (.cells #[.string (bs ny), .int .i64 ng] 83))) (blk_alloc hci.out.blk _) (by decide))
        have k0 := blk_cell (j := 3) hb8 rfl
        have f0 := blk_free hb8 3
        obtain ⟨A8, c8, rfl, -, -⟩ := row_form hr8
        generalize hm8 : (c.T ++ [(ny, ng)]).length = m8 at *
        replace hm8 := Lib.hid hm8
        clear hb8 hg8 hr8 ho8
        try simp only [Act.put, List.setIfInBounds_toArray, List.set_cons_zero, List.set_cons_succ]
        refine wU (i := 12) (v := ?_) (TChg.road _ _) (some 41) rfl (fun w' => ?_) ?_
        rotate_left
        · go_simp; with_reducible rfl
        simp only [Act.put, List.setIfInBounds_toArray, List.set_cons_zero, List.set_cons_succ]
        refine wT (i := 13) (v := ?_) (TChg.road _ _) (some 42) rfl (fun w' hw' => ?_) ?_
        rotate_left
        · go_simp; with_reducible rfl
        simp only [Act.put, List.setIfInBounds_toArray, List.set_cons_zero, List.set_cons_succ]
        refine wpR_one 14 rfl (by kernel_rfl) (by kernel_rfl) (fun K hK => ?_)
        go_simp
        refine hK _ _ (fun h => absurd h (by decide)) ?_
        clear hK K
        try simp only [Act.put, List.setIfInBounds_toArray, List.set_cons_zero, List.set_cons_succ]
        refine wpR_done (by kernel_rfl) ?_ _
        go_wp2_with fail
        go_ret
        rw [hrc5.out]
        obtain ⟨h1, h2, h3⟩ := hend.out
        exact ⟨rfl, { x with vt := .slice A8 m8 c8 }, h1.more (Nat.le_succ _), h.out.wc, h.out.ec, (Upd.of_below hgi.out).trans h2, fun k hk => (h3 k hk).imp id (fun h => Nat.le_trans (Below.size hgi.out) h)⟩
    · have i1 : (ns == 1) = false := beq_false_of_ne h1
      have hrc5 : rc = (12, c) := by rw [← hrc, if_neg (fun hc => h1 hc.1), if_neg (fun hc => hno' hc.2)]
      cases i0 : (ns == 0) with
      | true =>
        replace hrc5 := Lib.hid hrc5
        replace h1 := Lib.hid h1
        replace hno' := Lib.hid hno'
        clear hrc h hnm
        go_wp2_with fail
        go_ret
        rw [hrc5.out]
        exact hsame.out 12 _ hgr5.out
      | false =>
        replace hrc5 := Lib.hid hrc5
        replace h1 := Lib.hid h1
        replace hno' := Lib.hid hno'
        clear hrc h hnm
        go_wp2_with fail
        go_ret
        rw [hrc5.out]
        exact hsame.out 12 _ hgr5.out
  · have hin : (ny, ng) ∈ c.T := List.mem_of_getElem? hat
    have hkT : k < nT := by rw [← hnT.out]; exact (List.getElem?_eq_some_iff.mp hat).1
    have k0 : decide ((k : Int) < 0) = false := decide_eq_false (by omega)
    have k1 : (0 : Int) ≤ (k : Int) := by omega
    by_cases h0 : ns = 0
    · have i1 : (ns == 1) = false := by rw [h0]; rfl
      have i0 : (ns == 0) = true := by rw [h0]; rfl
      have hrc5 : rc = (0, { c with T := c.T.erase (ny, ng) }) := by rw [← hrc, if_neg (fun hc => hc.2.1 hin), if_pos ⟨h0, hin⟩]
      have her := Lib.hid (erase_at c.T (ny, ng) k hat hfst)
      obtain ⟨b, cp', hv', -, -, -, -, -, -, -, -⟩ := row_at hc5.out.ts (by rw [hnT.out]; omega)
      rw [hvs.out, hnT.out] at hv'
      injection hv' with e1 _ e3
      subst e1 e3
      obtain ⟨m, hm⟩ : ∃ m, nT = m + 1 := ⟨nT - 1, by omega⟩
      have hdl := Lib.hid (delete_T lo b nT cp k (k + 1) m c.T rfl hm hkT hnT.out (by omega) w5 (by have := hc5.out.ts; rw [hvs.out] at this; exact this))
      have hbk5 := hc5.out.blk
      rw [hvs.out] at hbk5
      have c3 := blk_cell (j := 3) hbk5 rfl
      have hadd : IntKind.i64.wrap ((k : Int) + 1) = ((k + 1 : Nat) : Int) := by rw [IntKind.wrap_i64]; omega
      replace hrc5 := Lib.hid hrc5
      replace h0 := Lib.hid h0
      replace hbk5 := Lib.hid hbk5
      replace hm := Lib.hid hm
      replace hat := Lib.hid hat
      replace hin := Lib.hid hin
      replace hfst := Lib.hid hfst
      clear hrc hsame hnm
      go_wp2_with (go_at_call 54; go_must (refine hdl.out.mono ?_); clear hdl; rintro e w6 ⟨rfl, hr6, hu6⟩; have hb6 := (hu6.2.2.2.2 g (blk_lt hc5.out.blk) (fun e => row_ne hc5.out.ts hc5.out.blk (by decide) (by rw [hvs.out, e]; rfl))).trans hbk5.out; have k3 := blk_cell (j := 3) hb6 rfl; have f3 := blk_free hb6 3)
      go_ret
      rw [hrc5.out]
      obtain ⟨h1, h2⟩ := hc5.out.cr.setT (v := .slice (some ⟨b, 0, none⟩) m cp) (T' := c.T.eraseIdx k) (Upd.mono hu6 (fun j e => by rw [hvs.out, e]; rfl)) hr6
      rw [← her.out] at h1
      refine ⟨rfl, { x with vt := .slice (some ⟨b, 0, none⟩) m cp }, h1.more (Nat.le_succ _), h.out.wc, h.out.ec, (Upd.of_below hgr5.out).trans h2, fun j hj => .inl ?_⟩
      have e9 : (Value.slice (some ⟨b, 0, none⟩) m cp).ownBlock = x.vt.ownBlock := by rw [hvs.out]; rfl
      unfold CtX.S at hj ⊢
      simp only at hj
      rw [e9] at hj
      exact hj
    · have i0 : (ns == 0) = false := beq_false_of_ne h0
      have hrc5 : rc = (12, c) := by rw [← hrc, if_neg (fun hc => hc.2.1 hin), if_neg (fun hc => h0 hc.1)]
      cases i1 : (ns == 1) with
      | true =>
        replace hrc5 := Lib.hid hrc5
        replace h0 := Lib.hid h0
        replace hat := Lib.hid hat
        replace hin := Lib.hid hin
        replace hfst := Lib.hid hfst
        clear hrc h hnm
        go_wp2_with fail
        go_ret
        rw [hrc5.out]
        exact hsame.out 12 _ hgr5.out
      | false =>
        replace hrc5 := Lib.hid hrc5
        replace h0 := Lib.hid h0
        replace hat := Lib.hid hat
        replace hin := Lib.hid hin
        replace hfst := Lib.hid hfst
        clear hrc h hnm
        go_wp2_with fail
        go_ret
        rw [hrc5.out]
        exact hsame.out 12 _ hgr5.out
end Go.Proofs.YthboeoidgglcgaaGreat
/- cat: Apply. -/
namespace Go.Proofs.YthboeoidgglcgaaGreat
set_option linter.unusedVariables false
set_option linter.unusedSimpArgs false
open Go Go.RowKit Go.Maps
/-- what a note leaves of a catalog -/
def ApPost (lo g t : Nat) (x : CtX) (c : CtP) (n : Nt) (w : World) (e : Ending) (w' : World) : Prop :=
  e = .returned (.int .i64 (c.apply n).1) ∧ ∃ x', Hid (Ca w' lo g x' (c.apply n).2 (t + 1)) ∧ Upd (x.S g) w w' ∧ ∀ k, x'.S g k → x.S g k ∨ w.heap.size ≤ k
theorem ActPost.ap {lo g t : Nat} {x : CtX} {c : CtP} {n : Nt} {w W w' : World} {rc : Int × CtP} {e : Ending} (h : Ca w lo g x c t) (hg : Gr w W) (hrc : c.apply n = rc) (hp : ActPost lo g t x W rc e w') : ApPost lo g t x c n w e w' := by
  obtain ⟨he, x', h1, h2, h3, h4, h5⟩ := hp
  unfold ApPost
  have hok := CtP.apply_ok h.ok n
  have hfe := CtP.apply_few h.few n
  rw [hrc] at hok hfe ⊢
  exact ⟨he, x', Lib.hid (h1.ca h2 h3 hok hfe), (Upd.of_below hg).trans h4, fun k hk => (h5 k hk).imp id (fun hh => Nat.le_trans (Below.size hg) hh)⟩
theorem ApPost.no {lo g t : Nat} {x : CtX} {c : CtP} {n : Nt} {w w' : World} (h : Ca w lo g x c t) (hg : Gr w w') (hrc : c.apply n = (12, c)) : ApPost lo g t x c n w (.returned (.int .i64 12)) w' := by
  unfold ApPost
  rw [hrc]
  exact ⟨rfl, x, Lib.hid ((h.gr hg).more (Nat.le_succ _)), Upd.of_below hg, fun k hk => .inl hk⟩
set_option maxRecDepth 10000 in
set_option maxHeartbeats 2000000 in
theorem apply_any (lo g t : Nat) (x : CtX) (c : CtP) (w : World) (h : Hid (Ca w lo g x c t)) (ht : t ≤ 900) (hlo : lo ≤ w.heap.size) (n : Nt) (v : Value) (hk : n.key.length ≤ maxLen) (hv : NtV n v w) (hI : I64 n.cart) (hfar : FarP n v x g) :
    Calls Tryz.prog 5 #[.pointer (some ⟨g, 0, none⟩), v] w (ApPost lo g t x c n w) := by
  obtain ⟨W, hgW, hW⟩ : ∃ W, Gr w W ∧ W = w.alloc (.cells v.cells 37) := ⟨_, Gr.alloc _ _, rfl⟩
  have hcW := Lib.hid (h.out.gr hgW)
  have hloW : lo ≤ W.heap.size := Nat.le_trans hlo (Below.size hgW)
  have hvW := (NtV.gr hgW (Lib.hid hv)).out
  have a1 := Lib.hid (put_any lo g t x c W hcW ht hloW n v hk hvW)
  have a2 := Lib.hid (placed_any lo g t x c W hcW ht hloW n v hk hvW hI hfar)
  have a3 := Lib.hid (gone_any lo g t x c W hcW ht hloW n v hk hvW hI)
  have a4 := Lib.hid (begin_any lo g t x c W hcW ht hloW n v hk hvW hI)
  have a5 := Lib.hid (retire_any lo g t x c W hcW ht hloW n v hk hvW hI)
  have a6 := Lib.hid (turnT_any lo g t x c W hcW ht hloW n v hk hvW hI)
  have hap : Hid (∀ {rc e w'}, c.apply n = rc → ActPost lo g t x W rc e w' → ApPost lo g t x c n w e w') := Lib.hid (fun h1 h2 => ActPost.ap h.out hgW h1 h2)
  have hno : Hid (∀ {w'}, c.apply n = (12, c) → Gr w w' → ApPost lo g t x c n w (.returned (.int .i64 12)) w') := Lib.hid (fun h1 h2 => ApPost.no h.out h2 h1)
  have hapd : Hid (c.apply n = if n.kind = 1 then c.put n else if n.kind = 2 then c.placed n else if n.kind = 3 then c.gone n else if n.kind = 4 then c.begin_ n else if n.kind = 5 then c.retire n else if n.kind = 6 then c.turnT n else (12, c)) := Lib.hid rfl
  obtain ⟨A, ca, A2, c2, rfl, hdt, hpl⟩ := hv
  obtain ⟨N, hN⟩ : ∃ N, w.heap.size = N := ⟨_, rfl⟩
  generalize hp1 : c.put n = p1 at a1 hapd
  generalize hp2 : c.placed n = p2 at a2 hapd
  generalize hp3 : c.gone n = p3 at a3 hapd
  generalize hp4 : c.begin_ n = p4 at a4 hapd
  generalize hp5 : c.retire n = p5 at a5 hapd
  generalize hp6 : c.turnT n = p6 at a6 hapd
  generalize hP : ApPost lo g t x c n w = P at hap hno ⊢
  generalize hQ : c.apply n = q at hap hno hapd
  obtain ⟨nk, ny, ng, nc, nd, nu, ns, np⟩ := n
  unfold Nt.agg at *
  simp only at hapd hk a1 a2 a3 a4 a5 a6 hW ⊢
  generalize nd.length = ld at *
  generalize np.length = lp at *
  replace hW : W = w.alloc (.cells #[.int .i64 nk, .string (bs ny), .int .i64 ng, .int .i64 nc, .slice A ld ca, .string (bs nu), .int .i64 ns, .slice A2 lp c2] 37) := hW
  have hbW : W.heap[N]? = some (.cells #[.int .i64 nk, .string (bs ny), .int .i64 ng, .int .i64 nc, .slice A ld ca, .string (bs nu), .int .i64 ns, .slice A2 lp c2] 37 (0, 0)) := by rw [hW, ← hN]; exact heap_alloc_new w _
  have hW' := hW.symm
  have y0 := blk_cell (j := 0) hbW rfl
  have y1 := blk_cell (j := 1) hbW rfl
  have y2 := blk_cell (j := 2) hbW rfl
  have y3 := blk_cell (j := 3) hbW rfl
  have y4 := blk_cell (j := 4) hbW rfl
  have y5 := blk_cell (j := 5) hbW rfl
  have y6 := blk_cell (j := 6) hbW rfl
  have y7 := blk_cell (j := 7) hbW rfl
  have g1 := blk_cell (j := 1) hcW.out.blk rfl
  have hnil := fun (w : World) (r : Option Nat) => run_eql_map_nil (P := Tryz.prog) w 50 _ _ r Tryz.underlying50
  replace hW := Lib.hid hW
  replace hgW := Lib.hid hgW
  replace hbW := Lib.hid hbW
  replace hvW := Lib.hid hvW
  replace hdt := Lib.hid hdt
  replace hpl := Lib.hid hpl
  replace hp1 := Lib.hid hp1
  replace hp2 := Lib.hid hp2
  replace hp3 := Lib.hid hp3
  replace hp4 := Lib.hid hp4
  replace hp5 := Lib.hid hp5
  replace hp6 := Lib.hid hp6
  replace hP := Lib.hid hP
  replace hQ := Lib.hid hQ
  replace hI := Lib.hid hI
  replace hfar := Lib.hid hfar
  replace hcW := Lib.hid hcW
  clear h
  by_cases b1 : nk = 1
  · rw [if_pos b1] at hapd
    subst b1
    replace hapd := Lib.hid hapd
    go_enter Tryz.func5, Tryz.ntmps5
    go_wp2_with (go_at_call 15; go_must (refine a1.out.mono ?_); rintro e w5 hpo; obtain ⟨z5, rfl⟩ : ∃ z, e = .returned (.int .i64 z) := ⟨_, hpo.1⟩)
    exact hap.out hapd.out hpo
  rw [if_neg b1] at hapd
  replace b1 := beq_eq_false_iff_ne.mpr b1
  by_cases b2 : nk = 2
  · rw [if_pos b2] at hapd
    subst b2
    replace hapd := Lib.hid hapd
    go_enter Tryz.func5, Tryz.ntmps5
    go_wp2_with (go_at_call 16; go_must (refine a2.out.mono ?_); rintro e w5 hpo; obtain ⟨z5, rfl⟩ : ∃ z, e = .returned (.int .i64 z) := ⟨_, hpo.1⟩)
    exact hap.out hapd.out hpo
  rw [if_neg b2] at hapd
  replace b2 := beq_eq_false_iff_ne.mpr b2
  by_cases b3 : nk = 3
  · rw [if_pos b3] at hapd
    subst b3
    replace hapd := Lib.hid hapd
    go_enter Tryz.func5, Tryz.ntmps5
    go_wp2_with (go_at_call 17; go_must (refine a3.out.mono ?_); rintro e w5 hpo; obtain ⟨z5, rfl⟩ : ∃ z, e = .returned (.int .i64 z) := ⟨_, hpo.1⟩)
    exact hap.out hapd.out hpo
  rw [if_neg b3] at hapd
  replace b3 := beq_eq_false_iff_ne.mpr b3
  by_cases b4 : nk = 4
  · rw [if_pos b4] at hapd
    subst b4
    replace hapd := Lib.hid hapd
    go_enter Tryz.func5, Tryz.ntmps5
    go_wp2_with (go_at_call 18; go_must (refine a4.out.mono ?_); rintro e w5 hpo; obtain ⟨z5, rfl⟩ : ∃ z, e = .returned (.int .i64 z) := ⟨_, hpo.1⟩)
    exact hap.out hapd.out hpo
  rw [if_neg b4] at hapd
  replace b4 := beq_eq_false_iff_ne.mpr b4
  by_cases b5 : nk = 5
  · rw [if_pos b5] at hapd
    subst b5
    replace hapd := Lib.hid hapd
    go_enter Tryz.func5, Tryz.ntmps5
    go_wp2_with (go_at_call 19; go_must (refine a5.out.mono ?_); rintro e w5 hpo; obtain ⟨z5, rfl⟩ : ∃ z, e = .returned (.int .i64 z) := ⟨_, hpo.1⟩)
    exact hap.out hapd.out hpo
  rw [if_neg b5] at hapd
  replace b5 := beq_eq_false_iff_ne.mpr b5
  by_cases b6 : nk = 6
  · rw [if_pos b6] at hapd
    subst b6
    replace hapd := Lib.hid hapd
    go_enter Tryz.func5, Tryz.ntmps5
    go_wp2_with (go_at_call 20; go_must (refine a6.out.mono ?_); rintro e w5 hpo; obtain ⟨z5, rfl⟩ : ∃ z, e = .returned (.int .i64 z) := ⟨_, hpo.1⟩)
    exact hap.out hapd.out hpo
  rw [if_neg b6] at hapd
  replace b6 := beq_eq_false_iff_ne.mpr b6
  replace hapd := Lib.hid hapd
  go_enter Tryz.func5, Tryz.ntmps5
  go_wp2_with fail
  exact hno.out hapd.out hgW.out
end Go.Proofs.YthboeoidgglcgaaGreat
