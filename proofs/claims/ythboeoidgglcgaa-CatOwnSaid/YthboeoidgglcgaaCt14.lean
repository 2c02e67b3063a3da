/- cat: a key placed. -/
import Derived.Test.YthboeoidgglcgaaCt13
namespace Go.Proofs.Ythboeoidgglcgaa
set_option linter.unusedVariables false
set_option linter.unusedSimpArgs false
open Go Go.RowKit Go.Maps
def insE (l : List Et) (q : Et) : List Et := l.takeWhile (fun e => decide (e.e.key < q.e.key)) ++ (q :: l.dropWhile (fun e => decide (e.e.key < q.e.key)))
theorem insE_map {V : Type} (f : Et → By × V) (hf : ∀ e, (f e).1 = e.e.key) (l : List Et) (q : Et) : (insE l q).map f = insP (l.map f) q.e.key (f q).2 := by
  unfold insE insP
  rw [List.map_append, List.map_cons, List.takeWhile_map, List.dropWhile_map]
  have e1 : ((fun e : By × V => decide (e.1 < q.e.key)) ∘ f) = (fun e : Et => decide (e.e.key < q.e.key)) := by funext e; simp only [Function.comp, hf]
  rw [e1]
  have e2 : f q = (q.e.key, (f q).2) := by rw [← hf q]
  rw [← e2]
theorem insE_mem (l : List Et) (q e : Et) (h : e ∈ insE l q) : e = q ∨ e ∈ l := by
  unfold insE at h
  rcases List.mem_append.mp h with h | h
  · exact .inr ((List.takeWhile_sublist _).subset h)
  · rcases List.mem_cons.mp h with h | h
    · exact .inl h
    · exact .inr ((List.dropWhile_sublist _).subset h)
theorem Pls.upd {S : Nat → Prop} {l : List (Int × Int)} {A : Option Addr} {n c : Nat} {w w' : World} (h : Pls l (.slice A n c) w) (hu : Upd S w w') (hA : 0 < l.length → ∀ ad, A = some ad → ¬ S ad.block) : Pls l (.slice A n c) w' := by
  obtain ⟨A', c', e, h1, h2, h3, h4⟩ := h
  refine ⟨A', c', e, h1, h2, fun hp => ?_, h4⟩
  obtain ⟨b, o, eA, hb, hc⟩ := h3 hp
  injection e with e1
  have hn := hA hp _ (e1.trans eA)
  have hbk := hu.2.2.2.2 b hb hn
  exact ⟨b, o, eA, Nat.lt_of_lt_of_le hb hu.2.2.2.1, fun i y hy => ⟨(World.cell?_of_block (a := ⟨b, o + i * 2, none⟩) hbk).trans (hc i y hy).1, (World.cell?_of_block (a := ⟨b, o + i * 2 + 1, none⟩) hbk).trans (hc i y hy).2⟩⟩
/-- a note's places lie in no block that acts on the catalog turn -/
def FarP (n : Nt) (v : Value) (x : CtX) (g : Nat) : Prop := 0 < n.places.length → ∀ A ca A2 c2 ad, v = n.agg A ca A2 c2 → A2 = some ad → ¬ x.S g ad.block
theorem placed_end {w5 w9 : World} {lo g t B0 : Nat} {x : CtX} {B T : List (By × Int)} {R : List Int} {G : Int} {ny nu : By} {ng ns : Int} {np : List (Int × Int)} {A5 : Option Addr} {lp c5 : Nat}
    (h5 : Cr w5 lo g x B T R G t) (hl : np.length = lp) (ho : OP np (.slice A5 lp c5) B0 w5) (hB : lo ≤ B0) (hg : w5.grownBy w9 (some x.be)) (hm : MapB w9 9 KS x.be (t + 1) (delP (eM x.E) ny ++ [(ny, .agg #[.string (bs ny), .int .i64 ng, .int .i64 ns, .string (bs nu), .slice A5 lp c5])])) :
    Cr w9 lo g { x with E := insE (x.E.filter (fun e => e.e.key != ny)) ⟨⟨ny, ng, ns, nu, np⟩, A5, c5⟩ } B T R G (t + 1) ∧ Upd (x.S g) w5 w9 := by
  have e : eM (insE (x.E.filter (fun e => e.e.key != ny)) ⟨⟨ny, ng, ns, nu, np⟩, A5, c5⟩) = insP (delP (eM x.E) ny) ny (.agg #[.string (bs ny), .int .i64 ng, .int .i64 ns, .string (bs nu), .slice A5 lp c5]) := by
    have := insE_map (fun e : Et => (e.e.key, e.agg)) (fun _ => rfl) (x.E.filter (fun e => e.e.key != ny)) ⟨⟨ny, ng, ns, nu, np⟩, A5, c5⟩
    unfold eM at this ⊢
    rw [this]
    have e2 := eM_del x.E ny
    unfold eM at e2
    rw [e2]
    unfold Et.agg Et.v
    simp only
    rw [hl]
  refine h5.setE (Nat.le_succ t) hg ?_ (fun q hq => ?_)
  · rw [e]
    exact hm.perm (insP_perm _ _ _).symm
  · obtain ⟨-, -, -, -, h6, -⟩ := h5.setM hg h5.me.isMap
    rcases insE_mem _ _ _ hq with rfl | hq
    · unfold Et.v
      simp only
      rw [hl]
      refine ⟨row_more (row_keep ho.1 (fun k e' => hg.block k (ho.1.lt k e').2 (fun e2 => ?_))) hB, ho.2⟩
      injection e2 with e2
      exact row_notmap ho.1 h5.me (by rw [← e2]; exact e')
    · exact h6 q (List.mem_filter.mp hq).1
set_option maxRecDepth 10000 in
set_option maxHeartbeats 2000000 in
theorem placed_any (lo g t : Nat) (x : CtX) (c : CtP) (w : World) (h : Hid (Ca w lo g x c t)) (ht : t ≤ 900) (hlo : lo ≤ w.heap.size) (n : Nt) (v : Value) (hk : n.key.length ≤ maxLen) (hv : NtV n v w) (hI : I64 n.cart) (hfar : FarP n v x g) : Calls Try.prog 33 #[.pointer (some ⟨g, 0, none⟩), v] w (ActPost lo g t x w (c.placed n)) := by
  have hvn := hv
  obtain ⟨A, ca, A2, c2, rfl, hdt, hpl⟩ := hv
  replace hfar := Lib.hid (fun hp ad hA => hfar hp A ca A2 c2 ad rfl hA)
  obtain ⟨N, hN⟩ : ∃ N, w.heap.size = N := ⟨_, rfl⟩
  obtain ⟨rc, hrc⟩ : ∃ rc, c.placed n = rc := ⟨_, rfl⟩
  rw [hrc]
  have hrc0 := Lib.hid hrc
  unfold CtP.placed at hrc
  have hvn2 := Lib.hid (fun y (hg : Gr w y) => (NtV.gr hg (Lib.hid hvn)).out)
  obtain ⟨nk, ny, ng, nc, nd, nu, ns, np⟩ := n
  unfold Nt.agg at hvn2 ⊢
  simp only at hk hrc hdt hpl hvn2 hI hfar ⊢
  obtain ⟨ld, hld⟩ : ∃ ld, nd.length = ld := ⟨_, rfl⟩
  obtain ⟨lp, hlp⟩ : ∃ lp, np.length = lp := ⟨_, rfl⟩
  rw [hld] at hdt hvn2 ⊢
  rw [hlp] at hpl hvn2 ⊢
  obtain ⟨W, hW⟩ : ∃ W, w.alloc (.cells #[.int .i64 nk, .string (bs ny), .int .i64 ng, .int .i64 nc, .slice A ld ca, .string (bs nu), .int .i64 ns, .slice A2 lp c2] 32) = W := ⟨_, rfl⟩
  have hgW : Gr w W := by rw [← hW]; exact Gr.alloc _ _
  have hbW : W.heap[N]? = some (.cells #[.int .i64 nk, .string (bs ny), .int .i64 ng, .int .i64 nc, .slice A ld ca, .string (bs nu), .int .i64 ns, .slice A2 lp c2] 32 (0, 0)) := by rw [← hW, ← hN]; exact heap_alloc_new w _
  have hcW := Lib.hid (h.out.gr hgW)
  have hsame := Lib.hid (fun r (w' : World) (hg : Gr w w') => ActPost.same h.out hg r)
  clear hvn
  have y1 := blk_cell (j := 1) hbW rfl
  have y6 := blk_cell (j := 6) hbW rfl
  have hgr := Lib.hid (fitGroups_any ns W)
  have hnm := Lib.hid (named_any lo g t x c W hcW ⟨nk, ny, ng, nc, nd, nu, ns, np⟩ _ hk (by have := hvn2.out W hgW; rw [← hld, ← hlp] at this; exact this))
  unfold Nt.agg at hnm
  simp only at hnm
  rw [hld, hlp] at hnm
  have z0 := blk_cell (j := 0) hbW rfl
  have z2 := blk_cell (j := 2) hbW rfl
  have z3 := blk_cell (j := 3) hbW rfl
  have z4 := blk_cell (j := 4) hbW rfl
  have z5 := blk_cell (j := 5) hbW rfl
  have z7 := blk_cell (j := 7) hbW rfl
  have hg4 := grp_le ns
  obtain ⟨gr, hgrn⟩ : ∃ gr, grp ns = gr := ⟨_, rfl⟩
  rw [hgrn] at hgr hrc hg4
  cases hna : c.named ny ng with
  | false =>
    have hrc5 : rc = (12, c) := by rw [← hrc, if_pos (.inl hna)]
    rw [hna] at hnm
    replace hrc5 := Lib.hid hrc5
    replace hna := Lib.hid hna
    replace hgrn := Lib.hid hgrn
    replace hvn2 := Lib.hid hvn2
    replace hgW := Lib.hid hgW
    replace hbW := Lib.hid hbW
    replace hdt := Lib.hid hdt
    replace hpl := Lib.hid hpl
    replace hld := Lib.hid hld
    replace hlp := Lib.hid hlp
    replace hI := Lib.hid hI
    clear hrc h
    go_enter Try.func33, Try.ntmps33
    go_wp2_with (first
      | (go_at_call 52; go_must (refine hgr.out.mono ?_); rintro e w' ⟨rfl, hee⟩; rw [hee]; clear hee)
      | (go_at_call 53; go_must (refine hnm.out.mono ?_); clear hnm; rintro e w2 ⟨rfl, hg2⟩))
    go_ret
    rw [hrc5.out]
    exact hsame.out 12 _ (hgW.out.trans hg2)
  | true =>
    rw [hna] at hnm
    by_cases hz : gr = 0
    · have hrc5 : rc = (12, c) := by rw [← hrc, if_pos (.inr (.inl hz))]
      subst hz
      replace hrc5 := Lib.hid hrc5
      replace hna := Lib.hid hna
      replace hgrn := Lib.hid hgrn
      replace hvn2 := Lib.hid hvn2
      replace hgW := Lib.hid hgW
      replace hbW := Lib.hid hbW
      replace hdt := Lib.hid hdt
      replace hpl := Lib.hid hpl
      replace hld := Lib.hid hld
      replace hlp := Lib.hid hlp
      replace hI := Lib.hid hI
      clear hrc h
      go_enter Try.func33, Try.ntmps33
      go_wp2_with (first
        | (go_at_call 52; go_must (refine hgr.out.mono ?_); rintro e w' ⟨rfl, hee⟩; rw [hee]; clear hee)
        | (go_at_call 53; go_must (refine hnm.out.mono ?_); clear hnm; rintro e w2 ⟨rfl, hg2⟩))
      go_ret
      rw [hrc5.out]
      exact hsame.out 12 _ (hgW.out.trans hg2)
    · have hzb : ((gr : Int) == 0) = false := beq_false_of_ne (by omega)
      have hmul : IntKind.i64.wrap (10 * (gr : Int)) = ((10 * gr : Nat) : Int) := by rw [IntKind.wrap_i64]; omega
      by_cases hl : lp = 10 * gr
      · have hrc5 : rc = (0, { c with W := delP c.W ny, E := insP (delP c.E ny) ny ⟨ny, ng, ns, nu, np⟩ }) := by
          rw [← hrc, if_neg (fun hc => hc.elim (fun e => by rw [hna] at e; exact absurd e (by decide)) (fun e => e.elim hz (fun e => e (by rw [hlp]; exact hl))))]
        have hlb : ((lp : Int) != ((10 * gr : Nat) : Int)) = false := by rw [hl]; simp
        have hlp40 : lp ≤ 40 := by omega
        replace hrc5 := Lib.hid hrc5
        replace hna := Lib.hid hna
        replace hgrn := Lib.hid hgrn
        replace hvn2 := Lib.hid hvn2
        replace hl := Lib.hid hl
        replace hz := Lib.hid hz
        replace hg4 := Lib.hid hg4
        replace hgW := Lib.hid hgW
        replace hbW := Lib.hid hbW
        replace hdt := Lib.hid hdt
        replace hpl := Lib.hid hpl
        replace hld := Lib.hid hld
        replace hlp := Lib.hid hlp
        replace hI := Lib.hid hI
        clear hrc hsame
        go_enter Try.func33, Try.ntmps33
        go_upto_region 4 with (first
          | (go_at_call 52; go_must (refine hgr.out.mono ?_); rintro e w' ⟨rfl, hee⟩; rw [hee]; clear hee)
          | (go_at_call 53; go_must (refine hnm.out.mono ?_); clear hnm; rintro e w2 ⟨rfl, hg2⟩; have hb2 := blk_below hbW.out hg2; have z7 := blk_cell (j := 7) hb2 rfl))
        replace hW := Lib.hid hW
        have hc2 := hcW.out.gr hg2
        have q1 := blk_cell (j := 1) hb2 rfl
        have hgw2 := Lib.hid (hgW.out.trans hg2)
        have hun := Lib.hid (unstage_any lo g t x c.B c.T c.R c.G w2 (Lib.hid hc2.cr) (by have h1 := h.out.few.1; rw [h.out.wc, List.length_map] at h1; omega) ny)
        replace hb2 := Lib.hid hb2
        replace hN := Lib.hid hN
        clear hzb hmul hlb z7 z0 z2 z3 z4 z5 y1 y6 hgr hc2
        go_upto_region 5 with (go_at_call 54; go_must (refine hun.out.mono ?_); clear hun; rintro e w3 ⟨⟨vx, rfl⟩, v3, h3, ho3, hu3⟩)
        have hb3 : w3.heap[N]? = some (.cells #[.int .i64 nk, .string (bs ny), .int .i64 ng, .int .i64 nc, .slice A ld ca, .string (bs nu), .int .i64 ns, .slice A2 lp c2] 32 (0, 0)) := (hu3.2.2.2.2 N (blk_lt hb2.out) (fun hs => by have := (h.out.lt N hs).1; have := hN.out; omega)).trans hb2.out
        obtain ⟨wd, hwd⟩ : ∃ wd, wd = w3.drew := ⟨_, rfl⟩
        have hgd : Gr w3 wd := by rw [hwd]; exact (Below.refl _ _).drew
        have hbd : Hid (wd.heap[N]? = some (.cells #[.int .i64 nk, .string (bs ny), .int .i64 ng, .int .i64 nc, .slice A ld ca, .string (bs nu), .int .i64 ns, .slice A2 lp c2] 32 (0, 0))) := Lib.hid (by rw [hwd]; exact hb3)
        have hcd := Lib.hid (h3.out.gr hgd)
        have hpd : Pls np (.slice A2 lp c2) wd := by
          have hp1 := (Pls.gr hgw2.out hpl).out
          exact (Pls.gr hgd (Lib.hid (hp1.upd hu3 hfar.out))).out
        have hcl := Lib.hid (clonePl_any A2 lp c2 np (by omega) wd hpd)
        have hfr := Lib.hid ((Upd.of_below hgw2.out).trans (hu3.trans (Upd.of_below hgd)))
        have hlod : Hid (lo ≤ wd.heap.size) := Lib.hid (Nat.le_trans hlo (Nat.le_trans (Below.size hgw2.out) (Nat.le_trans hu3.2.2.2.1 (Below.size hgd))))
        have hsS : Hid (∀ k, CtX.S { x with vs := v3, W := filW ny x.W } g k ↔ x.S g k) := Lib.hid (fun k => by unfold CtX.S; simp only; rw [ho3])
        replace hpd := Lib.hid hpd
        replace ho3 := Lib.hid ho3
        clear hb3 hgd hg2 q1
        refine wpR_region (Gr) 18 (by kernel_rfl) ?_
        (rw [← hwd]; replace hwd := Lib.hid hwd)
        refine wpR_take (i := 0) (v := ?_) (Gr.road) (some 29) rfl (by kernel_rfl) (by kernel_rfl) (by kernel_rfl) (by kernel_rfl) (by kernel_rfl) (fun _ _ _ h => h) (by kernel_rfl) (fun w' hw' => ?_) ?_
        rotate_left
        · go_simp; with_reducible rfl
        simp only [Act.put, List.setIfInBounds_toArray, List.set_cons_zero, List.set_cons_succ]
        refine wpR_take (i := 1) (v := ?_) (Gr.road) (some 30) rfl (by kernel_rfl) (by kernel_rfl) (by kernel_rfl) (by kernel_rfl) (by kernel_rfl) (fun _ _ _ h => h) (by kernel_rfl) (fun w' hw' => ?_) ?_
        rotate_left
        · go_simp; with_reducible rfl
        simp only [Act.put, List.setIfInBounds_toArray, List.set_cons_zero, List.set_cons_succ]
        refine wpR_take (i := 2) (v := ?_) (Gr.road) (some 31) rfl (by kernel_rfl) (by kernel_rfl) (by kernel_rfl) (by kernel_rfl) (by kernel_rfl) (fun _ _ _ h => h) (by kernel_rfl) (fun w' hw' => ?_) ?_
        rotate_left
        · go_simp; with_reducible rfl
        simp only [Act.put, List.setIfInBounds_toArray, List.set_cons_zero, List.set_cons_succ]
        refine wpR_take (i := 3) (v := ?_) (Gr.road) (some 32) rfl (by kernel_rfl) (by kernel_rfl) (by kernel_rfl) (by kernel_rfl) (by kernel_rfl) (fun _ _ _ h => h) (by kernel_rfl) (fun w' hw' => ?_) ?_
        rotate_left
        · have q := blk_cell (j := 1) (blk_below hcd.out.blk hw') rfl; go_simp; with_reducible rfl
        simp only [Act.put, List.setIfInBounds_toArray, List.set_cons_zero, List.set_cons_succ]
        refine wpR_take (i := 4) (v := ?_) (Gr.road) (some 33) rfl (by kernel_rfl) (by kernel_rfl) (by kernel_rfl) (by kernel_rfl) (by kernel_rfl) (fun _ _ _ h => h) (by kernel_rfl) (fun w' hw' => ?_) ?_
        rotate_left
        · go_simp; with_reducible rfl
        simp only [Act.put, List.setIfInBounds_toArray, List.set_cons_zero, List.set_cons_succ]
        refine wpR_take (i := 5) (v := ?_) (Gr.road) (some 34) rfl (by kernel_rfl) (by kernel_rfl) (by kernel_rfl) (by kernel_rfl) (by kernel_rfl) (fun _ _ _ h => h) (by kernel_rfl) (fun w' hw' => ?_) ?_
        rotate_left
        · have q := blk_cell (j := 1) (blk_below hbd.out hw') rfl; go_simp; with_reducible rfl
        simp only [Act.put, List.setIfInBounds_toArray, List.set_cons_zero, List.set_cons_succ]
        refine wpR_take (i := 6) (v := ?_) (Gr.road) (some 35) rfl (by kernel_rfl) (by kernel_rfl) (by kernel_rfl) (by kernel_rfl) (by kernel_rfl) (fun _ _ _ h => h) (by kernel_rfl) (fun w' hw' => ?_) ?_
        rotate_left
        · go_simp; with_reducible rfl
        simp only [Act.put, List.setIfInBounds_toArray, List.set_cons_zero, List.set_cons_succ]
        refine wpR_take (i := 7) (v := ?_) (Gr.road) (some 36) rfl (by kernel_rfl) (by kernel_rfl) (by kernel_rfl) (by kernel_rfl) (by kernel_rfl) (fun _ _ _ h => h) (by kernel_rfl) (fun w' hw' => ?_) ?_
        rotate_left
        · have q := blk_cell (j := 1) (blk_below hbd.out hw') rfl; go_simp; with_reducible rfl
        simp only [Act.put, List.setIfInBounds_toArray, List.set_cons_zero, List.set_cons_succ]
        refine wpR_take (i := 8) (v := ?_) (Gr.road) (some 37) rfl (by kernel_rfl) (by kernel_rfl) (by kernel_rfl) (by kernel_rfl) (by kernel_rfl) (fun _ _ _ h => h) (by kernel_rfl) (fun w' hw' => ?_) ?_
        rotate_left
        · go_simp; with_reducible rfl
        simp only [Act.put, List.setIfInBounds_toArray, List.set_cons_zero, List.set_cons_succ]
        refine wpR_take (i := 9) (v := ?_) (Gr.road) (some 38) rfl (by kernel_rfl) (by kernel_rfl) (by kernel_rfl) (by kernel_rfl) (by kernel_rfl) (fun _ _ _ h => h) (by kernel_rfl) (fun w' hw' => ?_) ?_
        rotate_left
        · have q := blk_cell (j := 2) (blk_below hbd.out hw') rfl; go_simp; with_reducible rfl
        simp only [Act.put, List.setIfInBounds_toArray, List.set_cons_zero, List.set_cons_succ]
        refine wpR_take (i := 10) (v := ?_) (Gr.road) (some 39) rfl (by kernel_rfl) (by kernel_rfl) (by kernel_rfl) (by kernel_rfl) (by kernel_rfl) (fun _ _ _ h => h) (by kernel_rfl) (fun w' hw' => ?_) ?_
        rotate_left
        · go_simp; with_reducible rfl
        simp only [Act.put, List.setIfInBounds_toArray, List.set_cons_zero, List.set_cons_succ]
        refine wpR_take (i := 11) (v := ?_) (Gr.road) (some 40) rfl (by kernel_rfl) (by kernel_rfl) (by kernel_rfl) (by kernel_rfl) (by kernel_rfl) (fun _ _ _ h => h) (by kernel_rfl) (fun w' hw' => ?_) ?_
        rotate_left
        · have q := blk_cell (j := 6) (blk_below hbd.out hw') rfl; go_simp; with_reducible rfl
        simp only [Act.put, List.setIfInBounds_toArray, List.set_cons_zero, List.set_cons_succ]
        refine wpR_take (i := 12) (v := ?_) (Gr.road) (some 41) rfl (by kernel_rfl) (by kernel_rfl) (by kernel_rfl) (by kernel_rfl) (by kernel_rfl) (fun _ _ _ h => h) (by kernel_rfl) (fun w' hw' => ?_) ?_
        rotate_left
        · go_simp; with_reducible rfl
        simp only [Act.put, List.setIfInBounds_toArray, List.set_cons_zero, List.set_cons_succ]
        refine wpR_take (i := 13) (v := ?_) (Gr.road) (some 42) rfl (by kernel_rfl) (by kernel_rfl) (by kernel_rfl) (by kernel_rfl) (by kernel_rfl) (fun _ _ _ h => h) (by kernel_rfl) (fun w' hw' => ?_) ?_
        rotate_left
        · have q := blk_cell (j := 5) (blk_below hbd.out hw') rfl; go_simp; with_reducible rfl
        simp only [Act.put, List.setIfInBounds_toArray, List.set_cons_zero, List.set_cons_succ]
        refine wpR_take (i := 14) (v := ?_) (Gr.road) (some 43) rfl (by kernel_rfl) (by kernel_rfl) (by kernel_rfl) (by kernel_rfl) (by kernel_rfl) (fun _ _ _ h => h) (by kernel_rfl) (fun w' hw' => ?_) ?_
        rotate_left
        · go_simp; with_reducible rfl
        simp only [Act.put, List.setIfInBounds_toArray, List.set_cons_zero, List.set_cons_succ]
        refine wpR_take (i := 15) (v := ?_) (Gr.road) (some 44) rfl (by kernel_rfl) (by kernel_rfl) (by kernel_rfl) (by kernel_rfl) (by kernel_rfl) (fun _ _ _ h => h) (by kernel_rfl) (fun w' hw' => ?_) ?_
        rotate_left
        · have q := blk_cell (j := 7) (blk_below hbd.out hw') rfl; go_simp; with_reducible rfl
        simp only [Act.put, List.setIfInBounds_toArray, List.set_cons_zero, List.set_cons_succ]
        refine wpR_one 16 rfl (by kernel_rfl) (by kernel_rfl) (fun K hK => ?_)
        go_simp
        refine hcl.out.mono ?_
        rintro e w5 ⟨A5, c5, rfl, ho5, hb5⟩
        refine hK _ _ (fun _ => hb5) ?_
        clear hK K
        clear hcl
        have h5 := hcd.out.gr hb5
        obtain ⟨w9, hrun, hm9, hg9⟩ := h5.me.store lawS Try.underlying59 (by omega) (keyS hk) (.agg #[.string (bs ny), .int .i64 ng, .int .i64 ns, .string (bs nu), .slice A5 lp c5])
        have hend := Lib.hid (placed_end h5 hlp.out ho5 hlod.out hg9 hm9)
        replace h5 := Lib.hid h5
        replace hb5 := Lib.hid hb5
        replace hg9 := Lib.hid hg9
        clear hm9 ho5
        try simp only [Act.put, List.setIfInBounds_toArray, List.set_cons_zero, List.set_cons_succ]
        refine wpR_take (i := 17) (v := ?_) (Gr.road) (some 46) rfl (by kernel_rfl) (by kernel_rfl) (by kernel_rfl) (by kernel_rfl) (by kernel_rfl) (fun _ _ _ h => h) (by kernel_rfl) (fun w' hw' => ?_) ?_
        rotate_left
        · go_simp; with_reducible rfl
        simp only [Act.put, List.setIfInBounds_toArray, List.set_cons_zero, List.set_cons_succ]
        refine wpR_one 18 rfl (by kernel_rfl) (by kernel_rfl) (fun K hK => ?_)
        go_simp
        refine hK _ _ (fun h => absurd h (by decide)) ?_
        clear hK K
        try simp only [Act.put, List.setIfInBounds_toArray, List.set_cons_zero, List.set_cons_succ]
        refine wpR_done (by kernel_rfl) ?_ _
        go_wp2_with fail
        go_ret
        obtain ⟨h1, h2⟩ := hend.out
        rw [hrc5.out]
        refine ⟨rfl, _, h1, ?_, ?_, hfr.out.trans ((Upd.of_below hb5.out).trans (Upd.mono h2 (fun k hk => (hsS.out k).1 hk))), fun k hk => .inl ((hsS.out k).1 hk)⟩
        · show delP c.W ny = _
          rw [h.out.wc]; exact (filW_wc _ _).symm
        · show insP (delP c.E ny) ny _ = _
          rw [h.out.ec, ← filE_ec]
          exact (insE_map (fun e : Et => (e.e.key, e.e)) (fun _ => rfl) (x.E.filter (fun e => e.e.key != ny)) ⟨⟨ny, ng, ns, nu, np⟩, A5, c5⟩).symm
      · have hrc5 : rc = (12, c) := by rw [← hrc, if_pos (.inr (.inr (by rw [hlp]; exact hl)))]
        have hlb : ((lp : Int) != ((10 * gr : Nat) : Int)) = true := by
          rw [bne_iff_ne]; omega
        replace hrc5 := Lib.hid hrc5
        replace hna := Lib.hid hna
        replace hgrn := Lib.hid hgrn
        replace hvn2 := Lib.hid hvn2
        replace hl := Lib.hid hl
        replace hz := Lib.hid hz
        replace hgW := Lib.hid hgW
        replace hbW := Lib.hid hbW
        replace hdt := Lib.hid hdt
        replace hpl := Lib.hid hpl
        replace hld := Lib.hid hld
        replace hlp := Lib.hid hlp
        replace hI := Lib.hid hI
        clear hrc h
        go_enter Try.func33, Try.ntmps33
        go_wp2_with (first
          | (go_at_call 52; go_must (refine hgr.out.mono ?_); rintro e w' ⟨rfl, hee⟩; rw [hee]; clear hee)
          | (go_at_call 53; go_must (refine hnm.out.mono ?_); clear hnm; rintro e w2 ⟨rfl, hg2⟩; have hb2 := blk_below hbW.out hg2; have z7 := blk_cell (j := 7) hb2 rfl))
        go_ret
        rw [hrc5.out]
        exact hsame.out 12 _ (hgW.out.trans hg2)
end Go.Proofs.Ythboeoidgglcgaa
