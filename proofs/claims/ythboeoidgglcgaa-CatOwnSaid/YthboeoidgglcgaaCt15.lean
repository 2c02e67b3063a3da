/- cat: a key that is gone. -/
import Derived.Test.YthboeoidgglcgaaCt14
namespace Go.Proofs.Ythboeoidgglcgaa
set_option linter.unusedVariables false
set_option linter.unusedSimpArgs false
open Go Go.RowKit Go.Maps
theorem lit_tomb (w : World) (k : By) (z : Int) : Reads (w.alloc (.cells #[.string (bs k), .int .i64 z] 85)) (w.heap.size + 1) 2 (some ⟨w.heap.size, 0, none⟩) 1 (flatT [(k, z)]) := by
  have hh := World.news_of_block (heap_alloc_new w (.cells #[.string (bs k), .int .i64 z] 85))
  exact ⟨rfl, fun _ => ⟨_, rfl, Nat.lt_succ_self _, fun j u hu => hh j u hu⟩⟩
theorem wp_appT {w : World} {o : Oper} {a : Act} {Q : Exit → Act → World → Prop} {K : Act → World → Prop} (s x : Operand)
    (ho : o.op = .call { callee := .builtin .append, args := #[s, x], argTypes := #[63, 63] })
    (base : Nat) (v : Value) (l : List (By × Int)) (hs : a.eval s = v) (hown : TRow w base v l)
    (B : Nat) (A : Option Addr) (c : Nat) (q : By × Int) (hx : a.eval x = .slice A 1 c) (hr : Reads w B 2 A 1 (flatT [q]))
    (hlen : l.length ≤ 100000) (hbase : base ≤ w.heap.size)
    (h : ∀ v' w', TRow w' base v' (l ++ [q]) → w.grownBy w' v.ownBlock → (v'.ownBlock = v.ownBlock ∨ v'.ownBlock = some w.heap.size) → K (a.put o.dst v') w') : Oper.wp Try.prog o a w K Q := by
  obtain ⟨i0, hi, hz0, hz1, hz2⟩ := info_parts info_tomb
  refine wp_append_any w s x 63 ho base 85 i0 _ 2 24 Try.underlying63 hi hz0 hz1 hz2 rfl (by omega) v l.length (flatT l) hs hown B A 1 c (flatT [q]) hx hr (flatT_one [q])
    (by simp only [maxLen]; omega) (by omega) hbase fun v' w' h2 h3 h4 => h v' w' ?_ h3 h4
  unfold TRow
  rw [List.length_append, flatT_app]
  exact h2
theorem Cr.formT {w : World} {lo g t : Nat} {x : CtX} {B T : List (By × Int)} {R : List Int} {G : Int} (h : Cr w lo g x B T R G t) : ∃ A ca, x.vt = .slice A T.length ca := by
  obtain ⟨A, ca, e1, -⟩ := row_form h.ts
  exact ⟨A, ca, e1⟩
theorem tomb_end {w5 w8 : World} {lo g t : Nat} {x : CtX} {B T : List (By × Int)} {R : List Int} {G : Int} {q : By × Int} {v8 : Value} {o : Obj}
    (h5 : Cr w5 lo g x B T R G t) (hr8 : TRow w8 lo v8 (T ++ [q])) (hg8 : (w5.alloc o).grownBy w8 x.vt.ownBlock) (ho8 : v8.ownBlock = x.vt.ownBlock ∨ v8.ownBlock = some (w5.alloc o).heap.size) :
    Cr (w8.setCell ⟨g, 3, none⟩ v8) lo g { x with vt := v8 } B (T ++ [q]) R G t ∧ Upd (x.S g) w5 (w8.setCell ⟨g, 3, none⟩ v8) ∧ ∀ k, CtX.S { x with vt := v8 } g k → x.S g k ∨ w5.heap.size ≤ k := by
  have hu : Upd (fun k => x.vt.ownBlock = some k) w5 w8 := (Upd.of_below (Gr.alloc w5 o)).trans (Upd.of_own hg8)
  obtain ⟨h9, hu9⟩ := h5.setT hu hr8
  refine ⟨h9, hu9, fun k hk => ?_⟩
  rcases hk with hk | hk | hk | hk | hk | hk
  · exact .inl (.inl hk)
  · exact .inl (.inr (.inl hk))
  · exact .inl (.inr (.inr (.inl hk)))
  · exact .inl (.inr (.inr (.inr (.inl hk))))
  · exact .inl (.inr (.inr (.inr (.inr (.inl hk)))))
  · have hk : v8.ownBlock = some k := hk
    rcases ho8 with e | e
    · exact .inl (.inr (.inr (.inr (.inr (.inr (by rw [← e]; exact hk))))))
    · rw [hk] at e
      injection e with e
      right
      rw [e]; simp
set_option maxRecDepth 10000 in
set_option maxHeartbeats 2000000 in
theorem gone_any (lo g t : Nat) (x : CtX) (c : CtP) (w : World) (h : Hid (Ca w lo g x c t)) (ht : t ≤ 900) (hlo : lo ≤ w.heap.size) (n : Nt) (v : Value) (hk : n.key.length ≤ maxLen) (hv : NtV n v w) (hI : I64 n.cart) : Calls Try.prog 34 #[.pointer (some ⟨g, 0, none⟩), v] w (ActPost lo g t x w (c.gone n)) := by
  have hvn := hv
  obtain ⟨A, ca, A2, c2, rfl, hdt, hpl⟩ := hv
  obtain ⟨N, hN⟩ : ∃ N, w.heap.size = N := ⟨_, rfl⟩
  obtain ⟨rc, hrc⟩ : ∃ rc, c.gone n = rc := ⟨_, rfl⟩
  rw [hrc]
  have hrc0 := Lib.hid hrc
  unfold CtP.gone at hrc
  have hvn2 := Lib.hid (fun y (hg : Gr w y) => (NtV.gr hg (Lib.hid hvn)).out)
  obtain ⟨nk, ny, ng, nc, nd, nu, ns, np⟩ := n
  unfold Nt.agg at hvn2 ⊢
  simp only at hk hrc hdt hpl hvn2 hI ⊢
  obtain ⟨ld, hld⟩ : ∃ ld, nd.length = ld := ⟨_, rfl⟩
  obtain ⟨lp, hlp⟩ : ∃ lp, np.length = lp := ⟨_, rfl⟩
  rw [hld] at hdt hvn2 ⊢
  rw [hlp] at hpl hvn2 ⊢
  obtain ⟨W, hW⟩ : ∃ W, w.alloc (.cells #[.int .i64 nk, .string (bs ny), .int .i64 ng, .int .i64 nc, .slice A ld ca, .string (bs nu), .int .i64 ns, .slice A2 lp c2] 32) = W := ⟨_, rfl⟩
  have hgW : Gr w W := by rw [← hW]; exact Gr.alloc _ _
  have hbW : W.heap[N]? = some (.cells #[.int .i64 nk, .string (bs ny), .int .i64 ng, .int .i64 nc, .slice A ld ca, .string (bs nu), .int .i64 ns, .slice A2 lp c2] 32 (0, 0)) := by rw [← hW, ← hN]; exact heap_alloc_new w _
  have hcW := Lib.hid (h.out.gr hgW)
  have hsame := Lib.hid (fun r (w' : World) (hg : Gr w w') => ActPost.same h.out hg r)
  clear hvn
  have y1 := blk_cell (j := 1) hbW rfl
  have y2 := blk_cell (j := 2) hbW rfl
  have hhc := Lib.hid (has_any lo g t x c W hcW (by omega) ny hk)
  cases hha : c.has ny with
  | false =>
    have hrc5 : rc = (5, c) := by rw [← hrc, if_pos hha]
    rw [hha] at hhc
    replace hrc5 := Lib.hid hrc5
    replace hha := Lib.hid hha
    replace hgW := Lib.hid hgW
    replace hbW := Lib.hid hbW
    replace hdt := Lib.hid hdt
    replace hpl := Lib.hid hpl
    replace hld := Lib.hid hld
    replace hlp := Lib.hid hlp
    replace hI := Lib.hid hI
    replace hvn2 := Lib.hid hvn2
    clear hrc h
    go_enter Try.func34, Try.ntmps34
    go_wp2_with (go_at_call 22; go_must (refine hhc.out.mono ?_); clear hhc; rintro e w2 ⟨rfl, hg2⟩)
    go_ret
    rw [hrc5.out]
    exact hsame.out 5 _ (hgW.out.trans hg2)
  | true =>
    rw [hha] at hhc
    rw [if_neg (by rw [hha]; simp)] at hrc
    have hlt := Lib.hid (fun y (hg : Gr W y) => later_any lo g t x c y (Lib.hid (hcW.out.gr hg)) ng)
    cases hla : c.later ng with
    | false =>
      have hrc5 : rc = (12, c) := by rw [← hrc, if_pos hla]
      rw [hla] at hlt
      replace hrc5 := Lib.hid hrc5
      replace hha := Lib.hid hha
      replace hla := Lib.hid hla
      replace hgW := Lib.hid hgW
      replace hbW := Lib.hid hbW
      replace hdt := Lib.hid hdt
      replace hpl := Lib.hid hpl
      replace hld := Lib.hid hld
      replace hlp := Lib.hid hlp
      replace hI := Lib.hid hI
      replace hvn2 := Lib.hid hvn2
      clear hrc h
      go_enter Try.func34, Try.ntmps34
      go_wp2_with (first
        | (go_at_call 22; go_must (refine hhc.out.mono ?_); clear hhc; rintro e w2 ⟨rfl, hg2⟩; have z2 := blk_cell (j := 2) (blk_below hbW.out hg2) rfl; have hl2 := Lib.hid (hlt.out _ hg2))
        | (go_at_call 55; go_must (refine hl2.out.mono ?_); rintro e w' ⟨rfl, hee⟩; rw [hee]; clear hee))
      go_ret
      rw [hrc5.out]
      exact hsame.out 12 _ (hgW.out.trans hg2)
    | true =>
      have hrc5 : rc = (0, { c with W := delP c.W ny, E := delP c.E ny, B := delP c.B ny, T := if hasP c.E ny = true ∨ hasP c.B ny = true then c.T ++ [(ny, ng)] else c.T, G := ng }) := by rw [← hrc, if_neg (by rw [hla]; simp)]
      rw [hla] at hlt
      replace hrc5 := Lib.hid hrc5
      replace hha := Lib.hid hha
      replace hla := Lib.hid hla
      replace hgW := Lib.hid hgW
      replace hbW := Lib.hid hbW
      replace hdt := Lib.hid hdt
      replace hpl := Lib.hid hpl
      replace hld := Lib.hid hld
      replace hlp := Lib.hid hlp
      replace hI := Lib.hid hI
      replace hvn2 := Lib.hid hvn2
      clear hrc hsame
      go_enter Try.func34, Try.ntmps34
      go_upto_region 5 with (first
        | (go_at_call 22; go_must (refine hhc.out.mono ?_); clear hhc; rintro e w2 ⟨rfl, hg2⟩; have z2 := blk_cell (j := 2) (blk_below hbW.out hg2) rfl; have hl2 := Lib.hid (hlt.out _ hg2))
        | (go_at_call 55; go_must (refine hl2.out.mono ?_); rintro e w' ⟨rfl, hee⟩; rw [hee]; clear hee))
      replace hW := Lib.hid hW
      have hc2 := hcW.out.gr hg2
      have hb2 := blk_below hbW.out hg2
      have hxx := hc2.blk
      have k5 := blk_cell (j := 5) hxx rfl
      have f5 := blk_free hxx 5
      have hs5 := hc2.cr.setG ng
      have hset := blk_other (w := w2) (g := g) (k := N) (fun e => by have := blk_lt h.out.blk; rw [← e, ← hN] at this; omega) 5 (.int .i64 ng)
      rw [hb2] at hset
      obtain ⟨w3, hw3⟩ : ∃ w3, w2.setCell ⟨g, 5, none⟩ (.int .i64 ng) = w3 := ⟨_, rfl⟩
      rw [hw3] at hs5 hset
      have hfr3 := Lib.hid ((Upd.of_below (hgW.out.trans hg2)).trans hs5.2)
      replace hs5 := Lib.hid hs5.1
      replace hset := Lib.hid hset
      replace hN := Lib.hid hN
      replace hxx := Lib.hid hxx
      replace hb2 := Lib.hid hb2
      replace hc2 := Lib.hid hc2
      go_upto_region 6 with (fail)
      replace hw3 := Lib.hid hw3
      clear k5 f5 z2 y1 y2 hlt hl2 hg2
      obtain ⟨EA, Ec, hev, -, -⟩ := h.out.entV ny
      unfold Et.agg Et.v at hev
      simp only at hev
      generalize (entOf c ny).places.length = en at hev
      generalize entOf c ny = e9 at hev
      obtain ⟨ek, eg, es, eu, ep⟩ := e9
      simp only at hev
      obtain ⟨wd, hwd⟩ : ∃ wd, wd = w3.drew := ⟨_, rfl⟩
      have hgd : Gr w3 wd := by rw [hwd]; exact (Below.refl _ _).drew
      have hbd : Hid (wd.heap[N]? = some (.cells #[.int .i64 nk, .string (bs ny), .int .i64 ng, .int .i64 nc, .slice A ld ca, .string (bs nu), .int .i64 ns, .slice A2 lp c2] 32 (0, 0))) := Lib.hid (by rw [hwd]; exact hset.out)
      have hcd := Lib.hid (hs5.out.gr hgd)
      have hfrd := Lib.hid (hfr3.out.trans (Upd.of_below hgd))
      obtain ⟨hp, hhp⟩ : ∃ hp, hasP c.E ny = hp := ⟨_, rfl⟩
      have hlook : Hid (∀ w', Gr wd w' → (Instr.lookup 59 (.map (some x.be)) (.string (bs ny)) true).run Try.prog w' = .ok (.tuple #[.agg #[.string (bs ek), .int .i64 eg, .int .i64 es, .string (bs eu), .slice EA en Ec], .bool hp]) w') := Lib.hid (fun w' hw => by
        have := (hcd.out.gr hw).me.look lawS Try.underlying59 zeroE (keyS hk)
        rw [hev, h.out.hasE, hhp] at this
        exact this)
      replace hev := Lib.hid hev
      replace hhp := Lib.hid hhp
      clear hgd
      refine wpR_region (Gr) 11 (by kernel_rfl) ?_
      (rw [← hwd]; replace hwd := Lib.hid hwd)
      refine wpR_take (i := 0) (v := ?_) (Gr.road) (some 27) rfl (by kernel_rfl) (by kernel_rfl) (by kernel_rfl) (by kernel_rfl) (by kernel_rfl) (fun _ _ _ h => h) (by kernel_rfl) (fun w' hw' => ?_) ?_
      rotate_left
      · go_simp; with_reducible rfl
      simp only [Act.put, List.setIfInBounds_toArray, List.set_cons_zero, List.set_cons_succ]
      refine wpR_take (i := 1) (v := ?_) (Gr.road) (some 28) rfl (by kernel_rfl) (by kernel_rfl) (by kernel_rfl) (by kernel_rfl) (by kernel_rfl) (fun _ _ _ h => h) (by kernel_rfl) (fun w' hw' => ?_) ?_
      rotate_left
      · go_simp; with_reducible rfl
      simp only [Act.put, List.setIfInBounds_toArray, List.set_cons_zero, List.set_cons_succ]
      refine wpR_take (i := 2) (v := ?_) (Gr.road) (some 29) rfl (by kernel_rfl) (by kernel_rfl) (by kernel_rfl) (by kernel_rfl) (by kernel_rfl) (fun _ _ _ h => h) (by kernel_rfl) (fun w' hw' => ?_) ?_
      rotate_left
      · go_simp; with_reducible rfl
      simp only [Act.put, List.setIfInBounds_toArray, List.set_cons_zero, List.set_cons_succ]
      refine wpR_take (i := 3) (v := ?_) (Gr.road) (some 30) rfl (by kernel_rfl) (by kernel_rfl) (by kernel_rfl) (by kernel_rfl) (by kernel_rfl) (fun _ _ _ h => h) (by kernel_rfl) (fun w' hw' => ?_) ?_
      rotate_left
      · have q := blk_cell (j := 1) (blk_below hcd.out.blk hw') rfl; go_simp; with_reducible rfl
      simp only [Act.put, List.setIfInBounds_toArray, List.set_cons_zero, List.set_cons_succ]
      refine wpR_take (i := 4) (v := ?_) (Gr.road) (some 31) rfl (by kernel_rfl) (by kernel_rfl) (by kernel_rfl) (by kernel_rfl) (by kernel_rfl) (fun _ _ _ h => h) (by kernel_rfl) (fun w' hw' => ?_) ?_
      rotate_left
      · go_simp; with_reducible rfl
      simp only [Act.put, List.setIfInBounds_toArray, List.set_cons_zero, List.set_cons_succ]
      refine wpR_take (i := 5) (v := ?_) (Gr.road) (some 32) rfl (by kernel_rfl) (by kernel_rfl) (by kernel_rfl) (by kernel_rfl) (by kernel_rfl) (fun _ _ _ h => h) (by kernel_rfl) (fun w' hw' => ?_) ?_
      rotate_left
      · have q := blk_cell (j := 1) (blk_below hbd.out hw') rfl; go_simp; with_reducible rfl
      simp only [Act.put, List.setIfInBounds_toArray, List.set_cons_zero, List.set_cons_succ]
      refine wpR_take (i := 6) (v := ?_) (Gr.road) (some 33) rfl (by kernel_rfl) (by kernel_rfl) (by kernel_rfl) (by kernel_rfl) (by kernel_rfl) (fun _ _ _ h => h) (by kernel_rfl) (fun w' hw' => ?_) ?_
      rotate_left
      · have q := hlook.out _ hw'; go_simp; with_reducible rfl
      simp only [Act.put, List.setIfInBounds_toArray, List.set_cons_zero, List.set_cons_succ]
      refine wpR_take (i := 7) (v := ?_) (Gr.road) (some 26) rfl (by kernel_rfl) (by kernel_rfl) (by kernel_rfl) (by kernel_rfl) (by kernel_rfl) (fun _ _ _ h => h) (by kernel_rfl) (fun w' hw' => ?_) ?_
      rotate_left
      · go_simp; with_reducible rfl
      simp only [Act.put, List.setIfInBounds_toArray, List.set_cons_zero, List.set_cons_succ]
      refine wpR_take (i := 8) (v := ?_) (Gr.road) (some 34) rfl (by kernel_rfl) (by kernel_rfl) (by kernel_rfl) (by kernel_rfl) (by kernel_rfl) (fun _ _ _ h => h) (by kernel_rfl) (fun w' hw' => ?_) ?_
      rotate_left
      · go_simp; with_reducible rfl
      simp only [Act.put, List.setIfInBounds_toArray, List.set_cons_zero, List.set_cons_succ]
      refine wpR_takeU (i := 9) (v := ?_) (Gr.road) (some 35) rfl (by kernel_rfl) (by kernel_rfl) (by kernel_rfl) (by kernel_rfl) (fun _ _ _ h => h) (by kernel_rfl) (fun w' => ?_) ?_
      rotate_left
      · go_simp; with_reducible rfl
      simp only [Act.put, List.setIfInBounds_toArray, List.set_cons_zero, List.set_cons_succ]
      refine wpR_one 10 rfl (by kernel_rfl) (by kernel_rfl) (fun K hK => ?_)
      go_simp
      refine hK _ _ (fun _ => Gr.alloc _ _) ?_
      clear hK K
      try simp only [Act.put, List.setIfInBounds_toArray, List.set_cons_zero, List.set_cons_succ]
      refine wpR_one 11 rfl (by kernel_rfl) (by kernel_rfl) (fun K hK => ?_)
      go_simp
      refine hK _ _ (fun h => absurd h (by decide)) ?_
      clear hK K
      try simp only [Act.put, List.setIfInBounds_toArray, List.set_cons_zero, List.set_cons_succ]
      refine wpR_take (i := 12) (v := ?_) (Gr.road) (some 6) rfl (by kernel_rfl) (by kernel_rfl) (by kernel_rfl) (by kernel_rfl) (by kernel_rfl) (fun _ _ _ h => h) (by kernel_rfl) (fun w' hw' => ?_) ?_
      rotate_left
      · go_simp; with_reducible rfl
      simp only [Act.put, List.setIfInBounds_toArray, List.set_cons_zero, List.set_cons_succ]
      refine wpR_done (by kernel_rfl) ?_ _
      obtain ⟨w4, hw4⟩ : ∃ w4, wd.alloc (.cells #[.string (bs ek), .int .i64 eg, .int .i64 es, .string (bs eu), .slice EA en Ec] 45) = w4 := ⟨_, rfl⟩
      have hg4 : Gr wd w4 := by rw [← hw4]; exact Gr.alloc _ _
      have hc4 := Lib.hid (hcd.out.gr hg4)
      have hb4 := Lib.hid (blk_below hbd.out hg4)
      have hfr4 := Lib.hid (hfrd.out.trans (Upd.of_below hg4))
      clear hlook hcd hbd hfrd hg4
      go_upto_region 7 with (fail)
      (try rw [hw4])
      replace hw4 := Lib.hid hw4
      obtain ⟨we, hwe⟩ : ∃ we, we = w4.drew := ⟨_, rfl⟩
      have hge : Gr w4 we := by rw [hwe]; exact (Below.refl _ _).drew
      have hbe : Hid (we.heap[N]? = some (.cells #[.int .i64 nk, .string (bs ny), .int .i64 ng, .int .i64 nc, .slice A ld ca, .string (bs nu), .int .i64 ns, .slice A2 lp c2] 32 (0, 0))) := Lib.hid (by rw [hwe]; exact hb4.out)
      have hce := Lib.hid (hc4.out.gr hge)
      have hfre := Lib.hid (hfr4.out.trans (Upd.of_below hge))
      obtain ⟨hq, hhq⟩ : ∃ hq, hasP c.B ny = hq := ⟨_, rfl⟩
      have hlk2 := hce.out.mb.look lawS Try.underlying60 zeroI (keyS hk)
      rw [bM_has, hhq] at hlk2
      generalize getP (bM c.B) ny (.int .i64 0) = bv at hlk2
      have e2 := blk_cell (j := 2) hce.out.blk rfl
      have e1 := blk_cell (j := 1) hbe.out rfl
      replace hhq := Lib.hid hhq
      clear hge
      refine wpR_region (Eq) 9999 (by kernel_rfl) ?_
      (rw [← hwe]; replace hwe := Lib.hid hwe)
      refine wpR_take (i := 0) (v := ?_) (⟨fun _ => rfl, Eq.trans⟩) (some 37) rfl (by kernel_rfl) (by kernel_rfl) (by kernel_rfl) (by kernel_rfl) (by kernel_rfl) (fun _ _ _ h => h) (by kernel_rfl) (fun w' hw' => ?_) ?_
      rotate_left
      · go_simp; with_reducible rfl
      simp only [Act.put, List.setIfInBounds_toArray, List.set_cons_zero, List.set_cons_succ]
      refine wpR_take (i := 1) (v := ?_) (⟨fun _ => rfl, Eq.trans⟩) (some 38) rfl (by kernel_rfl) (by kernel_rfl) (by kernel_rfl) (by kernel_rfl) (by kernel_rfl) (fun _ _ _ h => h) (by kernel_rfl) (fun w' hw' => ?_) ?_
      rotate_left
      · go_simp; with_reducible rfl
      simp only [Act.put, List.setIfInBounds_toArray, List.set_cons_zero, List.set_cons_succ]
      refine wpR_take (i := 2) (v := ?_) (⟨fun _ => rfl, Eq.trans⟩) (some 39) rfl (by kernel_rfl) (by kernel_rfl) (by kernel_rfl) (by kernel_rfl) (by kernel_rfl) (fun _ _ _ h => h) (by kernel_rfl) (fun w' hw' => ?_) ?_
      rotate_left
      · go_simp; with_reducible rfl
      simp only [Act.put, List.setIfInBounds_toArray, List.set_cons_zero, List.set_cons_succ]
      refine wpR_take (i := 3) (v := ?_) (⟨fun _ => rfl, Eq.trans⟩) (some 40) rfl (by kernel_rfl) (by kernel_rfl) (by kernel_rfl) (by kernel_rfl) (by kernel_rfl) (fun _ _ _ h => h) (by kernel_rfl) (fun w' hw' => ?_) ?_
      rotate_left
      · subst hw'; go_simp; with_reducible rfl
      simp only [Act.put, List.setIfInBounds_toArray, List.set_cons_zero, List.set_cons_succ]
      refine wpR_take (i := 4) (v := ?_) (⟨fun _ => rfl, Eq.trans⟩) (some 41) rfl (by kernel_rfl) (by kernel_rfl) (by kernel_rfl) (by kernel_rfl) (by kernel_rfl) (fun _ _ _ h => h) (by kernel_rfl) (fun w' hw' => ?_) ?_
      rotate_left
      · go_simp; with_reducible rfl
      simp only [Act.put, List.setIfInBounds_toArray, List.set_cons_zero, List.set_cons_succ]
      refine wpR_take (i := 5) (v := ?_) (⟨fun _ => rfl, Eq.trans⟩) (some 42) rfl (by kernel_rfl) (by kernel_rfl) (by kernel_rfl) (by kernel_rfl) (by kernel_rfl) (fun _ _ _ h => h) (by kernel_rfl) (fun w' hw' => ?_) ?_
      rotate_left
      · subst hw'; go_simp; with_reducible rfl
      simp only [Act.put, List.setIfInBounds_toArray, List.set_cons_zero, List.set_cons_succ]
      refine wpR_take (i := 6) (v := ?_) (⟨fun _ => rfl, Eq.trans⟩) (some 43) rfl (by kernel_rfl) (by kernel_rfl) (by kernel_rfl) (by kernel_rfl) (by kernel_rfl) (fun _ _ _ h => h) (by kernel_rfl) (fun w' hw' => ?_) ?_
      rotate_left
      · subst hw'; go_simp; with_reducible rfl
      simp only [Act.put, List.setIfInBounds_toArray, List.set_cons_zero, List.set_cons_succ]
      refine wpR_take (i := 7) (v := ?_) (⟨fun _ => rfl, Eq.trans⟩) (some 36) rfl (by kernel_rfl) (by kernel_rfl) (by kernel_rfl) (by kernel_rfl) (by kernel_rfl) (fun _ _ _ h => h) (by kernel_rfl) (fun w' hw' => ?_) ?_
      rotate_left
      · go_simp; with_reducible rfl
      simp only [Act.put, List.setIfInBounds_toArray, List.set_cons_zero, List.set_cons_succ]
      refine wpR_take (i := 8) (v := ?_) (⟨fun _ => rfl, Eq.trans⟩) (some 44) rfl (by kernel_rfl) (by kernel_rfl) (by kernel_rfl) (by kernel_rfl) (by kernel_rfl) (fun _ _ _ h => h) (by kernel_rfl) (fun w' hw' => ?_) ?_
      rotate_left
      · go_simp; with_reducible rfl
      simp only [Act.put, List.setIfInBounds_toArray, List.set_cons_zero, List.set_cons_succ]
      refine wpR_take (i := 9) (v := ?_) (⟨fun _ => rfl, Eq.trans⟩) (some 45) rfl (by kernel_rfl) (by kernel_rfl) (by kernel_rfl) (by kernel_rfl) (by kernel_rfl) (fun _ _ _ h => h) (by kernel_rfl) (fun w' hw' => ?_) ?_
      rotate_left
      · go_simp; with_reducible rfl
      simp only [Act.put, List.setIfInBounds_toArray, List.set_cons_zero, List.set_cons_succ]
      refine wpR_take (i := 10) (v := ?_) (⟨fun _ => rfl, Eq.trans⟩) (some 7) rfl (by kernel_rfl) (by kernel_rfl) (by kernel_rfl) (by kernel_rfl) (by kernel_rfl) (fun _ _ _ h => h) (by kernel_rfl) (fun w' hw' => ?_) ?_
      rotate_left
      · go_simp; with_reducible rfl
      simp only [Act.put, List.setIfInBounds_toArray, List.set_cons_zero, List.set_cons_succ]
      refine wpR_take (i := 11) (v := ?_) (⟨fun _ => rfl, Eq.trans⟩) (some 8) rfl (by kernel_rfl) (by kernel_rfl) (by kernel_rfl) (by kernel_rfl) (by kernel_rfl) (fun _ _ _ h => h) (by kernel_rfl) (fun w' hw' => ?_) ?_
      rotate_left
      · go_simp; with_reducible rfl
      simp only [Act.put, List.setIfInBounds_toArray, List.set_cons_zero, List.set_cons_succ]
      refine wpR_done (by kernel_rfl) ?_ _
      clear hlk2 e2 e1
      have hun := Lib.hid (unstage_any lo g t x c.B c.T c.R ng we hce (by have h1 := h.out.few.1; rw [h.out.wc, List.length_map] at h1; omega) ny)
      have e1 := blk_cell (j := 1) hbe.out rfl
      go_upto_region 9 with (go_at_call 54; go_must (refine hun.out.mono ?_); clear hun; rintro e w5 ⟨⟨vx, rfl⟩, v3, h3, ho3, hu3⟩)
      have hNS : Hid (∀ k, x.S g k → k ≠ N) := Lib.hid (fun k hs e => by have := (h.out.lt k hs).1; have := hN.out; omega)
      have hb5 : w5.heap[N]? = some (.cells #[.int .i64 nk, .string (bs ny), .int .i64 ng, .int .i64 nc, .slice A ld ca, .string (bs nu), .int .i64 ns, .slice A2 lp c2] 32 (0, 0)) := (hu3.2.2.2.2 N (blk_lt hbe.out) (fun hs => hNS.out N hs rfl)).trans hbe.out
      have hfr5 := Lib.hid (hfre.out.trans hu3)
      obtain ⟨x3, hc3, hx3W, hx3E, hx3S⟩ : ∃ x3, Cr w5 lo g x3 c.B c.T c.R ng t ∧ x3.W = filW ny x.W ∧ x3.E = x.E ∧ (∀ k, x3.S g k ↔ x.S g k) := ⟨_, h3.out, rfl, rfl, fun k => by unfold CtX.S; simp only; rw [ho3]⟩
      replace hx3W := Lib.hid hx3W
      replace hx3E := Lib.hid hx3E
      replace hx3S := Lib.hid hx3S
      clear h3 hu3 ho3 e1 hfre hce hbe hfr4 hc4 hb4
      obtain ⟨wf, hwf⟩ : ∃ wf, wf = w5.drew := ⟨_, rfl⟩
      have hgf : Gr w5 wf := by rw [hwf]; exact (Below.refl _ _).drew
      have hbf : Hid (wf.heap[N]? = some (.cells #[.int .i64 nk, .string (bs ny), .int .i64 ng, .int .i64 nc, .slice A ld ca, .string (bs nu), .int .i64 ns, .slice A2 lp c2] 32 (0, 0))) := Lib.hid (by rw [hwf]; exact hb5)
      have hcf := Lib.hid (hc3.gr hgf)
      have hfrf := Lib.hid (hfr5.out.trans (Upd.of_below hgf))
      obtain ⟨w6, hrun6, hm6, hg6⟩ := hcf.out.me.drop lawS Try.underlying59 (keyS hk) 0
      rw [← eM_del] at hm6
      have hend6 := hcf.out.setE (E' := x3.E.filter (fun e => e.e.key != ny)) (Nat.le_refl t) hg6 hm6 (fun q hq => (hcf.out.setM hg6 hcf.out.me.isMap).2.2.2.2.1 q (List.mem_filter.mp hq).1)
      have hb6 : w6.heap[N]? = some (.cells #[.int .i64 nk, .string (bs ny), .int .i64 ng, .int .i64 nc, .slice A ld ca, .string (bs nu), .int .i64 ns, .slice A2 lp c2] 32 (0, 0)) := (hend6.2.2.2.2.2 N (blk_lt hbf.out) (fun hs => hNS.out N ((hx3S.out N).1 hs) rfl)).trans hbf.out
      have hfr6 := Lib.hid (hfrf.out.trans (Upd.mono hend6.2 (fun k hk => (hx3S.out k).1 hk)))
      obtain ⟨x6, hc6, hx6W, hx6E, hx6S⟩ : ∃ x6, Cr w6 lo g x6 c.B c.T c.R ng t ∧ x6.W = filW ny x.W ∧ x6.E = x.E.filter (fun e => e.e.key != ny) ∧ (∀ k, x6.S g k ↔ x.S g k) := ⟨_, hend6.1, hx3W.out, by show x3.E.filter _ = _; rw [hx3E.out], fun k => (hx3S.out k)⟩
      replace hx6W := Lib.hid hx6W
      replace hx6E := Lib.hid hx6E
      replace hx6S := Lib.hid hx6S
      replace hg6 := Lib.hid hg6
      replace hend6 := Lib.hid hend6
      replace hb5 := Lib.hid hb5
      replace hb6 := Lib.hid hb6
      replace hc3 := Lib.hid hc3
      replace hc6 := Lib.hid hc6
      clear hm6 hgf
      refine wpR_region (Gr) 6 (by kernel_rfl) ?_
      (rw [← hwf]; replace hwf := Lib.hid hwf)
      refine wpR_takeU (i := 0) (v := ?_) (Gr.road) (some 50) rfl (by kernel_rfl) (by kernel_rfl) (by kernel_rfl) (by kernel_rfl) (fun _ _ _ h => h) (by kernel_rfl) (fun w' => ?_) ?_
      rotate_left
      · go_simp; with_reducible rfl
      simp only [Act.put, List.setIfInBounds_toArray, List.set_cons_zero, List.set_cons_succ]
      refine wpR_takeU (i := 1) (v := ?_) (Gr.road) (some 51) rfl (by kernel_rfl) (by kernel_rfl) (by kernel_rfl) (by kernel_rfl) (fun _ _ _ h => h) (by kernel_rfl) (fun w' => ?_) ?_
      rotate_left
      · go_simp; with_reducible rfl
      simp only [Act.put, List.setIfInBounds_toArray, List.set_cons_zero, List.set_cons_succ]
      refine wpR_takeU (i := 2) (v := ?_) (Gr.road) (some 52) rfl (by kernel_rfl) (by kernel_rfl) (by kernel_rfl) (by kernel_rfl) (fun _ _ _ h => h) (by kernel_rfl) (fun w' => ?_) ?_
      rotate_left
      · go_simp; with_reducible rfl
      simp only [Act.put, List.setIfInBounds_toArray, List.set_cons_zero, List.set_cons_succ]
      refine wpR_take (i := 3) (v := ?_) (Gr.road) (some 53) rfl (by kernel_rfl) (by kernel_rfl) (by kernel_rfl) (by kernel_rfl) (by kernel_rfl) (fun _ _ _ h => h) (by kernel_rfl) (fun w' hw' => ?_) ?_
      rotate_left
      · have q := blk_cell (j := 1) (blk_below hcf.out.blk hw') rfl; go_simp; with_reducible rfl
      simp only [Act.put, List.setIfInBounds_toArray, List.set_cons_zero, List.set_cons_succ]
      refine wpR_takeU (i := 4) (v := ?_) (Gr.road) (some 54) rfl (by kernel_rfl) (by kernel_rfl) (by kernel_rfl) (by kernel_rfl) (fun _ _ _ h => h) (by kernel_rfl) (fun w' => ?_) ?_
      rotate_left
      · go_simp; with_reducible rfl
      simp only [Act.put, List.setIfInBounds_toArray, List.set_cons_zero, List.set_cons_succ]
      refine wpR_take (i := 5) (v := ?_) (Gr.road) (some 55) rfl (by kernel_rfl) (by kernel_rfl) (by kernel_rfl) (by kernel_rfl) (by kernel_rfl) (fun _ _ _ h => h) (by kernel_rfl) (fun w' hw' => ?_) ?_
      rotate_left
      · have q := blk_cell (j := 1) (blk_below hbf.out hw') rfl; go_simp; with_reducible rfl
      simp only [Act.put, List.setIfInBounds_toArray, List.set_cons_zero, List.set_cons_succ]
      refine wpR_one 6 rfl (by kernel_rfl) (by kernel_rfl) (fun K hK => ?_)
      go_simp
      refine hK _ _ (fun h => absurd h (by decide)) ?_
      clear hK K
      try simp only [Act.put, List.setIfInBounds_toArray, List.set_cons_zero, List.set_cons_succ]
      refine wpR_done (by kernel_rfl) ?_ _
      clear hrun6 hend6 hc3 hcf hbf hfrf hb5
      go_upto_region 10 with (fail)
      obtain ⟨wh, hwh⟩ : ∃ wh, wh = w6.drew := ⟨_, rfl⟩
      have hgh : Gr w6 wh := by rw [hwh]; exact (Below.refl _ _).drew
      have hbh : Hid (wh.heap[N]? = some (.cells #[.int .i64 nk, .string (bs ny), .int .i64 ng, .int .i64 nc, .slice A ld ca, .string (bs nu), .int .i64 ns, .slice A2 lp c2] 32 (0, 0))) := Lib.hid (by rw [hwh]; exact hb6.out)
      have hch := Lib.hid (hc6.out.gr hgh)
      have hfrh := Lib.hid (hfr6.out.trans (Upd.of_below hgh))
      obtain ⟨w7, hrun7, hm7, hg7⟩ := hch.out.mb.drop lawS Try.underlying60 (keyS hk) 0
      rw [← bM_del] at hm7
      have hend7 := hch.out.setB (B' := delP c.B ny) (Nat.le_refl t) hg7 hm7
      have hb7 : w7.heap[N]? = some (.cells #[.int .i64 nk, .string (bs ny), .int .i64 ng, .int .i64 nc, .slice A ld ca, .string (bs nu), .int .i64 ns, .slice A2 lp c2] 32 (0, 0)) := (hend7.2.2.2.2.2 N (blk_lt hbh.out) (fun hs => hNS.out N ((hx6S.out N).1 hs) rfl)).trans hbh.out
      have hfr7 := Lib.hid (hfrh.out.trans (Upd.mono hend7.2 (fun k hk => (hx6S.out k).1 hk)))
      have hc7 := Lib.hid hend7.1
      replace hg7 := Lib.hid hg7
      replace hend7 := Lib.hid hend7
      replace hb7 := Lib.hid hb7
      clear hm7 hgh
      refine wpR_region (Gr) 6 (by kernel_rfl) ?_
      (rw [← hwh]; replace hwh := Lib.hid hwh)
      refine wpR_takeU (i := 0) (v := ?_) (Gr.road) (some 56) rfl (by kernel_rfl) (by kernel_rfl) (by kernel_rfl) (by kernel_rfl) (fun _ _ _ h => h) (by kernel_rfl) (fun w' => ?_) ?_
      rotate_left
      · go_simp; with_reducible rfl
      simp only [Act.put, List.setIfInBounds_toArray, List.set_cons_zero, List.set_cons_succ]
      refine wpR_takeU (i := 1) (v := ?_) (Gr.road) (some 57) rfl (by kernel_rfl) (by kernel_rfl) (by kernel_rfl) (by kernel_rfl) (fun _ _ _ h => h) (by kernel_rfl) (fun w' => ?_) ?_
      rotate_left
      · go_simp; with_reducible rfl
      simp only [Act.put, List.setIfInBounds_toArray, List.set_cons_zero, List.set_cons_succ]
      refine wpR_takeU (i := 2) (v := ?_) (Gr.road) (some 58) rfl (by kernel_rfl) (by kernel_rfl) (by kernel_rfl) (by kernel_rfl) (fun _ _ _ h => h) (by kernel_rfl) (fun w' => ?_) ?_
      rotate_left
      · go_simp; with_reducible rfl
      simp only [Act.put, List.setIfInBounds_toArray, List.set_cons_zero, List.set_cons_succ]
      refine wpR_take (i := 3) (v := ?_) (Gr.road) (some 59) rfl (by kernel_rfl) (by kernel_rfl) (by kernel_rfl) (by kernel_rfl) (by kernel_rfl) (fun _ _ _ h => h) (by kernel_rfl) (fun w' hw' => ?_) ?_
      rotate_left
      · have q := blk_cell (j := 2) (blk_below hch.out.blk hw') rfl; go_simp; with_reducible rfl
      simp only [Act.put, List.setIfInBounds_toArray, List.set_cons_zero, List.set_cons_succ]
      refine wpR_takeU (i := 4) (v := ?_) (Gr.road) (some 60) rfl (by kernel_rfl) (by kernel_rfl) (by kernel_rfl) (by kernel_rfl) (fun _ _ _ h => h) (by kernel_rfl) (fun w' => ?_) ?_
      rotate_left
      · go_simp; with_reducible rfl
      simp only [Act.put, List.setIfInBounds_toArray, List.set_cons_zero, List.set_cons_succ]
      refine wpR_take (i := 5) (v := ?_) (Gr.road) (some 61) rfl (by kernel_rfl) (by kernel_rfl) (by kernel_rfl) (by kernel_rfl) (by kernel_rfl) (fun _ _ _ h => h) (by kernel_rfl) (fun w' hw' => ?_) ?_
      rotate_left
      · have q := blk_cell (j := 1) (blk_below hbh.out hw') rfl; go_simp; with_reducible rfl
      simp only [Act.put, List.setIfInBounds_toArray, List.set_cons_zero, List.set_cons_succ]
      refine wpR_one 6 rfl (by kernel_rfl) (by kernel_rfl) (fun K hK => ?_)
      go_simp
      refine hK _ _ (fun h => absurd h (by decide)) ?_
      clear hK K
      try simp only [Act.put, List.setIfInBounds_toArray, List.set_cons_zero, List.set_cons_succ]
      refine wpR_done (by kernel_rfl) ?_ _
      clear hrun7 hend7 hch hbh hfrh hb6 hc6 hfr6
      obtain ⟨d0, hd0⟩ : ∃ d0, d0 = (hp || hq) := ⟨_, rfl⟩
      have hdT : Hid (d0 = true ↔ (hasP c.E ny = true ∨ hasP c.B ny = true)) := Lib.hid (by rw [hd0, hhp.out, hhq.out, Bool.or_eq_true])
      go_upto_region 11 with (fail)
      go_cut [65] (fun z wq => z = .bool d0 ∧ w7 = wq)
      case first =>
        cases hp with
        | true =>
          rw [Bool.true_or] at hd0
          subst hd0
          go_wp2_with fail
          go_meet
          exact ⟨by first | rfl | simp [*], rfl⟩
        | false =>
          rw [Bool.false_or] at hd0
          subst hd0
          go_wp2_with fail
          go_meet
          exact ⟨by first | rfl | simp [*], rfl⟩
      case rest =>
        obtain ⟨rfl, rfl⟩ := hcut
        replace hd0 := Lib.hid hd0
        have hwE : Hid (∀ (xx : CtX), xx.W = filW ny x.W → delP c.W ny = xx.W.map (fun e => (e.k, e.d))) := Lib.hid (fun xx e => by rw [e, h.out.wc]; exact (filW_wc _ _).symm)
        have hwE2 : Hid (∀ (xx : CtX), xx.E = x.E.filter (fun e => e.e.key != ny) → delP c.E ny = xx.E.map (fun e => (e.e.key, e.e))) := Lib.hid (fun xx e => by rw [e, h.out.ec]; exact (filE_ec _ _).symm)
        cases d0 with
        | false =>
          go_wp2_with fail
          go_ret
          rw [hrc5.out]
          have hnT : ¬(hasP c.E ny = true ∨ hasP c.B ny = true) := fun hc => by have := hdT.out.2 hc; cases this
          refine ⟨rfl, x6, ?_, hwE.out _ hx6W.out, hwE2.out _ hx6E.out, hfr7.out, fun k hk => .inl ((hx6S.out k).1 hk)⟩
          show Cr _ lo g x6 (delP c.B ny) (if _ then _ else _) c.R ng (t + 1)
          rw [if_neg hnT]
          exact hc7.out.more (Nat.le_succ _)
        | true =>
          go_upto_region 12 with (fail)
          obtain ⟨Av, cp, hvs⟩ := hc7.out.formT
          obtain ⟨wi, hwi⟩ : ∃ wi, wi = w7.drew := ⟨_, rfl⟩
          have hgi : Gr w7 wi := by rw [hwi]; exact (Below.refl _ _).drew
          have hbi : Hid (wi.heap[N]? = some (.cells #[.int .i64 nk, .string (bs ny), .int .i64 ng, .int .i64 nc, .slice A ld ca, .string (bs nu), .int .i64 ns, .slice A2 lp c2] 32 (0, 0))) := Lib.hid (by rw [hwi]; exact hb7.out)
          have hci := Lib.hid (hc7.out.gr hgi)
          have hfri := Lib.hid (hfr7.out.trans (Upd.of_below hgi))
          have hbk := hci.out.blk
          have hwl : c.T.length ≤ 1000 := by have h1 := h.out.few.2.2.2.1; omega
          rw [hvs] at hbk
          replace hbk := Lib.hid hbk
          have hlow : Hid (lo ≤ wi.heap.size) := Lib.hid (Nat.le_trans hlo hfri.out.2.2.2.1)
          have hsz : Hid (w.heap.size ≤ wi.heap.size) := Lib.hid hfri.out.2.2.2.1
          replace hvs := Lib.hid hvs
          replace hwl := Lib.hid hwl
          generalize c.T.length = nT at hbk hvs
          clear hgi
          refine wpR_region (TChg lo [85]) 14 (by kernel_rfl) ?_
          (rw [← hwi]; replace hwi := Lib.hid hwi)
          refine wpR_take (i := 0) (v := ?_) (TChg.road _ _) (some 66) rfl (by kernel_rfl) (by kernel_rfl) (by kernel_rfl) (by kernel_rfl) (by kernel_rfl) (fun _ _ _ h => h) (by kernel_rfl) (fun w' hw' => ?_) ?_
          rotate_left
          · go_simp; with_reducible rfl
          simp only [Act.put, List.setIfInBounds_toArray, List.set_cons_zero, List.set_cons_succ]
          refine wpR_take (i := 1) (v := ?_) (TChg.road _ _) (some 67) rfl (by kernel_rfl) (by kernel_rfl) (by kernel_rfl) (by kernel_rfl) (by kernel_rfl) (fun _ _ _ h => h) (by kernel_rfl) (fun w' hw' => ?_) ?_
          rotate_left
          · go_simp; with_reducible rfl
          simp only [Act.put, List.setIfInBounds_toArray, List.set_cons_zero, List.set_cons_succ]
          refine wpR_take (i := 2) (v := ?_) (TChg.road _ _) (some 68) rfl (by kernel_rfl) (by kernel_rfl) (by kernel_rfl) (by kernel_rfl) (by kernel_rfl) (fun _ _ _ h => h) (by kernel_rfl) (fun w' hw' => ?_) ?_
          rotate_left
          · go_simp; with_reducible rfl
          simp only [Act.put, List.setIfInBounds_toArray, List.set_cons_zero, List.set_cons_succ]
          refine wpR_take (i := 3) (v := ?_) (TChg.road _ _) (some 69) rfl (by kernel_rfl) (by kernel_rfl) (by kernel_rfl) (by kernel_rfl) (by kernel_rfl) (fun _ _ _ h => h) (by kernel_rfl) (fun w' hw' => ?_) ?_
          rotate_left
          · go_simp; with_reducible rfl
          simp only [Act.put, List.setIfInBounds_toArray, List.set_cons_zero, List.set_cons_succ]
          refine wpR_take (i := 4) (v := ?_) (TChg.road _ _) (some 70) rfl (by kernel_rfl) (by kernel_rfl) (by kernel_rfl) (by kernel_rfl) (by kernel_rfl) (fun _ _ _ h => h) (by kernel_rfl) (fun w' hw' => ?_) ?_
          rotate_left
          · have q := blk_cell (j := 3) (hw'.block hbk.out (by decide)) rfl; go_simp; with_reducible rfl
          simp only [Act.put, List.setIfInBounds_toArray, List.set_cons_zero, List.set_cons_succ]
          refine wpR_take (i := 5) (v := ?_) (TChg.road _ _) (some 71) rfl (by kernel_rfl) (by kernel_rfl) (by kernel_rfl) (by kernel_rfl) (by kernel_rfl) (fun _ _ _ h => h) (by kernel_rfl) (fun w' hw' => ?_) ?_
          rotate_left
          · go_simp; with_reducible rfl
          simp only [Act.put, List.setIfInBounds_toArray, List.set_cons_zero, List.set_cons_succ]
          refine wpR_take (i := 6) (v := ?_) (TChg.road _ _) (some 72) rfl (by kernel_rfl) (by kernel_rfl) (by kernel_rfl) (by kernel_rfl) (by kernel_rfl) (fun _ _ _ h => h) (by kernel_rfl) (fun w' hw' => ?_) ?_
          rotate_left
          · have q := blk_cell (j := 1) (hw'.block hbi.out (by decide)) rfl; go_simp; with_reducible rfl
          simp only [Act.put, List.setIfInBounds_toArray, List.set_cons_zero, List.set_cons_succ]
          refine wpR_take (i := 7) (v := ?_) (TChg.road _ _) (some 73) rfl (by kernel_rfl) (by kernel_rfl) (by kernel_rfl) (by kernel_rfl) (by kernel_rfl) (fun _ _ _ h => h) (by kernel_rfl) (fun w' hw' => ?_) ?_
          rotate_left
          · go_simp; with_reducible rfl
          simp only [Act.put, List.setIfInBounds_toArray, List.set_cons_zero, List.set_cons_succ]
          refine wpR_take (i := 8) (v := ?_) (TChg.road _ _) (some 74) rfl (by kernel_rfl) (by kernel_rfl) (by kernel_rfl) (by kernel_rfl) (by kernel_rfl) (fun _ _ _ h => h) (by kernel_rfl) (fun w' hw' => ?_) ?_
          rotate_left
          · have q := blk_cell (j := 2) (hw'.block hbi.out (by decide)) rfl; go_simp; with_reducible rfl
          simp only [Act.put, List.setIfInBounds_toArray, List.set_cons_zero, List.set_cons_succ]
          refine wpR_take (i := 9) (v := ?_) (TChg.road _ _) (some 75) rfl (by kernel_rfl) (by kernel_rfl) (by kernel_rfl) (by kernel_rfl) (by kernel_rfl) (fun _ _ _ h => h) (by kernel_rfl) (fun w' hw' => ?_) ?_
          rotate_left
          · go_simp; with_reducible rfl
          simp only [Act.put, List.setIfInBounds_toArray, List.set_cons_zero, List.set_cons_succ]
          refine wpR_one 10 rfl (by kernel_rfl) (by kernel_rfl) (fun K hK => ?_)
          go_simp
          refine hK _ _ (fun _ => TChg.of_alloc _ _) ?_
          clear hK K
          try simp only [Act.put, List.setIfInBounds_toArray, List.set_cons_zero, List.set_cons_succ]
          refine wpR_one 11 rfl (by kernel_rfl) (by kernel_rfl) (fun K hK => ?_)
          refine wp_appT (.tmp 70) (.tmp 76) rfl lo (.slice Av nT cp) c.T rfl (by have := row_below hci.out.ts (Gr.alloc wi (.cells #[.string (bs ny), .int .i64 ng] 85)); rw [hvs.out] at this; exact this) (wi.heap.size + 1) (some ⟨wi.heap.size, 0, none⟩) 1 (ny, ng) rfl (lit_tomb wi ny ng) (by have := hwl.out; omega) (Nat.le_trans hlow.out (by simp)) ?_
          intro v8 w8 hr8 hg8 ho8
          refine hK _ _ (fun _ => TChg.of_row (lo := lo) (by have := row_below hci.out.ts (Gr.alloc wi (.cells #[.string (bs ny), .int .i64 ng] 85)); rw [hvs.out] at this; exact this) hg8 (by simp)) ?_
          clear hK K
          rw [← hvs.out] at hg8 ho8
          have hend := Lib.hid (tomb_end hci.out hr8 hg8 ho8)
          have hb8 : w8.heap[g]? = _ := blk_grow (blk_alloc hci.out.blk (.cells #[.string (bs ny), .int .i64 ng] 85)) hg8 (row_ne (row_below hci.out.ts (Gr.alloc wi (.cells #[.string (bs ny), .int .i64 ng] 85))) (blk_alloc hci.out.blk _) (by decide))
          have k0 := blk_cell (j := 3) hb8 rfl
          have f0 := blk_free hb8 3
          obtain ⟨A8, c8, rfl, -, -⟩ := row_form hr8
          generalize hm8 : (c.T ++ [(ny, ng)]).length = m8 at *
          replace hm8 := Lib.hid hm8
          clear hb8 hg8 hr8 ho8
          try simp only [Act.put, List.setIfInBounds_toArray, List.set_cons_zero, List.set_cons_succ]
          refine wpR_takeU (i := 12) (v := ?_) (TChg.road _ _) (some 78) rfl (by kernel_rfl) (by kernel_rfl) (by kernel_rfl) (by kernel_rfl) (fun _ _ _ h => h) (by kernel_rfl) (fun w' => ?_) ?_
          rotate_left
          · go_simp; with_reducible rfl
          simp only [Act.put, List.setIfInBounds_toArray, List.set_cons_zero, List.set_cons_succ]
          refine wpR_take (i := 13) (v := ?_) (TChg.road _ _) (some 79) rfl (by kernel_rfl) (by kernel_rfl) (by kernel_rfl) (by kernel_rfl) (by kernel_rfl) (fun _ _ _ h => h) (by kernel_rfl) (fun w' hw' => ?_) ?_
          rotate_left
          · go_simp; with_reducible rfl
          simp only [Act.put, List.setIfInBounds_toArray, List.set_cons_zero, List.set_cons_succ]
          refine wpR_one 14 rfl (by kernel_rfl) (by kernel_rfl) (fun K hK => ?_)
          go_simp
          refine hK _ _ (fun h => absurd h (by decide)) ?_
          clear hK K
          try simp only [Act.put, List.setIfInBounds_toArray, List.set_cons_zero, List.set_cons_succ]
          refine wpR_done (by kernel_rfl) ?_ _
          go_wp2_with fail
          go_ret
          rw [hrc5.out]
          obtain ⟨h1, h2, h3⟩ := hend.out
          refine ⟨rfl, { x6 with vt := .slice A8 m8 c8 }, ?_, hwE.out { x6 with vt := .slice A8 m8 c8 } hx6W.out, hwE2.out { x6 with vt := .slice A8 m8 c8 } hx6E.out, hfri.out.trans (Upd.mono h2 (fun k hk => (hx6S.out k).1 hk)), fun k hk => (h3 k hk).imp (fun h => (hx6S.out k).1 h) (fun h => Nat.le_trans hsz.out h)⟩
          show Cr _ lo g _ (delP c.B ny) (if _ then _ else _) c.R ng (t + 1)
          rw [if_pos (hdT.out.1 (by first | rfl | trivial))]
          exact h1.more (Nat.le_succ _)
end Go.Proofs.Ythboeoidgglcgaa
