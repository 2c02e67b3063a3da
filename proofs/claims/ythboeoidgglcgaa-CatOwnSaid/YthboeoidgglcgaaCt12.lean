/- cat: Put. -/
import Derived.Test.YthboeoidgglcgaaCt11
namespace Go.Proofs.Ythboeoidgglcgaa
set_option linter.unusedVariables false
set_option linter.unusedSimpArgs false
open Go Go.RowKit Go.Maps
/-- what an act on a catalog leaves -/
def ActPost (lo g t : Nat) (x : CtX) (w : World) (rc : Int × CtP) (e : Ending) (w' : World) : Prop :=
  e = .returned (.int .i64 rc.1) ∧ ∃ x', Cr w' lo g x' rc.2.B rc.2.T rc.2.R rc.2.G (t + 1) ∧ rc.2.W = x'.W.map (fun e => (e.k, e.d)) ∧ rc.2.E = x'.E.map (fun e => (e.e.key, e.e)) ∧ Upd (x.S g) w w' ∧ ∀ k, x'.S g k → x.S g k ∨ w.heap.size ≤ k
theorem ActPost.same {lo g t : Nat} {x : CtX} {c : CtP} {w w' : World} (h : Ca w lo g x c t) (hg : Gr w w') (r : Int) : ActPost lo g t x w (r, c) (.returned (.int .i64 r)) w' :=
  ⟨rfl, x, ((h.gr hg).cr).more (Nat.le_succ _), h.wc, h.ec, Upd.of_below hg, fun k hk => .inl hk⟩
theorem lit_blob (w : World) (k : By) (A : Option Addr) (n c : Nat) : Reads (w.alloc (.cells #[.string (bs k), .slice A n c] 67)) (w.heap.size + 1) 2 (some ⟨w.heap.size, 0, none⟩) 1 [.string (bs k), .slice A n c] := by
  have hh := World.news_of_block (heap_alloc_new w (.cells #[.string (bs k), .slice A n c] 67))
  exact ⟨rfl, fun _ => ⟨_, rfl, Nat.lt_succ_self _, fun j u hu => hh j u hu⟩⟩
theorem wp_appW {w : World} {o : Oper} {a : Act} {Q : Exit → Act → World → Prop} {K : Act → World → Prop} (s x : Operand)
    (ho : o.op = .call { callee := .builtin .append, args := #[s, x], argTypes := #[62, 62] })
    (base : Nat) (v : Value) (l : List Wt) (hs : a.eval s = v) (hown : WRow w base v l)
    (B : Nat) (A : Option Addr) (c : Nat) (q : Wt) (hx : a.eval x = .slice A 1 c) (hr : Reads w B 2 A 1 (flatW [q]))
    (hlen : l.length ≤ 100000) (hbase : base ≤ w.heap.size)
    (h : ∀ v' w', WRow w' base v' (l ++ [q]) → w.grownBy w' v.ownBlock → (v'.ownBlock = v.ownBlock ∨ v'.ownBlock = some w.heap.size) → K (a.put o.dst v') w') : Oper.wp Try.prog o a w K Q := by
  obtain ⟨i0, hi, hz0, hz1, hz2⟩ := info_parts info_blob
  refine wp_append_any w s x 62 ho base 67 i0 _ 2 40 Try.underlying62 hi hz0 hz1 hz2 rfl (by omega) v l.length (flatW l) hs hown B A 1 c (flatW [q]) hx hr (flatW_one [q])
    (by simp only [maxLen]; omega) (by omega) hbase fun v' w' h2 h3 h4 => h v' w' ?_ h3 h4
  unfold WRow
  rw [List.length_append, flatW_app]
  exact h2
theorem put_end {w w5 w8 : World} {lo g t : Nat} {x : CtX} {c : CtP} {q : Wt} {v8 : Value} {n : Nt} {o : Obj}
    (h : Ca w lo g x c t) (hg : Gr w w5) (hq : OB w5 lo q.v q.d) (hr8 : WRow w8 lo v8 (x.W ++ [q])) (hg8 : (w5.alloc o).grownBy w8 x.vs.ownBlock) (ho8 : v8.ownBlock = x.vs.ownBlock ∨ v8.ownBlock = some (w5.alloc o).heap.size) (hn : c.put n = (0, { c with W := c.W ++ [(q.k, q.d)] })) :
    ActPost lo g t x w (0, { c with W := c.W ++ [(q.k, q.d)] }) (.returned (.int .i64 0)) (w8.setCell ⟨g, 0, none⟩ v8) := by
  have h5 := (h.gr hg).cr
  have hu : Upd (fun k => x.vs.ownBlock = some k) w5 w8 := (Upd.of_below (Gr.alloc w5 o)).trans (Upd.of_own hg8)
  have hqk : OB w8 lo q.v q.d := row_keep hq (fun k e' => hu.2.2.2.2 k (hq.lt k e').2 (fun e2 => row_ne2 hq h5.ws (by decide) k e2 e'))
  obtain ⟨h9, hu9⟩ := h5.setW hu hr8 (fun e he => by
    rcases List.mem_append.mp he with he | he
    · exact h5.data_kept hu e he
    · rw [List.mem_singleton.mp he]; exact hqk)
  refine ⟨rfl, _, h9.more (Nat.le_succ _), ?_, h.ec, (Upd.of_below hg).trans hu9, fun k hk => ?_⟩
  · show c.W ++ _ = _
    rw [h.wc, List.map_append]; rfl
  · rcases hk with hk | hk | hk | hk | hk | hk
    · exact .inl (.inl hk)
    · exact .inl (.inr (.inl hk))
    · exact .inl (.inr (.inr (.inl hk)))
    · exact .inl (.inr (.inr (.inr (.inl hk))))
    · have hk : v8.ownBlock = some k := hk
      rcases ho8 with e | e
      · exact .inl (.inr (.inr (.inr (.inr (.inl (by rw [← e]; exact hk))))))
      · rw [hk] at e
        injection e with e
        right
        have := Below.size hg
        rw [e]; simp; omega
    · exact .inl (.inr (.inr (.inr (.inr (.inr hk)))))
section
variable (lo g t : Nat) (x : CtX) (c : CtP) (w : World) (h : Hid (Ca w lo g x c t))
include h
set_option maxRecDepth 10000 in
set_option maxHeartbeats 2000000 in
theorem put_any (ht : t ≤ 900) (hlo : lo ≤ w.heap.size) (n : Nt) (v : Value) (hk : n.key.length ≤ maxLen) (hv : NtV n v w) : Calls Try.prog 32 #[.pointer (some ⟨g, 0, none⟩), v] w (ActPost lo g t x w (c.put n)) := by
  obtain ⟨A, ca, A2, c2, rfl, hdt, -⟩ := hv
  obtain ⟨N, hN⟩ : ∃ N, w.heap.size = N := ⟨_, rfl⟩
  obtain ⟨rc, hrc⟩ : ∃ rc, c.put n = rc := ⟨_, rfl⟩
  rw [hrc]
  unfold CtP.put at hrc
  obtain ⟨nk, ny, ng, nc, nd, nu, ns, np⟩ := n
  unfold Nt.agg
  simp only at hk hrc hdt ⊢
  obtain ⟨ld, hld⟩ : ∃ ld, nd.length = ld := ⟨_, rfl⟩
  rw [hld] at hdt ⊢
  generalize np.length = lp
  obtain ⟨W, hW⟩ : ∃ W, w.alloc (.cells #[.int .i64 nk, .string (bs ny), .int .i64 ng, .int .i64 nc, .slice A ld ca, .string (bs nu), .int .i64 ns, .slice A2 lp c2] 32) = W := ⟨_, rfl⟩
  have hgW : Gr w W := by rw [← hW]; exact Gr.alloc _ _
  have hbW : W.heap[N]? = some (.cells #[.int .i64 nk, .string (bs ny), .int .i64 ng, .int .i64 nc, .slice A ld ca, .string (bs nu), .int .i64 ns, .slice A2 lp c2] 32 (0, 0)) := by rw [← hW, ← hN]; exact heap_alloc_new w _
  have y1 := blk_cell (j := 1) hbW rfl
  have y4 := blk_cell (j := 4) hbW rfl
  have hkc := Lib.hid (fitKey_any ny hk W)
  have hhc := Lib.hid (has_any lo g t x c W (Lib.hid (h.out.gr hgW)) (by omega) ny hk)
  have hsame := Lib.hid (fun r (w' : World) (hg : Gr w w') => ActPost.same h.out hg r)
  cases hko : keyOk ny with
  | false =>
    obtain rfl : rc = (12, c) := by rw [← hrc, if_pos (.inl hko)]
    rw [hko] at hkc
    replace hgW := Lib.hid hgW
    replace hbW := Lib.hid hbW
    replace hko := Lib.hid hko
    replace hld := Lib.hid hld
    replace hdt := Lib.hid hdt
    clear hrc h hhc
    go_enter Try.func32, Try.ntmps32
    go_wp2_with (go_at_call 51; go_must (refine hkc.out.mono ?_); rintro e w' ⟨rfl, hee⟩; rw [hee]; clear hee)
    go_ret
    exact hsame.out 12 _ hgW.out
  | true =>
    rw [hko] at hkc
    by_cases h5 : 512 < ld
    · obtain rfl : rc = (12, c) := by rw [← hrc, if_pos (.inr (by omega))]
      have i5 : (512 : Int) < (ld : Int) := by omega
      replace hgW := Lib.hid hgW
      replace hbW := Lib.hid hbW
      replace hko := Lib.hid hko
      replace hld := Lib.hid hld
      replace hdt := Lib.hid hdt
      clear hrc h hhc
      go_enter Try.func32, Try.ntmps32
      go_wp2_with (go_at_call 51; go_must (refine hkc.out.mono ?_); rintro e w' ⟨rfl, hee⟩; rw [hee]; clear hee)
      go_ret
      exact hsame.out 12 _ hgW.out
    · have i5 : decide ((512 : Int) < (ld : Int)) = false := decide_eq_false (by omega)
      have hrc1 : (if c.has ny = true then ((4 : Int), c) else (0, { c with W := c.W ++ [(ny, nd)] })) = rc := by
        have h0 := hrc
        rw [if_neg (fun hc => hc.elim (fun e => by rw [hko] at e; exact absurd e (by decide)) (fun e => h5 (by omega)))] at h0
        exact h0
      cases hha : c.has ny with
      | true =>
        obtain rfl : rc = (4, c) := by rw [← hrc1, if_pos hha]
        rw [hha] at hhc
        replace hgW := Lib.hid hgW
        replace hbW := Lib.hid hbW
        replace hko := Lib.hid hko
        replace hha := Lib.hid hha
        replace hld := Lib.hid hld
        replace hdt := Lib.hid hdt
        replace hrc := Lib.hid hrc
        clear hrc1 h h5
        go_enter Try.func32, Try.ntmps32
        go_wp2_with (first
          | (go_at_call 51; go_must (refine hkc.out.mono ?_); rintro e w' ⟨rfl, hee⟩; rw [hee]; clear hee)
          | (go_at_call 22; go_must (refine hhc.out.mono ?_); clear hhc; rintro e w2 ⟨rfl, hg2⟩))
        go_ret
        exact hsame.out 4 _ (hgW.out.trans hg2)
      | false =>
        have hrc2 : rc = (0, { c with W := c.W ++ [(ny, nd)] }) := by rw [← hrc1, if_neg (by rw [hha]; simp)]
        have hput : c.put ⟨nk, ny, ng, nc, nd, nu, ns, np⟩ = (0, { c with W := c.W ++ [(ny, nd)] }) := by unfold CtP.put; rw [hrc, hrc2]
        subst hrc2
        rw [hha] at hhc
        have hld5 : ld ≤ 512 := by omega
        replace hgW := Lib.hid hgW
        replace hbW := Lib.hid hbW
        replace hko := Lib.hid hko
        replace hha := Lib.hid hha
        replace hld := Lib.hid hld
        replace hdt := Lib.hid hdt
        replace hrc := Lib.hid hrc
        replace hput := Lib.hid hput
        clear hrc1 h5 hsame
        go_enter Try.func32, Try.ntmps32
        go_upto_region 5 with (first
          | (go_at_call 51; go_must (refine hkc.out.mono ?_); rintro e w' ⟨rfl, hee⟩; rw [hee]; clear hee)
          | (go_at_call 22; go_must (refine hhc.out.mono ?_); clear hhc; rintro e w2 ⟨rfl, hg2⟩))
        replace hW := Lib.hid hW
        replace hN := Lib.hid hN
        obtain ⟨Av, cp, hvs⟩ := h.out.cr.form
        obtain ⟨wd, hwd⟩ : ∃ wd, wd = w2.drew := ⟨_, rfl⟩
        have hgd : Hid (Gr w wd) := Lib.hid (by rw [hwd]; exact (hgW.out.trans hg2).trans ((Below.refl _ _).drew))
        have hbd : Hid (wd.heap[N]? = some (.cells #[.int .i64 nk, .string (bs ny), .int .i64 ng, .int .i64 nc, .slice A ld ca, .string (bs nu), .int .i64 ns, .slice A2 lp c2] 32 (0, 0))) := Lib.hid (by rw [hwd]; exact blk_below hbW.out (Gr.trans hg2 ((Below.refl _ _).drew)))
        have hcd := Lib.hid (h.out.gr hgd.out)
        have hbk := hcd.out.blk
        have hwl : x.W.length ≤ 1000 := by have h1 := h.out.few.1; rw [h.out.wc, List.length_map] at h1; omega
        rw [hvs] at hbk
        replace hbk := Lib.hid hbk
        have hrd : Rd wd wd.heap.size A nd := by
          obtain ⟨A', c', e, -, -, hr⟩ := (Byt.gr hgd.out hdt).out
          injection e with e1
          rw [e1]; exact hr
        have hcl := Lib.hid (clone_any A ld ca nd hld.out (by omega) wd hrd)
        have hlow : Hid (∀ y, Gr wd y → lo ≤ y.heap.size) := Lib.hid (fun y hy => Nat.le_trans hlo (Nat.le_trans (Below.size hgd.out) (Below.size hy)))
        replace hrd := Lib.hid hrd
        replace hvs := Lib.hid hvs
        replace hwl := Lib.hid hwl
        generalize x.W.length = nW at hbk hvs
        clear hg2 hlo
        refine wpR_region (TChg lo [67]) 15 (by kernel_rfl) ?_
        (rw [← hwd]; replace hwd := Lib.hid hwd)
        refine wpR_take (i := 0) (v := ?_) (TChg.road _ _) (some 21) rfl (by kernel_rfl) (by kernel_rfl) (by kernel_rfl) (by kernel_rfl) (by kernel_rfl) (fun _ _ _ h => h) (by kernel_rfl) (fun w' hw' => ?_) ?_
        rotate_left
        · go_simp; with_reducible rfl
        simp only [Act.put, List.setIfInBounds_toArray, List.set_cons_zero, List.set_cons_succ]
        refine wpR_take (i := 1) (v := ?_) (TChg.road _ _) (some 22) rfl (by kernel_rfl) (by kernel_rfl) (by kernel_rfl) (by kernel_rfl) (by kernel_rfl) (fun _ _ _ h => h) (by kernel_rfl) (fun w' hw' => ?_) ?_
        rotate_left
        · go_simp; with_reducible rfl
        simp only [Act.put, List.setIfInBounds_toArray, List.set_cons_zero, List.set_cons_succ]
        refine wpR_take (i := 2) (v := ?_) (TChg.road _ _) (some 23) rfl (by kernel_rfl) (by kernel_rfl) (by kernel_rfl) (by kernel_rfl) (by kernel_rfl) (fun _ _ _ h => h) (by kernel_rfl) (fun w' hw' => ?_) ?_
        rotate_left
        · go_simp; with_reducible rfl
        simp only [Act.put, List.setIfInBounds_toArray, List.set_cons_zero, List.set_cons_succ]
        refine wpR_take (i := 3) (v := ?_) (TChg.road _ _) (some 24) rfl (by kernel_rfl) (by kernel_rfl) (by kernel_rfl) (by kernel_rfl) (by kernel_rfl) (fun _ _ _ h => h) (by kernel_rfl) (fun w' hw' => ?_) ?_
        rotate_left
        · go_simp; with_reducible rfl
        simp only [Act.put, List.setIfInBounds_toArray, List.set_cons_zero, List.set_cons_succ]
        refine wpR_take (i := 4) (v := ?_) (TChg.road _ _) (some 25) rfl (by kernel_rfl) (by kernel_rfl) (by kernel_rfl) (by kernel_rfl) (by kernel_rfl) (fun _ _ _ h => h) (by kernel_rfl) (fun w' hw' => ?_) ?_
        rotate_left
        · have q := blk_cell (j := 0) (hw'.block hbk.out (by decide)) rfl; go_simp; with_reducible rfl
        simp only [Act.put, List.setIfInBounds_toArray, List.set_cons_zero, List.set_cons_succ]
        refine wpR_take (i := 5) (v := ?_) (TChg.road _ _) (some 26) rfl (by kernel_rfl) (by kernel_rfl) (by kernel_rfl) (by kernel_rfl) (by kernel_rfl) (fun _ _ _ h => h) (by kernel_rfl) (fun w' hw' => ?_) ?_
        rotate_left
        · go_simp; with_reducible rfl
        simp only [Act.put, List.setIfInBounds_toArray, List.set_cons_zero, List.set_cons_succ]
        refine wpR_take (i := 6) (v := ?_) (TChg.road _ _) (some 27) rfl (by kernel_rfl) (by kernel_rfl) (by kernel_rfl) (by kernel_rfl) (by kernel_rfl) (fun _ _ _ h => h) (by kernel_rfl) (fun w' hw' => ?_) ?_
        rotate_left
        · have q := blk_cell (j := 1) (hw'.block hbd.out (by decide)) rfl; go_simp; with_reducible rfl
        simp only [Act.put, List.setIfInBounds_toArray, List.set_cons_zero, List.set_cons_succ]
        refine wpR_take (i := 7) (v := ?_) (TChg.road _ _) (some 28) rfl (by kernel_rfl) (by kernel_rfl) (by kernel_rfl) (by kernel_rfl) (by kernel_rfl) (fun _ _ _ h => h) (by kernel_rfl) (fun w' hw' => ?_) ?_
        rotate_left
        · go_simp; with_reducible rfl
        simp only [Act.put, List.setIfInBounds_toArray, List.set_cons_zero, List.set_cons_succ]
        refine wpR_take (i := 8) (v := ?_) (TChg.road _ _) (some 29) rfl (by kernel_rfl) (by kernel_rfl) (by kernel_rfl) (by kernel_rfl) (by kernel_rfl) (fun _ _ _ h => h) (by kernel_rfl) (fun w' hw' => ?_) ?_
        rotate_left
        · have q := blk_cell (j := 4) (hw'.block hbd.out (by decide)) rfl; go_simp; with_reducible rfl
        simp only [Act.put, List.setIfInBounds_toArray, List.set_cons_zero, List.set_cons_succ]
        refine wpR_one 9 rfl (by kernel_rfl) (by kernel_rfl) (fun K hK => ?_)
        go_simp
        refine hcl.out.mono ?_
        rintro e w5 ⟨v5, rfl, ho5, hb5⟩
        refine hK _ _ (fun _ => TChg.of_below hb5) ?_
        clear hK K
        clear hcl
        obtain ⟨A5, c5, rfl, -⟩ := ho5.form
        rw [hld.out] at ho5 ⊢
        have hq5 : Hid (OB w5 lo (Wt.mk ny nd A5 c5).v nd) := Lib.hid (by unfold Wt.v; simp only; rw [hld.out]; exact row_more ho5 (hlow.out _ (Gr.refl _)))
        have hfl : Hid (flatW [Wt.mk ny nd A5 c5] = [.string (bs ny), .slice A5 ld c5]) := Lib.hid (by simp [flatW, Wt.cells, Wt.v, hld.out])
        have h5 := Lib.hid (hcd.out.gr hb5)
        have hg5 := Lib.hid (hgd.out.trans hb5)
        have hs5 := Lib.hid (hlow.out _ hb5)
        replace hb5 := Lib.hid hb5
        clear ho5
        try simp only [Act.put, List.setIfInBounds_toArray, List.set_cons_zero, List.set_cons_succ]
        refine wpR_take (i := 10) (v := ?_) (TChg.road _ _) (some 31) rfl (by kernel_rfl) (by kernel_rfl) (by kernel_rfl) (by kernel_rfl) (by kernel_rfl) (fun _ _ _ h => h) (by kernel_rfl) (fun w' hw' => ?_) ?_
        rotate_left
        · go_simp; with_reducible rfl
        simp only [Act.put, List.setIfInBounds_toArray, List.set_cons_zero, List.set_cons_succ]
        refine wpR_one 11 rfl (by kernel_rfl) (by kernel_rfl) (fun K hK => ?_)
        go_simp
        refine hK _ _ (fun _ => TChg.of_alloc _ _) ?_
        clear hK K
        try simp only [Act.put, List.setIfInBounds_toArray, List.set_cons_zero, List.set_cons_succ]
        refine wpR_one 12 rfl (by kernel_rfl) (by kernel_rfl) (fun K hK => ?_)
        refine wp_appW (.tmp 25) (.tmp 32) rfl lo (.slice Av nW cp) x.W rfl (by have := row_below h5.out.ws (Gr.alloc w5 (.cells #[.string (bs ny), .slice A5 ld c5] 67)); rw [hvs.out] at this; exact this) (w5.heap.size + 1) (some ⟨w5.heap.size, 0, none⟩) 1 (Wt.mk ny nd A5 c5) rfl (by rw [hfl.out]; exact lit_blob w5 ny A5 ld c5) (by have := hwl.out; omega) (Nat.le_trans hs5.out (by simp)) ?_
        intro v8 w8 hr8 hg8 ho8
        refine hK _ _ (fun _ => TChg.of_row (lo := lo) (by have := row_below h5.out.ws (Gr.alloc w5 (.cells #[.string (bs ny), .slice A5 ld c5] 67)); rw [hvs.out] at this; exact this) hg8 (by simp)) ?_
        clear hK K
        rw [← hvs.out] at hg8 ho8
        have hend := Lib.hid (put_end h.out hg5.out hq5.out hr8 hg8 ho8 hput.out)
        have hb8 : w8.heap[g]? = _ := blk_grow (blk_alloc h5.out.blk (.cells #[.string (bs ny), .slice A5 ld c5] 67)) hg8 (row_ne (row_below h5.out.ws (Gr.alloc w5 (.cells #[.string (bs ny), .slice A5 ld c5] 67))) (blk_alloc h5.out.blk _) (by decide))
        have k0 := blk_cell (j := 0) hb8 rfl
        have f0 := blk_free hb8 0
        obtain ⟨A8, c8, rfl, -, -⟩ := row_form hr8
        generalize hm8 : (x.W ++ [Wt.mk ny nd A5 c5]).length = m8 at *
        replace hm8 := Lib.hid hm8
        clear hb8 hg8 hr8 ho8
        try simp only [Act.put, List.setIfInBounds_toArray, List.set_cons_zero, List.set_cons_succ]
        refine wpR_takeU (i := 13) (v := ?_) (TChg.road _ _) (some 34) rfl (by kernel_rfl) (by kernel_rfl) (by kernel_rfl) (by kernel_rfl) (fun _ _ _ h => h) (by kernel_rfl) (fun w' => ?_) ?_
        rotate_left
        · go_simp; with_reducible rfl
        simp only [Act.put, List.setIfInBounds_toArray, List.set_cons_zero, List.set_cons_succ]
        refine wpR_take (i := 14) (v := ?_) (TChg.road _ _) (some 35) rfl (by kernel_rfl) (by kernel_rfl) (by kernel_rfl) (by kernel_rfl) (by kernel_rfl) (fun _ _ _ h => h) (by kernel_rfl) (fun w' hw' => ?_) ?_
        rotate_left
        · go_simp; with_reducible rfl
        simp only [Act.put, List.setIfInBounds_toArray, List.set_cons_zero, List.set_cons_succ]
        refine wpR_one 15 rfl (by kernel_rfl) (by kernel_rfl) (fun K hK => ?_)
        go_simp
        refine hK _ _ (fun h => absurd h (by decide)) ?_
        clear hK K
        try simp only [Act.put, List.setIfInBounds_toArray, List.set_cons_zero, List.set_cons_succ]
        refine wpR_done (by kernel_rfl) ?_ _
        go_wp2_with fail
        go_ret
        have hcr := hend.out
        exact hcr
end
end Go.Proofs.Ythboeoidgglcgaa
