/- cat: the reference's Notes. -/
import Derived.Test.YthboeoidgglcgaaGreatCp15
namespace Go.Proofs.YthboeoidgglcgaaGreat
set_option linter.unusedVariables false
set_option linter.unusedSimpArgs false
set_option linter.unusedSectionVars false
open Go Go.RowKit Go.Maps Go.Sort Go.Shelf Go.Proofs
/-- v is a list of notes L of the call's own, made since w -/
def NSt (w : World) (L : List Nt) (v : Value) (wr : World) : Prop := ∃ E A m c1, v = .slice A m c1 ∧ E.length = m ∧ E.map (·.n) = L ∧ ON E (.slice A m c1) w.heap.size wr ∧ Gr w wr
theorem NSt.gr {w wr w' : World} {L : List Nt} {v : Value} (h : NSt w L v wr) (hg : Gr wr w') : NSt w L v w' := by
  obtain ⟨E, A, m, c1, e, h1, h2, h3, h4⟩ := h
  exact ⟨E, A, m, c1, e, h1, h2, (ON.gr hg (Lib.hid h3)).out, h4.trans hg⟩
theorem NSt.own {w wr : World} {L : List Nt} {v : Value} (h : NSt w L v wr) : ∀ k, v.ownBlock = some k → k < wr.heap.size := by
  obtain ⟨E, A, m, c1, rfl, h1, h2, h3, h4⟩ := h
  exact fun k hk => (h3.row.lt k hk).2
theorem wp_stepQ {wr w : World} {o : Oper} {a : Act} {Q : Exit → Act → World → Prop} {K : Act → World → Prop} (s x : Operand)
    (ho : o.op = .call { callee := .builtin .append, args := #[s, x], argTypes := #[22, 22] })
    (L : List Nt) (v : Value) (q : Ne) (hst : NSt w L v wr) (hlen : L.length ≤ 100000) (hq : NeV q wr) (hap : Apt q v.ownBlock) (cs : Array Value) (hcs : cs = q.cells.toArray) (cc : Nat) (hs : a.eval s = v) (hx : a.eval x = .slice (some ⟨wr.heap.size, 0, none⟩) 1 cc)
    (h : ∀ A' m' c' w', NSt w (L ++ [q.n]) (.slice A' m' c') w' → TChg w.heap.size [37] (wr.alloc (.cells cs 37)) w' → K (a.put o.dst (.slice A' m' c')) w') : Oper.wp Tryz.prog o a (wr.alloc (.cells cs 37)) K Q := by
  subst hcs
  obtain ⟨E, A, m, c1, rfl, h1, h2, h3, h4⟩ := hst
  have hg : Gr wr (wr.alloc (.cells q.cells.toArray 37)) := Gr.alloc _ _
  have hbase : w.heap.size ≤ (wr.alloc (.cells q.cells.toArray 37)).heap.size := Nat.le_trans (Below.size h4) (Below.size hg)
  have h3' := (ON.gr hg (Lib.hid h3)).out
  refine wp_appN s x ho w.heap.size (.slice A m c1) E q hs h3' _ cc hx (Reads.noteLit wr q) (hq.gr hg) hap (by have h5 := congrArg List.length h2; rw [List.length_map] at h5; omega) hbase fun v' w' h6 h7 h8 => ?_
  obtain ⟨A', c', rfl, -, -⟩ := row_form h6.row
  exact h _ _ _ _ ⟨E ++ [q], A', _, c', rfl, rfl, by rw [List.map_append, h2]; rfl, h6, Below.trans (Below.trans h4 (Below.mono hg (Below.size h4))) h8⟩ (TChg.of_row h3'.row h7 (by decide))
theorem wpl_stepQ {wr w : World} {ops : Array Oper} {rest : List Oper} {o : Oper} {a : Act} {Q : Exit → Act → World → Prop} (hgd : o.guard = none) (s x : Operand)
    (ho : o.op = .call { callee := .builtin .append, args := #[s, x], argTypes := #[22, 22] })
    (L : List Nt) (v : Value) (q : Ne) (hst : NSt w L v wr) (hlen : L.length ≤ 100000) (hq : NeV q wr) (hap : Apt q v.ownBlock) (cs : Array Value) (hcs : cs = q.cells.toArray) (cc : Nat) (hs : a.eval s = v) (hx : a.eval x = .slice (some ⟨wr.heap.size, 0, none⟩) 1 cc)
    (h : ∀ A' m' c' w', NSt w (L ++ [q.n]) (.slice A' m' c') w' → wpList Tryz.prog ops Q rest (a.put o.dst (.slice A' m' c')) w') : wpList Tryz.prog ops Q (o :: rest) a (wr.alloc (.cells cs 37)) :=
  wpList_plain hgd fun _ hK => wp_stepQ s x ho L v q hst hlen hq hap cs hcs cc hs hx fun A' m' c' w' h1 _ => hK _ _ (h A' m' c' w' h1)
theorem neNq_v (n : Nt) (hd : n.data = []) (hp : n.places = []) (w : World) (ob : Option Nat) : NeV (neN n) w ∧ Apt (neN n) ob := by
  refine ⟨⟨?_, ?_⟩, ⟨fun h => ?_, fun h => ?_⟩⟩
  · show Byt n.data (.slice none n.data.length 0) w
    rw [hd]; exact Byt.nil_ w
  · show Pls n.places (.slice none n.places.length 0) w
    rw [hp]; exact Pls.nil_ w _ _ (Nat.zero_le _)
  · have h : 0 < n.data.length := h
    rw [hd] at h; simp at h
  · have h : 0 < n.places.length := h
    rw [hp] at h; simp at h
set_option maxRecDepth 10000 in
set_option maxHeartbeats 4000000 in
theorem rnotes_any (lo g : Nat) (y : RcX) (c : CtP) (w : World) (h : Hid (Rc w lo g y c)) (hf : c.Few 999) (hok : c.Ok) : Calls Tryz.prog 43 #[.pointer (some ⟨g, 0, none⟩)] w fun e w' => ∃ v, e = .returned v ∧ NSt w (notesP c) v w' := by
  obtain ⟨nW, hnW⟩ : ∃ n, c.W.length = n := ⟨_, rfl⟩
  obtain ⟨nB, hnB⟩ : ∃ n, c.B.length = n := ⟨_, rfl⟩
  have hWl : nW ≤ 999 := by have := hf.1; omega
  have hBl : nB ≤ 999 := by have := hf.2.2.1; omega
  obtain ⟨AW, cW, hvW, -, -⟩ := row_form h.out.ws
  rw [hnW] at hvW
  obtain ⟨AB, cB, hvB, -, -⟩ := row_form h.out.bs
  rw [hnB] at hvB
  have hcT : Hid (∀ q, Gr w q → Hid (Rc q lo g y c)) := Lib.hid (fun q hq => Lib.hid (h.out.gr hq))
  have hkW : Hid (∀ j x, c.W[j]? = some x → ∃ bW, AW = some ⟨bW, 0, none⟩ ∧ ∀ q, Gr w q → (∃ cs, q.heap[bW]? = some (.cells cs 58 (0, 0))) ∧ q.cell? ⟨bW, j * 2, none⟩ = some (.string (bs x.1)) ∧ q.cell? ⟨bW, j * 2 + 1, none⟩ = some (.string (bs x.2))) := Lib.hid (fun j x hx => by
    have hj := (List.getElem?_eq_some_iff.mp hx).1
    obtain ⟨bW, c', e, -, -, -, hb, ⟨cs, hcs⟩, -, hcell, -⟩ := row_at h.out.ws (by omega)
    rw [hvW] at e
    injection e with e1 _ _
    exact ⟨bW, e1, fun q hq => ⟨⟨cs, blk_below hcs hq⟩, (cellGr hq (a := ⟨bW, j * 2, none⟩) hb).trans (hcell _ _ (flatB_at hx).1), (cellGr hq (a := ⟨bW, j * 2 + 1, none⟩) hb).trans (hcell _ _ (flatB_at hx).2)⟩⟩)
  have hkB : Hid (∀ j x, c.B[j]? = some x → ∃ bW, AB = some ⟨bW, 0, none⟩ ∧ ∀ q, Gr w q → (∃ cs, q.heap[bW]? = some (.cells cs 63 (0, 0))) ∧ q.cell? ⟨bW, j * 2, none⟩ = some (.string (bs x.1)) ∧ q.cell? ⟨bW, j * 2 + 1, none⟩ = some (.int .i64 x.2)) := Lib.hid (fun j x hx => by
    have hj := (List.getElem?_eq_some_iff.mp hx).1
    obtain ⟨bW, c', e, -, -, -, hb, ⟨cs, hcs⟩, -, hcell, -⟩ := row_at h.out.bs (by omega)
    rw [hvB] at e
    injection e with e1 _ _
    exact ⟨bW, e1, fun q hq => ⟨⟨cs, blk_below hcs hq⟩, (cellGr hq (a := ⟨bW, j * 2, none⟩) hb).trans (hcell _ _ (flatT_at hx).1), (cellGr hq (a := ⟨bW, j * 2 + 1, none⟩) hb).trans (hcell _ _ (flatT_at hx).2)⟩⟩)
  obtain ⟨nE, hnE⟩ : ∃ n, c.E.length = n := ⟨_, rfl⟩
  obtain ⟨nT, hnT⟩ : ∃ n, c.T.length = n := ⟨_, rfl⟩
  have hEl : nE ≤ 999 := by have := hf.2.1; omega
  have hTl : nT ≤ 999 := by have := hf.2.2.2.1; omega
  have hlen1 : Hid (y.E.length = nE) := Lib.hid (h.out.len.trans hnE)
  obtain ⟨AE, cE, hvE, -, -⟩ := row_form h.out.hs.1
  rw [hlen1.out] at hvE
  obtain ⟨AT, cT, hvT, -, -⟩ := row_form h.out.ts
  rw [hnT] at hvT
  have hkT : Hid (∀ j x, c.T[j]? = some x → ∃ bW, AT = some ⟨bW, 0, none⟩ ∧ ∀ q, Gr w q → (∃ cs, q.heap[bW]? = some (.cells cs 63 (0, 0))) ∧ q.cell? ⟨bW, j * 2, none⟩ = some (.string (bs x.1)) ∧ q.cell? ⟨bW, j * 2 + 1, none⟩ = some (.int .i64 x.2)) := Lib.hid (fun j x hx => by
    have hj := (List.getElem?_eq_some_iff.mp hx).1
    obtain ⟨bW, c', e, -, -, -, hb, ⟨cs, hcs⟩, -, hcell, -⟩ := row_at h.out.ts (by omega)
    rw [hvT] at e
    injection e with e1 _ _
    exact ⟨bW, e1, fun q hq => ⟨⟨cs, blk_below hcs hq⟩, (cellGr hq (a := ⟨bW, j * 2, none⟩) hb).trans (hcell _ _ (flatT_at hx).1), (cellGr hq (a := ⟨bW, j * 2 + 1, none⟩) hb).trans (hcell _ _ (flatT_at hx).2)⟩⟩)
  replace hvE := Lib.hid hvE
  replace hvT := Lib.hid hvT
  replace hnE := Lib.hid hnE
  replace hnT := Lib.hid hnT
  have hst0 : Hid (NSt w [] (.slice (some ⟨w.heap.size, 0, none⟩) 0 0) (w.alloc (.cells #[] 37))) := Lib.hid ⟨[], some ⟨w.heap.size, 0, none⟩, 0, 0, rfl, rfl, rfl, ⟨World.ownsRow_made w #[] 0 (Nat.le_refl _) (by simp [maxLen]) rfl, (fun x hx => by cases hx), (fun x hx => by cases hx)⟩, Gr.alloc _ _⟩
  have hg0 : Hid (Gr w (w.alloc (.cells #[] 37))) := Lib.hid (Gr.alloc _ _)
  replace hvW := Lib.hid hvW
  replace hvB := Lib.hid hvB
  replace hnW := Lib.hid hnW
  replace hnB := Lib.hid hnB
  go_enter Tryz.func43, Tryz.ntmps43
  go_wp2_with fail
  go_loopw [3, 4] (fun q u wr => ∃ (k m : Nat) (A1 : Option Addr) (c1 : Nat), k ≤ nW ∧ q = .slice A1 m c1 ∧ u = .int .i64 k ∧ Hid (NSt w ((c.W.take k).map n1) (.slice A1 m c1) wr) ∧ Hid (Gr w wr)) (fun _ u _ => (nW - intOf u).toNat)
  case atStart => exact ⟨0, 0, _, _, Nat.zero_le _, rfl, rfl, hst0, hg0⟩
  case round =>
    obtain ⟨k, m, A1, c1, hk, rfl, rfl, hst, hg⟩ := hrel
    clear hst0 hg0
    have y0 := blk_cell (j := 0) (hcT.out wr hg.out).out.blk rfl
    rw [hvW.out] at y0
    by_cases hlt : k < nW
    · have ii : (k : Int) < (nW : Int) := by omega
      obtain ⟨x, hx⟩ : ∃ x, c.W[k]? = some x := ⟨_, List.getElem?_eq_getElem (by rw [hnW.out]; exact hlt)⟩
      obtain ⟨bW, rfl, hkx⟩ := hkW.out k x hx
      have htk : Hid ((c.W.take (k + 1)).map n1 = (c.W.take k).map n1 ++ [n1 x]) := Lib.hid (by rw [List.take_add_one, hx, List.map_append]; rfl)
      have htl : Hid (((c.W.take k).map n1).length ≤ 100000) := Lib.hid (by rw [List.length_map, List.length_take]; omega)
      obtain ⟨wd, hwd⟩ : ∃ wd, wd = wr.drew := ⟨_, rfl⟩
      have hgd : Gr wr wd := by rw [hwd]; exact (Below.refl _ _).drew
      have hgw := Lib.hid (hg.out.trans hgd)
      have hstd := Lib.hid (hst.out.gr hgd)
      have hcd := hcT.out wd hgw.out
      obtain ⟨hbT, q0, q1⟩ := hkx wd hgw.out
      replace hbT := Lib.hid hbT
      replace q0 := Lib.hid q0
      replace q1 := Lib.hid q1
      replace hgd := Lib.hid hgd
      replace hx := Lib.hid hx
      obtain ⟨xk, xd⟩ := x
      simp only at q0 q1
      obtain ⟨ld, hld⟩ : ∃ l, xd.length = l := ⟨_, rfl⟩
      obtain ⟨cb, w5, hcv, hcb, hcbm, hrd5, hg5⟩ := run_tobytes wd xd
      rw [hld] at hcv hcb
      have hmx : Hid (cb ≤ maxLen) := Lib.hid (hcbm (by have := (hok.okW _ (List.mem_of_getElem? hx.out)).2; simp only [maxLen]; simp only at this; omega))
      obtain ⟨g5, hg5e⟩ : ∃ b, wd.heap.size = b := ⟨_, rfl⟩
      rw [hg5e] at hcv hrd5
      have hst5 := Lib.hid (hstd.out.gr hg5)
      have hq5 : Hid (NeV ⟨n1 (xk, xd), some ⟨g5, 0, none⟩, cb, none, 0⟩ w5) := Lib.hid ⟨⟨some ⟨g5, 0, none⟩, cb, rfl, by show xd.length ≤ cb; omega, hmx.out, hrd5⟩, Pls.nil_ w5 _ _ (Nat.zero_le _)⟩
      have hap5 : Hid (Apt ⟨n1 (xk, xd), some ⟨g5, 0, none⟩, cb, none, 0⟩ (Value.slice A1 m c1).ownBlock) := Lib.hid ⟨fun _ ad e1 e2 => by injection e1 with e1; subst e1; have := hstd.out.own _ e2; simp only at this; omega, fun hh => absurd hh (by simp [n1])⟩
      replace hrd5 := Lib.hid hrd5
      have hg5h := Lib.hid hg5
      replace hld := Lib.hid hld
      replace hg5e := Lib.hid hg5e
      clear hkx hg5 hcb hcbm
      go_upto_region 5 with (fail)
      clear y0
      refine wpR_region (TChg w.heap.size [37]) 9999 (by kernel_rfl) ?_
      (rw [← hwd]; replace hwd := Lib.hid hwd)
      refine Go.Proofs.YthboeoidgglcgaaGreat.wT (i := 0) (v := ?_) (TChg.road _ _) (some 21) rfl (fun w' hw' => ?_) ?_
      rotate_left
      · go_simp; with_reducible rfl
      simp only [Act.put, List.setIfInBounds_toArray, List.set_cons_zero, List.set_cons_succ]
      refine Go.Proofs.YthboeoidgglcgaaGreat.wT (i := 1) (v := ?_) (TChg.road _ _) (some 22) rfl (fun w' hw' => ?_) ?_
      rotate_left
      · go_simp; with_reducible rfl
      simp only [Act.put, List.setIfInBounds_toArray, List.set_cons_zero, List.set_cons_succ]
      refine Go.Proofs.YthboeoidgglcgaaGreat.wT (i := 2) (v := ?_) (TChg.road _ _) (some 23) rfl (fun w' hw' => ?_) ?_
      rotate_left
      · go_simp; with_reducible rfl
      simp only [Act.put, List.setIfInBounds_toArray, List.set_cons_zero, List.set_cons_succ]
      refine Go.Proofs.YthboeoidgglcgaaGreat.wT (i := 3) (v := ?_) (TChg.road _ _) (some 24) rfl (fun w' hw' => ?_) ?_
      rotate_left
      · go_simp; with_reducible rfl
      simp only [Act.put, List.setIfInBounds_toArray, List.set_cons_zero, List.set_cons_succ]
      refine Go.Proofs.YthboeoidgglcgaaGreat.wT (i := 4) (v := ?_) (TChg.road _ _) (some 25) rfl (fun w' hw' => ?_) ?_
      rotate_left
      · have z := blk_cell (j := 0) (hw'.block hcd.out.blk (by decide)) rfl; rw [hvW.out] at z; go_simp; with_reducible rfl
      simp only [Act.put, List.setIfInBounds_toArray, List.set_cons_zero, List.set_cons_succ]
      refine Go.Proofs.YthboeoidgglcgaaGreat.wT (i := 5) (v := ?_) (TChg.road _ _) (some 26) rfl (fun w' hw' => ?_) ?_
      rotate_left
      · go_simp; with_reducible rfl
      simp only [Act.put, List.setIfInBounds_toArray, List.set_cons_zero, List.set_cons_succ]
      refine Go.Proofs.YthboeoidgglcgaaGreat.wT (i := 6) (v := ?_) (TChg.road _ _) (some 27) rfl (fun w' hw' => ?_) ?_
      rotate_left
      · go_simp; with_reducible rfl
      simp only [Act.put, List.setIfInBounds_toArray, List.set_cons_zero, List.set_cons_succ]
      refine Go.Proofs.YthboeoidgglcgaaGreat.wT (i := 7) (v := ?_) (TChg.road _ _) (some 28) rfl (fun w' hw' => ?_) ?_
      rotate_left
      · go_simp; with_reducible rfl
      simp only [Act.put, List.setIfInBounds_toArray, List.set_cons_zero, List.set_cons_succ]
      refine Go.Proofs.YthboeoidgglcgaaGreat.wT (i := 8) (v := ?_) (TChg.road _ _) (some 29) rfl (fun w' hw' => ?_) ?_
      rotate_left
      · have z := (hw'.cellT hbT.out (by decide) (j := k * 2)).trans q0.out; go_simp; with_reducible rfl
      simp only [Act.put, List.setIfInBounds_toArray, List.set_cons_zero, List.set_cons_succ]
      refine Go.Proofs.YthboeoidgglcgaaGreat.wT (i := 9) (v := ?_) (TChg.road _ _) (some 30) rfl (fun w' hw' => ?_) ?_
      rotate_left
      · go_simp; with_reducible rfl
      simp only [Act.put, List.setIfInBounds_toArray, List.set_cons_zero, List.set_cons_succ]
      refine Go.Proofs.YthboeoidgglcgaaGreat.wT (i := 10) (v := ?_) (TChg.road _ _) (some 31) rfl (fun w' hw' => ?_) ?_
      rotate_left
      · go_simp; with_reducible rfl
      simp only [Act.put, List.setIfInBounds_toArray, List.set_cons_zero, List.set_cons_succ]
      refine Go.Proofs.YthboeoidgglcgaaGreat.wT (i := 11) (v := ?_) (TChg.road _ _) (some 32) rfl (fun w' hw' => ?_) ?_
      rotate_left
      · go_simp; with_reducible rfl
      simp only [Act.put, List.setIfInBounds_toArray, List.set_cons_zero, List.set_cons_succ]
      refine Go.Proofs.YthboeoidgglcgaaGreat.wT (i := 12) (v := ?_) (TChg.road _ _) (some 33) rfl (fun w' hw' => ?_) ?_
      rotate_left
      · have z := blk_cell (j := 0) (hw'.block hcd.out.blk (by decide)) rfl; rw [hvW.out] at z; go_simp; with_reducible rfl
      simp only [Act.put, List.setIfInBounds_toArray, List.set_cons_zero, List.set_cons_succ]
      refine Go.Proofs.YthboeoidgglcgaaGreat.wT (i := 13) (v := ?_) (TChg.road _ _) (some 34) rfl (fun w' hw' => ?_) ?_
      rotate_left
      · go_simp; with_reducible rfl
      simp only [Act.put, List.setIfInBounds_toArray, List.set_cons_zero, List.set_cons_succ]
      refine Go.Proofs.YthboeoidgglcgaaGreat.wT (i := 14) (v := ?_) (TChg.road _ _) (some 35) rfl (fun w' hw' => ?_) ?_
      rotate_left
      · go_simp; with_reducible rfl
      simp only [Act.put, List.setIfInBounds_toArray, List.set_cons_zero, List.set_cons_succ]
      refine Go.Proofs.YthboeoidgglcgaaGreat.wT (i := 15) (v := ?_) (TChg.road _ _) (some 36) rfl (fun w' hw' => ?_) ?_
      rotate_left
      · go_simp; with_reducible rfl
      simp only [Act.put, List.setIfInBounds_toArray, List.set_cons_zero, List.set_cons_succ]
      refine Go.Proofs.YthboeoidgglcgaaGreat.wT (i := 16) (v := ?_) (TChg.road _ _) (some 37) rfl (fun w' hw' => ?_) ?_
      rotate_left
      · have z := (hw'.cellT hbT.out (by decide) (j := k * 2 + 1)).trans q1.out; go_simp; with_reducible rfl
      simp only [Act.put, List.setIfInBounds_toArray, List.set_cons_zero, List.set_cons_succ]
      refine wpR_one 17 rfl (by kernel_rfl) (by kernel_rfl) (fun K hK => ?_)
      go_simp
      refine hK _ _ (fun _ => TChg.of_below hg5h.out) ?_
      clear hK K
      clear hcv
      try simp only [Act.put, List.setIfInBounds_toArray, List.set_cons_zero, List.set_cons_succ]
      refine Go.Proofs.YthboeoidgglcgaaGreat.wT (i := 18) (v := ?_) (TChg.road _ _) (some 39) rfl (fun w' hw' => ?_) ?_
      rotate_left
      · go_simp; with_reducible rfl
      simp only [Act.put, List.setIfInBounds_toArray, List.set_cons_zero, List.set_cons_succ]
      refine wpR_one 19 rfl (by kernel_rfl) (by kernel_rfl) (fun K hK => ?_)
      go_simp
      refine hK _ _ (fun _ => TChg.of_alloc _ _) ?_
      clear hK K
      try simp only [Act.put, List.setIfInBounds_toArray, List.set_cons_zero, List.set_cons_succ]
      refine wpR_one 20 rfl (by kernel_rfl) (by kernel_rfl) (fun K hK => ?_)
      refine wp_stepQ (.tmp 21) (.tmp 40) rfl ((c.W.take k).map n1) (.slice A1 m c1) ⟨n1 (xk, xd), some ⟨g5, 0, none⟩, cb, none, 0⟩ hst5.out htl.out hq5.out hap5.out _ (by rw [← hld.out]; rfl) _ rfl rfl ?_
      intro A8 m8 c8 w8 hst8 hch8
      refine hK _ _ (fun _ => hch8) ?_
      clear hK K
      have hg8 : Hid (Gr w w8) := Lib.hid (by obtain ⟨E, A, m, c1, -, -, -, -, h4⟩ := hst8; exact h4)
      replace hst8 := Lib.hid hst8
      replace hch8 := Lib.hid hch8
      simp only [List.getElem_toArray, List.getElem_cons_succ, List.getElem_cons_zero, Act.put, List.setIfInBounds_toArray, List.set_cons_zero, List.set_cons_succ]
      try simp only [Act.put, List.setIfInBounds_toArray, List.set_cons_zero, List.set_cons_succ]
      refine Go.Proofs.YthboeoidgglcgaaGreat.wT (i := 21) (v := ?_) (TChg.road _ _) (some 3) rfl (fun w' hw' => ?_) ?_
      rotate_left
      · go_simp; with_reducible rfl
      simp only [Act.put, List.setIfInBounds_toArray, List.set_cons_zero, List.set_cons_succ]
      refine wpR_done (by kernel_rfl) ?_ _
      go_wp2_with fail
      go_roundw
      case rel => exact ⟨k + 1, m8, A8, c8, by omega, rfl, by go_num, Lib.hid (by rw [htk.out]; exact hst8.out), hg8⟩
      case measure => simp [intOf]; omega
    · obtain rfl : nW = k := by omega
      rw [List.take_of_length_le (show c.W.length ≤ nW by rw [hnW.out]; exact Nat.le_refl _)] at hst
      rename World => wS
      go_wp2_with fail
      go_loopw [3, 5, 6] (fun q p u wr => ∃ (k m : Nat) (A1 : Option Addr) (c1 : Nat) (z : Int), k ≤ nB ∧ q = .slice A1 m c1 ∧ p = .int .i64 z ∧ u = .int .i64 k ∧ Hid (z = lastG (begK c k)) ∧ Hid (NSt w (c.W.map n1 ++ (begK c k).map n4) (.slice A1 m c1) wr) ∧ Hid (Gr w wr)) (fun _ _ u _ => (nB - intOf u).toNat)
      case atStart => exact ⟨0, m, A1, c1, 0, Nat.zero_le _, rfl, rfl, rfl, Lib.hid rfl, Lib.hid (by rw [show (begK c 0).map n4 = [] from rfl, List.append_nil]; exact hst.out), hg⟩
      case round =>
        obtain ⟨k, m, A1, c1, z, hk, rfl, rfl, rfl, hz, hst2, hg2⟩ := hrel
        clear hst hg y0
        have y2 := blk_cell (j := 2) (hcT.out wr hg2.out).out.blk rfl
        rw [hvB.out] at y2
        by_cases hlt : k < nB
        · have ii : (k : Int) < (nB : Int) := by omega
          obtain ⟨x, hx⟩ : ∃ x, c.B[k]? = some x := ⟨_, List.getElem?_eq_getElem (by rw [hnB.out]; exact hlt)⟩
          obtain ⟨bW, rfl, hkx⟩ := hkB.out k x hx
          have hkx' := Lib.hid hkx
          obtain ⟨-, p0, p1⟩ := hkx wr hg2.out
          have hbk := Lib.hid (begK_succ (c := c) hx)
          have htl : Hid ((c.W.map n1 ++ (begK c k).map n4).length ≤ 100000) := Lib.hid (by rw [List.length_append, List.length_map, List.length_map, hnW.out]; have := begK_len c k; omega)
          have hwa := Lib.hid (rwaits_any lo g y c wr (hcT.out wr hg2.out) (few1 hf) x.1)
          clear hkx
          replace hx := Lib.hid hx
          obtain ⟨xk, xg⟩ := x
          simp only at p0 p1 hwa
          cases hwk : hasP c.W xk with
          | false =>
            rw [idxP_no hwk] at hwa
            have hbk2 : Hid (begK c (k + 1) = begK c k) := Lib.hid (by rw [hbk.out, if_neg (by simp only; rw [hwk]; simp), List.append_nil])
            replace hwk := Lib.hid hwk
            go_wp2_with (go_at_call 13; go_must (refine hwa.out.mono ?_); clear hwa; rintro e w' ⟨rfl, hww⟩; rw [hww]; clear hww w')
            go_roundw
            case rel => exact ⟨k + 1, m, A1, c1, z, by omega, rfl, rfl, by go_num, Lib.hid (by rw [hbk2.out]; exact hz.out), Lib.hid (by rw [hbk2.out]; exact hst2.out), hg2⟩
            case measure => simp [intOf]; omega
          | true =>
            obtain ⟨ix, xx, ex, -⟩ := idxP_yes hwk
            rw [ex] at hwa
            have hbk2 : Hid (begK c (k + 1) = begK c k ++ [(xk, xg)]) := Lib.hid (by rw [hbk.out, if_pos hwk])
            replace hwk := Lib.hid hwk
            clear ex
            go_upto_region 11 with (go_at_call 13; go_must (refine hwa.out.mono ?_); clear hwa; rintro e w' ⟨rfl, hww⟩; rw [hww]; clear hww w')
            clear y2 p0 p1
            obtain ⟨wd, hwd⟩ : ∃ wd, wd = wr.drew := ⟨_, rfl⟩
            have hgd : Gr wr wd := by rw [hwd]; exact (Below.refl _ _).drew
            have hgw := Lib.hid (hg2.out.trans hgd)
            have hstd := Lib.hid (hst2.out.gr hgd)
            have hcd := hcT.out wd hgw.out
            obtain ⟨hbT, q0, q1⟩ := hkx'.out wd hgw.out
            replace hbT := Lib.hid hbT
            replace q0 := Lib.hid q0
            replace q1 := Lib.hid q1
            replace hgd := Lib.hid hgd
            refine wpR_region (TChg w.heap.size [37]) 9999 (by kernel_rfl) ?_
            (rw [← hwd]; replace hwd := Lib.hid hwd)
            refine Go.Proofs.YthboeoidgglcgaaGreat.wT (i := 0) (v := ?_) (TChg.road _ _) (some 62) rfl (fun w' hw' => ?_) ?_
            rotate_left
            · go_simp; with_reducible rfl
            simp only [Act.put, List.setIfInBounds_toArray, List.set_cons_zero, List.set_cons_succ]
            refine Go.Proofs.YthboeoidgglcgaaGreat.wT (i := 1) (v := ?_) (TChg.road _ _) (some 63) rfl (fun w' hw' => ?_) ?_
            rotate_left
            · go_simp; with_reducible rfl
            simp only [Act.put, List.setIfInBounds_toArray, List.set_cons_zero, List.set_cons_succ]
            refine Go.Proofs.YthboeoidgglcgaaGreat.wT (i := 2) (v := ?_) (TChg.road _ _) (some 64) rfl (fun w' hw' => ?_) ?_
            rotate_left
            · go_simp; with_reducible rfl
            simp only [Act.put, List.setIfInBounds_toArray, List.set_cons_zero, List.set_cons_succ]
            refine Go.Proofs.YthboeoidgglcgaaGreat.wT (i := 3) (v := ?_) (TChg.road _ _) (some 65) rfl (fun w' hw' => ?_) ?_
            rotate_left
            · go_simp; with_reducible rfl
            simp only [Act.put, List.setIfInBounds_toArray, List.set_cons_zero, List.set_cons_succ]
            refine Go.Proofs.YthboeoidgglcgaaGreat.wT (i := 4) (v := ?_) (TChg.road _ _) (some 66) rfl (fun w' hw' => ?_) ?_
            rotate_left
            · have z := blk_cell (j := 2) (hw'.block hcd.out.blk (by decide)) rfl; rw [hvB.out] at z; go_simp; with_reducible rfl
            simp only [Act.put, List.setIfInBounds_toArray, List.set_cons_zero, List.set_cons_succ]
            refine Go.Proofs.YthboeoidgglcgaaGreat.wT (i := 5) (v := ?_) (TChg.road _ _) (some 67) rfl (fun w' hw' => ?_) ?_
            rotate_left
            · go_simp; with_reducible rfl
            simp only [Act.put, List.setIfInBounds_toArray, List.set_cons_zero, List.set_cons_succ]
            refine Go.Proofs.YthboeoidgglcgaaGreat.wT (i := 6) (v := ?_) (TChg.road _ _) (some 68) rfl (fun w' hw' => ?_) ?_
            rotate_left
            · go_simp; with_reducible rfl
            simp only [Act.put, List.setIfInBounds_toArray, List.set_cons_zero, List.set_cons_succ]
            refine Go.Proofs.YthboeoidgglcgaaGreat.wT (i := 7) (v := ?_) (TChg.road _ _) (some 69) rfl (fun w' hw' => ?_) ?_
            rotate_left
            · go_simp; with_reducible rfl
            simp only [Act.put, List.setIfInBounds_toArray, List.set_cons_zero, List.set_cons_succ]
            refine Go.Proofs.YthboeoidgglcgaaGreat.wT (i := 8) (v := ?_) (TChg.road _ _) (some 70) rfl (fun w' hw' => ?_) ?_
            rotate_left
            · have z := (hw'.cellT hbT.out (by decide) (j := k * 2)).trans q0.out; go_simp; with_reducible rfl
            simp only [Act.put, List.setIfInBounds_toArray, List.set_cons_zero, List.set_cons_succ]
            refine Go.Proofs.YthboeoidgglcgaaGreat.wT (i := 9) (v := ?_) (TChg.road _ _) (some 71) rfl (fun w' hw' => ?_) ?_
            rotate_left
            · go_simp; with_reducible rfl
            simp only [Act.put, List.setIfInBounds_toArray, List.set_cons_zero, List.set_cons_succ]
            refine Go.Proofs.YthboeoidgglcgaaGreat.wT (i := 10) (v := ?_) (TChg.road _ _) (some 72) rfl (fun w' hw' => ?_) ?_
            rotate_left
            · go_simp; with_reducible rfl
            simp only [Act.put, List.setIfInBounds_toArray, List.set_cons_zero, List.set_cons_succ]
            refine Go.Proofs.YthboeoidgglcgaaGreat.wT (i := 11) (v := ?_) (TChg.road _ _) (some 73) rfl (fun w' hw' => ?_) ?_
            rotate_left
            · go_simp; with_reducible rfl
            simp only [Act.put, List.setIfInBounds_toArray, List.set_cons_zero, List.set_cons_succ]
            refine Go.Proofs.YthboeoidgglcgaaGreat.wT (i := 12) (v := ?_) (TChg.road _ _) (some 74) rfl (fun w' hw' => ?_) ?_
            rotate_left
            · have z := blk_cell (j := 2) (hw'.block hcd.out.blk (by decide)) rfl; rw [hvB.out] at z; go_simp; with_reducible rfl
            simp only [Act.put, List.setIfInBounds_toArray, List.set_cons_zero, List.set_cons_succ]
            refine Go.Proofs.YthboeoidgglcgaaGreat.wT (i := 13) (v := ?_) (TChg.road _ _) (some 75) rfl (fun w' hw' => ?_) ?_
            rotate_left
            · go_simp; with_reducible rfl
            simp only [Act.put, List.setIfInBounds_toArray, List.set_cons_zero, List.set_cons_succ]
            refine Go.Proofs.YthboeoidgglcgaaGreat.wT (i := 14) (v := ?_) (TChg.road _ _) (some 76) rfl (fun w' hw' => ?_) ?_
            rotate_left
            · go_simp; with_reducible rfl
            simp only [Act.put, List.setIfInBounds_toArray, List.set_cons_zero, List.set_cons_succ]
            refine Go.Proofs.YthboeoidgglcgaaGreat.wT (i := 15) (v := ?_) (TChg.road _ _) (some 77) rfl (fun w' hw' => ?_) ?_
            rotate_left
            · go_simp; with_reducible rfl
            simp only [Act.put, List.setIfInBounds_toArray, List.set_cons_zero, List.set_cons_succ]
            refine Go.Proofs.YthboeoidgglcgaaGreat.wT (i := 16) (v := ?_) (TChg.road _ _) (some 78) rfl (fun w' hw' => ?_) ?_
            rotate_left
            · have z := (hw'.cellT hbT.out (by decide) (j := k * 2 + 1)).trans q1.out; go_simp; with_reducible rfl
            simp only [Act.put, List.setIfInBounds_toArray, List.set_cons_zero, List.set_cons_succ]
            refine Go.Proofs.YthboeoidgglcgaaGreat.wT (i := 17) (v := ?_) (TChg.road _ _) (some 79) rfl (fun w' hw' => ?_) ?_
            rotate_left
            · go_simp; with_reducible rfl
            simp only [Act.put, List.setIfInBounds_toArray, List.set_cons_zero, List.set_cons_succ]
            refine wpR_one 18 rfl (by kernel_rfl) (by kernel_rfl) (fun K hK => ?_)
            go_simp
            refine hK _ _ (fun _ => TChg.of_alloc _ _) ?_
            clear hK K
            try simp only [Act.put, List.setIfInBounds_toArray, List.set_cons_zero, List.set_cons_succ]
            refine wpR_one 19 rfl (by kernel_rfl) (by kernel_rfl) (fun K hK => ?_)
            refine wp_stepQ (.tmp 62) (.tmp 80) rfl (c.W.map n1 ++ (begK c k).map n4) (.slice A1 m c1) (neN (n4 (xk, xg))) hstd.out htl.out (neNq_v _ rfl rfl _ none).1 (neNq_v _ rfl rfl wd _).2 _ rfl _ rfl rfl ?_
            intro A8 m8 c8 w8 hst8 hch8
            refine hK _ _ (fun _ => hch8) ?_
            clear hK K
            have hg8 : Hid (Gr w w8) := Lib.hid (by obtain ⟨E, A, m, c1, -, -, -, -, h4⟩ := hst8; exact h4)
            replace hst8 := Lib.hid hst8
            replace hch8 := Lib.hid hch8
            simp only [List.getElem_toArray, List.getElem_cons_succ, List.getElem_cons_zero, Act.put, List.setIfInBounds_toArray, List.set_cons_zero, List.set_cons_succ]
            try simp only [Act.put, List.setIfInBounds_toArray, List.set_cons_zero, List.set_cons_succ]
            refine Go.Proofs.YthboeoidgglcgaaGreat.wT (i := 20) (v := ?_) (TChg.road _ _) (some 3) rfl (fun w' hw' => ?_) ?_
            rotate_left
            · go_simp; with_reducible rfl
            simp only [Act.put, List.setIfInBounds_toArray, List.set_cons_zero, List.set_cons_succ]
            refine wpR_done (by kernel_rfl) ?_ _
            have y2 := blk_cell (j := 2) (hcT.out w8 hg8.out).out.blk rfl
            rw [hvB.out] at y2
            obtain ⟨-, p0, p1⟩ := hkx'.out w8 hg8.out
            go_wp2_with fail
            go_roundw
            case rel => exact ⟨k + 1, m8, A8, c8, xg, by omega, rfl, rfl, by go_num, Lib.hid (by rw [hbk2.out, lastG_snoc]), Lib.hid (by rw [hbk2.out, List.map_append, ← List.append_assoc]; exact hst8.out), hg8⟩
            case measure => simp [intOf]; omega
        · obtain rfl : nB = k := by omega
          rw [begK_end c (by rw [hnB.out]; exact Nat.le_refl _)] at hst2 hz
          rename World => wT
          have y5 := blk_cell (j := 5) (hcT.out wT hg2.out).out.blk rfl
          obtain ⟨G, hG⟩ : ∃ z, c.G = z := ⟨_, rfl⟩
          rw [hG] at y5
          have hgp : Hid (genP c = begP c ++ (if lastG (begP c) < G then [([], G)] else [])) := Lib.hid (by unfold genP; rw [hG])
          replace hG := Lib.hid hG
          have htl : Hid ((c.W.map n1 ++ (begP c).map n4).length ≤ 100000) := Lib.hid (by rw [List.length_append, List.length_map, List.length_map, hnW.out, ← begK_end c (Nat.le_refl _)]; have := begK_len c c.B.length; rw [hnB.out] at this ⊢; omega)
          go_upto_if 95 with (fail)
          clear y2
          go_cut [3] (fun v3 wq => Hid (NSt w (c.W.map n1 ++ (genP c).map n4) v3 wq))
          case first =>
            by_cases hzg : z < G
            · have hgp2 : Hid ((genP c).map n4 = (begP c).map n4 ++ [n4 ([], G)]) := Lib.hid (by rw [hgp.out, ← hz.out, if_pos hzg, List.map_append]; rfl)
              simp only [hzg, decide_true]
              go_wp2_with (at_builtin; go_must (refine wpl_stepQ rfl (.tmp 96) (.tmp 102) rfl (c.W.map n1 ++ (begP c).map n4) (.slice A1 m c1) (neN (n4 ([], G))) hst2.out htl.out (neNq_v _ rfl rfl _ none).1 (neNq_v _ rfl rfl wT _).2 _ rfl _ rfl rfl ?_); intro A8 m8 c8 w8 hst8; replace hst8 := Lib.hid hst8)
              go_meet
              exact Lib.hid (by rw [hgp2.out, ← List.append_assoc]; exact hst8.out)
            · have hgp2 : Hid ((genP c).map n4 = (begP c).map n4) := Lib.hid (by rw [hgp.out, ← hz.out, if_neg hzg, List.append_nil])
              simp only [hzg, decide_false]
              go_wp2_with fail
              go_meet
              exact Lib.hid (by rw [hgp2.out]; exact hst2.out)
          case rest =>
            rename World => wU
            obtain ⟨E0, A3, m3, c3, rfl, hst3⟩ := hcut.out
            have hg3 : Hid (Gr w wU) := Lib.hid hst3.2.2.2
            have hst3' : Hid (NSt w (c.W.map n1 ++ (genP c).map n4) (.slice A3 m3 c3) wU) := hcut
            clear hst3 hst2 hg2 hz hgp htl y5
            obtain ⟨L0, hL0⟩ : ∃ L, c.W.map n1 ++ (genP c).map n4 = L := ⟨_, rfl⟩
            rw [hL0] at hst3'
            have hL0l : Hid (L0.length ≤ 3000) := Lib.hid (by
              rw [← hL0, List.length_append, List.length_map, List.length_map, hnW.out]
              have h1 : (genP c).length ≤ 1000 := by
                unfold genP
                rw [List.length_append]
                have h2 := begK_len c c.B.length
                rw [begK_end c (Nat.le_refl _), hnB.out] at h2
                split <;> simp <;> omega
              omega)
            replace hL0 := Lib.hid hL0
            clear hcut
            have y1 := blk_cell (j := 1) (hcT.out wU hg3.out).out.blk rfl
            rw [hvE.out] at y1
            go_wp2_with fail
            clear y1
            go_loopw [3, 7] (fun q u wr => ∃ (k m : Nat) (A1 : Option Addr) (c1 : Nat), k ≤ nE ∧ q = .slice A1 m c1 ∧ u = .int .i64 k ∧ Hid (NSt w (L0 ++ ((c.E.take k).map Prod.snd).map n2) (.slice A1 m c1) wr) ∧ Hid (Gr w wr)) (fun _ u _ => (nE - intOf u).toNat)
            case atStart => exact ⟨0, m3, A3, c3, Nat.zero_le _, rfl, rfl, Lib.hid (by rw [List.take_zero, List.map_nil, List.map_nil, List.append_nil]; exact hst3'.out), hg3⟩
            case round =>
              obtain ⟨k, m, A1, c1, hk, rfl, rfl, hst, hg⟩ := hrel
              clear hst3' hg3
              have y1 := blk_cell (j := 1) (hcT.out wr hg.out).out.blk rfl
              rw [hvE.out] at y1
              by_cases hlt : k < nE
              · have ii : (k : Int) < (nE : Int) := by omega
                obtain ⟨x, hx⟩ : ∃ x, c.E[k]? = some x := ⟨_, List.getElem?_eq_getElem (by rw [hnE.out]; exact hlt)⟩
                obtain ⟨xe, hxe⟩ : ∃ xe, y.E[k]? = some xe := ⟨_, List.getElem?_eq_getElem (by rw [hlen1.out]; exact hlt)⟩
                have hxx : xe.e = x.2 := by
                  have h1 := congrArg (fun l => l[k]?) (hcT.out wr hg.out).out.he
                  simp only [List.getElem?_map, hxe, hx, Option.map_some] at h1
                  injection h1
                have htk : Hid (((c.E.take (k + 1)).map Prod.snd).map n2 = ((c.E.take k).map Prod.snd).map n2 ++ [n2 xe.e]) := Lib.hid (by rw [List.take_add_one, hx, hxx, List.map_append, List.map_append]; rfl)
                have htl : Hid ((L0 ++ ((c.E.take k).map Prod.snd).map n2).length ≤ 100000) := Lib.hid (by rw [List.length_append, List.length_map, List.length_map, List.length_take]; have := hL0l.out; omega)
                have hrowE := (hcT.out wr hg.out).out.hs.1
                have hpl0 := (hcT.out wr hg.out).out.hs.2 xe (List.mem_of_getElem? hxe)
                rw [hvE.out, hlen1.out] at hrowE
                obtain ⟨bE, cE', eE, -, -, -, -, -, -, hcellE, -⟩ := row_at hrowE (by omega)
                injection eE with eE1 _ eE3
                subst eE1 eE3
                obtain ⟨⟨ek, eg, ez, eu, pl⟩, xA, xc⟩ := xe
                unfold Et.v at hpl0
                simp only at hpl0 htk
                obtain ⟨lp, hlp⟩ : ∃ l, pl.length = l := ⟨_, rfl⟩
                have u0 := hcellE _ (.string (bs ek)) ((flatE_at hxe 0 (by omega)).trans rfl)
                have u1 := hcellE _ (.int .i64 eg) ((flatE_at hxe 1 (by omega)).trans rfl)
                have u2 := hcellE _ (.int .i64 ez) ((flatE_at hxe 2 (by omega)).trans rfl)
                have u3 := hcellE _ (.string (bs eu)) ((flatE_at hxe 3 (by omega)).trans rfl)
                have u4 := hcellE _ (.slice xA pl.length xc) ((flatE_at hxe 4 (by omega)).trans rfl)
                have hpl5 : Hid (lp ≤ 40) := Lib.hid (by
                  have h1 := hok.okE x (List.mem_of_getElem? hx)
                  rw [← hxx] at h1
                  have h2 := h1.2.2.2.2.2
                  simp only at h2
                  have h3 := grp_le ez
                  omega)
                rw [hlp] at hpl0 u4
                rw [Nat.add_zero] at u0
                replace hx := Lib.hid hx
                replace hxe := Lib.hid hxe
                replace hxx := Lib.hid hxx
                replace hlp := Lib.hid hlp
                replace hpl0 := Lib.hid hpl0
                replace hrowE := Lib.hid hrowE
                clear hcellE
                go_upto_region 19 with (fail)
                clear u0 u1 u2 u3 u4 y1
                obtain ⟨wb, hwb⟩ : ∃ W, wr.alloc (.cells #[.string (bs ek), .int .i64 eg, .int .i64 ez, .string (bs eu), .slice xA lp xc] 43) = W := ⟨_, rfl⟩
                have hgb : Gr wr wb := by rw [← hwb]; exact Gr.alloc _ _
                have hbb : wb.heap[wr.heap.size]? = some (.cells #[.string (bs ek), .int .i64 eg, .int .i64 ez, .string (bs eu), .slice xA lp xc] 43 (0, 0)) := by rw [← hwb]; exact heap_alloc_new wr _
                rw [hwb]
                replace hwb := Lib.hid hwb
                obtain ⟨ge, hge⟩ : ∃ b, wr.heap.size = b := ⟨_, rfl⟩
                rw [hge] at hbb ⊢
                replace hge := Lib.hid hge
                obtain ⟨wd, hwd⟩ : ∃ wd, wd = wb.drew := ⟨_, rfl⟩
                have hgd : Gr wb wd := by rw [hwd]; exact (Below.refl _ _).drew
                have hgr : Gr wr wd := hgb.trans hgd
                have hgw := Lib.hid (hg.out.trans hgr)
                have hstd := Lib.hid (hst.out.gr hgr)
                have hbd := Lib.hid (blk_below hbb hgd)
                obtain ⟨Ap, cp, ep, hrp⟩ := ((OP.gr hgr hpl0).out).pls.reads
                injection ep with ep1 ep3 ep2
                subst ep1 ep2
                clear ep3
                have hrp := Lib.hid hrp
                have hpI : Hid (∀ x ∈ pl, I64 x.1 ∧ I64 x.2) := Lib.hid hpl0.out.2
                obtain ⟨B2, hB2⟩ : ∃ b, wd.heap.size = b := ⟨_, rfl⟩
                have hwB : Hid (w.heap.size ≤ B2) := Lib.hid (by rw [← hB2]; exact Below.size hgw.out)
                have hown : Hid (∀ j, (Value.slice A1 m c1).ownBlock = some j → j < B2) := Lib.hid (by rw [← hB2]; exact hstd.out.own)
                replace hB2 := Lib.hid hB2
                replace hbb := Lib.hid hbb
                replace hgb := Lib.hid hgb
                replace hgd := Lib.hid hgd
                replace hgr := Lib.hid hgr
                refine wpR_region (TChg w.heap.size [37, 79]) 9999 (by kernel_rfl) ?_
                (rw [← hwd]; replace hwd := Lib.hid hwd)
                refine Go.Proofs.YthboeoidgglcgaaGreat.wT (i := 0) (v := ?_) (TChg.road _ _) (some 120) rfl (fun w' hw' => ?_) ?_
                rotate_left
                · go_simp; with_reducible rfl
                simp only [Act.put, List.setIfInBounds_toArray, List.set_cons_zero, List.set_cons_succ]
                refine Go.Proofs.YthboeoidgglcgaaGreat.wT (i := 1) (v := ?_) (TChg.road _ _) (some 121) rfl (fun w' hw' => ?_) ?_
                rotate_left
                · go_simp; with_reducible rfl
                simp only [Act.put, List.setIfInBounds_toArray, List.set_cons_zero, List.set_cons_succ]
                refine Go.Proofs.YthboeoidgglcgaaGreat.wT (i := 2) (v := ?_) (TChg.road _ _) (some 122) rfl (fun w' hw' => ?_) ?_
                rotate_left
                · have z := blk_cell (j := 0) (hw'.block hbd.out (by decide)) rfl; go_simp; with_reducible rfl
                simp only [Act.put, List.setIfInBounds_toArray, List.set_cons_zero, List.set_cons_succ]
                refine Go.Proofs.YthboeoidgglcgaaGreat.wT (i := 3) (v := ?_) (TChg.road _ _) (some 123) rfl (fun w' hw' => ?_) ?_
                rotate_left
                · go_simp; with_reducible rfl
                simp only [Act.put, List.setIfInBounds_toArray, List.set_cons_zero, List.set_cons_succ]
                refine Go.Proofs.YthboeoidgglcgaaGreat.wT (i := 4) (v := ?_) (TChg.road _ _) (some 124) rfl (fun w' hw' => ?_) ?_
                rotate_left
                · have z := blk_cell (j := 1) (hw'.block hbd.out (by decide)) rfl; go_simp; with_reducible rfl
                simp only [Act.put, List.setIfInBounds_toArray, List.set_cons_zero, List.set_cons_succ]
                refine Go.Proofs.YthboeoidgglcgaaGreat.wT (i := 5) (v := ?_) (TChg.road _ _) (some 125) rfl (fun w' hw' => ?_) ?_
                rotate_left
                · go_simp; with_reducible rfl
                simp only [Act.put, List.setIfInBounds_toArray, List.set_cons_zero, List.set_cons_succ]
                refine Go.Proofs.YthboeoidgglcgaaGreat.wT (i := 6) (v := ?_) (TChg.road _ _) (some 126) rfl (fun w' hw' => ?_) ?_
                rotate_left
                · have z := blk_cell (j := 2) (hw'.block hbd.out (by decide)) rfl; go_simp; with_reducible rfl
                simp only [Act.put, List.setIfInBounds_toArray, List.set_cons_zero, List.set_cons_succ]
                refine Go.Proofs.YthboeoidgglcgaaGreat.wT (i := 7) (v := ?_) (TChg.road _ _) (some 127) rfl (fun w' hw' => ?_) ?_
                rotate_left
                · go_simp; with_reducible rfl
                simp only [Act.put, List.setIfInBounds_toArray, List.set_cons_zero, List.set_cons_succ]
                refine Go.Proofs.YthboeoidgglcgaaGreat.wT (i := 8) (v := ?_) (TChg.road _ _) (some 128) rfl (fun w' hw' => ?_) ?_
                rotate_left
                · have z := blk_cell (j := 3) (hw'.block hbd.out (by decide)) rfl; go_simp; with_reducible rfl
                simp only [Act.put, List.setIfInBounds_toArray, List.set_cons_zero, List.set_cons_succ]
                refine Go.Proofs.YthboeoidgglcgaaGreat.wT (i := 10) (v := ?_) (TChg.road _ _) (some 130) rfl (fun w' hw' => ?_) ?_
                rotate_left
                · go_simp; with_reducible rfl
                simp only [Act.put, List.setIfInBounds_toArray, List.set_cons_zero, List.set_cons_succ]
                refine Go.Proofs.YthboeoidgglcgaaGreat.wT (i := 11) (v := ?_) (TChg.road _ _) (some 131) rfl (fun w' hw' => ?_) ?_
                rotate_left
                · have z := blk_cell (j := 4) (hw'.block hbd.out (by decide)) rfl; go_simp; with_reducible rfl
                simp only [Act.put, List.setIfInBounds_toArray, List.set_cons_zero, List.set_cons_succ]
                refine wpR_one 9 rfl (by kernel_rfl) (by kernel_rfl) (fun K hK => ?_)
                go_simp
                obtain ⟨V9, hV9⟩ : ∃ W, W = wd.alloc (.cells #[] 79) := ⟨_, rfl⟩
                have hg9 : Gr wd V9 := by rw [hV9]; exact Gr.alloc _ _
                have ho9 : OP [] (.slice (some ⟨B2, 0, none⟩) 0 0) B2 V9 := by rw [hV9, ← hB2.out]; exact OP.empty _ _ (Nat.le_refl _)
                rw [← hV9, hB2.out]
                replace hV9 := Lib.hid hV9
                replace ho9 := Lib.hid ho9
                refine hK _ _ (fun _ => TChg.of_below hg9) ?_
                clear hK K
                have hg9' := Lib.hid hg9
                clear hg9
                try simp only [Act.put, List.setIfInBounds_toArray, List.set_cons_zero, List.set_cons_succ]
                refine wpR_one 12 rfl (by kernel_rfl) (by kernel_rfl) (fun K hK => ?_)
                refine wp_appPl (.tmp 129) (.tmp 131) rfl B2 _ [] rfl ho9.out _ _ pl rfl (by have h2 := hrp.out.below hg9'.out; rw [hlp.out] at h2; exact h2) hpI.out (by rw [hlp.out]; have := hpl5.out; simp; omega) (by have := Below.size hg9'.out; rw [hB2.out] at this; exact this) ?_
                intro v12 V12 ho12 hgr12
                rw [List.nil_append] at ho12
                obtain ⟨A12, c12, rfl, -, -⟩ := OP.form ho12
                rw [hlp.out] at ho12 ⊢
                refine hK _ _ (fun _ => TChg.of_row (row_more ho9.out.1 hwB.out) hgr12 (by decide)) ?_
                clear hK K
                have hg12 : Hid (Gr wd V12) := Lib.hid (by unfold Gr; rw [hB2.out]; exact Below.trans (by have := hg9'.out; unfold Gr at this; rw [hB2.out] at this; exact this) ((Below.refl B2 _).grown hgr12 (by have := Below.size hg9'.out; rw [hB2.out] at this; exact this) (fun j hj => by injection hj with hj; have hj : B2 = j := hj; omega)))
                have hst12 := Lib.hid (hstd.out.gr hg12.out)
                have hq12 : Hid (NeV ⟨n2 ⟨ek, eg, ez, eu, pl⟩, none, 0, A12, c12⟩ V12) := Lib.hid ⟨Byt.nil_ V12, by have h2 := ho12; rw [← hlp.out] at h2; exact OP.pls h2⟩
                have hap12 : Hid (Apt ⟨n2 ⟨ek, eg, ez, eu, pl⟩, none, 0, A12, c12⟩ (Value.slice A1 m c1).ownBlock) := Lib.hid ⟨fun hh => absurd hh (by simp [n2]), fun hh ad e1 e2 => by have h2 := hown.out _ e2; have hpos : 0 < lp := (by rw [← hlp.out]; exact hh); have h5 := ho12.1; rw [hlp.out] at h5; obtain ⟨gq, cq, eq, -, -, hbq, -⟩ := row_at h5 hpos; injection eq with eq _ _; have e1 : A12 = some ad := e1; rw [e1] at eq; injection eq with eq; rw [eq] at h2; simp only at h2; omega⟩
                replace ho12 := Lib.hid ho12
                clear hgr12
                try simp only [Act.put, List.setIfInBounds_toArray, List.set_cons_zero, List.set_cons_succ]
                refine Go.Proofs.YthboeoidgglcgaaGreat.wT (i := 13) (v := ?_) (TChg.road _ _) (some 133) rfl (fun w' hw' => ?_) ?_
                rotate_left
                · go_simp; with_reducible rfl
                simp only [Act.put, List.setIfInBounds_toArray, List.set_cons_zero, List.set_cons_succ]
                refine wpR_one 14 rfl (by kernel_rfl) (by kernel_rfl) (fun K hK => ?_)
                go_simp
                refine hK _ _ (fun _ => TChg.of_alloc _ _) ?_
                clear hK K
                try simp only [Act.put, List.setIfInBounds_toArray, List.set_cons_zero, List.set_cons_succ]
                refine wpR_one 15 rfl (by kernel_rfl) (by kernel_rfl) (fun K hK => ?_)
                refine wp_stepQ (.tmp 120) (.tmp 134) rfl (L0 ++ ((c.E.take k).map Prod.snd).map n2) (.slice A1 m c1) ⟨n2 ⟨ek, eg, ez, eu, pl⟩, none, 0, A12, c12⟩ hst12.out htl.out hq12.out hap12.out _ (by rw [← hlp.out]; rfl) _ rfl rfl ?_
                intro A8 m8 c8 w8 hst8 hch8
                refine hK _ _ (fun _ => TChg.mono hch8 (Nat.le_refl _) (by simp)) ?_
                clear hK K
                have hg8 : Hid (Gr w w8) := Lib.hid (by obtain ⟨E, A, m, c1, -, -, -, -, h4⟩ := hst8; exact h4)
                replace hst8 := Lib.hid hst8
                replace hch8 := Lib.hid hch8
                simp only [List.getElem_toArray, List.getElem_cons_succ, List.getElem_cons_zero, Act.put, List.setIfInBounds_toArray, List.set_cons_zero, List.set_cons_succ]
                try simp only [Act.put, List.setIfInBounds_toArray, List.set_cons_zero, List.set_cons_succ]
                refine Go.Proofs.YthboeoidgglcgaaGreat.wT (i := 16) (v := ?_) (TChg.road _ _) (some 3) rfl (fun w' hw' => ?_) ?_
                rotate_left
                · go_simp; with_reducible rfl
                simp only [Act.put, List.setIfInBounds_toArray, List.set_cons_zero, List.set_cons_succ]
                refine wpR_done (by kernel_rfl) ?_ _
                go_wp2_with fail
                go_roundw
                case rel => exact ⟨k + 1, m8, A8, c8, by omega, rfl, by go_num, Lib.hid (by rw [htk.out, ← List.append_assoc]; exact hst8.out), hg8⟩
                case measure => simp [intOf]; omega
              · obtain rfl : nE = k := by omega
                rw [List.take_of_length_le (show c.E.length ≤ nE by rw [hnE.out]; exact Nat.le_refl _)] at hst
                rename World => wV
                obtain ⟨L1, hL1⟩ : ∃ L, L0 ++ (c.E.map Prod.snd).map n2 = L := ⟨_, rfl⟩
                rw [hL1] at hst
                have hL1l : Hid (L1.length ≤ 5000) := Lib.hid (by rw [← hL1, List.length_append, List.length_map, List.length_map, hnE.out]; have := hL0l.out; omega)
                replace hL1 := Lib.hid hL1
                have y3 := blk_cell (j := 3) (hcT.out wV hg.out).out.blk rfl
                rw [hvT.out] at y3
                have y1 := blk_cell (j := 1) (hcT.out wV hg.out).out.blk rfl
                rw [hvE.out] at y1
                go_wp2_with fail
                clear y3 y1
                go_loopw [3, 9] (fun q u wr => ∃ (k m : Nat) (A1 : Option Addr) (c1 : Nat), k ≤ nT ∧ q = .slice A1 m c1 ∧ u = .int .i64 k ∧ Hid (NSt w (L1 ++ tombsN (c.T.take k)) (.slice A1 m c1) wr) ∧ Hid (Gr w wr)) (fun _ u _ => (nT - intOf u).toNat)
                case atStart => exact ⟨0, m, A1, c1, Nat.zero_le _, rfl, rfl, Lib.hid (by rw [show tombsN (c.T.take 0) = [] from rfl, List.append_nil]; exact hst.out), hg⟩
                case round =>
                  obtain ⟨k, m, A1, c1, hk, rfl, rfl, hst2, hg2⟩ := hrel
                  clear hst hg
                  have y2 := blk_cell (j := 3) (hcT.out wr hg2.out).out.blk rfl
                  rw [hvT.out] at y2
                  by_cases hlt : k < nT
                  · have ii : (k : Int) < (nT : Int) := by omega
                    obtain ⟨x, hx⟩ : ∃ x, c.T[k]? = some x := ⟨_, List.getElem?_eq_getElem (by rw [hnT.out]; exact hlt)⟩
                    obtain ⟨bW, rfl, hkx⟩ := hkT.out k x hx
                    have htk : Hid (tombsN (c.T.take (k + 1)) = tombsN (c.T.take k) ++ [⟨6, x.1, x.2, 0, [], [], 1, []⟩]) := Lib.hid (by unfold tombsN; rw [List.take_add_one, hx, List.map_append]; rfl)
                    have htl : Hid ((L1 ++ tombsN (c.T.take k)).length ≤ 100000) := Lib.hid (by unfold tombsN; rw [List.length_append, List.length_map, List.length_take]; have := hL1l.out; omega)
                    replace hx := Lib.hid hx
                    obtain ⟨xk, xg⟩ := x
                    obtain ⟨wd, hwd⟩ : ∃ wd, wd = wr.drew := ⟨_, rfl⟩
                    have hgd : Gr wr wd := by rw [hwd]; exact (Below.refl _ _).drew
                    have hgw := Lib.hid (hg2.out.trans hgd)
                    have hstd := Lib.hid (hst2.out.gr hgd)
                    have hcd := hcT.out wd hgw.out
                    obtain ⟨hbT, q0, q1⟩ := hkx wd hgw.out
                    replace hbT := Lib.hid hbT
                    replace q0 := Lib.hid q0
                    replace q1 := Lib.hid q1
                    replace hgd := Lib.hid hgd
                    simp only at q0 q1 htk
                    clear hkx
                    go_upto_region 23 with (fail)
                    clear y2
                    refine wpR_region (TChg w.heap.size [37]) 9999 (by kernel_rfl) ?_
                    (rw [← hwd]; replace hwd := Lib.hid hwd)
                    refine Go.Proofs.YthboeoidgglcgaaGreat.wT (i := 0) (v := ?_) (TChg.road _ _) (some 145) rfl (fun w' hw' => ?_) ?_
                    rotate_left
                    · go_simp; with_reducible rfl
                    simp only [Act.put, List.setIfInBounds_toArray, List.set_cons_zero, List.set_cons_succ]
                    refine Go.Proofs.YthboeoidgglcgaaGreat.wT (i := 1) (v := ?_) (TChg.road _ _) (some 146) rfl (fun w' hw' => ?_) ?_
                    rotate_left
                    · go_simp; with_reducible rfl
                    simp only [Act.put, List.setIfInBounds_toArray, List.set_cons_zero, List.set_cons_succ]
                    refine Go.Proofs.YthboeoidgglcgaaGreat.wT (i := 2) (v := ?_) (TChg.road _ _) (some 147) rfl (fun w' hw' => ?_) ?_
                    rotate_left
                    · go_simp; with_reducible rfl
                    simp only [Act.put, List.setIfInBounds_toArray, List.set_cons_zero, List.set_cons_succ]
                    refine Go.Proofs.YthboeoidgglcgaaGreat.wT (i := 3) (v := ?_) (TChg.road _ _) (some 148) rfl (fun w' hw' => ?_) ?_
                    rotate_left
                    · go_simp; with_reducible rfl
                    simp only [Act.put, List.setIfInBounds_toArray, List.set_cons_zero, List.set_cons_succ]
                    refine Go.Proofs.YthboeoidgglcgaaGreat.wT (i := 4) (v := ?_) (TChg.road _ _) (some 149) rfl (fun w' hw' => ?_) ?_
                    rotate_left
                    · have z := blk_cell (j := 3) (hw'.block hcd.out.blk (by decide)) rfl; rw [hvT.out] at z; go_simp; with_reducible rfl
                    simp only [Act.put, List.setIfInBounds_toArray, List.set_cons_zero, List.set_cons_succ]
                    refine Go.Proofs.YthboeoidgglcgaaGreat.wT (i := 5) (v := ?_) (TChg.road _ _) (some 150) rfl (fun w' hw' => ?_) ?_
                    rotate_left
                    · go_simp; with_reducible rfl
                    simp only [Act.put, List.setIfInBounds_toArray, List.set_cons_zero, List.set_cons_succ]
                    refine Go.Proofs.YthboeoidgglcgaaGreat.wT (i := 6) (v := ?_) (TChg.road _ _) (some 151) rfl (fun w' hw' => ?_) ?_
                    rotate_left
                    · go_simp; with_reducible rfl
                    simp only [Act.put, List.setIfInBounds_toArray, List.set_cons_zero, List.set_cons_succ]
                    refine Go.Proofs.YthboeoidgglcgaaGreat.wT (i := 7) (v := ?_) (TChg.road _ _) (some 152) rfl (fun w' hw' => ?_) ?_
                    rotate_left
                    · go_simp; with_reducible rfl
                    simp only [Act.put, List.setIfInBounds_toArray, List.set_cons_zero, List.set_cons_succ]
                    refine Go.Proofs.YthboeoidgglcgaaGreat.wT (i := 8) (v := ?_) (TChg.road _ _) (some 153) rfl (fun w' hw' => ?_) ?_
                    rotate_left
                    · have z := (hw'.cellT hbT.out (by decide) (j := k * 2)).trans q0.out; go_simp; with_reducible rfl
                    simp only [Act.put, List.setIfInBounds_toArray, List.set_cons_zero, List.set_cons_succ]
                    refine Go.Proofs.YthboeoidgglcgaaGreat.wT (i := 9) (v := ?_) (TChg.road _ _) (some 154) rfl (fun w' hw' => ?_) ?_
                    rotate_left
                    · go_simp; with_reducible rfl
                    simp only [Act.put, List.setIfInBounds_toArray, List.set_cons_zero, List.set_cons_succ]
                    refine Go.Proofs.YthboeoidgglcgaaGreat.wT (i := 10) (v := ?_) (TChg.road _ _) (some 155) rfl (fun w' hw' => ?_) ?_
                    rotate_left
                    · go_simp; with_reducible rfl
                    simp only [Act.put, List.setIfInBounds_toArray, List.set_cons_zero, List.set_cons_succ]
                    refine Go.Proofs.YthboeoidgglcgaaGreat.wT (i := 11) (v := ?_) (TChg.road _ _) (some 156) rfl (fun w' hw' => ?_) ?_
                    rotate_left
                    · go_simp; with_reducible rfl
                    simp only [Act.put, List.setIfInBounds_toArray, List.set_cons_zero, List.set_cons_succ]
                    refine Go.Proofs.YthboeoidgglcgaaGreat.wT (i := 12) (v := ?_) (TChg.road _ _) (some 157) rfl (fun w' hw' => ?_) ?_
                    rotate_left
                    · have z := blk_cell (j := 3) (hw'.block hcd.out.blk (by decide)) rfl; rw [hvT.out] at z; go_simp; with_reducible rfl
                    simp only [Act.put, List.setIfInBounds_toArray, List.set_cons_zero, List.set_cons_succ]
                    refine Go.Proofs.YthboeoidgglcgaaGreat.wT (i := 13) (v := ?_) (TChg.road _ _) (some 158) rfl (fun w' hw' => ?_) ?_
                    rotate_left
                    · go_simp; with_reducible rfl
                    simp only [Act.put, List.setIfInBounds_toArray, List.set_cons_zero, List.set_cons_succ]
                    refine Go.Proofs.YthboeoidgglcgaaGreat.wT (i := 14) (v := ?_) (TChg.road _ _) (some 159) rfl (fun w' hw' => ?_) ?_
                    rotate_left
                    · go_simp; with_reducible rfl
                    simp only [Act.put, List.setIfInBounds_toArray, List.set_cons_zero, List.set_cons_succ]
                    refine Go.Proofs.YthboeoidgglcgaaGreat.wT (i := 15) (v := ?_) (TChg.road _ _) (some 160) rfl (fun w' hw' => ?_) ?_
                    rotate_left
                    · go_simp; with_reducible rfl
                    simp only [Act.put, List.setIfInBounds_toArray, List.set_cons_zero, List.set_cons_succ]
                    refine Go.Proofs.YthboeoidgglcgaaGreat.wT (i := 16) (v := ?_) (TChg.road _ _) (some 161) rfl (fun w' hw' => ?_) ?_
                    rotate_left
                    · have z := (hw'.cellT hbT.out (by decide) (j := k * 2 + 1)).trans q1.out; go_simp; with_reducible rfl
                    simp only [Act.put, List.setIfInBounds_toArray, List.set_cons_zero, List.set_cons_succ]
                    refine Go.Proofs.YthboeoidgglcgaaGreat.wT (i := 17) (v := ?_) (TChg.road _ _) (some 162) rfl (fun w' hw' => ?_) ?_
                    rotate_left
                    · go_simp; with_reducible rfl
                    simp only [Act.put, List.setIfInBounds_toArray, List.set_cons_zero, List.set_cons_succ]
                    refine wpR_one 18 rfl (by kernel_rfl) (by kernel_rfl) (fun K hK => ?_)
                    go_simp
                    refine hK _ _ (fun _ => TChg.of_alloc _ _) ?_
                    clear hK K
                    try simp only [Act.put, List.setIfInBounds_toArray, List.set_cons_zero, List.set_cons_succ]
                    refine wpR_one 19 rfl (by kernel_rfl) (by kernel_rfl) (fun K hK => ?_)
                    refine wp_stepQ (.tmp 145) (.tmp 163) rfl (L1 ++ tombsN (c.T.take k)) (.slice A1 m c1) (neN ⟨6, xk, xg, 0, [], [], 1, []⟩) hstd.out htl.out (neNq_v _ rfl rfl _ none).1 (neNq_v _ rfl rfl wd _).2 _ rfl _ rfl rfl ?_
                    intro A8 m8 c8 w8 hst8 hch8
                    refine hK _ _ (fun _ => hch8) ?_
                    clear hK K
                    have hg8 : Hid (Gr w w8) := Lib.hid (by obtain ⟨E, A, m, c1, -, -, -, -, h4⟩ := hst8; exact h4)
                    replace hst8 := Lib.hid hst8
                    replace hch8 := Lib.hid hch8
                    simp only [List.getElem_toArray, List.getElem_cons_succ, List.getElem_cons_zero, Act.put, List.setIfInBounds_toArray, List.set_cons_zero, List.set_cons_succ]
                    try simp only [Act.put, List.setIfInBounds_toArray, List.set_cons_zero, List.set_cons_succ]
                    refine Go.Proofs.YthboeoidgglcgaaGreat.wT (i := 20) (v := ?_) (TChg.road _ _) (some 3) rfl (fun w' hw' => ?_) ?_
                    rotate_left
                    · go_simp; with_reducible rfl
                    simp only [Act.put, List.setIfInBounds_toArray, List.set_cons_zero, List.set_cons_succ]
                    refine wpR_done (by kernel_rfl) ?_ _
                    go_wp2_with fail
                    go_roundw
                    case rel => exact ⟨k + 1, m8, A8, c8, by omega, rfl, by go_num, Lib.hid (by rw [htk.out, ← List.append_assoc]; exact hst8.out), hg8⟩
                    case measure => simp [intOf]; omega
                  · obtain rfl : nT = k := by omega
                    rw [List.take_of_length_le (show c.T.length ≤ nT by rw [hnT.out]; exact Nat.le_refl _)] at hst2
                    rename World => wX
                    obtain ⟨L2, hL2⟩ : ∃ L, L1 ++ tombsN c.T = L := ⟨_, rfl⟩
                    rw [hL2] at hst2
                    have hL2l : Hid (L2.length ≤ 7000) := Lib.hid (by rw [← hL2]; unfold tombsN; rw [List.length_append, List.length_map, hnT.out]; have := hL1l.out; omega)
                    replace hL2 := Lib.hid hL2
                    go_wp2_with fail
                    clear y2
                    go_loopw [3, 10] (fun q u wr => ∃ (k m : Nat) (A1 : Option Addr) (c1 : Nat), k ≤ 32 ∧ q = .slice A1 m c1 ∧ u = .int .i64 k ∧ Hid (NSt w (L2 ++ (outR c.R k).map n5) (.slice A1 m c1) wr) ∧ Hid (Gr w wr)) (fun _ u _ => (32 - intOf u).toNat)
                    case atStart => exact ⟨0, m, A1, c1, Nat.zero_le _, rfl, rfl, Lib.hid (by rw [outR_zero, List.map_nil, List.append_nil]; exact hst2.out), hg2⟩
                    case round =>
                      obtain ⟨k, m, A1, c1, hk, rfl, rfl, hst3, hg3⟩ := hrel
                      clear hst2 hg2
                      by_cases hlt : k < 32
                      · have ii : (k : Int) < 32 := by omega
                        have hou := Lib.hid (rout_any lo g y c wr (hcT.out wr hg3.out) (few1 hf) (k : Int))
                        have hsu := Lib.hid (outR_succ c.R k)
                        have htl : Hid ((L2 ++ (outR c.R k).map n5).length ≤ 100000) := Lib.hid (by rw [List.length_append, List.length_map]; have := hL2l.out; have := outR_len c.R k; omega)
                        cases hct : c.R.contains (k : Int) with
                        | false =>
                          rw [hct] at hou
                          have hsu2 : Hid (outR c.R (k + 1) = outR c.R k) := Lib.hid (by rw [hsu.out, hct, if_neg (by decide), List.append_nil])
                          replace hct := Lib.hid hct
                          go_wp2_with (go_at_call 30; go_must (refine hou.out.mono ?_); clear hou; rintro e w' ⟨rfl, hww⟩; rw [hww]; clear hww w')
                          go_roundw
                          case rel => exact ⟨k + 1, m, A1, c1, by omega, rfl, by go_num, Lib.hid (by rw [hsu2.out]; exact hst3.out), hg3⟩
                          case measure => simp [intOf]; omega
                        | true =>
                          rw [hct] at hou
                          have hsu2 : Hid ((outR c.R (k + 1)).map n5 = (outR c.R k).map n5 ++ [n5 (k : Int)]) := Lib.hid (by rw [hsu.out, hct, if_pos rfl, List.map_append]; rfl)
                          replace hct := Lib.hid hct
                          go_wp2_with (first
                            | (go_at_call 30; go_must (refine hou.out.mono ?_); clear hou; rintro e w' ⟨rfl, hww⟩; rw [hww]; clear hww w')
                            | (at_builtin; go_must (refine wpl_stepQ rfl (.tmp 172) (.tmp 175) rfl (L2 ++ (outR c.R k).map n5) (.slice A1 m c1) (neN (n5 (k : Int))) hst3.out htl.out (neNq_v _ rfl rfl _ none).1 (neNq_v _ rfl rfl wr _).2 _ rfl _ rfl rfl ?_); intro A8 m8 c8 w8 hst8; have hg8 : Hid (Gr w w8) := Lib.hid (by obtain ⟨E, A, m, c1, -, -, -, -, h4⟩ := hst8; exact h4); replace hst8 := Lib.hid hst8))
                          go_roundw
                          case rel => exact ⟨k + 1, m8, A8, c8, by omega, rfl, by go_num, Lib.hid (by rw [hsu2.out, ← List.append_assoc]; exact hst8.out), hg8⟩
                          case measure => simp [intOf]; omega
                      · obtain rfl : k = 32 := by omega
                        have hfin : Hid (L2 ++ (outR c.R 32).map n5 = notesP c) := Lib.hid (by rw [← outR_all hok.dR hok.okR, ← hL2.out, ← hL1.out, ← hL0.out]; rfl)
                        go_wp2_with fail
                        go_ret
                        exact ⟨_, rfl, by rw [← hfin.out]; exact hst3.out⟩
end Go.Proofs.YthboeoidgglcgaaGreat
