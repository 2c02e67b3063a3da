/- scan: the law of what is found twice, or may not be. -/
import Derived.Test.YtiliggleplpjbaaSc28
import Derived.Test.YtiliggleplpjbaaReg2
import Derived.BigQuiet
namespace Go.Proofs.Ytiliggleplpjbaa
set_option linter.unusedVariables false
set_option linter.unusedSimpArgs false
open Go Go.RowKit Go.Maps Go.Proofs
theorem wp_appF {w : World} {o : Oper} {a : Act} {K : Act → World → Prop} {Q : Exit → Act → World → Prop} (s x : Operand)
    (ho : o.op = .call { callee := .builtin .append, args := #[s, x], argTypes := #[22, 22] })
    (base : Nat) (v : Value) (E E2 : List Fe) (hs : a.eval s = v) (hown : OF E v base w) (A : Option Addr) (n c : Nat) (hn : E2.length = n) (hx : a.eval x = .slice A n c) (hr : Reads w w.heap.size 12 A E2.length (flatF E2))
    (hq : ∀ q ∈ E2, FeV q w ∧ AptF q v.ownBlock) (hlen : E.length ≤ 1000000) (hlen2 : n ≤ 1000000) (hbase : base ≤ w.heap.size)
    (h : ∀ v' w', OF (E ++ E2) v' base w' → w.grownBy w' v.ownBlock → Below base w w' → K (a.put o.dst v') w') : Oper.wp Try.prog o a w K Q := by
  obtain ⟨i0, hi, hz0, hz1, hz2⟩ := info_parts info_found
  rw [hn] at hr
  refine wp_append_any w s x 22 ho base 39 i0 _ 12 128 Try.underlying22 hi hz0 hz1 hz2 rfl (by omega) v E.length (flatF E) hs hown.row w.heap.size A n c (flatF E2) hx hr (flatF_one E2)
    (by simp only [maxLen]; omega) (by omega) hbase fun v' w' h2 h3 h4 => (h v' w' ⟨?_, ?_, ?_⟩ h3 ((Below.refl base w).grown h3 hbase (fun k hk => (World.ownsRow.lt hown.row k hk).1)))
  · rw [List.length_append, flatF_app, hn]
    exact h2
  · intro y hy
    rcases List.mem_append.mp hy with hy | hy
    · exact (hown.vs y hy).own (hown.ap y hy) h3
    · exact (hq y hy).1.own (hq y hy).2 h3
  · intro y hy
    have hyv : FeV y w ∧ AptF y v.ownBlock := by
      rcases List.mem_append.mp hy with hy | hy
      · exact ⟨hown.vs y hy, hown.ap y hy⟩
      · exact hq y hy
    rcases h4 with h4 | h4
    · rw [h4]; exact hyv.2
    · rw [h4]; exact hyv.1.fresh (Nat.le_refl _)
theorem cF_app (E E2 : List Fe) : cF (E ++ E2) = cF E ++ cF E2 := by
  unfold cF ctE
  rw [List.filter_append, List.map_append]
/-- a list's finds are as they may be -/
def OkF (E : List Fe) : Prop := ∀ x ∈ E, x.f.r.Ok
set_option maxRecDepth 100000 in
set_option maxHeartbeats 8000000 in
theorem scanMore_any (E : List Fe) (v : Value) (q : Rc) (rA : Option Addr) (rcap : Nat) (w : World) (hE : FsV E v w) (hok : ∀ x ∈ E, FOk x.f) (hq : q.Ok) (hqc : q.data.length ≤ rcap) (hqm : rcap ≤ maxLen) (hrd : Rd w w.heap.size rA q.data) : Calls Try.prog 5 #[v, q.agg rA rcap] w fun e w' => e = .returned (.bool true) ∧ Gr w w' := by
  have hE0 := hE
  obtain ⟨A, c, rfl, -, -, -, -⟩ := hE0
  obtain ⟨m0, hm0⟩ : ∃ m, E.length = m := ⟨_, rfl⟩
  rw [hm0] at hE ⊢
  replace hm0 := Lib.hid hm0
  have hgd := Lib.hid (fun x (hx : Gr w x) => good_any q rA rcap hq x (hrd.up hx))
  have hbyt : Hid (∀ x, Gr w x → Byt q.data (.slice rA q.data.length rcap) x) := Lib.hid (fun x hx => ⟨rA, rcap, rfl, hqc, hqm, hrd.up hx⟩)
  obtain ⟨rk, rc, ry, rg, ro, rs, ri, rz, ru, rd⟩ := q
  obtain ⟨gB, hgB⟩ : ∃ b, goodB ⟨rk, rc, ry, rg, ro, rs, ri, rz, ru, rd⟩ = b := ⟨_, rfl⟩
  rw [hgB] at hgd
  replace hgB := Lib.hid hgB
  obtain ⟨ld, hld⟩ : ∃ n, rd.length = n := ⟨_, rfl⟩
  unfold Rc.agg at hgd ⊢
  simp only [hld] at hgd ⊢
  replace hld := Lib.hid hld
  replace hq := Lib.hid hq
  replace hrd := Lib.hid hrd
  clear hqc hqm
  obtain ⟨w1, hw1⟩ : ∃ x, w.alloc (.cells #[.int .i64 rk, .int .i64 rc, .string (bs ry), .int .i64 rg, .int .i64 ro, .int .i64 rs, .int .i64 ri, .int .i64 rz, .string (bs ru), .slice rA ld rcap] 37) = x := ⟨_, rfl⟩
  have hg1 : Gr w w1 := by rw [← hw1]; exact Gr.alloc _ _
  have hbo1 : w1.heap[w.heap.size]? = some (.cells #[.int .i64 rk, .int .i64 rc, .string (bs ry), .int .i64 rg, .int .i64 ro, .int .i64 rs, .int .i64 ri, .int .i64 rz, .string (bs ru), .slice rA ld rcap] 37 (0, 0)) := by rw [← hw1]; exact heap_alloc_new w _
  obtain ⟨bo, hbo⟩ : ∃ n, w.heap.size = n := ⟨_, rfl⟩
  have hfew := Lib.hid (few_any E A m0 c w1 (FsV.gr hg1 (Lib.hid hE)).out)
  rw [hbo] at hbo1
  replace hg1 := Lib.hid hg1
  replace hbo1 := Lib.hid hbo1
  have hawk := Lib.hid awake_any
  replace hE := Lib.hid hE
  go_enter Try.func5, Try.ntmps5
  go_upto_if 17 with (go_at_call 9; go_must (refine hfew.out.mono ?_); clear hfew; rintro e wz ⟨k, rfl, hk, hfk, hww⟩; rw [hww]; clear hww wz; replace hfk := Lib.hid hfk)
  try rw [hw1]
  replace hw1 := Lib.hid hw1
  replace hbo := Lib.hid hbo
  go_cut [5] (fun v wq => ∃ m : Nat, v = .slice A m c ∧ m ≤ 60 ∧ Hid (FsV (E.take m) (.slice A m c) wq) ∧ w1 = wq)
  case first =>
    by_cases hk6 : k ≤ 60
    · have i1 : ¬ (60 : Int) < (k : Int) := by omega
      go_wp2_with fail
      go_meet
      exact ⟨k, rfl, hk6, hfk, rfl⟩
    · have i1 : (60 : Int) < (k : Int) := by omega
      have hl9 := hfk.out.len
      have i2 : (60 : Int) ≤ (c : Int) := by omega
      have ht := Lib.hid (hfk.out.take (k := 60) (by omega))
      rw [List.take_take, show min 60 k = 60 from by omega] at ht
      replace hl9 := Lib.hid hl9
      go_wp2_with fail
      go_meet
      exact ⟨60, rfl, Nat.le_refl _, ht, rfl⟩
  case rest =>
    obtain ⟨m, rfl, hm60, hL, rfl⟩ := hcut
    have hokL : Hid (∀ x ∈ E.take m, x.f.r.Ok) := Lib.hid (fun x hx => (hok x (List.mem_of_mem_take hx)).r)
    have hlL := Lib.hid hL.out.len.1
    obtain ⟨EL, hEL⟩ : ∃ l, E.take m = l := ⟨_, rfl⟩
    rw [hEL] at hL hokL hlL
    have hb1 := Lib.hid (bestV_any EL _ w1 hL.out hokL (by rw [hlL.out]; omega))
    replace hEL := Lib.hid hEL
    replace hok := Lib.hid hok
    clear hfk hk hE
    obtain ⟨mg, hmg⟩ : ∃ z, mostG (cF EL) = z := ⟨_, rfl⟩
    rw [hmg] at hb1
    replace hmg := Lib.hid hmg
    go_upto_region 5 with (go_at_call 10; go_must (refine hb1.out.mono ?_); clear hb1; rintro e w2 ⟨A2, c2, Z2, rfl, hI2, hZ2, hg2⟩; replace hg2 := Lib.hid hg2)
    replace hL := FsV.gr hg2.out hL
    obtain ⟨n2, hn2⟩ : ∃ n, Z2.length = n := ⟨_, rfl⟩
    rw [hn2] at hZ2 ⊢
    replace hn2 := Lib.hid hn2
    obtain ⟨vA, hvA⟩ : ∃ x, w2.alloc (.cells #[] 39) = x := ⟨_, rfl⟩
    have hgvA : Gr w2 vA := by rw [← hvA]; exact Gr.alloc _ _
    have hOA := OF.lit0 hvA (Nat.le_refl w2.heap.size)
    have hq1A := Lib.hid (OF.apt hL.out hgvA hOA (Nat.le_refl _))
    have hr1A := Lib.hid (FsV.gr hgvA (Lib.hid hL.out)).out.reads
    replace hOA := Lib.hid hOA
    have hbsA : Hid (w2.heap.size ≤ vA.heap.size) := Lib.hid (Below.size hgvA)
    replace hgvA := Lib.hid hgvA
    go_upto_region 6 with (first
      | (at_builtin; (refine wpl_appF rfl (.tmp 25) (.tmp 26) rfl w2.heap.size (.slice (some ⟨w2.heap.size, 0, none⟩) 0 0) [] EL rfl hOA.out A m c (hlL).out rfl hr1A.out hq1A.out (by decide) (by omega) hbsA.out ?_); intro vv ww hOO hgg hbb
         obtain ⟨Aa, ca, rfl, -, -⟩ := hOO.form
         have hOb := Lib.hid hOO
         have hla : ([] ++ EL).length = m := (hlL).out
         have hguA : Hid (Gr w2 ww) := Lib.hid (Below.trans hgvA.out hbb)
         clear hOA hr1A hq1A
         rw [hla] at hOO hOb ⊢
         have hq2A := Lib.hid (OF.apt hL.out hguA.out hOO (Nat.le_refl _))
         have hr2A := Lib.hid (FsV.gr hguA.out (Lib.hid hL.out)).out.reads
         have hbs2A : Hid (w2.heap.size ≤ ww.heap.size) := Lib.hid (Below.size hguA.out)
         replace hla := Lib.hid hla
         replace hgg := Lib.hid hgg
         replace hbb := Lib.hid hbb
         clear hOO)
      | (at_builtin; (refine wpl_appF rfl (.tmp 27) (.tmp 28) rfl w2.heap.size (.slice Aa m ca) ([] ++ EL) EL rfl hOb.out A m c (hlL).out rfl hr2A.out hq2A.out (by have := hla.out; omega) (by omega) hbs2A.out ?_); intro vv wm hOO hgg2 hbb2
         obtain ⟨Am, cm, rfl, -, -⟩ := hOO.form
         obtain ⟨kA, hkA⟩ : ∃ k, ([] ++ EL ++ EL).length = k := ⟨_, rfl⟩
         rw [hkA] at hOO ⊢
         have hO2A := Lib.hid hOO
         have hgmA : Hid (Gr w2 wm) := Lib.hid (Below.trans hguA.out hbb2)
         replace hkA := Lib.hid hkA
         replace hgg2 := Lib.hid hgg2
         replace hbb2 := Lib.hid hbb2
         clear hOb hr2A hq2A hOO))
    replace hvA := Lib.hid hvA
    have hLm := FsV.gr hgmA.out hL
    have hb3 := Lib.hid (bestV_any ([] ++ EL ++ EL) _ wm hO2A.out.fs (Lib.hid (fun x hx => by
      simp only [List.nil_append, List.mem_append, or_self] at hx
      exact hokL.out x hx)) (by have := hlL.out; simp; omega))
    rw [List.nil_append, cF_app, mostG_twice, hmg.out] at hb3
    go_upto_region 7 with (go_at_call 10; go_must (refine hb3.out.mono ?_); clear hb3; rintro e w3 ⟨A3, c3, Z3, rfl, hI3, hZ3, hg3⟩; replace hg3 := Lib.hid hg3)
    have hz3 := Lib.hid ((IsOut.twice hI2.out).uniq hI3.out)
    have hn3 : Z3.length = n2 := by
      have := congrArg List.length hz3.out
      rw [List.length_map, List.length_map, hn2.out] at this
      exact this.symm
    rw [hn3] at hZ3 ⊢
    replace hn3 := Lib.hid hn3
    have hgm3 : Hid (Gr w2 w3) := Lib.hid (hgmA.out.trans hg3.out)
    have hal := Lib.hid (alikeE_any (Z2.map (fun x => x.e)) Z2 Z3 A2 c2 A3 c3 n2 (by rw [List.length_map]; exact hn2.out) rfl hz3.out.symm w3 (EsV.gr hgm3.out hZ2).out hZ3.out)
    go_upto_region 9 with (go_at_call 13; go_must (refine hal.out.mono ?_); clear hal; rintro e w4 ⟨rfl, hg4⟩; replace hg4 := Lib.hid hg4)
    have hg14 : Hid (Gr w1 w4) := Lib.hid (hg2.out.trans (hgm3.out.trans hg4.out))
    have hw4 : Hid (Gr w w4) := Lib.hid (hg1.out.trans hg14.out)
    have hbo4 := Lib.hid (blk_below hbo1.out hg14.out)
    have hgd4 := Lib.hid (hgd.out w4 hw4.out)
    have z0 := blk_cell (j := 0) hbo4.out rfl
    have z1 := blk_cell (j := 1) hbo4.out rfl
    have z2 := blk_cell (j := 2) hbo4.out rfl
    have z3 := blk_cell (j := 3) hbo4.out rfl
    have z4 := blk_cell (j := 4) hbo4.out rfl
    have z5 := blk_cell (j := 5) hbo4.out rfl
    have z6 := blk_cell (j := 6) hbo4.out rfl
    have z7 := blk_cell (j := 7) hbo4.out rfl
    have z8 := blk_cell (j := 8) hbo4.out rfl
    have z9 := blk_cell (j := 9) hbo4.out rfl
    cases gB with
    | true =>
      go_wp2_with (first
        | (go_at_call 14; go_must (refine hgd4.out.mono ?_); clear hgd4; rintro e w5 ⟨rfl, hg5⟩; replace hg5 := Lib.hid hg5)
        | (go_at_call 12; go_must (refine (hawk.out _).mono ?_); rintro e w6 ⟨rfl, hg6⟩; replace hg6 := Lib.hid hg6))
      go_ret
      exact ⟨rfl, hw4.out.trans (Gr.trans hg5.out hg6.out)⟩
    | false =>
      go_upto_region 11 with (go_at_call 14; go_must (refine hgd4.out.mono ?_); clear hgd4; rintro e w5 ⟨rfl, hg5⟩; replace hg5 : Hid (Gr w4 w5) := Lib.hid hg5)
      clear z0 z1 z2 z3 z4 z5 z6 z7 z8 z9
      have hw5 : Hid (Gr w w5) := Lib.hid (hw4.out.trans hg5.out)
      have hbo5 := Lib.hid (blk_below hbo4.out hg5.out)
      have hL5 := FsV.gr (hgm3.out.trans (hg4.out.trans hg5.out)) hL
      go_cut [11, 12] (fun v k wq => ∃ (A7 : Option Addr) (c7 : Nat) (Z7 : List Ez), v = .slice A7 n2 c7 ∧ k = .int .i64 mg ∧ Hid (Z7.map (fun x => x.e) = Z2.map (fun x => x.e)) ∧ Hid (EsV Z7 (.slice A7 n2 c7) wq) ∧ Hid (Gr w5 wq))
      case first =>
        obtain ⟨x, hx⟩ : ∃ x : Fe, x = ⟨⟨0, 0, ⟨rk, rc, ry, rg, ro, rs, ri, rz, ru, rd⟩⟩, rA, rcap⟩ := ⟨_, rfl⟩
        have hxc : x.cells.toArray = #[.int .i64 0, .int .i64 0, .int .i64 rk, .int .i64 rc, .string (bs ry), .int .i64 rg, .int .i64 ro, .int .i64 rs, .int .i64 ri, .int .i64 rz, .string (bs ru), .slice rA ld rcap] := by rw [hx, ← hld.out]; rfl
        have hxb : Hid (∀ y, Gr w y → FeV x y) := Lib.hid (fun y hy => by rw [hx]; exact hbyt.out y hy)
        have hxo : x.f.r.Ok := by rw [hx]; exact hq.out
        have hxn : cnt x.f = false := by rw [hx]; unfold cnt; simp only; rw [hgB.out]; simp
        have hcE : Hid (cF ([] ++ EL ++ [x]) = cF EL) := Lib.hid (by
          rw [List.nil_append, cF_app]
          have : cF [x] = [] := by unfold cF ctE; rw [List.filter_cons_of_neg (by rw [hxn]; simp)]; rfl
          rw [this, List.append_nil])
        have hokx : Hid (∀ y ∈ [] ++ EL ++ [x], y.f.r.Ok) := Lib.hid (fun y hy => by
          rcases List.mem_append.mp hy with hy | hy
          · exact hokL.out y hy
          · rw [List.mem_singleton] at hy; subst hy; exact hxo)
        obtain ⟨wd, hwd⟩ : ∃ wd, wd = w5.drew := ⟨_, rfl⟩
        have hgdd : Hid (Gr w5 wd) := Lib.hid (by rw [hwd]; exact (Below.refl _ _).drew)
        have hBx : Hid (∀ y, Below w5.heap.size wd y → y.heap[bo]? = some (.cells #[.int .i64 rk, .int .i64 rc, .string (bs ry), .int .i64 rg, .int .i64 ro, .int .i64 rs, .int .i64 ri, .int .i64 rz, .string (bs ru), .slice rA ld rcap] 37 (0, 0))) := Lib.hid (fun y hy => blk_below hbo5.out (Below.trans hgdd.out hy))
        replace hx := Lib.hid hx
        replace hxc := Lib.hid hxc
        replace hxo := Lib.hid hxo
        replace hxn := Lib.hid hxn
        refine wpR_region (Below w5.heap.size) 9999 (by kernel_rfl) ?_
        (rw [← hwd]; replace hwd := Lib.hid hwd)
        refine wpR_take (i := 1) (v := ?_) (⟨fun x => Below.refl _ x, fun h1 h2 => h1.trans h2⟩) (some 49) rfl (by kernel_rfl) (by kernel_rfl) (by kernel_rfl) (by kernel_rfl) (by kernel_rfl) (fun _ _ _ h => h) (by kernel_rfl) (fun w' hw' => ?_) ?_
        rotate_left
        · go_simp; with_reducible rfl
        simp only [Act.put, List.setIfInBounds_toArray, List.set_cons_zero, List.set_cons_succ]
        refine wpR_take (i := 3) (v := ?_) (⟨fun x => Below.refl _ x, fun h1 h2 => h1.trans h2⟩) (some 51) rfl (by kernel_rfl) (by kernel_rfl) (by kernel_rfl) (by kernel_rfl) (by kernel_rfl) (fun _ _ _ h => h) (by kernel_rfl) (fun w' hw' => ?_) ?_
        rotate_left
        · have y0 := blk_cell (j := 0) (hBx.out w' (hw')) rfl; have y1 := blk_cell (j := 1) (hBx.out w' (hw')) rfl; have y2 := blk_cell (j := 2) (hBx.out w' (hw')) rfl; have y3 := blk_cell (j := 3) (hBx.out w' (hw')) rfl; have y4 := blk_cell (j := 4) (hBx.out w' (hw')) rfl; have y5 := blk_cell (j := 5) (hBx.out w' (hw')) rfl; have y6 := blk_cell (j := 6) (hBx.out w' (hw')) rfl; have y7 := blk_cell (j := 7) (hBx.out w' (hw')) rfl; have y8 := blk_cell (j := 8) (hBx.out w' (hw')) rfl; have y9 := blk_cell (j := 9) (hBx.out w' (hw')) rfl; go_simp; with_reducible rfl
        simp only [Act.put, List.setIfInBounds_toArray, List.set_cons_zero, List.set_cons_succ]
        refine wpR_take (i := 4) (v := ?_) (⟨fun x => Below.refl _ x, fun h1 h2 => h1.trans h2⟩) (some 52) rfl (by kernel_rfl) (by kernel_rfl) (by kernel_rfl) (by kernel_rfl) (by kernel_rfl) (fun _ _ _ h => h) (by kernel_rfl) (fun w' hw' => ?_) ?_
        rotate_left
        · go_simp; with_reducible rfl
        simp only [Act.put, List.setIfInBounds_toArray, List.set_cons_zero, List.set_cons_succ]
        refine wpR_two 0 5 rfl rfl (by kernel_rfl) (by kernel_rfl) (by kernel_rfl) (fun K hK => ?_) (fun K hK => ?_)
        · go_simp
          refine hK _ _ (fun _ => Below.mono (Gr.alloc _ _) (Below.size hgdd.out)) ?_
          clear hK K
          obtain ⟨V0, hV0⟩ : ∃ x, wd.alloc (.cells #[] 39) = x := ⟨_, rfl⟩
          have hk0 : Below w5.heap.size wd V0 := by rw [← hV0]; exact Below.mono (Gr.alloc _ _) (Below.size hgdd.out)
          have hO0 := OF.lit0 hV0 (base := w5.heap.size) (Below.size hgdd.out)
          rw [hV0]
          obtain ⟨P0, hP0⟩ : ∃ n, wd.heap.size = n := ⟨_, rfl⟩
          rw [hP0] at hO0 ⊢
          have hOF0 := Lib.hid hO0
          have hq0 : Hid (Gr w5 V0) := Lib.hid (Below.trans hgdd.out hk0)
          replace hV0 := Lib.hid hV0
          replace hP0 := Lib.hid hP0
          clear hO0 hk0
          try simp only [Act.put, List.setIfInBounds_toArray, List.set_cons_zero, List.set_cons_succ]
          refine wpR_two 2 5 rfl rfl (by kernel_rfl) (by kernel_rfl) (by kernel_rfl) (fun K hK => ?_) (fun K hK => ?_)
          · have hfs2 := Lib.hid (FsV.gr hq0.out hL5).out
            refine wp_appF (.tmp 48) (.tmp 49) rfl w5.heap.size (.slice (some ⟨P0, 0, none⟩) 0 0) [] EL rfl hOF0.out A m c hlL.out rfl hfs2.out.reads (OF.apt hL5.out hq0.out hOF0.out (Nat.le_refl _)) (by decide) (by omega) (Below.size hq0.out) ?_
            intro vv V2 hOO hgg hk2
            obtain ⟨Aa, ca, rfl, -, -⟩ := hOO.form
            have hla : ([] ++ EL).length = m := hlL.out
            clear hfs2
            refine hK _ _ (fun _ => hk2) ?_
            clear hK K
            rw [hla] at hOO ⊢
            have hOF2 := Lib.hid hOO
            have hq2 : Hid (Gr w5 V2) := Lib.hid (Below.trans hq0.out hk2)
            replace hla := Lib.hid hla
            clear hOO hgg hk2
            try simp only [Act.put, List.setIfInBounds_toArray, List.set_cons_zero, List.set_cons_succ]
            refine wpR_one 5 rfl (by kernel_rfl) (by kernel_rfl) (fun K hK => ?_)
            go_simp
            refine hK _ _ (fun _ => Below.mono (Gr.alloc _ _) (Below.size hq2.out)) ?_
            clear hK K
            obtain ⟨V5, hV5⟩ : ∃ x, V2.alloc (.cells #[.int .i64 0, .int .i64 0, .int .i64 rk, .int .i64 rc, .string (bs ry), .int .i64 rg, .int .i64 ro, .int .i64 rs, .int .i64 ri, .int .i64 rz, .string (bs ru), .slice rA ld rcap] 39) = x := ⟨_, rfl⟩
            have hk5' : Gr V2 V5 := by rw [← hV5]; exact Gr.alloc _ _
            have hk5 : Below w5.heap.size V2 V5 := Below.mono hk5' (Below.size hq2.out)
            have hl5 : V5.heap[V2.heap.size]? = some (.cells #[.int .i64 0, .int .i64 0, .int .i64 rk, .int .i64 rc, .string (bs ry), .int .i64 rg, .int .i64 ro, .int .i64 rs, .int .i64 ri, .int .i64 rz, .string (bs ru), .slice rA ld rcap] 39 (0, 0)) := by rw [← hV5]; exact heap_alloc_new _ _
            rw [hV5]
            obtain ⟨P5, hP5⟩ : ∃ n, V2.heap.size = n := ⟨_, rfl⟩
            have hOF5 := OF.gr hk5' hOF2
            rw [hP5] at hl5 ⊢
            have hlt5 := Lib.hid hl5
            have hq5 : Hid (Gr w5 V5) := Lib.hid (Below.trans hq2.out hk5)
            replace hV5 := Lib.hid hV5
            replace hP5 := Lib.hid hP5
            clear hl5 hk5 hk5'
            try simp only [Act.put, List.setIfInBounds_toArray, List.set_cons_zero, List.set_cons_succ]
            refine wpR_one 6 rfl (by kernel_rfl) (by kernel_rfl) (fun K hK => ?_)
            have hrd6 : Reads V5 V5.heap.size 12 (some ⟨P5, 0, none⟩) [x].length (flatF [x]) := by
              rw [flatF_one1]
              refine ⟨rfl, fun _ => ⟨_, rfl, blk_lt hlt5.out, fun j u hu => ?_⟩⟩
              rw [addr0]
              refine blk_cell hlt5.out ?_
              rw [← hxc.out, List.getElem?_toArray]
              exact hu
            have hxq : ∀ y ∈ [x], FeV y V5 ∧ AptF y (.slice Aa m ca : Value).ownBlock := fun y hy => by
              rw [List.mem_singleton] at hy
              subst hy
              refine ⟨hxb.out _ (hw5.out.trans hq5.out), ?_⟩
              cases hu : (Value.slice Aa m ca).ownBlock with
              | none => exact AptF.none_ _
              | some k => exact (hxb.out _ hw5.out).fresh (World.ownsRow.lt hOF5.out.row k hu).1
            refine wp_appF (.tmp 50) (.tmp 53) rfl w5.heap.size (.slice Aa m ca) ([] ++ EL) [x] rfl hOF5.out (some ⟨P5, 0, none⟩) 1 1 rfl rfl hrd6 hxq (by have := hla.out; omega) (by decide) (Below.size hq5.out) ?_
            intro vv V6 hOO hgg hk6
            obtain ⟨Ab, cb, rfl, -, -⟩ := hOO.form
            refine hK _ _ (fun _ => hk6) ?_
            clear hK K
            have hbs := Lib.hid (bestV_any ([] ++ EL ++ [x]) _ V6 hOO.fs hokx (by have := hla.out; rw [List.length_append]; simp only [List.length_singleton]; omega))
            rw [hcE.out, hmg.out] at hbs
            obtain ⟨m6, hm6⟩ : ∃ k, ([] ++ EL ++ [x]).length = k := ⟨_, rfl⟩
            rw [hm6] at hbs ⊢
            replace hm6 := Lib.hid hm6
            have hq6 : Hid (Gr w5 V6) := Lib.hid (Below.trans hq5.out hk6)
            clear hOO hgg hk6 hrd6 hxq
            try simp only [Act.put, List.setIfInBounds_toArray, List.set_cons_zero, List.set_cons_succ]
            refine wpR_one 7 rfl (by kernel_rfl) (by kernel_rfl) (fun K hK => ?_)
            go_simp
            refine hbs.out.mono ?_
            rintro e V7 ⟨A7, c7, Z7, rfl, hI7, hZ7, hk7'⟩
            have hk7 : Below w5.heap.size V6 V7 := Below.mono hk7' (Below.size hq6.out)
            refine hK _ _ (fun _ => hk7) ?_
            clear hK K
            clear hbs
            have hz7 := Lib.hid (hI7.out.uniq hI2.out)
            have hn7 : Z7.length = n2 := by
              have := congrArg List.length hz7.out
              rw [List.length_map, List.length_map, hn2.out] at this
              exact this
            rw [hn7] at hZ7 ⊢
            replace hn7 := Lib.hid hn7
            have hq7 : Hid (Gr w5 V7) := Lib.hid (Below.trans hq6.out hk7)
            clear hk7 hk7'
            try simp only [Act.put, List.setIfInBounds_toArray, List.set_cons_zero, List.set_cons_succ]
            refine wpR_take (i := 8) (v := ?_) (⟨fun x => Below.refl _ x, fun h1 h2 => h1.trans h2⟩) (some 47) rfl (by kernel_rfl) (by kernel_rfl) (by kernel_rfl) (by kernel_rfl) (by kernel_rfl) (fun _ _ _ h => h) (by kernel_rfl) (fun w' hw' => ?_) ?_
            rotate_left
            · go_simp; with_reducible rfl
            simp only [Act.put, List.setIfInBounds_toArray, List.set_cons_zero, List.set_cons_succ]
            refine wpR_take (i := 9) (v := ?_) (⟨fun x => Below.refl _ x, fun h1 h2 => h1.trans h2⟩) (some 56) rfl (by kernel_rfl) (by kernel_rfl) (by kernel_rfl) (by kernel_rfl) (by kernel_rfl) (fun _ _ _ h => h) (by kernel_rfl) (fun w' hw' => ?_) ?_
            rotate_left
            · go_simp; with_reducible rfl
            simp only [Act.put, List.setIfInBounds_toArray, List.set_cons_zero, List.set_cons_succ]
            refine wpR_take (i := 10) (v := ?_) (⟨fun x => Below.refl _ x, fun h1 h2 => h1.trans h2⟩) (some 57) rfl (by kernel_rfl) (by kernel_rfl) (by kernel_rfl) (by kernel_rfl) (by kernel_rfl) (fun _ _ _ h => h) (by kernel_rfl) (fun w' hw' => ?_) ?_
            rotate_left
            · go_simp; with_reducible rfl
            simp only [Act.put, List.setIfInBounds_toArray, List.set_cons_zero, List.set_cons_succ]
            refine wpR_take (i := 11) (v := ?_) (⟨fun x => Below.refl _ x, fun h1 h2 => h1.trans h2⟩) (some 11) rfl (by kernel_rfl) (by kernel_rfl) (by kernel_rfl) (by kernel_rfl) (by kernel_rfl) (fun _ _ _ h => h) (by kernel_rfl) (fun w' hw' => ?_) ?_
            rotate_left
            · go_simp; with_reducible rfl
            simp only [Act.put, List.setIfInBounds_toArray, List.set_cons_zero, List.set_cons_succ]
            refine wpR_take (i := 12) (v := ?_) (⟨fun x => Below.refl _ x, fun h1 h2 => h1.trans h2⟩) (some 12) rfl (by kernel_rfl) (by kernel_rfl) (by kernel_rfl) (by kernel_rfl) (by kernel_rfl) (fun _ _ _ h => h) (by kernel_rfl) (fun w' hw' => ?_) ?_
            rotate_left
            · go_simp; with_reducible rfl
            simp only [Act.put, List.setIfInBounds_toArray, List.set_cons_zero, List.set_cons_succ]
            refine wpR_done (by kernel_rfl) ?_ _
            go_wp2_with fail
            go_meet
            exact ⟨A7, c7, Z7, rfl, rfl, hz7, hZ7, hq7⟩
          · go_simp
            refine hK _ _ (fun _ => Below.mono (Gr.alloc _ _) (Below.size hq0.out)) ?_
            clear hK K
            obtain ⟨V5, hV5⟩ : ∃ x, V0.alloc (.cells #[.int .i64 0, .int .i64 0, .int .i64 rk, .int .i64 rc, .string (bs ry), .int .i64 rg, .int .i64 ro, .int .i64 rs, .int .i64 ri, .int .i64 rz, .string (bs ru), .slice rA ld rcap] 39) = x := ⟨_, rfl⟩
            have hk5' : Gr V0 V5 := by rw [← hV5]; exact Gr.alloc _ _
            have hk5 : Below w5.heap.size V0 V5 := Below.mono hk5' (Below.size hq0.out)
            have hl5 : V5.heap[V0.heap.size]? = some (.cells #[.int .i64 0, .int .i64 0, .int .i64 rk, .int .i64 rc, .string (bs ry), .int .i64 rg, .int .i64 ro, .int .i64 rs, .int .i64 ri, .int .i64 rz, .string (bs ru), .slice rA ld rcap] 39 (0, 0)) := by rw [← hV5]; exact heap_alloc_new _ _
            rw [hV5]
            obtain ⟨P5, hP5⟩ : ∃ n, V0.heap.size = n := ⟨_, rfl⟩
            have hne05 : Hid (P0 ≠ P5) := Lib.hid (by have := (World.ownsRow.lt hOF0.out.row P0 rfl).2; omega)
            have hOF5 := OF.gr hk5' hOF0
            rw [hP5] at hl5 ⊢
            have hlt5 := Lib.hid hl5
            have hq5 : Hid (Gr w5 V5) := Lib.hid (Below.trans hq0.out hk5)
            replace hV5 := Lib.hid hV5
            replace hP5 := Lib.hid hP5
            clear hl5 hk5 hk5'
            try simp only [Act.put, List.setIfInBounds_toArray, List.set_cons_zero, List.set_cons_succ]
            refine wpR_one 2 rfl (by kernel_rfl) (by kernel_rfl) (fun K hK => ?_)
            have hfs2 := Lib.hid (FsV.gr hq5.out hL5).out
            refine wp_appF (.tmp 48) (.tmp 49) rfl w5.heap.size (.slice (some ⟨P0, 0, none⟩) 0 0) [] EL rfl hOF5.out A m c hlL.out rfl hfs2.out.reads (OF.apt hL5.out hq5.out hOF5.out (Nat.le_refl _)) (by decide) (by omega) (Below.size hq5.out) ?_
            intro vv V2 hOO hgg hk2
            obtain ⟨Aa, ca, rfl, -, -⟩ := hOO.form
            have hla : ([] ++ EL).length = m := hlL.out
            clear hfs2
            refine hK _ _ (fun _ => hk2) ?_
            clear hK K
            rw [hla] at hOO ⊢
            have hOF2 := Lib.hid hOO
            have hq2 : Hid (Gr w5 V2) := Lib.hid (Below.trans hq5.out hk2)
            have hlt2 := Lib.hid ((hgg.block P5 (blk_lt hlt5.out) (fun e => hne05.out (by injection e with e; exact e.symm))).trans hlt5.out)
            replace hla := Lib.hid hla
            clear hOO hgg hk2
            try simp only [Act.put, List.setIfInBounds_toArray, List.set_cons_zero, List.set_cons_succ]
            refine wpR_one 6 rfl (by kernel_rfl) (by kernel_rfl) (fun K hK => ?_)
            have hrd6 : Reads V2 V2.heap.size 12 (some ⟨P5, 0, none⟩) [x].length (flatF [x]) := by
              rw [flatF_one1]
              refine ⟨rfl, fun _ => ⟨_, rfl, blk_lt hlt2.out, fun j u hu => ?_⟩⟩
              rw [addr0]
              refine blk_cell hlt2.out ?_
              rw [← hxc.out, List.getElem?_toArray]
              exact hu
            have hxq : ∀ y ∈ [x], FeV y V2 ∧ AptF y (.slice Aa m ca : Value).ownBlock := fun y hy => by
              rw [List.mem_singleton] at hy
              subst hy
              refine ⟨hxb.out _ (hw5.out.trans hq2.out), ?_⟩
              cases hu : (Value.slice Aa m ca).ownBlock with
              | none => exact AptF.none_ _
              | some k => exact (hxb.out _ hw5.out).fresh (World.ownsRow.lt hOF2.out.row k hu).1
            refine wp_appF (.tmp 50) (.tmp 53) rfl w5.heap.size (.slice Aa m ca) ([] ++ EL) [x] rfl hOF2.out (some ⟨P5, 0, none⟩) 1 1 rfl rfl hrd6 hxq (by have := hla.out; omega) (by decide) (Below.size hq2.out) ?_
            intro vv V6 hOO hgg hk6
            obtain ⟨Ab, cb, rfl, -, -⟩ := hOO.form
            refine hK _ _ (fun _ => hk6) ?_
            clear hK K
            have hbs := Lib.hid (bestV_any ([] ++ EL ++ [x]) _ V6 hOO.fs hokx (by have := hla.out; rw [List.length_append]; simp only [List.length_singleton]; omega))
            rw [hcE.out, hmg.out] at hbs
            obtain ⟨m6, hm6⟩ : ∃ k, ([] ++ EL ++ [x]).length = k := ⟨_, rfl⟩
            rw [hm6] at hbs ⊢
            replace hm6 := Lib.hid hm6
            have hq6 : Hid (Gr w5 V6) := Lib.hid (Below.trans hq2.out hk6)
            clear hOO hgg hk6 hrd6 hxq
            try simp only [Act.put, List.setIfInBounds_toArray, List.set_cons_zero, List.set_cons_succ]
            refine wpR_one 7 rfl (by kernel_rfl) (by kernel_rfl) (fun K hK => ?_)
            go_simp
            refine hbs.out.mono ?_
            rintro e V7 ⟨A7, c7, Z7, rfl, hI7, hZ7, hk7'⟩
            have hk7 : Below w5.heap.size V6 V7 := Below.mono hk7' (Below.size hq6.out)
            refine hK _ _ (fun _ => hk7) ?_
            clear hK K
            clear hbs
            have hz7 := Lib.hid (hI7.out.uniq hI2.out)
            have hn7 : Z7.length = n2 := by
              have := congrArg List.length hz7.out
              rw [List.length_map, List.length_map, hn2.out] at this
              exact this
            rw [hn7] at hZ7 ⊢
            replace hn7 := Lib.hid hn7
            have hq7 : Hid (Gr w5 V7) := Lib.hid (Below.trans hq6.out hk7)
            clear hk7 hk7'
            try simp only [Act.put, List.setIfInBounds_toArray, List.set_cons_zero, List.set_cons_succ]
            refine wpR_take (i := 8) (v := ?_) (⟨fun x => Below.refl _ x, fun h1 h2 => h1.trans h2⟩) (some 47) rfl (by kernel_rfl) (by kernel_rfl) (by kernel_rfl) (by kernel_rfl) (by kernel_rfl) (fun _ _ _ h => h) (by kernel_rfl) (fun w' hw' => ?_) ?_
            rotate_left
            · go_simp; with_reducible rfl
            simp only [Act.put, List.setIfInBounds_toArray, List.set_cons_zero, List.set_cons_succ]
            refine wpR_take (i := 9) (v := ?_) (⟨fun x => Below.refl _ x, fun h1 h2 => h1.trans h2⟩) (some 56) rfl (by kernel_rfl) (by kernel_rfl) (by kernel_rfl) (by kernel_rfl) (by kernel_rfl) (fun _ _ _ h => h) (by kernel_rfl) (fun w' hw' => ?_) ?_
            rotate_left
            · go_simp; with_reducible rfl
            simp only [Act.put, List.setIfInBounds_toArray, List.set_cons_zero, List.set_cons_succ]
            refine wpR_take (i := 10) (v := ?_) (⟨fun x => Below.refl _ x, fun h1 h2 => h1.trans h2⟩) (some 57) rfl (by kernel_rfl) (by kernel_rfl) (by kernel_rfl) (by kernel_rfl) (by kernel_rfl) (fun _ _ _ h => h) (by kernel_rfl) (fun w' hw' => ?_) ?_
            rotate_left
            · go_simp; with_reducible rfl
            simp only [Act.put, List.setIfInBounds_toArray, List.set_cons_zero, List.set_cons_succ]
            refine wpR_take (i := 11) (v := ?_) (⟨fun x => Below.refl _ x, fun h1 h2 => h1.trans h2⟩) (some 11) rfl (by kernel_rfl) (by kernel_rfl) (by kernel_rfl) (by kernel_rfl) (by kernel_rfl) (fun _ _ _ h => h) (by kernel_rfl) (fun w' hw' => ?_) ?_
            rotate_left
            · go_simp; with_reducible rfl
            simp only [Act.put, List.setIfInBounds_toArray, List.set_cons_zero, List.set_cons_succ]
            refine wpR_take (i := 12) (v := ?_) (⟨fun x => Below.refl _ x, fun h1 h2 => h1.trans h2⟩) (some 12) rfl (by kernel_rfl) (by kernel_rfl) (by kernel_rfl) (by kernel_rfl) (by kernel_rfl) (fun _ _ _ h => h) (by kernel_rfl) (fun w' hw' => ?_) ?_
            rotate_left
            · go_simp; with_reducible rfl
            simp only [Act.put, List.setIfInBounds_toArray, List.set_cons_zero, List.set_cons_succ]
            refine wpR_done (by kernel_rfl) ?_ _
            go_wp2_with fail
            go_meet
            exact ⟨A7, c7, Z7, rfl, rfl, hz7, hZ7, hq7⟩
        · go_simp
          refine hK _ _ (fun _ => Below.mono (Gr.alloc _ _) (Below.size hgdd.out)) ?_
          clear hK K
          obtain ⟨V5, hV5⟩ : ∃ x, wd.alloc (.cells #[.int .i64 0, .int .i64 0, .int .i64 rk, .int .i64 rc, .string (bs ry), .int .i64 rg, .int .i64 ro, .int .i64 rs, .int .i64 ri, .int .i64 rz, .string (bs ru), .slice rA ld rcap] 39) = x := ⟨_, rfl⟩
          have hk5' : Gr wd V5 := by rw [← hV5]; exact Gr.alloc _ _
          have hk5 : Below w5.heap.size wd V5 := Below.mono hk5' (Below.size hgdd.out)
          have hl5 : V5.heap[wd.heap.size]? = some (.cells #[.int .i64 0, .int .i64 0, .int .i64 rk, .int .i64 rc, .string (bs ry), .int .i64 rg, .int .i64 ro, .int .i64 rs, .int .i64 ri, .int .i64 rz, .string (bs ru), .slice rA ld rcap] 39 (0, 0)) := by rw [← hV5]; exact heap_alloc_new _ _
          rw [hV5]
          obtain ⟨P5, hP5⟩ : ∃ n, wd.heap.size = n := ⟨_, rfl⟩
          rw [hP5] at hl5 ⊢
          have hlt5 := Lib.hid hl5
          have hq5 : Hid (Gr w5 V5) := Lib.hid (Below.trans hgdd.out hk5)
          replace hV5 := Lib.hid hV5
          replace hP5 := Lib.hid hP5
          clear hl5 hk5 hk5'
          try simp only [Act.put, List.setIfInBounds_toArray, List.set_cons_zero, List.set_cons_succ]
          refine wpR_one 0 rfl (by kernel_rfl) (by kernel_rfl) (fun K hK => ?_)
          go_simp
          refine hK _ _ (fun _ => Below.mono (Gr.alloc _ _) (Below.size hq5.out)) ?_
          clear hK K
          obtain ⟨V0, hV0⟩ : ∃ x, V5.alloc (.cells #[] 39) = x := ⟨_, rfl⟩
          have hk0 : Below w5.heap.size V5 V0 := by rw [← hV0]; exact Below.mono (Gr.alloc _ _) (Below.size hq5.out)
          have hO0 := OF.lit0 hV0 (base := w5.heap.size) (Below.size hq5.out)
          rw [hV0]
          obtain ⟨P0, hP0⟩ : ∃ n, V5.heap.size = n := ⟨_, rfl⟩
          have hne05 : Hid (P0 ≠ P5) := Lib.hid (by have := blk_lt hlt5.out; omega)
          have hlt0 := Lib.hid ((blk_below hlt5.out (show Gr V5 V0 by rw [← hV0]; exact Gr.alloc _ _)))
          rw [hP0] at hO0 ⊢
          have hOF0 := Lib.hid hO0
          have hq0 : Hid (Gr w5 V0) := Lib.hid (Below.trans hq5.out hk0)
          replace hV0 := Lib.hid hV0
          replace hP0 := Lib.hid hP0
          clear hO0 hk0
          try simp only [Act.put, List.setIfInBounds_toArray, List.set_cons_zero, List.set_cons_succ]
          refine wpR_one 2 rfl (by kernel_rfl) (by kernel_rfl) (fun K hK => ?_)
          have hfs2 := Lib.hid (FsV.gr hq0.out hL5).out
          refine wp_appF (.tmp 48) (.tmp 49) rfl w5.heap.size (.slice (some ⟨P0, 0, none⟩) 0 0) [] EL rfl hOF0.out A m c hlL.out rfl hfs2.out.reads (OF.apt hL5.out hq0.out hOF0.out (Nat.le_refl _)) (by decide) (by omega) (Below.size hq0.out) ?_
          intro vv V2 hOO hgg hk2
          obtain ⟨Aa, ca, rfl, -, -⟩ := hOO.form
          have hla : ([] ++ EL).length = m := hlL.out
          clear hfs2
          refine hK _ _ (fun _ => hk2) ?_
          clear hK K
          rw [hla] at hOO ⊢
          have hOF2 := Lib.hid hOO
          have hq2 : Hid (Gr w5 V2) := Lib.hid (Below.trans hq0.out hk2)
          have hlt2 := Lib.hid ((hgg.block P5 (blk_lt hlt0.out) (fun e => hne05.out (by injection e with e; exact e.symm))).trans hlt0.out)
          replace hla := Lib.hid hla
          clear hOO hgg hk2
          try simp only [Act.put, List.setIfInBounds_toArray, List.set_cons_zero, List.set_cons_succ]
          refine wpR_one 6 rfl (by kernel_rfl) (by kernel_rfl) (fun K hK => ?_)
          have hrd6 : Reads V2 V2.heap.size 12 (some ⟨P5, 0, none⟩) [x].length (flatF [x]) := by
            rw [flatF_one1]
            refine ⟨rfl, fun _ => ⟨_, rfl, blk_lt hlt2.out, fun j u hu => ?_⟩⟩
            rw [addr0]
            refine blk_cell hlt2.out ?_
            rw [← hxc.out, List.getElem?_toArray]
            exact hu
          have hxq : ∀ y ∈ [x], FeV y V2 ∧ AptF y (.slice Aa m ca : Value).ownBlock := fun y hy => by
            rw [List.mem_singleton] at hy
            subst hy
            refine ⟨hxb.out _ (hw5.out.trans hq2.out), ?_⟩
            cases hu : (Value.slice Aa m ca).ownBlock with
            | none => exact AptF.none_ _
            | some k => exact (hxb.out _ hw5.out).fresh (World.ownsRow.lt hOF2.out.row k hu).1
          refine wp_appF (.tmp 50) (.tmp 53) rfl w5.heap.size (.slice Aa m ca) ([] ++ EL) [x] rfl hOF2.out (some ⟨P5, 0, none⟩) 1 1 rfl rfl hrd6 hxq (by have := hla.out; omega) (by decide) (Below.size hq2.out) ?_
          intro vv V6 hOO hgg hk6
          obtain ⟨Ab, cb, rfl, -, -⟩ := hOO.form
          refine hK _ _ (fun _ => hk6) ?_
          clear hK K
          have hbs := Lib.hid (bestV_any ([] ++ EL ++ [x]) _ V6 hOO.fs hokx (by have := hla.out; rw [List.length_append]; simp only [List.length_singleton]; omega))
          rw [hcE.out, hmg.out] at hbs
          obtain ⟨m6, hm6⟩ : ∃ k, ([] ++ EL ++ [x]).length = k := ⟨_, rfl⟩
          rw [hm6] at hbs ⊢
          replace hm6 := Lib.hid hm6
          have hq6 : Hid (Gr w5 V6) := Lib.hid (Below.trans hq2.out hk6)
          clear hOO hgg hk6 hrd6 hxq
          try simp only [Act.put, List.setIfInBounds_toArray, List.set_cons_zero, List.set_cons_succ]
          refine wpR_one 7 rfl (by kernel_rfl) (by kernel_rfl) (fun K hK => ?_)
          go_simp
          refine hbs.out.mono ?_
          rintro e V7 ⟨A7, c7, Z7, rfl, hI7, hZ7, hk7'⟩
          have hk7 : Below w5.heap.size V6 V7 := Below.mono hk7' (Below.size hq6.out)
          refine hK _ _ (fun _ => hk7) ?_
          clear hK K
          clear hbs
          have hz7 := Lib.hid (hI7.out.uniq hI2.out)
          have hn7 : Z7.length = n2 := by
            have := congrArg List.length hz7.out
            rw [List.length_map, List.length_map, hn2.out] at this
            exact this
          rw [hn7] at hZ7 ⊢
          replace hn7 := Lib.hid hn7
          have hq7 : Hid (Gr w5 V7) := Lib.hid (Below.trans hq6.out hk7)
          clear hk7 hk7'
          try simp only [Act.put, List.setIfInBounds_toArray, List.set_cons_zero, List.set_cons_succ]
          refine wpR_take (i := 8) (v := ?_) (⟨fun x => Below.refl _ x, fun h1 h2 => h1.trans h2⟩) (some 47) rfl (by kernel_rfl) (by kernel_rfl) (by kernel_rfl) (by kernel_rfl) (by kernel_rfl) (fun _ _ _ h => h) (by kernel_rfl) (fun w' hw' => ?_) ?_
          rotate_left
          · go_simp; with_reducible rfl
          simp only [Act.put, List.setIfInBounds_toArray, List.set_cons_zero, List.set_cons_succ]
          refine wpR_take (i := 9) (v := ?_) (⟨fun x => Below.refl _ x, fun h1 h2 => h1.trans h2⟩) (some 56) rfl (by kernel_rfl) (by kernel_rfl) (by kernel_rfl) (by kernel_rfl) (by kernel_rfl) (fun _ _ _ h => h) (by kernel_rfl) (fun w' hw' => ?_) ?_
          rotate_left
          · go_simp; with_reducible rfl
          simp only [Act.put, List.setIfInBounds_toArray, List.set_cons_zero, List.set_cons_succ]
          refine wpR_take (i := 10) (v := ?_) (⟨fun x => Below.refl _ x, fun h1 h2 => h1.trans h2⟩) (some 57) rfl (by kernel_rfl) (by kernel_rfl) (by kernel_rfl) (by kernel_rfl) (by kernel_rfl) (fun _ _ _ h => h) (by kernel_rfl) (fun w' hw' => ?_) ?_
          rotate_left
          · go_simp; with_reducible rfl
          simp only [Act.put, List.setIfInBounds_toArray, List.set_cons_zero, List.set_cons_succ]
          refine wpR_take (i := 11) (v := ?_) (⟨fun x => Below.refl _ x, fun h1 h2 => h1.trans h2⟩) (some 11) rfl (by kernel_rfl) (by kernel_rfl) (by kernel_rfl) (by kernel_rfl) (by kernel_rfl) (fun _ _ _ h => h) (by kernel_rfl) (fun w' hw' => ?_) ?_
          rotate_left
          · go_simp; with_reducible rfl
          simp only [Act.put, List.setIfInBounds_toArray, List.set_cons_zero, List.set_cons_succ]
          refine wpR_take (i := 12) (v := ?_) (⟨fun x => Below.refl _ x, fun h1 h2 => h1.trans h2⟩) (some 12) rfl (by kernel_rfl) (by kernel_rfl) (by kernel_rfl) (by kernel_rfl) (by kernel_rfl) (fun _ _ _ h => h) (by kernel_rfl) (fun w' hw' => ?_) ?_
          rotate_left
          · go_simp; with_reducible rfl
          simp only [Act.put, List.setIfInBounds_toArray, List.set_cons_zero, List.set_cons_succ]
          refine wpR_done (by kernel_rfl) ?_ _
          go_wp2_with fail
          go_meet
          exact ⟨A7, c7, Z7, rfl, rfl, hz7, hZ7, hq7⟩
      case rest =>
        obtain ⟨A7, c7, Z7, rfl, rfl, hz7, hZ7, hg7⟩ := hcut
        rename World => w7
        have hgz : Hid (Gr w2 w7) := Lib.hid (hgm3.out.trans (hg4.out.trans (hg5.out.trans hg7.out)))
        have hal7 : Hid (∀ x, Gr w7 x → Calls Try.prog 13 #[.slice A2 n2 c2, .slice A7 n2 c7] x fun e w' => e = .returned (.bool true) ∧ Gr x w') := Lib.hid (fun x hx => alikeE_any (Z2.map (fun x => x.e)) Z2 Z7 A2 c2 A7 c7 n2 (by rw [List.length_map]; exact hn2.out) rfl hz7.out x (EsV.gr (hgz.out.trans hx) hZ2).out (EsV.gr hx hZ7).out)
        go_wp2_with (first
          | (go_at_call 12; go_must (refine (hawk.out _).mono ?_); rintro e w8 ⟨rfl, hg8⟩; have hg8' := Lib.hid hg8; replace hg8 := Lib.hid hg8)
          | (go_at_call 13; go_must (refine (hal7.out _ hg8'.out).mono ?_); rintro e w9 ⟨rfl, hg9⟩; replace hg9 := Lib.hid hg9))
        go_ret
        exact ⟨rfl, hw5.out.trans (hg7.out.trans (hg8'.out.trans hg9.out))⟩
end Go.Proofs.Ytiliggleplpjbaa
