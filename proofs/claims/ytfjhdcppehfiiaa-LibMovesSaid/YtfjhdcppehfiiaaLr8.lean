/- lib: the reference's library: New. -/
import Derived.Test.YtfjhdcppehfiiaaLr7
namespace Go.Proofs.Ytfjhdcppehfiiaa
set_option linter.unusedVariables false
set_option linter.unusedSimpArgs false
open Go Go.RowKit
theorem info_dR : (Try.prog.info? 85).map (fun i => (i.zero, i.size, i.bytes)) = some (some (.agg #[.int .i64 0, .int .i64 0, .bool false]), 3, 24) := by kernel_rfl
theorem wpl_appDR {w : World} {ops : Array Oper} {rest : List Oper} {o : Oper} {a : Act} {Q : Exit → Act → World → Prop} (hgd : o.guard = none) (s x : Operand)
    (ho : o.op = .call { callee := .builtin .append, args := #[s, x], argTypes := #[77, 77] })
    (base : Nat) (v : Value) (D : List RD) (hs : a.eval s = v) (hown : w.ownsRow base 85 3 v D.length (flatR D)) (A : Option Addr) (c B : Nat) (d : RD) (hx : a.eval x = .slice A 1 c) (hr : Reads w B 3 A 1 (encR d))
    (hlen : D.length ≤ 100000) (hbase : base ≤ w.heap.size)
    (h : ∀ v' w', w'.ownsRow base 85 3 v' (D ++ [d]).length (flatR (D ++ [d])) → w.grownBy w' v.ownBlock → wpList Try.prog ops Q rest (a.put o.dst v') w') : wpList Try.prog ops Q (o :: rest) a w := by
  obtain ⟨i0, hi, hz0, hz1, hz2⟩ := info_parts info_dR
  refine wpList_plain hgd fun _ hK => wp_append_any w s x 77 ho base 85 i0 _ 3 24 Try.underlying77 hi hz0 hz1 hz2 rfl (by omega) v D.length _ hs hown B A 1 c (encR d) hx hr (one_r _ _ _)
    (by simp only [maxLen]; omega) (by omega) hbase fun v' w' h2 h3 h4 => hK _ _ (h v' w' ?_ h3)
  rw [List.length_append, flatR_app]; exact h2
theorem lit_dR (w : World) (d : RD) : Reads (w.alloc (.cells #[.int .i64 d.cart, .int .i64 d.pos, .bool d.works] 85)) (w.heap.size + 1) 3 (some ⟨w.heap.size, 0, none⟩) 1 (encR d) := by
  have hh := World.news_of_block (heap_alloc_new w (.cells #[.int .i64 d.cart, .int .i64 d.pos, .bool d.works] 85))
  exact ⟨rfl, fun _ => ⟨_, rfl, Nat.lt_succ_self _, fun j u hu => hh j u hu⟩⟩
theorem rdrive_end {wr w8 : World} {lo g k c8 n8 : Nat} {Ad A8 : Option Addr} {cd : Nat} {vc va : Value} {C : List Nat} {D : List RD} {L : List Nat} {cc : Array Value} {T : TypeId}
    (h : Hid (Lr wr lo g vc (.slice Ad k cd) va C D L)) (hr8 : w8.ownsRow lo 85 3 (.slice A8 n8 c8) n8 (flatR (D ++ [⟨-1, 0, true⟩]))) (hn8 : (D ++ [(⟨-1, 0, true⟩ : RD)]).length = n8)
    (hg8 : (wr.alloc (.cells cc T)).grownBy w8 (Value.slice Ad k cd).ownBlock)
    (hb8 : w8.heap[g]? = some (.cells #[vc, .slice Ad k cd, va] 80 (0, 0))) (hk : D.length < 4) :
    Lr (w8.setCell ⟨g, 1, none⟩ (.slice A8 n8 c8)) lo g vc (.slice A8 n8 c8) va C (D ++ [⟨-1, 0, true⟩]) L ∧ TChg lo rlts wr (w8.setCell ⟨g, 1, none⟩ (.slice A8 n8 c8)) := by
  have hro := row_below h.out.drives (alloc_gr wr (.cells cc T))
  have t1 : TChg lo [85] wr w8 := (TChg.of_below (alloc_gr wr _)).trans (TChg.of_row hro hg8 (by simp))
  have t2 : TChg lo [80] w8 (w8.setCell ⟨g, 1, none⟩ (.slice A8 n8 c8)) := TChg.of_set hb8 (by simp) h.out.lg 1 _
  refine ⟨⟨blk_set hb8 1 _, h.out.lg, row_tchg (row_tchg h.out.carts t1 (by decide)) t2 (by decide), ?_, row_tchg (row_tchg h.out.asked t1 (by decide)) t2 (by decide), h.out.lc, by rw [List.length_append]; simp; omega, fun k hk => by rw [List.length_append]; have := h.out.la k hk; omega⟩, (t1.mono (Nat.le_refl _) (by simp)).trans (t2.mono (Nat.le_refl _) (by simp))⟩
  rw [hn8]
  exact row_tchg hr8 t2 (by decide)
set_option maxRecDepth 10000 in
theorem rclamp_in (n m : Nat) (hnm : n ≤ m) (w : World) : Calls Try.prog 35 #[.int .i64 n, .int .i64 m] w fun e w' => e = .returned (.int .i64 n) ∧ w' = w := by
  have i1 : decide ((n : Int) < 0) = false := decide_eq_false (by omega)
  have i2 : decide ((m : Int) < (n : Int)) = false := decide_eq_false (by omega)
  go_enter Try.func35, Try.ntmps35
  go_wp2_with fail
  go_ret
  exact ⟨rfl, rfl⟩
set_option maxHeartbeats 4000000 in
set_option maxRecDepth 10000 in
theorem rnew_li (nc nd : Nat) (z : Int) (hz : I64 z) (hc : nc ≤ 32) (hd : nd ≤ 4) (w : World) : Calls Try.prog 24 #[.int .i64 nc, .int .i64 z, .int .i64 nd] w fun e w' => ∃ g C SS, e = .returned (.pointer (some ⟨g, 0, none⟩)) ∧ C.length = nc ∧ Hid (Rl w' w.heap.size g C SS 0) ∧ Below w.heap.size w w' := by
  obtain ⟨lo, hlo⟩ : ∃ lo, w.heap.size = lo := ⟨_, rfl⟩
  rw [hlo]
  obtain ⟨gl, hgl⟩ : ∃ gl, w.heap.size = gl := ⟨_, rfl⟩
  have hlb1 : Lr (w.alloc (.cells #[.slice none 0 0, .slice none 0 0, .slice none 0 0] 80)) lo gl (.slice none 0 0) (.slice none 0 0) (.slice none 0 0) [] [] [] := ⟨by rw [← hgl]; exact heap_alloc_new w _, by omega, World.ownsRow_nil _ _ _ 1, World.ownsRow_nil _ _ _ 3, World.ownsRow_nil _ _ _ 1, Nat.zero_le _, Nat.zero_le _, fun k hk => by cases hk⟩
  have hP0 : Hid (PR 0 []) := Lib.hid (fun d hd => by cases hd)
  have hR1 : Hid (Rl (w.alloc (.cells #[.slice none 0 0, .slice none 0 0, .slice none 0 0] 80)) lo gl [] [] 0) := Lib.hid ⟨⟨_, _, _, _, _, hlb1, hP0.out, Nat.le_refl 0⟩, rfl, fun i b s hb => by simp at hb, fun i j b b' hij hb => by simp at hb⟩
  replace hlb1 := Lib.hid hlb1
  have hb1 : Hid (Below lo w (w.alloc (.cells #[.slice none 0 0, .slice none 0 0, .slice none 0 0] 80))) := Lib.hid (by rw [← hlo]; exact alloc_gr _ _)
  have hle : Hid (∀ x, Below lo w x → lo ≤ x.heap.size) := Lib.hid (fun x h => by rw [← hlo]; exact h.size)
  have hcl1 : Hid (∀ w, Calls Try.prog 35 #[.int .i64 nc, .int .i64 32] w fun e w' => e = .returned (.int .i64 nc) ∧ w' = w) := Lib.hid (rclamp_in nc 32 hc)
  have hcl2 : Hid (∀ w, Calls Try.prog 35 #[.int .i64 nd, .int .i64 4] w fun e w' => e = .returned (.int .i64 nd) ∧ w' = w) := Lib.hid (rclamp_in nd 4 hd)
  replace hlo := Lib.hid hlo
  go_enter Try.func24, Try.ntmps24
  go_wp2_with fail
  go_loopw [8] (fun q wr => ∃ (i : Nat) (vc : Value) (C : List Nat) (SS : List CS), q = .int .i64 i ∧ i ≤ nc ∧ Hid (C.length = i) ∧ Hid (Lr wr lo gl vc (.slice none 0 0) (.slice none 0 0) C [] []) ∧ Hid (Rl wr lo gl C SS 0) ∧ Hid (Below lo w wr)) (fun q _ => nc - (intOf q).toNat)
  case atStart => exact ⟨0, _, [], [], rfl, Nat.zero_le _, Lib.hid rfl, hlb1, hR1, hb1⟩
  case round =>
    obtain ⟨i, vc, C, SS, rfl, hi, hCl, hlb, hRl, hgr⟩ := hrel
    clear hlb1 hb1 hR1
    by_cases hlt : i < nc
    · have ii : (i : Int) < (nc : Int) := by omega
      obtain ⟨Ac, cc, -, -, -, -, rfl, -, -⟩ := hlb.out.form
      rw [hCl.out] at hlb
      obtain ⟨wd, hwd⟩ : ∃ wd, wd = wr.drew := ⟨_, rfl⟩
      have hgd : Hid (Below wr.heap.size wr wd) := Lib.hid (by rw [hwd]; exact (Below.refl _ _).drew)
      have hd := Lr.gr hgd.out hlb
      have hRd : Hid (Rl wd lo gl C SS 0) := Lib.hid (hRl.out.gr hgd.out (Nat.le_refl _))
      obtain ⟨B0, hB0⟩ : ∃ B0, wd.heap.size = B0 := ⟨_, rfl⟩
      have hB : Hid (B0 ≤ wd.heap.size) := Lib.hid (by omega)
      have hgB : Hid (gl < B0) := Lib.hid (by rw [← hB0]; exact blk_lt hd.out.blk)
      have hlod : Hid (lo ≤ wd.heap.size) := Lib.hid (Nat.le_trans (hle.out _ hgr.out) hgd.out.size)
      have hltH : Hid (C.length < 32) := Lib.hid (by rw [hCl.out]; omega)
      have hgrd : Hid (Below lo w wd) := Lib.hid (hgr.out.trans (hgd.out.mono (hle.out _ hgr.out)))
      replace hB0 := Lib.hid hB0
      clear hlb hRl
      go_upto_region 5 with (go_at_call 35; go_must (refine (hcl1.out _).mono ?_); rintro e w' ⟨rfl, hee⟩; rw [hee]; clear hee)
      refine wpR_region (Below B0) 8 (by kernel_rfl) ?_
      (rw [← hwd]; replace hwd := Lib.hid hwd)
      refine wpR_takeU (i := 0) (v := ?_) (⟨fun x => Below.refl _ x, fun h1 h2 => h1.trans h2⟩) (some 18) rfl (by kernel_rfl) (by kernel_rfl) (by kernel_rfl) (by kernel_rfl) (fun _ _ _ h => h) (by kernel_rfl) (fun w' => ?_) ?_
      rotate_left
      · go_simp; with_reducible rfl
      simp only [Act.put, List.setIfInBounds_toArray, List.set_cons_zero, List.set_cons_succ]
      refine wpR_takeU (i := 1) (v := ?_) (⟨fun x => Below.refl _ x, fun h1 h2 => h1.trans h2⟩) (some 19) rfl (by kernel_rfl) (by kernel_rfl) (by kernel_rfl) (by kernel_rfl) (fun _ _ _ h => h) (by kernel_rfl) (fun w' => ?_) ?_
      rotate_left
      · go_simp; with_reducible rfl
      simp only [Act.put, List.setIfInBounds_toArray, List.set_cons_zero, List.set_cons_succ]
      refine wpR_takeU (i := 2) (v := ?_) (⟨fun x => Below.refl _ x, fun h1 h2 => h1.trans h2⟩) (some 20) rfl (by kernel_rfl) (by kernel_rfl) (by kernel_rfl) (by kernel_rfl) (fun _ _ _ h => h) (by kernel_rfl) (fun w' => ?_) ?_
      rotate_left
      · go_simp; with_reducible rfl
      simp only [Act.put, List.setIfInBounds_toArray, List.set_cons_zero, List.set_cons_succ]
      refine wpR_takeU (i := 3) (v := ?_) (⟨fun x => Below.refl _ x, fun h1 h2 => h1.trans h2⟩) (some 21) rfl (by kernel_rfl) (by kernel_rfl) (by kernel_rfl) (by kernel_rfl) (fun _ _ _ h => h) (by kernel_rfl) (fun w' => ?_) ?_
      rotate_left
      · go_simp; with_reducible rfl
      simp only [Act.put, List.setIfInBounds_toArray, List.set_cons_zero, List.set_cons_succ]
      refine wpR_take (i := 4) (v := ?_) (⟨fun x => Below.refl _ x, fun h1 h2 => h1.trans h2⟩) (some 22) rfl (by kernel_rfl) (by kernel_rfl) (by kernel_rfl) (by kernel_rfl) (by kernel_rfl) (fun _ _ _ h => h) (by kernel_rfl) (fun w' hw' => ?_) ?_
      rotate_left
      · have qb := (hw'.block gl hgB.out).trans hd.out.blk; have qc := blk_cell (j := 0) (v := .slice Ac i cc) qb rfl; go_simp; with_reducible rfl
      simp only [Act.put, List.setIfInBounds_toArray, List.set_cons_zero, List.set_cons_succ]
      refine wpR_takeU (i := 5) (v := ?_) (⟨fun x => Below.refl _ x, fun h1 h2 => h1.trans h2⟩) (some 23) rfl (by kernel_rfl) (by kernel_rfl) (by kernel_rfl) (by kernel_rfl) (fun _ _ _ h => h) (by kernel_rfl) (fun w' => ?_) ?_
      rotate_left
      · go_simp; with_reducible rfl
      simp only [Act.put, List.setIfInBounds_toArray, List.set_cons_zero, List.set_cons_succ]
      refine wpR_one 6 rfl (by kernel_rfl) (by kernel_rfl) (fun K hK => ?_)
      go_simp
      refine (rnew_any z hz wd).mono ?_
      rintro e w5 ⟨rfl, hct, hb5⟩
      refine hK _ _ (fun _ => hb5.mono hB.out) ?_
      clear hK K
      replace hct := Lib.hid hct
      have h5 := Lr.gr hb5 hd
      have hsz5 : Hid (lo ≤ w5.heap.size) := Lib.hid (Nat.le_trans hlod.out hb5.size)
      have hB5 : Hid (B0 ≤ w5.heap.size) := Lib.hid (Nat.le_trans hB.out hb5.size)
      replace hb5 := Lib.hid hb5
      try simp only [Act.put, List.setIfInBounds_toArray, List.set_cons_zero, List.set_cons_succ]
      refine wpR_one 7 rfl (by kernel_rfl) (by kernel_rfl) (fun K hK => ?_)
      go_simp
      refine hK _ _ (fun _ => (Below.refl B0 w5).alloc hB5.out _) ?_
      clear hK K
      try simp only [Act.put, List.setIfInBounds_toArray, List.set_cons_zero, List.set_cons_succ]
      refine wpR_one 8 rfl (by kernel_rfl) (by kernel_rfl) (fun K hK => ?_)
      refine wp_appCR (.tmp 22) (.tmp 25) rfl lo (.slice Ac i cc) C rfl (row_below h5.out.carts (alloc_gr _ _)) (some ⟨w5.heap.size, 0, none⟩) 1 (w5.heap.size + 1) wd.heap.size rfl (lit_cR w5 wd.heap.size) (by have := h5.out.lc; omega) (Nat.le_trans hsz5.out (by simp)) ?_
      intro v8 w8 hr8 hg8
      refine hK _ _ (fun h => absurd h (by decide)) ?_
      clear hK K
      obtain ⟨A8, c8, rfl, -, -⟩ := row_form hr8
      generalize hn8 : (C ++ [wd.heap.size]).length = n8 at hr8 ⊢
      replace hn8 := Lib.hid hn8
      have hb8 : w8.heap[gl]? = some (.cells #[.slice Ac i cc, .slice none 0 0, .slice none 0 0] 80 (0, 0)) := blk_grow (blk_alloc h5.out.blk (.cells #[.pointer (some ⟨wd.heap.size, 0, none⟩)] 82)) hg8 (row_ne (row_below h5.out.carts (alloc_gr w5 (.cells #[.pointer (some ⟨wd.heap.size, 0, none⟩)] 82))) (blk_alloc h5.out.blk _) (by decide))
      have k0 := blk_cell (j := 0) hb8 rfl
      have f0 := blk_free hb8 0
      have hend := Lib.hid (radd_end hRd hP0 (show ([] : List Nat).length ≤ 0 from Nat.le_refl 0) hlod.out hb5 h5 hct hr8 hg8 hb8 hn8.out hltH.out)
      clear hb8 hg8
      try simp only [Act.put, List.setIfInBounds_toArray, List.set_cons_zero, List.set_cons_succ]
      refine wpR_takeU (i := 9) (v := ?_) (⟨fun x => Below.refl _ x, fun h1 h2 => h1.trans h2⟩) (some 27) rfl (by kernel_rfl) (by kernel_rfl) (by kernel_rfl) (by kernel_rfl) (fun _ _ _ h => h) (by kernel_rfl) (fun w' => ?_) ?_
      rotate_left
      · go_simp; with_reducible rfl
      simp only [Act.put, List.setIfInBounds_toArray, List.set_cons_zero, List.set_cons_succ]
      refine wpR_take (i := 10) (v := ?_) (⟨fun x => Below.refl _ x, fun h1 h2 => h1.trans h2⟩) (some 28) rfl (by kernel_rfl) (by kernel_rfl) (by kernel_rfl) (by kernel_rfl) (by kernel_rfl) (fun _ _ _ h => h) (by kernel_rfl) (fun w' hw' => ?_) ?_
      rotate_left
      · go_simp; with_reducible rfl
      simp only [Act.put, List.setIfInBounds_toArray, List.set_cons_zero, List.set_cons_succ]
      refine wpR_one 11 rfl (by kernel_rfl) (by kernel_rfl) (fun K hK => ?_)
      go_simp
      refine hK _ _ (fun h => absurd h (by decide)) ?_
      clear hK K
      try simp only [Act.put, List.setIfInBounds_toArray, List.set_cons_zero, List.set_cons_succ]
      refine wpR_done (by kernel_rfl) ?_ _
      have hn9 : n8 = i + 1 := by have := hn8.out; have := hCl.out; simp at *; omega
      subst hn9
      clear k0 f0
      go_wp2_with fail
      go_roundw
      case rel => exact ⟨i + 1, _, _, _, by go_num, by omega, hn8, Lib.hid hend.out.1, Lib.hid hend.out.2.1, Lib.hid (hgrd.out.trans (hend.out.2.2.below hlod.out))⟩
      case measure => simp [intOf]; omega
    · obtain rfl : i = nc := by omega
      have ii : decide ((i : Int) < (i : Int)) = false := decide_eq_false (by omega)
      go_wp2_with (go_at_call 35; go_must (refine (hcl1.out _).mono ?_); rintro e w' ⟨rfl, hee⟩; rw [hee]; clear hee)
      go_loopw [9] (fun q wr => ∃ (k : Nat) (vd : Value) (D : List RD), q = .int .i64 k ∧ k ≤ nd ∧ Hid (D.length = k) ∧ Hid (Lr wr lo gl vc vd (.slice none 0 0) C D []) ∧ Hid (PR 0 D) ∧ Hid (Rl wr lo gl C SS 0) ∧ Hid (Below lo w wr)) (fun q _ => nd - (intOf q).toNat)
      case atStart => exact ⟨0, _, [], rfl, Nat.zero_le _, Lib.hid rfl, hlb, hP0, hRl, hgr⟩
      case round =>
        clear hlb hRl hgr
        obtain ⟨k, vd, D, rfl, hk, hDk, hlb, hPk, hRl, hgr⟩ := hrel
        by_cases hlt : k < nd
        · have kk : (k : Int) < (nd : Int) := by omega
          have hk4 : Hid (D.length < 4) := Lib.hid (by rw [hDk.out]; omega)
          have hlow := Lib.hid (hle.out _ hgr.out)
          obtain ⟨-, -, Ad, cd, -, -, -, rfl, -⟩ := hlb.out.form
          rw [hDk.out] at hlb
          have c0 := blk_cell (j := 1) hlb.out.blk rfl
          have hbA := Lib.hid (blk_alloc hlb.out.blk (.cells #[.int .i64 (-1), .int .i64 0, .bool true] 85))
          have hneA := Lib.hid (row_ne (row_below hlb.out.drives (alloc_gr wr (.cells #[.int .i64 (-1), .int .i64 0, .bool true] 85))) hbA.out (by decide))
          go_wp2_with (first
            | (go_at_call 35; go_must (refine (hcl2.out _).mono ?_); rintro e w' ⟨rfl, hee⟩; rw [hee]; clear hee)
            | (at_builtin; go_must (refine wpl_appDR rfl (.tmp 39) (.tmp 41) rfl lo (.slice Ad k cd) D rfl (row_below hlb.out.drives (alloc_gr wr (.cells #[.int .i64 (-1), .int .i64 0, .bool true] 85))) (some ⟨wr.heap.size, 0, none⟩) 1 (wr.heap.size + 1) ⟨-1, 0, true⟩ rfl (lit_dR wr ⟨-1, 0, true⟩) (by have := hk4.out; omega) (Nat.le_trans hlow.out (by simp)) ?_); intro v8 w8 hr8 hg8; obtain ⟨A8, c8, rfl, -, -⟩ := row_form hr8; generalize hn8 : (D ++ [(⟨-1, 0, true⟩ : RD)]).length = n8 at hr8 ⊢; have hb8 := blk_grow hbA.out hg8 hneA.out; have hend := Lib.hid (rdrive_end hlb hr8 hn8 hg8 hb8 hk4.out); have k8 := blk_cell (j := 1) hb8 rfl; have f8 := blk_free hb8 1; replace hn8 := Lib.hid hn8; clear hr8 hg8 hb8))
          go_roundw
          case rel => exact ⟨k + 1, _, _, by go_num, by omega, Lib.hid (by rw [List.length_append, hDk.out]; rfl), Lib.hid hend.out.1, Lib.hid (fun d hd => by
            rcases List.mem_append.1 hd with hd | hd
            · exact hPk.out d hd
            · rw [List.mem_singleton.1 hd]; exact ⟨Int.le_refl 0, by decide⟩), Lib.hid (hRl.out.tchg hend.out.2 (by decide) (by decide) (by decide) ⟨_, _, _, _, _, hend.out.1, (fun d hd => by
            rcases List.mem_append.1 hd with hd | hd
            · exact hPk.out d hd
            · rw [List.mem_singleton.1 hd]; exact ⟨Int.le_refl 0, by decide⟩), Nat.le_refl 0⟩), Lib.hid (hgr.out.trans (hend.out.2.below hlow.out))⟩
          case measure => simp [intOf]; omega
        · obtain rfl : k = nd := by omega
          have kk : decide ((k : Int) < (k : Int)) = false := decide_eq_false (by omega)
          go_wp2_with (go_at_call 35; go_must (refine (hcl2.out _).mono ?_); rintro e w' ⟨rfl, hee⟩; rw [hee]; clear hee)
          go_ret
          exact ⟨gl, C, SS, rfl, hCl.out, hRl, hgr.out⟩
end Go.Proofs.Ytfjhdcppehfiiaa
