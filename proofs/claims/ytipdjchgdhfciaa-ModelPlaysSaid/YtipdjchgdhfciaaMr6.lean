/- model: the reference's Put. -/
import Derived.Test.YtipdjchgdhfciaaMr5
namespace Go.Proofs.Ytipdjchgdhfciaa
set_option linter.unusedVariables false
set_option linter.unusedSimpArgs false
open Go Go.RowKit Go.Maps Go.Sort
theorem own_one (w : World) (base : Nat) (k d : List UInt8) (hb : base ≤ w.heap.size) : (w.alloc (.cells #[.string (bs k), .string (bs d)] 63)).ownsRow base 63 2 (.slice (some ⟨w.heap.size, 0, none⟩) 1 1) [((k, d) : Pr)].length (flatP [(k, d)]) :=
  ⟨by simp [flatP, encP], .inr ⟨w.heap.size, 1, _, rfl, hb, heap_alloc_new w _, by simp, by decide, by simp, by simp [flatP, encP]⟩⟩
theorem wpl_appP {w : World} {ops : Array Oper} {rest : List Oper} {o : Oper} {a : Act} {Q : Exit → Act → World → Prop} (hgd : o.guard = none) (s x : Operand)
    (ho : o.op = .call { callee := .builtin .append, args := #[s, x], argTypes := #[26, 26] })
    (base : Nat) (v : Value) (l : List Pr) (hs : a.eval s = v) (hown : w.ownsRow base 63 2 v l.length (flatP l)) (A : Option Addr) (c : Nat) (news : List Pr) {m : Nat} (hx : a.eval x = .slice A m c) (hr : Reads w w.heap.size 2 A m (flatP news))
    (hlen : l.length + news.length ≤ 1000000) (hbase : base ≤ w.heap.size)
    (h : ∀ v' w', w'.ownsRow base 63 2 v' (l ++ news).length (flatP (l ++ news)) → w.grownBy w' v.ownBlock → wpList Try.prog ops Q rest (a.put o.dst v') w') : wpList Try.prog ops Q (o :: rest) a w :=
  wpList_plain hgd fun _ hK => wp_appP s x ho base v l hs hown A c news hx hr hlen hbase fun v' w' h1 h2 => hK _ _ (h v' w' h1 h2)
set_option maxHeartbeats 8000000 in
set_option maxRecDepth 10000 in
theorem rput_yes (lo g : Nat) (v : Value) (R : List Pr) (hr : Rise R) (hR : R.length ≤ 1000) (k d : List UInt8) (Ad : Option Addr) (nd cd : Nat) (hd : d.length = nd) (hk1 : 1 ≤ k.length) (hk2 : k.length ≤ 16) (hd5 : nd ≤ 512) (w : World) (h : Hid (Rm w lo g v R)) (hrd : Rd w w.heap.size Ad d) (hh : R.any (fun p => p.1 == k) = false) :
    Calls Try.prog 12 #[.pointer (some ⟨g, 0, none⟩), .string (bs k), .slice Ad nd cd] w fun e w' => e = .returned (.int .i64 0) ∧ (∃ v', Hid (Rm w' lo g v' (R.take (posR R k) ++ [(k, d)] ++ R.drop (posR R k)))) ∧ Upd (· = g) w w' := by
  have his := Lib.hid (ris_any lo g v R hr (by omega) k w h)
  rw [hh] at his
  have hpl : posR R k ≤ R.length := pos_le R k
  obtain ⟨A, c, rfl, hc, hm⟩ := row_form h.out.row
  obtain ⟨n, hn⟩ : ∃ n, R.length = n := ⟨_, rfl⟩
  obtain ⟨p, hp⟩ : ∃ p, posR R k = p := ⟨_, rfl⟩
  rw [hp] at his hpl ⊢
  rw [hn] at h hc hR hpl
  have hsz : (bs k).size = k.length := rfl
  have i1 : decide ((k.length : Int) < 1) = false := decide_eq_false (by omega)
  have i2 : decide ((16 : Int) < (k.length : Int)) = false := decide_eq_false (by omega)
  have i3 : decide ((512 : Int) < (nd : Int)) = false := decide_eq_false (by omega)
  have i1n : ¬ k.length < 1 := by omega
  have i2n : decide (16 < k.length) = false := decide_eq_false (by omega)
  have i3n : decide (512 < nd) = false := decide_eq_false (by omega)
  have i4 : k ≠ [] := fun e => by rw [e] at hk1; simp at hk1
  have ip2 : (p : Int) ≤ (n : Int) := by omega
  have ipc : (p : Int) ≤ (c : Int) := by omega
  have ip0 : (0 : Int) ≤ (p : Int) := by omega
  replace hn := Lib.hid hn
  replace hp := Lib.hid hp
  replace hd := Lib.hid hd
  replace hrd := Lib.hid hrd
  clear hh
  go_enter Try.func12, Try.ntmps12
  go_upto_region 8 with (go_at_call 26; go_must (refine his.out.mono ?_); rintro e w1 ⟨rfl, hg1⟩)
  obtain ⟨wd, hwd⟩ : ∃ wd, wd = w1.drew := ⟨_, rfl⟩
  have hgd : Hid (GrM w wd) := Lib.hid (by rw [hwd]; exact hg1.drew)
  have hrm := Rm.gr hgd.out h
  obtain ⟨B0, hB0⟩ : ∃ B0, wd.heap.size = B0 := ⟨_, rfl⟩
  have hblk := Lib.hid hrm.out.blk
  have hlow : Hid (lo ≤ g) := Lib.hid hrm.out.gl
  have hgB : g < B0 := by rw [← hB0]; exact blk_lt hrm.out.blk
  have hrow2 : wd.ownsRow lo 63 2 (.slice A n c) n (flatP R) := by have := hrm.out.row; rw [hn.out] at this; exact this
  have hrn := Reads.of_own hrow2
  rw [hB0] at hrn
  have htk : (flatP R).take (p * 2) = flatP (R.take p) := by
    conv => lhs; rw [← List.take_append_drop p R, flatP_app]
    rw [List.take_left' (by rw [flatP_len, List.length_take, hn.out]; omega)]
  have hdk : (flatP R).drop (p * 2) = flatP (R.drop p) := by
    conv => lhs; rw [← List.take_append_drop p R, flatP_app]
    rw [List.drop_left' (by rw [flatP_len, List.length_take, hn.out]; omega)]
  have hRt : Hid (Reads wd B0 2 A p (flatP (R.take p))) := Lib.hid (by rw [← htk]; exact hrn.take (by omega))
  have hRtl : Hid ((R.take p).length = p) := Lib.hid (by rw [List.length_take, hn.out]; omega)
  have hcut := hrn.cut (k := p) (cap := c) (by omega) hc
  rw [hdk] at hcut
  have hRd := Lib.hid hcut
  have hcv : Hid (∀ w', Below B0 wd w' → (convert 29 9 (.slice Ad nd cd)).run Try.prog w' = .ok (.string (bs d)) w') := Lib.hid (fun w' hb => run_str_at (n := nd) cd (((hrd.out.below hgd.out).more (by rw [← hB0]; exact RowKit.Below.size hgd.out)).below hb) hd.out)
  have hee : Hid (R.take p ++ [(k, d)] ++ R.drop p = R.take p ++ (k, d) :: R.drop p) := Lib.hid (by simp)
  have hqd : Hid (Below B0 wd wd) := Lib.hid (Below.refl _ _)
  have hzd : Hid (B0 ≤ wd.heap.size) := Lib.hid (by rw [hB0]; exact Nat.le_refl _)
  replace hB0 := Lib.hid hB0
  clear hcut htk hdk hrn hrow2 hg1
  refine wpR_region (Below B0) 9999 (by kernel_rfl) ?_
  (rw [← hwd]; replace hwd := Lib.hid hwd)
  refine wpR_take (i := 1) (v := ?_) (⟨fun x => Below.refl _ x, fun h1 h2 => h1.trans h2⟩) (some 29) rfl (by kernel_rfl) (by kernel_rfl) (by kernel_rfl) (by kernel_rfl) (by kernel_rfl) (fun _ _ _ h => h) (by kernel_rfl) (fun w' hw' => ?_) ?_
  rotate_left
  · go_simp; with_reducible rfl
  simp only [Act.put, List.setIfInBounds_toArray, List.set_cons_zero, List.set_cons_succ]
  refine wpR_take (i := 2) (v := ?_) (⟨fun x => Below.refl _ x, fun h1 h2 => h1.trans h2⟩) (some 30) rfl (by kernel_rfl) (by kernel_rfl) (by kernel_rfl) (by kernel_rfl) (by kernel_rfl) (fun _ _ _ h => h) (by kernel_rfl) (fun w' hw' => ?_) ?_
  rotate_left
  · go_simp; with_reducible rfl
  simp only [Act.put, List.setIfInBounds_toArray, List.set_cons_zero, List.set_cons_succ]
  refine wpR_take (i := 3) (v := ?_) (⟨fun x => Below.refl _ x, fun h1 h2 => h1.trans h2⟩) (some 31) rfl (by kernel_rfl) (by kernel_rfl) (by kernel_rfl) (by kernel_rfl) (by kernel_rfl) (fun _ _ _ h => h) (by kernel_rfl) (fun w' hw' => ?_) ?_
  rotate_left
  · go_simp; with_reducible rfl
  simp only [Act.put, List.setIfInBounds_toArray, List.set_cons_zero, List.set_cons_succ]
  refine wpR_take (i := 4) (v := ?_) (⟨fun x => Below.refl _ x, fun h1 h2 => h1.trans h2⟩) (some 32) rfl (by kernel_rfl) (by kernel_rfl) (by kernel_rfl) (by kernel_rfl) (by kernel_rfl) (fun _ _ _ h => h) (by kernel_rfl) (fun w' hw' => ?_) ?_
  rotate_left
  · have qb := (hw'.block g hgB).trans hblk.out; have qc := blk_cell (j := 0) (v := .slice A n c) qb rfl; go_simp; with_reducible rfl
  simp only [Act.put, List.setIfInBounds_toArray, List.set_cons_zero, List.set_cons_succ]
  refine wpR_take (i := 5) (v := ?_) (⟨fun x => Below.refl _ x, fun h1 h2 => h1.trans h2⟩) (some 33) rfl (by kernel_rfl) (by kernel_rfl) (by kernel_rfl) (by kernel_rfl) (by kernel_rfl) (fun _ _ _ h => h) (by kernel_rfl) (fun w' hw' => ?_) ?_
  rotate_left
  · go_simp; with_reducible rfl
  simp only [Act.put, List.setIfInBounds_toArray, List.set_cons_zero, List.set_cons_succ]
  refine wpR_take (i := 6) (v := ?_) (⟨fun x => Below.refl _ x, fun h1 h2 => h1.trans h2⟩) (some 34) rfl (by kernel_rfl) (by kernel_rfl) (by kernel_rfl) (by kernel_rfl) (by kernel_rfl) (fun _ _ _ h => h) (by kernel_rfl) (fun w' hw' => ?_) ?_
  rotate_left
  · go_simp; with_reducible rfl
  simp only [Act.put, List.setIfInBounds_toArray, List.set_cons_zero, List.set_cons_succ]
  refine wpR_take (i := 8) (v := ?_) (⟨fun x => Below.refl _ x, fun h1 h2 => h1.trans h2⟩) (some 36) rfl (by kernel_rfl) (by kernel_rfl) (by kernel_rfl) (by kernel_rfl) (by kernel_rfl) (fun _ _ _ h => h) (by kernel_rfl) (fun w' hw' => ?_) ?_
  rotate_left
  · go_simp; with_reducible rfl
  simp only [Act.put, List.setIfInBounds_toArray, List.set_cons_zero, List.set_cons_succ]
  refine wpR_take (i := 9) (v := ?_) (⟨fun x => Below.refl _ x, fun h1 h2 => h1.trans h2⟩) (some 37) rfl (by kernel_rfl) (by kernel_rfl) (by kernel_rfl) (by kernel_rfl) (by kernel_rfl) (fun _ _ _ h => h) (by kernel_rfl) (fun w' hw' => ?_) ?_
  rotate_left
  · go_simp; with_reducible rfl
  simp only [Act.put, List.setIfInBounds_toArray, List.set_cons_zero, List.set_cons_succ]
  refine wpR_take (i := 10) (v := ?_) (⟨fun x => Below.refl _ x, fun h1 h2 => h1.trans h2⟩) (some 38) rfl (by kernel_rfl) (by kernel_rfl) (by kernel_rfl) (by kernel_rfl) (by kernel_rfl) (fun _ _ _ h => h) (by kernel_rfl) (fun w' hw' => ?_) ?_
  rotate_left
  · have qs := hcv.out w' hw'; go_simp; with_reducible rfl
  simp only [Act.put, List.setIfInBounds_toArray, List.set_cons_zero, List.set_cons_succ]
  refine wpR_take (i := 11) (v := ?_) (⟨fun x => Below.refl _ x, fun h1 h2 => h1.trans h2⟩) (some 39) rfl (by kernel_rfl) (by kernel_rfl) (by kernel_rfl) (by kernel_rfl) (by kernel_rfl) (fun _ _ _ h => h) (by kernel_rfl) (fun w' hw' => ?_) ?_
  rotate_left
  · go_simp; with_reducible rfl
  simp only [Act.put, List.setIfInBounds_toArray, List.set_cons_zero, List.set_cons_succ]
  refine wpR_two 0 12 rfl rfl (by kernel_rfl) (by kernel_rfl) (by kernel_rfl) (fun K hK => ?_) (fun K hK => ?_)
  · go_simp
    obtain ⟨g0, hg0⟩ : ∃ g0, wd.heap.size = g0 := ⟨_, rfl⟩
    obtain ⟨W0, hW0⟩ : ∃ W0, W0 = wd.alloc (.cells #[] 63) := ⟨_, rfl⟩
    have hr0 : Below B0 wd W0 := by rw [hW0]; exact (Below.refl _ _).alloc hzd.out _
    have hs0 : W0.heap.size = g0 + 1 := by rw [hW0, ← hg0]; simp
    have ho0 : Hid (W0.ownsRow B0 63 2 (.slice (some ⟨g0, 0, none⟩) 0 0) ([] : List Pr).length (flatP [])) := Lib.hid (by rw [hW0, ← hg0]; exact World.ownsRow_made _ #[] 0 hzd.out (by simp [maxLen]) rfl)
    have hq0 : Hid (Below B0 wd W0) := Lib.hid (hqd.out.trans hr0)
    have hz0 : Hid (B0 ≤ W0.heap.size) := Lib.hid (by have := hzd.out; omega)
    rw [← hW0, hg0]
    replace hW0 := Lib.hid hW0
    replace hg0 := Lib.hid hg0
    replace hs0 := Lib.hid hs0
    refine hK _ _ (fun _ => hr0) ?_
    clear hK K
    try simp only [Act.put, List.setIfInBounds_toArray, List.set_cons_zero, List.set_cons_succ]
    refine wpR_two 7 12 rfl rfl (by kernel_rfl) (by kernel_rfl) (by kernel_rfl) (fun K hK => ?_) (fun K hK => ?_)
    · refine wp_appP (.tmp 28) (.tmp 34) rfl B0 _ [] rfl ho0.out _ _ (R.take p) rfl ((hRt.out.below hq0.out).more hz0.out) (by rw [hRtl.out]; simp; omega) hz0.out ?_
      intro v7 W7 ho7 hgr7
      rw [List.nil_append] at ho7
      have hr7 : Below B0 W0 W7 := (Below.refl _ _).grown hgr7 hz0.out (fun j hj => (World.ownsRow.lt ho0.out j hj).1)
      replace ho7 := Lib.hid ho7
      have hq7 : Hid (Below B0 wd W7) := Lib.hid (hq0.out.trans hr7)
      have hz7 : Hid (B0 ≤ W7.heap.size) := Lib.hid (Nat.le_trans hz0.out hr7.size)
      refine hK _ _ (fun _ => hr7) ?_
      clear hK K
      clear hgr7 hr7
      try simp only [Act.put, List.setIfInBounds_toArray, List.set_cons_zero, List.set_cons_succ]
      refine wpR_one 12 rfl (by kernel_rfl) (by kernel_rfl) (fun K hK => ?_)
      go_simp
      obtain ⟨g12, hg12⟩ : ∃ g12, W7.heap.size = g12 := ⟨_, rfl⟩
      obtain ⟨W12, hW12⟩ : ∃ W12, W12 = W7.alloc (.cells #[.string (bs k), .string (bs d)] 63) := ⟨_, rfl⟩
      have hr12 : Below B0 W7 W12 := by rw [hW12]; exact (Below.refl _ _).alloc hz7.out _
      have hs12 : W12.heap.size = g12 + 1 := by rw [hW12, ← hg12]; simp
      have ho12 : Hid (W12.ownsRow B0 63 2 (.slice (some ⟨g12, 0, none⟩) 1 1) [((k, d) : Pr)].length (flatP [(k, d)])) := Lib.hid (by rw [hW12, ← hg12]; exact own_one _ _ k d hz7.out)
      replace ho7 : Hid (W12.ownsRow B0 63 2 v7 (R.take p).length (flatP (R.take p))) := Lib.hid (row_below ho7.out (by rw [hW12]; exact GrM.alloc _ _))
      have hq12 : Hid (Below B0 wd W12) := Lib.hid (hq7.out.trans hr12)
      have hz12 : Hid (B0 ≤ W12.heap.size) := Lib.hid (by have := hz7.out; omega)
      rw [← hW12, hg12]
      replace hW12 := Lib.hid hW12
      replace hg12 := Lib.hid hg12
      replace hs12 := Lib.hid hs12
      refine hK _ _ (fun _ => hr12) ?_
      clear hK K
      try simp only [Act.put, List.setIfInBounds_toArray, List.set_cons_zero, List.set_cons_succ]
      refine wpR_one 13 rfl (by kernel_rfl) (by kernel_rfl) (fun K hK => ?_)
      refine wp_appP (.tmp 35) (.tmp 40) rfl B0 _ (R.take p) rfl ho7.out _ _ [(k, d)] rfl (Reads.of_own ho12.out) (by rw [hRtl.out]; simp; omega) hz12.out ?_
      intro v13 W13 ho13 hgr13
      have hr13 : Below B0 W12 W13 := (Below.refl _ _).grown hgr13 hz12.out (fun j hj => (World.ownsRow.lt ho7.out j hj).1)
      replace ho13 := Lib.hid ho13
      have hq13 : Hid (Below B0 wd W13) := Lib.hid (hq12.out.trans hr13)
      have hz13 : Hid (B0 ≤ W13.heap.size) := Lib.hid (Nat.le_trans hz12.out hr13.size)
      refine hK _ _ (fun _ => hr13) ?_
      clear hK K
      clear hgr13 hr13
      try simp only [Act.put, List.setIfInBounds_toArray, List.set_cons_zero, List.set_cons_succ]
      refine wpR_take (i := 14) (v := ?_) (⟨fun x => Below.refl _ x, fun h1 h2 => h1.trans h2⟩) (some 9) rfl (by kernel_rfl) (by kernel_rfl) (by kernel_rfl) (by kernel_rfl) (by kernel_rfl) (fun _ _ _ h => h) (by kernel_rfl) (fun w' hw' => ?_) ?_
      rotate_left
      · go_simp; with_reducible rfl
      simp only [Act.put, List.setIfInBounds_toArray, List.set_cons_zero, List.set_cons_succ]
      refine wpR_done (by kernel_rfl) ?_ _
      have hb13 := Lib.hid ((hq13.out.block g hgB).trans hblk.out)
      have cc13 := blk_cell (j := 0) (v := .slice A n c) hb13.out rfl
      have ff13 := blk_free hb13.out 0
      have hRd13 := Lib.hid ((hRd.out.below hq13.out).more hz13.out)
      go_wp2_with (at_builtin; go_must (refine wpl_appP rfl (.tmp 43) (.tmp 49) rfl B0 _ (R.take p ++ [(k, d)]) rfl ho13.out _ _ (R.drop p) rfl hRd13.out (by rw [List.length_append, hRtl.out, List.length_drop, hn.out]; simp; omega) hz13.out ?_); intro v9 W9 ho9 hgr9; obtain ⟨A9, c9, rfl, -, -⟩ := row_form ho9; obtain ⟨m9, hm9⟩ : ∃ m9, (R.take p ++ [(k, d)] ++ R.drop p).length = m9 := ⟨_, rfl⟩; rw [hm9] at ho9 ⊢; replace hm9 := Lib.hid hm9; have hr9 : Below B0 W13 W9 := (Below.refl _ _).grown hgr9 hz13.out (fun j hj => (World.ownsRow.lt ho13.out j hj).1); have hb9 := Lib.hid ((hr9.block g (by have := hz13.out; omega)).trans hb13.out); have cc9 := blk_cell (j := 0) (v := .slice A n c) hb9.out rfl; have ff9 := blk_free hb9.out 0; replace ho9 := Lib.hid ho9)
      all_goals (
        have hu : Upd (· = g) w (W9.setCell ⟨g, 0, none⟩ (.slice A9 m9 c9)) := (Upd.of_gr (GrM.trans hgd.out (by unfold GrM; rw [hB0.out]; exact hq13.out.trans hr9))).trans (Upd.of_grown (blk_grown W9 g 0 _) rfl)
        have hfin : Rm (W9.setCell ⟨g, 0, none⟩ (.slice A9 m9 c9)) lo g (.slice A9 m9 c9) (R.take p ++ [(k, d)] ++ R.drop p) := by
          refine ⟨blk_set hb9.out 0 _, hlow.out, ?_⟩
          rw [hm9.out]
          exact row_set_other (row_more ho9.out (by have := hlow.out; omega)) g 0 _ (fun e => by have := (World.ownsRow.lt ho9.out g e).1; omega)
        rw [hee.out] at hfin
        go_ret
        exact ⟨rfl, ⟨_, Lib.hid hfin⟩, hu⟩)
    · go_simp
      obtain ⟨g12, hg12⟩ : ∃ g12, W0.heap.size = g12 := ⟨_, rfl⟩
      obtain ⟨W12, hW12⟩ : ∃ W12, W12 = W0.alloc (.cells #[.string (bs k), .string (bs d)] 63) := ⟨_, rfl⟩
      have hr12 : Below B0 W0 W12 := by rw [hW12]; exact (Below.refl _ _).alloc hz0.out _
      have hs12 : W12.heap.size = g12 + 1 := by rw [hW12, ← hg12]; simp
      have ho12 : Hid (W12.ownsRow B0 63 2 (.slice (some ⟨g12, 0, none⟩) 1 1) [((k, d) : Pr)].length (flatP [(k, d)])) := Lib.hid (by rw [hW12, ← hg12]; exact own_one _ _ k d hz0.out)
      have hne : g12 ≠ g0 := by have := hs0.out; omega
      replace ho0 : Hid (W12.ownsRow B0 63 2 (.slice (some ⟨g0, 0, none⟩) 0 0) ([] : List Pr).length (flatP [])) := Lib.hid (row_below ho0.out (by rw [hW12]; exact GrM.alloc _ _))
      have hq12 : Hid (Below B0 wd W12) := Lib.hid (hq0.out.trans hr12)
      have hz12 : Hid (B0 ≤ W12.heap.size) := Lib.hid (by have := hz0.out; omega)
      rw [← hW12, hg12]
      replace hW12 := Lib.hid hW12
      replace hg12 := Lib.hid hg12
      replace hs12 := Lib.hid hs12
      refine hK _ _ (fun _ => hr12) ?_
      clear hK K
      try simp only [Act.put, List.setIfInBounds_toArray, List.set_cons_zero, List.set_cons_succ]
      refine wpR_one 7 rfl (by kernel_rfl) (by kernel_rfl) (fun K hK => ?_)
      refine wp_appP (.tmp 28) (.tmp 34) rfl B0 _ [] rfl ho0.out _ _ (R.take p) rfl ((hRt.out.below hq12.out).more hz12.out) (by rw [hRtl.out]; simp; omega) hz12.out ?_
      intro v7 W7 ho7 hgr7
      rw [List.nil_append] at ho7
      have hr7 : Below B0 W12 W7 := (Below.refl _ _).grown hgr7 hz12.out (fun j hj => (World.ownsRow.lt ho0.out j hj).1)
      replace ho12 : Hid (W7.ownsRow B0 63 2 (.slice (some ⟨g12, 0, none⟩) 1 1) [((k, d) : Pr)].length (flatP [(k, d)])) := Lib.hid (World.ownsRow.kept ho12.out hgr7 (.inr (fun e => hne (by injection e))))
      replace ho7 := Lib.hid ho7
      have hq7 : Hid (Below B0 wd W7) := Lib.hid (hq12.out.trans hr7)
      have hz7 : Hid (B0 ≤ W7.heap.size) := Lib.hid (Nat.le_trans hz12.out hr7.size)
      refine hK _ _ (fun _ => hr7) ?_
      clear hK K
      clear hgr7 hr7
      try simp only [Act.put, List.setIfInBounds_toArray, List.set_cons_zero, List.set_cons_succ]
      refine wpR_one 13 rfl (by kernel_rfl) (by kernel_rfl) (fun K hK => ?_)
      refine wp_appP (.tmp 35) (.tmp 40) rfl B0 _ (R.take p) rfl ho7.out _ _ [(k, d)] rfl (Reads.of_own ho12.out) (by rw [hRtl.out]; simp; omega) hz7.out ?_
      intro v13 W13 ho13 hgr13
      have hr13 : Below B0 W7 W13 := (Below.refl _ _).grown hgr13 hz7.out (fun j hj => (World.ownsRow.lt ho7.out j hj).1)
      replace ho13 := Lib.hid ho13
      have hq13 : Hid (Below B0 wd W13) := Lib.hid (hq7.out.trans hr13)
      have hz13 : Hid (B0 ≤ W13.heap.size) := Lib.hid (Nat.le_trans hz7.out hr13.size)
      refine hK _ _ (fun _ => hr13) ?_
      clear hK K
      clear hgr13 hr13
      try simp only [Act.put, List.setIfInBounds_toArray, List.set_cons_zero, List.set_cons_succ]
      refine wpR_take (i := 14) (v := ?_) (⟨fun x => Below.refl _ x, fun h1 h2 => h1.trans h2⟩) (some 9) rfl (by kernel_rfl) (by kernel_rfl) (by kernel_rfl) (by kernel_rfl) (by kernel_rfl) (fun _ _ _ h => h) (by kernel_rfl) (fun w' hw' => ?_) ?_
      rotate_left
      · go_simp; with_reducible rfl
      simp only [Act.put, List.setIfInBounds_toArray, List.set_cons_zero, List.set_cons_succ]
      refine wpR_done (by kernel_rfl) ?_ _
      have hb13 := Lib.hid ((hq13.out.block g hgB).trans hblk.out)
      have cc13 := blk_cell (j := 0) (v := .slice A n c) hb13.out rfl
      have ff13 := blk_free hb13.out 0
      have hRd13 := Lib.hid ((hRd.out.below hq13.out).more hz13.out)
      go_wp2_with (at_builtin; go_must (refine wpl_appP rfl (.tmp 43) (.tmp 49) rfl B0 _ (R.take p ++ [(k, d)]) rfl ho13.out _ _ (R.drop p) rfl hRd13.out (by rw [List.length_append, hRtl.out, List.length_drop, hn.out]; simp; omega) hz13.out ?_); intro v9 W9 ho9 hgr9; obtain ⟨A9, c9, rfl, -, -⟩ := row_form ho9; obtain ⟨m9, hm9⟩ : ∃ m9, (R.take p ++ [(k, d)] ++ R.drop p).length = m9 := ⟨_, rfl⟩; rw [hm9] at ho9 ⊢; replace hm9 := Lib.hid hm9; have hr9 : Below B0 W13 W9 := (Below.refl _ _).grown hgr9 hz13.out (fun j hj => (World.ownsRow.lt ho13.out j hj).1); have hb9 := Lib.hid ((hr9.block g (by have := hz13.out; omega)).trans hb13.out); have cc9 := blk_cell (j := 0) (v := .slice A n c) hb9.out rfl; have ff9 := blk_free hb9.out 0; replace ho9 := Lib.hid ho9)
      all_goals (
        have hu : Upd (· = g) w (W9.setCell ⟨g, 0, none⟩ (.slice A9 m9 c9)) := (Upd.of_gr (GrM.trans hgd.out (by unfold GrM; rw [hB0.out]; exact hq13.out.trans hr9))).trans (Upd.of_grown (blk_grown W9 g 0 _) rfl)
        have hfin : Rm (W9.setCell ⟨g, 0, none⟩ (.slice A9 m9 c9)) lo g (.slice A9 m9 c9) (R.take p ++ [(k, d)] ++ R.drop p) := by
          refine ⟨blk_set hb9.out 0 _, hlow.out, ?_⟩
          rw [hm9.out]
          exact row_set_other (row_more ho9.out (by have := hlow.out; omega)) g 0 _ (fun e => by have := (World.ownsRow.lt ho9.out g e).1; omega)
        rw [hee.out] at hfin
        go_ret
        exact ⟨rfl, ⟨_, Lib.hid hfin⟩, hu⟩)
  · go_simp
    obtain ⟨g12, hg12⟩ : ∃ g12, wd.heap.size = g12 := ⟨_, rfl⟩
    obtain ⟨W12, hW12⟩ : ∃ W12, W12 = wd.alloc (.cells #[.string (bs k), .string (bs d)] 63) := ⟨_, rfl⟩
    have hr12 : Below B0 wd W12 := by rw [hW12]; exact (Below.refl _ _).alloc hzd.out _
    have hs12 : W12.heap.size = g12 + 1 := by rw [hW12, ← hg12]; simp
    have ho12 : Hid (W12.ownsRow B0 63 2 (.slice (some ⟨g12, 0, none⟩) 1 1) [((k, d) : Pr)].length (flatP [(k, d)])) := Lib.hid (by rw [hW12, ← hg12]; exact own_one _ _ k d hzd.out)
    have hq12 : Hid (Below B0 wd W12) := Lib.hid (hqd.out.trans hr12)
    have hz12 : Hid (B0 ≤ W12.heap.size) := Lib.hid (by have := hzd.out; omega)
    rw [← hW12, hg12]
    replace hW12 := Lib.hid hW12
    replace hg12 := Lib.hid hg12
    replace hs12 := Lib.hid hs12
    refine hK _ _ (fun _ => hr12) ?_
    clear hK K
    try simp only [Act.put, List.setIfInBounds_toArray, List.set_cons_zero, List.set_cons_succ]
    refine wpR_one 0 rfl (by kernel_rfl) (by kernel_rfl) (fun K hK => ?_)
    go_simp
    obtain ⟨g0, hg0⟩ : ∃ g0, W12.heap.size = g0 := ⟨_, rfl⟩
    obtain ⟨W0, hW0⟩ : ∃ W0, W0 = W12.alloc (.cells #[] 63) := ⟨_, rfl⟩
    have hr0 : Below B0 W12 W0 := by rw [hW0]; exact (Below.refl _ _).alloc hz12.out _
    have hs0 : W0.heap.size = g0 + 1 := by rw [hW0, ← hg0]; simp
    have ho0 : Hid (W0.ownsRow B0 63 2 (.slice (some ⟨g0, 0, none⟩) 0 0) ([] : List Pr).length (flatP [])) := Lib.hid (by rw [hW0, ← hg0]; exact World.ownsRow_made _ #[] 0 hz12.out (by simp [maxLen]) rfl)
    replace ho12 : Hid (W0.ownsRow B0 63 2 (.slice (some ⟨g12, 0, none⟩) 1 1) [((k, d) : Pr)].length (flatP [(k, d)])) := Lib.hid (row_below ho12.out (by rw [hW0]; exact GrM.alloc _ _))
    have hne : g12 ≠ g0 := by have := hs12.out; omega
    have hq0 : Hid (Below B0 wd W0) := Lib.hid (hq12.out.trans hr0)
    have hz0 : Hid (B0 ≤ W0.heap.size) := Lib.hid (by have := hz12.out; omega)
    rw [← hW0, hg0]
    replace hW0 := Lib.hid hW0
    replace hg0 := Lib.hid hg0
    replace hs0 := Lib.hid hs0
    refine hK _ _ (fun _ => hr0) ?_
    clear hK K
    try simp only [Act.put, List.setIfInBounds_toArray, List.set_cons_zero, List.set_cons_succ]
    refine wpR_one 7 rfl (by kernel_rfl) (by kernel_rfl) (fun K hK => ?_)
    refine wp_appP (.tmp 28) (.tmp 34) rfl B0 _ [] rfl ho0.out _ _ (R.take p) rfl ((hRt.out.below hq0.out).more hz0.out) (by rw [hRtl.out]; simp; omega) hz0.out ?_
    intro v7 W7 ho7 hgr7
    rw [List.nil_append] at ho7
    have hr7 : Below B0 W0 W7 := (Below.refl _ _).grown hgr7 hz0.out (fun j hj => (World.ownsRow.lt ho0.out j hj).1)
    replace ho12 : Hid (W7.ownsRow B0 63 2 (.slice (some ⟨g12, 0, none⟩) 1 1) [((k, d) : Pr)].length (flatP [(k, d)])) := Lib.hid (World.ownsRow.kept ho12.out hgr7 (.inr (fun e => hne (by injection e))))
    replace ho7 := Lib.hid ho7
    have hq7 : Hid (Below B0 wd W7) := Lib.hid (hq0.out.trans hr7)
    have hz7 : Hid (B0 ≤ W7.heap.size) := Lib.hid (Nat.le_trans hz0.out hr7.size)
    refine hK _ _ (fun _ => hr7) ?_
    clear hK K
    clear hgr7 hr7
    try simp only [Act.put, List.setIfInBounds_toArray, List.set_cons_zero, List.set_cons_succ]
    refine wpR_one 13 rfl (by kernel_rfl) (by kernel_rfl) (fun K hK => ?_)
    refine wp_appP (.tmp 35) (.tmp 40) rfl B0 _ (R.take p) rfl ho7.out _ _ [(k, d)] rfl (Reads.of_own ho12.out) (by rw [hRtl.out]; simp; omega) hz7.out ?_
    intro v13 W13 ho13 hgr13
    have hr13 : Below B0 W7 W13 := (Below.refl _ _).grown hgr13 hz7.out (fun j hj => (World.ownsRow.lt ho7.out j hj).1)
    replace ho13 := Lib.hid ho13
    have hq13 : Hid (Below B0 wd W13) := Lib.hid (hq7.out.trans hr13)
    have hz13 : Hid (B0 ≤ W13.heap.size) := Lib.hid (Nat.le_trans hz7.out hr13.size)
    refine hK _ _ (fun _ => hr13) ?_
    clear hK K
    clear hgr13 hr13
    try simp only [Act.put, List.setIfInBounds_toArray, List.set_cons_zero, List.set_cons_succ]
    refine wpR_take (i := 14) (v := ?_) (⟨fun x => Below.refl _ x, fun h1 h2 => h1.trans h2⟩) (some 9) rfl (by kernel_rfl) (by kernel_rfl) (by kernel_rfl) (by kernel_rfl) (by kernel_rfl) (fun _ _ _ h => h) (by kernel_rfl) (fun w' hw' => ?_) ?_
    rotate_left
    · go_simp; with_reducible rfl
    simp only [Act.put, List.setIfInBounds_toArray, List.set_cons_zero, List.set_cons_succ]
    refine wpR_done (by kernel_rfl) ?_ _
    have hb13 := Lib.hid ((hq13.out.block g hgB).trans hblk.out)
    have cc13 := blk_cell (j := 0) (v := .slice A n c) hb13.out rfl
    have ff13 := blk_free hb13.out 0
    have hRd13 := Lib.hid ((hRd.out.below hq13.out).more hz13.out)
    go_wp2_with (at_builtin; go_must (refine wpl_appP rfl (.tmp 43) (.tmp 49) rfl B0 _ (R.take p ++ [(k, d)]) rfl ho13.out _ _ (R.drop p) rfl hRd13.out (by rw [List.length_append, hRtl.out, List.length_drop, hn.out]; simp; omega) hz13.out ?_); intro v9 W9 ho9 hgr9; obtain ⟨A9, c9, rfl, -, -⟩ := row_form ho9; obtain ⟨m9, hm9⟩ : ∃ m9, (R.take p ++ [(k, d)] ++ R.drop p).length = m9 := ⟨_, rfl⟩; rw [hm9] at ho9 ⊢; replace hm9 := Lib.hid hm9; have hr9 : Below B0 W13 W9 := (Below.refl _ _).grown hgr9 hz13.out (fun j hj => (World.ownsRow.lt ho13.out j hj).1); have hb9 := Lib.hid ((hr9.block g (by have := hz13.out; omega)).trans hb13.out); have cc9 := blk_cell (j := 0) (v := .slice A n c) hb9.out rfl; have ff9 := blk_free hb9.out 0; replace ho9 := Lib.hid ho9)
    all_goals (
      have hu : Upd (· = g) w (W9.setCell ⟨g, 0, none⟩ (.slice A9 m9 c9)) := (Upd.of_gr (GrM.trans hgd.out (by unfold GrM; rw [hB0.out]; exact hq13.out.trans hr9))).trans (Upd.of_grown (blk_grown W9 g 0 _) rfl)
      have hfin : Rm (W9.setCell ⟨g, 0, none⟩ (.slice A9 m9 c9)) lo g (.slice A9 m9 c9) (R.take p ++ [(k, d)] ++ R.drop p) := by
        refine ⟨blk_set hb9.out 0 _, hlow.out, ?_⟩
        rw [hm9.out]
        exact row_set_other (row_more ho9.out (by have := hlow.out; omega)) g 0 _ (fun e => by have := (World.ownsRow.lt ho9.out g e).1; omega)
      rw [hee.out] at hfin
      go_ret
      exact ⟨rfl, ⟨_, Lib.hid hfin⟩, hu⟩)
end Go.Proofs.Ytipdjchgdhfciaa
