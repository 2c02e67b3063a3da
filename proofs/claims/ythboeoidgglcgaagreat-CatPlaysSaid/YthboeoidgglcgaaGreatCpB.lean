/- cat: the reference's drop. -/
import Derived.Test.YthboeoidgglcgaaGreatCpA
namespace Go.Proofs.YthboeoidgglcgaaGreat
set_option linter.unusedVariables false
set_option linter.unusedSimpArgs false
set_option linter.unusedSectionVars false
open Go Go.RowKit Go.Maps Go.Sort Go.Shelf Go.Proofs
theorem Upd.gr_set {S : Nat → Prop} {w w3 : World} {g j : Nat} {u : Value} (hg : Gr w w3) (hs : S g) : Upd S w (w3.setCell ⟨g, j, none⟩ u) := (Upd.of_below hg).trans (Upd.of_grown (blk_grown w3 g j u) hs)
section
variable (lo g : Nat) (y : RcX) (c : CtP) (w : World) (h : Hid (Rc w lo g y c)) (hf : c.Few 1000)
include h hf
set_option maxHeartbeats 4000000 in
set_option maxRecDepth 10000 in
theorem rdrop_W (hdW : DistP c.W) (hkE : ∀ e ∈ c.E, e.2.key = e.1) (k : By) (hW : hasP c.W k = true) (hE : hasP c.E k = false) :
    Calls Tryz.prog 23 #[.pointer (some ⟨g, 0, none⟩), .string (bs k)] w fun e w' => e = .returned (.tuple #[]) ∧ RcAct lo g y w { c with W := delP c.W k } w' := by
  have hwa := Lib.hid (rwaits_any lo g y c w h hf k)
  obtain ⟨p, x, e, hx, hxk, -⟩ := idxP_yes hW
  rw [e] at hwa
  have hdel : Hid (delP c.W k = c.W.take p ++ c.W.drop (p + 1)) := Lib.hid (by rw [← hxk]; exact delP_idx hdW hx)
  have hpl : p < c.W.length := (List.getElem?_eq_some_iff.mp hx).1
  obtain ⟨n, hn⟩ : ∃ n, c.W.length = n := ⟨_, rfl⟩
  have hR : n ≤ 1000 := by have := hf.1; omega
  have hrow := h.out.ws
  rw [hn] at hpl hrow
  obtain ⟨b, ca, hv, hc, hm, hlob, hbw, -⟩ := row_at hrow (by omega)
  rw [hv] at hrow
  have ip : (p : Int) + 1 ≤ (n : Int) := by omega
  have ip2 : (p : Int) ≤ (n : Int) := by omega
  have ip0 : (0 : Int) ≤ (p : Int) + 1 := by omega
  have ipc : (p : Int) ≤ (ca : Int) := by omega
  have ipw : IntKind.i64.wrap ((p : Int) + 1) = (p : Int) + 1 := by rw [i64_wrap_id (by omega) (by omega)]
  have hblk0 := h.out.blk
  rw [hv] at hblk0
  replace hn := Lib.hid hn
  replace hx := Lib.hid hx
  replace hW := Lib.hid hW
  replace hE := Lib.hid hE
  replace hv := Lib.hid hv
  clear e hxk
  obtain ⟨wd, hwd⟩ : ∃ wd, wd = w.drew := ⟨_, rfl⟩
  have hgd : Gr w wd := by rw [hwd]; exact (Below.refl _ _).drew
  have hrm := Lib.hid (h.out.gr hgd)
  obtain ⟨B0, hB0⟩ : ∃ B0, wd.heap.size = B0 := ⟨_, rfl⟩
  have hblk := Lib.hid (blk_below hblk0 hgd)
  have hgB : g < B0 := by rw [← hB0]; exact blk_lt hrm.out.blk
  have hlg := h.out.lg
  have hrow2 := row_below hrow hgd
  have hrn := Reads.of_own hrow2
  rw [hB0] at hrn
  obtain ⟨hRt, hcut⟩ := hrn.part hc (p := p) (by omega)
  rw [flatB_take _ (by rw [hn.out]; omega)] at hRt
  have hcut := (hrn.part hc (p := p + 1) (by omega)).2
  rw [flatB_drop _ (by rw [hn.out]; omega)] at hcut
  have hRtl : Hid ((c.W.take p).length = p) := Lib.hid (by rw [List.length_take, hn.out]; omega)
  have eA : (if ca = p + 1 then (some ⟨b, 0, none⟩ : Option Addr) else (some (⟨b, 0, none⟩ : Addr)).map (·.add ((p + 1) * 2))) = (if ca = p + 1 then some ⟨b, 0, none⟩ else some ⟨b, (p + 1) * 2, none⟩) := by
    split
    · rfl
    · show some ((⟨b, 0, none⟩ : Addr).add ((p + 1) * 2)) = _
      unfold Addr.add; split <;> simp_all
  rw [eA] at hcut
  have hRd := Lib.hid hcut
  replace hRt := Lib.hid hRt
  replace hrow2 := Lib.hid hrow2
  replace hgd := Lib.hid hgd
  replace hrow := Lib.hid hrow
  replace hblk0 := Lib.hid hblk0
  clear eA hcut hrn
  go_enter Tryz.func23, Tryz.ntmps23
  go_upto_region 2 with (go_at_call 13; go_must (refine hwa.out.mono ?_); clear hwa; rintro e w1 ⟨rfl, hww⟩; rw [hww]; clear hww w1)
  refine wpR_region (Below B0) 19 (by kernel_rfl) ?_
  (rw [← hwd]; replace hwd := Lib.hid hwd)
  refine wT (i := 0) (v := ?_) (⟨fun x => Below.refl _ x, fun h1 h2 => h1.trans h2⟩) (some 11) rfl (fun w' hw' => ?_) ?_
  rotate_left
  · go_simp; with_reducible rfl
  simp only [Act.put, List.setIfInBounds_toArray, List.set_cons_zero, List.set_cons_succ]
  refine wT (i := 2) (v := ?_) (⟨fun x => Below.refl _ x, fun h1 h2 => h1.trans h2⟩) (some 13) rfl (fun w' hw' => ?_) ?_
  rotate_left
  · go_simp; with_reducible rfl
  simp only [Act.put, List.setIfInBounds_toArray, List.set_cons_zero, List.set_cons_succ]
  refine wT (i := 3) (v := ?_) (⟨fun x => Below.refl _ x, fun h1 h2 => h1.trans h2⟩) (some 14) rfl (fun w' hw' => ?_) ?_
  rotate_left
  · go_simp; with_reducible rfl
  simp only [Act.put, List.setIfInBounds_toArray, List.set_cons_zero, List.set_cons_succ]
  refine wT (i := 4) (v := ?_) (⟨fun x => Below.refl _ x, fun h1 h2 => h1.trans h2⟩) (some 15) rfl (fun w' hw' => ?_) ?_
  rotate_left
  · go_simp; with_reducible rfl
  simp only [Act.put, List.setIfInBounds_toArray, List.set_cons_zero, List.set_cons_succ]
  refine wT (i := 5) (v := ?_) (⟨fun x => Below.refl _ x, fun h1 h2 => h1.trans h2⟩) (some 16) rfl (fun w' hw' => ?_) ?_
  rotate_left
  · have qb := (hw'.block g hgB).trans hblk.out; have qc := blk_cell (j := 0) (v := .slice (some ⟨b, 0, none⟩) n ca) qb rfl; go_simp; with_reducible rfl
  simp only [Act.put, List.setIfInBounds_toArray, List.set_cons_zero, List.set_cons_succ]
  refine wT (i := 6) (v := ?_) (⟨fun x => Below.refl _ x, fun h1 h2 => h1.trans h2⟩) (some 17) rfl (fun w' hw' => ?_) ?_
  rotate_left
  · go_simp; with_reducible rfl
  simp only [Act.put, List.setIfInBounds_toArray, List.set_cons_zero, List.set_cons_succ]
  refine wT (i := 7) (v := ?_) (⟨fun x => Below.refl _ x, fun h1 h2 => h1.trans h2⟩) (some 18) rfl (fun w' hw' => ?_) ?_
  rotate_left
  · go_simp; with_reducible rfl
  simp only [Act.put, List.setIfInBounds_toArray, List.set_cons_zero, List.set_cons_succ]
  refine wT (i := 9) (v := ?_) (⟨fun x => Below.refl _ x, fun h1 h2 => h1.trans h2⟩) (some 20) rfl (fun w' hw' => ?_) ?_
  rotate_left
  · go_simp; with_reducible rfl
  simp only [Act.put, List.setIfInBounds_toArray, List.set_cons_zero, List.set_cons_succ]
  refine wT (i := 10) (v := ?_) (⟨fun x => Below.refl _ x, fun h1 h2 => h1.trans h2⟩) (some 21) rfl (fun w' hw' => ?_) ?_
  rotate_left
  · go_simp; with_reducible rfl
  simp only [Act.put, List.setIfInBounds_toArray, List.set_cons_zero, List.set_cons_succ]
  refine wT (i := 11) (v := ?_) (⟨fun x => Below.refl _ x, fun h1 h2 => h1.trans h2⟩) (some 22) rfl (fun w' hw' => ?_) ?_
  rotate_left
  · go_simp; with_reducible rfl
  simp only [Act.put, List.setIfInBounds_toArray, List.set_cons_zero, List.set_cons_succ]
  refine wT (i := 12) (v := ?_) (⟨fun x => Below.refl _ x, fun h1 h2 => h1.trans h2⟩) (some 23) rfl (fun w' hw' => ?_) ?_
  rotate_left
  · have qb := (hw'.block g hgB).trans hblk.out; have qc := blk_cell (j := 0) (v := .slice (some ⟨b, 0, none⟩) n ca) qb rfl; go_simp; with_reducible rfl
  simp only [Act.put, List.setIfInBounds_toArray, List.set_cons_zero, List.set_cons_succ]
  refine wT (i := 13) (v := ?_) (⟨fun x => Below.refl _ x, fun h1 h2 => h1.trans h2⟩) (some 24) rfl (fun w' hw' => ?_) ?_
  rotate_left
  · go_simp; with_reducible rfl
  simp only [Act.put, List.setIfInBounds_toArray, List.set_cons_zero, List.set_cons_succ]
  refine wT (i := 14) (v := ?_) (⟨fun x => Below.refl _ x, fun h1 h2 => h1.trans h2⟩) (some 25) rfl (fun w' hw' => ?_) ?_
  rotate_left
  · go_simp; with_reducible rfl
  simp only [Act.put, List.setIfInBounds_toArray, List.set_cons_zero, List.set_cons_succ]
  refine wT (i := 15) (v := ?_) (⟨fun x => Below.refl _ x, fun h1 h2 => h1.trans h2⟩) (some 26) rfl (fun w' hw' => ?_) ?_
  rotate_left
  · go_simp; with_reducible rfl
  simp only [Act.put, List.setIfInBounds_toArray, List.set_cons_zero, List.set_cons_succ]
  refine wpR_one 1 rfl (by kernel_rfl) (by kernel_rfl) (fun K hK => ?_)
  go_simp
  obtain ⟨W1, hW1⟩ : ∃ W1, W1 = wd.alloc (.cells #[] 58) := ⟨_, rfl⟩
  have hr1 : Below B0 wd W1 := by rw [hW1]; exact (Below.refl _ _).alloc (by omega) _
  have ho1 : Hid (W1.ownsRow B0 58 2 (.slice (some ⟨B0, 0, none⟩) 0 0) ([] : List (By × By)).length (flatB [])) := Lib.hid (by rw [hW1, ← hB0]; exact World.ownsRow_made wd #[] 0 (Nat.le_refl _) (by simp [maxLen]) rfl)
  rw [← hW1]
  try rw [hB0]
  replace hW1 := Lib.hid hW1
  refine hK _ _ (fun _ => hr1) ?_
  clear hK K
  have hs1 := Lib.hid (hRt.out.below hr1)
  have hs2 := Lib.hid (hRd.out.below hr1)
  have hz1 : B0 ≤ W1.heap.size := by have := hr1.size; omega
  try simp only [Act.put, List.setIfInBounds_toArray, List.set_cons_zero, List.set_cons_succ]
  refine wpR_one 8 rfl (by kernel_rfl) (by kernel_rfl) (fun K hK => ?_)
  refine wp_appB (.tmp 12) (.tmp 18) rfl B0 _ [] rfl ho1.out _ _ (c.W.take p) rfl (hs1.out.more (Nat.le_refl _)) (by rw [hRtl.out]; simp; omega) hz1 ?_
  intro v2 W2 ho2 hg2 hl2
  rw [List.nil_append] at ho2
  have hown2 : ∀ j, v2.ownBlock = some j → B0 ≤ j := fun j hj => by rcases hl2 with e | e; (· rw [e] at hj; exact (by injection hj with hj; have hj : B0 = j := hj; omega)); (· rw [e] at hj; injection hj with hj; omega)
  have hr2 : Below B0 W1 W2 := (Below.refl _ _).grown hg2 hz1 (fun j hj => by injection hj with hj; have hj : B0 = j := hj; omega)
  refine hK _ _ (fun _ => hr2) ?_
  clear hK K
  replace ho2 := Lib.hid ho2
  have hz2 : B0 ≤ W2.heap.size := by have := hr2.size; omega
  have hs3 := Lib.hid (hs2.out.below hr2)
  try simp only [Act.put, List.setIfInBounds_toArray, List.set_cons_zero, List.set_cons_succ]
  refine wpR_one 16 rfl (by kernel_rfl) (by kernel_rfl) (fun K hK => ?_)
  refine wp_appB (.tmp 19) (.tmp 26) rfl B0 _ (c.W.take p) rfl ho2.out _ _ (c.W.drop (p + 1)) rfl (hs3.out.more (Nat.le_refl _)) (by rw [hRtl.out, List.length_drop, hn.out]; omega) hz2 ?_
  intro v3 W3 ho3 hg3 hl3
  obtain ⟨A3, c3, rfl, -, -⟩ := row_form ho3
  obtain ⟨m3, hm3⟩ : ∃ m3, (c.W.take p ++ c.W.drop (p + 1)).length = m3 := ⟨_, rfl⟩
  rw [hm3] at ho3 ⊢
  replace hm3 := Lib.hid hm3
  have hr3 : Below B0 W2 W3 := (Below.refl _ _).grown hg3 hz2 hown2
  refine hK _ _ (fun _ => hr3) ?_
  clear hK K
  replace ho3 := Lib.hid ho3
  have hw3 : Hid (Below B0 wd W3) := Lib.hid ((hr1.trans hr2).trans hr3)
  have hb3 := Lib.hid ((hw3.out.block g hgB).trans hblk.out)
  try simp only [Act.put, List.setIfInBounds_toArray, List.set_cons_zero, List.set_cons_succ]
  refine wU (i := 17) (v := ?_) (⟨fun x => Below.refl _ x, fun h1 h2 => h1.trans h2⟩) (some 28) rfl (fun w' => ?_) ?_
  rotate_left
  · go_simp; with_reducible rfl
  simp only [Act.put, List.setIfInBounds_toArray, List.set_cons_zero, List.set_cons_succ]
  refine wT (i := 18) (v := ?_) (⟨fun x => Below.refl _ x, fun h1 h2 => h1.trans h2⟩) (some 29) rfl (fun w' hw' => ?_) ?_
  rotate_left
  · go_simp; with_reducible rfl
  simp only [Act.put, List.setIfInBounds_toArray, List.set_cons_zero, List.set_cons_succ]
  refine wpR_one 19 rfl (by kernel_rfl) (by kernel_rfl) (fun K hK => ?_)
  have cc3 := blk_cell (j := 0) (v := .slice (some ⟨b, 0, none⟩) n ca) hb3.out rfl
  have f3 := blk_free hb3.out 0
  go_simp
  refine hK _ _ (fun h => absurd h (by decide)) ?_
  clear hK K
  try simp only [Act.put, List.setIfInBounds_toArray, List.set_cons_zero, List.set_cons_succ]
  refine wpR_done (by kernel_rfl) ?_ _
  have hg3 : Gr w W3 := Gr.trans hgd.out (by unfold Gr; rw [hB0]; exact hw3.out)
  have hrc3 := hrm.out.gr (by unfold Gr; rw [hB0]; exact hw3.out)
  have hfin := hrc3.setW (W' := delP c.W k) (v := .slice A3 m3 c3) (by rw [hdel.out, hm3.out]; exact row_more ho3.out (by omega))
  have hu := Lib.hid (Upd.gr_set (S := y.S g) (j := 0) (u := .slice A3 m3 c3) hg3 (.inl rfl))
  have hS3 : Hid (∀ q, (RcX.mk (.slice A3 m3 c3) y.vH y.vB y.vT y.vR y.E).S g q → y.S g q ∨ w.heap.size ≤ q) := Lib.hid (fun q hq => by
    rcases hq with rfl | hq
    · exact .inl (.inl rfl)
    · refine .inr (Nat.le_trans (Below.size hgd.out) ?_)
      rw [hB0]
      exact (World.ownsRow.lt ho3.out q hq).1)
  have his := Lib.hid (ris13_any lo g _ _ _ (Lib.hid hfin) ⟨Nat.le_trans (delP_le _ _) hf.1, hf.2⟩ hkE k)
  rw [idxP_no (show hasP (CtP.E { c with W := delP c.W k }) k = false from hE.out)] at his
  replace hfin := Lib.hid hfin
  replace hrc3 := Lib.hid hrc3
  replace hg3 := Lib.hid hg3
  go_wp2_with (go_at_call 14; go_must (refine his.out.mono ?_); clear his; rintro e w1 ⟨rfl, hww⟩; rw [hww]; clear hww w1)
  all_goals go_end0
  all_goals exact ⟨rfl, _, hfin, hu.out, hS3.out⟩
set_option maxHeartbeats 4000000 in
set_option maxRecDepth 10000 in
theorem rdrop_E (hdE : DistP c.E) (hkE : ∀ e ∈ c.E, e.2.key = e.1) (k : By) (hW : hasP c.W k = false) (hE : hasP c.E k = true) :
    Calls Tryz.prog 23 #[.pointer (some ⟨g, 0, none⟩), .string (bs k)] w fun e w' => e = .returned (.tuple #[]) ∧ RcAct lo g y w { c with E := delP c.E k } w' := by
  have hwa := Lib.hid (rwaits_any lo g y c w h hf k)
  rw [idxP_no hW] at hwa
  have his := Lib.hid (ris13_any lo g y c w h hf hkE k)
  obtain ⟨p, x, e, hx, hxk, -⟩ := idxP_yes hE
  rw [e] at his
  have hdel : Hid (delP c.E k = c.E.take p ++ c.E.drop (p + 1)) := Lib.hid (by rw [← hxk]; exact delP_idx hdE hx)
  have hpl : p < c.E.length := (List.getElem?_eq_some_iff.mp hx).1
  obtain ⟨n, hn⟩ : ∃ n, c.E.length = n := ⟨_, rfl⟩
  have hR : n ≤ 1000 := by have := hf.2.1; omega
  have hrow := h.out.hs.1
  have hyl := h.out.len
  rw [hyl] at hrow
  rw [hn] at hpl hrow hyl
  obtain ⟨b, ca, hv, hc, hm, hlob, hbw, -⟩ := row_at hrow (by omega)
  rw [hv] at hrow
  have ip : (p : Int) + 1 ≤ (n : Int) := by omega
  have ip2 : (p : Int) ≤ (n : Int) := by omega
  have ip0 : (0 : Int) ≤ (p : Int) + 1 := by omega
  have ipc : (p : Int) ≤ (ca : Int) := by omega
  have ipw : IntKind.i64.wrap ((p : Int) + 1) = (p : Int) + 1 := by rw [i64_wrap_id (by omega) (by omega)]
  have hblk0 := h.out.blk
  rw [hv] at hblk0
  replace hn := Lib.hid hn
  replace hyl := Lib.hid hyl
  replace hx := Lib.hid hx
  replace hW := Lib.hid hW
  replace hE := Lib.hid hE
  replace hv := Lib.hid hv
  clear e hxk
  obtain ⟨wd, hwd⟩ : ∃ wd, wd = w.drew := ⟨_, rfl⟩
  have hgd : Gr w wd := by rw [hwd]; exact (Below.refl _ _).drew
  have hrm := Lib.hid (h.out.gr hgd)
  obtain ⟨B0, hB0⟩ : ∃ B0, wd.heap.size = B0 := ⟨_, rfl⟩
  have hblk := Lib.hid (blk_below hblk0 hgd)
  have hgB : g < B0 := by rw [← hB0]; exact blk_lt hrm.out.blk
  have hlg := h.out.lg
  have hPl : Hid (∀ q ∈ y.E, OP q.e.places q.v lo wd) := Lib.hid hrm.out.hs.2
  have hrow2 := row_below hrow hgd
  have hrn := Reads.of_own hrow2
  rw [hB0] at hrn
  obtain ⟨hRt, hcut⟩ := hrn.part hc (p := p) (by omega)
  rw [flatE_take _ (by rw [hyl.out]; omega)] at hRt
  have hcut := (hrn.part hc (p := p + 1) (by omega)).2
  rw [flatE_drop _ (by rw [hyl.out]; omega)] at hcut
  have hRtl : Hid ((y.E.take p).length = p) := Lib.hid (by rw [List.length_take, hyl.out]; omega)
  have eA : (if ca = p + 1 then (some ⟨b, 0, none⟩ : Option Addr) else (some (⟨b, 0, none⟩ : Addr)).map (·.add ((p + 1) * 5))) = (if ca = p + 1 then some ⟨b, 0, none⟩ else some ⟨b, (p + 1) * 5, none⟩) := by
    split
    · rfl
    · show some ((⟨b, 0, none⟩ : Addr).add ((p + 1) * 5)) = _
      unfold Addr.add; split <;> simp_all
  rw [eA] at hcut
  have hRd := Lib.hid hcut
  replace hRt := Lib.hid hRt
  replace hrow2 := Lib.hid hrow2
  replace hgd := Lib.hid hgd
  replace hrow := Lib.hid hrow
  replace hblk0 := Lib.hid hblk0
  clear eA hcut hrn
  go_enter Tryz.func23, Tryz.ntmps23
  go_upto_region 5 with (first
    | (go_at_call 13; go_must (refine hwa.out.mono ?_); clear hwa; rintro e w1 ⟨rfl, hww⟩; rw [hww]; clear hww w1)
    | (go_at_call 14; go_must (refine his.out.mono ?_); clear his; rintro e w1 ⟨rfl, hww⟩; rw [hww]; clear hww w1))
  refine wpR_region (Below B0) 19 (by kernel_rfl) ?_
  (rw [← hwd]; replace hwd := Lib.hid hwd)
  refine wT (i := 0) (v := ?_) (⟨fun x => Below.refl _ x, fun h1 h2 => h1.trans h2⟩) (some 35) rfl (fun w' hw' => ?_) ?_
  rotate_left
  · go_simp; with_reducible rfl
  simp only [Act.put, List.setIfInBounds_toArray, List.set_cons_zero, List.set_cons_succ]
  refine wT (i := 2) (v := ?_) (⟨fun x => Below.refl _ x, fun h1 h2 => h1.trans h2⟩) (some 37) rfl (fun w' hw' => ?_) ?_
  rotate_left
  · go_simp; with_reducible rfl
  simp only [Act.put, List.setIfInBounds_toArray, List.set_cons_zero, List.set_cons_succ]
  refine wT (i := 3) (v := ?_) (⟨fun x => Below.refl _ x, fun h1 h2 => h1.trans h2⟩) (some 38) rfl (fun w' hw' => ?_) ?_
  rotate_left
  · go_simp; with_reducible rfl
  simp only [Act.put, List.setIfInBounds_toArray, List.set_cons_zero, List.set_cons_succ]
  refine wT (i := 4) (v := ?_) (⟨fun x => Below.refl _ x, fun h1 h2 => h1.trans h2⟩) (some 39) rfl (fun w' hw' => ?_) ?_
  rotate_left
  · go_simp; with_reducible rfl
  simp only [Act.put, List.setIfInBounds_toArray, List.set_cons_zero, List.set_cons_succ]
  refine wT (i := 5) (v := ?_) (⟨fun x => Below.refl _ x, fun h1 h2 => h1.trans h2⟩) (some 40) rfl (fun w' hw' => ?_) ?_
  rotate_left
  · have qb := (hw'.block g hgB).trans hblk.out; have qc := blk_cell (j := 1) (v := .slice (some ⟨b, 0, none⟩) n ca) qb rfl; go_simp; with_reducible rfl
  simp only [Act.put, List.setIfInBounds_toArray, List.set_cons_zero, List.set_cons_succ]
  refine wT (i := 6) (v := ?_) (⟨fun x => Below.refl _ x, fun h1 h2 => h1.trans h2⟩) (some 41) rfl (fun w' hw' => ?_) ?_
  rotate_left
  · go_simp; with_reducible rfl
  simp only [Act.put, List.setIfInBounds_toArray, List.set_cons_zero, List.set_cons_succ]
  refine wT (i := 7) (v := ?_) (⟨fun x => Below.refl _ x, fun h1 h2 => h1.trans h2⟩) (some 42) rfl (fun w' hw' => ?_) ?_
  rotate_left
  · go_simp; with_reducible rfl
  simp only [Act.put, List.setIfInBounds_toArray, List.set_cons_zero, List.set_cons_succ]
  refine wT (i := 9) (v := ?_) (⟨fun x => Below.refl _ x, fun h1 h2 => h1.trans h2⟩) (some 44) rfl (fun w' hw' => ?_) ?_
  rotate_left
  · go_simp; with_reducible rfl
  simp only [Act.put, List.setIfInBounds_toArray, List.set_cons_zero, List.set_cons_succ]
  refine wT (i := 10) (v := ?_) (⟨fun x => Below.refl _ x, fun h1 h2 => h1.trans h2⟩) (some 45) rfl (fun w' hw' => ?_) ?_
  rotate_left
  · go_simp; with_reducible rfl
  simp only [Act.put, List.setIfInBounds_toArray, List.set_cons_zero, List.set_cons_succ]
  refine wT (i := 11) (v := ?_) (⟨fun x => Below.refl _ x, fun h1 h2 => h1.trans h2⟩) (some 46) rfl (fun w' hw' => ?_) ?_
  rotate_left
  · go_simp; with_reducible rfl
  simp only [Act.put, List.setIfInBounds_toArray, List.set_cons_zero, List.set_cons_succ]
  refine wT (i := 12) (v := ?_) (⟨fun x => Below.refl _ x, fun h1 h2 => h1.trans h2⟩) (some 47) rfl (fun w' hw' => ?_) ?_
  rotate_left
  · have qb := (hw'.block g hgB).trans hblk.out; have qc := blk_cell (j := 1) (v := .slice (some ⟨b, 0, none⟩) n ca) qb rfl; go_simp; with_reducible rfl
  simp only [Act.put, List.setIfInBounds_toArray, List.set_cons_zero, List.set_cons_succ]
  refine wT (i := 13) (v := ?_) (⟨fun x => Below.refl _ x, fun h1 h2 => h1.trans h2⟩) (some 48) rfl (fun w' hw' => ?_) ?_
  rotate_left
  · go_simp; with_reducible rfl
  simp only [Act.put, List.setIfInBounds_toArray, List.set_cons_zero, List.set_cons_succ]
  refine wT (i := 14) (v := ?_) (⟨fun x => Below.refl _ x, fun h1 h2 => h1.trans h2⟩) (some 49) rfl (fun w' hw' => ?_) ?_
  rotate_left
  · go_simp; with_reducible rfl
  simp only [Act.put, List.setIfInBounds_toArray, List.set_cons_zero, List.set_cons_succ]
  refine wT (i := 15) (v := ?_) (⟨fun x => Below.refl _ x, fun h1 h2 => h1.trans h2⟩) (some 50) rfl (fun w' hw' => ?_) ?_
  rotate_left
  · go_simp; with_reducible rfl
  simp only [Act.put, List.setIfInBounds_toArray, List.set_cons_zero, List.set_cons_succ]
  refine wpR_one 1 rfl (by kernel_rfl) (by kernel_rfl) (fun K hK => ?_)
  go_simp
  obtain ⟨W1, hW1⟩ : ∃ W1, W1 = wd.alloc (.cells #[] 43) := ⟨_, rfl⟩
  have hr1 : Below B0 wd W1 := by rw [hW1]; exact (Below.refl _ _).alloc (by omega) _
  have ho1 : Hid (OE [] (.slice (some ⟨B0, 0, none⟩) 0 0) lo W1) := Lib.hid ⟨by rw [hW1, ← hB0]; exact World.ownsRow_made wd #[] 0 (by rw [hB0]; omega) (by simp [maxLen]) rfl, fun x hx => by cases hx⟩
  rw [← hW1]
  try rw [hB0]
  replace hW1 := Lib.hid hW1
  refine hK _ _ (fun _ => hr1) ?_
  clear hK K
  have hs1 := Lib.hid (hRt.out.below hr1)
  have hs2 := Lib.hid (hRd.out.below hr1)
  have hz1 : B0 ≤ W1.heap.size := by have := hr1.size; omega
  try simp only [Act.put, List.setIfInBounds_toArray, List.set_cons_zero, List.set_cons_succ]
  refine wpR_one 8 rfl (by kernel_rfl) (by kernel_rfl) (fun K hK => ?_)
  refine wp_appEs (.tmp 36) (.tmp 42) rfl lo _ [] (y.E.take p) rfl ho1.out _ _ rfl (hs1.out.more (Nat.le_refl _)) (fun q hq => ⟨row_keep (hPl.out q (List.mem_of_mem_take hq)).1 (fun j hj => hr1.block j (by rw [← hB0]; exact ((hPl.out q (List.mem_of_mem_take hq)).1.lt j hj).2)), (hPl.out q (List.mem_of_mem_take hq)).2⟩) (by rw [hRtl.out]; simp; omega) (by omega) ?_
  intro v2 W2 ho2 hg2 hl2
  rw [List.nil_append] at ho2
  have hown2 : ∀ j, v2.ownBlock = some j → B0 ≤ j := fun j hj => by rcases hl2 with e | e; (· rw [e] at hj; exact (by injection hj with hj; have hj : B0 = j := hj; omega)); (· rw [e] at hj; injection hj with hj; omega)
  have hr2 : Below B0 W1 W2 := (Below.refl _ _).grown hg2 hz1 (fun j hj => by injection hj with hj; have hj : B0 = j := hj; omega)
  refine hK _ _ (fun _ => hr2) ?_
  clear hK K
  replace ho2 := Lib.hid ho2
  have hz2 : B0 ≤ W2.heap.size := by have := hr2.size; omega
  have hs3 := Lib.hid (hs2.out.below hr2)
  try simp only [Act.put, List.setIfInBounds_toArray, List.set_cons_zero, List.set_cons_succ]
  refine wpR_one 16 rfl (by kernel_rfl) (by kernel_rfl) (fun K hK => ?_)
  refine wp_appEs (.tmp 43) (.tmp 50) rfl lo _ (y.E.take p) (y.E.drop (p + 1)) rfl ho2.out _ _ rfl (hs3.out.more (Nat.le_refl _)) (fun q hq => ⟨row_keep (hPl.out q (List.mem_of_mem_drop hq)).1 (fun j hj => (hr1.trans hr2).block j (by rw [← hB0]; exact ((hPl.out q (List.mem_of_mem_drop hq)).1.lt j hj).2)), (hPl.out q (List.mem_of_mem_drop hq)).2⟩) (by rw [hRtl.out, List.length_drop, h.out.len, hn.out]; omega) (by omega) ?_
  intro v3 W3 ho3 hg3 hl3
  obtain ⟨A3, c3, rfl, -, -⟩ := ho3.form
  obtain ⟨m3, hm3⟩ : ∃ m3, (y.E.take p ++ y.E.drop (p + 1)).length = m3 := ⟨_, rfl⟩
  rw [hm3] at ho3 ⊢
  replace hm3 := Lib.hid hm3
  have hr3 : Below B0 W2 W3 := (Below.refl _ _).grown hg3 hz2 hown2
  refine hK _ _ (fun _ => hr3) ?_
  clear hK K
  replace ho3 := Lib.hid ho3
  have hw3 : Hid (Below B0 wd W3) := Lib.hid ((hr1.trans hr2).trans hr3)
  have hb3 := Lib.hid ((hw3.out.block g hgB).trans hblk.out)
  try simp only [Act.put, List.setIfInBounds_toArray, List.set_cons_zero, List.set_cons_succ]
  refine wU (i := 17) (v := ?_) (⟨fun x => Below.refl _ x, fun h1 h2 => h1.trans h2⟩) (some 52) rfl (fun w' => ?_) ?_
  rotate_left
  · go_simp; with_reducible rfl
  simp only [Act.put, List.setIfInBounds_toArray, List.set_cons_zero, List.set_cons_succ]
  refine wT (i := 18) (v := ?_) (⟨fun x => Below.refl _ x, fun h1 h2 => h1.trans h2⟩) (some 53) rfl (fun w' hw' => ?_) ?_
  rotate_left
  · go_simp; with_reducible rfl
  simp only [Act.put, List.setIfInBounds_toArray, List.set_cons_zero, List.set_cons_succ]
  refine wpR_one 19 rfl (by kernel_rfl) (by kernel_rfl) (fun K hK => ?_)
  have cc3 := blk_cell (j := 1) (v := .slice (some ⟨b, 0, none⟩) n ca) hb3.out rfl
  have f3 := blk_free hb3.out 1
  go_simp
  refine hK _ _ (fun h => absurd h (by decide)) ?_
  clear hK K
  try simp only [Act.put, List.setIfInBounds_toArray, List.set_cons_zero, List.set_cons_succ]
  refine wpR_done (by kernel_rfl) ?_ _
  have hg3 : Gr w W3 := Gr.trans hgd.out (by unfold Gr; rw [hB0]; exact hw3.out)
  have hrc3 := hrm.out.gr (by unfold Gr; rw [hB0]; exact hw3.out)
  have hfin := hrc3.setE (E' := delP c.E k) (E2 := y.E.take p ++ y.E.drop (p + 1)) (v := .slice A3 m3 c3) ho3.out (by rw [hdel.out, List.map_append, List.map_append, List.map_take, List.map_drop, List.map_take, List.map_drop, h.out.he])
  have hu := Lib.hid (Upd.gr_set (S := y.S g) (j := 1) (u := .slice A3 m3 c3) hg3 (.inl rfl))
  have hS3 : Hid (∀ q, (RcX.mk y.vW (.slice A3 m3 c3) y.vB y.vT y.vR (y.E.take p ++ y.E.drop (p + 1))).S g q → y.S g q ∨ w.heap.size ≤ q) := Lib.hid (fun q hq => .inl hq)
  replace hfin := Lib.hid hfin
  replace hrc3 := Lib.hid hrc3
  replace hg3 := Lib.hid hg3
  go_wp2_with fail
  all_goals go_end0
  all_goals exact ⟨rfl, _, hfin, hu.out, hS3.out⟩
set_option maxRecDepth 10000 in
theorem rdrop_no (hkE : ∀ e ∈ c.E, e.2.key = e.1) (k : By) (hW : hasP c.W k = false) (hE : hasP c.E k = false) :
    Calls Tryz.prog 23 #[.pointer (some ⟨g, 0, none⟩), .string (bs k)] w fun e w' => e = .returned (.tuple #[]) ∧ w' = w := by
  have hwa := Lib.hid (rwaits_any lo g y c w h hf k)
  rw [idxP_no hW] at hwa
  have his := Lib.hid (ris13_any lo g y c w h hf hkE k)
  rw [idxP_no hE] at his
  replace hW := Lib.hid hW
  replace hE := Lib.hid hE
  go_enter Tryz.func23, Tryz.ntmps23
  go_wp2_with (first
    | (go_at_call 13; go_must (refine hwa.out.mono ?_); clear hwa; rintro e w1 ⟨rfl, hww⟩; rw [hww]; clear hww w1)
    | (go_at_call 14; go_must (refine his.out.mono ?_); clear his; rintro e w1 ⟨rfl, hww⟩; rw [hww]; clear hww w1))
  all_goals go_end0
  all_goals exact ⟨rfl, rfl⟩
end
theorem RcAct.refl {lo g : Nat} {y : RcX} {w : World} {c : CtP} (h : Hid (Rc w lo g y c)) : RcAct lo g y w c w := ⟨y, h, Upd.refl _ _, fun q hq => .inl hq⟩
theorem rdrop_any (lo g : Nat) (y : RcX) (c : CtP) (w : World) (h : Hid (Rc w lo g y c)) (hf : c.Few 1000) (hok : c.Ok) (k : By) :
    Calls Tryz.prog 23 #[.pointer (some ⟨g, 0, none⟩), .string (bs k)] w fun e w' => e = .returned (.tuple #[]) ∧ RcAct lo g y w { c with W := delP c.W k, E := delP c.E k } w' := by
  have hkE : ∀ e ∈ c.E, e.2.key = e.1 := fun e he => (hok.okE e he).1
  cases hW : hasP c.W k with
  | true =>
    have hE := hok.ap k hW
    have := rdrop_W lo g y c w h hf hok.dW hkE k hW hE
    rwa [show ({ c with W := delP c.W k, E := delP c.E k } : CtP) = { c with W := delP c.W k } from by rw [delP_no hE]]
  | false =>
    cases hE : hasP c.E k with
    | true =>
      have := rdrop_E lo g y c w h hf hok.rE.dist hkE k hW hE
      rwa [show ({ c with W := delP c.W k, E := delP c.E k } : CtP) = { c with E := delP c.E k } from by rw [delP_no hW]]
    | false =>
      refine (rdrop_no lo g y c w h hf hkE k hW hE).mono ?_
      rintro e w' ⟨rfl, rfl⟩
      refine ⟨rfl, ?_⟩
      rw [show ({ c with W := delP c.W k, E := delP c.E k } : CtP) = c from by rw [delP_no hW, delP_no hE]]
      exact RcAct.refl h
end Go.Proofs.YthboeoidgglcgaaGreat
/- cat: the reference's Apply: put. -/
namespace Go.Proofs.YthboeoidgglcgaaGreat
set_option linter.unusedVariables false
set_option linter.unusedSimpArgs false
set_option linter.unusedSectionVars false
open Go Go.RowKit Go.Maps Go.Sort Go.Shelf Go.Proofs
theorem row_grown {w w' : World} {lo T size n lo2 T2 size2 n2 : Nat} {v u : Value} {xs ys : List Value} (h : w.ownsRow lo T size v n xs) (hu : w.ownsRow lo2 T2 size2 u n2 ys) (hT : T2 ≠ T) (hg : w.grownBy w' u.ownBlock) : w'.ownsRow lo T size v n xs :=
  World.ownsRow.kept h hg (by
    cases hv : v.ownBlock with
    | none => exact .inl rfl
    | some k => exact .inr (fun e => row_ne2 h hu hT k e.symm hv))
theorem Rc.growW {w w' : World} {lo g : Nat} {y : RcX} {c : CtP} (h : Rc w lo g y c) (hg : w.grownBy w' y.vW.ownBlock) {W' : List (By × By)} {v : Value} (hv : w'.ownsRow lo 58 2 v W'.length (flatB W')) :
    w'.heap[g]? = w.heap[g]? ∧ Rc (w'.setCell ⟨g, 0, none⟩ v) lo g { y with vW := v } { c with W := W' } := by
  have hb : w'.heap[g]? = w.heap[g]? := hg.block g (blk_lt h.blk) (fun e => row_ne h.ws h.blk (by decide) e.symm)
  have hblk := hb.trans h.blk
  refine ⟨hb, ⟨blk_set hblk 0 v, h.lg, row_set_other hv g 0 v (row_ne hv hblk (by decide)), ?_, h.he, ?_, ?_, ?_⟩⟩
  · refine ⟨?_, fun x hx => ⟨?_, (h.hs.2 x hx).2⟩⟩
    · have := row_grown h.hs.1 h.ws (by decide) hg
      exact row_set_other this g 0 v (row_ne this hblk (by decide))
    · have := row_grown (h.hs.2 x hx).1 h.ws (by decide) hg
      exact row_set_other this g 0 v (row_ne this hblk (by decide))
  · have := row_grown h.bs h.ws (by decide) hg
    exact row_set_other this g 0 v (row_ne this hblk (by decide))
  · have := row_grown h.ts h.ws (by decide) hg
    exact row_set_other this g 0 v (row_ne this hblk (by decide))
  · have := row_grown h.rs h.ws (by decide) hg
    exact row_set_other this g 0 v (row_ne this hblk (by decide))
theorem RcAct.from_ {lo g : Nat} {y : RcX} {w W w' : World} {c' : CtP} (hg : Gr w W) (h : RcAct lo g y W c' w') : RcAct lo g y w c' w' := by
  obtain ⟨y', h1, h2, h3⟩ := h
  exact ⟨y', h1, (Upd.of_below hg).trans h2, fun q hq => (h3 q hq).imp id (fun e => Nat.le_trans (Below.size hg) e)⟩
theorem RcAct.gr {lo g : Nat} {y : RcX} {w w' : World} {c : CtP} (h : Hid (Rc w lo g y c)) (hg : Gr w w') : RcAct lo g y w c w' := ⟨y, Lib.hid (h.out.gr hg), Upd.of_below hg, fun q hq => .inl hq⟩
theorem RcAct.two {lo g : Nat} {y : RcX} {w w1 w' : World} {y1 : RcX} {c' : CtP} (hu : Upd (y.S g) w w1) (hS : ∀ q, y1.S g q → y.S g q ∨ w.heap.size ≤ q) (h : RcAct lo g y1 w1 c' w') : RcAct lo g y w c' w' := by
  obtain ⟨y', h1, h2, h3⟩ := h
  refine ⟨y', h1, ⟨hu.1.trans h2.1, hu.2.1.trans h2.2.1, hu.2.2.1.trans h2.2.2.1, Nat.le_trans hu.2.2.2.1 h2.2.2.2.1, fun q hq hn => ?_⟩, fun q hq => ?_⟩
  · have h5 : ¬ y1.S g q := fun h6 => by
      rcases hS q h6 with h7 | h7
      · exact hn h7
      · omega
    exact (h2.2.2.2.2 q (Nat.lt_of_lt_of_le hq hu.2.2.2.1) h5).trans (hu.2.2.2.2 q hq hn)
  · rcases h3 q hq with h4 | h4
    · exact hS q h4
    · exact .inr (Nat.le_trans hu.2.2.2.1 h4)
def RPost (lo g : Nat) (y : RcX) (w : World) (rc : Int × CtP) (e : Ending) (w' : World) : Prop := e = .returned (.int .i64 rc.1) ∧ RcAct lo g y w rc.2 w'
set_option maxRecDepth 10000 in
set_option maxHeartbeats 2000000 in
theorem rap1_any (lo g : Nat) (y : RcX) (c : CtP) (w : World) (h : Hid (Rc w lo g y c)) (hf : c.Few 999) (hok : c.Ok) (n : Nt) (v : Value) (hk : n.key.length ≤ maxLen) (w0 : World) (hv : NtV n v w0) (h0 : w0.heap.size ≤ lo) (hg0 : Gr w0 w) (hI : I64 n.cart) (hk1 : n.kind = 1) :
    Calls Tryz.prog 6 #[.pointer (some ⟨g, 0, none⟩), v] w (RPost lo g y w (c.put n)) := by
  obtain ⟨A, ca, A2, c2, rfl, hdt, hpl⟩ := hv
  obtain ⟨N, hN⟩ : ∃ N, w.heap.size = N := ⟨_, rfl⟩
  obtain ⟨rc, hrc⟩ : ∃ rc, c.put n = rc := ⟨_, rfl⟩
  rw [hrc]
  unfold CtP.put at hrc
  obtain ⟨nk, ny, ng, nc, nd, nu, ns, np⟩ := n
  unfold Nt.agg
  simp only at hk1 hk hrc hdt hpl hI ⊢
  subst hk1
  obtain ⟨ld, hld⟩ : ∃ ld, nd.length = ld := ⟨_, rfl⟩
  obtain ⟨lp, hlp⟩ : ∃ lp, np.length = lp := ⟨_, rfl⟩
  rw [hld] at hdt ⊢
  rw [hlp] at hpl ⊢
  obtain ⟨W, hW⟩ : ∃ W, w.alloc (.cells #[.int .i64 1, .string (bs ny), .int .i64 ng, .int .i64 nc, .slice A ld ca, .string (bs nu), .int .i64 ns, .slice A2 lp c2] 37) = W := ⟨_, rfl⟩
  have hgW : Gr w W := by rw [← hW]; exact Gr.alloc _ _
  have hbW : W.heap[N]? = some (.cells #[.int .i64 1, .string (bs ny), .int .i64 ng, .int .i64 nc, .slice A ld ca, .string (bs nu), .int .i64 ns, .slice A2 lp c2] 37 (0, 0)) := by rw [← hW, ← hN]; exact heap_alloc_new w _
  have z0 := blk_cell (j := 0) hbW rfl
  have z1 := blk_cell (j := 1) hbW rfl
  have z2 := blk_cell (j := 2) hbW rfl
  have z4 := blk_cell (j := 4) hbW rfl
  have z6 := blk_cell (j := 6) hbW rfl
  have hcW := Lib.hid (h.out.gr hgW)
  have hfr : Hid (∀ {c' w'}, RcAct lo g y W c' w' → RcAct lo g y w c' w') := Lib.hid (fun h1 => RcAct.from_ hgW h1)
  have hsame : Hid (∀ w', Gr W w' → RcAct lo g y w c w') := Lib.hid (fun w' h1 => RcAct.gr h (hgW.trans h1))
  have hnm := Lib.hid (rnamed_any ny hk)
  have hhc := Lib.hid (rhas_any lo g y c W hcW ⟨by have := hf.1; omega, by have := hf.2.1; omega, by have := hf.2.2.1; omega, by have := hf.2.2.2.1; omega, by have := hf.2.2.2.2; omega⟩ hok ny)
  have hwl : Hid (c.W.length ≤ 999) := Lib.hid hf.1
  cases hko : keyOk ny with
  | false =>
    obtain rfl : rc = (12, c) := by rw [← hrc, if_pos (.inl hko)]
    rw [hko] at hnm
    replace hko := Lib.hid hko
    replace hgW := Lib.hid hgW
    replace hbW := Lib.hid hbW
    replace hld := Lib.hid hld
    replace hlp := Lib.hid hlp
    replace hdt := Lib.hid hdt
    replace hpl := Lib.hid hpl
    clear hrc hhc
    go_enter Tryz.func6, Tryz.ntmps6
    go_wp2_with (go_at_call 21; go_must (refine (hnm.out _).mono ?_); clear hnm; rintro e w' ⟨rfl, hww⟩; rw [hww]; clear hww w')
    go_ret
    exact ⟨rfl, hsame.out _ (Gr.refl _)⟩
  | true =>
    rw [hko] at hnm
    by_cases hl5 : (512 : Int) < (ld : Int)
    · obtain rfl : rc = (12, c) := by rw [← hrc, if_pos (.inr (by rw [hld]; omega))]
      replace hko := Lib.hid hko
      replace hgW := Lib.hid hgW
      replace hbW := Lib.hid hbW
      replace hld := Lib.hid hld
      replace hlp := Lib.hid hlp
      replace hdt := Lib.hid hdt
      replace hpl := Lib.hid hpl
      clear hrc hhc
      go_enter Tryz.func6, Tryz.ntmps6
      go_wp2_with (go_at_call 21; go_must (refine (hnm.out _).mono ?_); clear hnm; rintro e w' ⟨rfl, hww⟩; rw [hww]; clear hww w')
      go_ret
      exact ⟨rfl, hsame.out _ (Gr.refl _)⟩
    · rw [if_neg (by rw [hko, hld]; simp; omega)] at hrc
      cases hha : c.has ny with
      | true =>
        rw [hha] at hhc hrc
        obtain rfl : rc = (4, c) := by rw [← hrc, if_pos rfl]
        replace hko := Lib.hid hko
        replace hha := Lib.hid hha
        replace hgW := Lib.hid hgW
        replace hbW := Lib.hid hbW
        replace hld := Lib.hid hld
        replace hlp := Lib.hid hlp
        replace hdt := Lib.hid hdt
        replace hpl := Lib.hid hpl
        clear hrc
        go_enter Tryz.func6, Tryz.ntmps6
        go_wp2_with (first
          | (go_at_call 21; go_must (refine (hnm.out _).mono ?_); clear hnm; rintro e w' ⟨rfl, hww⟩; rw [hww]; clear hww w')
          | (go_at_call 12; go_must (refine hhc.out.mono ?_); clear hhc; rintro e w' ⟨rfl, hww⟩; rw [hww]; clear hww w'))
        go_ret
        exact ⟨rfl, hsame.out _ (Gr.refl _)⟩
      | false =>
        rw [hha] at hhc hrc
        rw [if_neg (by decide)] at hrc
        obtain ⟨A0, c0, hvW, -, -⟩ := row_form h.out.ws
        obtain ⟨n0, hn0⟩ : ∃ m, c.W.length = m := ⟨_, rfl⟩
        rw [hn0] at hvW
        obtain ⟨wd, hwd⟩ : ∃ wd, wd = W.drew := ⟨_, rfl⟩
        have hgd : Gr W wd := by rw [hwd]; exact (Below.refl _ _).drew
        have hcd := Lib.hid (hcW.out.gr hgd)
        have hbd := Lib.hid (blk_below hbW hgd)
        obtain ⟨Ad, cad, ed, -, -, hrd⟩ := hdt
        injection ed with ed1 ed3 ed2
        clear ed3
        subst ed1 ed2
        have hlod : lo ≤ wd.heap.size := by have h1 := hcd.out.lg; have h2 := blk_lt hcd.out.blk; omega
        have hbig : Hid (∀ w', TChg lo [58] wd w' → Gr w0 w') := Lib.hid (fun w' h1 => Below.trans (show Below w0.heap.size w0 wd from hg0.trans (hgW.trans hgd)) (Below.mono (h1.below hlod) h0))
        replace hlod := Lib.hid hlod
        have hdt : Hid True := Lib.hid trivial
        replace hrd := Lib.hid hrd
        replace hko := Lib.hid hko
        replace hha := Lib.hid hha
        replace hn0 := Lib.hid hn0
        replace hgd := Lib.hid hgd
        replace hgW := Lib.hid hgW
        replace hbW := Lib.hid hbW
        replace hld := Lib.hid hld
        replace hlp := Lib.hid hlp
        replace hpl := Lib.hid hpl
        go_enter Tryz.func6, Tryz.ntmps6
        go_upto_region 6 with (first
          | (go_at_call 21; go_must (refine (hnm.out _).mono ?_); clear hnm; rintro e w' ⟨rfl, hww⟩; rw [hww]; clear hww w')
          | (go_at_call 12; go_must (refine hhc.out.mono ?_); clear hhc; rintro e w' ⟨rfl, hww⟩; rw [hww]; clear hww w'))
        clear z0 z1 z2 z4 z6
        refine wpR_region (TChg lo [58]) 15 (by kernel_rfl) ?_
        (rw [← hwd]; replace hwd := Lib.hid hwd)
        refine wT (i := 0) (v := ?_) (TChg.road _ _) (some 25) rfl (fun w' hw' => ?_) ?_
        rotate_left
        · go_simp; with_reducible rfl
        simp only [Act.put, List.setIfInBounds_toArray, List.set_cons_zero, List.set_cons_succ]
        refine wT (i := 1) (v := ?_) (TChg.road _ _) (some 26) rfl (fun w' hw' => ?_) ?_
        rotate_left
        · go_simp; with_reducible rfl
        simp only [Act.put, List.setIfInBounds_toArray, List.set_cons_zero, List.set_cons_succ]
        refine wT (i := 2) (v := ?_) (TChg.road _ _) (some 27) rfl (fun w' hw' => ?_) ?_
        rotate_left
        · go_simp; with_reducible rfl
        simp only [Act.put, List.setIfInBounds_toArray, List.set_cons_zero, List.set_cons_succ]
        refine wT (i := 3) (v := ?_) (TChg.road _ _) (some 28) rfl (fun w' hw' => ?_) ?_
        rotate_left
        · go_simp; with_reducible rfl
        simp only [Act.put, List.setIfInBounds_toArray, List.set_cons_zero, List.set_cons_succ]
        refine wT (i := 4) (v := ?_) (TChg.road _ _) (some 29) rfl (fun w' hw' => ?_) ?_
        rotate_left
        · have q := blk_cell (j := 0) (hw'.block hcd.out.blk (by decide)) rfl; rw [hvW] at q; go_simp; with_reducible rfl
        simp only [Act.put, List.setIfInBounds_toArray, List.set_cons_zero, List.set_cons_succ]
        refine wT (i := 5) (v := ?_) (TChg.road _ _) (some 30) rfl (fun w' hw' => ?_) ?_
        rotate_left
        · go_simp; with_reducible rfl
        simp only [Act.put, List.setIfInBounds_toArray, List.set_cons_zero, List.set_cons_succ]
        refine wT (i := 6) (v := ?_) (TChg.road _ _) (some 31) rfl (fun w' hw' => ?_) ?_
        rotate_left
        · have q := blk_cell (j := 1) (hw'.block hbd.out (by decide)) rfl; go_simp; with_reducible rfl
        simp only [Act.put, List.setIfInBounds_toArray, List.set_cons_zero, List.set_cons_succ]
        refine wT (i := 7) (v := ?_) (TChg.road _ _) (some 32) rfl (fun w' hw' => ?_) ?_
        rotate_left
        · go_simp; with_reducible rfl
        simp only [Act.put, List.setIfInBounds_toArray, List.set_cons_zero, List.set_cons_succ]
        refine wT (i := 8) (v := ?_) (TChg.road _ _) (some 33) rfl (fun w' hw' => ?_) ?_
        rotate_left
        · have q := blk_cell (j := 4) (hw'.block hbd.out (by decide)) rfl; go_simp; with_reducible rfl
        simp only [Act.put, List.setIfInBounds_toArray, List.set_cons_zero, List.set_cons_succ]
        refine wT (i := 9) (v := ?_) (TChg.road _ _) (some 34) rfl (fun w' hw' => ?_) ?_
        rotate_left
        · have hcv := run_str_at (n := ld) ca (hrd.out.up (hbig.out _ hw')) hld.out; go_simp; with_reducible rfl
        simp only [Act.put, List.setIfInBounds_toArray, List.set_cons_zero, List.set_cons_succ]
        refine wT (i := 10) (v := ?_) (TChg.road _ _) (some 35) rfl (fun w' hw' => ?_) ?_
        rotate_left
        · go_simp; with_reducible rfl
        simp only [Act.put, List.setIfInBounds_toArray, List.set_cons_zero, List.set_cons_succ]
        refine wpR_one 11 rfl (by kernel_rfl) (by kernel_rfl) (fun K hK => ?_)
        go_simp
        refine hK _ _ (fun _ => TChg.of_alloc _ _) ?_
        clear hK K
        obtain ⟨w5, hw5⟩ : ∃ W, W = wd.alloc (.cells #[.string (bs ny), .string (bs nd)] 58) := ⟨_, rfl⟩
        rw [← hw5]
        have hg5 : Hid (Gr wd w5) := Lib.hid (by rw [hw5]; exact Gr.alloc _ _)
        have hr5 : Hid (Reads w5 w5.heap.size 2 (some ⟨wd.heap.size, 0, none⟩) 1 (flatB [(ny, nd)])) := Lib.hid (by rw [hw5]; exact Reads.two wd _ _ _)
        have hc5 := Lib.hid (hcd.out.gr hg5.out)
        have hlw5 : Hid (lo ≤ w5.heap.size) := Lib.hid (by have h1 := hc5.out.lg; have h2 := blk_lt hc5.out.blk; omega)
        have hws5 : Hid (w5.ownsRow lo 58 2 (.slice A0 n0 c0) c.W.length (flatB c.W)) := Lib.hid (by rw [← hvW]; exact hc5.out.ws)
        replace hw5 := Lib.hid hw5
        try simp only [Act.put, List.setIfInBounds_toArray, List.set_cons_zero, List.set_cons_succ]
        refine wpR_one 12 rfl (by kernel_rfl) (by kernel_rfl) (fun K hK => ?_)
        refine wp_appB (.tmp 29) (.tmp 36) rfl lo _ c.W rfl hws5.out _ _ [(ny, nd)] rfl hr5.out (by have := hwl.out; simp; omega) hlw5.out ?_
        intro v6 w6 ho6 hg6 hl6
        obtain ⟨A6, c6, rfl, -, -⟩ := row_form ho6
        obtain ⟨m6, hm6⟩ : ∃ m, (c.W ++ [(ny, nd)]).length = m := ⟨_, rfl⟩
        refine hK _ _ (fun _ => TChg.of_row hws5.out hg6 (by decide)) ?_
        clear hK K
        have hgr := hc5.out.growW (W' := c.W ++ [(ny, nd)]) (by rw [hvW]; exact hg6) ho6
        obtain ⟨hbg, hfin⟩ := hgr
        rw [hm6] at hfin ⊢
        have hb6 := hbg.trans hc5.out.blk
        rw [hvW] at hb6
        have hl6' := Lib.hid hl6
        rw [hm6] at hl6'
        have hg6' := Lib.hid hg6
        replace hfin := Lib.hid hfin
        replace hb6 := Lib.hid hb6
        replace ho6 := Lib.hid ho6
        replace hm6 := Lib.hid hm6
        clear hl6 hg6 hbg
        try simp only [Act.put, List.setIfInBounds_toArray, List.set_cons_zero, List.set_cons_succ]
        refine wU (i := 13) (v := ?_) (TChg.road _ _) (some 38) rfl (fun w' => ?_) ?_
        rotate_left
        · go_simp; with_reducible rfl
        simp only [Act.put, List.setIfInBounds_toArray, List.set_cons_zero, List.set_cons_succ]
        refine wT (i := 14) (v := ?_) (TChg.road _ _) (some 39) rfl (fun w' hw' => ?_) ?_
        rotate_left
        · go_simp; with_reducible rfl
        simp only [Act.put, List.setIfInBounds_toArray, List.set_cons_zero, List.set_cons_succ]
        refine wpR_one 15 rfl (by kernel_rfl) (by kernel_rfl) (fun K hK => ?_)
        have cc6 := blk_cell (j := 0) hb6.out rfl
        have f6 := blk_free hb6.out 0
        go_simp
        refine hK _ _ (fun h => absurd h (by decide)) ?_
        clear hK K
        try simp only [Act.put, List.setIfInBounds_toArray, List.set_cons_zero, List.set_cons_succ]
        refine wpR_done (by kernel_rfl) ?_ _
        have hgw5 : Gr W w5 := Gr.trans hgd.out hg5.out
        have hu : Upd (y.S g) W (w6.setCell ⟨g, 0, none⟩ (.slice A6 m6 c6)) := (Upd.of_below hgw5).trans ((Upd.mono (Upd.of_own hg6'.out) (fun q hq => .inr (by rw [hvW]; exact hq))).trans (Upd.of_grown (S := y.S g) (blk_grown w6 g 0 _) (.inl rfl)))
        have hact : Hid (RcAct lo g y w { c with W := c.W ++ [(ny, nd)] } (w6.setCell ⟨g, 0, none⟩ (.slice A6 m6 c6))) := Lib.hid (hfr.out ⟨_, hfin, hu, fun q hq => by
          rcases hq with rfl | hq
          · exact .inl (.inl rfl)
          · rcases hl6'.out with e | e
            · exact .inl (.inr (by rw [hvW]; exact e.symm.trans hq))
            · refine .inr (Nat.le_trans (Below.size hgw5) ?_)
              have e2 := e.symm.trans hq
              injection e2 with e2
              omega⟩)
        clear hu cc6 f6
        go_wp2_with fail
        go_ret
        exact ⟨by subst hrc; rfl, by subst hrc; exact hact.out⟩
end Go.Proofs.YthboeoidgglcgaaGreat
