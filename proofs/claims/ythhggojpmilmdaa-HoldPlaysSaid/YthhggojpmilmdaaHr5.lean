/- hold: the reference's Put. -/
import Derived.Test.YthhggojpmilmdaaHr4
import Derived.Deep.LoopGhost
namespace Go.Proofs.Ythhggojpmilmdaa
set_option linter.unusedVariables false
set_option linter.unusedSimpArgs false
open Go Go.RowKit
theorem put_end {w : World} {lo g now q n0 n1 n2 c1 c2 c3 : Nat} {vk vd vw : Value} {A1 A2 A3 : Option Addr} {R : List Rt} {lk ld lw l4 l5 l6 : List Value} {y4 y5 y6 : Value} {k d : List UInt8} {nw : Nat}
    (b0 : w.heap[g]? = some (.cells #[vk, vd, vw, .int .i64 now, .int .i64 q] 55 (0, 0))) (hlg : lo ≤ g)
    (hS : Own lo ([(9, .slice A1 n0 c1, lk ++ [sV k]), (9, .slice A2 n1 c2, ld ++ [sV d]), (3, .slice A3 n2 c3, lw ++ [iV nw]), (9, y4, l4), (9, y5, l5), (3, y6, l6)] : List Rw) w)
    (e1 : R.map (fun x => sV x.1.1) = lk) (e2 : R.map (fun x => sV x.1.2) = ld) (e3 : R.map (fun x => iV x.2) = lw) :
    Rh (((w.setCell ⟨g, 0, none⟩ (.slice A1 n0 c1)).setCell ⟨g, 1, none⟩ (.slice A2 n1 c2)).setCell ⟨g, 2, none⟩ (.slice A3 n2 c3)) lo g (.slice A1 n0 c1) (.slice A2 n1 c2) (.slice A3 n2 c3) now q (R ++ [((k, d), nw)]) ∧
    TChg lo [55] w (((w.setCell ⟨g, 0, none⟩ (.slice A1 n0 c1)).setCell ⟨g, 1, none⟩ (.slice A2 n1 c2)).setCell ⟨g, 2, none⟩ (.slice A3 n2 c3)) := by
  subst e1 e2 e3
  have b1 := blk_set b0 0 (.slice A1 n0 c1)
  have b2 := blk_set b1 1 (.slice A2 n1 c2)
  have b3 := blk_set b2 2 (.slice A3 n2 c3)
  have tc : TChg lo [55] w (((w.setCell ⟨g, 0, none⟩ (.slice A1 n0 c1)).setCell ⟨g, 1, none⟩ (.slice A2 n1 c2)).setCell ⟨g, 2, none⟩ (.slice A3 n2 c3)) :=
    ((TChg.of_set b0 (by simp) hlg 0 _).trans (TChg.of_set b1 (by simp) hlg 1 _)).trans (TChg.of_set b2 (by simp) hlg 2 _)
  refine ⟨⟨b3, hlg, ?_⟩, tc⟩
  have h3 := hS.take 3
  have h4 : Own lo (rowsR (.slice A1 n0 c1) (.slice A2 n1 c2) (.slice A3 n2 c3) (R ++ [((k, d), nw)])) w := by
    unfold rowsR
    simpa using h3
  exact h4.tchg tc (fun j y hy => by
    match j, hy with
    | 0, hy => injection hy with hy; subst hy; simp
    | 1, hy => injection hy with hy; subst hy; simp
    | 2, hy => injection hy with hy; subst hy; simp
    | _ + 3, hy => cases hy)
theorem rdrop_all (lo g : Nat) (vk vd vw : Value) (now q : Nat) (R : List Rt) (L : List Nd) (hR : L.length ≤ 1000) (hd : DistN L) (hrel : Rel L R now) (k : List UInt8) (w : World) (hlo : Hid (lo ≤ w.heap.size)) (h : Hid (Rh w lo g vk vd vw now q R)) :
    Calls Try.prog 13 #[.pointer (some ⟨g, 0, none⟩), .string (bs k)] w fun e w' => e = .returned (.bool (hasN L k)) ∧ (∃ uk ud uw R', Hid (Rh w' lo g uk ud uw now q R') ∧ Rel (dropN L k) R' now) ∧ TChg lo rts w w' := by
  have hlen := hrel.len
  cases hk : hasN L k with
  | false =>
    refine (rdrop17_no lo g vk vd vw now q R (by omega) k (by rw [hrel.has, hk]) w h).mono ?_
    rintro e w' ⟨rfl, rfl⟩
    exact ⟨rfl, ⟨_, _, _, R, h, by rw [drop_has_no hk]; exact hrel⟩, TChg.refl _ _ _⟩
  | true =>
    obtain ⟨L1, f, L2, rfl, hf, hdr⟩ := split_at hd hk
    obtain ⟨m, x, hm, hx, hxk⟩ := isK_yes (R := R) (k := k) (by rw [hrel.has, hk])
    refine (rdrop17_yes lo g vk vd vw now q R (by omega) k m hm w hlo h).mono ?_
    rintro e w' ⟨rfl, ⟨uk, ud, uw, hh⟩, ht⟩
    exact ⟨rfl, ⟨uk, ud, uw, _, hh, by rw [hdr]; exact hrel.del hd hx (by rw [hxk, hf])⟩, ht⟩
set_option maxHeartbeats 1000000 in
set_option maxRecDepth 10000 in
theorem rput17_no (lo g : Nat) (vk vd vw : Value) (now q : Nat) (R : List Rt) (L : List Nd) (hR : L.length ≤ 1000) (hd : DistN L) (hrel : Rel L R now) (k d : List UInt8) (m : Nat) (hm : d.length = m) (hq : q < m) (w : World) (hlo : Hid (lo ≤ w.heap.size)) (h : Hid (Rh w lo g vk vd vw now q R)) :
    Calls Try.prog 15 #[.pointer (some ⟨g, 0, none⟩), .string (bs k), .string (bs d)] w fun e w' => e = .returned (.bool false) ∧ (∃ uk ud uw R', Hid (Rh w' lo g uk ud uw now q R') ∧ Rel (dropN L k) R' now) ∧ TChg lo rts w w' := by
  have hdp := Lib.hid (rdrop_all lo g vk vd vw now q R L hR hd hrel k w hlo h)
  have i1 : (q : Int) < (m : Int) := by omega
  have hsz : (bs d).size = m := hm
  generalize hasN L k = hb at hdp
  replace hm := Lib.hid hm
  clear hrel hd
  go_enter Try.func15, Try.ntmps15
  go_wp2_with (go_at_call 13; go_must (refine hdp.out.mono ?_); clear hdp; rintro en w1 ⟨rfl, ⟨uk, ud, uw, R', hh1, hr1⟩, ht1⟩; have c4 := blk_cell (j := 4) hh1.out.blk rfl; replace hr1 := Lib.hid hr1)
  go_ret
  exact ⟨rfl, ⟨_, _, _, _, hh1, hr1.out⟩, ht1⟩
set_option maxHeartbeats 8000000 in
set_option maxRecDepth 10000 in
theorem rput17_yes (lo g : Nat) (vk0 vd0 vw0 : Value) (now q : Nat) (hnow : now ≤ 1000000) (hq : q ≤ 32768) (R0 : List Rt) (L : List Nd) (hR : L.length ≤ 1000) (hsum : sumD L ≤ q) (hd : DistN L) (hrel : Rel L R0 now) (k d : List UInt8) (m : Nat) (hm : d.length = m) (hmq : m ≤ q) (w : World) (hlo : Hid (lo ≤ w.heap.size)) (h : Hid (Rh w lo g vk0 vd0 vw0 now q R0)) :
    Calls Try.prog 15 #[.pointer (some ⟨g, 0, none⟩), .string (bs k), .string (bs d)] w fun e w' => e = .returned (.bool true) ∧ (∃ uk ud uw R', Hid (Rh w' lo g uk ud uw (now + 1) q R') ∧ ∀ p v, Rel (trimN q m (dropN L k) ++ [(p, k, v, d)]) R' (now + 1)) ∧ TChg lo rts w w' := by
  have hdp := Lib.hid (rdrop_all lo g vk0 vd0 vw0 now q R0 L hR hd hrel k w hlo h)
  have i1 : decide ((q : Int) < (m : Int)) = false := decide_eq_false (by omega)
  have i1n : decide (q < m) = false := decide_eq_false (by omega)
  have hsz : (bs d).size = m := hm
  generalize hasN L k = hb at hdp
  replace hm := Lib.hid hm
  have hdd : DistN (dropN L k) := List.Pairwise.filter _ hd
  have hdl : (dropN L k).length ≤ 1000 := Nat.le_trans (List.length_filter_le _ _) hR
  have hds : sumD (dropN L k) ≤ q := by
    have : ∀ M : List Nd, sumD (dropN M k) ≤ sumD M := fun M => by
      induction M with
      | nil => exact Nat.le_refl _
      | cons e M ih =>
        unfold dropN at ih ⊢
        rw [List.filter_cons]
        split
        · rw [sumD_cons, sumD_cons]; omega
        · rw [sumD_cons]; omega
    have := this L
    omega
  generalize dropN L k = D1 at hdp hdd hdl hds ⊢
  obtain ⟨G, hG⟩ : ∃ G, G = trimN q m D1 := ⟨_, rfl⟩
  rw [← hG]
  replace hG := Lib.hid hG
  clear hrel hd h
  go_enter Try.func15, Try.ntmps15
  go_wp2_with (go_at_call 13; go_must (refine hdp.out.mono ?_); clear hdp; rintro en w1 ⟨rfl, ⟨uk, ud, uw, R1, hh1, hr1⟩, ht1⟩; have c4 := blk_cell (j := 4) hh1.out.blk rfl; replace hr1 := Lib.hid hr1)
  clear c4
  go_loopg [] D1.length (fun gk wr => ∃ (L' : List Nd) (R : List Rt) (vk vd vw : Value), gk = L'.length ∧ L'.length ≤ 1000 ∧ Hid (G = trimN q m L') ∧ Hid (DistN L') ∧ sumD L' ≤ q ∧ Hid (Rel L' R now) ∧ Hid (Rh wr lo g vk vd vw now q R) ∧ Hid (TChg lo rts w wr))
  case atStart => exact ⟨D1, R1, _, _, _, rfl, hdl, hG, Lib.hid hdd, hds, hr1, hh1, Lib.hid ht1⟩
  case round =>
    obtain ⟨L', R, vk, vd, vw, hgk, hl', hGt, hdd', hsq, hr, hh, htr⟩ := hrel
    clear hdl hdd hds hh1 ht1 hr1 hG
    have hRl := hr.out.len
    have hRs := hr.out.sum
    obtain ⟨wd, hwd⟩ : ∃ wd, wd = wr.drew := ⟨_, rfl⟩
    have hgd : GrM wr wd := by rw [hwd]; exact (Below.refl _ _).drew
    have hhd := Rh.gr hgd hh
    have htd : Hid (TChg lo rts w wd) := Lib.hid (htr.out.trans (TChg.of_below hgd))
    have hus := rused17_any lo g vk vd vw now q R (by omega) (by omega) wd hhd
    rw [hRs] at hus
    replace hus := Lib.hid hus
    have c4 := blk_cell (j := 4) hhd.out.blk rfl
    have hwr : IntKind.i64.wrap ((sumD L' : Int) + (m : Int)) = (sumD L' : Int) + (m : Int) := by rw [IntKind.wrap_i64]; omega
    replace hgk := Lib.hid hgk
    replace hRl := Lib.hid hRl
    replace hRs := Lib.hid hRs
    clear hgd hh htr
    by_cases hgt : q < sumD L' + m
    · have i2 : decide ((q : Int) < (sumD L' : Int) + (m : Int)) = true := decide_eq_true (by omega)
      have i2n : decide (q < sumD L' + m) = true := decide_eq_true hgt
      replace hgt := Lib.hid hgt
      go_upto_region 4 with (fail)
      refine wpR_region (Eq) 9999 (by kernel_rfl) ?_
      (rw [← hwd]; replace hwd := Lib.hid hwd)
      refine wpR_take (i := 0) (v := ?_) (⟨fun _ => rfl, Eq.trans⟩) (some 17) rfl (by kernel_rfl) (by kernel_rfl) (by kernel_rfl) (by kernel_rfl) (by kernel_rfl) (fun _ _ _ h => h) (by kernel_rfl) (fun w' hw' => ?_) ?_
      rotate_left
      · go_simp; with_reducible rfl
      simp only [Act.put, List.setIfInBounds_toArray, List.set_cons_zero, List.set_cons_succ]
      refine wpR_take (i := 2) (v := ?_) (⟨fun _ => rfl, Eq.trans⟩) (some 19) rfl (by kernel_rfl) (by kernel_rfl) (by kernel_rfl) (by kernel_rfl) (by kernel_rfl) (fun _ _ _ h => h) (by kernel_rfl) (fun w' hw' => ?_) ?_
      rotate_left
      · go_simp; with_reducible rfl
      simp only [Act.put, List.setIfInBounds_toArray, List.set_cons_zero, List.set_cons_succ]
      refine wpR_take (i := 3) (v := ?_) (⟨fun _ => rfl, Eq.trans⟩) (some 20) rfl (by kernel_rfl) (by kernel_rfl) (by kernel_rfl) (by kernel_rfl) (by kernel_rfl) (fun _ _ _ h => h) (by kernel_rfl) (fun w' hw' => ?_) ?_
      rotate_left
      · go_simp; with_reducible rfl
      simp only [Act.put, List.setIfInBounds_toArray, List.set_cons_zero, List.set_cons_succ]
      refine wpR_take (i := 5) (v := ?_) (⟨fun _ => rfl, Eq.trans⟩) (some 22) rfl (by kernel_rfl) (by kernel_rfl) (by kernel_rfl) (by kernel_rfl) (by kernel_rfl) (fun _ _ _ h => h) (by kernel_rfl) (fun w' hw' => ?_) ?_
      rotate_left
      · go_simp; with_reducible rfl
      simp only [Act.put, List.setIfInBounds_toArray, List.set_cons_zero, List.set_cons_succ]
      refine wpR_take (i := 6) (v := ?_) (⟨fun _ => rfl, Eq.trans⟩) (some 23) rfl (by kernel_rfl) (by kernel_rfl) (by kernel_rfl) (by kernel_rfl) (by kernel_rfl) (fun _ _ _ h => h) (by kernel_rfl) (fun w' hw' => ?_) ?_
      rotate_left
      · go_simp; with_reducible rfl
      simp only [Act.put, List.setIfInBounds_toArray, List.set_cons_zero, List.set_cons_succ]
      refine wpR_take (i := 7) (v := ?_) (⟨fun _ => rfl, Eq.trans⟩) (some 24) rfl (by kernel_rfl) (by kernel_rfl) (by kernel_rfl) (by kernel_rfl) (by kernel_rfl) (fun _ _ _ h => h) (by kernel_rfl) (fun w' hw' => ?_) ?_
      rotate_left
      · go_simp; with_reducible rfl
      simp only [Act.put, List.setIfInBounds_toArray, List.set_cons_zero, List.set_cons_succ]
      refine wpR_take (i := 8) (v := ?_) (⟨fun _ => rfl, Eq.trans⟩) (some 25) rfl (by kernel_rfl) (by kernel_rfl) (by kernel_rfl) (by kernel_rfl) (by kernel_rfl) (fun _ _ _ h => h) (by kernel_rfl) (fun w' hw' => ?_) ?_
      rotate_left
      · subst hw'; go_simp; with_reducible rfl
      simp only [Act.put, List.setIfInBounds_toArray, List.set_cons_zero, List.set_cons_succ]
      refine wpR_one 1 rfl (by kernel_rfl) (by kernel_rfl) (fun K hK => ?_)
      go_simp
      refine hus.out.mono ?_
      rintro e w5 ⟨rfl, hee⟩
      rw [hee]
      clear hee
      refine hK _ _ (fun _ => rfl) ?_
      clear hK K
      clear hus
      try simp only [Act.put, List.setIfInBounds_toArray, List.set_cons_zero, List.set_cons_succ]
      refine wpR_take (i := 4) (v := ?_) (⟨fun _ => rfl, Eq.trans⟩) (some 21) rfl (by kernel_rfl) (by kernel_rfl) (by kernel_rfl) (by kernel_rfl) (by kernel_rfl) (fun _ _ _ h => h) (by kernel_rfl) (fun w' hw' => ?_) ?_
      rotate_left
      · go_simp; with_reducible rfl
      simp only [Act.put, List.setIfInBounds_toArray, List.set_cons_zero, List.set_cons_succ]
      refine wpR_take (i := 9) (v := ?_) (⟨fun _ => rfl, Eq.trans⟩) (some 26) rfl (by kernel_rfl) (by kernel_rfl) (by kernel_rfl) (by kernel_rfl) (by kernel_rfl) (fun _ _ _ h => h) (by kernel_rfl) (fun w' hw' => ?_) ?_
      rotate_left
      · go_simp; with_reducible rfl
      simp only [Act.put, List.setIfInBounds_toArray, List.set_cons_zero, List.set_cons_succ]
      refine wpR_done (by kernel_rfl) ?_ _
      cases L' with
      | nil => exact absurd hgt.out (by rw [sumD_nil]; omega)
      | cons e0 L0 =>
        have hold := Lib.hid (oldest_any lo g vk vd vw now q R (by have := hRl.out; omega) (by have := hRl.out; simp at this; omega) wd hhd)
        go_wp2_with (first
          | (go_at_call 32; go_must (refine hold.out.mono ?_); clear hold; rintro en w2 ⟨⟨m0, rfl, hm0, x0, hx0, hmin⟩, hg2⟩; have hgo := Lib.hid (goes_any lo g vk vd vw now q R (by have := hRl.out; omega) m0 w2 (Lib.hid (Nat.le_trans hlo.out (Nat.le_trans htd.out.size (Below.size hg2)))) (Rh.gr hg2 hhd)); have hr0 := Lib.hid (Rel.del (L1 := []) hr.out hdd'.out hx0 (hr.out.least hx0 (fun j y hj => hmin j y (List.getElem?_eq_some_iff.1 hj).1 hj))); clear hmin hx0 hm0)
          | (go_at_call 30; go_must (refine hgo.out.mono ?_); clear hgo; rintro en w3 ⟨⟨vv, rfl⟩, ⟨uk3, ud3, uw3, hh3⟩, ht3⟩))
        go_roundg L0.length
        case measure => rw [hgk.out]; simp
        case rel => exact ⟨L0, _, _, _, _, rfl, by simp at hl'; omega, Lib.hid (by rw [hGt.out, trim_step hgt.out]), Lib.hid (by have := hdd'.out; unfold DistN at this ⊢; exact (List.pairwise_cons.1 this).2), by rw [sumD_cons] at hsq; omega, Lib.hid hr0.out, hh3, Lib.hid ((htd.out.trans (TChg.of_below hg2)).trans ht3)⟩
    · have i2 : decide ((q : Int) < (sumD L' : Int) + (m : Int)) = false := decide_eq_false (by omega)
      have i2n : decide (q < sumD L' + m) = false := decide_eq_false hgt
      replace hgt := Lib.hid hgt
      go_upto_region 4 with (fail)
      refine wpR_region (Eq) 9999 (by kernel_rfl) ?_
      (rw [← hwd]; replace hwd := Lib.hid hwd)
      refine wpR_take (i := 0) (v := ?_) (⟨fun _ => rfl, Eq.trans⟩) (some 17) rfl (by kernel_rfl) (by kernel_rfl) (by kernel_rfl) (by kernel_rfl) (by kernel_rfl) (fun _ _ _ h => h) (by kernel_rfl) (fun w' hw' => ?_) ?_
      rotate_left
      · go_simp; with_reducible rfl
      simp only [Act.put, List.setIfInBounds_toArray, List.set_cons_zero, List.set_cons_succ]
      refine wpR_take (i := 2) (v := ?_) (⟨fun _ => rfl, Eq.trans⟩) (some 19) rfl (by kernel_rfl) (by kernel_rfl) (by kernel_rfl) (by kernel_rfl) (by kernel_rfl) (fun _ _ _ h => h) (by kernel_rfl) (fun w' hw' => ?_) ?_
      rotate_left
      · go_simp; with_reducible rfl
      simp only [Act.put, List.setIfInBounds_toArray, List.set_cons_zero, List.set_cons_succ]
      refine wpR_take (i := 3) (v := ?_) (⟨fun _ => rfl, Eq.trans⟩) (some 20) rfl (by kernel_rfl) (by kernel_rfl) (by kernel_rfl) (by kernel_rfl) (by kernel_rfl) (fun _ _ _ h => h) (by kernel_rfl) (fun w' hw' => ?_) ?_
      rotate_left
      · go_simp; with_reducible rfl
      simp only [Act.put, List.setIfInBounds_toArray, List.set_cons_zero, List.set_cons_succ]
      refine wpR_take (i := 5) (v := ?_) (⟨fun _ => rfl, Eq.trans⟩) (some 22) rfl (by kernel_rfl) (by kernel_rfl) (by kernel_rfl) (by kernel_rfl) (by kernel_rfl) (fun _ _ _ h => h) (by kernel_rfl) (fun w' hw' => ?_) ?_
      rotate_left
      · go_simp; with_reducible rfl
      simp only [Act.put, List.setIfInBounds_toArray, List.set_cons_zero, List.set_cons_succ]
      refine wpR_take (i := 6) (v := ?_) (⟨fun _ => rfl, Eq.trans⟩) (some 23) rfl (by kernel_rfl) (by kernel_rfl) (by kernel_rfl) (by kernel_rfl) (by kernel_rfl) (fun _ _ _ h => h) (by kernel_rfl) (fun w' hw' => ?_) ?_
      rotate_left
      · go_simp; with_reducible rfl
      simp only [Act.put, List.setIfInBounds_toArray, List.set_cons_zero, List.set_cons_succ]
      refine wpR_take (i := 7) (v := ?_) (⟨fun _ => rfl, Eq.trans⟩) (some 24) rfl (by kernel_rfl) (by kernel_rfl) (by kernel_rfl) (by kernel_rfl) (by kernel_rfl) (fun _ _ _ h => h) (by kernel_rfl) (fun w' hw' => ?_) ?_
      rotate_left
      · go_simp; with_reducible rfl
      simp only [Act.put, List.setIfInBounds_toArray, List.set_cons_zero, List.set_cons_succ]
      refine wpR_take (i := 8) (v := ?_) (⟨fun _ => rfl, Eq.trans⟩) (some 25) rfl (by kernel_rfl) (by kernel_rfl) (by kernel_rfl) (by kernel_rfl) (by kernel_rfl) (fun _ _ _ h => h) (by kernel_rfl) (fun w' hw' => ?_) ?_
      rotate_left
      · subst hw'; go_simp; with_reducible rfl
      simp only [Act.put, List.setIfInBounds_toArray, List.set_cons_zero, List.set_cons_succ]
      refine wpR_one 1 rfl (by kernel_rfl) (by kernel_rfl) (fun K hK => ?_)
      go_simp
      refine hus.out.mono ?_
      rintro e w5 ⟨rfl, hee⟩
      rw [hee]
      clear hee
      refine hK _ _ (fun _ => rfl) ?_
      clear hK K
      clear hus
      try simp only [Act.put, List.setIfInBounds_toArray, List.set_cons_zero, List.set_cons_succ]
      refine wpR_take (i := 4) (v := ?_) (⟨fun _ => rfl, Eq.trans⟩) (some 21) rfl (by kernel_rfl) (by kernel_rfl) (by kernel_rfl) (by kernel_rfl) (by kernel_rfl) (fun _ _ _ h => h) (by kernel_rfl) (fun w' hw' => ?_) ?_
      rotate_left
      · go_simp; with_reducible rfl
      simp only [Act.put, List.setIfInBounds_toArray, List.set_cons_zero, List.set_cons_succ]
      refine wpR_take (i := 9) (v := ?_) (⟨fun _ => rfl, Eq.trans⟩) (some 26) rfl (by kernel_rfl) (by kernel_rfl) (by kernel_rfl) (by kernel_rfl) (by kernel_rfl) (fun _ _ _ h => h) (by kernel_rfl) (fun w' hw' => ?_) ?_
      rotate_left
      · go_simp; with_reducible rfl
      simp only [Act.put, List.setIfInBounds_toArray, List.set_cons_zero, List.set_cons_succ]
      refine wpR_done (by kernel_rfl) ?_ _
      have hrelf : Hid (∀ p v, Rel (G ++ [(p, k, v, d)]) (R ++ [((k, d), now + 1)]) (now + 1)) := Lib.hid (fun p v => by rw [hGt.out, trim_stop hgt.out]; exact hr.out.add p k d v)
      obtain ⟨hti, tc1⟩ := hhd.out.tick (now + 1)
      have c3 := blk_cell (j := 3) hhd.out.blk rfl
      have f3 := blk_free hhd.out.blk 3
      have hw3 : IntKind.i64.wrap ((now : Int) + 1) = (now : Int) + 1 := by rw [IntKind.wrap_i64]; omega
      have e1 : ((now + 1 : Nat) : Int) = (now : Int) + 1 := by omega
      rw [e1] at hti tc1
      replace hti := Lib.hid hti
      replace tc1 := Lib.hid tc1
      replace e1 := Lib.hid e1
      clear i2 i2n hwr c4
      go_upto_region 7 with (fail)
      clear c3 f3 hw3
      generalize hW1 : wd.setCell ⟨g, 3, none⟩ (.int .i64 ((now : Int) + 1)) = W1 at hti tc1 ⊢
      replace hW1 := Lib.hid hW1
      have htw1 : TChg lo rts w W1 := htd.out.trans (tc1.out.mono (Nat.le_refl _) (by simp))
      obtain ⟨nw, hnw⟩ : ∃ nw, now + 1 = nw := ⟨_, rfl⟩
      rw [hnw] at hrelf hti
      have hnwi : (now : Int) + 1 = (nw : Int) := by omega
      have hlg := Lib.hid hti.out.lg
      clear hwd
      obtain ⟨wd, hwd⟩ : ∃ wd, wd = W1.drew := ⟨_, rfl⟩
      have hgd : GrM W1 wd := by rw [hwd]; exact (Below.refl _ _).drew
      have htw : Hid (TChg lo rts w wd) := Lib.hid (htw1.trans (TChg.of_below hgd))
      have hrd := Rh.gr hgd hti
      have hblk := Lib.hid hrd.out.blk
      have hSwd : Hid (Own lo ([(9, vk, R.map (fun x => sV x.1.1)), (9, vd, R.map (fun x => sV x.1.2)), (3, vw, R.map (fun x => iV x.2)), (9, .slice none 0 0, []), (9, .slice none 0 0, []), (3, .slice none 0 0, [])] : List Rw) wd) := Lib.hid (((hrd.out.own.nils 9).nils 9).nils 3)
      have hlk : Hid ((R.map (fun x => sV x.1.1)).length ≤ 1000000) := Lib.hid (by rw [List.length_map]; have := hRl.out; omega)
      have hld : Hid ((R.map (fun x => sV x.1.2)).length ≤ 1000000) := Lib.hid (by rw [List.length_map]; have := hRl.out; omega)
      have hlw : Hid ((R.map (fun x => iV x.2)).length ≤ 1000000) := Lib.hid (by rw [List.length_map]; have := hRl.out; omega)
      have hPwd : Hid (TChg lo [9, 3] wd wd) := Lib.hid (TChg.refl _ _ _)
      have hZwd : Hid (lo ≤ wd.heap.size) := Lib.hid (Nat.le_trans hlo.out htw.out.size)
      obtain ⟨lk, hlke⟩ : ∃ lk, R.map (fun x => sV x.1.1) = lk := ⟨_, rfl⟩
      obtain ⟨ld, hlde⟩ : ∃ ld, R.map (fun x => sV x.1.2) = ld := ⟨_, rfl⟩
      obtain ⟨lw, hlwe⟩ : ∃ lw, R.map (fun x => iV x.2) = lw := ⟨_, rfl⟩
      rw [hlke, hlde, hlwe] at hSwd
      rw [hlke] at hlk
      rw [hlde] at hld
      rw [hlwe] at hlw
      replace hlke := Lib.hid hlke
      replace hlde := Lib.hid hlde
      replace hlwe := Lib.hid hlwe
      replace hnw := Lib.hid hnw
      replace hnwi := Lib.hid hnwi
      clear hgd hrd hti htw1 hhd htd tc1
      refine wpR_region (TChg lo [9, 3]) 29 (by kernel_rfl) ?_
      (rw [← hwd]; replace hwd := Lib.hid hwd)
      refine wpR_take (i := 0) (v := ?_) (TChg.road lo _) (some 38) rfl (by kernel_rfl) (by kernel_rfl) (by kernel_rfl) (by kernel_rfl) (by kernel_rfl) (fun _ _ _ h => h) (by kernel_rfl) (fun w' hw' => ?_) ?_
      rotate_left
      · go_simp; with_reducible rfl
      simp only [Act.put, List.setIfInBounds_toArray, List.set_cons_zero, List.set_cons_succ]
      refine wpR_takeU (i := 1) (v := ?_) (TChg.road lo _) (some 39) rfl (by kernel_rfl) (by kernel_rfl) (by kernel_rfl) (by kernel_rfl) (fun _ _ _ h => h) (by kernel_rfl) (fun w' => ?_) ?_
      rotate_left
      · go_simp; with_reducible rfl
      simp only [Act.put, List.setIfInBounds_toArray, List.set_cons_zero, List.set_cons_succ]
      refine wpR_takeU (i := 2) (v := ?_) (TChg.road lo _) (some 40) rfl (by kernel_rfl) (by kernel_rfl) (by kernel_rfl) (by kernel_rfl) (fun _ _ _ h => h) (by kernel_rfl) (fun w' => ?_) ?_
      rotate_left
      · go_simp; with_reducible rfl
      simp only [Act.put, List.setIfInBounds_toArray, List.set_cons_zero, List.set_cons_succ]
      refine wpR_take (i := 3) (v := ?_) (TChg.road lo _) (some 41) rfl (by kernel_rfl) (by kernel_rfl) (by kernel_rfl) (by kernel_rfl) (by kernel_rfl) (fun _ _ _ h => h) (by kernel_rfl) (fun w' hw' => ?_) ?_
      rotate_left
      · go_simp; with_reducible rfl
      simp only [Act.put, List.setIfInBounds_toArray, List.set_cons_zero, List.set_cons_succ]
      refine wpR_take (i := 4) (v := ?_) (TChg.road lo _) (some 42) rfl (by kernel_rfl) (by kernel_rfl) (by kernel_rfl) (by kernel_rfl) (by kernel_rfl) (fun _ _ _ h => h) (by kernel_rfl) (fun w' hw' => ?_) ?_
      rotate_left
      · go_simp; with_reducible rfl
      simp only [Act.put, List.setIfInBounds_toArray, List.set_cons_zero, List.set_cons_succ]
      refine wpR_take (i := 5) (v := ?_) (TChg.road lo _) (some 43) rfl (by kernel_rfl) (by kernel_rfl) (by kernel_rfl) (by kernel_rfl) (by kernel_rfl) (fun _ _ _ h => h) (by kernel_rfl) (fun w' hw' => ?_) ?_
      rotate_left
      · go_simp; with_reducible rfl
      simp only [Act.put, List.setIfInBounds_toArray, List.set_cons_zero, List.set_cons_succ]
      refine wpR_take (i := 6) (v := ?_) (TChg.road lo _) (some 44) rfl (by kernel_rfl) (by kernel_rfl) (by kernel_rfl) (by kernel_rfl) (by kernel_rfl) (fun _ _ _ h => h) (by kernel_rfl) (fun w' hw' => ?_) ?_
      rotate_left
      · have qb := hw'.block hblk.out (by decide); have qc := blk_cell (j := 0) qb rfl; go_simp; with_reducible rfl
      simp only [Act.put, List.setIfInBounds_toArray, List.set_cons_zero, List.set_cons_succ]
      refine wpR_take (i := 7) (v := ?_) (TChg.road lo _) (some 45) rfl (by kernel_rfl) (by kernel_rfl) (by kernel_rfl) (by kernel_rfl) (by kernel_rfl) (fun _ _ _ h => h) (by kernel_rfl) (fun w' hw' => ?_) ?_
      rotate_left
      · go_simp; with_reducible rfl
      simp only [Act.put, List.setIfInBounds_toArray, List.set_cons_zero, List.set_cons_succ]
      refine wpR_takeU (i := 10) (v := ?_) (TChg.road lo _) (some 48) rfl (by kernel_rfl) (by kernel_rfl) (by kernel_rfl) (by kernel_rfl) (fun _ _ _ h => h) (by kernel_rfl) (fun w' => ?_) ?_
      rotate_left
      · go_simp; with_reducible rfl
      simp only [Act.put, List.setIfInBounds_toArray, List.set_cons_zero, List.set_cons_succ]
      refine wpR_takeU (i := 11) (v := ?_) (TChg.road lo _) (some 49) rfl (by kernel_rfl) (by kernel_rfl) (by kernel_rfl) (by kernel_rfl) (fun _ _ _ h => h) (by kernel_rfl) (fun w' => ?_) ?_
      rotate_left
      · go_simp; with_reducible rfl
      simp only [Act.put, List.setIfInBounds_toArray, List.set_cons_zero, List.set_cons_succ]
      refine wpR_takeU (i := 12) (v := ?_) (TChg.road lo _) (some 50) rfl (by kernel_rfl) (by kernel_rfl) (by kernel_rfl) (by kernel_rfl) (fun _ _ _ h => h) (by kernel_rfl) (fun w' => ?_) ?_
      rotate_left
      · go_simp; with_reducible rfl
      simp only [Act.put, List.setIfInBounds_toArray, List.set_cons_zero, List.set_cons_succ]
      refine wpR_take (i := 13) (v := ?_) (TChg.road lo _) (some 51) rfl (by kernel_rfl) (by kernel_rfl) (by kernel_rfl) (by kernel_rfl) (by kernel_rfl) (fun _ _ _ h => h) (by kernel_rfl) (fun w' hw' => ?_) ?_
      rotate_left
      · have qb := hw'.block hblk.out (by decide); have qc := blk_cell (j := 1) qb rfl; go_simp; with_reducible rfl
      simp only [Act.put, List.setIfInBounds_toArray, List.set_cons_zero, List.set_cons_succ]
      refine wpR_takeU (i := 14) (v := ?_) (TChg.road lo _) (some 52) rfl (by kernel_rfl) (by kernel_rfl) (by kernel_rfl) (by kernel_rfl) (fun _ _ _ h => h) (by kernel_rfl) (fun w' => ?_) ?_
      rotate_left
      · go_simp; with_reducible rfl
      simp only [Act.put, List.setIfInBounds_toArray, List.set_cons_zero, List.set_cons_succ]
      refine wpR_takeU (i := 17) (v := ?_) (TChg.road lo _) (some 55) rfl (by kernel_rfl) (by kernel_rfl) (by kernel_rfl) (by kernel_rfl) (fun _ _ _ h => h) (by kernel_rfl) (fun w' => ?_) ?_
      rotate_left
      · go_simp; with_reducible rfl
      simp only [Act.put, List.setIfInBounds_toArray, List.set_cons_zero, List.set_cons_succ]
      refine wpR_takeU (i := 18) (v := ?_) (TChg.road lo _) (some 56) rfl (by kernel_rfl) (by kernel_rfl) (by kernel_rfl) (by kernel_rfl) (fun _ _ _ h => h) (by kernel_rfl) (fun w' => ?_) ?_
      rotate_left
      · go_simp; with_reducible rfl
      simp only [Act.put, List.setIfInBounds_toArray, List.set_cons_zero, List.set_cons_succ]
      refine wpR_takeU (i := 19) (v := ?_) (TChg.road lo _) (some 57) rfl (by kernel_rfl) (by kernel_rfl) (by kernel_rfl) (by kernel_rfl) (fun _ _ _ h => h) (by kernel_rfl) (fun w' => ?_) ?_
      rotate_left
      · go_simp; with_reducible rfl
      simp only [Act.put, List.setIfInBounds_toArray, List.set_cons_zero, List.set_cons_succ]
      refine wpR_take (i := 20) (v := ?_) (TChg.road lo _) (some 58) rfl (by kernel_rfl) (by kernel_rfl) (by kernel_rfl) (by kernel_rfl) (by kernel_rfl) (fun _ _ _ h => h) (by kernel_rfl) (fun w' hw' => ?_) ?_
      rotate_left
      · have qb := hw'.block hblk.out (by decide); have qc := blk_cell (j := 2) qb rfl; go_simp; with_reducible rfl
      simp only [Act.put, List.setIfInBounds_toArray, List.set_cons_zero, List.set_cons_succ]
      refine wpR_takeU (i := 21) (v := ?_) (TChg.road lo _) (some 59) rfl (by kernel_rfl) (by kernel_rfl) (by kernel_rfl) (by kernel_rfl) (fun _ _ _ h => h) (by kernel_rfl) (fun w' => ?_) ?_
      rotate_left
      · go_simp; with_reducible rfl
      simp only [Act.put, List.setIfInBounds_toArray, List.set_cons_zero, List.set_cons_succ]
      refine wpR_takeU (i := 22) (v := ?_) (TChg.road lo _) (some 60) rfl (by kernel_rfl) (by kernel_rfl) (by kernel_rfl) (by kernel_rfl) (fun _ _ _ h => h) (by kernel_rfl) (fun w' => ?_) ?_
      rotate_left
      · go_simp; with_reducible rfl
      simp only [Act.put, List.setIfInBounds_toArray, List.set_cons_zero, List.set_cons_succ]
      refine wpR_takeU (i := 23) (v := ?_) (TChg.road lo _) (some 61) rfl (by kernel_rfl) (by kernel_rfl) (by kernel_rfl) (by kernel_rfl) (fun _ _ _ h => h) (by kernel_rfl) (fun w' => ?_) ?_
      rotate_left
      · go_simp; with_reducible rfl
      simp only [Act.put, List.setIfInBounds_toArray, List.set_cons_zero, List.set_cons_succ]
      refine wpR_take (i := 24) (v := ?_) (TChg.road lo _) (some 62) rfl (by kernel_rfl) (by kernel_rfl) (by kernel_rfl) (by kernel_rfl) (by kernel_rfl) (fun _ _ _ h => h) (by kernel_rfl) (fun w' hw' => ?_) ?_
      rotate_left
      · have qb := hw'.block hblk.out (by decide); have qc := blk_cell (j := 3) qb rfl; go_simp; with_reducible rfl
      simp only [Act.put, List.setIfInBounds_toArray, List.set_cons_zero, List.set_cons_succ]
      refine wpR_three 8 15 25 rfl rfl rfl (by kernel_rfl) (by kernel_rfl) (by kernel_rfl) (by kernel_rfl) (fun K hK => ?_) (fun K hK => ?_) (fun K hK => ?_)
      · go_simp
        obtain ⟨q8, hq8⟩ : ∃ q8, wd.heap.size = q8 := ⟨_, rfl⟩
        obtain ⟨Y1, hY1⟩ : ∃ Y1, Y1 = wd.alloc (.cells #[.string (bs k)] 9) := ⟨_, rfl⟩
        have hSY1 : Hid (Own lo ([(9, vk, lk), (9, vd, ld), (3, vw, lw), (9, .slice (some ⟨q8, 0, none⟩) 1 1, [sV k]), (9, .slice none 0 0, []), (3, .slice none 0 0, [])] : List Rw) Y1) := Lib.hid (by rw [hY1, ← hq8]; exact Own.lit (i := 3) hSwd.out rfl hZwd.out)
        have hrY1 : TChg lo [9, 3] wd Y1 := by rw [hY1]; exact TChg.of_alloc wd _
        have hZY1 : Hid (lo ≤ Y1.heap.size) := Lib.hid (Nat.le_trans hZwd.out (by rw [hY1]; simp))
        have hPY1 : Hid (TChg lo [9, 3] wd Y1) := Lib.hid (hrY1)
        rw [← hY1, hq8]
        replace hY1 := Lib.hid hY1
        replace hq8 := Lib.hid hq8
        refine hK _ _ (fun _ => hrY1) ?_
        clear hK K
        clear hrY1
        try simp only [Act.put, List.setIfInBounds_toArray, List.set_cons_zero, List.set_cons_succ]
        refine wpR_three 9 15 25 rfl rfl rfl (by kernel_rfl) (by kernel_rfl) (by kernel_rfl) (by kernel_rfl) (fun K hK => ?_) (fun K hK => ?_) (fun K hK => ?_)
        · refine wp_ownS (.tmp 44) (.tmp 46) rfl hSY1.out 0 3 vk (lk) (some ⟨q8, 0, none⟩) (sV k) rfl rfl rfl rfl rfl hlk.out hZY1.out ?_
          intro v9 Y2 hSY2 hgY2
          have hrY2 : TChg lo [9, 3] Y1 Y2 := TChg.of_row (hSY1.out.1 0 _ rfl) hgY2 (by simp)
          have hZY2 : Hid (lo ≤ Y2.heap.size) := Lib.hid (Nat.le_trans hZY1.out hgY2.size)
          replace hSY2 : Hid (Own lo ([(9, v9, lk ++ [sV k]), (9, vd, ld), (3, vw, lw), (9, .slice (some ⟨q8, 0, none⟩) 1 1, [sV k]), (9, .slice none 0 0, []), (3, .slice none 0 0, [])] : List Rw) Y2) := Lib.hid hSY2
          have hPY2 : Hid (TChg lo [9, 3] wd Y2) := Lib.hid ((hPY1.out).trans hrY2)
          refine hK _ _ (fun _ => hrY2) ?_
          clear hK K
          clear hrY2 hgY2
          try simp only [Act.put, List.setIfInBounds_toArray, List.set_cons_zero, List.set_cons_succ]
          refine wpR_two 15 25 rfl rfl (by kernel_rfl) (by kernel_rfl) (by kernel_rfl) (fun K hK => ?_) (fun K hK => ?_)
          · go_simp
            obtain ⟨q15, hq15⟩ : ∃ q15, Y2.heap.size = q15 := ⟨_, rfl⟩
            obtain ⟨Y3, hY3⟩ : ∃ Y3, Y3 = Y2.alloc (.cells #[.string (bs d)] 9) := ⟨_, rfl⟩
            have hSY3 : Hid (Own lo ([(9, v9, lk ++ [sV k]), (9, vd, ld), (3, vw, lw), (9, .slice (some ⟨q8, 0, none⟩) 1 1, [sV k]), (9, .slice (some ⟨q15, 0, none⟩) 1 1, [sV d]), (3, .slice none 0 0, [])] : List Rw) Y3) := Lib.hid (by rw [hY3, ← hq15]; exact Own.lit (i := 4) hSY2.out rfl hZY2.out)
            have hrY3 : TChg lo [9, 3] Y2 Y3 := by rw [hY3]; exact TChg.of_alloc Y2 _
            have hZY3 : Hid (lo ≤ Y3.heap.size) := Lib.hid (Nat.le_trans hZY2.out (by rw [hY3]; simp))
            have hPY3 : Hid (TChg lo [9, 3] wd Y3) := Lib.hid ((hPY2.out).trans hrY3)
            rw [← hY3, hq15]
            replace hY3 := Lib.hid hY3
            replace hq15 := Lib.hid hq15
            refine hK _ _ (fun _ => hrY3) ?_
            clear hK K
            clear hrY3
            try simp only [Act.put, List.setIfInBounds_toArray, List.set_cons_zero, List.set_cons_succ]
            refine wpR_two 16 25 rfl rfl (by kernel_rfl) (by kernel_rfl) (by kernel_rfl) (fun K hK => ?_) (fun K hK => ?_)
            · refine wp_ownS (.tmp 51) (.tmp 53) rfl hSY3.out 1 4 vd (ld) (some ⟨q15, 0, none⟩) (sV d) rfl rfl rfl rfl rfl hld.out hZY3.out ?_
              intro v16 Y4 hSY4 hgY4
              have hrY4 : TChg lo [9, 3] Y3 Y4 := TChg.of_row (hSY3.out.1 1 _ rfl) hgY4 (by simp)
              have hZY4 : Hid (lo ≤ Y4.heap.size) := Lib.hid (Nat.le_trans hZY3.out hgY4.size)
              replace hSY4 : Hid (Own lo ([(9, v9, lk ++ [sV k]), (9, v16, ld ++ [sV d]), (3, vw, lw), (9, .slice (some ⟨q8, 0, none⟩) 1 1, [sV k]), (9, .slice (some ⟨q15, 0, none⟩) 1 1, [sV d]), (3, .slice none 0 0, [])] : List Rw) Y4) := Lib.hid hSY4
              have hPY4 : Hid (TChg lo [9, 3] wd Y4) := Lib.hid ((hPY3.out).trans hrY4)
              refine hK _ _ (fun _ => hrY4) ?_
              clear hK K
              clear hrY4 hgY4
              try simp only [Act.put, List.setIfInBounds_toArray, List.set_cons_zero, List.set_cons_succ]
              refine wpR_one 25 rfl (by kernel_rfl) (by kernel_rfl) (fun K hK => ?_)
              go_simp
              obtain ⟨q25, hq25⟩ : ∃ q25, Y4.heap.size = q25 := ⟨_, rfl⟩
              obtain ⟨Y5, hY5⟩ : ∃ Y5, Y5 = Y4.alloc (.cells #[.int .i64 nw] 3) := ⟨_, rfl⟩
              have hSY5 : Hid (Own lo ([(9, v9, lk ++ [sV k]), (9, v16, ld ++ [sV d]), (3, vw, lw), (9, .slice (some ⟨q8, 0, none⟩) 1 1, [sV k]), (9, .slice (some ⟨q15, 0, none⟩) 1 1, [sV d]), (3, .slice (some ⟨q25, 0, none⟩) 1 1, [iV nw])] : List Rw) Y5) := Lib.hid (by rw [hY5, ← hq25]; exact Own.lit (i := 5) hSY4.out rfl hZY4.out)
              have hrY5 : TChg lo [9, 3] Y4 Y5 := by rw [hY5]; exact TChg.of_alloc Y4 _
              have hZY5 : Hid (lo ≤ Y5.heap.size) := Lib.hid (Nat.le_trans hZY4.out (by rw [hY5]; simp))
              have hPY5 : Hid (TChg lo [9, 3] wd Y5) := Lib.hid ((hPY4.out).trans hrY5)
              rw [← hY5, hq25]
              replace hY5 := Lib.hid hY5
              replace hq25 := Lib.hid hq25
              refine hK _ _ (fun _ => hrY5) ?_
              clear hK K
              clear hrY5
              try simp only [Act.put, List.setIfInBounds_toArray, List.set_cons_zero, List.set_cons_succ]
              refine wpR_one 26 rfl (by kernel_rfl) (by kernel_rfl) (fun K hK => ?_)
              refine wp_ownI (.tmp 58) (.tmp 63) rfl hSY5.out 2 5 vw (lw) (some ⟨q25, 0, none⟩) (iV nw) rfl rfl rfl rfl rfl hlw.out hZY5.out ?_
              intro v26 Y6 hSY6 hgY6
              have hrY6 : TChg lo [9, 3] Y5 Y6 := TChg.of_row (hSY5.out.1 2 _ rfl) hgY6 (by simp)
              have hZY6 : Hid (lo ≤ Y6.heap.size) := Lib.hid (Nat.le_trans hZY5.out hgY6.size)
              replace hSY6 : Hid (Own lo ([(9, v9, lk ++ [sV k]), (9, v16, ld ++ [sV d]), (3, v26, lw ++ [iV nw]), (9, .slice (some ⟨q8, 0, none⟩) 1 1, [sV k]), (9, .slice (some ⟨q15, 0, none⟩) 1 1, [sV d]), (3, .slice (some ⟨q25, 0, none⟩) 1 1, [iV nw])] : List Rw) Y6) := Lib.hid hSY6
              have hPY6 : Hid (TChg lo [9, 3] wd Y6) := Lib.hid ((hPY5.out).trans hrY6)
              refine hK _ _ (fun _ => hrY6) ?_
              clear hK K
              clear hrY6 hgY6
              have r0 := hSY6.out.1 0 _ rfl
              have r1 := hSY6.out.1 1 _ rfl
              have r2 := hSY6.out.1 2 _ rfl
              dsimp only at r0 r1 r2
              generalize hl0 : (lk ++ [sV k]).length = n0 at r0
              generalize hl1 : (ld ++ [sV d]).length = n1 at r1
              generalize hl2 : (lw ++ [iV nw]).length = n2 at r2
              obtain ⟨A1, c1, rfl, -, -⟩ := row_form r0
              obtain ⟨A2, c2, rfl, -, -⟩ := row_form r1
              obtain ⟨A3, c3, rfl, -, -⟩ := row_form r2
              replace hl0 := Lib.hid hl0
              replace hl1 := Lib.hid hl1
              replace hl2 := Lib.hid hl2
              clear r0 r1 r2
              have b0 := hPY6.out.block hblk.out (by decide)
              have k0 := blk_cell (j := 0) b0 rfl
              have z0 := blk_free b0 0
              have b1 := blk_set b0 0 (.slice A1 n0 c1)
              have k1 := blk_cell (j := 1) b1 rfl
              have z1 := blk_free b1 1
              have b2 := blk_set b1 1 (.slice A2 n1 c2)
              have k2 := blk_cell (j := 2) b2 rfl
              have z2 := blk_free b2 2
              have hend := Lib.hid (put_end (lo := lo) b0 hlg.out hSY6.out hlke.out hlde.out hlwe.out)
              clear b0 b1 b2
              try simp only [Act.put, List.setIfInBounds_toArray, List.set_cons_zero, List.set_cons_succ]
              refine wpR_takeU (i := 27) (v := ?_) (TChg.road lo _) (some 65) rfl (by kernel_rfl) (by kernel_rfl) (by kernel_rfl) (by kernel_rfl) (fun _ _ _ h => h) (by kernel_rfl) (fun w' => ?_) ?_
              rotate_left
              · go_simp; with_reducible rfl
              simp only [Act.put, List.setIfInBounds_toArray, List.set_cons_zero, List.set_cons_succ]
              refine wpR_take (i := 28) (v := ?_) (TChg.road lo _) (some 66) rfl (by kernel_rfl) (by kernel_rfl) (by kernel_rfl) (by kernel_rfl) (by kernel_rfl) (fun _ _ _ h => h) (by kernel_rfl) (fun w' hw' => ?_) ?_
              rotate_left
              · go_simp; with_reducible rfl
              simp only [Act.put, List.setIfInBounds_toArray, List.set_cons_zero, List.set_cons_succ]
              refine wpR_one 29 rfl (by kernel_rfl) (by kernel_rfl) (fun K hK => ?_)
              go_simp
              refine hK _ _ (fun h => absurd h (by decide)) ?_
              clear hK K
              try simp only [Act.put, List.setIfInBounds_toArray, List.set_cons_zero, List.set_cons_succ]
              refine wpR_takeU (i := 30) (v := ?_) (TChg.road lo _) (some 67) rfl (by kernel_rfl) (by kernel_rfl) (by kernel_rfl) (by kernel_rfl) (fun _ _ _ h => h) (by kernel_rfl) (fun w' => ?_) ?_
              rotate_left
              · go_simp; with_reducible rfl
              simp only [Act.put, List.setIfInBounds_toArray, List.set_cons_zero, List.set_cons_succ]
              refine wpR_take (i := 31) (v := ?_) (TChg.road lo _) (some 68) rfl (by kernel_rfl) (by kernel_rfl) (by kernel_rfl) (by kernel_rfl) (by kernel_rfl) (fun _ _ _ h => h) (by kernel_rfl) (fun w' hw' => ?_) ?_
              rotate_left
              · go_simp; with_reducible rfl
              simp only [Act.put, List.setIfInBounds_toArray, List.set_cons_zero, List.set_cons_succ]
              refine wpR_one 32 rfl (by kernel_rfl) (by kernel_rfl) (fun K hK => ?_)
              go_simp
              refine hK _ _ (fun h => absurd h (by decide)) ?_
              clear hK K
              try simp only [Act.put, List.setIfInBounds_toArray, List.set_cons_zero, List.set_cons_succ]
              refine wpR_takeU (i := 33) (v := ?_) (TChg.road lo _) (some 69) rfl (by kernel_rfl) (by kernel_rfl) (by kernel_rfl) (by kernel_rfl) (fun _ _ _ h => h) (by kernel_rfl) (fun w' => ?_) ?_
              rotate_left
              · go_simp; with_reducible rfl
              simp only [Act.put, List.setIfInBounds_toArray, List.set_cons_zero, List.set_cons_succ]
              refine wpR_take (i := 34) (v := ?_) (TChg.road lo _) (some 70) rfl (by kernel_rfl) (by kernel_rfl) (by kernel_rfl) (by kernel_rfl) (by kernel_rfl) (fun _ _ _ h => h) (by kernel_rfl) (fun w' hw' => ?_) ?_
              rotate_left
              · go_simp; with_reducible rfl
              simp only [Act.put, List.setIfInBounds_toArray, List.set_cons_zero, List.set_cons_succ]
              refine wpR_one 35 rfl (by kernel_rfl) (by kernel_rfl) (fun K hK => ?_)
              go_simp
              refine hK _ _ (fun h => absurd h (by decide)) ?_
              clear hK K
              try simp only [Act.put, List.setIfInBounds_toArray, List.set_cons_zero, List.set_cons_succ]
              refine wpR_done (by kernel_rfl) ?_ _
              go_wp2_with fail
              go_ret
              have hnw2 := hnw.out
              subst hnw2
              exact ⟨rfl, ⟨_, _, _, _, Lib.hid hend.out.1, hrelf.out⟩, (htw.out.trans (hPY6.out.mono (Nat.le_refl _) (by simp))).trans (hend.out.2.mono (Nat.le_refl _) (by simp))⟩
            · go_simp
              obtain ⟨q25, hq25⟩ : ∃ q25, Y3.heap.size = q25 := ⟨_, rfl⟩
              obtain ⟨Y4, hY4⟩ : ∃ Y4, Y4 = Y3.alloc (.cells #[.int .i64 nw] 3) := ⟨_, rfl⟩
              have hSY4 : Hid (Own lo ([(9, v9, lk ++ [sV k]), (9, vd, ld), (3, vw, lw), (9, .slice (some ⟨q8, 0, none⟩) 1 1, [sV k]), (9, .slice (some ⟨q15, 0, none⟩) 1 1, [sV d]), (3, .slice (some ⟨q25, 0, none⟩) 1 1, [iV nw])] : List Rw) Y4) := Lib.hid (by rw [hY4, ← hq25]; exact Own.lit (i := 5) hSY3.out rfl hZY3.out)
              have hrY4 : TChg lo [9, 3] Y3 Y4 := by rw [hY4]; exact TChg.of_alloc Y3 _
              have hZY4 : Hid (lo ≤ Y4.heap.size) := Lib.hid (Nat.le_trans hZY3.out (by rw [hY4]; simp))
              have hPY4 : Hid (TChg lo [9, 3] wd Y4) := Lib.hid ((hPY3.out).trans hrY4)
              rw [← hY4, hq25]
              replace hY4 := Lib.hid hY4
              replace hq25 := Lib.hid hq25
              refine hK _ _ (fun _ => hrY4) ?_
              clear hK K
              clear hrY4
              try simp only [Act.put, List.setIfInBounds_toArray, List.set_cons_zero, List.set_cons_succ]
              refine wpR_one 16 rfl (by kernel_rfl) (by kernel_rfl) (fun K hK => ?_)
              refine wp_ownS (.tmp 51) (.tmp 53) rfl hSY4.out 1 4 vd (ld) (some ⟨q15, 0, none⟩) (sV d) rfl rfl rfl rfl rfl hld.out hZY4.out ?_
              intro v16 Y5 hSY5 hgY5
              have hrY5 : TChg lo [9, 3] Y4 Y5 := TChg.of_row (hSY4.out.1 1 _ rfl) hgY5 (by simp)
              have hZY5 : Hid (lo ≤ Y5.heap.size) := Lib.hid (Nat.le_trans hZY4.out hgY5.size)
              replace hSY5 : Hid (Own lo ([(9, v9, lk ++ [sV k]), (9, v16, ld ++ [sV d]), (3, vw, lw), (9, .slice (some ⟨q8, 0, none⟩) 1 1, [sV k]), (9, .slice (some ⟨q15, 0, none⟩) 1 1, [sV d]), (3, .slice (some ⟨q25, 0, none⟩) 1 1, [iV nw])] : List Rw) Y5) := Lib.hid hSY5
              have hPY5 : Hid (TChg lo [9, 3] wd Y5) := Lib.hid ((hPY4.out).trans hrY5)
              refine hK _ _ (fun _ => hrY5) ?_
              clear hK K
              clear hrY5 hgY5
              try simp only [Act.put, List.setIfInBounds_toArray, List.set_cons_zero, List.set_cons_succ]
              refine wpR_one 26 rfl (by kernel_rfl) (by kernel_rfl) (fun K hK => ?_)
              refine wp_ownI (.tmp 58) (.tmp 63) rfl hSY5.out 2 5 vw (lw) (some ⟨q25, 0, none⟩) (iV nw) rfl rfl rfl rfl rfl hlw.out hZY5.out ?_
              intro v26 Y6 hSY6 hgY6
              have hrY6 : TChg lo [9, 3] Y5 Y6 := TChg.of_row (hSY5.out.1 2 _ rfl) hgY6 (by simp)
              have hZY6 : Hid (lo ≤ Y6.heap.size) := Lib.hid (Nat.le_trans hZY5.out hgY6.size)
              replace hSY6 : Hid (Own lo ([(9, v9, lk ++ [sV k]), (9, v16, ld ++ [sV d]), (3, v26, lw ++ [iV nw]), (9, .slice (some ⟨q8, 0, none⟩) 1 1, [sV k]), (9, .slice (some ⟨q15, 0, none⟩) 1 1, [sV d]), (3, .slice (some ⟨q25, 0, none⟩) 1 1, [iV nw])] : List Rw) Y6) := Lib.hid hSY6
              have hPY6 : Hid (TChg lo [9, 3] wd Y6) := Lib.hid ((hPY5.out).trans hrY6)
              refine hK _ _ (fun _ => hrY6) ?_
              clear hK K
              clear hrY6 hgY6
              have r0 := hSY6.out.1 0 _ rfl
              have r1 := hSY6.out.1 1 _ rfl
              have r2 := hSY6.out.1 2 _ rfl
              dsimp only at r0 r1 r2
              generalize hl0 : (lk ++ [sV k]).length = n0 at r0
              generalize hl1 : (ld ++ [sV d]).length = n1 at r1
              generalize hl2 : (lw ++ [iV nw]).length = n2 at r2
              obtain ⟨A1, c1, rfl, -, -⟩ := row_form r0
              obtain ⟨A2, c2, rfl, -, -⟩ := row_form r1
              obtain ⟨A3, c3, rfl, -, -⟩ := row_form r2
              replace hl0 := Lib.hid hl0
              replace hl1 := Lib.hid hl1
              replace hl2 := Lib.hid hl2
              clear r0 r1 r2
              have b0 := hPY6.out.block hblk.out (by decide)
              have k0 := blk_cell (j := 0) b0 rfl
              have z0 := blk_free b0 0
              have b1 := blk_set b0 0 (.slice A1 n0 c1)
              have k1 := blk_cell (j := 1) b1 rfl
              have z1 := blk_free b1 1
              have b2 := blk_set b1 1 (.slice A2 n1 c2)
              have k2 := blk_cell (j := 2) b2 rfl
              have z2 := blk_free b2 2
              have hend := Lib.hid (put_end (lo := lo) b0 hlg.out hSY6.out hlke.out hlde.out hlwe.out)
              clear b0 b1 b2
              try simp only [Act.put, List.setIfInBounds_toArray, List.set_cons_zero, List.set_cons_succ]
              refine wpR_takeU (i := 27) (v := ?_) (TChg.road lo _) (some 65) rfl (by kernel_rfl) (by kernel_rfl) (by kernel_rfl) (by kernel_rfl) (fun _ _ _ h => h) (by kernel_rfl) (fun w' => ?_) ?_
              rotate_left
              · go_simp; with_reducible rfl
              simp only [Act.put, List.setIfInBounds_toArray, List.set_cons_zero, List.set_cons_succ]
              refine wpR_take (i := 28) (v := ?_) (TChg.road lo _) (some 66) rfl (by kernel_rfl) (by kernel_rfl) (by kernel_rfl) (by kernel_rfl) (by kernel_rfl) (fun _ _ _ h => h) (by kernel_rfl) (fun w' hw' => ?_) ?_
              rotate_left
              · go_simp; with_reducible rfl
              simp only [Act.put, List.setIfInBounds_toArray, List.set_cons_zero, List.set_cons_succ]
              refine wpR_one 29 rfl (by kernel_rfl) (by kernel_rfl) (fun K hK => ?_)
              go_simp
              refine hK _ _ (fun h => absurd h (by decide)) ?_
              clear hK K
              try simp only [Act.put, List.setIfInBounds_toArray, List.set_cons_zero, List.set_cons_succ]
              refine wpR_takeU (i := 30) (v := ?_) (TChg.road lo _) (some 67) rfl (by kernel_rfl) (by kernel_rfl) (by kernel_rfl) (by kernel_rfl) (fun _ _ _ h => h) (by kernel_rfl) (fun w' => ?_) ?_
              rotate_left
              · go_simp; with_reducible rfl
              simp only [Act.put, List.setIfInBounds_toArray, List.set_cons_zero, List.set_cons_succ]
              refine wpR_take (i := 31) (v := ?_) (TChg.road lo _) (some 68) rfl (by kernel_rfl) (by kernel_rfl) (by kernel_rfl) (by kernel_rfl) (by kernel_rfl) (fun _ _ _ h => h) (by kernel_rfl) (fun w' hw' => ?_) ?_
              rotate_left
              · go_simp; with_reducible rfl
              simp only [Act.put, List.setIfInBounds_toArray, List.set_cons_zero, List.set_cons_succ]
              refine wpR_one 32 rfl (by kernel_rfl) (by kernel_rfl) (fun K hK => ?_)
              go_simp
              refine hK _ _ (fun h => absurd h (by decide)) ?_
              clear hK K
              try simp only [Act.put, List.setIfInBounds_toArray, List.set_cons_zero, List.set_cons_succ]
              refine wpR_takeU (i := 33) (v := ?_) (TChg.road lo _) (some 69) rfl (by kernel_rfl) (by kernel_rfl) (by kernel_rfl) (by kernel_rfl) (fun _ _ _ h => h) (by kernel_rfl) (fun w' => ?_) ?_
              rotate_left
              · go_simp; with_reducible rfl
              simp only [Act.put, List.setIfInBounds_toArray, List.set_cons_zero, List.set_cons_succ]
              refine wpR_take (i := 34) (v := ?_) (TChg.road lo _) (some 70) rfl (by kernel_rfl) (by kernel_rfl) (by kernel_rfl) (by kernel_rfl) (by kernel_rfl) (fun _ _ _ h => h) (by kernel_rfl) (fun w' hw' => ?_) ?_
              rotate_left
              · go_simp; with_reducible rfl
              simp only [Act.put, List.setIfInBounds_toArray, List.set_cons_zero, List.set_cons_succ]
              refine wpR_one 35 rfl (by kernel_rfl) (by kernel_rfl) (fun K hK => ?_)
              go_simp
              refine hK _ _ (fun h => absurd h (by decide)) ?_
              clear hK K
              try simp only [Act.put, List.setIfInBounds_toArray, List.set_cons_zero, List.set_cons_succ]
              refine wpR_done (by kernel_rfl) ?_ _
              go_wp2_with fail
              go_ret
              have hnw2 := hnw.out
              subst hnw2
              exact ⟨rfl, ⟨_, _, _, _, Lib.hid hend.out.1, hrelf.out⟩, (htw.out.trans (hPY6.out.mono (Nat.le_refl _) (by simp))).trans (hend.out.2.mono (Nat.le_refl _) (by simp))⟩
          · go_simp
            obtain ⟨q25, hq25⟩ : ∃ q25, Y2.heap.size = q25 := ⟨_, rfl⟩
            obtain ⟨Y3, hY3⟩ : ∃ Y3, Y3 = Y2.alloc (.cells #[.int .i64 nw] 3) := ⟨_, rfl⟩
            have hSY3 : Hid (Own lo ([(9, v9, lk ++ [sV k]), (9, vd, ld), (3, vw, lw), (9, .slice (some ⟨q8, 0, none⟩) 1 1, [sV k]), (9, .slice none 0 0, []), (3, .slice (some ⟨q25, 0, none⟩) 1 1, [iV nw])] : List Rw) Y3) := Lib.hid (by rw [hY3, ← hq25]; exact Own.lit (i := 5) hSY2.out rfl hZY2.out)
            have hrY3 : TChg lo [9, 3] Y2 Y3 := by rw [hY3]; exact TChg.of_alloc Y2 _
            have hZY3 : Hid (lo ≤ Y3.heap.size) := Lib.hid (Nat.le_trans hZY2.out (by rw [hY3]; simp))
            have hPY3 : Hid (TChg lo [9, 3] wd Y3) := Lib.hid ((hPY2.out).trans hrY3)
            rw [← hY3, hq25]
            replace hY3 := Lib.hid hY3
            replace hq25 := Lib.hid hq25
            refine hK _ _ (fun _ => hrY3) ?_
            clear hK K
            clear hrY3
            try simp only [Act.put, List.setIfInBounds_toArray, List.set_cons_zero, List.set_cons_succ]
            refine wpR_one 15 rfl (by kernel_rfl) (by kernel_rfl) (fun K hK => ?_)
            go_simp
            obtain ⟨q15, hq15⟩ : ∃ q15, Y3.heap.size = q15 := ⟨_, rfl⟩
            obtain ⟨Y4, hY4⟩ : ∃ Y4, Y4 = Y3.alloc (.cells #[.string (bs d)] 9) := ⟨_, rfl⟩
            have hSY4 : Hid (Own lo ([(9, v9, lk ++ [sV k]), (9, vd, ld), (3, vw, lw), (9, .slice (some ⟨q8, 0, none⟩) 1 1, [sV k]), (9, .slice (some ⟨q15, 0, none⟩) 1 1, [sV d]), (3, .slice (some ⟨q25, 0, none⟩) 1 1, [iV nw])] : List Rw) Y4) := Lib.hid (by rw [hY4, ← hq15]; exact Own.lit (i := 4) hSY3.out rfl hZY3.out)
            have hrY4 : TChg lo [9, 3] Y3 Y4 := by rw [hY4]; exact TChg.of_alloc Y3 _
            have hZY4 : Hid (lo ≤ Y4.heap.size) := Lib.hid (Nat.le_trans hZY3.out (by rw [hY4]; simp))
            have hPY4 : Hid (TChg lo [9, 3] wd Y4) := Lib.hid ((hPY3.out).trans hrY4)
            rw [← hY4, hq15]
            replace hY4 := Lib.hid hY4
            replace hq15 := Lib.hid hq15
            refine hK _ _ (fun _ => hrY4) ?_
            clear hK K
            clear hrY4
            try simp only [Act.put, List.setIfInBounds_toArray, List.set_cons_zero, List.set_cons_succ]
            refine wpR_one 16 rfl (by kernel_rfl) (by kernel_rfl) (fun K hK => ?_)
            refine wp_ownS (.tmp 51) (.tmp 53) rfl hSY4.out 1 4 vd (ld) (some ⟨q15, 0, none⟩) (sV d) rfl rfl rfl rfl rfl hld.out hZY4.out ?_
            intro v16 Y5 hSY5 hgY5
            have hrY5 : TChg lo [9, 3] Y4 Y5 := TChg.of_row (hSY4.out.1 1 _ rfl) hgY5 (by simp)
            have hZY5 : Hid (lo ≤ Y5.heap.size) := Lib.hid (Nat.le_trans hZY4.out hgY5.size)
            replace hSY5 : Hid (Own lo ([(9, v9, lk ++ [sV k]), (9, v16, ld ++ [sV d]), (3, vw, lw), (9, .slice (some ⟨q8, 0, none⟩) 1 1, [sV k]), (9, .slice (some ⟨q15, 0, none⟩) 1 1, [sV d]), (3, .slice (some ⟨q25, 0, none⟩) 1 1, [iV nw])] : List Rw) Y5) := Lib.hid hSY5
            have hPY5 : Hid (TChg lo [9, 3] wd Y5) := Lib.hid ((hPY4.out).trans hrY5)
            refine hK _ _ (fun _ => hrY5) ?_
            clear hK K
            clear hrY5 hgY5
            try simp only [Act.put, List.setIfInBounds_toArray, List.set_cons_zero, List.set_cons_succ]
            refine wpR_one 26 rfl (by kernel_rfl) (by kernel_rfl) (fun K hK => ?_)
            refine wp_ownI (.tmp 58) (.tmp 63) rfl hSY5.out 2 5 vw (lw) (some ⟨q25, 0, none⟩) (iV nw) rfl rfl rfl rfl rfl hlw.out hZY5.out ?_
            intro v26 Y6 hSY6 hgY6
            have hrY6 : TChg lo [9, 3] Y5 Y6 := TChg.of_row (hSY5.out.1 2 _ rfl) hgY6 (by simp)
            have hZY6 : Hid (lo ≤ Y6.heap.size) := Lib.hid (Nat.le_trans hZY5.out hgY6.size)
            replace hSY6 : Hid (Own lo ([(9, v9, lk ++ [sV k]), (9, v16, ld ++ [sV d]), (3, v26, lw ++ [iV nw]), (9, .slice (some ⟨q8, 0, none⟩) 1 1, [sV k]), (9, .slice (some ⟨q15, 0, none⟩) 1 1, [sV d]), (3, .slice (some ⟨q25, 0, none⟩) 1 1, [iV nw])] : List Rw) Y6) := Lib.hid hSY6
            have hPY6 : Hid (TChg lo [9, 3] wd Y6) := Lib.hid ((hPY5.out).trans hrY6)
            refine hK _ _ (fun _ => hrY6) ?_
            clear hK K
            clear hrY6 hgY6
            have r0 := hSY6.out.1 0 _ rfl
            have r1 := hSY6.out.1 1 _ rfl
            have r2 := hSY6.out.1 2 _ rfl
            dsimp only at r0 r1 r2
            generalize hl0 : (lk ++ [sV k]).length = n0 at r0
            generalize hl1 : (ld ++ [sV d]).length = n1 at r1
            generalize hl2 : (lw ++ [iV nw]).length = n2 at r2
            obtain ⟨A1, c1, rfl, -, -⟩ := row_form r0
            obtain ⟨A2, c2, rfl, -, -⟩ := row_form r1
            obtain ⟨A3, c3, rfl, -, -⟩ := row_form r2
            replace hl0 := Lib.hid hl0
            replace hl1 := Lib.hid hl1
            replace hl2 := Lib.hid hl2
            clear r0 r1 r2
            have b0 := hPY6.out.block hblk.out (by decide)
            have k0 := blk_cell (j := 0) b0 rfl
            have z0 := blk_free b0 0
            have b1 := blk_set b0 0 (.slice A1 n0 c1)
            have k1 := blk_cell (j := 1) b1 rfl
            have z1 := blk_free b1 1
            have b2 := blk_set b1 1 (.slice A2 n1 c2)
            have k2 := blk_cell (j := 2) b2 rfl
            have z2 := blk_free b2 2
            have hend := Lib.hid (put_end (lo := lo) b0 hlg.out hSY6.out hlke.out hlde.out hlwe.out)
            clear b0 b1 b2
            try simp only [Act.put, List.setIfInBounds_toArray, List.set_cons_zero, List.set_cons_succ]
            refine wpR_takeU (i := 27) (v := ?_) (TChg.road lo _) (some 65) rfl (by kernel_rfl) (by kernel_rfl) (by kernel_rfl) (by kernel_rfl) (fun _ _ _ h => h) (by kernel_rfl) (fun w' => ?_) ?_
            rotate_left
            · go_simp; with_reducible rfl
            simp only [Act.put, List.setIfInBounds_toArray, List.set_cons_zero, List.set_cons_succ]
            refine wpR_take (i := 28) (v := ?_) (TChg.road lo _) (some 66) rfl (by kernel_rfl) (by kernel_rfl) (by kernel_rfl) (by kernel_rfl) (by kernel_rfl) (fun _ _ _ h => h) (by kernel_rfl) (fun w' hw' => ?_) ?_
            rotate_left
            · go_simp; with_reducible rfl
            simp only [Act.put, List.setIfInBounds_toArray, List.set_cons_zero, List.set_cons_succ]
            refine wpR_one 29 rfl (by kernel_rfl) (by kernel_rfl) (fun K hK => ?_)
            go_simp
            refine hK _ _ (fun h => absurd h (by decide)) ?_
            clear hK K
            try simp only [Act.put, List.setIfInBounds_toArray, List.set_cons_zero, List.set_cons_succ]
            refine wpR_takeU (i := 30) (v := ?_) (TChg.road lo _) (some 67) rfl (by kernel_rfl) (by kernel_rfl) (by kernel_rfl) (by kernel_rfl) (fun _ _ _ h => h) (by kernel_rfl) (fun w' => ?_) ?_
            rotate_left
            · go_simp; with_reducible rfl
            simp only [Act.put, List.setIfInBounds_toArray, List.set_cons_zero, List.set_cons_succ]
            refine wpR_take (i := 31) (v := ?_) (TChg.road lo _) (some 68) rfl (by kernel_rfl) (by kernel_rfl) (by kernel_rfl) (by kernel_rfl) (by kernel_rfl) (fun _ _ _ h => h) (by kernel_rfl) (fun w' hw' => ?_) ?_
            rotate_left
            · go_simp; with_reducible rfl
            simp only [Act.put, List.setIfInBounds_toArray, List.set_cons_zero, List.set_cons_succ]
            refine wpR_one 32 rfl (by kernel_rfl) (by kernel_rfl) (fun K hK => ?_)
            go_simp
            refine hK _ _ (fun h => absurd h (by decide)) ?_
            clear hK K
            try simp only [Act.put, List.setIfInBounds_toArray, List.set_cons_zero, List.set_cons_succ]
            refine wpR_takeU (i := 33) (v := ?_) (TChg.road lo _) (some 69) rfl (by kernel_rfl) (by kernel_rfl) (by kernel_rfl) (by kernel_rfl) (fun _ _ _ h => h) (by kernel_rfl) (fun w' => ?_) ?_
            rotate_left
            · go_simp; with_reducible rfl
            simp only [Act.put, List.setIfInBounds_toArray, List.set_cons_zero, List.set_cons_succ]
            refine wpR_take (i := 34) (v := ?_) (TChg.road lo _) (some 70) rfl (by kernel_rfl) (by kernel_rfl) (by kernel_rfl) (by kernel_rfl) (by kernel_rfl) (fun _ _ _ h => h) (by kernel_rfl) (fun w' hw' => ?_) ?_
            rotate_left
            · go_simp; with_reducible rfl
            simp only [Act.put, List.setIfInBounds_toArray, List.set_cons_zero, List.set_cons_succ]
            refine wpR_one 35 rfl (by kernel_rfl) (by kernel_rfl) (fun K hK => ?_)
            go_simp
            refine hK _ _ (fun h => absurd h (by decide)) ?_
            clear hK K
            try simp only [Act.put, List.setIfInBounds_toArray, List.set_cons_zero, List.set_cons_succ]
            refine wpR_done (by kernel_rfl) ?_ _
            go_wp2_with fail
            go_ret
            have hnw2 := hnw.out
            subst hnw2
            exact ⟨rfl, ⟨_, _, _, _, Lib.hid hend.out.1, hrelf.out⟩, (htw.out.trans (hPY6.out.mono (Nat.le_refl _) (by simp))).trans (hend.out.2.mono (Nat.le_refl _) (by simp))⟩
        · go_simp
          obtain ⟨q15, hq15⟩ : ∃ q15, Y1.heap.size = q15 := ⟨_, rfl⟩
          obtain ⟨Y2, hY2⟩ : ∃ Y2, Y2 = Y1.alloc (.cells #[.string (bs d)] 9) := ⟨_, rfl⟩
          have hSY2 : Hid (Own lo ([(9, vk, lk), (9, vd, ld), (3, vw, lw), (9, .slice (some ⟨q8, 0, none⟩) 1 1, [sV k]), (9, .slice (some ⟨q15, 0, none⟩) 1 1, [sV d]), (3, .slice none 0 0, [])] : List Rw) Y2) := Lib.hid (by rw [hY2, ← hq15]; exact Own.lit (i := 4) hSY1.out rfl hZY1.out)
          have hrY2 : TChg lo [9, 3] Y1 Y2 := by rw [hY2]; exact TChg.of_alloc Y1 _
          have hZY2 : Hid (lo ≤ Y2.heap.size) := Lib.hid (Nat.le_trans hZY1.out (by rw [hY2]; simp))
          have hPY2 : Hid (TChg lo [9, 3] wd Y2) := Lib.hid ((hPY1.out).trans hrY2)
          rw [← hY2, hq15]
          replace hY2 := Lib.hid hY2
          replace hq15 := Lib.hid hq15
          refine hK _ _ (fun _ => hrY2) ?_
          clear hK K
          clear hrY2
          try simp only [Act.put, List.setIfInBounds_toArray, List.set_cons_zero, List.set_cons_succ]
          refine wpR_two 9 25 rfl rfl (by kernel_rfl) (by kernel_rfl) (by kernel_rfl) (fun K hK => ?_) (fun K hK => ?_)
          · refine wp_ownS (.tmp 44) (.tmp 46) rfl hSY2.out 0 3 vk (lk) (some ⟨q8, 0, none⟩) (sV k) rfl rfl rfl rfl rfl hlk.out hZY2.out ?_
            intro v9 Y3 hSY3 hgY3
            have hrY3 : TChg lo [9, 3] Y2 Y3 := TChg.of_row (hSY2.out.1 0 _ rfl) hgY3 (by simp)
            have hZY3 : Hid (lo ≤ Y3.heap.size) := Lib.hid (Nat.le_trans hZY2.out hgY3.size)
            replace hSY3 : Hid (Own lo ([(9, v9, lk ++ [sV k]), (9, vd, ld), (3, vw, lw), (9, .slice (some ⟨q8, 0, none⟩) 1 1, [sV k]), (9, .slice (some ⟨q15, 0, none⟩) 1 1, [sV d]), (3, .slice none 0 0, [])] : List Rw) Y3) := Lib.hid hSY3
            have hPY3 : Hid (TChg lo [9, 3] wd Y3) := Lib.hid ((hPY2.out).trans hrY3)
            refine hK _ _ (fun _ => hrY3) ?_
            clear hK K
            clear hrY3 hgY3
            try simp only [Act.put, List.setIfInBounds_toArray, List.set_cons_zero, List.set_cons_succ]
            refine wpR_two 16 25 rfl rfl (by kernel_rfl) (by kernel_rfl) (by kernel_rfl) (fun K hK => ?_) (fun K hK => ?_)
            · refine wp_ownS (.tmp 51) (.tmp 53) rfl hSY3.out 1 4 vd (ld) (some ⟨q15, 0, none⟩) (sV d) rfl rfl rfl rfl rfl hld.out hZY3.out ?_
              intro v16 Y4 hSY4 hgY4
              have hrY4 : TChg lo [9, 3] Y3 Y4 := TChg.of_row (hSY3.out.1 1 _ rfl) hgY4 (by simp)
              have hZY4 : Hid (lo ≤ Y4.heap.size) := Lib.hid (Nat.le_trans hZY3.out hgY4.size)
              replace hSY4 : Hid (Own lo ([(9, v9, lk ++ [sV k]), (9, v16, ld ++ [sV d]), (3, vw, lw), (9, .slice (some ⟨q8, 0, none⟩) 1 1, [sV k]), (9, .slice (some ⟨q15, 0, none⟩) 1 1, [sV d]), (3, .slice none 0 0, [])] : List Rw) Y4) := Lib.hid hSY4
              have hPY4 : Hid (TChg lo [9, 3] wd Y4) := Lib.hid ((hPY3.out).trans hrY4)
              refine hK _ _ (fun _ => hrY4) ?_
              clear hK K
              clear hrY4 hgY4
              try simp only [Act.put, List.setIfInBounds_toArray, List.set_cons_zero, List.set_cons_succ]
              refine wpR_one 25 rfl (by kernel_rfl) (by kernel_rfl) (fun K hK => ?_)
              go_simp
              obtain ⟨q25, hq25⟩ : ∃ q25, Y4.heap.size = q25 := ⟨_, rfl⟩
              obtain ⟨Y5, hY5⟩ : ∃ Y5, Y5 = Y4.alloc (.cells #[.int .i64 nw] 3) := ⟨_, rfl⟩
              have hSY5 : Hid (Own lo ([(9, v9, lk ++ [sV k]), (9, v16, ld ++ [sV d]), (3, vw, lw), (9, .slice (some ⟨q8, 0, none⟩) 1 1, [sV k]), (9, .slice (some ⟨q15, 0, none⟩) 1 1, [sV d]), (3, .slice (some ⟨q25, 0, none⟩) 1 1, [iV nw])] : List Rw) Y5) := Lib.hid (by rw [hY5, ← hq25]; exact Own.lit (i := 5) hSY4.out rfl hZY4.out)
              have hrY5 : TChg lo [9, 3] Y4 Y5 := by rw [hY5]; exact TChg.of_alloc Y4 _
              have hZY5 : Hid (lo ≤ Y5.heap.size) := Lib.hid (Nat.le_trans hZY4.out (by rw [hY5]; simp))
              have hPY5 : Hid (TChg lo [9, 3] wd Y5) := Lib.hid ((hPY4.out).trans hrY5)
              rw [← hY5, hq25]
              replace hY5 := Lib.hid hY5
              replace hq25 := Lib.hid hq25
              refine hK _ _ (fun _ => hrY5) ?_
              clear hK K
              clear hrY5
              try simp only [Act.put, List.setIfInBounds_toArray, List.set_cons_zero, List.set_cons_succ]
              refine wpR_one 26 rfl (by kernel_rfl) (by kernel_rfl) (fun K hK => ?_)
              refine wp_ownI (.tmp 58) (.tmp 63) rfl hSY5.out 2 5 vw (lw) (some ⟨q25, 0, none⟩) (iV nw) rfl rfl rfl rfl rfl hlw.out hZY5.out ?_
              intro v26 Y6 hSY6 hgY6
              have hrY6 : TChg lo [9, 3] Y5 Y6 := TChg.of_row (hSY5.out.1 2 _ rfl) hgY6 (by simp)
              have hZY6 : Hid (lo ≤ Y6.heap.size) := Lib.hid (Nat.le_trans hZY5.out hgY6.size)
              replace hSY6 : Hid (Own lo ([(9, v9, lk ++ [sV k]), (9, v16, ld ++ [sV d]), (3, v26, lw ++ [iV nw]), (9, .slice (some ⟨q8, 0, none⟩) 1 1, [sV k]), (9, .slice (some ⟨q15, 0, none⟩) 1 1, [sV d]), (3, .slice (some ⟨q25, 0, none⟩) 1 1, [iV nw])] : List Rw) Y6) := Lib.hid hSY6
              have hPY6 : Hid (TChg lo [9, 3] wd Y6) := Lib.hid ((hPY5.out).trans hrY6)
              refine hK _ _ (fun _ => hrY6) ?_
              clear hK K
              clear hrY6 hgY6
              have r0 := hSY6.out.1 0 _ rfl
              have r1 := hSY6.out.1 1 _ rfl
              have r2 := hSY6.out.1 2 _ rfl
              dsimp only at r0 r1 r2
              generalize hl0 : (lk ++ [sV k]).length = n0 at r0
              generalize hl1 : (ld ++ [sV d]).length = n1 at r1
              generalize hl2 : (lw ++ [iV nw]).length = n2 at r2
              obtain ⟨A1, c1, rfl, -, -⟩ := row_form r0
              obtain ⟨A2, c2, rfl, -, -⟩ := row_form r1
              obtain ⟨A3, c3, rfl, -, -⟩ := row_form r2
              replace hl0 := Lib.hid hl0
              replace hl1 := Lib.hid hl1
              replace hl2 := Lib.hid hl2
              clear r0 r1 r2
              have b0 := hPY6.out.block hblk.out (by decide)
              have k0 := blk_cell (j := 0) b0 rfl
              have z0 := blk_free b0 0
              have b1 := blk_set b0 0 (.slice A1 n0 c1)
              have k1 := blk_cell (j := 1) b1 rfl
              have z1 := blk_free b1 1
              have b2 := blk_set b1 1 (.slice A2 n1 c2)
              have k2 := blk_cell (j := 2) b2 rfl
              have z2 := blk_free b2 2
              have hend := Lib.hid (put_end (lo := lo) b0 hlg.out hSY6.out hlke.out hlde.out hlwe.out)
              clear b0 b1 b2
              try simp only [Act.put, List.setIfInBounds_toArray, List.set_cons_zero, List.set_cons_succ]
              refine wpR_takeU (i := 27) (v := ?_) (TChg.road lo _) (some 65) rfl (by kernel_rfl) (by kernel_rfl) (by kernel_rfl) (by kernel_rfl) (fun _ _ _ h => h) (by kernel_rfl) (fun w' => ?_) ?_
              rotate_left
              · go_simp; with_reducible rfl
              simp only [Act.put, List.setIfInBounds_toArray, List.set_cons_zero, List.set_cons_succ]
              refine wpR_take (i := 28) (v := ?_) (TChg.road lo _) (some 66) rfl (by kernel_rfl) (by kernel_rfl) (by kernel_rfl) (by kernel_rfl) (by kernel_rfl) (fun _ _ _ h => h) (by kernel_rfl) (fun w' hw' => ?_) ?_
              rotate_left
              · go_simp; with_reducible rfl
              simp only [Act.put, List.setIfInBounds_toArray, List.set_cons_zero, List.set_cons_succ]
              refine wpR_one 29 rfl (by kernel_rfl) (by kernel_rfl) (fun K hK => ?_)
              go_simp
              refine hK _ _ (fun h => absurd h (by decide)) ?_
              clear hK K
              try simp only [Act.put, List.setIfInBounds_toArray, List.set_cons_zero, List.set_cons_succ]
              refine wpR_takeU (i := 30) (v := ?_) (TChg.road lo _) (some 67) rfl (by kernel_rfl) (by kernel_rfl) (by kernel_rfl) (by kernel_rfl) (fun _ _ _ h => h) (by kernel_rfl) (fun w' => ?_) ?_
              rotate_left
              · go_simp; with_reducible rfl
              simp only [Act.put, List.setIfInBounds_toArray, List.set_cons_zero, List.set_cons_succ]
              refine wpR_take (i := 31) (v := ?_) (TChg.road lo _) (some 68) rfl (by kernel_rfl) (by kernel_rfl) (by kernel_rfl) (by kernel_rfl) (by kernel_rfl) (fun _ _ _ h => h) (by kernel_rfl) (fun w' hw' => ?_) ?_
              rotate_left
              · go_simp; with_reducible rfl
              simp only [Act.put, List.setIfInBounds_toArray, List.set_cons_zero, List.set_cons_succ]
              refine wpR_one 32 rfl (by kernel_rfl) (by kernel_rfl) (fun K hK => ?_)
              go_simp
              refine hK _ _ (fun h => absurd h (by decide)) ?_
              clear hK K
              try simp only [Act.put, List.setIfInBounds_toArray, List.set_cons_zero, List.set_cons_succ]
              refine wpR_takeU (i := 33) (v := ?_) (TChg.road lo _) (some 69) rfl (by kernel_rfl) (by kernel_rfl) (by kernel_rfl) (by kernel_rfl) (fun _ _ _ h => h) (by kernel_rfl) (fun w' => ?_) ?_
              rotate_left
              · go_simp; with_reducible rfl
              simp only [Act.put, List.setIfInBounds_toArray, List.set_cons_zero, List.set_cons_succ]
              refine wpR_take (i := 34) (v := ?_) (TChg.road lo _) (some 70) rfl (by kernel_rfl) (by kernel_rfl) (by kernel_rfl) (by kernel_rfl) (by kernel_rfl) (fun _ _ _ h => h) (by kernel_rfl) (fun w' hw' => ?_) ?_
              rotate_left
              · go_simp; with_reducible rfl
              simp only [Act.put, List.setIfInBounds_toArray, List.set_cons_zero, List.set_cons_succ]
              refine wpR_one 35 rfl (by kernel_rfl) (by kernel_rfl) (fun K hK => ?_)
              go_simp
              refine hK _ _ (fun h => absurd h (by decide)) ?_
              clear hK K
              try simp only [Act.put, List.setIfInBounds_toArray, List.set_cons_zero, List.set_cons_succ]
              refine wpR_done (by kernel_rfl) ?_ _
              go_wp2_with fail
              go_ret
              have hnw2 := hnw.out
              subst hnw2
              exact ⟨rfl, ⟨_, _, _, _, Lib.hid hend.out.1, hrelf.out⟩, (htw.out.trans (hPY6.out.mono (Nat.le_refl _) (by simp))).trans (hend.out.2.mono (Nat.le_refl _) (by simp))⟩
            · go_simp
              obtain ⟨q25, hq25⟩ : ∃ q25, Y3.heap.size = q25 := ⟨_, rfl⟩
              obtain ⟨Y4, hY4⟩ : ∃ Y4, Y4 = Y3.alloc (.cells #[.int .i64 nw] 3) := ⟨_, rfl⟩
              have hSY4 : Hid (Own lo ([(9, v9, lk ++ [sV k]), (9, vd, ld), (3, vw, lw), (9, .slice (some ⟨q8, 0, none⟩) 1 1, [sV k]), (9, .slice (some ⟨q15, 0, none⟩) 1 1, [sV d]), (3, .slice (some ⟨q25, 0, none⟩) 1 1, [iV nw])] : List Rw) Y4) := Lib.hid (by rw [hY4, ← hq25]; exact Own.lit (i := 5) hSY3.out rfl hZY3.out)
              have hrY4 : TChg lo [9, 3] Y3 Y4 := by rw [hY4]; exact TChg.of_alloc Y3 _
              have hZY4 : Hid (lo ≤ Y4.heap.size) := Lib.hid (Nat.le_trans hZY3.out (by rw [hY4]; simp))
              have hPY4 : Hid (TChg lo [9, 3] wd Y4) := Lib.hid ((hPY3.out).trans hrY4)
              rw [← hY4, hq25]
              replace hY4 := Lib.hid hY4
              replace hq25 := Lib.hid hq25
              refine hK _ _ (fun _ => hrY4) ?_
              clear hK K
              clear hrY4
              try simp only [Act.put, List.setIfInBounds_toArray, List.set_cons_zero, List.set_cons_succ]
              refine wpR_one 16 rfl (by kernel_rfl) (by kernel_rfl) (fun K hK => ?_)
              refine wp_ownS (.tmp 51) (.tmp 53) rfl hSY4.out 1 4 vd (ld) (some ⟨q15, 0, none⟩) (sV d) rfl rfl rfl rfl rfl hld.out hZY4.out ?_
              intro v16 Y5 hSY5 hgY5
              have hrY5 : TChg lo [9, 3] Y4 Y5 := TChg.of_row (hSY4.out.1 1 _ rfl) hgY5 (by simp)
              have hZY5 : Hid (lo ≤ Y5.heap.size) := Lib.hid (Nat.le_trans hZY4.out hgY5.size)
              replace hSY5 : Hid (Own lo ([(9, v9, lk ++ [sV k]), (9, v16, ld ++ [sV d]), (3, vw, lw), (9, .slice (some ⟨q8, 0, none⟩) 1 1, [sV k]), (9, .slice (some ⟨q15, 0, none⟩) 1 1, [sV d]), (3, .slice (some ⟨q25, 0, none⟩) 1 1, [iV nw])] : List Rw) Y5) := Lib.hid hSY5
              have hPY5 : Hid (TChg lo [9, 3] wd Y5) := Lib.hid ((hPY4.out).trans hrY5)
              refine hK _ _ (fun _ => hrY5) ?_
              clear hK K
              clear hrY5 hgY5
              try simp only [Act.put, List.setIfInBounds_toArray, List.set_cons_zero, List.set_cons_succ]
              refine wpR_one 26 rfl (by kernel_rfl) (by kernel_rfl) (fun K hK => ?_)
              refine wp_ownI (.tmp 58) (.tmp 63) rfl hSY5.out 2 5 vw (lw) (some ⟨q25, 0, none⟩) (iV nw) rfl rfl rfl rfl rfl hlw.out hZY5.out ?_
              intro v26 Y6 hSY6 hgY6
              have hrY6 : TChg lo [9, 3] Y5 Y6 := TChg.of_row (hSY5.out.1 2 _ rfl) hgY6 (by simp)
              have hZY6 : Hid (lo ≤ Y6.heap.size) := Lib.hid (Nat.le_trans hZY5.out hgY6.size)
              replace hSY6 : Hid (Own lo ([(9, v9, lk ++ [sV k]), (9, v16, ld ++ [sV d]), (3, v26, lw ++ [iV nw]), (9, .slice (some ⟨q8, 0, none⟩) 1 1, [sV k]), (9, .slice (some ⟨q15, 0, none⟩) 1 1, [sV d]), (3, .slice (some ⟨q25, 0, none⟩) 1 1, [iV nw])] : List Rw) Y6) := Lib.hid hSY6
              have hPY6 : Hid (TChg lo [9, 3] wd Y6) := Lib.hid ((hPY5.out).trans hrY6)
              refine hK _ _ (fun _ => hrY6) ?_
              clear hK K
              clear hrY6 hgY6
              have r0 := hSY6.out.1 0 _ rfl
              have r1 := hSY6.out.1 1 _ rfl
              have r2 := hSY6.out.1 2 _ rfl
              dsimp only at r0 r1 r2
              generalize hl0 : (lk ++ [sV k]).length = n0 at r0
              generalize hl1 : (ld ++ [sV d]).length = n1 at r1
              generalize hl2 : (lw ++ [iV nw]).length = n2 at r2
              obtain ⟨A1, c1, rfl, -, -⟩ := row_form r0
              obtain ⟨A2, c2, rfl, -, -⟩ := row_form r1
              obtain ⟨A3, c3, rfl, -, -⟩ := row_form r2
              replace hl0 := Lib.hid hl0
              replace hl1 := Lib.hid hl1
              replace hl2 := Lib.hid hl2
              clear r0 r1 r2
              have b0 := hPY6.out.block hblk.out (by decide)
              have k0 := blk_cell (j := 0) b0 rfl
              have z0 := blk_free b0 0
              have b1 := blk_set b0 0 (.slice A1 n0 c1)
              have k1 := blk_cell (j := 1) b1 rfl
              have z1 := blk_free b1 1
              have b2 := blk_set b1 1 (.slice A2 n1 c2)
              have k2 := blk_cell (j := 2) b2 rfl
              have z2 := blk_free b2 2
              have hend := Lib.hid (put_end (lo := lo) b0 hlg.out hSY6.out hlke.out hlde.out hlwe.out)
              clear b0 b1 b2
              try simp only [Act.put, List.setIfInBounds_toArray, List.set_cons_zero, List.set_cons_succ]
              refine wpR_takeU (i := 27) (v := ?_) (TChg.road lo _) (some 65) rfl (by kernel_rfl) (by kernel_rfl) (by kernel_rfl) (by kernel_rfl) (fun _ _ _ h => h) (by kernel_rfl) (fun w' => ?_) ?_
              rotate_left
              · go_simp; with_reducible rfl
              simp only [Act.put, List.setIfInBounds_toArray, List.set_cons_zero, List.set_cons_succ]
              refine wpR_take (i := 28) (v := ?_) (TChg.road lo _) (some 66) rfl (by kernel_rfl) (by kernel_rfl) (by kernel_rfl) (by kernel_rfl) (by kernel_rfl) (fun _ _ _ h => h) (by kernel_rfl) (fun w' hw' => ?_) ?_
              rotate_left
              · go_simp; with_reducible rfl
              simp only [Act.put, List.setIfInBounds_toArray, List.set_cons_zero, List.set_cons_succ]
              refine wpR_one 29 rfl (by kernel_rfl) (by kernel_rfl) (fun K hK => ?_)
              go_simp
              refine hK _ _ (fun h => absurd h (by decide)) ?_
              clear hK K
              try simp only [Act.put, List.setIfInBounds_toArray, List.set_cons_zero, List.set_cons_succ]
              refine wpR_takeU (i := 30) (v := ?_) (TChg.road lo _) (some 67) rfl (by kernel_rfl) (by kernel_rfl) (by kernel_rfl) (by kernel_rfl) (fun _ _ _ h => h) (by kernel_rfl) (fun w' => ?_) ?_
              rotate_left
              · go_simp; with_reducible rfl
              simp only [Act.put, List.setIfInBounds_toArray, List.set_cons_zero, List.set_cons_succ]
              refine wpR_take (i := 31) (v := ?_) (TChg.road lo _) (some 68) rfl (by kernel_rfl) (by kernel_rfl) (by kernel_rfl) (by kernel_rfl) (by kernel_rfl) (fun _ _ _ h => h) (by kernel_rfl) (fun w' hw' => ?_) ?_
              rotate_left
              · go_simp; with_reducible rfl
              simp only [Act.put, List.setIfInBounds_toArray, List.set_cons_zero, List.set_cons_succ]
              refine wpR_one 32 rfl (by kernel_rfl) (by kernel_rfl) (fun K hK => ?_)
              go_simp
              refine hK _ _ (fun h => absurd h (by decide)) ?_
              clear hK K
              try simp only [Act.put, List.setIfInBounds_toArray, List.set_cons_zero, List.set_cons_succ]
              refine wpR_takeU (i := 33) (v := ?_) (TChg.road lo _) (some 69) rfl (by kernel_rfl) (by kernel_rfl) (by kernel_rfl) (by kernel_rfl) (fun _ _ _ h => h) (by kernel_rfl) (fun w' => ?_) ?_
              rotate_left
              · go_simp; with_reducible rfl
              simp only [Act.put, List.setIfInBounds_toArray, List.set_cons_zero, List.set_cons_succ]
              refine wpR_take (i := 34) (v := ?_) (TChg.road lo _) (some 70) rfl (by kernel_rfl) (by kernel_rfl) (by kernel_rfl) (by kernel_rfl) (by kernel_rfl) (fun _ _ _ h => h) (by kernel_rfl) (fun w' hw' => ?_) ?_
              rotate_left
              · go_simp; with_reducible rfl
              simp only [Act.put, List.setIfInBounds_toArray, List.set_cons_zero, List.set_cons_succ]
              refine wpR_one 35 rfl (by kernel_rfl) (by kernel_rfl) (fun K hK => ?_)
              go_simp
              refine hK _ _ (fun h => absurd h (by decide)) ?_
              clear hK K
              try simp only [Act.put, List.setIfInBounds_toArray, List.set_cons_zero, List.set_cons_succ]
              refine wpR_done (by kernel_rfl) ?_ _
              go_wp2_with fail
              go_ret
              have hnw2 := hnw.out
              subst hnw2
              exact ⟨rfl, ⟨_, _, _, _, Lib.hid hend.out.1, hrelf.out⟩, (htw.out.trans (hPY6.out.mono (Nat.le_refl _) (by simp))).trans (hend.out.2.mono (Nat.le_refl _) (by simp))⟩
          · go_simp
            obtain ⟨q25, hq25⟩ : ∃ q25, Y2.heap.size = q25 := ⟨_, rfl⟩
            obtain ⟨Y3, hY3⟩ : ∃ Y3, Y3 = Y2.alloc (.cells #[.int .i64 nw] 3) := ⟨_, rfl⟩
            have hSY3 : Hid (Own lo ([(9, vk, lk), (9, vd, ld), (3, vw, lw), (9, .slice (some ⟨q8, 0, none⟩) 1 1, [sV k]), (9, .slice (some ⟨q15, 0, none⟩) 1 1, [sV d]), (3, .slice (some ⟨q25, 0, none⟩) 1 1, [iV nw])] : List Rw) Y3) := Lib.hid (by rw [hY3, ← hq25]; exact Own.lit (i := 5) hSY2.out rfl hZY2.out)
            have hrY3 : TChg lo [9, 3] Y2 Y3 := by rw [hY3]; exact TChg.of_alloc Y2 _
            have hZY3 : Hid (lo ≤ Y3.heap.size) := Lib.hid (Nat.le_trans hZY2.out (by rw [hY3]; simp))
            have hPY3 : Hid (TChg lo [9, 3] wd Y3) := Lib.hid ((hPY2.out).trans hrY3)
            rw [← hY3, hq25]
            replace hY3 := Lib.hid hY3
            replace hq25 := Lib.hid hq25
            refine hK _ _ (fun _ => hrY3) ?_
            clear hK K
            clear hrY3
            try simp only [Act.put, List.setIfInBounds_toArray, List.set_cons_zero, List.set_cons_succ]
            refine wpR_one 9 rfl (by kernel_rfl) (by kernel_rfl) (fun K hK => ?_)
            refine wp_ownS (.tmp 44) (.tmp 46) rfl hSY3.out 0 3 vk (lk) (some ⟨q8, 0, none⟩) (sV k) rfl rfl rfl rfl rfl hlk.out hZY3.out ?_
            intro v9 Y4 hSY4 hgY4
            have hrY4 : TChg lo [9, 3] Y3 Y4 := TChg.of_row (hSY3.out.1 0 _ rfl) hgY4 (by simp)
            have hZY4 : Hid (lo ≤ Y4.heap.size) := Lib.hid (Nat.le_trans hZY3.out hgY4.size)
            replace hSY4 : Hid (Own lo ([(9, v9, lk ++ [sV k]), (9, vd, ld), (3, vw, lw), (9, .slice (some ⟨q8, 0, none⟩) 1 1, [sV k]), (9, .slice (some ⟨q15, 0, none⟩) 1 1, [sV d]), (3, .slice (some ⟨q25, 0, none⟩) 1 1, [iV nw])] : List Rw) Y4) := Lib.hid hSY4
            have hPY4 : Hid (TChg lo [9, 3] wd Y4) := Lib.hid ((hPY3.out).trans hrY4)
            refine hK _ _ (fun _ => hrY4) ?_
            clear hK K
            clear hrY4 hgY4
            try simp only [Act.put, List.setIfInBounds_toArray, List.set_cons_zero, List.set_cons_succ]
            refine wpR_one 16 rfl (by kernel_rfl) (by kernel_rfl) (fun K hK => ?_)
            refine wp_ownS (.tmp 51) (.tmp 53) rfl hSY4.out 1 4 vd (ld) (some ⟨q15, 0, none⟩) (sV d) rfl rfl rfl rfl rfl hld.out hZY4.out ?_
            intro v16 Y5 hSY5 hgY5
            have hrY5 : TChg lo [9, 3] Y4 Y5 := TChg.of_row (hSY4.out.1 1 _ rfl) hgY5 (by simp)
            have hZY5 : Hid (lo ≤ Y5.heap.size) := Lib.hid (Nat.le_trans hZY4.out hgY5.size)
            replace hSY5 : Hid (Own lo ([(9, v9, lk ++ [sV k]), (9, v16, ld ++ [sV d]), (3, vw, lw), (9, .slice (some ⟨q8, 0, none⟩) 1 1, [sV k]), (9, .slice (some ⟨q15, 0, none⟩) 1 1, [sV d]), (3, .slice (some ⟨q25, 0, none⟩) 1 1, [iV nw])] : List Rw) Y5) := Lib.hid hSY5
            have hPY5 : Hid (TChg lo [9, 3] wd Y5) := Lib.hid ((hPY4.out).trans hrY5)
            refine hK _ _ (fun _ => hrY5) ?_
            clear hK K
            clear hrY5 hgY5
            try simp only [Act.put, List.setIfInBounds_toArray, List.set_cons_zero, List.set_cons_succ]
            refine wpR_one 26 rfl (by kernel_rfl) (by kernel_rfl) (fun K hK => ?_)
            refine wp_ownI (.tmp 58) (.tmp 63) rfl hSY5.out 2 5 vw (lw) (some ⟨q25, 0, none⟩) (iV nw) rfl rfl rfl rfl rfl hlw.out hZY5.out ?_
            intro v26 Y6 hSY6 hgY6
            have hrY6 : TChg lo [9, 3] Y5 Y6 := TChg.of_row (hSY5.out.1 2 _ rfl) hgY6 (by simp)
            have hZY6 : Hid (lo ≤ Y6.heap.size) := Lib.hid (Nat.le_trans hZY5.out hgY6.size)
            replace hSY6 : Hid (Own lo ([(9, v9, lk ++ [sV k]), (9, v16, ld ++ [sV d]), (3, v26, lw ++ [iV nw]), (9, .slice (some ⟨q8, 0, none⟩) 1 1, [sV k]), (9, .slice (some ⟨q15, 0, none⟩) 1 1, [sV d]), (3, .slice (some ⟨q25, 0, none⟩) 1 1, [iV nw])] : List Rw) Y6) := Lib.hid hSY6
            have hPY6 : Hid (TChg lo [9, 3] wd Y6) := Lib.hid ((hPY5.out).trans hrY6)
            refine hK _ _ (fun _ => hrY6) ?_
            clear hK K
            clear hrY6 hgY6
            have r0 := hSY6.out.1 0 _ rfl
            have r1 := hSY6.out.1 1 _ rfl
            have r2 := hSY6.out.1 2 _ rfl
            dsimp only at r0 r1 r2
            generalize hl0 : (lk ++ [sV k]).length = n0 at r0
            generalize hl1 : (ld ++ [sV d]).length = n1 at r1
            generalize hl2 : (lw ++ [iV nw]).length = n2 at r2
            obtain ⟨A1, c1, rfl, -, -⟩ := row_form r0
            obtain ⟨A2, c2, rfl, -, -⟩ := row_form r1
            obtain ⟨A3, c3, rfl, -, -⟩ := row_form r2
            replace hl0 := Lib.hid hl0
            replace hl1 := Lib.hid hl1
            replace hl2 := Lib.hid hl2
            clear r0 r1 r2
            have b0 := hPY6.out.block hblk.out (by decide)
            have k0 := blk_cell (j := 0) b0 rfl
            have z0 := blk_free b0 0
            have b1 := blk_set b0 0 (.slice A1 n0 c1)
            have k1 := blk_cell (j := 1) b1 rfl
            have z1 := blk_free b1 1
            have b2 := blk_set b1 1 (.slice A2 n1 c2)
            have k2 := blk_cell (j := 2) b2 rfl
            have z2 := blk_free b2 2
            have hend := Lib.hid (put_end (lo := lo) b0 hlg.out hSY6.out hlke.out hlde.out hlwe.out)
            clear b0 b1 b2
            try simp only [Act.put, List.setIfInBounds_toArray, List.set_cons_zero, List.set_cons_succ]
            refine wpR_takeU (i := 27) (v := ?_) (TChg.road lo _) (some 65) rfl (by kernel_rfl) (by kernel_rfl) (by kernel_rfl) (by kernel_rfl) (fun _ _ _ h => h) (by kernel_rfl) (fun w' => ?_) ?_
            rotate_left
            · go_simp; with_reducible rfl
            simp only [Act.put, List.setIfInBounds_toArray, List.set_cons_zero, List.set_cons_succ]
            refine wpR_take (i := 28) (v := ?_) (TChg.road lo _) (some 66) rfl (by kernel_rfl) (by kernel_rfl) (by kernel_rfl) (by kernel_rfl) (by kernel_rfl) (fun _ _ _ h => h) (by kernel_rfl) (fun w' hw' => ?_) ?_
            rotate_left
            · go_simp; with_reducible rfl
            simp only [Act.put, List.setIfInBounds_toArray, List.set_cons_zero, List.set_cons_succ]
            refine wpR_one 29 rfl (by kernel_rfl) (by kernel_rfl) (fun K hK => ?_)
            go_simp
            refine hK _ _ (fun h => absurd h (by decide)) ?_
            clear hK K
            try simp only [Act.put, List.setIfInBounds_toArray, List.set_cons_zero, List.set_cons_succ]
            refine wpR_takeU (i := 30) (v := ?_) (TChg.road lo _) (some 67) rfl (by kernel_rfl) (by kernel_rfl) (by kernel_rfl) (by kernel_rfl) (fun _ _ _ h => h) (by kernel_rfl) (fun w' => ?_) ?_
            rotate_left
            · go_simp; with_reducible rfl
            simp only [Act.put, List.setIfInBounds_toArray, List.set_cons_zero, List.set_cons_succ]
            refine wpR_take (i := 31) (v := ?_) (TChg.road lo _) (some 68) rfl (by kernel_rfl) (by kernel_rfl) (by kernel_rfl) (by kernel_rfl) (by kernel_rfl) (fun _ _ _ h => h) (by kernel_rfl) (fun w' hw' => ?_) ?_
            rotate_left
            · go_simp; with_reducible rfl
            simp only [Act.put, List.setIfInBounds_toArray, List.set_cons_zero, List.set_cons_succ]
            refine wpR_one 32 rfl (by kernel_rfl) (by kernel_rfl) (fun K hK => ?_)
            go_simp
            refine hK _ _ (fun h => absurd h (by decide)) ?_
            clear hK K
            try simp only [Act.put, List.setIfInBounds_toArray, List.set_cons_zero, List.set_cons_succ]
            refine wpR_takeU (i := 33) (v := ?_) (TChg.road lo _) (some 69) rfl (by kernel_rfl) (by kernel_rfl) (by kernel_rfl) (by kernel_rfl) (fun _ _ _ h => h) (by kernel_rfl) (fun w' => ?_) ?_
            rotate_left
            · go_simp; with_reducible rfl
            simp only [Act.put, List.setIfInBounds_toArray, List.set_cons_zero, List.set_cons_succ]
            refine wpR_take (i := 34) (v := ?_) (TChg.road lo _) (some 70) rfl (by kernel_rfl) (by kernel_rfl) (by kernel_rfl) (by kernel_rfl) (by kernel_rfl) (fun _ _ _ h => h) (by kernel_rfl) (fun w' hw' => ?_) ?_
            rotate_left
            · go_simp; with_reducible rfl
            simp only [Act.put, List.setIfInBounds_toArray, List.set_cons_zero, List.set_cons_succ]
            refine wpR_one 35 rfl (by kernel_rfl) (by kernel_rfl) (fun K hK => ?_)
            go_simp
            refine hK _ _ (fun h => absurd h (by decide)) ?_
            clear hK K
            try simp only [Act.put, List.setIfInBounds_toArray, List.set_cons_zero, List.set_cons_succ]
            refine wpR_done (by kernel_rfl) ?_ _
            go_wp2_with fail
            go_ret
            have hnw2 := hnw.out
            subst hnw2
            exact ⟨rfl, ⟨_, _, _, _, Lib.hid hend.out.1, hrelf.out⟩, (htw.out.trans (hPY6.out.mono (Nat.le_refl _) (by simp))).trans (hend.out.2.mono (Nat.le_refl _) (by simp))⟩
        · go_simp
          obtain ⟨q25, hq25⟩ : ∃ q25, Y1.heap.size = q25 := ⟨_, rfl⟩
          obtain ⟨Y2, hY2⟩ : ∃ Y2, Y2 = Y1.alloc (.cells #[.int .i64 nw] 3) := ⟨_, rfl⟩
          have hSY2 : Hid (Own lo ([(9, vk, lk), (9, vd, ld), (3, vw, lw), (9, .slice (some ⟨q8, 0, none⟩) 1 1, [sV k]), (9, .slice none 0 0, []), (3, .slice (some ⟨q25, 0, none⟩) 1 1, [iV nw])] : List Rw) Y2) := Lib.hid (by rw [hY2, ← hq25]; exact Own.lit (i := 5) hSY1.out rfl hZY1.out)
          have hrY2 : TChg lo [9, 3] Y1 Y2 := by rw [hY2]; exact TChg.of_alloc Y1 _
          have hZY2 : Hid (lo ≤ Y2.heap.size) := Lib.hid (Nat.le_trans hZY1.out (by rw [hY2]; simp))
          have hPY2 : Hid (TChg lo [9, 3] wd Y2) := Lib.hid ((hPY1.out).trans hrY2)
          rw [← hY2, hq25]
          replace hY2 := Lib.hid hY2
          replace hq25 := Lib.hid hq25
          refine hK _ _ (fun _ => hrY2) ?_
          clear hK K
          clear hrY2
          try simp only [Act.put, List.setIfInBounds_toArray, List.set_cons_zero, List.set_cons_succ]
          refine wpR_two 9 15 rfl rfl (by kernel_rfl) (by kernel_rfl) (by kernel_rfl) (fun K hK => ?_) (fun K hK => ?_)
          · refine wp_ownS (.tmp 44) (.tmp 46) rfl hSY2.out 0 3 vk (lk) (some ⟨q8, 0, none⟩) (sV k) rfl rfl rfl rfl rfl hlk.out hZY2.out ?_
            intro v9 Y3 hSY3 hgY3
            have hrY3 : TChg lo [9, 3] Y2 Y3 := TChg.of_row (hSY2.out.1 0 _ rfl) hgY3 (by simp)
            have hZY3 : Hid (lo ≤ Y3.heap.size) := Lib.hid (Nat.le_trans hZY2.out hgY3.size)
            replace hSY3 : Hid (Own lo ([(9, v9, lk ++ [sV k]), (9, vd, ld), (3, vw, lw), (9, .slice (some ⟨q8, 0, none⟩) 1 1, [sV k]), (9, .slice none 0 0, []), (3, .slice (some ⟨q25, 0, none⟩) 1 1, [iV nw])] : List Rw) Y3) := Lib.hid hSY3
            have hPY3 : Hid (TChg lo [9, 3] wd Y3) := Lib.hid ((hPY2.out).trans hrY3)
            refine hK _ _ (fun _ => hrY3) ?_
            clear hK K
            clear hrY3 hgY3
            try simp only [Act.put, List.setIfInBounds_toArray, List.set_cons_zero, List.set_cons_succ]
            refine wpR_one 15 rfl (by kernel_rfl) (by kernel_rfl) (fun K hK => ?_)
            go_simp
            obtain ⟨q15, hq15⟩ : ∃ q15, Y3.heap.size = q15 := ⟨_, rfl⟩
            obtain ⟨Y4, hY4⟩ : ∃ Y4, Y4 = Y3.alloc (.cells #[.string (bs d)] 9) := ⟨_, rfl⟩
            have hSY4 : Hid (Own lo ([(9, v9, lk ++ [sV k]), (9, vd, ld), (3, vw, lw), (9, .slice (some ⟨q8, 0, none⟩) 1 1, [sV k]), (9, .slice (some ⟨q15, 0, none⟩) 1 1, [sV d]), (3, .slice (some ⟨q25, 0, none⟩) 1 1, [iV nw])] : List Rw) Y4) := Lib.hid (by rw [hY4, ← hq15]; exact Own.lit (i := 4) hSY3.out rfl hZY3.out)
            have hrY4 : TChg lo [9, 3] Y3 Y4 := by rw [hY4]; exact TChg.of_alloc Y3 _
            have hZY4 : Hid (lo ≤ Y4.heap.size) := Lib.hid (Nat.le_trans hZY3.out (by rw [hY4]; simp))
            have hPY4 : Hid (TChg lo [9, 3] wd Y4) := Lib.hid ((hPY3.out).trans hrY4)
            rw [← hY4, hq15]
            replace hY4 := Lib.hid hY4
            replace hq15 := Lib.hid hq15
            refine hK _ _ (fun _ => hrY4) ?_
            clear hK K
            clear hrY4
            try simp only [Act.put, List.setIfInBounds_toArray, List.set_cons_zero, List.set_cons_succ]
            refine wpR_one 16 rfl (by kernel_rfl) (by kernel_rfl) (fun K hK => ?_)
            refine wp_ownS (.tmp 51) (.tmp 53) rfl hSY4.out 1 4 vd (ld) (some ⟨q15, 0, none⟩) (sV d) rfl rfl rfl rfl rfl hld.out hZY4.out ?_
            intro v16 Y5 hSY5 hgY5
            have hrY5 : TChg lo [9, 3] Y4 Y5 := TChg.of_row (hSY4.out.1 1 _ rfl) hgY5 (by simp)
            have hZY5 : Hid (lo ≤ Y5.heap.size) := Lib.hid (Nat.le_trans hZY4.out hgY5.size)
            replace hSY5 : Hid (Own lo ([(9, v9, lk ++ [sV k]), (9, v16, ld ++ [sV d]), (3, vw, lw), (9, .slice (some ⟨q8, 0, none⟩) 1 1, [sV k]), (9, .slice (some ⟨q15, 0, none⟩) 1 1, [sV d]), (3, .slice (some ⟨q25, 0, none⟩) 1 1, [iV nw])] : List Rw) Y5) := Lib.hid hSY5
            have hPY5 : Hid (TChg lo [9, 3] wd Y5) := Lib.hid ((hPY4.out).trans hrY5)
            refine hK _ _ (fun _ => hrY5) ?_
            clear hK K
            clear hrY5 hgY5
            try simp only [Act.put, List.setIfInBounds_toArray, List.set_cons_zero, List.set_cons_succ]
            refine wpR_one 26 rfl (by kernel_rfl) (by kernel_rfl) (fun K hK => ?_)
            refine wp_ownI (.tmp 58) (.tmp 63) rfl hSY5.out 2 5 vw (lw) (some ⟨q25, 0, none⟩) (iV nw) rfl rfl rfl rfl rfl hlw.out hZY5.out ?_
            intro v26 Y6 hSY6 hgY6
            have hrY6 : TChg lo [9, 3] Y5 Y6 := TChg.of_row (hSY5.out.1 2 _ rfl) hgY6 (by simp)
            have hZY6 : Hid (lo ≤ Y6.heap.size) := Lib.hid (Nat.le_trans hZY5.out hgY6.size)
            replace hSY6 : Hid (Own lo ([(9, v9, lk ++ [sV k]), (9, v16, ld ++ [sV d]), (3, v26, lw ++ [iV nw]), (9, .slice (some ⟨q8, 0, none⟩) 1 1, [sV k]), (9, .slice (some ⟨q15, 0, none⟩) 1 1, [sV d]), (3, .slice (some ⟨q25, 0, none⟩) 1 1, [iV nw])] : List Rw) Y6) := Lib.hid hSY6
            have hPY6 : Hid (TChg lo [9, 3] wd Y6) := Lib.hid ((hPY5.out).trans hrY6)
            refine hK _ _ (fun _ => hrY6) ?_
            clear hK K
            clear hrY6 hgY6
            have r0 := hSY6.out.1 0 _ rfl
            have r1 := hSY6.out.1 1 _ rfl
            have r2 := hSY6.out.1 2 _ rfl
            dsimp only at r0 r1 r2
            generalize hl0 : (lk ++ [sV k]).length = n0 at r0
            generalize hl1 : (ld ++ [sV d]).length = n1 at r1
            generalize hl2 : (lw ++ [iV nw]).length = n2 at r2
            obtain ⟨A1, c1, rfl, -, -⟩ := row_form r0
            obtain ⟨A2, c2, rfl, -, -⟩ := row_form r1
            obtain ⟨A3, c3, rfl, -, -⟩ := row_form r2
            replace hl0 := Lib.hid hl0
            replace hl1 := Lib.hid hl1
            replace hl2 := Lib.hid hl2
            clear r0 r1 r2
            have b0 := hPY6.out.block hblk.out (by decide)
            have k0 := blk_cell (j := 0) b0 rfl
            have z0 := blk_free b0 0
            have b1 := blk_set b0 0 (.slice A1 n0 c1)
            have k1 := blk_cell (j := 1) b1 rfl
            have z1 := blk_free b1 1
            have b2 := blk_set b1 1 (.slice A2 n1 c2)
            have k2 := blk_cell (j := 2) b2 rfl
            have z2 := blk_free b2 2
            have hend := Lib.hid (put_end (lo := lo) b0 hlg.out hSY6.out hlke.out hlde.out hlwe.out)
            clear b0 b1 b2
            try simp only [Act.put, List.setIfInBounds_toArray, List.set_cons_zero, List.set_cons_succ]
            refine wpR_takeU (i := 27) (v := ?_) (TChg.road lo _) (some 65) rfl (by kernel_rfl) (by kernel_rfl) (by kernel_rfl) (by kernel_rfl) (fun _ _ _ h => h) (by kernel_rfl) (fun w' => ?_) ?_
            rotate_left
            · go_simp; with_reducible rfl
            simp only [Act.put, List.setIfInBounds_toArray, List.set_cons_zero, List.set_cons_succ]
            refine wpR_take (i := 28) (v := ?_) (TChg.road lo _) (some 66) rfl (by kernel_rfl) (by kernel_rfl) (by kernel_rfl) (by kernel_rfl) (by kernel_rfl) (fun _ _ _ h => h) (by kernel_rfl) (fun w' hw' => ?_) ?_
            rotate_left
            · go_simp; with_reducible rfl
            simp only [Act.put, List.setIfInBounds_toArray, List.set_cons_zero, List.set_cons_succ]
            refine wpR_one 29 rfl (by kernel_rfl) (by kernel_rfl) (fun K hK => ?_)
            go_simp
            refine hK _ _ (fun h => absurd h (by decide)) ?_
            clear hK K
            try simp only [Act.put, List.setIfInBounds_toArray, List.set_cons_zero, List.set_cons_succ]
            refine wpR_takeU (i := 30) (v := ?_) (TChg.road lo _) (some 67) rfl (by kernel_rfl) (by kernel_rfl) (by kernel_rfl) (by kernel_rfl) (fun _ _ _ h => h) (by kernel_rfl) (fun w' => ?_) ?_
            rotate_left
            · go_simp; with_reducible rfl
            simp only [Act.put, List.setIfInBounds_toArray, List.set_cons_zero, List.set_cons_succ]
            refine wpR_take (i := 31) (v := ?_) (TChg.road lo _) (some 68) rfl (by kernel_rfl) (by kernel_rfl) (by kernel_rfl) (by kernel_rfl) (by kernel_rfl) (fun _ _ _ h => h) (by kernel_rfl) (fun w' hw' => ?_) ?_
            rotate_left
            · go_simp; with_reducible rfl
            simp only [Act.put, List.setIfInBounds_toArray, List.set_cons_zero, List.set_cons_succ]
            refine wpR_one 32 rfl (by kernel_rfl) (by kernel_rfl) (fun K hK => ?_)
            go_simp
            refine hK _ _ (fun h => absurd h (by decide)) ?_
            clear hK K
            try simp only [Act.put, List.setIfInBounds_toArray, List.set_cons_zero, List.set_cons_succ]
            refine wpR_takeU (i := 33) (v := ?_) (TChg.road lo _) (some 69) rfl (by kernel_rfl) (by kernel_rfl) (by kernel_rfl) (by kernel_rfl) (fun _ _ _ h => h) (by kernel_rfl) (fun w' => ?_) ?_
            rotate_left
            · go_simp; with_reducible rfl
            simp only [Act.put, List.setIfInBounds_toArray, List.set_cons_zero, List.set_cons_succ]
            refine wpR_take (i := 34) (v := ?_) (TChg.road lo _) (some 70) rfl (by kernel_rfl) (by kernel_rfl) (by kernel_rfl) (by kernel_rfl) (by kernel_rfl) (fun _ _ _ h => h) (by kernel_rfl) (fun w' hw' => ?_) ?_
            rotate_left
            · go_simp; with_reducible rfl
            simp only [Act.put, List.setIfInBounds_toArray, List.set_cons_zero, List.set_cons_succ]
            refine wpR_one 35 rfl (by kernel_rfl) (by kernel_rfl) (fun K hK => ?_)
            go_simp
            refine hK _ _ (fun h => absurd h (by decide)) ?_
            clear hK K
            try simp only [Act.put, List.setIfInBounds_toArray, List.set_cons_zero, List.set_cons_succ]
            refine wpR_done (by kernel_rfl) ?_ _
            go_wp2_with fail
            go_ret
            have hnw2 := hnw.out
            subst hnw2
            exact ⟨rfl, ⟨_, _, _, _, Lib.hid hend.out.1, hrelf.out⟩, (htw.out.trans (hPY6.out.mono (Nat.le_refl _) (by simp))).trans (hend.out.2.mono (Nat.le_refl _) (by simp))⟩
          · go_simp
            obtain ⟨q15, hq15⟩ : ∃ q15, Y2.heap.size = q15 := ⟨_, rfl⟩
            obtain ⟨Y3, hY3⟩ : ∃ Y3, Y3 = Y2.alloc (.cells #[.string (bs d)] 9) := ⟨_, rfl⟩
            have hSY3 : Hid (Own lo ([(9, vk, lk), (9, vd, ld), (3, vw, lw), (9, .slice (some ⟨q8, 0, none⟩) 1 1, [sV k]), (9, .slice (some ⟨q15, 0, none⟩) 1 1, [sV d]), (3, .slice (some ⟨q25, 0, none⟩) 1 1, [iV nw])] : List Rw) Y3) := Lib.hid (by rw [hY3, ← hq15]; exact Own.lit (i := 4) hSY2.out rfl hZY2.out)
            have hrY3 : TChg lo [9, 3] Y2 Y3 := by rw [hY3]; exact TChg.of_alloc Y2 _
            have hZY3 : Hid (lo ≤ Y3.heap.size) := Lib.hid (Nat.le_trans hZY2.out (by rw [hY3]; simp))
            have hPY3 : Hid (TChg lo [9, 3] wd Y3) := Lib.hid ((hPY2.out).trans hrY3)
            rw [← hY3, hq15]
            replace hY3 := Lib.hid hY3
            replace hq15 := Lib.hid hq15
            refine hK _ _ (fun _ => hrY3) ?_
            clear hK K
            clear hrY3
            try simp only [Act.put, List.setIfInBounds_toArray, List.set_cons_zero, List.set_cons_succ]
            refine wpR_one 9 rfl (by kernel_rfl) (by kernel_rfl) (fun K hK => ?_)
            refine wp_ownS (.tmp 44) (.tmp 46) rfl hSY3.out 0 3 vk (lk) (some ⟨q8, 0, none⟩) (sV k) rfl rfl rfl rfl rfl hlk.out hZY3.out ?_
            intro v9 Y4 hSY4 hgY4
            have hrY4 : TChg lo [9, 3] Y3 Y4 := TChg.of_row (hSY3.out.1 0 _ rfl) hgY4 (by simp)
            have hZY4 : Hid (lo ≤ Y4.heap.size) := Lib.hid (Nat.le_trans hZY3.out hgY4.size)
            replace hSY4 : Hid (Own lo ([(9, v9, lk ++ [sV k]), (9, vd, ld), (3, vw, lw), (9, .slice (some ⟨q8, 0, none⟩) 1 1, [sV k]), (9, .slice (some ⟨q15, 0, none⟩) 1 1, [sV d]), (3, .slice (some ⟨q25, 0, none⟩) 1 1, [iV nw])] : List Rw) Y4) := Lib.hid hSY4
            have hPY4 : Hid (TChg lo [9, 3] wd Y4) := Lib.hid ((hPY3.out).trans hrY4)
            refine hK _ _ (fun _ => hrY4) ?_
            clear hK K
            clear hrY4 hgY4
            try simp only [Act.put, List.setIfInBounds_toArray, List.set_cons_zero, List.set_cons_succ]
            refine wpR_one 16 rfl (by kernel_rfl) (by kernel_rfl) (fun K hK => ?_)
            refine wp_ownS (.tmp 51) (.tmp 53) rfl hSY4.out 1 4 vd (ld) (some ⟨q15, 0, none⟩) (sV d) rfl rfl rfl rfl rfl hld.out hZY4.out ?_
            intro v16 Y5 hSY5 hgY5
            have hrY5 : TChg lo [9, 3] Y4 Y5 := TChg.of_row (hSY4.out.1 1 _ rfl) hgY5 (by simp)
            have hZY5 : Hid (lo ≤ Y5.heap.size) := Lib.hid (Nat.le_trans hZY4.out hgY5.size)
            replace hSY5 : Hid (Own lo ([(9, v9, lk ++ [sV k]), (9, v16, ld ++ [sV d]), (3, vw, lw), (9, .slice (some ⟨q8, 0, none⟩) 1 1, [sV k]), (9, .slice (some ⟨q15, 0, none⟩) 1 1, [sV d]), (3, .slice (some ⟨q25, 0, none⟩) 1 1, [iV nw])] : List Rw) Y5) := Lib.hid hSY5
            have hPY5 : Hid (TChg lo [9, 3] wd Y5) := Lib.hid ((hPY4.out).trans hrY5)
            refine hK _ _ (fun _ => hrY5) ?_
            clear hK K
            clear hrY5 hgY5
            try simp only [Act.put, List.setIfInBounds_toArray, List.set_cons_zero, List.set_cons_succ]
            refine wpR_one 26 rfl (by kernel_rfl) (by kernel_rfl) (fun K hK => ?_)
            refine wp_ownI (.tmp 58) (.tmp 63) rfl hSY5.out 2 5 vw (lw) (some ⟨q25, 0, none⟩) (iV nw) rfl rfl rfl rfl rfl hlw.out hZY5.out ?_
            intro v26 Y6 hSY6 hgY6
            have hrY6 : TChg lo [9, 3] Y5 Y6 := TChg.of_row (hSY5.out.1 2 _ rfl) hgY6 (by simp)
            have hZY6 : Hid (lo ≤ Y6.heap.size) := Lib.hid (Nat.le_trans hZY5.out hgY6.size)
            replace hSY6 : Hid (Own lo ([(9, v9, lk ++ [sV k]), (9, v16, ld ++ [sV d]), (3, v26, lw ++ [iV nw]), (9, .slice (some ⟨q8, 0, none⟩) 1 1, [sV k]), (9, .slice (some ⟨q15, 0, none⟩) 1 1, [sV d]), (3, .slice (some ⟨q25, 0, none⟩) 1 1, [iV nw])] : List Rw) Y6) := Lib.hid hSY6
            have hPY6 : Hid (TChg lo [9, 3] wd Y6) := Lib.hid ((hPY5.out).trans hrY6)
            refine hK _ _ (fun _ => hrY6) ?_
            clear hK K
            clear hrY6 hgY6
            have r0 := hSY6.out.1 0 _ rfl
            have r1 := hSY6.out.1 1 _ rfl
            have r2 := hSY6.out.1 2 _ rfl
            dsimp only at r0 r1 r2
            generalize hl0 : (lk ++ [sV k]).length = n0 at r0
            generalize hl1 : (ld ++ [sV d]).length = n1 at r1
            generalize hl2 : (lw ++ [iV nw]).length = n2 at r2
            obtain ⟨A1, c1, rfl, -, -⟩ := row_form r0
            obtain ⟨A2, c2, rfl, -, -⟩ := row_form r1
            obtain ⟨A3, c3, rfl, -, -⟩ := row_form r2
            replace hl0 := Lib.hid hl0
            replace hl1 := Lib.hid hl1
            replace hl2 := Lib.hid hl2
            clear r0 r1 r2
            have b0 := hPY6.out.block hblk.out (by decide)
            have k0 := blk_cell (j := 0) b0 rfl
            have z0 := blk_free b0 0
            have b1 := blk_set b0 0 (.slice A1 n0 c1)
            have k1 := blk_cell (j := 1) b1 rfl
            have z1 := blk_free b1 1
            have b2 := blk_set b1 1 (.slice A2 n1 c2)
            have k2 := blk_cell (j := 2) b2 rfl
            have z2 := blk_free b2 2
            have hend := Lib.hid (put_end (lo := lo) b0 hlg.out hSY6.out hlke.out hlde.out hlwe.out)
            clear b0 b1 b2
            try simp only [Act.put, List.setIfInBounds_toArray, List.set_cons_zero, List.set_cons_succ]
            refine wpR_takeU (i := 27) (v := ?_) (TChg.road lo _) (some 65) rfl (by kernel_rfl) (by kernel_rfl) (by kernel_rfl) (by kernel_rfl) (fun _ _ _ h => h) (by kernel_rfl) (fun w' => ?_) ?_
            rotate_left
            · go_simp; with_reducible rfl
            simp only [Act.put, List.setIfInBounds_toArray, List.set_cons_zero, List.set_cons_succ]
            refine wpR_take (i := 28) (v := ?_) (TChg.road lo _) (some 66) rfl (by kernel_rfl) (by kernel_rfl) (by kernel_rfl) (by kernel_rfl) (by kernel_rfl) (fun _ _ _ h => h) (by kernel_rfl) (fun w' hw' => ?_) ?_
            rotate_left
            · go_simp; with_reducible rfl
            simp only [Act.put, List.setIfInBounds_toArray, List.set_cons_zero, List.set_cons_succ]
            refine wpR_one 29 rfl (by kernel_rfl) (by kernel_rfl) (fun K hK => ?_)
            go_simp
            refine hK _ _ (fun h => absurd h (by decide)) ?_
            clear hK K
            try simp only [Act.put, List.setIfInBounds_toArray, List.set_cons_zero, List.set_cons_succ]
            refine wpR_takeU (i := 30) (v := ?_) (TChg.road lo _) (some 67) rfl (by kernel_rfl) (by kernel_rfl) (by kernel_rfl) (by kernel_rfl) (fun _ _ _ h => h) (by kernel_rfl) (fun w' => ?_) ?_
            rotate_left
            · go_simp; with_reducible rfl
            simp only [Act.put, List.setIfInBounds_toArray, List.set_cons_zero, List.set_cons_succ]
            refine wpR_take (i := 31) (v := ?_) (TChg.road lo _) (some 68) rfl (by kernel_rfl) (by kernel_rfl) (by kernel_rfl) (by kernel_rfl) (by kernel_rfl) (fun _ _ _ h => h) (by kernel_rfl) (fun w' hw' => ?_) ?_
            rotate_left
            · go_simp; with_reducible rfl
            simp only [Act.put, List.setIfInBounds_toArray, List.set_cons_zero, List.set_cons_succ]
            refine wpR_one 32 rfl (by kernel_rfl) (by kernel_rfl) (fun K hK => ?_)
            go_simp
            refine hK _ _ (fun h => absurd h (by decide)) ?_
            clear hK K
            try simp only [Act.put, List.setIfInBounds_toArray, List.set_cons_zero, List.set_cons_succ]
            refine wpR_takeU (i := 33) (v := ?_) (TChg.road lo _) (some 69) rfl (by kernel_rfl) (by kernel_rfl) (by kernel_rfl) (by kernel_rfl) (fun _ _ _ h => h) (by kernel_rfl) (fun w' => ?_) ?_
            rotate_left
            · go_simp; with_reducible rfl
            simp only [Act.put, List.setIfInBounds_toArray, List.set_cons_zero, List.set_cons_succ]
            refine wpR_take (i := 34) (v := ?_) (TChg.road lo _) (some 70) rfl (by kernel_rfl) (by kernel_rfl) (by kernel_rfl) (by kernel_rfl) (by kernel_rfl) (fun _ _ _ h => h) (by kernel_rfl) (fun w' hw' => ?_) ?_
            rotate_left
            · go_simp; with_reducible rfl
            simp only [Act.put, List.setIfInBounds_toArray, List.set_cons_zero, List.set_cons_succ]
            refine wpR_one 35 rfl (by kernel_rfl) (by kernel_rfl) (fun K hK => ?_)
            go_simp
            refine hK _ _ (fun h => absurd h (by decide)) ?_
            clear hK K
            try simp only [Act.put, List.setIfInBounds_toArray, List.set_cons_zero, List.set_cons_succ]
            refine wpR_done (by kernel_rfl) ?_ _
            go_wp2_with fail
            go_ret
            have hnw2 := hnw.out
            subst hnw2
            exact ⟨rfl, ⟨_, _, _, _, Lib.hid hend.out.1, hrelf.out⟩, (htw.out.trans (hPY6.out.mono (Nat.le_refl _) (by simp))).trans (hend.out.2.mono (Nat.le_refl _) (by simp))⟩
      · go_simp
        obtain ⟨q15, hq15⟩ : ∃ q15, wd.heap.size = q15 := ⟨_, rfl⟩
        obtain ⟨Y1, hY1⟩ : ∃ Y1, Y1 = wd.alloc (.cells #[.string (bs d)] 9) := ⟨_, rfl⟩
        have hSY1 : Hid (Own lo ([(9, vk, lk), (9, vd, ld), (3, vw, lw), (9, .slice none 0 0, []), (9, .slice (some ⟨q15, 0, none⟩) 1 1, [sV d]), (3, .slice none 0 0, [])] : List Rw) Y1) := Lib.hid (by rw [hY1, ← hq15]; exact Own.lit (i := 4) hSwd.out rfl hZwd.out)
        have hrY1 : TChg lo [9, 3] wd Y1 := by rw [hY1]; exact TChg.of_alloc wd _
        have hZY1 : Hid (lo ≤ Y1.heap.size) := Lib.hid (Nat.le_trans hZwd.out (by rw [hY1]; simp))
        have hPY1 : Hid (TChg lo [9, 3] wd Y1) := Lib.hid (hrY1)
        rw [← hY1, hq15]
        replace hY1 := Lib.hid hY1
        replace hq15 := Lib.hid hq15
        refine hK _ _ (fun _ => hrY1) ?_
        clear hK K
        clear hrY1
        try simp only [Act.put, List.setIfInBounds_toArray, List.set_cons_zero, List.set_cons_succ]
        refine wpR_two 8 25 rfl rfl (by kernel_rfl) (by kernel_rfl) (by kernel_rfl) (fun K hK => ?_) (fun K hK => ?_)
        · go_simp
          obtain ⟨q8, hq8⟩ : ∃ q8, Y1.heap.size = q8 := ⟨_, rfl⟩
          obtain ⟨Y2, hY2⟩ : ∃ Y2, Y2 = Y1.alloc (.cells #[.string (bs k)] 9) := ⟨_, rfl⟩
          have hSY2 : Hid (Own lo ([(9, vk, lk), (9, vd, ld), (3, vw, lw), (9, .slice (some ⟨q8, 0, none⟩) 1 1, [sV k]), (9, .slice (some ⟨q15, 0, none⟩) 1 1, [sV d]), (3, .slice none 0 0, [])] : List Rw) Y2) := Lib.hid (by rw [hY2, ← hq8]; exact Own.lit (i := 3) hSY1.out rfl hZY1.out)
          have hrY2 : TChg lo [9, 3] Y1 Y2 := by rw [hY2]; exact TChg.of_alloc Y1 _
          have hZY2 : Hid (lo ≤ Y2.heap.size) := Lib.hid (Nat.le_trans hZY1.out (by rw [hY2]; simp))
          have hPY2 : Hid (TChg lo [9, 3] wd Y2) := Lib.hid ((hPY1.out).trans hrY2)
          rw [← hY2, hq8]
          replace hY2 := Lib.hid hY2
          replace hq8 := Lib.hid hq8
          refine hK _ _ (fun _ => hrY2) ?_
          clear hK K
          clear hrY2
          try simp only [Act.put, List.setIfInBounds_toArray, List.set_cons_zero, List.set_cons_succ]
          refine wpR_two 9 25 rfl rfl (by kernel_rfl) (by kernel_rfl) (by kernel_rfl) (fun K hK => ?_) (fun K hK => ?_)
          · refine wp_ownS (.tmp 44) (.tmp 46) rfl hSY2.out 0 3 vk (lk) (some ⟨q8, 0, none⟩) (sV k) rfl rfl rfl rfl rfl hlk.out hZY2.out ?_
            intro v9 Y3 hSY3 hgY3
            have hrY3 : TChg lo [9, 3] Y2 Y3 := TChg.of_row (hSY2.out.1 0 _ rfl) hgY3 (by simp)
            have hZY3 : Hid (lo ≤ Y3.heap.size) := Lib.hid (Nat.le_trans hZY2.out hgY3.size)
            replace hSY3 : Hid (Own lo ([(9, v9, lk ++ [sV k]), (9, vd, ld), (3, vw, lw), (9, .slice (some ⟨q8, 0, none⟩) 1 1, [sV k]), (9, .slice (some ⟨q15, 0, none⟩) 1 1, [sV d]), (3, .slice none 0 0, [])] : List Rw) Y3) := Lib.hid hSY3
            have hPY3 : Hid (TChg lo [9, 3] wd Y3) := Lib.hid ((hPY2.out).trans hrY3)
            refine hK _ _ (fun _ => hrY3) ?_
            clear hK K
            clear hrY3 hgY3
            try simp only [Act.put, List.setIfInBounds_toArray, List.set_cons_zero, List.set_cons_succ]
            refine wpR_two 16 25 rfl rfl (by kernel_rfl) (by kernel_rfl) (by kernel_rfl) (fun K hK => ?_) (fun K hK => ?_)
            · refine wp_ownS (.tmp 51) (.tmp 53) rfl hSY3.out 1 4 vd (ld) (some ⟨q15, 0, none⟩) (sV d) rfl rfl rfl rfl rfl hld.out hZY3.out ?_
              intro v16 Y4 hSY4 hgY4
              have hrY4 : TChg lo [9, 3] Y3 Y4 := TChg.of_row (hSY3.out.1 1 _ rfl) hgY4 (by simp)
              have hZY4 : Hid (lo ≤ Y4.heap.size) := Lib.hid (Nat.le_trans hZY3.out hgY4.size)
              replace hSY4 : Hid (Own lo ([(9, v9, lk ++ [sV k]), (9, v16, ld ++ [sV d]), (3, vw, lw), (9, .slice (some ⟨q8, 0, none⟩) 1 1, [sV k]), (9, .slice (some ⟨q15, 0, none⟩) 1 1, [sV d]), (3, .slice none 0 0, [])] : List Rw) Y4) := Lib.hid hSY4
              have hPY4 : Hid (TChg lo [9, 3] wd Y4) := Lib.hid ((hPY3.out).trans hrY4)
              refine hK _ _ (fun _ => hrY4) ?_
              clear hK K
              clear hrY4 hgY4
              try simp only [Act.put, List.setIfInBounds_toArray, List.set_cons_zero, List.set_cons_succ]
              refine wpR_one 25 rfl (by kernel_rfl) (by kernel_rfl) (fun K hK => ?_)
              go_simp
              obtain ⟨q25, hq25⟩ : ∃ q25, Y4.heap.size = q25 := ⟨_, rfl⟩
              obtain ⟨Y5, hY5⟩ : ∃ Y5, Y5 = Y4.alloc (.cells #[.int .i64 nw] 3) := ⟨_, rfl⟩
              have hSY5 : Hid (Own lo ([(9, v9, lk ++ [sV k]), (9, v16, ld ++ [sV d]), (3, vw, lw), (9, .slice (some ⟨q8, 0, none⟩) 1 1, [sV k]), (9, .slice (some ⟨q15, 0, none⟩) 1 1, [sV d]), (3, .slice (some ⟨q25, 0, none⟩) 1 1, [iV nw])] : List Rw) Y5) := Lib.hid (by rw [hY5, ← hq25]; exact Own.lit (i := 5) hSY4.out rfl hZY4.out)
              have hrY5 : TChg lo [9, 3] Y4 Y5 := by rw [hY5]; exact TChg.of_alloc Y4 _
              have hZY5 : Hid (lo ≤ Y5.heap.size) := Lib.hid (Nat.le_trans hZY4.out (by rw [hY5]; simp))
              have hPY5 : Hid (TChg lo [9, 3] wd Y5) := Lib.hid ((hPY4.out).trans hrY5)
              rw [← hY5, hq25]
              replace hY5 := Lib.hid hY5
              replace hq25 := Lib.hid hq25
              refine hK _ _ (fun _ => hrY5) ?_
              clear hK K
              clear hrY5
              try simp only [Act.put, List.setIfInBounds_toArray, List.set_cons_zero, List.set_cons_succ]
              refine wpR_one 26 rfl (by kernel_rfl) (by kernel_rfl) (fun K hK => ?_)
              refine wp_ownI (.tmp 58) (.tmp 63) rfl hSY5.out 2 5 vw (lw) (some ⟨q25, 0, none⟩) (iV nw) rfl rfl rfl rfl rfl hlw.out hZY5.out ?_
              intro v26 Y6 hSY6 hgY6
              have hrY6 : TChg lo [9, 3] Y5 Y6 := TChg.of_row (hSY5.out.1 2 _ rfl) hgY6 (by simp)
              have hZY6 : Hid (lo ≤ Y6.heap.size) := Lib.hid (Nat.le_trans hZY5.out hgY6.size)
              replace hSY6 : Hid (Own lo ([(9, v9, lk ++ [sV k]), (9, v16, ld ++ [sV d]), (3, v26, lw ++ [iV nw]), (9, .slice (some ⟨q8, 0, none⟩) 1 1, [sV k]), (9, .slice (some ⟨q15, 0, none⟩) 1 1, [sV d]), (3, .slice (some ⟨q25, 0, none⟩) 1 1, [iV nw])] : List Rw) Y6) := Lib.hid hSY6
              have hPY6 : Hid (TChg lo [9, 3] wd Y6) := Lib.hid ((hPY5.out).trans hrY6)
              refine hK _ _ (fun _ => hrY6) ?_
              clear hK K
              clear hrY6 hgY6
              have r0 := hSY6.out.1 0 _ rfl
              have r1 := hSY6.out.1 1 _ rfl
              have r2 := hSY6.out.1 2 _ rfl
              dsimp only at r0 r1 r2
              generalize hl0 : (lk ++ [sV k]).length = n0 at r0
              generalize hl1 : (ld ++ [sV d]).length = n1 at r1
              generalize hl2 : (lw ++ [iV nw]).length = n2 at r2
              obtain ⟨A1, c1, rfl, -, -⟩ := row_form r0
              obtain ⟨A2, c2, rfl, -, -⟩ := row_form r1
              obtain ⟨A3, c3, rfl, -, -⟩ := row_form r2
              replace hl0 := Lib.hid hl0
              replace hl1 := Lib.hid hl1
              replace hl2 := Lib.hid hl2
              clear r0 r1 r2
              have b0 := hPY6.out.block hblk.out (by decide)
              have k0 := blk_cell (j := 0) b0 rfl
              have z0 := blk_free b0 0
              have b1 := blk_set b0 0 (.slice A1 n0 c1)
              have k1 := blk_cell (j := 1) b1 rfl
              have z1 := blk_free b1 1
              have b2 := blk_set b1 1 (.slice A2 n1 c2)
              have k2 := blk_cell (j := 2) b2 rfl
              have z2 := blk_free b2 2
              have hend := Lib.hid (put_end (lo := lo) b0 hlg.out hSY6.out hlke.out hlde.out hlwe.out)
              clear b0 b1 b2
              try simp only [Act.put, List.setIfInBounds_toArray, List.set_cons_zero, List.set_cons_succ]
              refine wpR_takeU (i := 27) (v := ?_) (TChg.road lo _) (some 65) rfl (by kernel_rfl) (by kernel_rfl) (by kernel_rfl) (by kernel_rfl) (fun _ _ _ h => h) (by kernel_rfl) (fun w' => ?_) ?_
              rotate_left
              · go_simp; with_reducible rfl
              simp only [Act.put, List.setIfInBounds_toArray, List.set_cons_zero, List.set_cons_succ]
              refine wpR_take (i := 28) (v := ?_) (TChg.road lo _) (some 66) rfl (by kernel_rfl) (by kernel_rfl) (by kernel_rfl) (by kernel_rfl) (by kernel_rfl) (fun _ _ _ h => h) (by kernel_rfl) (fun w' hw' => ?_) ?_
              rotate_left
              · go_simp; with_reducible rfl
              simp only [Act.put, List.setIfInBounds_toArray, List.set_cons_zero, List.set_cons_succ]
              refine wpR_one 29 rfl (by kernel_rfl) (by kernel_rfl) (fun K hK => ?_)
              go_simp
              refine hK _ _ (fun h => absurd h (by decide)) ?_
              clear hK K
              try simp only [Act.put, List.setIfInBounds_toArray, List.set_cons_zero, List.set_cons_succ]
              refine wpR_takeU (i := 30) (v := ?_) (TChg.road lo _) (some 67) rfl (by kernel_rfl) (by kernel_rfl) (by kernel_rfl) (by kernel_rfl) (fun _ _ _ h => h) (by kernel_rfl) (fun w' => ?_) ?_
              rotate_left
              · go_simp; with_reducible rfl
              simp only [Act.put, List.setIfInBounds_toArray, List.set_cons_zero, List.set_cons_succ]
              refine wpR_take (i := 31) (v := ?_) (TChg.road lo _) (some 68) rfl (by kernel_rfl) (by kernel_rfl) (by kernel_rfl) (by kernel_rfl) (by kernel_rfl) (fun _ _ _ h => h) (by kernel_rfl) (fun w' hw' => ?_) ?_
              rotate_left
              · go_simp; with_reducible rfl
              simp only [Act.put, List.setIfInBounds_toArray, List.set_cons_zero, List.set_cons_succ]
              refine wpR_one 32 rfl (by kernel_rfl) (by kernel_rfl) (fun K hK => ?_)
              go_simp
              refine hK _ _ (fun h => absurd h (by decide)) ?_
              clear hK K
              try simp only [Act.put, List.setIfInBounds_toArray, List.set_cons_zero, List.set_cons_succ]
              refine wpR_takeU (i := 33) (v := ?_) (TChg.road lo _) (some 69) rfl (by kernel_rfl) (by kernel_rfl) (by kernel_rfl) (by kernel_rfl) (fun _ _ _ h => h) (by kernel_rfl) (fun w' => ?_) ?_
              rotate_left
              · go_simp; with_reducible rfl
              simp only [Act.put, List.setIfInBounds_toArray, List.set_cons_zero, List.set_cons_succ]
              refine wpR_take (i := 34) (v := ?_) (TChg.road lo _) (some 70) rfl (by kernel_rfl) (by kernel_rfl) (by kernel_rfl) (by kernel_rfl) (by kernel_rfl) (fun _ _ _ h => h) (by kernel_rfl) (fun w' hw' => ?_) ?_
              rotate_left
              · go_simp; with_reducible rfl
              simp only [Act.put, List.setIfInBounds_toArray, List.set_cons_zero, List.set_cons_succ]
              refine wpR_one 35 rfl (by kernel_rfl) (by kernel_rfl) (fun K hK => ?_)
              go_simp
              refine hK _ _ (fun h => absurd h (by decide)) ?_
              clear hK K
              try simp only [Act.put, List.setIfInBounds_toArray, List.set_cons_zero, List.set_cons_succ]
              refine wpR_done (by kernel_rfl) ?_ _
              go_wp2_with fail
              go_ret
              have hnw2 := hnw.out
              subst hnw2
              exact ⟨rfl, ⟨_, _, _, _, Lib.hid hend.out.1, hrelf.out⟩, (htw.out.trans (hPY6.out.mono (Nat.le_refl _) (by simp))).trans (hend.out.2.mono (Nat.le_refl _) (by simp))⟩
            · go_simp
              obtain ⟨q25, hq25⟩ : ∃ q25, Y3.heap.size = q25 := ⟨_, rfl⟩
              obtain ⟨Y4, hY4⟩ : ∃ Y4, Y4 = Y3.alloc (.cells #[.int .i64 nw] 3) := ⟨_, rfl⟩
              have hSY4 : Hid (Own lo ([(9, v9, lk ++ [sV k]), (9, vd, ld), (3, vw, lw), (9, .slice (some ⟨q8, 0, none⟩) 1 1, [sV k]), (9, .slice (some ⟨q15, 0, none⟩) 1 1, [sV d]), (3, .slice (some ⟨q25, 0, none⟩) 1 1, [iV nw])] : List Rw) Y4) := Lib.hid (by rw [hY4, ← hq25]; exact Own.lit (i := 5) hSY3.out rfl hZY3.out)
              have hrY4 : TChg lo [9, 3] Y3 Y4 := by rw [hY4]; exact TChg.of_alloc Y3 _
              have hZY4 : Hid (lo ≤ Y4.heap.size) := Lib.hid (Nat.le_trans hZY3.out (by rw [hY4]; simp))
              have hPY4 : Hid (TChg lo [9, 3] wd Y4) := Lib.hid ((hPY3.out).trans hrY4)
              rw [← hY4, hq25]
              replace hY4 := Lib.hid hY4
              replace hq25 := Lib.hid hq25
              refine hK _ _ (fun _ => hrY4) ?_
              clear hK K
              clear hrY4
              try simp only [Act.put, List.setIfInBounds_toArray, List.set_cons_zero, List.set_cons_succ]
              refine wpR_one 16 rfl (by kernel_rfl) (by kernel_rfl) (fun K hK => ?_)
              refine wp_ownS (.tmp 51) (.tmp 53) rfl hSY4.out 1 4 vd (ld) (some ⟨q15, 0, none⟩) (sV d) rfl rfl rfl rfl rfl hld.out hZY4.out ?_
              intro v16 Y5 hSY5 hgY5
              have hrY5 : TChg lo [9, 3] Y4 Y5 := TChg.of_row (hSY4.out.1 1 _ rfl) hgY5 (by simp)
              have hZY5 : Hid (lo ≤ Y5.heap.size) := Lib.hid (Nat.le_trans hZY4.out hgY5.size)
              replace hSY5 : Hid (Own lo ([(9, v9, lk ++ [sV k]), (9, v16, ld ++ [sV d]), (3, vw, lw), (9, .slice (some ⟨q8, 0, none⟩) 1 1, [sV k]), (9, .slice (some ⟨q15, 0, none⟩) 1 1, [sV d]), (3, .slice (some ⟨q25, 0, none⟩) 1 1, [iV nw])] : List Rw) Y5) := Lib.hid hSY5
              have hPY5 : Hid (TChg lo [9, 3] wd Y5) := Lib.hid ((hPY4.out).trans hrY5)
              refine hK _ _ (fun _ => hrY5) ?_
              clear hK K
              clear hrY5 hgY5
              try simp only [Act.put, List.setIfInBounds_toArray, List.set_cons_zero, List.set_cons_succ]
              refine wpR_one 26 rfl (by kernel_rfl) (by kernel_rfl) (fun K hK => ?_)
              refine wp_ownI (.tmp 58) (.tmp 63) rfl hSY5.out 2 5 vw (lw) (some ⟨q25, 0, none⟩) (iV nw) rfl rfl rfl rfl rfl hlw.out hZY5.out ?_
              intro v26 Y6 hSY6 hgY6
              have hrY6 : TChg lo [9, 3] Y5 Y6 := TChg.of_row (hSY5.out.1 2 _ rfl) hgY6 (by simp)
              have hZY6 : Hid (lo ≤ Y6.heap.size) := Lib.hid (Nat.le_trans hZY5.out hgY6.size)
              replace hSY6 : Hid (Own lo ([(9, v9, lk ++ [sV k]), (9, v16, ld ++ [sV d]), (3, v26, lw ++ [iV nw]), (9, .slice (some ⟨q8, 0, none⟩) 1 1, [sV k]), (9, .slice (some ⟨q15, 0, none⟩) 1 1, [sV d]), (3, .slice (some ⟨q25, 0, none⟩) 1 1, [iV nw])] : List Rw) Y6) := Lib.hid hSY6
              have hPY6 : Hid (TChg lo [9, 3] wd Y6) := Lib.hid ((hPY5.out).trans hrY6)
              refine hK _ _ (fun _ => hrY6) ?_
              clear hK K
              clear hrY6 hgY6
              have r0 := hSY6.out.1 0 _ rfl
              have r1 := hSY6.out.1 1 _ rfl
              have r2 := hSY6.out.1 2 _ rfl
              dsimp only at r0 r1 r2
              generalize hl0 : (lk ++ [sV k]).length = n0 at r0
              generalize hl1 : (ld ++ [sV d]).length = n1 at r1
              generalize hl2 : (lw ++ [iV nw]).length = n2 at r2
              obtain ⟨A1, c1, rfl, -, -⟩ := row_form r0
              obtain ⟨A2, c2, rfl, -, -⟩ := row_form r1
              obtain ⟨A3, c3, rfl, -, -⟩ := row_form r2
              replace hl0 := Lib.hid hl0
              replace hl1 := Lib.hid hl1
              replace hl2 := Lib.hid hl2
              clear r0 r1 r2
              have b0 := hPY6.out.block hblk.out (by decide)
              have k0 := blk_cell (j := 0) b0 rfl
              have z0 := blk_free b0 0
              have b1 := blk_set b0 0 (.slice A1 n0 c1)
              have k1 := blk_cell (j := 1) b1 rfl
              have z1 := blk_free b1 1
              have b2 := blk_set b1 1 (.slice A2 n1 c2)
              have k2 := blk_cell (j := 2) b2 rfl
              have z2 := blk_free b2 2
              have hend := Lib.hid (put_end (lo := lo) b0 hlg.out hSY6.out hlke.out hlde.out hlwe.out)
              clear b0 b1 b2
              try simp only [Act.put, List.setIfInBounds_toArray, List.set_cons_zero, List.set_cons_succ]
              refine wpR_takeU (i := 27) (v := ?_) (TChg.road lo _) (some 65) rfl (by kernel_rfl) (by kernel_rfl) (by kernel_rfl) (by kernel_rfl) (fun _ _ _ h => h) (by kernel_rfl) (fun w' => ?_) ?_
              rotate_left
              · go_simp; with_reducible rfl
              simp only [Act.put, List.setIfInBounds_toArray, List.set_cons_zero, List.set_cons_succ]
              refine wpR_take (i := 28) (v := ?_) (TChg.road lo _) (some 66) rfl (by kernel_rfl) (by kernel_rfl) (by kernel_rfl) (by kernel_rfl) (by kernel_rfl) (fun _ _ _ h => h) (by kernel_rfl) (fun w' hw' => ?_) ?_
              rotate_left
              · go_simp; with_reducible rfl
              simp only [Act.put, List.setIfInBounds_toArray, List.set_cons_zero, List.set_cons_succ]
              refine wpR_one 29 rfl (by kernel_rfl) (by kernel_rfl) (fun K hK => ?_)
              go_simp
              refine hK _ _ (fun h => absurd h (by decide)) ?_
              clear hK K
              try simp only [Act.put, List.setIfInBounds_toArray, List.set_cons_zero, List.set_cons_succ]
              refine wpR_takeU (i := 30) (v := ?_) (TChg.road lo _) (some 67) rfl (by kernel_rfl) (by kernel_rfl) (by kernel_rfl) (by kernel_rfl) (fun _ _ _ h => h) (by kernel_rfl) (fun w' => ?_) ?_
              rotate_left
              · go_simp; with_reducible rfl
              simp only [Act.put, List.setIfInBounds_toArray, List.set_cons_zero, List.set_cons_succ]
              refine wpR_take (i := 31) (v := ?_) (TChg.road lo _) (some 68) rfl (by kernel_rfl) (by kernel_rfl) (by kernel_rfl) (by kernel_rfl) (by kernel_rfl) (fun _ _ _ h => h) (by kernel_rfl) (fun w' hw' => ?_) ?_
              rotate_left
              · go_simp; with_reducible rfl
              simp only [Act.put, List.setIfInBounds_toArray, List.set_cons_zero, List.set_cons_succ]
              refine wpR_one 32 rfl (by kernel_rfl) (by kernel_rfl) (fun K hK => ?_)
              go_simp
              refine hK _ _ (fun h => absurd h (by decide)) ?_
              clear hK K
              try simp only [Act.put, List.setIfInBounds_toArray, List.set_cons_zero, List.set_cons_succ]
              refine wpR_takeU (i := 33) (v := ?_) (TChg.road lo _) (some 69) rfl (by kernel_rfl) (by kernel_rfl) (by kernel_rfl) (by kernel_rfl) (fun _ _ _ h => h) (by kernel_rfl) (fun w' => ?_) ?_
              rotate_left
              · go_simp; with_reducible rfl
              simp only [Act.put, List.setIfInBounds_toArray, List.set_cons_zero, List.set_cons_succ]
              refine wpR_take (i := 34) (v := ?_) (TChg.road lo _) (some 70) rfl (by kernel_rfl) (by kernel_rfl) (by kernel_rfl) (by kernel_rfl) (by kernel_rfl) (fun _ _ _ h => h) (by kernel_rfl) (fun w' hw' => ?_) ?_
              rotate_left
              · go_simp; with_reducible rfl
              simp only [Act.put, List.setIfInBounds_toArray, List.set_cons_zero, List.set_cons_succ]
              refine wpR_one 35 rfl (by kernel_rfl) (by kernel_rfl) (fun K hK => ?_)
              go_simp
              refine hK _ _ (fun h => absurd h (by decide)) ?_
              clear hK K
              try simp only [Act.put, List.setIfInBounds_toArray, List.set_cons_zero, List.set_cons_succ]
              refine wpR_done (by kernel_rfl) ?_ _
              go_wp2_with fail
              go_ret
              have hnw2 := hnw.out
              subst hnw2
              exact ⟨rfl, ⟨_, _, _, _, Lib.hid hend.out.1, hrelf.out⟩, (htw.out.trans (hPY6.out.mono (Nat.le_refl _) (by simp))).trans (hend.out.2.mono (Nat.le_refl _) (by simp))⟩
          · go_simp
            obtain ⟨q25, hq25⟩ : ∃ q25, Y2.heap.size = q25 := ⟨_, rfl⟩
            obtain ⟨Y3, hY3⟩ : ∃ Y3, Y3 = Y2.alloc (.cells #[.int .i64 nw] 3) := ⟨_, rfl⟩
            have hSY3 : Hid (Own lo ([(9, vk, lk), (9, vd, ld), (3, vw, lw), (9, .slice (some ⟨q8, 0, none⟩) 1 1, [sV k]), (9, .slice (some ⟨q15, 0, none⟩) 1 1, [sV d]), (3, .slice (some ⟨q25, 0, none⟩) 1 1, [iV nw])] : List Rw) Y3) := Lib.hid (by rw [hY3, ← hq25]; exact Own.lit (i := 5) hSY2.out rfl hZY2.out)
            have hrY3 : TChg lo [9, 3] Y2 Y3 := by rw [hY3]; exact TChg.of_alloc Y2 _
            have hZY3 : Hid (lo ≤ Y3.heap.size) := Lib.hid (Nat.le_trans hZY2.out (by rw [hY3]; simp))
            have hPY3 : Hid (TChg lo [9, 3] wd Y3) := Lib.hid ((hPY2.out).trans hrY3)
            rw [← hY3, hq25]
            replace hY3 := Lib.hid hY3
            replace hq25 := Lib.hid hq25
            refine hK _ _ (fun _ => hrY3) ?_
            clear hK K
            clear hrY3
            try simp only [Act.put, List.setIfInBounds_toArray, List.set_cons_zero, List.set_cons_succ]
            refine wpR_one 9 rfl (by kernel_rfl) (by kernel_rfl) (fun K hK => ?_)
            refine wp_ownS (.tmp 44) (.tmp 46) rfl hSY3.out 0 3 vk (lk) (some ⟨q8, 0, none⟩) (sV k) rfl rfl rfl rfl rfl hlk.out hZY3.out ?_
            intro v9 Y4 hSY4 hgY4
            have hrY4 : TChg lo [9, 3] Y3 Y4 := TChg.of_row (hSY3.out.1 0 _ rfl) hgY4 (by simp)
            have hZY4 : Hid (lo ≤ Y4.heap.size) := Lib.hid (Nat.le_trans hZY3.out hgY4.size)
            replace hSY4 : Hid (Own lo ([(9, v9, lk ++ [sV k]), (9, vd, ld), (3, vw, lw), (9, .slice (some ⟨q8, 0, none⟩) 1 1, [sV k]), (9, .slice (some ⟨q15, 0, none⟩) 1 1, [sV d]), (3, .slice (some ⟨q25, 0, none⟩) 1 1, [iV nw])] : List Rw) Y4) := Lib.hid hSY4
            have hPY4 : Hid (TChg lo [9, 3] wd Y4) := Lib.hid ((hPY3.out).trans hrY4)
            refine hK _ _ (fun _ => hrY4) ?_
            clear hK K
            clear hrY4 hgY4
            try simp only [Act.put, List.setIfInBounds_toArray, List.set_cons_zero, List.set_cons_succ]
            refine wpR_one 16 rfl (by kernel_rfl) (by kernel_rfl) (fun K hK => ?_)
            refine wp_ownS (.tmp 51) (.tmp 53) rfl hSY4.out 1 4 vd (ld) (some ⟨q15, 0, none⟩) (sV d) rfl rfl rfl rfl rfl hld.out hZY4.out ?_
            intro v16 Y5 hSY5 hgY5
            have hrY5 : TChg lo [9, 3] Y4 Y5 := TChg.of_row (hSY4.out.1 1 _ rfl) hgY5 (by simp)
            have hZY5 : Hid (lo ≤ Y5.heap.size) := Lib.hid (Nat.le_trans hZY4.out hgY5.size)
            replace hSY5 : Hid (Own lo ([(9, v9, lk ++ [sV k]), (9, v16, ld ++ [sV d]), (3, vw, lw), (9, .slice (some ⟨q8, 0, none⟩) 1 1, [sV k]), (9, .slice (some ⟨q15, 0, none⟩) 1 1, [sV d]), (3, .slice (some ⟨q25, 0, none⟩) 1 1, [iV nw])] : List Rw) Y5) := Lib.hid hSY5
            have hPY5 : Hid (TChg lo [9, 3] wd Y5) := Lib.hid ((hPY4.out).trans hrY5)
            refine hK _ _ (fun _ => hrY5) ?_
            clear hK K
            clear hrY5 hgY5
            try simp only [Act.put, List.setIfInBounds_toArray, List.set_cons_zero, List.set_cons_succ]
            refine wpR_one 26 rfl (by kernel_rfl) (by kernel_rfl) (fun K hK => ?_)
            refine wp_ownI (.tmp 58) (.tmp 63) rfl hSY5.out 2 5 vw (lw) (some ⟨q25, 0, none⟩) (iV nw) rfl rfl rfl rfl rfl hlw.out hZY5.out ?_
            intro v26 Y6 hSY6 hgY6
            have hrY6 : TChg lo [9, 3] Y5 Y6 := TChg.of_row (hSY5.out.1 2 _ rfl) hgY6 (by simp)
            have hZY6 : Hid (lo ≤ Y6.heap.size) := Lib.hid (Nat.le_trans hZY5.out hgY6.size)
            replace hSY6 : Hid (Own lo ([(9, v9, lk ++ [sV k]), (9, v16, ld ++ [sV d]), (3, v26, lw ++ [iV nw]), (9, .slice (some ⟨q8, 0, none⟩) 1 1, [sV k]), (9, .slice (some ⟨q15, 0, none⟩) 1 1, [sV d]), (3, .slice (some ⟨q25, 0, none⟩) 1 1, [iV nw])] : List Rw) Y6) := Lib.hid hSY6
            have hPY6 : Hid (TChg lo [9, 3] wd Y6) := Lib.hid ((hPY5.out).trans hrY6)
            refine hK _ _ (fun _ => hrY6) ?_
            clear hK K
            clear hrY6 hgY6
            have r0 := hSY6.out.1 0 _ rfl
            have r1 := hSY6.out.1 1 _ rfl
            have r2 := hSY6.out.1 2 _ rfl
            dsimp only at r0 r1 r2
            generalize hl0 : (lk ++ [sV k]).length = n0 at r0
            generalize hl1 : (ld ++ [sV d]).length = n1 at r1
            generalize hl2 : (lw ++ [iV nw]).length = n2 at r2
            obtain ⟨A1, c1, rfl, -, -⟩ := row_form r0
            obtain ⟨A2, c2, rfl, -, -⟩ := row_form r1
            obtain ⟨A3, c3, rfl, -, -⟩ := row_form r2
            replace hl0 := Lib.hid hl0
            replace hl1 := Lib.hid hl1
            replace hl2 := Lib.hid hl2
            clear r0 r1 r2
            have b0 := hPY6.out.block hblk.out (by decide)
            have k0 := blk_cell (j := 0) b0 rfl
            have z0 := blk_free b0 0
            have b1 := blk_set b0 0 (.slice A1 n0 c1)
            have k1 := blk_cell (j := 1) b1 rfl
            have z1 := blk_free b1 1
            have b2 := blk_set b1 1 (.slice A2 n1 c2)
            have k2 := blk_cell (j := 2) b2 rfl
            have z2 := blk_free b2 2
            have hend := Lib.hid (put_end (lo := lo) b0 hlg.out hSY6.out hlke.out hlde.out hlwe.out)
            clear b0 b1 b2
            try simp only [Act.put, List.setIfInBounds_toArray, List.set_cons_zero, List.set_cons_succ]
            refine wpR_takeU (i := 27) (v := ?_) (TChg.road lo _) (some 65) rfl (by kernel_rfl) (by kernel_rfl) (by kernel_rfl) (by kernel_rfl) (fun _ _ _ h => h) (by kernel_rfl) (fun w' => ?_) ?_
            rotate_left
            · go_simp; with_reducible rfl
            simp only [Act.put, List.setIfInBounds_toArray, List.set_cons_zero, List.set_cons_succ]
            refine wpR_take (i := 28) (v := ?_) (TChg.road lo _) (some 66) rfl (by kernel_rfl) (by kernel_rfl) (by kernel_rfl) (by kernel_rfl) (by kernel_rfl) (fun _ _ _ h => h) (by kernel_rfl) (fun w' hw' => ?_) ?_
            rotate_left
            · go_simp; with_reducible rfl
            simp only [Act.put, List.setIfInBounds_toArray, List.set_cons_zero, List.set_cons_succ]
            refine wpR_one 29 rfl (by kernel_rfl) (by kernel_rfl) (fun K hK => ?_)
            go_simp
            refine hK _ _ (fun h => absurd h (by decide)) ?_
            clear hK K
            try simp only [Act.put, List.setIfInBounds_toArray, List.set_cons_zero, List.set_cons_succ]
            refine wpR_takeU (i := 30) (v := ?_) (TChg.road lo _) (some 67) rfl (by kernel_rfl) (by kernel_rfl) (by kernel_rfl) (by kernel_rfl) (fun _ _ _ h => h) (by kernel_rfl) (fun w' => ?_) ?_
            rotate_left
            · go_simp; with_reducible rfl
            simp only [Act.put, List.setIfInBounds_toArray, List.set_cons_zero, List.set_cons_succ]
            refine wpR_take (i := 31) (v := ?_) (TChg.road lo _) (some 68) rfl (by kernel_rfl) (by kernel_rfl) (by kernel_rfl) (by kernel_rfl) (by kernel_rfl) (fun _ _ _ h => h) (by kernel_rfl) (fun w' hw' => ?_) ?_
            rotate_left
            · go_simp; with_reducible rfl
            simp only [Act.put, List.setIfInBounds_toArray, List.set_cons_zero, List.set_cons_succ]
            refine wpR_one 32 rfl (by kernel_rfl) (by kernel_rfl) (fun K hK => ?_)
            go_simp
            refine hK _ _ (fun h => absurd h (by decide)) ?_
            clear hK K
            try simp only [Act.put, List.setIfInBounds_toArray, List.set_cons_zero, List.set_cons_succ]
            refine wpR_takeU (i := 33) (v := ?_) (TChg.road lo _) (some 69) rfl (by kernel_rfl) (by kernel_rfl) (by kernel_rfl) (by kernel_rfl) (fun _ _ _ h => h) (by kernel_rfl) (fun w' => ?_) ?_
            rotate_left
            · go_simp; with_reducible rfl
            simp only [Act.put, List.setIfInBounds_toArray, List.set_cons_zero, List.set_cons_succ]
            refine wpR_take (i := 34) (v := ?_) (TChg.road lo _) (some 70) rfl (by kernel_rfl) (by kernel_rfl) (by kernel_rfl) (by kernel_rfl) (by kernel_rfl) (fun _ _ _ h => h) (by kernel_rfl) (fun w' hw' => ?_) ?_
            rotate_left
            · go_simp; with_reducible rfl
            simp only [Act.put, List.setIfInBounds_toArray, List.set_cons_zero, List.set_cons_succ]
            refine wpR_one 35 rfl (by kernel_rfl) (by kernel_rfl) (fun K hK => ?_)
            go_simp
            refine hK _ _ (fun h => absurd h (by decide)) ?_
            clear hK K
            try simp only [Act.put, List.setIfInBounds_toArray, List.set_cons_zero, List.set_cons_succ]
            refine wpR_done (by kernel_rfl) ?_ _
            go_wp2_with fail
            go_ret
            have hnw2 := hnw.out
            subst hnw2
            exact ⟨rfl, ⟨_, _, _, _, Lib.hid hend.out.1, hrelf.out⟩, (htw.out.trans (hPY6.out.mono (Nat.le_refl _) (by simp))).trans (hend.out.2.mono (Nat.le_refl _) (by simp))⟩
        · go_simp
          obtain ⟨q25, hq25⟩ : ∃ q25, Y1.heap.size = q25 := ⟨_, rfl⟩
          obtain ⟨Y2, hY2⟩ : ∃ Y2, Y2 = Y1.alloc (.cells #[.int .i64 nw] 3) := ⟨_, rfl⟩
          have hSY2 : Hid (Own lo ([(9, vk, lk), (9, vd, ld), (3, vw, lw), (9, .slice none 0 0, []), (9, .slice (some ⟨q15, 0, none⟩) 1 1, [sV d]), (3, .slice (some ⟨q25, 0, none⟩) 1 1, [iV nw])] : List Rw) Y2) := Lib.hid (by rw [hY2, ← hq25]; exact Own.lit (i := 5) hSY1.out rfl hZY1.out)
          have hrY2 : TChg lo [9, 3] Y1 Y2 := by rw [hY2]; exact TChg.of_alloc Y1 _
          have hZY2 : Hid (lo ≤ Y2.heap.size) := Lib.hid (Nat.le_trans hZY1.out (by rw [hY2]; simp))
          have hPY2 : Hid (TChg lo [9, 3] wd Y2) := Lib.hid ((hPY1.out).trans hrY2)
          rw [← hY2, hq25]
          replace hY2 := Lib.hid hY2
          replace hq25 := Lib.hid hq25
          refine hK _ _ (fun _ => hrY2) ?_
          clear hK K
          clear hrY2
          try simp only [Act.put, List.setIfInBounds_toArray, List.set_cons_zero, List.set_cons_succ]
          refine wpR_one 8 rfl (by kernel_rfl) (by kernel_rfl) (fun K hK => ?_)
          go_simp
          obtain ⟨q8, hq8⟩ : ∃ q8, Y2.heap.size = q8 := ⟨_, rfl⟩
          obtain ⟨Y3, hY3⟩ : ∃ Y3, Y3 = Y2.alloc (.cells #[.string (bs k)] 9) := ⟨_, rfl⟩
          have hSY3 : Hid (Own lo ([(9, vk, lk), (9, vd, ld), (3, vw, lw), (9, .slice (some ⟨q8, 0, none⟩) 1 1, [sV k]), (9, .slice (some ⟨q15, 0, none⟩) 1 1, [sV d]), (3, .slice (some ⟨q25, 0, none⟩) 1 1, [iV nw])] : List Rw) Y3) := Lib.hid (by rw [hY3, ← hq8]; exact Own.lit (i := 3) hSY2.out rfl hZY2.out)
          have hrY3 : TChg lo [9, 3] Y2 Y3 := by rw [hY3]; exact TChg.of_alloc Y2 _
          have hZY3 : Hid (lo ≤ Y3.heap.size) := Lib.hid (Nat.le_trans hZY2.out (by rw [hY3]; simp))
          have hPY3 : Hid (TChg lo [9, 3] wd Y3) := Lib.hid ((hPY2.out).trans hrY3)
          rw [← hY3, hq8]
          replace hY3 := Lib.hid hY3
          replace hq8 := Lib.hid hq8
          refine hK _ _ (fun _ => hrY3) ?_
          clear hK K
          clear hrY3
          try simp only [Act.put, List.setIfInBounds_toArray, List.set_cons_zero, List.set_cons_succ]
          refine wpR_one 9 rfl (by kernel_rfl) (by kernel_rfl) (fun K hK => ?_)
          refine wp_ownS (.tmp 44) (.tmp 46) rfl hSY3.out 0 3 vk (lk) (some ⟨q8, 0, none⟩) (sV k) rfl rfl rfl rfl rfl hlk.out hZY3.out ?_
          intro v9 Y4 hSY4 hgY4
          have hrY4 : TChg lo [9, 3] Y3 Y4 := TChg.of_row (hSY3.out.1 0 _ rfl) hgY4 (by simp)
          have hZY4 : Hid (lo ≤ Y4.heap.size) := Lib.hid (Nat.le_trans hZY3.out hgY4.size)
          replace hSY4 : Hid (Own lo ([(9, v9, lk ++ [sV k]), (9, vd, ld), (3, vw, lw), (9, .slice (some ⟨q8, 0, none⟩) 1 1, [sV k]), (9, .slice (some ⟨q15, 0, none⟩) 1 1, [sV d]), (3, .slice (some ⟨q25, 0, none⟩) 1 1, [iV nw])] : List Rw) Y4) := Lib.hid hSY4
          have hPY4 : Hid (TChg lo [9, 3] wd Y4) := Lib.hid ((hPY3.out).trans hrY4)
          refine hK _ _ (fun _ => hrY4) ?_
          clear hK K
          clear hrY4 hgY4
          try simp only [Act.put, List.setIfInBounds_toArray, List.set_cons_zero, List.set_cons_succ]
          refine wpR_one 16 rfl (by kernel_rfl) (by kernel_rfl) (fun K hK => ?_)
          refine wp_ownS (.tmp 51) (.tmp 53) rfl hSY4.out 1 4 vd (ld) (some ⟨q15, 0, none⟩) (sV d) rfl rfl rfl rfl rfl hld.out hZY4.out ?_
          intro v16 Y5 hSY5 hgY5
          have hrY5 : TChg lo [9, 3] Y4 Y5 := TChg.of_row (hSY4.out.1 1 _ rfl) hgY5 (by simp)
          have hZY5 : Hid (lo ≤ Y5.heap.size) := Lib.hid (Nat.le_trans hZY4.out hgY5.size)
          replace hSY5 : Hid (Own lo ([(9, v9, lk ++ [sV k]), (9, v16, ld ++ [sV d]), (3, vw, lw), (9, .slice (some ⟨q8, 0, none⟩) 1 1, [sV k]), (9, .slice (some ⟨q15, 0, none⟩) 1 1, [sV d]), (3, .slice (some ⟨q25, 0, none⟩) 1 1, [iV nw])] : List Rw) Y5) := Lib.hid hSY5
          have hPY5 : Hid (TChg lo [9, 3] wd Y5) := Lib.hid ((hPY4.out).trans hrY5)
          refine hK _ _ (fun _ => hrY5) ?_
          clear hK K
          clear hrY5 hgY5
          try simp only [Act.put, List.setIfInBounds_toArray, List.set_cons_zero, List.set_cons_succ]
          refine wpR_one 26 rfl (by kernel_rfl) (by kernel_rfl) (fun K hK => ?_)
          refine wp_ownI (.tmp 58) (.tmp 63) rfl hSY5.out 2 5 vw (lw) (some ⟨q25, 0, none⟩) (iV nw) rfl rfl rfl rfl rfl hlw.out hZY5.out ?_
          intro v26 Y6 hSY6 hgY6
          have hrY6 : TChg lo [9, 3] Y5 Y6 := TChg.of_row (hSY5.out.1 2 _ rfl) hgY6 (by simp)
          have hZY6 : Hid (lo ≤ Y6.heap.size) := Lib.hid (Nat.le_trans hZY5.out hgY6.size)
          replace hSY6 : Hid (Own lo ([(9, v9, lk ++ [sV k]), (9, v16, ld ++ [sV d]), (3, v26, lw ++ [iV nw]), (9, .slice (some ⟨q8, 0, none⟩) 1 1, [sV k]), (9, .slice (some ⟨q15, 0, none⟩) 1 1, [sV d]), (3, .slice (some ⟨q25, 0, none⟩) 1 1, [iV nw])] : List Rw) Y6) := Lib.hid hSY6
          have hPY6 : Hid (TChg lo [9, 3] wd Y6) := Lib.hid ((hPY5.out).trans hrY6)
          refine hK _ _ (fun _ => hrY6) ?_
          clear hK K
          clear hrY6 hgY6
          have r0 := hSY6.out.1 0 _ rfl
          have r1 := hSY6.out.1 1 _ rfl
          have r2 := hSY6.out.1 2 _ rfl
          dsimp only at r0 r1 r2
          generalize hl0 : (lk ++ [sV k]).length = n0 at r0
          generalize hl1 : (ld ++ [sV d]).length = n1 at r1
          generalize hl2 : (lw ++ [iV nw]).length = n2 at r2
          obtain ⟨A1, c1, rfl, -, -⟩ := row_form r0
          obtain ⟨A2, c2, rfl, -, -⟩ := row_form r1
          obtain ⟨A3, c3, rfl, -, -⟩ := row_form r2
          replace hl0 := Lib.hid hl0
          replace hl1 := Lib.hid hl1
          replace hl2 := Lib.hid hl2
          clear r0 r1 r2
          have b0 := hPY6.out.block hblk.out (by decide)
          have k0 := blk_cell (j := 0) b0 rfl
          have z0 := blk_free b0 0
          have b1 := blk_set b0 0 (.slice A1 n0 c1)
          have k1 := blk_cell (j := 1) b1 rfl
          have z1 := blk_free b1 1
          have b2 := blk_set b1 1 (.slice A2 n1 c2)
          have k2 := blk_cell (j := 2) b2 rfl
          have z2 := blk_free b2 2
          have hend := Lib.hid (put_end (lo := lo) b0 hlg.out hSY6.out hlke.out hlde.out hlwe.out)
          clear b0 b1 b2
          try simp only [Act.put, List.setIfInBounds_toArray, List.set_cons_zero, List.set_cons_succ]
          refine wpR_takeU (i := 27) (v := ?_) (TChg.road lo _) (some 65) rfl (by kernel_rfl) (by kernel_rfl) (by kernel_rfl) (by kernel_rfl) (fun _ _ _ h => h) (by kernel_rfl) (fun w' => ?_) ?_
          rotate_left
          · go_simp; with_reducible rfl
          simp only [Act.put, List.setIfInBounds_toArray, List.set_cons_zero, List.set_cons_succ]
          refine wpR_take (i := 28) (v := ?_) (TChg.road lo _) (some 66) rfl (by kernel_rfl) (by kernel_rfl) (by kernel_rfl) (by kernel_rfl) (by kernel_rfl) (fun _ _ _ h => h) (by kernel_rfl) (fun w' hw' => ?_) ?_
          rotate_left
          · go_simp; with_reducible rfl
          simp only [Act.put, List.setIfInBounds_toArray, List.set_cons_zero, List.set_cons_succ]
          refine wpR_one 29 rfl (by kernel_rfl) (by kernel_rfl) (fun K hK => ?_)
          go_simp
          refine hK _ _ (fun h => absurd h (by decide)) ?_
          clear hK K
          try simp only [Act.put, List.setIfInBounds_toArray, List.set_cons_zero, List.set_cons_succ]
          refine wpR_takeU (i := 30) (v := ?_) (TChg.road lo _) (some 67) rfl (by kernel_rfl) (by kernel_rfl) (by kernel_rfl) (by kernel_rfl) (fun _ _ _ h => h) (by kernel_rfl) (fun w' => ?_) ?_
          rotate_left
          · go_simp; with_reducible rfl
          simp only [Act.put, List.setIfInBounds_toArray, List.set_cons_zero, List.set_cons_succ]
          refine wpR_take (i := 31) (v := ?_) (TChg.road lo _) (some 68) rfl (by kernel_rfl) (by kernel_rfl) (by kernel_rfl) (by kernel_rfl) (by kernel_rfl) (fun _ _ _ h => h) (by kernel_rfl) (fun w' hw' => ?_) ?_
          rotate_left
          · go_simp; with_reducible rfl
          simp only [Act.put, List.setIfInBounds_toArray, List.set_cons_zero, List.set_cons_succ]
          refine wpR_one 32 rfl (by kernel_rfl) (by kernel_rfl) (fun K hK => ?_)
          go_simp
          refine hK _ _ (fun h => absurd h (by decide)) ?_
          clear hK K
          try simp only [Act.put, List.setIfInBounds_toArray, List.set_cons_zero, List.set_cons_succ]
          refine wpR_takeU (i := 33) (v := ?_) (TChg.road lo _) (some 69) rfl (by kernel_rfl) (by kernel_rfl) (by kernel_rfl) (by kernel_rfl) (fun _ _ _ h => h) (by kernel_rfl) (fun w' => ?_) ?_
          rotate_left
          · go_simp; with_reducible rfl
          simp only [Act.put, List.setIfInBounds_toArray, List.set_cons_zero, List.set_cons_succ]
          refine wpR_take (i := 34) (v := ?_) (TChg.road lo _) (some 70) rfl (by kernel_rfl) (by kernel_rfl) (by kernel_rfl) (by kernel_rfl) (by kernel_rfl) (fun _ _ _ h => h) (by kernel_rfl) (fun w' hw' => ?_) ?_
          rotate_left
          · go_simp; with_reducible rfl
          simp only [Act.put, List.setIfInBounds_toArray, List.set_cons_zero, List.set_cons_succ]
          refine wpR_one 35 rfl (by kernel_rfl) (by kernel_rfl) (fun K hK => ?_)
          go_simp
          refine hK _ _ (fun h => absurd h (by decide)) ?_
          clear hK K
          try simp only [Act.put, List.setIfInBounds_toArray, List.set_cons_zero, List.set_cons_succ]
          refine wpR_done (by kernel_rfl) ?_ _
          go_wp2_with fail
          go_ret
          have hnw2 := hnw.out
          subst hnw2
          exact ⟨rfl, ⟨_, _, _, _, Lib.hid hend.out.1, hrelf.out⟩, (htw.out.trans (hPY6.out.mono (Nat.le_refl _) (by simp))).trans (hend.out.2.mono (Nat.le_refl _) (by simp))⟩
      · go_simp
        obtain ⟨q25, hq25⟩ : ∃ q25, wd.heap.size = q25 := ⟨_, rfl⟩
        obtain ⟨Y1, hY1⟩ : ∃ Y1, Y1 = wd.alloc (.cells #[.int .i64 nw] 3) := ⟨_, rfl⟩
        have hSY1 : Hid (Own lo ([(9, vk, lk), (9, vd, ld), (3, vw, lw), (9, .slice none 0 0, []), (9, .slice none 0 0, []), (3, .slice (some ⟨q25, 0, none⟩) 1 1, [iV nw])] : List Rw) Y1) := Lib.hid (by rw [hY1, ← hq25]; exact Own.lit (i := 5) hSwd.out rfl hZwd.out)
        have hrY1 : TChg lo [9, 3] wd Y1 := by rw [hY1]; exact TChg.of_alloc wd _
        have hZY1 : Hid (lo ≤ Y1.heap.size) := Lib.hid (Nat.le_trans hZwd.out (by rw [hY1]; simp))
        have hPY1 : Hid (TChg lo [9, 3] wd Y1) := Lib.hid (hrY1)
        rw [← hY1, hq25]
        replace hY1 := Lib.hid hY1
        replace hq25 := Lib.hid hq25
        refine hK _ _ (fun _ => hrY1) ?_
        clear hK K
        clear hrY1
        try simp only [Act.put, List.setIfInBounds_toArray, List.set_cons_zero, List.set_cons_succ]
        refine wpR_two 8 15 rfl rfl (by kernel_rfl) (by kernel_rfl) (by kernel_rfl) (fun K hK => ?_) (fun K hK => ?_)
        · go_simp
          obtain ⟨q8, hq8⟩ : ∃ q8, Y1.heap.size = q8 := ⟨_, rfl⟩
          obtain ⟨Y2, hY2⟩ : ∃ Y2, Y2 = Y1.alloc (.cells #[.string (bs k)] 9) := ⟨_, rfl⟩
          have hSY2 : Hid (Own lo ([(9, vk, lk), (9, vd, ld), (3, vw, lw), (9, .slice (some ⟨q8, 0, none⟩) 1 1, [sV k]), (9, .slice none 0 0, []), (3, .slice (some ⟨q25, 0, none⟩) 1 1, [iV nw])] : List Rw) Y2) := Lib.hid (by rw [hY2, ← hq8]; exact Own.lit (i := 3) hSY1.out rfl hZY1.out)
          have hrY2 : TChg lo [9, 3] Y1 Y2 := by rw [hY2]; exact TChg.of_alloc Y1 _
          have hZY2 : Hid (lo ≤ Y2.heap.size) := Lib.hid (Nat.le_trans hZY1.out (by rw [hY2]; simp))
          have hPY2 : Hid (TChg lo [9, 3] wd Y2) := Lib.hid ((hPY1.out).trans hrY2)
          rw [← hY2, hq8]
          replace hY2 := Lib.hid hY2
          replace hq8 := Lib.hid hq8
          refine hK _ _ (fun _ => hrY2) ?_
          clear hK K
          clear hrY2
          try simp only [Act.put, List.setIfInBounds_toArray, List.set_cons_zero, List.set_cons_succ]
          refine wpR_two 9 15 rfl rfl (by kernel_rfl) (by kernel_rfl) (by kernel_rfl) (fun K hK => ?_) (fun K hK => ?_)
          · refine wp_ownS (.tmp 44) (.tmp 46) rfl hSY2.out 0 3 vk (lk) (some ⟨q8, 0, none⟩) (sV k) rfl rfl rfl rfl rfl hlk.out hZY2.out ?_
            intro v9 Y3 hSY3 hgY3
            have hrY3 : TChg lo [9, 3] Y2 Y3 := TChg.of_row (hSY2.out.1 0 _ rfl) hgY3 (by simp)
            have hZY3 : Hid (lo ≤ Y3.heap.size) := Lib.hid (Nat.le_trans hZY2.out hgY3.size)
            replace hSY3 : Hid (Own lo ([(9, v9, lk ++ [sV k]), (9, vd, ld), (3, vw, lw), (9, .slice (some ⟨q8, 0, none⟩) 1 1, [sV k]), (9, .slice none 0 0, []), (3, .slice (some ⟨q25, 0, none⟩) 1 1, [iV nw])] : List Rw) Y3) := Lib.hid hSY3
            have hPY3 : Hid (TChg lo [9, 3] wd Y3) := Lib.hid ((hPY2.out).trans hrY3)
            refine hK _ _ (fun _ => hrY3) ?_
            clear hK K
            clear hrY3 hgY3
            try simp only [Act.put, List.setIfInBounds_toArray, List.set_cons_zero, List.set_cons_succ]
            refine wpR_one 15 rfl (by kernel_rfl) (by kernel_rfl) (fun K hK => ?_)
            go_simp
            obtain ⟨q15, hq15⟩ : ∃ q15, Y3.heap.size = q15 := ⟨_, rfl⟩
            obtain ⟨Y4, hY4⟩ : ∃ Y4, Y4 = Y3.alloc (.cells #[.string (bs d)] 9) := ⟨_, rfl⟩
            have hSY4 : Hid (Own lo ([(9, v9, lk ++ [sV k]), (9, vd, ld), (3, vw, lw), (9, .slice (some ⟨q8, 0, none⟩) 1 1, [sV k]), (9, .slice (some ⟨q15, 0, none⟩) 1 1, [sV d]), (3, .slice (some ⟨q25, 0, none⟩) 1 1, [iV nw])] : List Rw) Y4) := Lib.hid (by rw [hY4, ← hq15]; exact Own.lit (i := 4) hSY3.out rfl hZY3.out)
            have hrY4 : TChg lo [9, 3] Y3 Y4 := by rw [hY4]; exact TChg.of_alloc Y3 _
            have hZY4 : Hid (lo ≤ Y4.heap.size) := Lib.hid (Nat.le_trans hZY3.out (by rw [hY4]; simp))
            have hPY4 : Hid (TChg lo [9, 3] wd Y4) := Lib.hid ((hPY3.out).trans hrY4)
            rw [← hY4, hq15]
            replace hY4 := Lib.hid hY4
            replace hq15 := Lib.hid hq15
            refine hK _ _ (fun _ => hrY4) ?_
            clear hK K
            clear hrY4
            try simp only [Act.put, List.setIfInBounds_toArray, List.set_cons_zero, List.set_cons_succ]
            refine wpR_one 16 rfl (by kernel_rfl) (by kernel_rfl) (fun K hK => ?_)
            refine wp_ownS (.tmp 51) (.tmp 53) rfl hSY4.out 1 4 vd (ld) (some ⟨q15, 0, none⟩) (sV d) rfl rfl rfl rfl rfl hld.out hZY4.out ?_
            intro v16 Y5 hSY5 hgY5
            have hrY5 : TChg lo [9, 3] Y4 Y5 := TChg.of_row (hSY4.out.1 1 _ rfl) hgY5 (by simp)
            have hZY5 : Hid (lo ≤ Y5.heap.size) := Lib.hid (Nat.le_trans hZY4.out hgY5.size)
            replace hSY5 : Hid (Own lo ([(9, v9, lk ++ [sV k]), (9, v16, ld ++ [sV d]), (3, vw, lw), (9, .slice (some ⟨q8, 0, none⟩) 1 1, [sV k]), (9, .slice (some ⟨q15, 0, none⟩) 1 1, [sV d]), (3, .slice (some ⟨q25, 0, none⟩) 1 1, [iV nw])] : List Rw) Y5) := Lib.hid hSY5
            have hPY5 : Hid (TChg lo [9, 3] wd Y5) := Lib.hid ((hPY4.out).trans hrY5)
            refine hK _ _ (fun _ => hrY5) ?_
            clear hK K
            clear hrY5 hgY5
            try simp only [Act.put, List.setIfInBounds_toArray, List.set_cons_zero, List.set_cons_succ]
            refine wpR_one 26 rfl (by kernel_rfl) (by kernel_rfl) (fun K hK => ?_)
            refine wp_ownI (.tmp 58) (.tmp 63) rfl hSY5.out 2 5 vw (lw) (some ⟨q25, 0, none⟩) (iV nw) rfl rfl rfl rfl rfl hlw.out hZY5.out ?_
            intro v26 Y6 hSY6 hgY6
            have hrY6 : TChg lo [9, 3] Y5 Y6 := TChg.of_row (hSY5.out.1 2 _ rfl) hgY6 (by simp)
            have hZY6 : Hid (lo ≤ Y6.heap.size) := Lib.hid (Nat.le_trans hZY5.out hgY6.size)
            replace hSY6 : Hid (Own lo ([(9, v9, lk ++ [sV k]), (9, v16, ld ++ [sV d]), (3, v26, lw ++ [iV nw]), (9, .slice (some ⟨q8, 0, none⟩) 1 1, [sV k]), (9, .slice (some ⟨q15, 0, none⟩) 1 1, [sV d]), (3, .slice (some ⟨q25, 0, none⟩) 1 1, [iV nw])] : List Rw) Y6) := Lib.hid hSY6
            have hPY6 : Hid (TChg lo [9, 3] wd Y6) := Lib.hid ((hPY5.out).trans hrY6)
            refine hK _ _ (fun _ => hrY6) ?_
            clear hK K
            clear hrY6 hgY6
            have r0 := hSY6.out.1 0 _ rfl
            have r1 := hSY6.out.1 1 _ rfl
            have r2 := hSY6.out.1 2 _ rfl
            dsimp only at r0 r1 r2
            generalize hl0 : (lk ++ [sV k]).length = n0 at r0
            generalize hl1 : (ld ++ [sV d]).length = n1 at r1
            generalize hl2 : (lw ++ [iV nw]).length = n2 at r2
            obtain ⟨A1, c1, rfl, -, -⟩ := row_form r0
            obtain ⟨A2, c2, rfl, -, -⟩ := row_form r1
            obtain ⟨A3, c3, rfl, -, -⟩ := row_form r2
            replace hl0 := Lib.hid hl0
            replace hl1 := Lib.hid hl1
            replace hl2 := Lib.hid hl2
            clear r0 r1 r2
            have b0 := hPY6.out.block hblk.out (by decide)
            have k0 := blk_cell (j := 0) b0 rfl
            have z0 := blk_free b0 0
            have b1 := blk_set b0 0 (.slice A1 n0 c1)
            have k1 := blk_cell (j := 1) b1 rfl
            have z1 := blk_free b1 1
            have b2 := blk_set b1 1 (.slice A2 n1 c2)
            have k2 := blk_cell (j := 2) b2 rfl
            have z2 := blk_free b2 2
            have hend := Lib.hid (put_end (lo := lo) b0 hlg.out hSY6.out hlke.out hlde.out hlwe.out)
            clear b0 b1 b2
            try simp only [Act.put, List.setIfInBounds_toArray, List.set_cons_zero, List.set_cons_succ]
            refine wpR_takeU (i := 27) (v := ?_) (TChg.road lo _) (some 65) rfl (by kernel_rfl) (by kernel_rfl) (by kernel_rfl) (by kernel_rfl) (fun _ _ _ h => h) (by kernel_rfl) (fun w' => ?_) ?_
            rotate_left
            · go_simp; with_reducible rfl
            simp only [Act.put, List.setIfInBounds_toArray, List.set_cons_zero, List.set_cons_succ]
            refine wpR_take (i := 28) (v := ?_) (TChg.road lo _) (some 66) rfl (by kernel_rfl) (by kernel_rfl) (by kernel_rfl) (by kernel_rfl) (by kernel_rfl) (fun _ _ _ h => h) (by kernel_rfl) (fun w' hw' => ?_) ?_
            rotate_left
            · go_simp; with_reducible rfl
            simp only [Act.put, List.setIfInBounds_toArray, List.set_cons_zero, List.set_cons_succ]
            refine wpR_one 29 rfl (by kernel_rfl) (by kernel_rfl) (fun K hK => ?_)
            go_simp
            refine hK _ _ (fun h => absurd h (by decide)) ?_
            clear hK K
            try simp only [Act.put, List.setIfInBounds_toArray, List.set_cons_zero, List.set_cons_succ]
            refine wpR_takeU (i := 30) (v := ?_) (TChg.road lo _) (some 67) rfl (by kernel_rfl) (by kernel_rfl) (by kernel_rfl) (by kernel_rfl) (fun _ _ _ h => h) (by kernel_rfl) (fun w' => ?_) ?_
            rotate_left
            · go_simp; with_reducible rfl
            simp only [Act.put, List.setIfInBounds_toArray, List.set_cons_zero, List.set_cons_succ]
            refine wpR_take (i := 31) (v := ?_) (TChg.road lo _) (some 68) rfl (by kernel_rfl) (by kernel_rfl) (by kernel_rfl) (by kernel_rfl) (by kernel_rfl) (fun _ _ _ h => h) (by kernel_rfl) (fun w' hw' => ?_) ?_
            rotate_left
            · go_simp; with_reducible rfl
            simp only [Act.put, List.setIfInBounds_toArray, List.set_cons_zero, List.set_cons_succ]
            refine wpR_one 32 rfl (by kernel_rfl) (by kernel_rfl) (fun K hK => ?_)
            go_simp
            refine hK _ _ (fun h => absurd h (by decide)) ?_
            clear hK K
            try simp only [Act.put, List.setIfInBounds_toArray, List.set_cons_zero, List.set_cons_succ]
            refine wpR_takeU (i := 33) (v := ?_) (TChg.road lo _) (some 69) rfl (by kernel_rfl) (by kernel_rfl) (by kernel_rfl) (by kernel_rfl) (fun _ _ _ h => h) (by kernel_rfl) (fun w' => ?_) ?_
            rotate_left
            · go_simp; with_reducible rfl
            simp only [Act.put, List.setIfInBounds_toArray, List.set_cons_zero, List.set_cons_succ]
            refine wpR_take (i := 34) (v := ?_) (TChg.road lo _) (some 70) rfl (by kernel_rfl) (by kernel_rfl) (by kernel_rfl) (by kernel_rfl) (by kernel_rfl) (fun _ _ _ h => h) (by kernel_rfl) (fun w' hw' => ?_) ?_
            rotate_left
            · go_simp; with_reducible rfl
            simp only [Act.put, List.setIfInBounds_toArray, List.set_cons_zero, List.set_cons_succ]
            refine wpR_one 35 rfl (by kernel_rfl) (by kernel_rfl) (fun K hK => ?_)
            go_simp
            refine hK _ _ (fun h => absurd h (by decide)) ?_
            clear hK K
            try simp only [Act.put, List.setIfInBounds_toArray, List.set_cons_zero, List.set_cons_succ]
            refine wpR_done (by kernel_rfl) ?_ _
            go_wp2_with fail
            go_ret
            have hnw2 := hnw.out
            subst hnw2
            exact ⟨rfl, ⟨_, _, _, _, Lib.hid hend.out.1, hrelf.out⟩, (htw.out.trans (hPY6.out.mono (Nat.le_refl _) (by simp))).trans (hend.out.2.mono (Nat.le_refl _) (by simp))⟩
          · go_simp
            obtain ⟨q15, hq15⟩ : ∃ q15, Y2.heap.size = q15 := ⟨_, rfl⟩
            obtain ⟨Y3, hY3⟩ : ∃ Y3, Y3 = Y2.alloc (.cells #[.string (bs d)] 9) := ⟨_, rfl⟩
            have hSY3 : Hid (Own lo ([(9, vk, lk), (9, vd, ld), (3, vw, lw), (9, .slice (some ⟨q8, 0, none⟩) 1 1, [sV k]), (9, .slice (some ⟨q15, 0, none⟩) 1 1, [sV d]), (3, .slice (some ⟨q25, 0, none⟩) 1 1, [iV nw])] : List Rw) Y3) := Lib.hid (by rw [hY3, ← hq15]; exact Own.lit (i := 4) hSY2.out rfl hZY2.out)
            have hrY3 : TChg lo [9, 3] Y2 Y3 := by rw [hY3]; exact TChg.of_alloc Y2 _
            have hZY3 : Hid (lo ≤ Y3.heap.size) := Lib.hid (Nat.le_trans hZY2.out (by rw [hY3]; simp))
            have hPY3 : Hid (TChg lo [9, 3] wd Y3) := Lib.hid ((hPY2.out).trans hrY3)
            rw [← hY3, hq15]
            replace hY3 := Lib.hid hY3
            replace hq15 := Lib.hid hq15
            refine hK _ _ (fun _ => hrY3) ?_
            clear hK K
            clear hrY3
            try simp only [Act.put, List.setIfInBounds_toArray, List.set_cons_zero, List.set_cons_succ]
            refine wpR_one 9 rfl (by kernel_rfl) (by kernel_rfl) (fun K hK => ?_)
            refine wp_ownS (.tmp 44) (.tmp 46) rfl hSY3.out 0 3 vk (lk) (some ⟨q8, 0, none⟩) (sV k) rfl rfl rfl rfl rfl hlk.out hZY3.out ?_
            intro v9 Y4 hSY4 hgY4
            have hrY4 : TChg lo [9, 3] Y3 Y4 := TChg.of_row (hSY3.out.1 0 _ rfl) hgY4 (by simp)
            have hZY4 : Hid (lo ≤ Y4.heap.size) := Lib.hid (Nat.le_trans hZY3.out hgY4.size)
            replace hSY4 : Hid (Own lo ([(9, v9, lk ++ [sV k]), (9, vd, ld), (3, vw, lw), (9, .slice (some ⟨q8, 0, none⟩) 1 1, [sV k]), (9, .slice (some ⟨q15, 0, none⟩) 1 1, [sV d]), (3, .slice (some ⟨q25, 0, none⟩) 1 1, [iV nw])] : List Rw) Y4) := Lib.hid hSY4
            have hPY4 : Hid (TChg lo [9, 3] wd Y4) := Lib.hid ((hPY3.out).trans hrY4)
            refine hK _ _ (fun _ => hrY4) ?_
            clear hK K
            clear hrY4 hgY4
            try simp only [Act.put, List.setIfInBounds_toArray, List.set_cons_zero, List.set_cons_succ]
            refine wpR_one 16 rfl (by kernel_rfl) (by kernel_rfl) (fun K hK => ?_)
            refine wp_ownS (.tmp 51) (.tmp 53) rfl hSY4.out 1 4 vd (ld) (some ⟨q15, 0, none⟩) (sV d) rfl rfl rfl rfl rfl hld.out hZY4.out ?_
            intro v16 Y5 hSY5 hgY5
            have hrY5 : TChg lo [9, 3] Y4 Y5 := TChg.of_row (hSY4.out.1 1 _ rfl) hgY5 (by simp)
            have hZY5 : Hid (lo ≤ Y5.heap.size) := Lib.hid (Nat.le_trans hZY4.out hgY5.size)
            replace hSY5 : Hid (Own lo ([(9, v9, lk ++ [sV k]), (9, v16, ld ++ [sV d]), (3, vw, lw), (9, .slice (some ⟨q8, 0, none⟩) 1 1, [sV k]), (9, .slice (some ⟨q15, 0, none⟩) 1 1, [sV d]), (3, .slice (some ⟨q25, 0, none⟩) 1 1, [iV nw])] : List Rw) Y5) := Lib.hid hSY5
            have hPY5 : Hid (TChg lo [9, 3] wd Y5) := Lib.hid ((hPY4.out).trans hrY5)
            refine hK _ _ (fun _ => hrY5) ?_
            clear hK K
            clear hrY5 hgY5
            try simp only [Act.put, List.setIfInBounds_toArray, List.set_cons_zero, List.set_cons_succ]
            refine wpR_one 26 rfl (by kernel_rfl) (by kernel_rfl) (fun K hK => ?_)
            refine wp_ownI (.tmp 58) (.tmp 63) rfl hSY5.out 2 5 vw (lw) (some ⟨q25, 0, none⟩) (iV nw) rfl rfl rfl rfl rfl hlw.out hZY5.out ?_
            intro v26 Y6 hSY6 hgY6
            have hrY6 : TChg lo [9, 3] Y5 Y6 := TChg.of_row (hSY5.out.1 2 _ rfl) hgY6 (by simp)
            have hZY6 : Hid (lo ≤ Y6.heap.size) := Lib.hid (Nat.le_trans hZY5.out hgY6.size)
            replace hSY6 : Hid (Own lo ([(9, v9, lk ++ [sV k]), (9, v16, ld ++ [sV d]), (3, v26, lw ++ [iV nw]), (9, .slice (some ⟨q8, 0, none⟩) 1 1, [sV k]), (9, .slice (some ⟨q15, 0, none⟩) 1 1, [sV d]), (3, .slice (some ⟨q25, 0, none⟩) 1 1, [iV nw])] : List Rw) Y6) := Lib.hid hSY6
            have hPY6 : Hid (TChg lo [9, 3] wd Y6) := Lib.hid ((hPY5.out).trans hrY6)
            refine hK _ _ (fun _ => hrY6) ?_
            clear hK K
            clear hrY6 hgY6
            have r0 := hSY6.out.1 0 _ rfl
            have r1 := hSY6.out.1 1 _ rfl
            have r2 := hSY6.out.1 2 _ rfl
            dsimp only at r0 r1 r2
            generalize hl0 : (lk ++ [sV k]).length = n0 at r0
            generalize hl1 : (ld ++ [sV d]).length = n1 at r1
            generalize hl2 : (lw ++ [iV nw]).length = n2 at r2
            obtain ⟨A1, c1, rfl, -, -⟩ := row_form r0
            obtain ⟨A2, c2, rfl, -, -⟩ := row_form r1
            obtain ⟨A3, c3, rfl, -, -⟩ := row_form r2
            replace hl0 := Lib.hid hl0
            replace hl1 := Lib.hid hl1
            replace hl2 := Lib.hid hl2
            clear r0 r1 r2
            have b0 := hPY6.out.block hblk.out (by decide)
            have k0 := blk_cell (j := 0) b0 rfl
            have z0 := blk_free b0 0
            have b1 := blk_set b0 0 (.slice A1 n0 c1)
            have k1 := blk_cell (j := 1) b1 rfl
            have z1 := blk_free b1 1
            have b2 := blk_set b1 1 (.slice A2 n1 c2)
            have k2 := blk_cell (j := 2) b2 rfl
            have z2 := blk_free b2 2
            have hend := Lib.hid (put_end (lo := lo) b0 hlg.out hSY6.out hlke.out hlde.out hlwe.out)
            clear b0 b1 b2
            try simp only [Act.put, List.setIfInBounds_toArray, List.set_cons_zero, List.set_cons_succ]
            refine wpR_takeU (i := 27) (v := ?_) (TChg.road lo _) (some 65) rfl (by kernel_rfl) (by kernel_rfl) (by kernel_rfl) (by kernel_rfl) (fun _ _ _ h => h) (by kernel_rfl) (fun w' => ?_) ?_
            rotate_left
            · go_simp; with_reducible rfl
            simp only [Act.put, List.setIfInBounds_toArray, List.set_cons_zero, List.set_cons_succ]
            refine wpR_take (i := 28) (v := ?_) (TChg.road lo _) (some 66) rfl (by kernel_rfl) (by kernel_rfl) (by kernel_rfl) (by kernel_rfl) (by kernel_rfl) (fun _ _ _ h => h) (by kernel_rfl) (fun w' hw' => ?_) ?_
            rotate_left
            · go_simp; with_reducible rfl
            simp only [Act.put, List.setIfInBounds_toArray, List.set_cons_zero, List.set_cons_succ]
            refine wpR_one 29 rfl (by kernel_rfl) (by kernel_rfl) (fun K hK => ?_)
            go_simp
            refine hK _ _ (fun h => absurd h (by decide)) ?_
            clear hK K
            try simp only [Act.put, List.setIfInBounds_toArray, List.set_cons_zero, List.set_cons_succ]
            refine wpR_takeU (i := 30) (v := ?_) (TChg.road lo _) (some 67) rfl (by kernel_rfl) (by kernel_rfl) (by kernel_rfl) (by kernel_rfl) (fun _ _ _ h => h) (by kernel_rfl) (fun w' => ?_) ?_
            rotate_left
            · go_simp; with_reducible rfl
            simp only [Act.put, List.setIfInBounds_toArray, List.set_cons_zero, List.set_cons_succ]
            refine wpR_take (i := 31) (v := ?_) (TChg.road lo _) (some 68) rfl (by kernel_rfl) (by kernel_rfl) (by kernel_rfl) (by kernel_rfl) (by kernel_rfl) (fun _ _ _ h => h) (by kernel_rfl) (fun w' hw' => ?_) ?_
            rotate_left
            · go_simp; with_reducible rfl
            simp only [Act.put, List.setIfInBounds_toArray, List.set_cons_zero, List.set_cons_succ]
            refine wpR_one 32 rfl (by kernel_rfl) (by kernel_rfl) (fun K hK => ?_)
            go_simp
            refine hK _ _ (fun h => absurd h (by decide)) ?_
            clear hK K
            try simp only [Act.put, List.setIfInBounds_toArray, List.set_cons_zero, List.set_cons_succ]
            refine wpR_takeU (i := 33) (v := ?_) (TChg.road lo _) (some 69) rfl (by kernel_rfl) (by kernel_rfl) (by kernel_rfl) (by kernel_rfl) (fun _ _ _ h => h) (by kernel_rfl) (fun w' => ?_) ?_
            rotate_left
            · go_simp; with_reducible rfl
            simp only [Act.put, List.setIfInBounds_toArray, List.set_cons_zero, List.set_cons_succ]
            refine wpR_take (i := 34) (v := ?_) (TChg.road lo _) (some 70) rfl (by kernel_rfl) (by kernel_rfl) (by kernel_rfl) (by kernel_rfl) (by kernel_rfl) (fun _ _ _ h => h) (by kernel_rfl) (fun w' hw' => ?_) ?_
            rotate_left
            · go_simp; with_reducible rfl
            simp only [Act.put, List.setIfInBounds_toArray, List.set_cons_zero, List.set_cons_succ]
            refine wpR_one 35 rfl (by kernel_rfl) (by kernel_rfl) (fun K hK => ?_)
            go_simp
            refine hK _ _ (fun h => absurd h (by decide)) ?_
            clear hK K
            try simp only [Act.put, List.setIfInBounds_toArray, List.set_cons_zero, List.set_cons_succ]
            refine wpR_done (by kernel_rfl) ?_ _
            go_wp2_with fail
            go_ret
            have hnw2 := hnw.out
            subst hnw2
            exact ⟨rfl, ⟨_, _, _, _, Lib.hid hend.out.1, hrelf.out⟩, (htw.out.trans (hPY6.out.mono (Nat.le_refl _) (by simp))).trans (hend.out.2.mono (Nat.le_refl _) (by simp))⟩
        · go_simp
          obtain ⟨q15, hq15⟩ : ∃ q15, Y1.heap.size = q15 := ⟨_, rfl⟩
          obtain ⟨Y2, hY2⟩ : ∃ Y2, Y2 = Y1.alloc (.cells #[.string (bs d)] 9) := ⟨_, rfl⟩
          have hSY2 : Hid (Own lo ([(9, vk, lk), (9, vd, ld), (3, vw, lw), (9, .slice none 0 0, []), (9, .slice (some ⟨q15, 0, none⟩) 1 1, [sV d]), (3, .slice (some ⟨q25, 0, none⟩) 1 1, [iV nw])] : List Rw) Y2) := Lib.hid (by rw [hY2, ← hq15]; exact Own.lit (i := 4) hSY1.out rfl hZY1.out)
          have hrY2 : TChg lo [9, 3] Y1 Y2 := by rw [hY2]; exact TChg.of_alloc Y1 _
          have hZY2 : Hid (lo ≤ Y2.heap.size) := Lib.hid (Nat.le_trans hZY1.out (by rw [hY2]; simp))
          have hPY2 : Hid (TChg lo [9, 3] wd Y2) := Lib.hid ((hPY1.out).trans hrY2)
          rw [← hY2, hq15]
          replace hY2 := Lib.hid hY2
          replace hq15 := Lib.hid hq15
          refine hK _ _ (fun _ => hrY2) ?_
          clear hK K
          clear hrY2
          try simp only [Act.put, List.setIfInBounds_toArray, List.set_cons_zero, List.set_cons_succ]
          refine wpR_one 8 rfl (by kernel_rfl) (by kernel_rfl) (fun K hK => ?_)
          go_simp
          obtain ⟨q8, hq8⟩ : ∃ q8, Y2.heap.size = q8 := ⟨_, rfl⟩
          obtain ⟨Y3, hY3⟩ : ∃ Y3, Y3 = Y2.alloc (.cells #[.string (bs k)] 9) := ⟨_, rfl⟩
          have hSY3 : Hid (Own lo ([(9, vk, lk), (9, vd, ld), (3, vw, lw), (9, .slice (some ⟨q8, 0, none⟩) 1 1, [sV k]), (9, .slice (some ⟨q15, 0, none⟩) 1 1, [sV d]), (3, .slice (some ⟨q25, 0, none⟩) 1 1, [iV nw])] : List Rw) Y3) := Lib.hid (by rw [hY3, ← hq8]; exact Own.lit (i := 3) hSY2.out rfl hZY2.out)
          have hrY3 : TChg lo [9, 3] Y2 Y3 := by rw [hY3]; exact TChg.of_alloc Y2 _
          have hZY3 : Hid (lo ≤ Y3.heap.size) := Lib.hid (Nat.le_trans hZY2.out (by rw [hY3]; simp))
          have hPY3 : Hid (TChg lo [9, 3] wd Y3) := Lib.hid ((hPY2.out).trans hrY3)
          rw [← hY3, hq8]
          replace hY3 := Lib.hid hY3
          replace hq8 := Lib.hid hq8
          refine hK _ _ (fun _ => hrY3) ?_
          clear hK K
          clear hrY3
          try simp only [Act.put, List.setIfInBounds_toArray, List.set_cons_zero, List.set_cons_succ]
          refine wpR_one 9 rfl (by kernel_rfl) (by kernel_rfl) (fun K hK => ?_)
          refine wp_ownS (.tmp 44) (.tmp 46) rfl hSY3.out 0 3 vk (lk) (some ⟨q8, 0, none⟩) (sV k) rfl rfl rfl rfl rfl hlk.out hZY3.out ?_
          intro v9 Y4 hSY4 hgY4
          have hrY4 : TChg lo [9, 3] Y3 Y4 := TChg.of_row (hSY3.out.1 0 _ rfl) hgY4 (by simp)
          have hZY4 : Hid (lo ≤ Y4.heap.size) := Lib.hid (Nat.le_trans hZY3.out hgY4.size)
          replace hSY4 : Hid (Own lo ([(9, v9, lk ++ [sV k]), (9, vd, ld), (3, vw, lw), (9, .slice (some ⟨q8, 0, none⟩) 1 1, [sV k]), (9, .slice (some ⟨q15, 0, none⟩) 1 1, [sV d]), (3, .slice (some ⟨q25, 0, none⟩) 1 1, [iV nw])] : List Rw) Y4) := Lib.hid hSY4
          have hPY4 : Hid (TChg lo [9, 3] wd Y4) := Lib.hid ((hPY3.out).trans hrY4)
          refine hK _ _ (fun _ => hrY4) ?_
          clear hK K
          clear hrY4 hgY4
          try simp only [Act.put, List.setIfInBounds_toArray, List.set_cons_zero, List.set_cons_succ]
          refine wpR_one 16 rfl (by kernel_rfl) (by kernel_rfl) (fun K hK => ?_)
          refine wp_ownS (.tmp 51) (.tmp 53) rfl hSY4.out 1 4 vd (ld) (some ⟨q15, 0, none⟩) (sV d) rfl rfl rfl rfl rfl hld.out hZY4.out ?_
          intro v16 Y5 hSY5 hgY5
          have hrY5 : TChg lo [9, 3] Y4 Y5 := TChg.of_row (hSY4.out.1 1 _ rfl) hgY5 (by simp)
          have hZY5 : Hid (lo ≤ Y5.heap.size) := Lib.hid (Nat.le_trans hZY4.out hgY5.size)
          replace hSY5 : Hid (Own lo ([(9, v9, lk ++ [sV k]), (9, v16, ld ++ [sV d]), (3, vw, lw), (9, .slice (some ⟨q8, 0, none⟩) 1 1, [sV k]), (9, .slice (some ⟨q15, 0, none⟩) 1 1, [sV d]), (3, .slice (some ⟨q25, 0, none⟩) 1 1, [iV nw])] : List Rw) Y5) := Lib.hid hSY5
          have hPY5 : Hid (TChg lo [9, 3] wd Y5) := Lib.hid ((hPY4.out).trans hrY5)
          refine hK _ _ (fun _ => hrY5) ?_
          clear hK K
          clear hrY5 hgY5
          try simp only [Act.put, List.setIfInBounds_toArray, List.set_cons_zero, List.set_cons_succ]
          refine wpR_one 26 rfl (by kernel_rfl) (by kernel_rfl) (fun K hK => ?_)
          refine wp_ownI (.tmp 58) (.tmp 63) rfl hSY5.out 2 5 vw (lw) (some ⟨q25, 0, none⟩) (iV nw) rfl rfl rfl rfl rfl hlw.out hZY5.out ?_
          intro v26 Y6 hSY6 hgY6
          have hrY6 : TChg lo [9, 3] Y5 Y6 := TChg.of_row (hSY5.out.1 2 _ rfl) hgY6 (by simp)
          have hZY6 : Hid (lo ≤ Y6.heap.size) := Lib.hid (Nat.le_trans hZY5.out hgY6.size)
          replace hSY6 : Hid (Own lo ([(9, v9, lk ++ [sV k]), (9, v16, ld ++ [sV d]), (3, v26, lw ++ [iV nw]), (9, .slice (some ⟨q8, 0, none⟩) 1 1, [sV k]), (9, .slice (some ⟨q15, 0, none⟩) 1 1, [sV d]), (3, .slice (some ⟨q25, 0, none⟩) 1 1, [iV nw])] : List Rw) Y6) := Lib.hid hSY6
          have hPY6 : Hid (TChg lo [9, 3] wd Y6) := Lib.hid ((hPY5.out).trans hrY6)
          refine hK _ _ (fun _ => hrY6) ?_
          clear hK K
          clear hrY6 hgY6
          have r0 := hSY6.out.1 0 _ rfl
          have r1 := hSY6.out.1 1 _ rfl
          have r2 := hSY6.out.1 2 _ rfl
          dsimp only at r0 r1 r2
          generalize hl0 : (lk ++ [sV k]).length = n0 at r0
          generalize hl1 : (ld ++ [sV d]).length = n1 at r1
          generalize hl2 : (lw ++ [iV nw]).length = n2 at r2
          obtain ⟨A1, c1, rfl, -, -⟩ := row_form r0
          obtain ⟨A2, c2, rfl, -, -⟩ := row_form r1
          obtain ⟨A3, c3, rfl, -, -⟩ := row_form r2
          replace hl0 := Lib.hid hl0
          replace hl1 := Lib.hid hl1
          replace hl2 := Lib.hid hl2
          clear r0 r1 r2
          have b0 := hPY6.out.block hblk.out (by decide)
          have k0 := blk_cell (j := 0) b0 rfl
          have z0 := blk_free b0 0
          have b1 := blk_set b0 0 (.slice A1 n0 c1)
          have k1 := blk_cell (j := 1) b1 rfl
          have z1 := blk_free b1 1
          have b2 := blk_set b1 1 (.slice A2 n1 c2)
          have k2 := blk_cell (j := 2) b2 rfl
          have z2 := blk_free b2 2
          have hend := Lib.hid (put_end (lo := lo) b0 hlg.out hSY6.out hlke.out hlde.out hlwe.out)
          clear b0 b1 b2
          try simp only [Act.put, List.setIfInBounds_toArray, List.set_cons_zero, List.set_cons_succ]
          refine wpR_takeU (i := 27) (v := ?_) (TChg.road lo _) (some 65) rfl (by kernel_rfl) (by kernel_rfl) (by kernel_rfl) (by kernel_rfl) (fun _ _ _ h => h) (by kernel_rfl) (fun w' => ?_) ?_
          rotate_left
          · go_simp; with_reducible rfl
          simp only [Act.put, List.setIfInBounds_toArray, List.set_cons_zero, List.set_cons_succ]
          refine wpR_take (i := 28) (v := ?_) (TChg.road lo _) (some 66) rfl (by kernel_rfl) (by kernel_rfl) (by kernel_rfl) (by kernel_rfl) (by kernel_rfl) (fun _ _ _ h => h) (by kernel_rfl) (fun w' hw' => ?_) ?_
          rotate_left
          · go_simp; with_reducible rfl
          simp only [Act.put, List.setIfInBounds_toArray, List.set_cons_zero, List.set_cons_succ]
          refine wpR_one 29 rfl (by kernel_rfl) (by kernel_rfl) (fun K hK => ?_)
          go_simp
          refine hK _ _ (fun h => absurd h (by decide)) ?_
          clear hK K
          try simp only [Act.put, List.setIfInBounds_toArray, List.set_cons_zero, List.set_cons_succ]
          refine wpR_takeU (i := 30) (v := ?_) (TChg.road lo _) (some 67) rfl (by kernel_rfl) (by kernel_rfl) (by kernel_rfl) (by kernel_rfl) (fun _ _ _ h => h) (by kernel_rfl) (fun w' => ?_) ?_
          rotate_left
          · go_simp; with_reducible rfl
          simp only [Act.put, List.setIfInBounds_toArray, List.set_cons_zero, List.set_cons_succ]
          refine wpR_take (i := 31) (v := ?_) (TChg.road lo _) (some 68) rfl (by kernel_rfl) (by kernel_rfl) (by kernel_rfl) (by kernel_rfl) (by kernel_rfl) (fun _ _ _ h => h) (by kernel_rfl) (fun w' hw' => ?_) ?_
          rotate_left
          · go_simp; with_reducible rfl
          simp only [Act.put, List.setIfInBounds_toArray, List.set_cons_zero, List.set_cons_succ]
          refine wpR_one 32 rfl (by kernel_rfl) (by kernel_rfl) (fun K hK => ?_)
          go_simp
          refine hK _ _ (fun h => absurd h (by decide)) ?_
          clear hK K
          try simp only [Act.put, List.setIfInBounds_toArray, List.set_cons_zero, List.set_cons_succ]
          refine wpR_takeU (i := 33) (v := ?_) (TChg.road lo _) (some 69) rfl (by kernel_rfl) (by kernel_rfl) (by kernel_rfl) (by kernel_rfl) (fun _ _ _ h => h) (by kernel_rfl) (fun w' => ?_) ?_
          rotate_left
          · go_simp; with_reducible rfl
          simp only [Act.put, List.setIfInBounds_toArray, List.set_cons_zero, List.set_cons_succ]
          refine wpR_take (i := 34) (v := ?_) (TChg.road lo _) (some 70) rfl (by kernel_rfl) (by kernel_rfl) (by kernel_rfl) (by kernel_rfl) (by kernel_rfl) (fun _ _ _ h => h) (by kernel_rfl) (fun w' hw' => ?_) ?_
          rotate_left
          · go_simp; with_reducible rfl
          simp only [Act.put, List.setIfInBounds_toArray, List.set_cons_zero, List.set_cons_succ]
          refine wpR_one 35 rfl (by kernel_rfl) (by kernel_rfl) (fun K hK => ?_)
          go_simp
          refine hK _ _ (fun h => absurd h (by decide)) ?_
          clear hK K
          try simp only [Act.put, List.setIfInBounds_toArray, List.set_cons_zero, List.set_cons_succ]
          refine wpR_done (by kernel_rfl) ?_ _
          go_wp2_with fail
          go_ret
          have hnw2 := hnw.out
          subst hnw2
          exact ⟨rfl, ⟨_, _, _, _, Lib.hid hend.out.1, hrelf.out⟩, (htw.out.trans (hPY6.out.mono (Nat.le_refl _) (by simp))).trans (hend.out.2.mono (Nat.le_refl _) (by simp))⟩
end Go.Proofs.Ythhggojpmilmdaa
