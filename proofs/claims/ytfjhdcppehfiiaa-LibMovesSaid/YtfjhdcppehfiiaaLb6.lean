/- lib: Break, Mend, Drive, standing. -/
import Derived.Test.YtfjhdcppehfiiaaLb5
namespace Go.Proofs.Ytfjhdcppehfiiaa
set_option linter.unusedVariables false
set_option linter.unusedSimpArgs false
open Go Go.RowKit
section
variable (lo g : Nat) (vc vd : Value) (C : List Nat) (D : List Dr) (calls : Nat) (w : World) (h : Hid (Lb w lo g vc vd C D calls))
include h
theorem drive_at (j : Nat) (d : Dr) (hd : D[j]? = some d) : ∃ bd cd, vd = .slice (some ⟨bd, 0, none⟩) D.length cd ∧ w.cell? ⟨bd, j * 4, none⟩ = some (.bool d.broken) ∧ w.cell? ⟨bd, j * 4 + 1, none⟩ = some (.int .i64 d.cart) ∧ w.cell? ⟨bd, j * 4 + 2, none⟩ = some (.int .i64 d.pos) ∧ w.cell? ⟨bd, j * 4 + 3, none⟩ = some (.int .i64 d.named) := by
  have hl : j < D.length := (List.getElem?_eq_some_iff.1 hd).1
  obtain ⟨Ac, cc, Ad, cd, rfl, rfl⟩ := h.out.form
  obtain ⟨bd, rfl, -, -, hc⟩ := h.out.driveAt (by omega)
  exact ⟨bd, cd, rfl, hc j d hd⟩
set_option maxRecDepth 10000 in
theorem break_no (z : Int) (hz : z < 0 ∨ (D.length : Int) ≤ z) : Calls Try.prog 19 #[.pointer (some ⟨g, 0, none⟩), .int .i64 z] w fun e w' => e = .returned (.bool false) ∧ w' = w := by
  have hc := Lib.hid (drive_no lo g vc vd C D calls w h z hz)
  clear h hz
  go_enter Try.func19, Try.ntmps19
  go_wp2_with (go_at_call 32; go_must (refine hc.out.mono ?_); rintro e w' ⟨rfl, hee⟩; rw [hee]; clear hee)
  go_ret
  exact ⟨rfl, rfl⟩
set_option maxRecDepth 10000 in
theorem mend_no (z : Int) (hz : z < 0 ∨ (D.length : Int) ≤ z) : Calls Try.prog 20 #[.pointer (some ⟨g, 0, none⟩), .int .i64 z] w fun e w' => e = .returned (.bool false) ∧ w' = w := by
  have hc := Lib.hid (drive_no lo g vc vd C D calls w h z hz)
  clear h hz
  go_enter Try.func20, Try.ntmps20
  go_wp2_with (go_at_call 32; go_must (refine hc.out.mono ?_); rintro e w' ⟨rfl, hee⟩; rw [hee]; clear hee)
  go_ret
  exact ⟨rfl, rfl⟩
set_option maxHeartbeats 1000000 in
set_option maxRecDepth 10000 in
theorem break_yes (j : Nat) (d : Dr) (hd : D[j]? = some d) (hb : d.broken = false) : Calls Try.prog 19 #[.pointer (some ⟨g, 0, none⟩), .int .i64 j] w fun e w' => e = .returned (.bool true) ∧ Hid (Lb w' lo g vc vd C (D.set j ⟨true, -1, 0, 0⟩) calls) ∧ TChg lo lts w w' := by
  have hc := Lib.hid (drive_yes lo g vc vd C D calls w h j (List.getElem?_eq_some_iff.1 hd).1)
  obtain ⟨bd, cd, hv, a0, -, -, -⟩ := drive_at lo g vc vd C D calls w h j d hd
  rw [hb] at a0
  have h1 := h.out
  rw [hv] at h1
  obtain ⟨h4, t4, ht⟩ := h1.putD (d' := ⟨true, -1, 0, 0⟩) hd
  rw [← hv] at h4
  replace h4 := Lib.hid h4
  replace t4 := Lib.hid t4
  replace ht := Lib.hid ht
  clear h h1 hd hb
  go_enter Try.func19, Try.ntmps19
  go_wp2_with (first
    | (go_at_call 32; go_must (refine hc.out.mono ?_); rintro e w' ⟨⟨bd2, cd2, hq, rfl⟩, hee⟩; rw [hee]; clear hee; rw [hv] at hq; injection hq with hq _ _; injection hq with hq; injection hq with hq; subst hq; replace hv := Lib.hid hv)
    | (refine wpList_store_mid rfl 59 (.tmp 19) (.tmp 18) rfl bd (j * 4) #[.bool true, .int .i64 (-1), .int .i64 0, .int .i64 0] rfl rfl ht.out info_dr (all_oneCell_toArray (cs := [.bool true, .int .i64 (-1), .int .i64 0, .int .i64 0]) (one_d _ _ _ _)) ?_))
  go_ret
  exact ⟨rfl, h4, t4.out.mono (Nat.le_refl _) (by simp)⟩
set_option maxHeartbeats 1000000 in
set_option maxRecDepth 10000 in
theorem drive_reads (j : Nat) (d : Dr) (hd : D[j]? = some d) (hb : d.broken = false) : Calls Try.prog 17 #[.pointer (some ⟨g, 0, none⟩), .int .i64 j] w fun e w' => e = .returned (.tuple #[.int .i64 d.cart, .int .i64 d.pos, .bool true]) ∧ Below w.heap.size w w' := by
  have hc := Lib.hid (drive_yes lo g vc vd C D calls w h j (List.getElem?_eq_some_iff.1 hd).1)
  obtain ⟨bd, cd, hv, a0, -, -, -⟩ := drive_at lo g vc vd C D calls w h j d hd
  rw [hb] at a0
  obtain ⟨wd, hwd⟩ : ∃ wd, wd = w.drew := ⟨_, rfl⟩
  have hgd : Hid (Below w.heap.size w wd) := Lib.hid (by rw [hwd]; exact (Below.refl _ _).drew)
  obtain ⟨bd3, cd3, hv3, -, b1, b2, -⟩ := drive_at lo g vc vd C D calls wd (Lb.gr hgd.out h) j d hd
  rw [hv] at hv3
  injection hv3 with hv3 _ _
  injection hv3 with hv3
  injection hv3 with hv3
  subst hv3
  generalize d.cart = dc at *
  generalize d.pos = dp at *
  clear h hd hb
  go_enter Try.func17, Try.ntmps17
  go_upto_region 4 with (go_at_call 32; go_must (refine hc.out.mono ?_); rintro e w' ⟨⟨bd2, cd2, hq, rfl⟩, hee⟩; rw [hee]; clear hee; rw [hv] at hq; injection hq with hq _ _; injection hq with hq; injection hq with hq; subst hq; replace hv := Lib.hid hv)
  refine wpR_region (Eq) 9999 (by kernel_rfl) ?_
  (rw [← hwd]; replace hwd := Lib.hid hwd)
  refine wpR_take (i := 0) (v := ?_) (⟨fun _ => rfl, Eq.trans⟩) (some 19) rfl (by kernel_rfl) (by kernel_rfl) (by kernel_rfl) (by kernel_rfl) (by kernel_rfl) (fun _ _ _ h => h) (by kernel_rfl) (fun w' hw' => ?_) ?_
  rotate_left
  · go_simp; with_reducible rfl
  simp only [Act.put, List.setIfInBounds_toArray, List.set_cons_zero, List.set_cons_succ]
  refine wpR_take (i := 1) (v := ?_) (⟨fun _ => rfl, Eq.trans⟩) (some 20) rfl (by kernel_rfl) (by kernel_rfl) (by kernel_rfl) (by kernel_rfl) (by kernel_rfl) (fun _ _ _ h => h) (by kernel_rfl) (fun w' hw' => ?_) ?_
  rotate_left
  · go_simp; with_reducible rfl
  simp only [Act.put, List.setIfInBounds_toArray, List.set_cons_zero, List.set_cons_succ]
  refine wpR_take (i := 2) (v := ?_) (⟨fun _ => rfl, Eq.trans⟩) (some 21) rfl (by kernel_rfl) (by kernel_rfl) (by kernel_rfl) (by kernel_rfl) (by kernel_rfl) (fun _ _ _ h => h) (by kernel_rfl) (fun w' hw' => ?_) ?_
  rotate_left
  · go_simp; with_reducible rfl
  simp only [Act.put, List.setIfInBounds_toArray, List.set_cons_zero, List.set_cons_succ]
  refine wpR_take (i := 3) (v := ?_) (⟨fun _ => rfl, Eq.trans⟩) (some 22) rfl (by kernel_rfl) (by kernel_rfl) (by kernel_rfl) (by kernel_rfl) (by kernel_rfl) (fun _ _ _ h => h) (by kernel_rfl) (fun w' hw' => ?_) ?_
  rotate_left
  · subst hw'; go_simp; with_reducible rfl
  simp only [Act.put, List.setIfInBounds_toArray, List.set_cons_zero, List.set_cons_succ]
  refine wpR_take (i := 4) (v := ?_) (⟨fun _ => rfl, Eq.trans⟩) (some 23) rfl (by kernel_rfl) (by kernel_rfl) (by kernel_rfl) (by kernel_rfl) (by kernel_rfl) (fun _ _ _ h => h) (by kernel_rfl) (fun w' hw' => ?_) ?_
  rotate_left
  · go_simp; with_reducible rfl
  simp only [Act.put, List.setIfInBounds_toArray, List.set_cons_zero, List.set_cons_succ]
  refine wpR_take (i := 5) (v := ?_) (⟨fun _ => rfl, Eq.trans⟩) (some 24) rfl (by kernel_rfl) (by kernel_rfl) (by kernel_rfl) (by kernel_rfl) (by kernel_rfl) (fun _ _ _ h => h) (by kernel_rfl) (fun w' hw' => ?_) ?_
  rotate_left
  · go_simp; with_reducible rfl
  simp only [Act.put, List.setIfInBounds_toArray, List.set_cons_zero, List.set_cons_succ]
  refine wpR_take (i := 6) (v := ?_) (⟨fun _ => rfl, Eq.trans⟩) (some 25) rfl (by kernel_rfl) (by kernel_rfl) (by kernel_rfl) (by kernel_rfl) (by kernel_rfl) (fun _ _ _ h => h) (by kernel_rfl) (fun w' hw' => ?_) ?_
  rotate_left
  · go_simp; with_reducible rfl
  simp only [Act.put, List.setIfInBounds_toArray, List.set_cons_zero, List.set_cons_succ]
  refine wpR_take (i := 7) (v := ?_) (⟨fun _ => rfl, Eq.trans⟩) (some 26) rfl (by kernel_rfl) (by kernel_rfl) (by kernel_rfl) (by kernel_rfl) (by kernel_rfl) (fun _ _ _ h => h) (by kernel_rfl) (fun w' hw' => ?_) ?_
  rotate_left
  · subst hw'; go_simp; with_reducible rfl
  simp only [Act.put, List.setIfInBounds_toArray, List.set_cons_zero, List.set_cons_succ]
  refine wpR_take (i := 8) (v := ?_) (⟨fun _ => rfl, Eq.trans⟩) (some 4) rfl (by kernel_rfl) (by kernel_rfl) (by kernel_rfl) (by kernel_rfl) (by kernel_rfl) (fun _ _ _ h => h) (by kernel_rfl) (fun w' hw' => ?_) ?_
  rotate_left
  · go_simp; with_reducible rfl
  simp only [Act.put, List.setIfInBounds_toArray, List.set_cons_zero, List.set_cons_succ]
  refine wpR_take (i := 9) (v := ?_) (⟨fun _ => rfl, Eq.trans⟩) (some 5) rfl (by kernel_rfl) (by kernel_rfl) (by kernel_rfl) (by kernel_rfl) (by kernel_rfl) (fun _ _ _ h => h) (by kernel_rfl) (fun w' hw' => ?_) ?_
  rotate_left
  · go_simp; with_reducible rfl
  simp only [Act.put, List.setIfInBounds_toArray, List.set_cons_zero, List.set_cons_succ]
  refine wpR_take (i := 10) (v := ?_) (⟨fun _ => rfl, Eq.trans⟩) (some 6) rfl (by kernel_rfl) (by kernel_rfl) (by kernel_rfl) (by kernel_rfl) (by kernel_rfl) (fun _ _ _ h => h) (by kernel_rfl) (fun w' hw' => ?_) ?_
  rotate_left
  · go_simp; with_reducible rfl
  simp only [Act.put, List.setIfInBounds_toArray, List.set_cons_zero, List.set_cons_succ]
  refine wpR_done (by kernel_rfl) ?_ _
  go_wp2_with fail
  refine bodyPost_ret (v := .tuple #[.int .i64 dc, .int .i64 dp, .bool true]) (by simp [results, Try.results17, go_sem]) rfl ?_
  exact ⟨rfl, hgd.out⟩
set_option maxHeartbeats 1000000 in
set_option maxRecDepth 10000 in
theorem stand_no (z pos : Int) (hz : z < 0 ∨ (C.length : Int) ≤ z) : Calls Try.prog 31 #[.pointer (some ⟨g, 0, none⟩), .int .i64 z, .int .i64 pos] w fun e w' => e = .returned (.tuple #[.pointer none, .int .i64 1]) ∧ w' = w := by
  have hc := Lib.hid (cart_no lo g vc vd C D calls w h z hz)
  clear h hz
  go_enter Try.func31, Try.ntmps31
  go_wp2_with (go_at_call 11; go_must (refine hc.out.mono ?_); rintro e w' ⟨rfl, hee⟩; rw [hee]; clear hee)
  go_ret2
  exact ⟨rfl, rfl⟩
set_option maxHeartbeats 1000000 in
set_option maxRecDepth 10000 in
theorem stand_busy (i b : Nat) (hb : C[i]? = some b) (pos : Int) (j : Nat) (d : Dr) (hj : HoldIs D i j d) (hp : d.pos ≠ pos) : Calls Try.prog 31 #[.pointer (some ⟨g, 0, none⟩), .int .i64 i, .int .i64 pos] w fun e w' => e = .returned (.tuple #[.pointer none, .int .i64 8]) ∧ w' = w := by
  have hc := Lib.hid (cart_yes lo g vc vd C D calls w h i b hb)
  have hho := Lib.hid (holder_some lo g vc vd C D calls w h i j d hj)
  obtain ⟨bd, cd, hv, -, -, a2, -⟩ := drive_at lo g vc vd C D calls w h j d hj.1
  have ip : (d.pos == pos) = false := beq_false_of_ne hp
  clear h hb hj hp
  generalize d.pos = dp at *
  go_enter Try.func31, Try.ntmps31
  go_wp2_with (first
    | (go_at_call 11; go_must (refine hc.out.mono ?_); rintro e w' ⟨rfl, hee⟩; rw [hee]; clear hee)
    | (go_at_call 27; go_must (refine hho.out.mono ?_); rintro e w' ⟨⟨bd2, cd2, hq, rfl⟩, hee⟩; rw [hee]; clear hee; rw [hv] at hq; injection hq with hq _ _; injection hq with hq; injection hq with hq; subst hq; replace hv := Lib.hid hv))
  go_ret2
  exact ⟨rfl, rfl⟩
set_option maxHeartbeats 1000000 in
set_option maxRecDepth 10000 in
theorem stand_yes (i b : Nat) (hb : C[i]? = some b) (pos : Int) (j : Nat) (d : Dr) (hj : HoldIs D i j d) (hp : d.pos = pos) : Calls Try.prog 31 #[.pointer (some ⟨g, 0, none⟩), .int .i64 i, .int .i64 pos] w fun e w' => (∃ bd cd, vd = .slice (some ⟨bd, 0, none⟩) D.length cd ∧ e = .returned (.tuple #[.pointer (some ⟨bd, j * 4, none⟩), .int .i64 0])) ∧ w' = w := by
  have hc := Lib.hid (cart_yes lo g vc vd C D calls w h i b hb)
  have hho := Lib.hid (holder_some lo g vc vd C D calls w h i j d hj)
  obtain ⟨bd, cd, hv, -, -, a2, -⟩ := drive_at lo g vc vd C D calls w h j d hj.1
  rw [hp] at a2
  clear h hb hj hp
  go_enter Try.func31, Try.ntmps31
  go_wp2_with (first
    | (go_at_call 11; go_must (refine hc.out.mono ?_); rintro e w' ⟨rfl, hee⟩; rw [hee]; clear hee)
    | (go_at_call 27; go_must (refine hho.out.mono ?_); rintro e w' ⟨⟨bd2, cd2, hq, rfl⟩, hee⟩; rw [hee]; clear hee; rw [hv] at hq; injection hq with hq _ _; injection hq with hq; injection hq with hq; subst hq; replace hv := Lib.hid hv))
  go_ret2
  exact ⟨⟨bd, cd, hv.out, rfl⟩, rfl⟩
end
end Go.Proofs.Ytfjhdcppehfiiaa
