/- lib: one act, of both libraries. -/
import Derived.Test.YtfjhdcppehfiiaaLr9
namespace Go.Proofs.Ytfjhdcppehfiiaa
set_option linter.unusedVariables false
set_option linter.unusedSimpArgs false
set_option linter.unusedSectionVars false
open Go Go.RowKit
section
variable (lo gl gr T : Nat) (hT : T ≤ 100) (C : List Nat) (SS : List CS) (D : List Dr) (calls : Nat) (C' : List Nat) (SS' : List CS) (w : World) (h : Hid (Li w lo gl C SS D calls)) (hD : Hid (DOk C.length T D)) (hcl : calls ≤ T) (hr : Hid (Rl w lo gr C' SS' T)) (hCC : C'.length = C.length) (hlo : lo ≤ w.heap.size)
  (k n p : Int) (hn : I64 n) (hp : I64 p) (A : Option Addr) (m c : Nat)
include h hD hcl hr hCC hlo hT hn hp
set_option maxHeartbeats 4000000 in
set_option maxRecDepth 10000 in
theorem does_break (hk : k.tmod 16 = 0) : Calls Try.prog 25 #[.pointer (some ⟨gl, 0, none⟩), .pointer (some ⟨gr, 0, none⟩), .agg #[.int .u8 k, .int .i64 n, .int .i64 p, .slice A m c]] w fun e w' => (∃ r, e = .returned (.bool r)) ∧ Hid (BtL w' lo gl gr (T + 1)) ∧ Hid (TChg lo bts w w') := by
  obtain ⟨wA, hwA⟩ : ∃ wA, w.alloc (.cells #[.int .u8 k, .int .i64 n, .int .i64 p, .slice A m c] 42) = wA := ⟨_, rfl⟩
  have hgA : Hid (Below w.heap.size w wA) := Lib.hid (by rw [← hwA]; exact alloc_gr _ _)
  obtain ⟨wd, hwd⟩ : ∃ wd, wd = wA.drew := ⟨_, rfl⟩
  have hgd : Hid (Below w.heap.size w wd) := Lib.hid (by rw [hwd]; exact hgA.out.trans ((Below.refl _ _).drew.mono hgA.out.size))
  have hxA : wA.heap[w.heap.size]? = some (.cells #[.int .u8 k, .int .i64 n, .int .i64 p, .slice A m c] 42 (0, 0)) := by rw [← hwA]; exact heap_alloc_new w _
  have hx : Hid (wd.heap[w.heap.size]? = some (.cells #[.int .u8 k, .int .i64 n, .int .i64 p, .slice A m c] 42 (0, 0))) := Lib.hid (by rw [hwd]; exact hxA)
  have q0 := blk_cell (j := 0) hxA rfl
  have q1 := blk_cell (j := 1) hxA rfl
  have q2 := blk_cell (j := 2) hxA rfl
  have q3 := blk_cell (j := 3) hxA rfl
  have hA := Lib.hid (h.out.gr hgA.out)
  have hrA : Hid (Rl wA lo gr C' SS' T) := Lib.hid (hr.out.gr hgA.out (Nat.le_refl _))
  have hloA : Hid (lo ≤ wA.heap.size) := Lib.hid (Nat.le_trans hlo hgA.out.size)
  have hd := Lib.hid (h.out.gr hgd.out)
  have hrd : Hid (Rl wd lo gr C' SS' T) := Lib.hid (hr.out.gr hgd.out (Nat.le_refl _))
  have hlod : Hid (lo ≤ wd.heap.size) := Lib.hid (Nat.le_trans hlo hgd.out.size)
  replace hwA := Lib.hid hwA
  replace hxA := Lib.hid hxA
  go_enter Try.func25, Try.ntmps25
  go_upto_region 1 with (fail)
  rw [hwA.out]
  go_upto_region 3 with (fail)
  refine wpR_region (TChg lo bts) 9999 (by kernel_rfl) ?_
  (rw [← hwd]; replace hwd := Lib.hid hwd)
  refine wpR_take (i := 0) (v := ?_) (TChg.road _ _) (some 29) rfl (by kernel_rfl) (by kernel_rfl) (by kernel_rfl) (by kernel_rfl) (by kernel_rfl) (fun _ _ _ h => h) (by kernel_rfl) (fun w' hw' => ?_) ?_
  rotate_left
  · go_simp; with_reducible rfl
  simp only [Act.put, List.setIfInBounds_toArray, List.set_cons_zero, List.set_cons_succ]
  refine wpR_take (i := 1) (v := ?_) (TChg.road _ _) (some 30) rfl (by kernel_rfl) (by kernel_rfl) (by kernel_rfl) (by kernel_rfl) (by kernel_rfl) (fun _ _ _ h => h) (by kernel_rfl) (fun w' hw' => ?_) ?_
  rotate_left
  · go_simp; with_reducible rfl
  simp only [Act.put, List.setIfInBounds_toArray, List.set_cons_zero, List.set_cons_succ]
  refine wpR_take (i := 2) (v := ?_) (TChg.road _ _) (some 31) rfl (by kernel_rfl) (by kernel_rfl) (by kernel_rfl) (by kernel_rfl) (by kernel_rfl) (fun _ _ _ h => h) (by kernel_rfl) (fun w' hw' => ?_) ?_
  rotate_left
  · have q := blk_cell (j := 1) (hw'.block hx.out (by decide)) rfl; go_simp; with_reducible rfl
  simp only [Act.put, List.setIfInBounds_toArray, List.set_cons_zero, List.set_cons_succ]
  refine wpR_take (i := 4) (v := ?_) (TChg.road _ _) (some 33) rfl (by kernel_rfl) (by kernel_rfl) (by kernel_rfl) (by kernel_rfl) (by kernel_rfl) (fun _ _ _ h => h) (by kernel_rfl) (fun w' hw' => ?_) ?_
  rotate_left
  · go_simp; with_reducible rfl
  simp only [Act.put, List.setIfInBounds_toArray, List.set_cons_zero, List.set_cons_succ]
  refine wpR_take (i := 5) (v := ?_) (TChg.road _ _) (some 34) rfl (by kernel_rfl) (by kernel_rfl) (by kernel_rfl) (by kernel_rfl) (by kernel_rfl) (fun _ _ _ h => h) (by kernel_rfl) (fun w' hw' => ?_) ?_
  rotate_left
  · go_simp; with_reducible rfl
  simp only [Act.put, List.setIfInBounds_toArray, List.set_cons_zero, List.set_cons_succ]
  refine wpR_take (i := 6) (v := ?_) (TChg.road _ _) (some 35) rfl (by kernel_rfl) (by kernel_rfl) (by kernel_rfl) (by kernel_rfl) (by kernel_rfl) (fun _ _ _ h => h) (by kernel_rfl) (fun w' hw' => ?_) ?_
  rotate_left
  · have q := blk_cell (j := 1) (hw'.block hx.out (by decide)) rfl; go_simp; with_reducible rfl
  simp only [Act.put, List.setIfInBounds_toArray, List.set_cons_zero, List.set_cons_succ]
  refine wpR_one 3 rfl (by kernel_rfl) (by kernel_rfl) (fun K hK => ?_)
  go_simp
  refine (break_li lo gl C SS D calls T wd hd hD n).mono ?_
  rintro e w1 ⟨r1, D1, rfl, h1, hD1, t1⟩
  refine hK _ _ (fun _ => t1.out.mono (Nat.le_refl _) (by simp)) ?_
  clear hK K
  have hr1 : Hid (Rl w1 lo gr C' SS' T) := Lib.hid (hrd.out.keep t1.out (by decide) (Nat.le_refl _))
  try simp only [Act.put, List.setIfInBounds_toArray, List.set_cons_zero, List.set_cons_succ]
  refine wpR_one 7 rfl (by kernel_rfl) (by kernel_rfl) (fun K hK => ?_)
  go_simp
  refine (rbreak_li lo gr C' SS' T w1 hr1 n).mono ?_
  rintro e w2 ⟨r2, rfl, hr2, t2⟩
  refine hK _ _ (fun _ => t2.out.mono (Nat.le_refl _) (by simp)) ?_
  clear hK K
  have h2 : Hid (Li w2 lo gl C SS D1 calls) := Lib.hid (h1.out.keep t2.out (by decide) (by decide))
  try simp only [Act.put, List.setIfInBounds_toArray, List.set_cons_zero, List.set_cons_succ]
  refine wpR_take (i := 8) (v := ?_) (TChg.road _ _) (some 37) rfl (by kernel_rfl) (by kernel_rfl) (by kernel_rfl) (by kernel_rfl) (by kernel_rfl) (fun _ _ _ h => h) (by kernel_rfl) (fun w' hw' => ?_) ?_
  rotate_left
  · go_simp; with_reducible rfl
  simp only [Act.put, List.setIfInBounds_toArray, List.set_cons_zero, List.set_cons_succ]
  refine wpR_take (i := 9) (v := ?_) (TChg.road _ _) (some 6) rfl (by kernel_rfl) (by kernel_rfl) (by kernel_rfl) (by kernel_rfl) (by kernel_rfl) (fun _ _ _ h => h) (by kernel_rfl) (fun w' hw' => ?_) ?_
  rotate_left
  · go_simp; with_reducible rfl
  simp only [Act.put, List.setIfInBounds_toArray, List.set_cons_zero, List.set_cons_succ]
  refine wpR_done (by kernel_rfl) ?_ _
  go_wp2_with fail
  go_ret
  exact ⟨⟨_, rfl⟩, Lib.hid ⟨C, SS, D1, calls, C', SS', h2.out, hD1.out.more (Nat.le_refl _) (by omega), by omega, hr2.out.gr (Below.refl _ _) (by omega), hCC⟩, Lib.hid (((TChg.of_below hgd.out).trans (t1.out.mono (Nat.le_refl _) (by simp))).trans (t2.out.mono (Nat.le_refl _) (by simp)))⟩
set_option maxHeartbeats 4000000 in
set_option maxRecDepth 10000 in
theorem does_mend (hk : k.tmod 16 = 1) : Calls Try.prog 25 #[.pointer (some ⟨gl, 0, none⟩), .pointer (some ⟨gr, 0, none⟩), .agg #[.int .u8 k, .int .i64 n, .int .i64 p, .slice A m c]] w fun e w' => (∃ r, e = .returned (.bool r)) ∧ Hid (BtL w' lo gl gr (T + 1)) ∧ Hid (TChg lo bts w w') := by
  obtain ⟨wA, hwA⟩ : ∃ wA, w.alloc (.cells #[.int .u8 k, .int .i64 n, .int .i64 p, .slice A m c] 42) = wA := ⟨_, rfl⟩
  have hgA : Hid (Below w.heap.size w wA) := Lib.hid (by rw [← hwA]; exact alloc_gr _ _)
  obtain ⟨wd, hwd⟩ : ∃ wd, wd = wA.drew := ⟨_, rfl⟩
  have hgd : Hid (Below w.heap.size w wd) := Lib.hid (by rw [hwd]; exact hgA.out.trans ((Below.refl _ _).drew.mono hgA.out.size))
  have hxA : wA.heap[w.heap.size]? = some (.cells #[.int .u8 k, .int .i64 n, .int .i64 p, .slice A m c] 42 (0, 0)) := by rw [← hwA]; exact heap_alloc_new w _
  have hx : Hid (wd.heap[w.heap.size]? = some (.cells #[.int .u8 k, .int .i64 n, .int .i64 p, .slice A m c] 42 (0, 0))) := Lib.hid (by rw [hwd]; exact hxA)
  have q0 := blk_cell (j := 0) hxA rfl
  have q1 := blk_cell (j := 1) hxA rfl
  have q2 := blk_cell (j := 2) hxA rfl
  have q3 := blk_cell (j := 3) hxA rfl
  have hA := Lib.hid (h.out.gr hgA.out)
  have hrA : Hid (Rl wA lo gr C' SS' T) := Lib.hid (hr.out.gr hgA.out (Nat.le_refl _))
  have hloA : Hid (lo ≤ wA.heap.size) := Lib.hid (Nat.le_trans hlo hgA.out.size)
  have hd := Lib.hid (h.out.gr hgd.out)
  have hrd : Hid (Rl wd lo gr C' SS' T) := Lib.hid (hr.out.gr hgd.out (Nat.le_refl _))
  have hlod : Hid (lo ≤ wd.heap.size) := Lib.hid (Nat.le_trans hlo hgd.out.size)
  replace hwA := Lib.hid hwA
  replace hxA := Lib.hid hxA
  go_enter Try.func25, Try.ntmps25
  go_upto_region 1 with (fail)
  rw [hwA.out]
  go_upto_region 5 with (fail)
  refine wpR_region (TChg lo bts) 9999 (by kernel_rfl) ?_
  (rw [← hwd]; replace hwd := Lib.hid hwd)
  refine wpR_take (i := 0) (v := ?_) (TChg.road _ _) (some 40) rfl (by kernel_rfl) (by kernel_rfl) (by kernel_rfl) (by kernel_rfl) (by kernel_rfl) (fun _ _ _ h => h) (by kernel_rfl) (fun w' hw' => ?_) ?_
  rotate_left
  · go_simp; with_reducible rfl
  simp only [Act.put, List.setIfInBounds_toArray, List.set_cons_zero, List.set_cons_succ]
  refine wpR_take (i := 1) (v := ?_) (TChg.road _ _) (some 41) rfl (by kernel_rfl) (by kernel_rfl) (by kernel_rfl) (by kernel_rfl) (by kernel_rfl) (fun _ _ _ h => h) (by kernel_rfl) (fun w' hw' => ?_) ?_
  rotate_left
  · go_simp; with_reducible rfl
  simp only [Act.put, List.setIfInBounds_toArray, List.set_cons_zero, List.set_cons_succ]
  refine wpR_take (i := 2) (v := ?_) (TChg.road _ _) (some 42) rfl (by kernel_rfl) (by kernel_rfl) (by kernel_rfl) (by kernel_rfl) (by kernel_rfl) (fun _ _ _ h => h) (by kernel_rfl) (fun w' hw' => ?_) ?_
  rotate_left
  · have q := blk_cell (j := 1) (hw'.block hx.out (by decide)) rfl; go_simp; with_reducible rfl
  simp only [Act.put, List.setIfInBounds_toArray, List.set_cons_zero, List.set_cons_succ]
  refine wpR_take (i := 4) (v := ?_) (TChg.road _ _) (some 44) rfl (by kernel_rfl) (by kernel_rfl) (by kernel_rfl) (by kernel_rfl) (by kernel_rfl) (fun _ _ _ h => h) (by kernel_rfl) (fun w' hw' => ?_) ?_
  rotate_left
  · go_simp; with_reducible rfl
  simp only [Act.put, List.setIfInBounds_toArray, List.set_cons_zero, List.set_cons_succ]
  refine wpR_take (i := 5) (v := ?_) (TChg.road _ _) (some 45) rfl (by kernel_rfl) (by kernel_rfl) (by kernel_rfl) (by kernel_rfl) (by kernel_rfl) (fun _ _ _ h => h) (by kernel_rfl) (fun w' hw' => ?_) ?_
  rotate_left
  · go_simp; with_reducible rfl
  simp only [Act.put, List.setIfInBounds_toArray, List.set_cons_zero, List.set_cons_succ]
  refine wpR_take (i := 6) (v := ?_) (TChg.road _ _) (some 46) rfl (by kernel_rfl) (by kernel_rfl) (by kernel_rfl) (by kernel_rfl) (by kernel_rfl) (fun _ _ _ h => h) (by kernel_rfl) (fun w' hw' => ?_) ?_
  rotate_left
  · have q := blk_cell (j := 1) (hw'.block hx.out (by decide)) rfl; go_simp; with_reducible rfl
  simp only [Act.put, List.setIfInBounds_toArray, List.set_cons_zero, List.set_cons_succ]
  refine wpR_one 3 rfl (by kernel_rfl) (by kernel_rfl) (fun K hK => ?_)
  go_simp
  refine (mend_li lo gl C SS D calls T wd hd hD n).mono ?_
  rintro e w1 ⟨r1, D1, rfl, h1, hD1, t1⟩
  refine hK _ _ (fun _ => t1.out.mono (Nat.le_refl _) (by simp)) ?_
  clear hK K
  have hr1 : Hid (Rl w1 lo gr C' SS' T) := Lib.hid (hrd.out.keep t1.out (by decide) (Nat.le_refl _))
  try simp only [Act.put, List.setIfInBounds_toArray, List.set_cons_zero, List.set_cons_succ]
  refine wpR_one 7 rfl (by kernel_rfl) (by kernel_rfl) (fun K hK => ?_)
  go_simp
  refine (rmend_li lo gr C' SS' T w1 hr1 n).mono ?_
  rintro e w2 ⟨r2, rfl, hr2, t2⟩
  refine hK _ _ (fun _ => t2.out.mono (Nat.le_refl _) (by simp)) ?_
  clear hK K
  have h2 : Hid (Li w2 lo gl C SS D1 calls) := Lib.hid (h1.out.keep t2.out (by decide) (by decide))
  try simp only [Act.put, List.setIfInBounds_toArray, List.set_cons_zero, List.set_cons_succ]
  refine wpR_take (i := 8) (v := ?_) (TChg.road _ _) (some 48) rfl (by kernel_rfl) (by kernel_rfl) (by kernel_rfl) (by kernel_rfl) (by kernel_rfl) (fun _ _ _ h => h) (by kernel_rfl) (fun w' hw' => ?_) ?_
  rotate_left
  · go_simp; with_reducible rfl
  simp only [Act.put, List.setIfInBounds_toArray, List.set_cons_zero, List.set_cons_succ]
  refine wpR_take (i := 9) (v := ?_) (TChg.road _ _) (some 6) rfl (by kernel_rfl) (by kernel_rfl) (by kernel_rfl) (by kernel_rfl) (by kernel_rfl) (fun _ _ _ h => h) (by kernel_rfl) (fun w' hw' => ?_) ?_
  rotate_left
  · go_simp; with_reducible rfl
  simp only [Act.put, List.setIfInBounds_toArray, List.set_cons_zero, List.set_cons_succ]
  refine wpR_done (by kernel_rfl) ?_ _
  go_wp2_with fail
  go_ret
  exact ⟨⟨_, rfl⟩, Lib.hid ⟨C, SS, D1, calls, C', SS', h2.out, hD1.out.more (Nat.le_refl _) (by omega), by omega, hr2.out.gr (Below.refl _ _) (by omega), hCC⟩, Lib.hid (((TChg.of_below hgd.out).trans (t1.out.mono (Nat.le_refl _) (by simp))).trans (t2.out.mono (Nat.le_refl _) (by simp)))⟩
set_option maxHeartbeats 4000000 in
set_option maxRecDepth 10000 in
theorem does_add (hk : k.tmod 16 = 2) : Calls Try.prog 25 #[.pointer (some ⟨gl, 0, none⟩), .pointer (some ⟨gr, 0, none⟩), .agg #[.int .u8 k, .int .i64 n, .int .i64 p, .slice A m c]] w fun e w' => (∃ r, e = .returned (.bool r)) ∧ Hid (BtL w' lo gl gr (T + 1)) ∧ Hid (TChg lo bts w w') := by
  obtain ⟨wA, hwA⟩ : ∃ wA, w.alloc (.cells #[.int .u8 k, .int .i64 n, .int .i64 p, .slice A m c] 42) = wA := ⟨_, rfl⟩
  have hgA : Hid (Below w.heap.size w wA) := Lib.hid (by rw [← hwA]; exact alloc_gr _ _)
  obtain ⟨wd, hwd⟩ : ∃ wd, wd = wA.drew := ⟨_, rfl⟩
  have hgd : Hid (Below w.heap.size w wd) := Lib.hid (by rw [hwd]; exact hgA.out.trans ((Below.refl _ _).drew.mono hgA.out.size))
  have hxA : wA.heap[w.heap.size]? = some (.cells #[.int .u8 k, .int .i64 n, .int .i64 p, .slice A m c] 42 (0, 0)) := by rw [← hwA]; exact heap_alloc_new w _
  have hx : Hid (wd.heap[w.heap.size]? = some (.cells #[.int .u8 k, .int .i64 n, .int .i64 p, .slice A m c] 42 (0, 0))) := Lib.hid (by rw [hwd]; exact hxA)
  have q0 := blk_cell (j := 0) hxA rfl
  have q1 := blk_cell (j := 1) hxA rfl
  have q2 := blk_cell (j := 2) hxA rfl
  have q3 := blk_cell (j := 3) hxA rfl
  have hA := Lib.hid (h.out.gr hgA.out)
  have hrA : Hid (Rl wA lo gr C' SS' T) := Lib.hid (hr.out.gr hgA.out (Nat.le_refl _))
  have hloA : Hid (lo ≤ wA.heap.size) := Lib.hid (Nat.le_trans hlo hgA.out.size)
  have hd := Lib.hid (h.out.gr hgd.out)
  have hrd : Hid (Rl wd lo gr C' SS' T) := Lib.hid (hr.out.gr hgd.out (Nat.le_refl _))
  have hlod : Hid (lo ≤ wd.heap.size) := Lib.hid (Nat.le_trans hlo hgd.out.size)
  replace hwA := Lib.hid hwA
  replace hxA := Lib.hid hxA
  have hc1 := Lib.hid (add_li lo gl C SS D calls T wA hA hD hloA.out p hp)
  go_enter Try.func25, Try.ntmps25
  go_upto_region 1 with (fail)
  rw [hwA.out]
  go_wp2_with (go_at_call 22; go_must (refine hc1.out.mono ?_); rintro e w1 ⟨a1, r1, C1, SS1, rfl, hl1, h1, hD1, t1⟩; clear q0 q1 q2 q3; have q2 := blk_cell (j := 2) (t1.out.block hxA.out (by decide)) rfl; have hr1 : Hid (Rl w1 lo gr C' SS' T) := Lib.hid (hrA.out.keep t1.out (by decide) (Nat.le_refl _)))
  have hc2 := Lib.hid (radd_li lo gr C' SS' T w1 hr1 (Nat.le_trans hloA.out t1.out.size) p hp)
  clear hc1
  go_wp2_with (go_at_call 39; go_must (refine hc2.out.mono ?_); rintro e w2 ⟨a2, r2, C2, SS2, rfl, hl2, hr2, t2⟩; have h2 : Hid (Li w2 lo gl C1 SS1 D calls) := Lib.hid (h1.out.keep t2.out (by decide) (by decide)))
  all_goals go_ret
  all_goals exact ⟨⟨_, rfl⟩, Lib.hid ⟨C1, SS1, D, calls, C2, SS2, h2.out, hD1.out.more (Nat.le_refl _) (by omega), by omega, hr2.out.gr (Below.refl _ _) (by omega), by omega⟩, Lib.hid (((TChg.of_below hgA.out).trans (t1.out.mono (Nat.le_refl _) (by simp))).trans (t2.out.mono (Nat.le_refl _) (by simp)))⟩
set_option maxHeartbeats 4000000 in
set_option maxRecDepth 10000 in
theorem does_go (hk : 12 ≤ k.tmod 16) (hk2 : k.tmod 16 < 16) : Calls Try.prog 25 #[.pointer (some ⟨gl, 0, none⟩), .pointer (some ⟨gr, 0, none⟩), .agg #[.int .u8 k, .int .i64 n, .int .i64 p, .slice A m c]] w fun e w' => (∃ r, e = .returned (.bool r)) ∧ Hid (BtL w' lo gl gr (T + 1)) ∧ Hid (TChg lo bts w w') := by
  obtain ⟨wA, hwA⟩ : ∃ wA, w.alloc (.cells #[.int .u8 k, .int .i64 n, .int .i64 p, .slice A m c] 42) = wA := ⟨_, rfl⟩
  have hgA : Hid (Below w.heap.size w wA) := Lib.hid (by rw [← hwA]; exact alloc_gr _ _)
  obtain ⟨wd, hwd⟩ : ∃ wd, wd = wA.drew := ⟨_, rfl⟩
  have hgd : Hid (Below w.heap.size w wd) := Lib.hid (by rw [hwd]; exact hgA.out.trans ((Below.refl _ _).drew.mono hgA.out.size))
  have hxA : wA.heap[w.heap.size]? = some (.cells #[.int .u8 k, .int .i64 n, .int .i64 p, .slice A m c] 42 (0, 0)) := by rw [← hwA]; exact heap_alloc_new w _
  have hx : Hid (wd.heap[w.heap.size]? = some (.cells #[.int .u8 k, .int .i64 n, .int .i64 p, .slice A m c] 42 (0, 0))) := Lib.hid (by rw [hwd]; exact hxA)
  have q0 := blk_cell (j := 0) hxA rfl
  have q1 := blk_cell (j := 1) hxA rfl
  have q2 := blk_cell (j := 2) hxA rfl
  have q3 := blk_cell (j := 3) hxA rfl
  have hA := Lib.hid (h.out.gr hgA.out)
  have hrA : Hid (Rl wA lo gr C' SS' T) := Lib.hid (hr.out.gr hgA.out (Nat.le_refl _))
  have hloA : Hid (lo ≤ wA.heap.size) := Lib.hid (Nat.le_trans hlo hgA.out.size)
  have hd := Lib.hid (h.out.gr hgd.out)
  have hrd : Hid (Rl wd lo gr C' SS' T) := Lib.hid (hr.out.gr hgd.out (Nat.le_refl _))
  have hlod : Hid (lo ≤ wd.heap.size) := Lib.hid (Nat.le_trans hlo hgd.out.size)
  replace hwA := Lib.hid hwA
  replace hxA := Lib.hid hxA
  have hc0 := Lib.hid (near_any lo gl C SS D calls wA hA n p)
  have hc1 : Hid (∀ q, _) := Lib.hid (fun q => go_li lo gl C SS D calls T wA hA hD (by omega) n q)
  rcases (by omega : k.tmod 16 = 12 ∨ k.tmod 16 = 13 ∨ k.tmod 16 = 14 ∨ k.tmod 16 = 15) with hk | hk | hk | hk
  all_goals
    go_enter Try.func25, Try.ntmps25
    go_upto_region 1 with (fail)
    rw [hwA.out]
    go_wp2_with (first
      | (go_at_call 47; go_must (refine hc0.out.mono ?_); rintro e w' ⟨⟨q, rfl⟩, hee⟩; rw [hee]; clear hee)
      | (go_at_call 13; go_must (refine (hc1.out _).mono ?_); rintro e w1 ⟨a1, r1, D1, calls1, rfl, hl1, h1, hD1, t1⟩; clear q0 q1 q2 q3; have q1 := blk_cell (j := 1) (t1.out.block hxA.out (by decide)) rfl; have hr1 : Hid (Rl w1 lo gr C' SS' T) := Lib.hid (hrA.out.keep t1.out (by decide) (Nat.le_refl _)))
      | (go_at_call 48; go_must (refine (rgo_li lo gr C' SS' T w1 hr1 (by omega) _ _).mono ?_); rintro e w2 ⟨a2, r2, rfl, hr2, t2⟩; have h2 : Hid (Li w2 lo gl C SS D1 calls1) := Lib.hid (h1.out.keep t2.out (by decide) (by decide))))
    all_goals go_ret
    all_goals exact ⟨⟨_, rfl⟩, Lib.hid ⟨C, SS, D1, calls1, C', SS', h2.out, hD1.out.more (Nat.le_refl _) (by omega), by omega, hr2.out, hCC⟩, Lib.hid (((TChg.of_below hgA.out).trans (t1.out.mono (Nat.le_refl _) (by simp))).trans (t2.out.mono (Nat.le_refl _) (by simp)))⟩
set_option maxHeartbeats 4000000 in
set_option maxRecDepth 10000 in
theorem does_read (hk : 4 ≤ k.tmod 16) (hk2 : k.tmod 16 < 8) : Calls Try.prog 25 #[.pointer (some ⟨gl, 0, none⟩), .pointer (some ⟨gr, 0, none⟩), .agg #[.int .u8 k, .int .i64 n, .int .i64 p, .slice A m c]] w fun e w' => (∃ r, e = .returned (.bool r)) ∧ Hid (BtL w' lo gl gr (T + 1)) ∧ Hid (TChg lo bts w w') := by
  obtain ⟨wA, hwA⟩ : ∃ wA, w.alloc (.cells #[.int .u8 k, .int .i64 n, .int .i64 p, .slice A m c] 42) = wA := ⟨_, rfl⟩
  have hgA : Hid (Below w.heap.size w wA) := Lib.hid (by rw [← hwA]; exact alloc_gr _ _)
  obtain ⟨wd, hwd⟩ : ∃ wd, wd = wA.drew := ⟨_, rfl⟩
  have hgd : Hid (Below w.heap.size w wd) := Lib.hid (by rw [hwd]; exact hgA.out.trans ((Below.refl _ _).drew.mono hgA.out.size))
  have hxA : wA.heap[w.heap.size]? = some (.cells #[.int .u8 k, .int .i64 n, .int .i64 p, .slice A m c] 42 (0, 0)) := by rw [← hwA]; exact heap_alloc_new w _
  have hx : Hid (wd.heap[w.heap.size]? = some (.cells #[.int .u8 k, .int .i64 n, .int .i64 p, .slice A m c] 42 (0, 0))) := Lib.hid (by rw [hwd]; exact hxA)
  have q0 := blk_cell (j := 0) hxA rfl
  have q1 := blk_cell (j := 1) hxA rfl
  have q2 := blk_cell (j := 2) hxA rfl
  have q3 := blk_cell (j := 3) hxA rfl
  have hA := Lib.hid (h.out.gr hgA.out)
  have hrA : Hid (Rl wA lo gr C' SS' T) := Lib.hid (hr.out.gr hgA.out (Nat.le_refl _))
  have hloA : Hid (lo ≤ wA.heap.size) := Lib.hid (Nat.le_trans hlo hgA.out.size)
  have hd := Lib.hid (h.out.gr hgd.out)
  have hrd : Hid (Rl wd lo gr C' SS' T) := Lib.hid (hr.out.gr hgd.out (Nat.le_refl _))
  have hlod : Hid (lo ≤ wd.heap.size) := Lib.hid (Nat.le_trans hlo hgd.out.size)
  replace hwA := Lib.hid hwA
  replace hxA := Lib.hid hxA
  have hc1 := Lib.hid (read_li lo gl C SS D calls T wA hA hD (by omega) n p)
  rcases (by omega : k.tmod 16 = 4 ∨ k.tmod 16 = 5 ∨ k.tmod 16 = 6 ∨ k.tmod 16 = 7) with hk | hk | hk | hk
  all_goals
    go_enter Try.func25, Try.ntmps25
    go_upto_region 1 with (fail)
    rw [hwA.out]
    go_wp2_with (first
      | (go_at_call 15; go_must (refine hc1.out.mono ?_); rintro e w1 ⟨A1, c1, x1, r1, D1, rfl, ho, h1, hD1, t1⟩; clear q0 q1 q2 q3; have q1 := blk_cell (j := 1) (t1.out.block hxA.out (by decide)) rfl; have q2 := blk_cell (j := 2) (t1.out.block hxA.out (by decide)) rfl; have hr1 : Hid (Rl w1 lo gr C' SS' T) := Lib.hid (hrA.out.keep t1.out (by decide) (Nat.le_refl _)))
      | (go_at_call 45; go_must (refine (rread_li lo gr C' SS' T w1 hr1 (by omega) _ _).mono ?_); rintro e w2 ⟨x2, r2, rfl, hr2, t2⟩; have h2 : Hid (Li w2 lo gl C SS D1 calls) := Lib.hid (h1.out.keep t2.out (by decide) (by decide)); have hcv := run_str_at (n := x1.length) c1 (ho.out.tchg t2.out (by decide)).rd.1 rfl))
    all_goals go_ret
    all_goals exact ⟨⟨_, rfl⟩, Lib.hid ⟨C, SS, D1, calls, C', SS', h2.out, hD1.out, by omega, hr2.out, hCC⟩, Lib.hid (((TChg.of_below hgA.out).trans (t1.out.mono (Nat.le_refl _) (by simp))).trans (t2.out.mono (Nat.le_refl _) (by simp)))⟩
set_option maxHeartbeats 4000000 in
set_option maxRecDepth 10000 in
theorem does_append (b : List UInt8) (hb : b.length = m) (hm : m ≤ maxLen) (hrdb : Hid (Rd w lo A b)) (hk : 8 ≤ k.tmod 16) (hk2 : k.tmod 16 < 12) : Calls Try.prog 25 #[.pointer (some ⟨gl, 0, none⟩), .pointer (some ⟨gr, 0, none⟩), .agg #[.int .u8 k, .int .i64 n, .int .i64 p, .slice A m c]] w fun e w' => (∃ r, e = .returned (.bool r)) ∧ Hid (BtL w' lo gl gr (T + 1)) ∧ Hid (TChg lo bts w w') := by
  obtain ⟨wA, hwA⟩ : ∃ wA, w.alloc (.cells #[.int .u8 k, .int .i64 n, .int .i64 p, .slice A m c] 42) = wA := ⟨_, rfl⟩
  have hgA : Hid (Below w.heap.size w wA) := Lib.hid (by rw [← hwA]; exact alloc_gr _ _)
  obtain ⟨wd, hwd⟩ : ∃ wd, wd = wA.drew := ⟨_, rfl⟩
  have hgd : Hid (Below w.heap.size w wd) := Lib.hid (by rw [hwd]; exact hgA.out.trans ((Below.refl _ _).drew.mono hgA.out.size))
  have hxA : wA.heap[w.heap.size]? = some (.cells #[.int .u8 k, .int .i64 n, .int .i64 p, .slice A m c] 42 (0, 0)) := by rw [← hwA]; exact heap_alloc_new w _
  have hx : Hid (wd.heap[w.heap.size]? = some (.cells #[.int .u8 k, .int .i64 n, .int .i64 p, .slice A m c] 42 (0, 0))) := Lib.hid (by rw [hwd]; exact hxA)
  have q0 := blk_cell (j := 0) hxA rfl
  have q1 := blk_cell (j := 1) hxA rfl
  have q2 := blk_cell (j := 2) hxA rfl
  have q3 := blk_cell (j := 3) hxA rfl
  have hA := Lib.hid (h.out.gr hgA.out)
  have hrA : Hid (Rl wA lo gr C' SS' T) := Lib.hid (hr.out.gr hgA.out (Nat.le_refl _))
  have hloA : Hid (lo ≤ wA.heap.size) := Lib.hid (Nat.le_trans hlo hgA.out.size)
  have hd := Lib.hid (h.out.gr hgd.out)
  have hrd : Hid (Rl wd lo gr C' SS' T) := Lib.hid (hr.out.gr hgd.out (Nat.le_refl _))
  have hlod : Hid (lo ≤ wd.heap.size) := Lib.hid (Nat.le_trans hlo hgd.out.size)
  replace hwA := Lib.hid hwA
  replace hxA := Lib.hid hxA
  have hrA2 : Rd wA lo A b := hrdb.out.below (hgA.out.mono hlo)
  have hc1 := Lib.hid (append_li lo gl C SS D calls T wA hA hD hloA.out (by omega) n A m c b hb hm (hrA2.more hloA.out))
  replace hrA2 := Lib.hid hrA2
  rcases (by omega : k.tmod 16 = 8 ∨ k.tmod 16 = 9 ∨ k.tmod 16 = 10 ∨ k.tmod 16 = 11) with hk | hk | hk | hk
  all_goals
    go_enter Try.func25, Try.ntmps25
    go_upto_region 1 with (fail)
    rw [hwA.out]
    go_wp2_with (first
      | (go_at_call 21; go_must (refine hc1.out.mono ?_); rintro e w1 ⟨a1, r1, SS1, D1, rfl, h1, hD1, t1⟩; clear q0 q1 q2 q3; have q1 := blk_cell (j := 1) (t1.out.block hxA.out (by decide)) rfl; have q3 := blk_cell (j := 3) (t1.out.block hxA.out (by decide)) rfl; have hr1 : Hid (Rl w1 lo gr C' SS' T) := Lib.hid (hrA.out.keep t1.out (by decide) (Nat.le_refl _)); have hrd1 : Hid (Rd w1 lo A b) := Lib.hid (hrA2.out.below (t1.out.below hloA.out)); have hlo1 : lo ≤ w1.heap.size := Nat.le_trans hloA.out t1.out.size)
      | (go_at_call 46; go_must (refine (rappend_li lo gr C' SS' T w1 hr1 (by omega) hlo1 _ A m c b hb hm hrd1).mono ?_); rintro e w2 ⟨a2, r2, SS2, rfl, hr2, t2⟩; have h2 : Hid (Li w2 lo gl C SS1 D1 calls) := Lib.hid (h1.out.keep t2.out (by decide) (by decide))))
    all_goals go_ret
    all_goals exact ⟨⟨_, rfl⟩, Lib.hid ⟨C, SS1, D1, calls, C', SS2, h2.out, hD1.out, by omega, hr2.out, hCC⟩, Lib.hid (((TChg.of_below hgA.out).trans (t1.out.mono (Nat.le_refl _) (by simp))).trans (t2.out.mono (Nat.le_refl _) (by simp)))⟩
set_option maxHeartbeats 4000000 in
set_option maxRecDepth 10000 in
theorem does_cart (hk : k.tmod 16 = 3) : Calls Try.prog 25 #[.pointer (some ⟨gl, 0, none⟩), .pointer (some ⟨gr, 0, none⟩), .agg #[.int .u8 k, .int .i64 n, .int .i64 p, .slice A m c]] w fun e w' => (∃ r, e = .returned (.bool r)) ∧ Hid (BtL w' lo gl gr (T + 1)) ∧ Hid (TChg lo bts w w') := by
  obtain ⟨wA, hwA⟩ : ∃ wA, w.alloc (.cells #[.int .u8 k, .int .i64 n, .int .i64 p, .slice A m c] 42) = wA := ⟨_, rfl⟩
  have hgA : Hid (Below w.heap.size w wA) := Lib.hid (by rw [← hwA]; exact alloc_gr _ _)
  obtain ⟨wd, hwd⟩ : ∃ wd, wd = wA.drew := ⟨_, rfl⟩
  have hgd : Hid (Below w.heap.size w wd) := Lib.hid (by rw [hwd]; exact hgA.out.trans ((Below.refl _ _).drew.mono hgA.out.size))
  have hxA : wA.heap[w.heap.size]? = some (.cells #[.int .u8 k, .int .i64 n, .int .i64 p, .slice A m c] 42 (0, 0)) := by rw [← hwA]; exact heap_alloc_new w _
  have hx : Hid (wd.heap[w.heap.size]? = some (.cells #[.int .u8 k, .int .i64 n, .int .i64 p, .slice A m c] 42 (0, 0))) := Lib.hid (by rw [hwd]; exact hxA)
  have q0 := blk_cell (j := 0) hxA rfl
  have q1 := blk_cell (j := 1) hxA rfl
  have q2 := blk_cell (j := 2) hxA rfl
  have q3 := blk_cell (j := 3) hxA rfl
  have hA := Lib.hid (h.out.gr hgA.out)
  have hrA : Hid (Rl wA lo gr C' SS' T) := Lib.hid (hr.out.gr hgA.out (Nat.le_refl _))
  have hloA : Hid (lo ≤ wA.heap.size) := Lib.hid (Nat.le_trans hlo hgA.out.size)
  have hd := Lib.hid (h.out.gr hgd.out)
  have hrd : Hid (Rl wd lo gr C' SS' T) := Lib.hid (hr.out.gr hgd.out (Nat.le_refl _))
  have hlod : Hid (lo ≤ wd.heap.size) := Lib.hid (Nat.le_trans hlo hgd.out.size)
  replace hwA := Lib.hid hwA
  replace hxA := Lib.hid hxA
  have hIs := ris_li lo gr C' SS' T wA hrA n
  by_cases hz : 0 ≤ n ∧ n < C'.length
  · rw [decide_eq_true hz] at hIs
    replace hIs := Lib.hid hIs
    obtain ⟨i, rfl⟩ : ∃ i : Nat, n = i := ⟨n.toNat, by omega⟩
    have ii0 : (0 : Int) ≤ (i : Int) := by omega
    have ii1 : (i : Int) < (C'.length : Int) := by omega
    obtain ⟨b, hb⟩ : ∃ b, C[i]? = some b := ⟨_, List.getElem?_eq_getElem (by omega)⟩
    obtain ⟨b', hb'⟩ : ∃ b', C'[i]? = some b' := ⟨_, List.getElem?_eq_getElem (by omega)⟩
    clear hz
    replace hb := Lib.hid hb
    replace hb' := Lib.hid hb'
    obtain ⟨vc1, vd1, hl0⟩ := hd.out.lb
    replace hl0 := Lib.hid hl0
    obtain ⟨vc, vd, va, DD, LL, hlr, -⟩ := hrd.out.lr
    obtain ⟨Ac, cc, -, -, -, -, rfl, -, -⟩ := hlr.form
    obtain ⟨bc, rfl, -⟩ := hlr.cartAt hb'.out
    replace hlr := Lib.hid hlr
    replace hCC := Lib.hid hCC
    by_cases h3 : p.tmod 3 = 0
    · skip
      go_enter Try.func25, Try.ntmps25
      go_upto_region 1 with (fail)
      rw [hwA.out]
      go_upto_region 14 with (go_at_call 40; go_must (refine hIs.out.mono ?_); rintro e w' ⟨rfl, hee⟩; rw [hee]; clear hee)
      refine wpR_region (TChg lo (ats ++ RT)) 9999 (by kernel_rfl) ?_
      (rw [← hwd]; replace hwd := Lib.hid hwd)
      refine wpR_take (i := 0) (v := ?_) (TChg.road _ _) (some 89) rfl (by kernel_rfl) (by kernel_rfl) (by kernel_rfl) (by kernel_rfl) (by kernel_rfl) (fun _ _ _ h => h) (by kernel_rfl) (fun w' hw' => ?_) ?_
      rotate_left
      · go_simp; with_reducible rfl
      simp only [Act.put, List.setIfInBounds_toArray, List.set_cons_zero, List.set_cons_succ]
      refine wpR_take (i := 1) (v := ?_) (TChg.road _ _) (some 90) rfl (by kernel_rfl) (by kernel_rfl) (by kernel_rfl) (by kernel_rfl) (by kernel_rfl) (fun _ _ _ h => h) (by kernel_rfl) (fun w' hw' => ?_) ?_
      rotate_left
      · go_simp; with_reducible rfl
      simp only [Act.put, List.setIfInBounds_toArray, List.set_cons_zero, List.set_cons_succ]
      refine wpR_take (i := 2) (v := ?_) (TChg.road _ _) (some 91) rfl (by kernel_rfl) (by kernel_rfl) (by kernel_rfl) (by kernel_rfl) (by kernel_rfl) (fun _ _ _ h => h) (by kernel_rfl) (fun w' hw' => ?_) ?_
      rotate_left
      · have q := blk_cell (j := 1) (hw'.block hx.out (by decide)) rfl; go_simp; with_reducible rfl
      simp only [Act.put, List.setIfInBounds_toArray, List.set_cons_zero, List.set_cons_succ]
      refine wpR_take (i := 5) (v := ?_) (TChg.road _ _) (some 94) rfl (by kernel_rfl) (by kernel_rfl) (by kernel_rfl) (by kernel_rfl) (by kernel_rfl) (fun _ _ _ h => h) (by kernel_rfl) (fun w' hw' => ?_) ?_
      rotate_left
      · go_simp; with_reducible rfl
      simp only [Act.put, List.setIfInBounds_toArray, List.set_cons_zero, List.set_cons_succ]
      refine wpR_take (i := 6) (v := ?_) (TChg.road _ _) (some 95) rfl (by kernel_rfl) (by kernel_rfl) (by kernel_rfl) (by kernel_rfl) (by kernel_rfl) (fun _ _ _ h => h) (by kernel_rfl) (fun w' hw' => ?_) ?_
      rotate_left
      · go_simp; with_reducible rfl
      simp only [Act.put, List.setIfInBounds_toArray, List.set_cons_zero, List.set_cons_succ]
      refine wpR_take (i := 7) (v := ?_) (TChg.road _ _) (some 96) rfl (by kernel_rfl) (by kernel_rfl) (by kernel_rfl) (by kernel_rfl) (by kernel_rfl) (fun _ _ _ h => h) (by kernel_rfl) (fun w' hw' => ?_) ?_
      rotate_left
      · go_simp; with_reducible rfl
      simp only [Act.put, List.setIfInBounds_toArray, List.set_cons_zero, List.set_cons_succ]
      refine wpR_take (i := 8) (v := ?_) (TChg.road _ _) (some 97) rfl (by kernel_rfl) (by kernel_rfl) (by kernel_rfl) (by kernel_rfl) (by kernel_rfl) (fun _ _ _ h => h) (by kernel_rfl) (fun w' hw' => ?_) ?_
      rotate_left
      · have q := blk_cell (j := 0) (hw'.block hlr.out.blk (by decide)) rfl; go_simp; with_reducible rfl
      simp only [Act.put, List.setIfInBounds_toArray, List.set_cons_zero, List.set_cons_succ]
      refine wpR_take (i := 9) (v := ?_) (TChg.road _ _) (some 98) rfl (by kernel_rfl) (by kernel_rfl) (by kernel_rfl) (by kernel_rfl) (by kernel_rfl) (fun _ _ _ h => h) (by kernel_rfl) (fun w' hw' => ?_) ?_
      rotate_left
      · go_simp; with_reducible rfl
      simp only [Act.put, List.setIfInBounds_toArray, List.set_cons_zero, List.set_cons_succ]
      refine wpR_take (i := 10) (v := ?_) (TChg.road _ _) (some 99) rfl (by kernel_rfl) (by kernel_rfl) (by kernel_rfl) (by kernel_rfl) (by kernel_rfl) (fun _ _ _ h => h) (by kernel_rfl) (fun w' hw' => ?_) ?_
      rotate_left
      · have q := blk_cell (j := 1) (hw'.block hx.out (by decide)) rfl; go_simp; with_reducible rfl
      simp only [Act.put, List.setIfInBounds_toArray, List.set_cons_zero, List.set_cons_succ]
      refine wpR_take (i := 11) (v := ?_) (TChg.road _ _) (some 100) rfl (by kernel_rfl) (by kernel_rfl) (by kernel_rfl) (by kernel_rfl) (by kernel_rfl) (fun _ _ _ h => h) (by kernel_rfl) (fun w' hw' => ?_) ?_
      rotate_left
      · go_simp; with_reducible rfl
      simp only [Act.put, List.setIfInBounds_toArray, List.set_cons_zero, List.set_cons_succ]
      refine wpR_take (i := 12) (v := ?_) (TChg.road _ _) (some 101) rfl (by kernel_rfl) (by kernel_rfl) (by kernel_rfl) (by kernel_rfl) (by kernel_rfl) (fun _ _ _ h => h) (by kernel_rfl) (fun w' hw' => ?_) ?_
      rotate_left
      · obtain ⟨b0, hb0, e1⟩ := (hlr.out.tchg hw' (by decide)).cartAt hb'.out; injection hb0 with hb0; injection hb0 with hb0; subst hb0; go_simp; with_reducible rfl
      simp only [Act.put, List.setIfInBounds_toArray, List.set_cons_zero, List.set_cons_succ]
      refine wpR_one 3 rfl (by kernel_rfl) (by kernel_rfl) (fun K hK => ?_)
      go_simp
      refine (cart_yes lo gl vc1 vd1 C D calls wd hl0 i b hb.out).mono ?_
      rintro e w' ⟨rfl, hee⟩
      rw [hee]
      clear hee
      refine hK _ _ (fun _ => TChg.refl _ _ _) ?_
      clear hK K
      try simp only [Act.put, List.setIfInBounds_toArray, List.set_cons_zero, List.set_cons_succ]
      refine wpR_one 4 rfl (by kernel_rfl) (by kernel_rfl) (fun K hK => ?_)
      go_simp
      refine (lose_li lo gl C SS D calls wd hd i b hb.out).mono ?_
      rintro e w1 ⟨r1, SS1, rfl, h1, t1⟩
      refine hK _ _ (fun _ => t1.out.mono (Nat.le_refl _) (by simp)) ?_
      clear hK K
      have hr1 : Hid (Rl w1 lo gr C' SS' T) := Lib.hid (hrd.out.keep t1.out (by decide) (Nat.le_refl _))
      try simp only [Act.put, List.setIfInBounds_toArray, List.set_cons_zero, List.set_cons_succ]
      refine wpR_one 13 rfl (by kernel_rfl) (by kernel_rfl) (fun K hK => ?_)
      go_simp
      refine (rlose_li lo gr C' SS' T w1 hr1 i b' hb'.out).mono ?_
      rintro e w2 ⟨r2, SS2, rfl, hr2, t2⟩
      refine hK _ _ (fun _ => t2.out.mono (Nat.le_refl _) (by simp)) ?_
      clear hK K
      have h2 : Hid (Li w2 lo gl C SS1 D calls) := Lib.hid (h1.out.keep t2.out (by decide) (by decide))
      try simp only [Act.put, List.setIfInBounds_toArray, List.set_cons_zero, List.set_cons_succ]
      refine wpR_take (i := 14) (v := ?_) (TChg.road _ _) (some 103) rfl (by kernel_rfl) (by kernel_rfl) (by kernel_rfl) (by kernel_rfl) (by kernel_rfl) (fun _ _ _ h => h) (by kernel_rfl) (fun w' hw' => ?_) ?_
      rotate_left
      · go_simp; with_reducible rfl
      simp only [Act.put, List.setIfInBounds_toArray, List.set_cons_zero, List.set_cons_succ]
      refine wpR_take (i := 15) (v := ?_) (TChg.road _ _) (some 6) rfl (by kernel_rfl) (by kernel_rfl) (by kernel_rfl) (by kernel_rfl) (by kernel_rfl) (fun _ _ _ h => h) (by kernel_rfl) (fun w' hw' => ?_) ?_
      rotate_left
      · go_simp; with_reducible rfl
      simp only [Act.put, List.setIfInBounds_toArray, List.set_cons_zero, List.set_cons_succ]
      refine wpR_done (by kernel_rfl) ?_ _
      go_wp2_with fail
      go_ret
      exact ⟨⟨_, rfl⟩, Lib.hid ⟨C, SS1, D, calls, C', SS2, h2.out, hD.out.more (Nat.le_refl _) (by omega), by omega, hr2.out.gr (Below.refl _ _) (by omega), hCC.out⟩, Lib.hid (((TChg.of_below hgd.out).trans (t1.out.mono (Nat.le_refl _) (by simp))).trans (t2.out.mono (Nat.le_refl _) (by simp)))⟩
    · have h3b : (p.tmod 3 == 0) = false := beq_false_of_ne h3
      replace h3 := Lib.hid h3
      go_enter Try.func25, Try.ntmps25
      go_upto_region 1 with (fail)
      rw [hwA.out]
      go_upto_region 15 with (go_at_call 40; go_must (refine hIs.out.mono ?_); rintro e w' ⟨rfl, hee⟩; rw [hee]; clear hee)
      refine wpR_region (TChg lo (ats ++ RT)) 9999 (by kernel_rfl) ?_
      (rw [← hwd]; replace hwd := Lib.hid hwd)
      refine wpR_take (i := 0) (v := ?_) (TChg.road _ _) (some 104) rfl (by kernel_rfl) (by kernel_rfl) (by kernel_rfl) (by kernel_rfl) (by kernel_rfl) (fun _ _ _ h => h) (by kernel_rfl) (fun w' hw' => ?_) ?_
      rotate_left
      · go_simp; with_reducible rfl
      simp only [Act.put, List.setIfInBounds_toArray, List.set_cons_zero, List.set_cons_succ]
      refine wpR_take (i := 1) (v := ?_) (TChg.road _ _) (some 105) rfl (by kernel_rfl) (by kernel_rfl) (by kernel_rfl) (by kernel_rfl) (by kernel_rfl) (fun _ _ _ h => h) (by kernel_rfl) (fun w' hw' => ?_) ?_
      rotate_left
      · go_simp; with_reducible rfl
      simp only [Act.put, List.setIfInBounds_toArray, List.set_cons_zero, List.set_cons_succ]
      refine wpR_take (i := 2) (v := ?_) (TChg.road _ _) (some 106) rfl (by kernel_rfl) (by kernel_rfl) (by kernel_rfl) (by kernel_rfl) (by kernel_rfl) (fun _ _ _ h => h) (by kernel_rfl) (fun w' hw' => ?_) ?_
      rotate_left
      · have q := blk_cell (j := 1) (hw'.block hx.out (by decide)) rfl; go_simp; with_reducible rfl
      simp only [Act.put, List.setIfInBounds_toArray, List.set_cons_zero, List.set_cons_succ]
      refine wpR_take (i := 4) (v := ?_) (TChg.road _ _) (some 108) rfl (by kernel_rfl) (by kernel_rfl) (by kernel_rfl) (by kernel_rfl) (by kernel_rfl) (fun _ _ _ h => h) (by kernel_rfl) (fun w' hw' => ?_) ?_
      rotate_left
      · go_simp; with_reducible rfl
      simp only [Act.put, List.setIfInBounds_toArray, List.set_cons_zero, List.set_cons_succ]
      refine wpR_take (i := 5) (v := ?_) (TChg.road _ _) (some 109) rfl (by kernel_rfl) (by kernel_rfl) (by kernel_rfl) (by kernel_rfl) (by kernel_rfl) (fun _ _ _ h => h) (by kernel_rfl) (fun w' hw' => ?_) ?_
      rotate_left
      · have q := blk_cell (j := 2) (hw'.block hx.out (by decide)) rfl; go_simp; with_reducible rfl
      simp only [Act.put, List.setIfInBounds_toArray, List.set_cons_zero, List.set_cons_succ]
      refine wpR_take (i := 7) (v := ?_) (TChg.road _ _) (some 111) rfl (by kernel_rfl) (by kernel_rfl) (by kernel_rfl) (by kernel_rfl) (by kernel_rfl) (fun _ _ _ h => h) (by kernel_rfl) (fun w' hw' => ?_) ?_
      rotate_left
      · go_simp; with_reducible rfl
      simp only [Act.put, List.setIfInBounds_toArray, List.set_cons_zero, List.set_cons_succ]
      refine wpR_take (i := 8) (v := ?_) (TChg.road _ _) (some 112) rfl (by kernel_rfl) (by kernel_rfl) (by kernel_rfl) (by kernel_rfl) (by kernel_rfl) (fun _ _ _ h => h) (by kernel_rfl) (fun w' hw' => ?_) ?_
      rotate_left
      · go_simp; with_reducible rfl
      simp only [Act.put, List.setIfInBounds_toArray, List.set_cons_zero, List.set_cons_succ]
      refine wpR_take (i := 9) (v := ?_) (TChg.road _ _) (some 113) rfl (by kernel_rfl) (by kernel_rfl) (by kernel_rfl) (by kernel_rfl) (by kernel_rfl) (fun _ _ _ h => h) (by kernel_rfl) (fun w' hw' => ?_) ?_
      rotate_left
      · go_simp; with_reducible rfl
      simp only [Act.put, List.setIfInBounds_toArray, List.set_cons_zero, List.set_cons_succ]
      refine wpR_take (i := 10) (v := ?_) (TChg.road _ _) (some 114) rfl (by kernel_rfl) (by kernel_rfl) (by kernel_rfl) (by kernel_rfl) (by kernel_rfl) (fun _ _ _ h => h) (by kernel_rfl) (fun w' hw' => ?_) ?_
      rotate_left
      · have q := blk_cell (j := 0) (hw'.block hlr.out.blk (by decide)) rfl; go_simp; with_reducible rfl
      simp only [Act.put, List.setIfInBounds_toArray, List.set_cons_zero, List.set_cons_succ]
      refine wpR_take (i := 11) (v := ?_) (TChg.road _ _) (some 115) rfl (by kernel_rfl) (by kernel_rfl) (by kernel_rfl) (by kernel_rfl) (by kernel_rfl) (fun _ _ _ h => h) (by kernel_rfl) (fun w' hw' => ?_) ?_
      rotate_left
      · go_simp; with_reducible rfl
      simp only [Act.put, List.setIfInBounds_toArray, List.set_cons_zero, List.set_cons_succ]
      refine wpR_take (i := 12) (v := ?_) (TChg.road _ _) (some 116) rfl (by kernel_rfl) (by kernel_rfl) (by kernel_rfl) (by kernel_rfl) (by kernel_rfl) (fun _ _ _ h => h) (by kernel_rfl) (fun w' hw' => ?_) ?_
      rotate_left
      · have q := blk_cell (j := 1) (hw'.block hx.out (by decide)) rfl; go_simp; with_reducible rfl
      simp only [Act.put, List.setIfInBounds_toArray, List.set_cons_zero, List.set_cons_succ]
      refine wpR_take (i := 13) (v := ?_) (TChg.road _ _) (some 117) rfl (by kernel_rfl) (by kernel_rfl) (by kernel_rfl) (by kernel_rfl) (by kernel_rfl) (fun _ _ _ h => h) (by kernel_rfl) (fun w' hw' => ?_) ?_
      rotate_left
      · go_simp; with_reducible rfl
      simp only [Act.put, List.setIfInBounds_toArray, List.set_cons_zero, List.set_cons_succ]
      refine wpR_take (i := 14) (v := ?_) (TChg.road _ _) (some 118) rfl (by kernel_rfl) (by kernel_rfl) (by kernel_rfl) (by kernel_rfl) (by kernel_rfl) (fun _ _ _ h => h) (by kernel_rfl) (fun w' hw' => ?_) ?_
      rotate_left
      · obtain ⟨b0, hb0, e1⟩ := (hlr.out.tchg hw' (by decide)).cartAt hb'.out; injection hb0 with hb0; injection hb0 with hb0; subst hb0; go_simp; with_reducible rfl
      simp only [Act.put, List.setIfInBounds_toArray, List.set_cons_zero, List.set_cons_succ]
      refine wpR_take (i := 15) (v := ?_) (TChg.road _ _) (some 119) rfl (by kernel_rfl) (by kernel_rfl) (by kernel_rfl) (by kernel_rfl) (by kernel_rfl) (fun _ _ _ h => h) (by kernel_rfl) (fun w' hw' => ?_) ?_
      rotate_left
      · go_simp; with_reducible rfl
      simp only [Act.put, List.setIfInBounds_toArray, List.set_cons_zero, List.set_cons_succ]
      refine wpR_take (i := 16) (v := ?_) (TChg.road _ _) (some 120) rfl (by kernel_rfl) (by kernel_rfl) (by kernel_rfl) (by kernel_rfl) (by kernel_rfl) (fun _ _ _ h => h) (by kernel_rfl) (fun w' hw' => ?_) ?_
      rotate_left
      · have q := blk_cell (j := 2) (hw'.block hx.out (by decide)) rfl; go_simp; with_reducible rfl
      simp only [Act.put, List.setIfInBounds_toArray, List.set_cons_zero, List.set_cons_succ]
      refine wpR_one 3 rfl (by kernel_rfl) (by kernel_rfl) (fun K hK => ?_)
      go_simp
      refine (cart_yes lo gl vc1 vd1 C D calls wd hl0 i b hb.out).mono ?_
      rintro e w' ⟨rfl, hee⟩
      rw [hee]
      clear hee
      refine hK _ _ (fun _ => TChg.refl _ _ _) ?_
      clear hK K
      try simp only [Act.put, List.setIfInBounds_toArray, List.set_cons_zero, List.set_cons_succ]
      refine wpR_one 6 rfl (by kernel_rfl) (by kernel_rfl) (fun K hK => ?_)
      go_simp
      refine (rot_li lo gl C SS D calls wd hd i b hb.out p hp).mono ?_
      rintro e w1 ⟨r1, SS1, rfl, h1, t1⟩
      refine hK _ _ (fun _ => t1.out.mono (Nat.le_refl _) (by simp)) ?_
      clear hK K
      have hr1 : Hid (Rl w1 lo gr C' SS' T) := Lib.hid (hrd.out.keep t1.out (by decide) (Nat.le_refl _))
      try simp only [Act.put, List.setIfInBounds_toArray, List.set_cons_zero, List.set_cons_succ]
      refine wpR_one 17 rfl (by kernel_rfl) (by kernel_rfl) (fun K hK => ?_)
      go_simp
      refine (rrot_li lo gr C' SS' T w1 hr1 i b' hb'.out p).mono ?_
      rintro e w2 ⟨r2, SS2, rfl, hr2, t2⟩
      refine hK _ _ (fun _ => t2.out.mono (Nat.le_refl _) (by simp)) ?_
      clear hK K
      have h2 : Hid (Li w2 lo gl C SS1 D calls) := Lib.hid (h1.out.keep t2.out (by decide) (by decide))
      try simp only [Act.put, List.setIfInBounds_toArray, List.set_cons_zero, List.set_cons_succ]
      refine wpR_take (i := 18) (v := ?_) (TChg.road _ _) (some 122) rfl (by kernel_rfl) (by kernel_rfl) (by kernel_rfl) (by kernel_rfl) (by kernel_rfl) (fun _ _ _ h => h) (by kernel_rfl) (fun w' hw' => ?_) ?_
      rotate_left
      · go_simp; with_reducible rfl
      simp only [Act.put, List.setIfInBounds_toArray, List.set_cons_zero, List.set_cons_succ]
      refine wpR_take (i := 19) (v := ?_) (TChg.road _ _) (some 6) rfl (by kernel_rfl) (by kernel_rfl) (by kernel_rfl) (by kernel_rfl) (by kernel_rfl) (fun _ _ _ h => h) (by kernel_rfl) (fun w' hw' => ?_) ?_
      rotate_left
      · go_simp; with_reducible rfl
      simp only [Act.put, List.setIfInBounds_toArray, List.set_cons_zero, List.set_cons_succ]
      refine wpR_done (by kernel_rfl) ?_ _
      go_wp2_with fail
      go_ret
      exact ⟨⟨_, rfl⟩, Lib.hid ⟨C, SS1, D, calls, C', SS2, h2.out, hD.out.more (Nat.le_refl _) (by omega), by omega, hr2.out.gr (Below.refl _ _) (by omega), hCC.out⟩, Lib.hid (((TChg.of_below hgd.out).trans (t1.out.mono (Nat.le_refl _) (by simp))).trans (t2.out.mono (Nat.le_refl _) (by simp)))⟩
  · rw [decide_eq_false hz] at hIs
    replace hIs := Lib.hid hIs
    obtain ⟨vc1, vd1, hl0⟩ := hA.out.lb
    have hca := Lib.hid (cart_no lo gl vc1 vd1 C D calls wA (Lib.hid hl0) n (by omega))
    replace hz := Lib.hid hz
    clear hl0
    go_enter Try.func25, Try.ntmps25
    go_upto_region 1 with (fail)
    rw [hwA.out]
    go_wp2_with (first
      | (go_at_call 40; go_must (refine hIs.out.mono ?_); rintro e w' ⟨rfl, hee⟩; rw [hee]; clear hee)
      | (go_at_call 11; go_must (refine hca.out.mono ?_); rintro e w' ⟨rfl, hee⟩; rw [hee]; clear hee))
    go_ret
    exact ⟨⟨_, rfl⟩, Lib.hid ⟨C, SS, D, calls, C', SS', hA.out, hD.out.more (Nat.le_refl _) (by omega), by omega, hrA.out.gr (Below.refl _ _) (by omega), hCC⟩, Lib.hid (TChg.of_below hgA.out)⟩
end
/-- any act -/
theorem does_any (lo gl gr T : Nat) (hT : T ≤ 100) (w : World) (h : Hid (BtL w lo gl gr T)) (hlo : lo ≤ w.heap.size) (k n p : Int) (hk0 : 0 ≤ k) (hn : I64 n) (hp : I64 p) (A : Option Addr) (m c : Nat) (b : List UInt8) (hb : b.length = m) (hm : m ≤ maxLen) (hrdb : Hid (Rd w lo A b)) : Calls Try.prog 25 #[.pointer (some ⟨gl, 0, none⟩), .pointer (some ⟨gr, 0, none⟩), .agg #[.int .u8 k, .int .i64 n, .int .i64 p, .slice A m c]] w fun e w' => (∃ r, e = .returned (.bool r)) ∧ Hid (BtL w' lo gl gr (T + 1)) ∧ Hid (TChg lo bts w w') := by
  obtain ⟨C, SS, D, calls, C', SS', h1, h2, h3, h4, h5⟩ := h.out
  have e0 : 0 ≤ k.tmod 16 := Int.tmod_nonneg 16 hk0
  have e1 : k.tmod 16 < 16 := Int.tmod_lt_of_pos k (by decide)
  rcases (by omega : k.tmod 16 = 0 ∨ k.tmod 16 = 1 ∨ k.tmod 16 = 2 ∨ k.tmod 16 = 3 ∨ (4 ≤ k.tmod 16 ∧ k.tmod 16 < 8) ∨ (8 ≤ k.tmod 16 ∧ k.tmod 16 < 12) ∨ (12 ≤ k.tmod 16 ∧ k.tmod 16 < 16)) with hk | hk | hk | hk | ⟨hk, hk2⟩ | ⟨hk, hk2⟩ | ⟨hk, hk2⟩
  · exact does_break lo gl gr T hT C SS D calls C' SS' w (Lib.hid h1) (Lib.hid h2) h3 (Lib.hid h4) h5 hlo k n p hn hp A m c hk
  · exact does_mend lo gl gr T hT C SS D calls C' SS' w (Lib.hid h1) (Lib.hid h2) h3 (Lib.hid h4) h5 hlo k n p hn hp A m c hk
  · exact does_add lo gl gr T hT C SS D calls C' SS' w (Lib.hid h1) (Lib.hid h2) h3 (Lib.hid h4) h5 hlo k n p hn hp A m c hk
  · exact does_cart lo gl gr T hT C SS D calls C' SS' w (Lib.hid h1) (Lib.hid h2) h3 (Lib.hid h4) h5 hlo k n p hn hp A m c hk
  · exact does_read lo gl gr T hT C SS D calls C' SS' w (Lib.hid h1) (Lib.hid h2) h3 (Lib.hid h4) h5 hlo k n p hn hp A m c hk hk2
  · exact does_append lo gl gr T hT C SS D calls C' SS' w (Lib.hid h1) (Lib.hid h2) h3 (Lib.hid h4) h5 hlo k n p hn hp A m c b hb hm hrdb hk hk2
  · exact does_go lo gl gr T hT C SS D calls C' SS' w (Lib.hid h1) (Lib.hid h2) h3 (Lib.hid h4) h5 hlo k n p hn hp A m c hk hk2
end Go.Proofs.Ytfjhdcppehfiiaa
