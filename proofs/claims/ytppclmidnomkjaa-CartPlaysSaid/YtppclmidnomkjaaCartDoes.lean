/- The cartridge beside its reference: one act. -/
import Derived.Test.YtppclmidnomkjaaCartRef2
namespace Go.Proofs.Ytppclmidnomkjaa
set_option linter.unusedVariables false
set_option linter.unusedSimpArgs false
open Go Go.RowKit
abbrev AT : List TypeId := [75, 81, 35, 9, 4]
/-- both are in this state -/
def Cb (w : World) (lo g gr : Nat) (s : CS) : Prop := Ct w lo w.heap.size g s ∧ Rt w lo gr s
theorem eqf (a b : Int) (h : a ≠ b) : (a == b) = false := beq_eq_false_iff_ne.mpr h
set_option maxHeartbeats 2000000 in
set_option maxRecDepth 10000 in
theorem does0 (lo g gr : Nat) (s : CS) (d : UInt8) (z : Int) (hz : I64 z) (A : Option Addr) (m c : Nat) (l : List UInt8) (hm : l.length = m) (hmx : m ≤ maxLen) (hq : (U d).tmod 16 = 0) (w : World) (h : Cb w lo g gr s) (hrd : Rd w lo A l) :
    Calls Try.prog 17 #[.pointer (some ⟨g, 0, none⟩), .pointer (some ⟨gr, 0, none⟩), .agg #[.int .u8 (U d), .int .i64 z, .slice A m c]] w fun e w' => e = .returned (.bool true) ∧ ∃ s', Cb w' lo g gr s' ∧ TChg lo AT w w' := by
  have hlw : lo ≤ w.heap.size := h.1.lw
  have hbx : Hid ((w.alloc (.cells #[.int .u8 (U d), .int .i64 z, .slice A m c] 30)).heap[w.heap.size]? = some (.cells #[.int .u8 (U d), .int .i64 z, .slice A m c] 30 (0, 0))) := Lib.hid (heap_alloc_new w _)
  have hct : Hid (Ct (w.alloc (.cells #[.int .u8 (U d), .int .i64 z, .slice A m c] 30)) lo w.heap.size g s) := Lib.hid (h.1.below ((Below.refl _ _).alloc (Nat.le_refl _) _))
  have hrt : Hid (Rt (w.alloc (.cells #[.int .u8 (U d), .int .i64 z, .slice A m c] 30)) lo gr s) := Lib.hid (h.2.below ((Below.refl _ _).alloc (Nat.le_refl _) _))
  have hT0 : Hid (TChg lo AT w (w.alloc (.cells #[.int .u8 (U d), .int .i64 z, .slice A m c] 30))) := Lib.hid (TChg.of_alloc _ _)
  have hr0 : Hid (Rd (w.alloc (.cells #[.int .u8 (U d), .int .i64 z, .slice A m c] 30)) lo A l) := Lib.hid (hrd.alloc hlw _)
  have b0 := blk_cell (j := 0) hbx.out rfl
  have b1 := blk_cell (j := 1) hbx.out rfl
  have b2 := blk_cell (j := 2) hbx.out rfl
  have hws : (w.alloc (.cells #[.int .u8 (U d), .int .i64 z, .slice A m c] 30)).heap.size = w.heap.size + 1 := by simp
  replace h := Lib.hid h
  replace hrd := Lib.hid hrd
  replace hm := Lib.hid hm
  go_enter Try.func17, Try.ntmps17
  go_wp2_with fail
  obtain ⟨N, hN⟩ : ∃ N, w.heap.size = N := ⟨_, rfl⟩
  obtain ⟨w0, hw0⟩ : ∃ w0, w.alloc (.cells #[.int .u8 (U d), .int .i64 z, .slice A m c] 30) = w0 := ⟨_, rfl⟩
  rw [hw0] at hbx hct hrt hT0 hr0 b0 b1 b2 hws ⊢
  rw [hN] at hbx hct b0 b1 b2 hws ⊢
  obtain ⟨wd, hwd⟩ : ∃ wd, wd = w0.drew := ⟨_, rfl⟩
  replace hbx : Hid (wd.heap[N]? = some (.cells #[.int .u8 (U d), .int .i64 z, .slice A m c] 30 (0, 0))) := Lib.hid (by rw [hwd]; exact hbx.out)
  replace hct : Hid (Ct wd lo N g s) := Lib.hid (by rw [hwd]; exact hct.out)
  replace hrt : Hid (Rt wd lo gr s) := Lib.hid (by rw [hwd]; exact hrt.out)
  replace hT0 : Hid (TChg lo AT w wd) := Lib.hid (by rw [hwd]; exact hT0.out)
  clear b0 b1 b2
  refine wpR_region (TChg lo AT) 9999 (by kernel_rfl) ?_
  (rw [← hwd]; replace hwd := Lib.hid hwd)
  refine wpR_take (i := 0) (v := ?_) (TChg.road _ _) (some 20) rfl (by kernel_rfl) (by kernel_rfl) (by kernel_rfl) (by kernel_rfl) (by kernel_rfl) (fun _ _ _ h => h) (by kernel_rfl) (fun w' hw' => ?_) ?_
  rotate_left
  · go_simp; with_reducible rfl
  simp only [Act.put, List.setIfInBounds_toArray, List.set_cons_zero, List.set_cons_succ]
  refine wpR_take (i := 1) (v := ?_) (TChg.road _ _) (some 21) rfl (by kernel_rfl) (by kernel_rfl) (by kernel_rfl) (by kernel_rfl) (by kernel_rfl) (fun _ _ _ h => h) (by kernel_rfl) (fun w' hw' => ?_) ?_
  rotate_left
  · go_simp; with_reducible rfl
  simp only [Act.put, List.setIfInBounds_toArray, List.set_cons_zero, List.set_cons_succ]
  refine wpR_take (i := 2) (v := ?_) (TChg.road _ _) (some 22) rfl (by kernel_rfl) (by kernel_rfl) (by kernel_rfl) (by kernel_rfl) (by kernel_rfl) (fun _ _ _ h => h) (by kernel_rfl) (fun w' hw' => ?_) ?_
  rotate_left
  · have q := blk_cell (j := 1) (hw'.block hbx.out (by decide)) rfl; go_simp; with_reducible rfl
  simp only [Act.put, List.setIfInBounds_toArray, List.set_cons_zero, List.set_cons_succ]
  refine wpR_take (i := 4) (v := ?_) (TChg.road _ _) (some 24) rfl (by kernel_rfl) (by kernel_rfl) (by kernel_rfl) (by kernel_rfl) (by kernel_rfl) (fun _ _ _ h => h) (by kernel_rfl) (fun w' hw' => ?_) ?_
  rotate_left
  · go_simp; with_reducible rfl
  simp only [Act.put, List.setIfInBounds_toArray, List.set_cons_zero, List.set_cons_succ]
  refine wpR_take (i := 5) (v := ?_) (TChg.road _ _) (some 25) rfl (by kernel_rfl) (by kernel_rfl) (by kernel_rfl) (by kernel_rfl) (by kernel_rfl) (fun _ _ _ h => h) (by kernel_rfl) (fun w' hw' => ?_) ?_
  rotate_left
  · go_simp; with_reducible rfl
  simp only [Act.put, List.setIfInBounds_toArray, List.set_cons_zero, List.set_cons_succ]
  refine wpR_take (i := 6) (v := ?_) (TChg.road _ _) (some 26) rfl (by kernel_rfl) (by kernel_rfl) (by kernel_rfl) (by kernel_rfl) (by kernel_rfl) (fun _ _ _ h => h) (by kernel_rfl) (fun w' hw' => ?_) ?_
  rotate_left
  · have q := blk_cell (j := 1) (hw'.block hbx.out (by decide)) rfl; go_simp; with_reducible rfl
  simp only [Act.put, List.setIfInBounds_toArray, List.set_cons_zero, List.set_cons_succ]
  refine wpR_one 3 rfl (by kernel_rfl) (by kernel_rfl) (fun K hK => ?_)
  go_simp
  refine (crot_any lo _ g s z hz _ hct.out).mono ?_
  rintro e w3 ⟨rfl, hct3, hch3⟩
  refine hK _ _ (fun _ => hch3.mono (Nat.le_refl _) (by decide)) ?_
  clear hK K
  have hrt3 := Lib.hid (hrt.out.tchg hch3 (by decide) (by decide) (by decide))
  replace hct3 := Lib.hid hct3
  have hT3 := Lib.hid (hch3.mono (ts' := AT) (Nat.le_refl _) (by decide))
  clear hch3
  try simp only [Act.put, List.setIfInBounds_toArray, List.set_cons_zero, List.set_cons_succ]
  refine wpR_one 7 rfl (by kernel_rfl) (by kernel_rfl) (fun K hK => ?_)
  go_simp
  refine (rrot_any lo gr s z _ hrt3.out).mono ?_
  rintro e w4 ⟨rfl, hrt4, hch4⟩
  refine hK _ _ (fun _ => hch4.mono (Nat.le_refl _) (by decide)) ?_
  clear hK K
  have hct4 := Lib.hid (hct3.out.tchg hch4 (by decide) (by decide) (by decide))
  replace hrt4 := Lib.hid hrt4
  have hT4 := Lib.hid (hch4.mono (ts' := AT) (Nat.le_refl _) (by decide))
  clear hch4
  try simp only [Act.put, List.setIfInBounds_toArray, List.set_cons_zero, List.set_cons_succ]
  refine wpR_take (i := 8) (v := ?_) (TChg.road _ _) (some 28) rfl (by kernel_rfl) (by kernel_rfl) (by kernel_rfl) (by kernel_rfl) (by kernel_rfl) (fun _ _ _ h => h) (by kernel_rfl) (fun w' hw' => ?_) ?_
  rotate_left
  · go_simp; with_reducible rfl
  simp only [Act.put, List.setIfInBounds_toArray, List.set_cons_zero, List.set_cons_succ]
  refine wpR_take (i := 9) (v := ?_) (TChg.road _ _) (some 6) rfl (by kernel_rfl) (by kernel_rfl) (by kernel_rfl) (by kernel_rfl) (by kernel_rfl) (fun _ _ _ h => h) (by kernel_rfl) (fun w' hw' => ?_) ?_
  rotate_left
  · go_simp; with_reducible rfl
  simp only [Act.put, List.setIfInBounds_toArray, List.set_cons_zero, List.set_cons_succ]
  refine wpR_done (by kernel_rfl) ?_ _
  go_wp2
  try rw [beq_self_eq_true]
  go_ret
  exact ⟨rfl, _, ⟨hct4.out.more hct4.out.bounds.2.2 (Nat.le_refl _), hrt4.out⟩, (hT0.out.trans hT3.out).trans hT4.out⟩
set_option maxHeartbeats 2000000 in
set_option maxRecDepth 10000 in
theorem does1 (lo g gr : Nat) (s : CS) (d : UInt8) (z : Int) (hz : I64 z) (A : Option Addr) (m c : Nat) (l : List UInt8) (hm : l.length = m) (hmx : m ≤ maxLen) (hq : (U d).tmod 16 = 1) (w : World) (h : Cb w lo g gr s) (hrd : Rd w lo A l) :
    Calls Try.prog 17 #[.pointer (some ⟨g, 0, none⟩), .pointer (some ⟨gr, 0, none⟩), .agg #[.int .u8 (U d), .int .i64 z, .slice A m c]] w fun e w' => e = .returned (.bool true) ∧ ∃ s', Cb w' lo g gr s' ∧ TChg lo AT w w' := by
  have hlw : lo ≤ w.heap.size := h.1.lw
  have hbx : Hid ((w.alloc (.cells #[.int .u8 (U d), .int .i64 z, .slice A m c] 30)).heap[w.heap.size]? = some (.cells #[.int .u8 (U d), .int .i64 z, .slice A m c] 30 (0, 0))) := Lib.hid (heap_alloc_new w _)
  have hct : Hid (Ct (w.alloc (.cells #[.int .u8 (U d), .int .i64 z, .slice A m c] 30)) lo w.heap.size g s) := Lib.hid (h.1.below ((Below.refl _ _).alloc (Nat.le_refl _) _))
  have hrt : Hid (Rt (w.alloc (.cells #[.int .u8 (U d), .int .i64 z, .slice A m c] 30)) lo gr s) := Lib.hid (h.2.below ((Below.refl _ _).alloc (Nat.le_refl _) _))
  have hT0 : Hid (TChg lo AT w (w.alloc (.cells #[.int .u8 (U d), .int .i64 z, .slice A m c] 30))) := Lib.hid (TChg.of_alloc _ _)
  have hr0 : Hid (Rd (w.alloc (.cells #[.int .u8 (U d), .int .i64 z, .slice A m c] 30)) lo A l) := Lib.hid (hrd.alloc hlw _)
  have b0 := blk_cell (j := 0) hbx.out rfl
  have b1 := blk_cell (j := 1) hbx.out rfl
  have b2 := blk_cell (j := 2) hbx.out rfl
  have hws : (w.alloc (.cells #[.int .u8 (U d), .int .i64 z, .slice A m c] 30)).heap.size = w.heap.size + 1 := by simp
  replace h := Lib.hid h
  replace hrd := Lib.hid hrd
  replace hm := Lib.hid hm
  go_enter Try.func17, Try.ntmps17
  go_wp2_with fail
  obtain ⟨N, hN⟩ : ∃ N, w.heap.size = N := ⟨_, rfl⟩
  obtain ⟨w0, hw0⟩ : ∃ w0, w.alloc (.cells #[.int .u8 (U d), .int .i64 z, .slice A m c] 30) = w0 := ⟨_, rfl⟩
  rw [hw0] at hbx hct hrt hT0 hr0 b0 b1 b2 hws ⊢
  rw [hN] at hbx hct b0 b1 b2 hws ⊢
  obtain ⟨wd, hwd⟩ : ∃ wd, wd = w0.drew := ⟨_, rfl⟩
  replace hbx : Hid (wd.heap[N]? = some (.cells #[.int .u8 (U d), .int .i64 z, .slice A m c] 30 (0, 0))) := Lib.hid (by rw [hwd]; exact hbx.out)
  replace hct : Hid (Ct wd lo N g s) := Lib.hid (by rw [hwd]; exact hct.out)
  replace hrt : Hid (Rt wd lo gr s) := Lib.hid (by rw [hwd]; exact hrt.out)
  replace hT0 : Hid (TChg lo AT w wd) := Lib.hid (by rw [hwd]; exact hT0.out)
  clear b0 b1 b2
  refine wpR_region (TChg lo AT) 9999 (by kernel_rfl) ?_
  (rw [← hwd]; replace hwd := Lib.hid hwd)
  refine wpR_take (i := 0) (v := ?_) (TChg.road _ _) (some 31) rfl (by kernel_rfl) (by kernel_rfl) (by kernel_rfl) (by kernel_rfl) (by kernel_rfl) (fun _ _ _ h => h) (by kernel_rfl) (fun w' hw' => ?_) ?_
  rotate_left
  · go_simp; with_reducible rfl
  simp only [Act.put, List.setIfInBounds_toArray, List.set_cons_zero, List.set_cons_succ]
  refine wpR_take (i := 1) (v := ?_) (TChg.road _ _) (some 32) rfl (by kernel_rfl) (by kernel_rfl) (by kernel_rfl) (by kernel_rfl) (by kernel_rfl) (fun _ _ _ h => h) (by kernel_rfl) (fun w' hw' => ?_) ?_
  rotate_left
  · go_simp; with_reducible rfl
  simp only [Act.put, List.setIfInBounds_toArray, List.set_cons_zero, List.set_cons_succ]
  refine wpR_take (i := 2) (v := ?_) (TChg.road _ _) (some 33) rfl (by kernel_rfl) (by kernel_rfl) (by kernel_rfl) (by kernel_rfl) (by kernel_rfl) (fun _ _ _ h => h) (by kernel_rfl) (fun w' hw' => ?_) ?_
  rotate_left
  · have q := blk_cell (j := 1) (hw'.block hbx.out (by decide)) rfl; go_simp; with_reducible rfl
  simp only [Act.put, List.setIfInBounds_toArray, List.set_cons_zero, List.set_cons_succ]
  refine wpR_take (i := 4) (v := ?_) (TChg.road _ _) (some 35) rfl (by kernel_rfl) (by kernel_rfl) (by kernel_rfl) (by kernel_rfl) (by kernel_rfl) (fun _ _ _ h => h) (by kernel_rfl) (fun w' hw' => ?_) ?_
  rotate_left
  · go_simp; with_reducible rfl
  simp only [Act.put, List.setIfInBounds_toArray, List.set_cons_zero, List.set_cons_succ]
  refine wpR_take (i := 5) (v := ?_) (TChg.road _ _) (some 36) rfl (by kernel_rfl) (by kernel_rfl) (by kernel_rfl) (by kernel_rfl) (by kernel_rfl) (fun _ _ _ h => h) (by kernel_rfl) (fun w' hw' => ?_) ?_
  rotate_left
  · go_simp; with_reducible rfl
  simp only [Act.put, List.setIfInBounds_toArray, List.set_cons_zero, List.set_cons_succ]
  refine wpR_take (i := 6) (v := ?_) (TChg.road _ _) (some 37) rfl (by kernel_rfl) (by kernel_rfl) (by kernel_rfl) (by kernel_rfl) (by kernel_rfl) (fun _ _ _ h => h) (by kernel_rfl) (fun w' hw' => ?_) ?_
  rotate_left
  · have q := blk_cell (j := 1) (hw'.block hbx.out (by decide)) rfl; go_simp; with_reducible rfl
  simp only [Act.put, List.setIfInBounds_toArray, List.set_cons_zero, List.set_cons_succ]
  refine wpR_one 3 rfl (by kernel_rfl) (by kernel_rfl) (fun K hK => ?_)
  go_simp
  refine (ctear_any lo _ g s z hz _ hct.out).mono ?_
  rintro e w3 ⟨rfl, hct3, hch3⟩
  refine hK _ _ (fun _ => hch3.mono (Nat.le_refl _) (by decide)) ?_
  clear hK K
  have hrt3 := Lib.hid (hrt.out.tchg hch3 (by decide) (by decide) (by decide))
  replace hct3 := Lib.hid hct3
  have hT3 := Lib.hid (hch3.mono (ts' := AT) (Nat.le_refl _) (by decide))
  clear hch3
  try simp only [Act.put, List.setIfInBounds_toArray, List.set_cons_zero, List.set_cons_succ]
  refine wpR_one 7 rfl (by kernel_rfl) (by kernel_rfl) (fun K hK => ?_)
  go_simp
  refine (rtear_any lo gr s z hz _ hrt3.out).mono ?_
  rintro e w4 ⟨rfl, hrt4, hch4⟩
  refine hK _ _ (fun _ => hch4.mono (Nat.le_refl _) (by decide)) ?_
  clear hK K
  have hct4 := Lib.hid (hct3.out.tchg hch4 (by decide) (by decide) (by decide))
  replace hrt4 := Lib.hid hrt4
  have hT4 := Lib.hid (hch4.mono (ts' := AT) (Nat.le_refl _) (by decide))
  clear hch4
  try simp only [Act.put, List.setIfInBounds_toArray, List.set_cons_zero, List.set_cons_succ]
  refine wpR_take (i := 8) (v := ?_) (TChg.road _ _) (some 39) rfl (by kernel_rfl) (by kernel_rfl) (by kernel_rfl) (by kernel_rfl) (by kernel_rfl) (fun _ _ _ h => h) (by kernel_rfl) (fun w' hw' => ?_) ?_
  rotate_left
  · go_simp; with_reducible rfl
  simp only [Act.put, List.setIfInBounds_toArray, List.set_cons_zero, List.set_cons_succ]
  refine wpR_take (i := 9) (v := ?_) (TChg.road _ _) (some 6) rfl (by kernel_rfl) (by kernel_rfl) (by kernel_rfl) (by kernel_rfl) (by kernel_rfl) (fun _ _ _ h => h) (by kernel_rfl) (fun w' hw' => ?_) ?_
  rotate_left
  · go_simp; with_reducible rfl
  simp only [Act.put, List.setIfInBounds_toArray, List.set_cons_zero, List.set_cons_succ]
  refine wpR_done (by kernel_rfl) ?_ _
  go_wp2
  try rw [beq_self_eq_true]
  go_ret
  exact ⟨rfl, _, ⟨hct4.out.more hct4.out.bounds.2.2 (Nat.le_refl _), hrt4.out⟩, (hT0.out.trans hT3.out).trans hT4.out⟩
set_option maxHeartbeats 2000000 in
set_option maxRecDepth 10000 in
theorem does2a (lo g gr : Nat) (s : CS) (d : UInt8) (z : Int) (hz : I64 z) (A : Option Addr) (m c : Nat) (l : List UInt8) (hm : l.length = m) (hmx : m ≤ maxLen) (hq : (U d).tmod 16 = 2) (h5 : (z.tmod 5 == 0) = false) (h5b : (z.tmod 5 != 0) = true) (w : World) (h : Cb w lo g gr s) (hrd : Rd w lo A l) :
    Calls Try.prog 17 #[.pointer (some ⟨g, 0, none⟩), .pointer (some ⟨gr, 0, none⟩), .agg #[.int .u8 (U d), .int .i64 z, .slice A m c]] w fun e w' => e = .returned (.bool true) ∧ ∃ s', Cb w' lo g gr s' ∧ TChg lo AT w w' := by
  have hlw : lo ≤ w.heap.size := h.1.lw
  have hbx : Hid ((w.alloc (.cells #[.int .u8 (U d), .int .i64 z, .slice A m c] 30)).heap[w.heap.size]? = some (.cells #[.int .u8 (U d), .int .i64 z, .slice A m c] 30 (0, 0))) := Lib.hid (heap_alloc_new w _)
  have hct : Hid (Ct (w.alloc (.cells #[.int .u8 (U d), .int .i64 z, .slice A m c] 30)) lo w.heap.size g s) := Lib.hid (h.1.below ((Below.refl _ _).alloc (Nat.le_refl _) _))
  have hrt : Hid (Rt (w.alloc (.cells #[.int .u8 (U d), .int .i64 z, .slice A m c] 30)) lo gr s) := Lib.hid (h.2.below ((Below.refl _ _).alloc (Nat.le_refl _) _))
  have hT0 : Hid (TChg lo AT w (w.alloc (.cells #[.int .u8 (U d), .int .i64 z, .slice A m c] 30))) := Lib.hid (TChg.of_alloc _ _)
  have hr0 : Hid (Rd (w.alloc (.cells #[.int .u8 (U d), .int .i64 z, .slice A m c] 30)) lo A l) := Lib.hid (hrd.alloc hlw _)
  have b0 := blk_cell (j := 0) hbx.out rfl
  have b1 := blk_cell (j := 1) hbx.out rfl
  have b2 := blk_cell (j := 2) hbx.out rfl
  have hws : (w.alloc (.cells #[.int .u8 (U d), .int .i64 z, .slice A m c] 30)).heap.size = w.heap.size + 1 := by simp
  replace h := Lib.hid h
  replace hrd := Lib.hid hrd
  replace hm := Lib.hid hm
  go_enter Try.func17, Try.ntmps17
  go_wp2_with fail
  obtain ⟨N, hN⟩ : ∃ N, w.heap.size = N := ⟨_, rfl⟩
  obtain ⟨w0, hw0⟩ : ∃ w0, w.alloc (.cells #[.int .u8 (U d), .int .i64 z, .slice A m c] 30) = w0 := ⟨_, rfl⟩
  rw [hw0] at hbx hct hrt hT0 hr0 b0 b1 b2 hws ⊢
  rw [hN] at hbx hct b0 b1 b2 hws ⊢
  obtain ⟨wd, hwd⟩ : ∃ wd, wd = w0.drew := ⟨_, rfl⟩
  replace hbx : Hid (wd.heap[N]? = some (.cells #[.int .u8 (U d), .int .i64 z, .slice A m c] 30 (0, 0))) := Lib.hid (by rw [hwd]; exact hbx.out)
  replace hct : Hid (Ct wd lo N g s) := Lib.hid (by rw [hwd]; exact hct.out)
  replace hrt : Hid (Rt wd lo gr s) := Lib.hid (by rw [hwd]; exact hrt.out)
  replace hT0 : Hid (TChg lo AT w wd) := Lib.hid (by rw [hwd]; exact hT0.out)
  have hrb := hrt
  obtain ⟨_, _, _, _, hrb, -⟩ := hrt.out.open_
  replace hrb := Lib.hid hrb
  clear b0 b1 b2
  refine wpR_region (TChg lo []) 9999 (by kernel_rfl) ?_
  (rw [← hwd]; replace hwd := Lib.hid hwd)
  refine wpR_take (i := 0) (v := ?_) (TChg.road _ _) (some 46) rfl (by kernel_rfl) (by kernel_rfl) (by kernel_rfl) (by kernel_rfl) (by kernel_rfl) (fun _ _ _ h => h) (by kernel_rfl) (fun w' hw' => ?_) ?_
  rotate_left
  · go_simp; with_reducible rfl
  simp only [Act.put, List.setIfInBounds_toArray, List.set_cons_zero, List.set_cons_succ]
  refine wpR_take (i := 2) (v := ?_) (TChg.road _ _) (some 48) rfl (by kernel_rfl) (by kernel_rfl) (by kernel_rfl) (by kernel_rfl) (by kernel_rfl) (fun _ _ _ h => h) (by kernel_rfl) (fun w' hw' => ?_) ?_
  rotate_left
  · go_simp; with_reducible rfl
  simp only [Act.put, List.setIfInBounds_toArray, List.set_cons_zero, List.set_cons_succ]
  refine wpR_take (i := 3) (v := ?_) (TChg.road _ _) (some 49) rfl (by kernel_rfl) (by kernel_rfl) (by kernel_rfl) (by kernel_rfl) (by kernel_rfl) (fun _ _ _ h => h) (by kernel_rfl) (fun w' hw' => ?_) ?_
  rotate_left
  · go_simp; with_reducible rfl
  simp only [Act.put, List.setIfInBounds_toArray, List.set_cons_zero, List.set_cons_succ]
  refine wpR_take (i := 4) (v := ?_) (TChg.road _ _) (some 50) rfl (by kernel_rfl) (by kernel_rfl) (by kernel_rfl) (by kernel_rfl) (by kernel_rfl) (fun _ _ _ h => h) (by kernel_rfl) (fun w' hw' => ?_) ?_
  rotate_left
  · go_simp; with_reducible rfl
  simp only [Act.put, List.setIfInBounds_toArray, List.set_cons_zero, List.set_cons_succ]
  refine wpR_take (i := 5) (v := ?_) (TChg.road _ _) (some 51) rfl (by kernel_rfl) (by kernel_rfl) (by kernel_rfl) (by kernel_rfl) (by kernel_rfl) (fun _ _ _ h => h) (by kernel_rfl) (fun w' hw' => ?_) ?_
  rotate_left
  · have q := blk_cell (j := 3) (hw'.block hrb.out (by decide)) rfl; go_simp; with_reducible rfl
  simp only [Act.put, List.setIfInBounds_toArray, List.set_cons_zero, List.set_cons_succ]
  refine wpR_one 1 rfl (by kernel_rfl) (by kernel_rfl) (fun K hK => ?_)
  go_simp
  refine (clost_any lo _ g s _ hct.out).mono ?_
  rintro e w3 ⟨rfl, rfl⟩
  refine hK _ _ (fun _ => TChg.refl _ _ _) ?_
  clear hK K
  try simp only [Act.put, List.setIfInBounds_toArray, List.set_cons_zero, List.set_cons_succ]
  refine wpR_take (i := 6) (v := ?_) (TChg.road _ _) (some 52) rfl (by kernel_rfl) (by kernel_rfl) (by kernel_rfl) (by kernel_rfl) (by kernel_rfl) (fun _ _ _ h => h) (by kernel_rfl) (fun w' hw' => ?_) ?_
  rotate_left
  · go_simp; with_reducible rfl
  simp only [Act.put, List.setIfInBounds_toArray, List.set_cons_zero, List.set_cons_succ]
  refine wpR_take (i := 7) (v := ?_) (TChg.road _ _) (some 6) rfl (by kernel_rfl) (by kernel_rfl) (by kernel_rfl) (by kernel_rfl) (by kernel_rfl) (fun _ _ _ h => h) (by kernel_rfl) (fun w' hw' => ?_) ?_
  rotate_left
  · go_simp; with_reducible rfl
  simp only [Act.put, List.setIfInBounds_toArray, List.set_cons_zero, List.set_cons_succ]
  refine wpR_done (by kernel_rfl) ?_ _
  go_wp2
  go_ret
  exact ⟨rfl, _, ⟨hct.out.more hct.out.bounds.2.2 (Nat.le_refl _), hrt.out⟩, hT0.out⟩
set_option maxHeartbeats 2000000 in
set_option maxRecDepth 10000 in
theorem does2b (lo g gr : Nat) (s : CS) (d : UInt8) (z : Int) (hz : I64 z) (A : Option Addr) (m c : Nat) (l : List UInt8) (hm : l.length = m) (hmx : m ≤ maxLen) (hq : (U d).tmod 16 = 2) (h5 : z.tmod 5 = 0) (w : World) (h : Cb w lo g gr s) (hrd : Rd w lo A l) :
    Calls Try.prog 17 #[.pointer (some ⟨g, 0, none⟩), .pointer (some ⟨gr, 0, none⟩), .agg #[.int .u8 (U d), .int .i64 z, .slice A m c]] w fun e w' => e = .returned (.bool true) ∧ ∃ s', Cb w' lo g gr s' ∧ TChg lo AT w w' := by
  have hlw : lo ≤ w.heap.size := h.1.lw
  have hbx : Hid ((w.alloc (.cells #[.int .u8 (U d), .int .i64 z, .slice A m c] 30)).heap[w.heap.size]? = some (.cells #[.int .u8 (U d), .int .i64 z, .slice A m c] 30 (0, 0))) := Lib.hid (heap_alloc_new w _)
  have hct : Hid (Ct (w.alloc (.cells #[.int .u8 (U d), .int .i64 z, .slice A m c] 30)) lo w.heap.size g s) := Lib.hid (h.1.below ((Below.refl _ _).alloc (Nat.le_refl _) _))
  have hrt : Hid (Rt (w.alloc (.cells #[.int .u8 (U d), .int .i64 z, .slice A m c] 30)) lo gr s) := Lib.hid (h.2.below ((Below.refl _ _).alloc (Nat.le_refl _) _))
  have hT0 : Hid (TChg lo AT w (w.alloc (.cells #[.int .u8 (U d), .int .i64 z, .slice A m c] 30))) := Lib.hid (TChg.of_alloc _ _)
  have hr0 : Hid (Rd (w.alloc (.cells #[.int .u8 (U d), .int .i64 z, .slice A m c] 30)) lo A l) := Lib.hid (hrd.alloc hlw _)
  have b0 := blk_cell (j := 0) hbx.out rfl
  have b1 := blk_cell (j := 1) hbx.out rfl
  have b2 := blk_cell (j := 2) hbx.out rfl
  have hws : (w.alloc (.cells #[.int .u8 (U d), .int .i64 z, .slice A m c] 30)).heap.size = w.heap.size + 1 := by simp
  replace h := Lib.hid h
  replace hrd := Lib.hid hrd
  replace hm := Lib.hid hm
  go_enter Try.func17, Try.ntmps17
  go_wp2_with fail
  obtain ⟨N, hN⟩ : ∃ N, w.heap.size = N := ⟨_, rfl⟩
  obtain ⟨w0, hw0⟩ : ∃ w0, w.alloc (.cells #[.int .u8 (U d), .int .i64 z, .slice A m c] 30) = w0 := ⟨_, rfl⟩
  rw [hw0] at hbx hct hrt hT0 hr0 b0 b1 b2 hws ⊢
  rw [hN] at hbx hct b0 b1 b2 hws ⊢
  clear hr0
  refine (close_any lo _ g s _ hct.out).mono ?_
  rintro e w3 ⟨rfl, hct3, hch3⟩
  have hrt3 := Lib.hid (hrt.out.tchg hch3 (by decide) (by decide) (by decide))
  replace hct3 := Lib.hid hct3
  have hT3 := Lib.hid (hT0.out.trans (hch3.mono (ts' := AT) (Nat.le_refl _) (by decide)))
  clear hch3 hct hrt hT0
  clear hbx b0 b1 b2
  go_wp2_with fail
  refine (rlose_any lo gr s _ hrt3.out).mono ?_
  rintro e w4 ⟨rfl, hrt4, hch4⟩
  have hct4 := Lib.hid (hct3.out.tchg hch4 (by decide) (by decide) (by decide))
  replace hrt4 := Lib.hid hrt4
  have hT4 := Lib.hid (hT3.out.trans (hch4.mono (ts' := AT) (Nat.le_refl _) (by decide)))
  clear hch4
  go_wp2
  go_ret
  exact ⟨rfl, _, ⟨hct4.out.more hct4.out.bounds.2.2 (Nat.le_refl _), hrt4.out⟩, hT4.out⟩
set_option maxHeartbeats 2000000 in
set_option maxRecDepth 10000 in
theorem does3 (lo g gr : Nat) (s : CS) (d : UInt8) (z : Int) (hz : I64 z) (A : Option Addr) (m c : Nat) (l : List UInt8) (hm : l.length = m) (hmx : m ≤ maxLen) (hq : (U d).tmod 16 = 3) (w : World) (h : Cb w lo g gr s) (hrd : Rd w lo A l) :
    Calls Try.prog 17 #[.pointer (some ⟨g, 0, none⟩), .pointer (some ⟨gr, 0, none⟩), .agg #[.int .u8 (U d), .int .i64 z, .slice A m c]] w fun e w' => e = .returned (.bool true) ∧ ∃ s', Cb w' lo g gr s' ∧ TChg lo AT w w' := by
  have hlw : lo ≤ w.heap.size := h.1.lw
  have hbx : Hid ((w.alloc (.cells #[.int .u8 (U d), .int .i64 z, .slice A m c] 30)).heap[w.heap.size]? = some (.cells #[.int .u8 (U d), .int .i64 z, .slice A m c] 30 (0, 0))) := Lib.hid (heap_alloc_new w _)
  have hct : Hid (Ct (w.alloc (.cells #[.int .u8 (U d), .int .i64 z, .slice A m c] 30)) lo w.heap.size g s) := Lib.hid (h.1.below ((Below.refl _ _).alloc (Nat.le_refl _) _))
  have hrt : Hid (Rt (w.alloc (.cells #[.int .u8 (U d), .int .i64 z, .slice A m c] 30)) lo gr s) := Lib.hid (h.2.below ((Below.refl _ _).alloc (Nat.le_refl _) _))
  have hT0 : Hid (TChg lo AT w (w.alloc (.cells #[.int .u8 (U d), .int .i64 z, .slice A m c] 30))) := Lib.hid (TChg.of_alloc _ _)
  have hr0 : Hid (Rd (w.alloc (.cells #[.int .u8 (U d), .int .i64 z, .slice A m c] 30)) lo A l) := Lib.hid (hrd.alloc hlw _)
  have b0 := blk_cell (j := 0) hbx.out rfl
  have b1 := blk_cell (j := 1) hbx.out rfl
  have b2 := blk_cell (j := 2) hbx.out rfl
  have hws : (w.alloc (.cells #[.int .u8 (U d), .int .i64 z, .slice A m c] 30)).heap.size = w.heap.size + 1 := by simp
  replace h := Lib.hid h
  replace hrd := Lib.hid hrd
  replace hm := Lib.hid hm
  go_enter Try.func17, Try.ntmps17
  go_wp2_with fail
  obtain ⟨N, hN⟩ : ∃ N, w.heap.size = N := ⟨_, rfl⟩
  obtain ⟨w0, hw0⟩ : ∃ w0, w.alloc (.cells #[.int .u8 (U d), .int .i64 z, .slice A m c] 30) = w0 := ⟨_, rfl⟩
  rw [hw0] at hbx hct hrt hT0 hr0 b0 b1 b2 hws ⊢
  rw [hN] at hbx hct b0 b1 b2 hws ⊢
  refine (cread_any lo _ g s z hz _ hct.out).mono ?_
  obtain ⟨res, hres⟩ : ∃ res, s.read z = res := ⟨_, rfl⟩
  rw [hres]
  rintro e w3 ⟨v3, rfl, ho3, hbb⟩
  have hrt3 := Lib.hid (hrt.out.below hbb)
  have hct3 := Lib.hid (hct.out.below hbb)
  have hT3 := Lib.hid (hT0.out.trans (TChg.of_below hbb))
  have hbx3 := blk_below hbx.out hbb
  replace b1 := blk_cell (j := 1) hbx3 rfl
  obtain ⟨A3, c3, rfl, -, -, hR3, -⟩ := ho3.form
  have hcv := run_str_at (n := res.1.length) c3 hR3 rfl
  replace hbx3 := Lib.hid hbx3
  replace hres := Lib.hid hres
  replace hR3 := Lib.hid hR3
  clear hbb hct hrt hT0 hbx b0 b2 ho3 hr0
  go_wp2_with fail
  refine (rread_any lo gr s z _ hrt3.out).mono ?_
  rw [hres.out]
  rintro e w4 ⟨rfl, rfl⟩
  go_wp2
  go_ret
  exact ⟨rfl, _, ⟨hct3.out.more hct3.out.bounds.2.2 (Nat.le_refl _), hrt3.out⟩, hT3.out⟩
set_option maxHeartbeats 2000000 in
set_option maxRecDepth 10000 in
theorem does4 (lo g gr : Nat) (s : CS) (d : UInt8) (z : Int) (hz : I64 z) (A : Option Addr) (m c : Nat) (l : List UInt8) (hm : l.length = m) (hmx : m ≤ maxLen) (hq : (U d).tmod 16 = 4) (w : World) (h : Cb w lo g gr s) (hrd : Rd w lo A l) :
    Calls Try.prog 17 #[.pointer (some ⟨g, 0, none⟩), .pointer (some ⟨gr, 0, none⟩), .agg #[.int .u8 (U d), .int .i64 z, .slice A m c]] w fun e w' => e = .returned (.bool true) ∧ ∃ s', Cb w' lo g gr s' ∧ TChg lo AT w w' := by
  have hlw : lo ≤ w.heap.size := h.1.lw
  have hbx : Hid ((w.alloc (.cells #[.int .u8 (U d), .int .i64 z, .slice A m c] 30)).heap[w.heap.size]? = some (.cells #[.int .u8 (U d), .int .i64 z, .slice A m c] 30 (0, 0))) := Lib.hid (heap_alloc_new w _)
  have hct : Hid (Ct (w.alloc (.cells #[.int .u8 (U d), .int .i64 z, .slice A m c] 30)) lo w.heap.size g s) := Lib.hid (h.1.below ((Below.refl _ _).alloc (Nat.le_refl _) _))
  have hrt : Hid (Rt (w.alloc (.cells #[.int .u8 (U d), .int .i64 z, .slice A m c] 30)) lo gr s) := Lib.hid (h.2.below ((Below.refl _ _).alloc (Nat.le_refl _) _))
  have hT0 : Hid (TChg lo AT w (w.alloc (.cells #[.int .u8 (U d), .int .i64 z, .slice A m c] 30))) := Lib.hid (TChg.of_alloc _ _)
  have hr0 : Hid (Rd (w.alloc (.cells #[.int .u8 (U d), .int .i64 z, .slice A m c] 30)) lo A l) := Lib.hid (hrd.alloc hlw _)
  have b0 := blk_cell (j := 0) hbx.out rfl
  have b1 := blk_cell (j := 1) hbx.out rfl
  have b2 := blk_cell (j := 2) hbx.out rfl
  have hws : (w.alloc (.cells #[.int .u8 (U d), .int .i64 z, .slice A m c] 30)).heap.size = w.heap.size + 1 := by simp
  replace h := Lib.hid h
  replace hrd := Lib.hid hrd
  replace hm := Lib.hid hm
  go_enter Try.func17, Try.ntmps17
  go_wp2_with fail
  obtain ⟨N, hN⟩ : ∃ N, w.heap.size = N := ⟨_, rfl⟩
  obtain ⟨w0, hw0⟩ : ∃ w0, w.alloc (.cells #[.int .u8 (U d), .int .i64 z, .slice A m c] 30) = w0 := ⟨_, rfl⟩
  rw [hw0] at hbx hct hrt hT0 hr0 b0 b1 b2 hws ⊢
  rw [hN] at hbx hct b0 b1 b2 hws ⊢
  refine (cread_any lo _ g s z hz _ hct.out).mono ?_
  obtain ⟨res, hres⟩ : ∃ res, s.read z = res := ⟨_, rfl⟩
  rw [hres]
  rintro e w3 ⟨v3, rfl, ho3, hbb⟩
  have hrt3 := Lib.hid (hrt.out.below hbb)
  have hct3 := Lib.hid (hct.out.below hbb)
  have hT3 := Lib.hid (hT0.out.trans (TChg.of_below hbb))
  have hbx3 := blk_below hbx.out hbb
  replace b1 := blk_cell (j := 1) hbx3 rfl
  obtain ⟨A3, c3, rfl, -, -, hR3, -⟩ := ho3.form
  have hcv := run_str_at (n := res.1.length) c3 hR3 rfl
  replace hbx3 := Lib.hid hbx3
  replace hres := Lib.hid hres
  replace hR3 := Lib.hid hR3
  clear hbb hct hrt hT0 hbx b0 b2 ho3 hr0
  go_wp2_with fail
  refine (rread_any lo gr s z _ hrt3.out).mono ?_
  rw [hres.out]
  rintro e w4 ⟨rfl, rfl⟩
  go_wp2
  go_ret
  exact ⟨rfl, _, ⟨hct3.out.more hct3.out.bounds.2.2 (Nat.le_refl _), hrt3.out⟩, hT3.out⟩
set_option maxHeartbeats 2000000 in
set_option maxRecDepth 10000 in
theorem does5 (lo g gr : Nat) (s : CS) (d : UInt8) (z : Int) (hz : I64 z) (A : Option Addr) (m c : Nat) (l : List UInt8) (hm : l.length = m) (hmx : m ≤ maxLen) (hq : (U d).tmod 16 = 5) (w : World) (h : Cb w lo g gr s) (hrd : Rd w lo A l) :
    Calls Try.prog 17 #[.pointer (some ⟨g, 0, none⟩), .pointer (some ⟨gr, 0, none⟩), .agg #[.int .u8 (U d), .int .i64 z, .slice A m c]] w fun e w' => e = .returned (.bool true) ∧ ∃ s', Cb w' lo g gr s' ∧ TChg lo AT w w' := by
  have hlw : lo ≤ w.heap.size := h.1.lw
  have hbx : Hid ((w.alloc (.cells #[.int .u8 (U d), .int .i64 z, .slice A m c] 30)).heap[w.heap.size]? = some (.cells #[.int .u8 (U d), .int .i64 z, .slice A m c] 30 (0, 0))) := Lib.hid (heap_alloc_new w _)
  have hct : Hid (Ct (w.alloc (.cells #[.int .u8 (U d), .int .i64 z, .slice A m c] 30)) lo w.heap.size g s) := Lib.hid (h.1.below ((Below.refl _ _).alloc (Nat.le_refl _) _))
  have hrt : Hid (Rt (w.alloc (.cells #[.int .u8 (U d), .int .i64 z, .slice A m c] 30)) lo gr s) := Lib.hid (h.2.below ((Below.refl _ _).alloc (Nat.le_refl _) _))
  have hT0 : Hid (TChg lo AT w (w.alloc (.cells #[.int .u8 (U d), .int .i64 z, .slice A m c] 30))) := Lib.hid (TChg.of_alloc _ _)
  have hr0 : Hid (Rd (w.alloc (.cells #[.int .u8 (U d), .int .i64 z, .slice A m c] 30)) lo A l) := Lib.hid (hrd.alloc hlw _)
  have b0 := blk_cell (j := 0) hbx.out rfl
  have b1 := blk_cell (j := 1) hbx.out rfl
  have b2 := blk_cell (j := 2) hbx.out rfl
  have hws : (w.alloc (.cells #[.int .u8 (U d), .int .i64 z, .slice A m c] 30)).heap.size = w.heap.size + 1 := by simp
  replace h := Lib.hid h
  replace hrd := Lib.hid hrd
  replace hm := Lib.hid hm
  go_enter Try.func17, Try.ntmps17
  go_wp2_with fail
  obtain ⟨N, hN⟩ : ∃ N, w.heap.size = N := ⟨_, rfl⟩
  obtain ⟨w0, hw0⟩ : ∃ w0, w.alloc (.cells #[.int .u8 (U d), .int .i64 z, .slice A m c] 30) = w0 := ⟨_, rfl⟩
  rw [hw0] at hbx hct hrt hT0 hr0 b0 b1 b2 hws ⊢
  rw [hN] at hbx hct b0 b1 b2 hws ⊢
  refine (cread_any lo _ g s z hz _ hct.out).mono ?_
  obtain ⟨res, hres⟩ : ∃ res, s.read z = res := ⟨_, rfl⟩
  rw [hres]
  rintro e w3 ⟨v3, rfl, ho3, hbb⟩
  have hrt3 := Lib.hid (hrt.out.below hbb)
  have hct3 := Lib.hid (hct.out.below hbb)
  have hT3 := Lib.hid (hT0.out.trans (TChg.of_below hbb))
  have hbx3 := blk_below hbx.out hbb
  replace b1 := blk_cell (j := 1) hbx3 rfl
  obtain ⟨A3, c3, rfl, -, -, hR3, -⟩ := ho3.form
  have hcv := run_str_at (n := res.1.length) c3 hR3 rfl
  replace hbx3 := Lib.hid hbx3
  replace hres := Lib.hid hres
  replace hR3 := Lib.hid hR3
  clear hbb hct hrt hT0 hbx b0 b2 ho3 hr0
  go_wp2_with fail
  refine (rread_any lo gr s z _ hrt3.out).mono ?_
  rw [hres.out]
  rintro e w4 ⟨rfl, rfl⟩
  go_wp2
  go_ret
  exact ⟨rfl, _, ⟨hct3.out.more hct3.out.bounds.2.2 (Nat.le_refl _), hrt3.out⟩, hT3.out⟩
set_option maxHeartbeats 2000000 in
set_option maxRecDepth 10000 in
theorem does6 (lo g gr : Nat) (s : CS) (d : UInt8) (z : Int) (hz : I64 z) (A : Option Addr) (m c : Nat) (l : List UInt8) (hm : l.length = m) (hmx : m ≤ maxLen) (hq : (U d).tmod 16 = 6) (w : World) (h : Cb w lo g gr s) (hrd : Rd w lo A l) :
    Calls Try.prog 17 #[.pointer (some ⟨g, 0, none⟩), .pointer (some ⟨gr, 0, none⟩), .agg #[.int .u8 (U d), .int .i64 z, .slice A m c]] w fun e w' => e = .returned (.bool true) ∧ ∃ s', Cb w' lo g gr s' ∧ TChg lo AT w w' := by
  have hlw : lo ≤ w.heap.size := h.1.lw
  have hbx : Hid ((w.alloc (.cells #[.int .u8 (U d), .int .i64 z, .slice A m c] 30)).heap[w.heap.size]? = some (.cells #[.int .u8 (U d), .int .i64 z, .slice A m c] 30 (0, 0))) := Lib.hid (heap_alloc_new w _)
  have hct : Hid (Ct (w.alloc (.cells #[.int .u8 (U d), .int .i64 z, .slice A m c] 30)) lo w.heap.size g s) := Lib.hid (h.1.below ((Below.refl _ _).alloc (Nat.le_refl _) _))
  have hrt : Hid (Rt (w.alloc (.cells #[.int .u8 (U d), .int .i64 z, .slice A m c] 30)) lo gr s) := Lib.hid (h.2.below ((Below.refl _ _).alloc (Nat.le_refl _) _))
  have hT0 : Hid (TChg lo AT w (w.alloc (.cells #[.int .u8 (U d), .int .i64 z, .slice A m c] 30))) := Lib.hid (TChg.of_alloc _ _)
  have hr0 : Hid (Rd (w.alloc (.cells #[.int .u8 (U d), .int .i64 z, .slice A m c] 30)) lo A l) := Lib.hid (hrd.alloc hlw _)
  have b0 := blk_cell (j := 0) hbx.out rfl
  have b1 := blk_cell (j := 1) hbx.out rfl
  have b2 := blk_cell (j := 2) hbx.out rfl
  have hws : (w.alloc (.cells #[.int .u8 (U d), .int .i64 z, .slice A m c] 30)).heap.size = w.heap.size + 1 := by simp
  replace h := Lib.hid h
  replace hrd := Lib.hid hrd
  replace hm := Lib.hid hm
  go_enter Try.func17, Try.ntmps17
  go_wp2_with fail
  obtain ⟨N, hN⟩ : ∃ N, w.heap.size = N := ⟨_, rfl⟩
  obtain ⟨w0, hw0⟩ : ∃ w0, w.alloc (.cells #[.int .u8 (U d), .int .i64 z, .slice A m c] 30) = w0 := ⟨_, rfl⟩
  rw [hw0] at hbx hct hrt hT0 hr0 b0 b1 b2 hws ⊢
  rw [hN] at hbx hct b0 b1 b2 hws ⊢
  refine (cread_any lo _ g s z hz _ hct.out).mono ?_
  obtain ⟨res, hres⟩ : ∃ res, s.read z = res := ⟨_, rfl⟩
  rw [hres]
  rintro e w3 ⟨v3, rfl, ho3, hbb⟩
  have hrt3 := Lib.hid (hrt.out.below hbb)
  have hct3 := Lib.hid (hct.out.below hbb)
  have hT3 := Lib.hid (hT0.out.trans (TChg.of_below hbb))
  have hbx3 := blk_below hbx.out hbb
  replace b1 := blk_cell (j := 1) hbx3 rfl
  obtain ⟨A3, c3, rfl, -, -, hR3, -⟩ := ho3.form
  have hcv := run_str_at (n := res.1.length) c3 hR3 rfl
  replace hbx3 := Lib.hid hbx3
  replace hres := Lib.hid hres
  replace hR3 := Lib.hid hR3
  clear hbb hct hrt hT0 hbx b0 b2 ho3 hr0
  go_wp2_with fail
  refine (rread_any lo gr s z _ hrt3.out).mono ?_
  rw [hres.out]
  rintro e w4 ⟨rfl, rfl⟩
  go_wp2
  go_ret
  exact ⟨rfl, _, ⟨hct3.out.more hct3.out.bounds.2.2 (Nat.le_refl _), hrt3.out⟩, hT3.out⟩
set_option maxHeartbeats 2000000 in
set_option maxRecDepth 10000 in
theorem does7 (lo g gr : Nat) (s : CS) (d : UInt8) (z : Int) (hz : I64 z) (A : Option Addr) (m c : Nat) (l : List UInt8) (hm : l.length = m) (hmx : m ≤ maxLen) (j : Int) (hq : (U d).tmod 16 = j) (e0 : (j == 0) = false) (e1 : (j == 1) = false) (e2 : (j == 2) = false) (e3 : (j == 3) = false) (e4 : (j == 4) = false) (e5 : (j == 5) = false) (e6 : (j == 6) = false) (w : World) (h : Cb w lo g gr s) (hrd : Rd w lo A l) :
    Calls Try.prog 17 #[.pointer (some ⟨g, 0, none⟩), .pointer (some ⟨gr, 0, none⟩), .agg #[.int .u8 (U d), .int .i64 z, .slice A m c]] w fun e w' => e = .returned (.bool true) ∧ ∃ s', Cb w' lo g gr s' ∧ TChg lo AT w w' := by
  have hlw : lo ≤ w.heap.size := h.1.lw
  have hbx : Hid ((w.alloc (.cells #[.int .u8 (U d), .int .i64 z, .slice A m c] 30)).heap[w.heap.size]? = some (.cells #[.int .u8 (U d), .int .i64 z, .slice A m c] 30 (0, 0))) := Lib.hid (heap_alloc_new w _)
  have hct : Hid (Ct (w.alloc (.cells #[.int .u8 (U d), .int .i64 z, .slice A m c] 30)) lo w.heap.size g s) := Lib.hid (h.1.below ((Below.refl _ _).alloc (Nat.le_refl _) _))
  have hrt : Hid (Rt (w.alloc (.cells #[.int .u8 (U d), .int .i64 z, .slice A m c] 30)) lo gr s) := Lib.hid (h.2.below ((Below.refl _ _).alloc (Nat.le_refl _) _))
  have hT0 : Hid (TChg lo AT w (w.alloc (.cells #[.int .u8 (U d), .int .i64 z, .slice A m c] 30))) := Lib.hid (TChg.of_alloc _ _)
  have hr0 : Hid (Rd (w.alloc (.cells #[.int .u8 (U d), .int .i64 z, .slice A m c] 30)) lo A l) := Lib.hid (hrd.alloc hlw _)
  have b0 := blk_cell (j := 0) hbx.out rfl
  have b1 := blk_cell (j := 1) hbx.out rfl
  have b2 := blk_cell (j := 2) hbx.out rfl
  have hws : (w.alloc (.cells #[.int .u8 (U d), .int .i64 z, .slice A m c] 30)).heap.size = w.heap.size + 1 := by simp
  replace h := Lib.hid h
  replace hrd := Lib.hid hrd
  replace hm := Lib.hid hm
  go_enter Try.func17, Try.ntmps17
  go_wp2_with fail
  obtain ⟨N, hN⟩ : ∃ N, w.heap.size = N := ⟨_, rfl⟩
  obtain ⟨w0, hw0⟩ : ∃ w0, w.alloc (.cells #[.int .u8 (U d), .int .i64 z, .slice A m c] 30) = w0 := ⟨_, rfl⟩
  rw [hw0] at hbx hct hrt hT0 hr0 b0 b1 b2 hws ⊢
  rw [hN] at hbx hct b0 b1 b2 hws ⊢
  refine (cappend_any lo _ g s A m c l hm.out hmx _ hct.out (hr0.out.more (by omega))).mono ?_
  obtain ⟨res, hres⟩ : ∃ res, s.append l = res := ⟨_, rfl⟩
  rw [hres]
  rintro e w3 ⟨rfl, hct3, hch3⟩
  have hrt3 := Lib.hid (hrt.out.tchg hch3 (by decide) (by decide) (by decide))
  replace hct3 := Lib.hid hct3
  have hT3 := Lib.hid (hT0.out.trans (hch3.mono (ts' := AT) (Nat.le_refl _) (by decide)))
  have hbx3 := hch3.block hbx.out (by decide)
  have hlw0 : lo ≤ w0.heap.size := by omega
  have hr3 := Lib.hid (hr0.out.below (hch3.below hlw0))
  have hlw3 : lo ≤ w3.heap.size := Nat.le_trans hlw0 hch3.size
  replace b2 := blk_cell (j := 2) hbx3 rfl
  replace hbx3 := Lib.hid hbx3
  replace hres := Lib.hid hres
  clear hch3 hct hrt hT0 hbx b0 b1 hr0
  go_wp2_with fail
  refine (rappend_any lo gr s A m c l hm.out hmx _ hrt3.out hlw3 hr3.out).mono ?_
  rw [hres.out]
  rintro e w4 ⟨rfl, hrt4, hch4⟩
  have hct4 := Lib.hid (hct3.out.tchg hch4 (by decide) (by decide) (by decide))
  replace hrt4 := Lib.hid hrt4
  have hT4 := Lib.hid (hT3.out.trans (hch4.mono (ts' := AT) (Nat.le_refl _) (by decide)))
  clear hch4
  go_wp2
  go_ret
  exact ⟨rfl, _, ⟨hct4.out.more hct4.out.bounds.2.2 (Nat.le_refl _), hrt4.out⟩, hT4.out⟩
theorem does_any (lo g gr : Nat) (s : CS) (d : UInt8) (z : Int) (hz : I64 z) (A : Option Addr) (m c : Nat) (l : List UInt8) (hm : l.length = m) (hmx : m ≤ maxLen) (w : World) (h : Cb w lo g gr s) (hrd : Rd w lo A l) :
    Calls Try.prog 17 #[.pointer (some ⟨g, 0, none⟩), .pointer (some ⟨gr, 0, none⟩), .agg #[.int .u8 (U d), .int .i64 z, .slice A m c]] w fun e w' => e = .returned (.bool true) ∧ ∃ s', Cb w' lo g gr s' ∧ TChg lo AT w w' := by
  have hmod : (U d).tmod 16 = ((d.toNat % 16 : Nat) : Int) := tmod_nat d 16
  have hlt : d.toNat % 16 < 16 := Nat.mod_lt _ (by decide)
  generalize d.toNat % 16 = k at hmod hlt
  rcases (by omega : k = 0 ∨ k = 1 ∨ k = 2 ∨ k = 3 ∨ k = 4 ∨ k = 5 ∨ k = 6 ∨ 7 ≤ k) with h0 | h0 | h0 | h0 | h0 | h0 | h0 | h0
  · exact does0 lo g gr s d z hz A m c l hm hmx (by rw [hmod, h0]; rfl) w h hrd
  · exact does1 lo g gr s d z hz A m c l hm hmx (by rw [hmod, h0]; rfl) w h hrd
  · by_cases h5 : z.tmod 5 = 0
    · exact does2b lo g gr s d z hz A m c l hm hmx (by rw [hmod, h0]; rfl) h5 w h hrd
    · exact does2a lo g gr s d z hz A m c l hm hmx (by rw [hmod, h0]; rfl) (eqf _ _ h5) (by rw [bne, eqf _ _ h5]; rfl) w h hrd
  · exact does3 lo g gr s d z hz A m c l hm hmx (by rw [hmod, h0]; rfl) w h hrd
  · exact does4 lo g gr s d z hz A m c l hm hmx (by rw [hmod, h0]; rfl) w h hrd
  · exact does5 lo g gr s d z hz A m c l hm hmx (by rw [hmod, h0]; rfl) w h hrd
  · exact does6 lo g gr s d z hz A m c l hm hmx (by rw [hmod, h0]; rfl) w h hrd
  · exact does7 lo g gr s d z hz A m c l hm hmx k hmod (eqf _ _ (by omega)) (eqf _ _ (by omega)) (eqf _ _ (by omega)) (eqf _ _ (by omega)) (eqf _ _ (by omega)) (eqf _ _ (by omega)) (eqf _ _ (by omega)) w h hrd
end Go.Proofs.Ytppclmidnomkjaa
