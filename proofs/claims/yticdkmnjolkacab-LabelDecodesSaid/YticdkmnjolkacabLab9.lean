/- The laws of label: LabelSames. -/
import Derived.Test.YticdkmnjolkacabLab8
import Derived.Test.YticdkmnjolkacabLabRef1
namespace Go.Proofs.Yticdkmnjolkacab
set_option linter.unusedVariables false
set_option linter.unusedSimpArgs false
open Go Go.RowKit
theorem sameR_self (a : Rc) : sameR a a = true := decide_eq_true rfl
set_option maxHeartbeats 8000000 in
set_option maxRecDepth 20000 in
theorem labelSames_any (a b : Rc) (A A2 : Option Addr) (c c2 : Nat) (w : World) (h : Rd w w.heap.size A a.data) (h2 : Rd w w.heap.size A2 b.data) :
    Calls Try.prog 7 #[a.agg A c, b.agg A2 c2] w fun e w' => e = .returned (.bool true) ∧ Below w.heap.size w w' := by
  have hb1 := (Below.refl w.heap.size w).alloc (Nat.le_refl _) (.cells #[.int .i64 a.kind, .int .i64 a.cart, .string (bs a.key), .int .i64 a.gen, .int .i64 a.group, .int .i64 a.groups, .int .i64 a.index, .int .i64 a.size, .string (bs a.sum), .slice A a.data.length c] 34)
  have hb2 := hb1.alloc hb1.size (.cells #[.int .i64 b.kind, .int .i64 b.cart, .string (bs b.key), .int .i64 b.gen, .int .i64 b.group, .int .i64 b.groups, .int .i64 b.index, .int .i64 b.size, .string (bs b.sum), .slice A2 b.data.length c2] 34)
  have hRa := h.up hb2
  have hRb := h2.up hb2
  have hA := blk_alloc (heap_alloc_new w (.cells #[.int .i64 a.kind, .int .i64 a.cart, .string (bs a.key), .int .i64 a.gen, .int .i64 a.group, .int .i64 a.groups, .int .i64 a.index, .int .i64 a.size, .string (bs a.sum), .slice A a.data.length c] 34)) (.cells #[.int .i64 b.kind, .int .i64 b.cart, .string (bs b.key), .int .i64 b.gen, .int .i64 b.group, .int .i64 b.groups, .int .i64 b.index, .int .i64 b.size, .string (bs b.sum), .slice A2 b.data.length c2] 34)
  have hB := heap_alloc_new (w.alloc (.cells #[.int .i64 a.kind, .int .i64 a.cart, .string (bs a.key), .int .i64 a.gen, .int .i64 a.group, .int .i64 a.groups, .int .i64 a.index, .int .i64 a.size, .string (bs a.sum), .slice A a.data.length c] 34)) (.cells #[.int .i64 b.kind, .int .i64 b.cart, .string (bs b.key), .int .i64 b.gen, .int .i64 b.group, .int .i64 b.groups, .int .i64 b.index, .int .i64 b.size, .string (bs b.sum), .slice A2 b.data.length c2] 34)
  have hsz : (w.alloc (.cells #[.int .i64 a.kind, .int .i64 a.cart, .string (bs a.key), .int .i64 a.gen, .int .i64 a.group, .int .i64 a.groups, .int .i64 a.index, .int .i64 a.size, .string (bs a.sum), .slice A a.data.length c] 34)).heap.size = w.heap.size + 1 := by simp
  rw [hsz] at hB
  obtain ⟨N, hN⟩ : ∃ N, w.heap.size = N := ⟨_, rfl⟩
  rw [hN] at hA hB
  obtain ⟨sv, hsv⟩ : ∃ sv, sameR a b = sv := ⟨_, rfl⟩
  have hse : (sv == sv) = true := by cases sv <;> rfl
  replace hsv := Lib.hid hsv
  obtain ⟨wd, hwd⟩ : ∃ wd, wd = ((w.alloc (.cells #[.int .i64 a.kind, .int .i64 a.cart, .string (bs a.key), .int .i64 a.gen, .int .i64 a.group, .int .i64 a.groups, .int .i64 a.index, .int .i64 a.size, .string (bs a.sum), .slice A a.data.length c] 34)).alloc (.cells #[.int .i64 b.kind, .int .i64 b.cart, .string (bs b.key), .int .i64 b.gen, .int .i64 b.group, .int .i64 b.groups, .int .i64 b.index, .int .i64 b.size, .string (bs b.sum), .slice A2 b.data.length c2] 34)).drew := ⟨_, rfl⟩
  have hq0 : Hid (Below w.heap.size w wd) := Lib.hid (by rw [hwd]; exact hb2.drew)
  have hA0 : Hid (wd.heap[N]? = some (.cells #[.int .i64 a.kind, .int .i64 a.cart, .string (bs a.key), .int .i64 a.gen, .int .i64 a.group, .int .i64 a.groups, .int .i64 a.index, .int .i64 a.size, .string (bs a.sum), .slice A a.data.length c] 34 (0, 0))) := Lib.hid (by rw [hwd]; exact hA)
  have hB0 : Hid (wd.heap[N + 1]? = some (.cells #[.int .i64 b.kind, .int .i64 b.cart, .string (bs b.key), .int .i64 b.gen, .int .i64 b.group, .int .i64 b.groups, .int .i64 b.index, .int .i64 b.size, .string (bs b.sum), .slice A2 b.data.length c2] 34 (0, 0))) := Lib.hid (by rw [hwd]; exact hB)
  have hRa0 : Hid (Rd wd wd.heap.size A a.data) := Lib.hid (by rw [hwd]; exact hRa.drewN 1)
  have hRb0 : Hid (Rd wd wd.heap.size A2 b.data) := Lib.hid (by rw [hwd]; exact hRb.drewN 1)
  clear hb1 hb2 hRa hRb hA hB hsz h h2
  replace hN := Lib.hid hN
  unfold Rc.agg
  go_enter Try.func7, Try.ntmps7
  go_wp2_with fail
  rw [hN.out]
  refine wpR_region (Upd (fun _ => False)) 9999 (by kernel_rfl) ?_
  (rw [← hwd]; replace hwd := Lib.hid hwd)
  refine wpR_one 0 rfl (by kernel_rfl) (by kernel_rfl) (fun K hK => ?_)
  go_simp
  refine (awake09_any _).mono ?_
  rintro e w1 ⟨rfl, hbb⟩
  refine hK _ _ (fun _ => Upd.of_below hbb) ?_
  clear hK K
  have hA1 := Lib.hid (blk_below hA0.out hbb)
  have hB1 := Lib.hid (blk_below hB0.out hbb)
  have hRa1 := Lib.hid (hRa0.out.up hbb)
  have hRb1 := Lib.hid (hRb0.out.up hbb)
  have hq1 := Lib.hid (hq0.out.trans (hbb.mono hq0.out.size))
  clear hbb
  try simp only [Act.put, List.setIfInBounds_toArray, List.set_cons_zero, List.set_cons_succ]
  refine wpR_take (i := 1) (v := ?_) (Upd.road _) (some 6) rfl (by kernel_rfl) (by kernel_rfl) (by kernel_rfl) (by kernel_rfl) (by kernel_rfl) (fun _ _ _ h => h) (by kernel_rfl) (fun w' hw' => ?_) ?_
  rotate_left
  · go_simp; with_reducible rfl
  simp only [Act.put, List.setIfInBounds_toArray, List.set_cons_zero, List.set_cons_succ]
  refine wpR_take (i := 2) (v := ?_) (Upd.road _) (some 7) rfl (by kernel_rfl) (by kernel_rfl) (by kernel_rfl) (by kernel_rfl) (by kernel_rfl) (fun _ _ _ h => h) (by kernel_rfl) (fun w' hw' => ?_) ?_
  rotate_left
  · have hh := (hw'.2.2.2.2 N (blk_lt hA1.out) (fun h => h)).trans hA1.out; have q0 := blk_cell (j := 0) (v := .int .i64 a.kind) hh rfl; have q1 := blk_cell (j := 1) (v := .int .i64 a.cart) hh rfl; have q2 := blk_cell (j := 2) (v := .string (bs a.key)) hh rfl; have q3 := blk_cell (j := 3) (v := .int .i64 a.gen) hh rfl; have q4 := blk_cell (j := 4) (v := .int .i64 a.group) hh rfl; have q5 := blk_cell (j := 5) (v := .int .i64 a.groups) hh rfl; have q6 := blk_cell (j := 6) (v := .int .i64 a.index) hh rfl; have q7 := blk_cell (j := 7) (v := .int .i64 a.size) hh rfl; have q8 := blk_cell (j := 8) (v := .string (bs a.sum)) hh rfl; have q9 := blk_cell (j := 9) (v := .slice A a.data.length c) hh rfl; clear hh; go_simp; with_reducible rfl
  simp only [Act.put, List.setIfInBounds_toArray, List.set_cons_zero, List.set_cons_succ]
  refine wpR_take (i := 3) (v := ?_) (Upd.road _) (some 8) rfl (by kernel_rfl) (by kernel_rfl) (by kernel_rfl) (by kernel_rfl) (by kernel_rfl) (fun _ _ _ h => h) (by kernel_rfl) (fun w' hw' => ?_) ?_
  rotate_left
  · have hh := (hw'.2.2.2.2 (N + 1) (blk_lt hB1.out) (fun h => h)).trans hB1.out; have q0 := blk_cell (j := 0) (v := .int .i64 b.kind) hh rfl; have q1 := blk_cell (j := 1) (v := .int .i64 b.cart) hh rfl; have q2 := blk_cell (j := 2) (v := .string (bs b.key)) hh rfl; have q3 := blk_cell (j := 3) (v := .int .i64 b.gen) hh rfl; have q4 := blk_cell (j := 4) (v := .int .i64 b.group) hh rfl; have q5 := blk_cell (j := 5) (v := .int .i64 b.groups) hh rfl; have q6 := blk_cell (j := 6) (v := .int .i64 b.index) hh rfl; have q7 := blk_cell (j := 7) (v := .int .i64 b.size) hh rfl; have q8 := blk_cell (j := 8) (v := .string (bs b.sum)) hh rfl; have q9 := blk_cell (j := 9) (v := .slice A2 b.data.length c2) hh rfl; clear hh; go_simp; with_reducible rfl
  simp only [Act.put, List.setIfInBounds_toArray, List.set_cons_zero, List.set_cons_succ]
  refine wpR_take (i := 5) (v := ?_) (Upd.road _) (some 10) rfl (by kernel_rfl) (by kernel_rfl) (by kernel_rfl) (by kernel_rfl) (by kernel_rfl) (fun _ _ _ h => h) (by kernel_rfl) (fun w' hw' => ?_) ?_
  rotate_left
  · have hh := (hw'.2.2.2.2 N (blk_lt hA1.out) (fun h => h)).trans hA1.out; have q0 := blk_cell (j := 0) (v := .int .i64 a.kind) hh rfl; have q1 := blk_cell (j := 1) (v := .int .i64 a.cart) hh rfl; have q2 := blk_cell (j := 2) (v := .string (bs a.key)) hh rfl; have q3 := blk_cell (j := 3) (v := .int .i64 a.gen) hh rfl; have q4 := blk_cell (j := 4) (v := .int .i64 a.group) hh rfl; have q5 := blk_cell (j := 5) (v := .int .i64 a.groups) hh rfl; have q6 := blk_cell (j := 6) (v := .int .i64 a.index) hh rfl; have q7 := blk_cell (j := 7) (v := .int .i64 a.size) hh rfl; have q8 := blk_cell (j := 8) (v := .string (bs a.sum)) hh rfl; have q9 := blk_cell (j := 9) (v := .slice A a.data.length c) hh rfl; clear hh; go_simp; with_reducible rfl
  simp only [Act.put, List.setIfInBounds_toArray, List.set_cons_zero, List.set_cons_succ]
  refine wpR_take (i := 6) (v := ?_) (Upd.road _) (some 11) rfl (by kernel_rfl) (by kernel_rfl) (by kernel_rfl) (by kernel_rfl) (by kernel_rfl) (fun _ _ _ h => h) (by kernel_rfl) (fun w' hw' => ?_) ?_
  rotate_left
  · have hh := (hw'.2.2.2.2 (N + 1) (blk_lt hB1.out) (fun h => h)).trans hB1.out; have q0 := blk_cell (j := 0) (v := .int .i64 b.kind) hh rfl; have q1 := blk_cell (j := 1) (v := .int .i64 b.cart) hh rfl; have q2 := blk_cell (j := 2) (v := .string (bs b.key)) hh rfl; have q3 := blk_cell (j := 3) (v := .int .i64 b.gen) hh rfl; have q4 := blk_cell (j := 4) (v := .int .i64 b.group) hh rfl; have q5 := blk_cell (j := 5) (v := .int .i64 b.groups) hh rfl; have q6 := blk_cell (j := 6) (v := .int .i64 b.index) hh rfl; have q7 := blk_cell (j := 7) (v := .int .i64 b.size) hh rfl; have q8 := blk_cell (j := 8) (v := .string (bs b.sum)) hh rfl; have q9 := blk_cell (j := 9) (v := .slice A2 b.data.length c2) hh rfl; clear hh; go_simp; with_reducible rfl
  simp only [Act.put, List.setIfInBounds_toArray, List.set_cons_zero, List.set_cons_succ]
  refine wpR_one 4 rfl (by kernel_rfl) (by kernel_rfl) (fun K hK => ?_)
  go_simp
  have hs := same_any a b A A2 c c2 _ hRa1.out hRb1.out
  rw [hsv.out] at hs
  unfold Rc.agg at hs
  refine hs.mono ?_
  rintro e w2 ⟨rfl, hbb⟩
  refine hK _ _ (fun _ => Upd.of_below hbb) ?_
  clear hK K
  clear hs
  have hA2 := Lib.hid (blk_below hA1.out hbb)
  have hB2 := Lib.hid (blk_below hB1.out hbb)
  have hRa2 := Lib.hid (hRa1.out.up hbb)
  have hRb2 := Lib.hid (hRb1.out.up hbb)
  have hq2 := Lib.hid (hq1.out.trans (hbb.mono hq1.out.size))
  clear hbb
  try simp only [Act.put, List.setIfInBounds_toArray, List.set_cons_zero, List.set_cons_succ]
  refine wpR_one 7 rfl (by kernel_rfl) (by kernel_rfl) (fun K hK => ?_)
  go_simp
  have hs := rsame_any a b A A2 c c2 _ hRa2.out hRb2.out
  rw [hsv.out] at hs
  unfold Rc.agg at hs
  refine hs.mono ?_
  rintro e w3 ⟨rfl, hbb⟩
  refine hK _ _ (fun _ => Upd.of_below hbb) ?_
  clear hK K
  clear hs
  have hA3 := Lib.hid (blk_below hA2.out hbb)
  have hB3 := Lib.hid (blk_below hB2.out hbb)
  have hRa3 := Lib.hid (hRa2.out.up hbb)
  have hRb3 := Lib.hid (hRb2.out.up hbb)
  have hq3 := Lib.hid (hq2.out.trans (hbb.mono hq2.out.size))
  clear hbb
  try simp only [Act.put, List.setIfInBounds_toArray, List.set_cons_zero, List.set_cons_succ]
  refine wpR_take (i := 8) (v := ?_) (Upd.road _) (some 13) rfl (by kernel_rfl) (by kernel_rfl) (by kernel_rfl) (by kernel_rfl) (by kernel_rfl) (fun _ _ _ h => h) (by kernel_rfl) (fun w' hw' => ?_) ?_
  rotate_left
  · go_simp; with_reducible rfl
  simp only [Act.put, List.setIfInBounds_toArray, List.set_cons_zero, List.set_cons_succ]
  refine wpR_take (i := 9) (v := ?_) (Upd.road _) (some 14) rfl (by kernel_rfl) (by kernel_rfl) (by kernel_rfl) (by kernel_rfl) (by kernel_rfl) (fun _ _ _ h => h) (by kernel_rfl) (fun w' hw' => ?_) ?_
  rotate_left
  · go_simp; with_reducible rfl
  simp only [Act.put, List.setIfInBounds_toArray, List.set_cons_zero, List.set_cons_succ]
  refine wpR_take (i := 10) (v := ?_) (Upd.road _) (some 15) rfl (by kernel_rfl) (by kernel_rfl) (by kernel_rfl) (by kernel_rfl) (by kernel_rfl) (fun _ _ _ h => h) (by kernel_rfl) (fun w' hw' => ?_) ?_
  rotate_left
  · go_simp; with_reducible rfl
  simp only [Act.put, List.setIfInBounds_toArray, List.set_cons_zero, List.set_cons_succ]
  refine wpR_take (i := 11) (v := ?_) (Upd.road _) (some 16) rfl (by kernel_rfl) (by kernel_rfl) (by kernel_rfl) (by kernel_rfl) (by kernel_rfl) (fun _ _ _ h => h) (by kernel_rfl) (fun w' hw' => ?_) ?_
  rotate_left
  · have hh := (hw'.2.2.2.2 N (blk_lt hA3.out) (fun h => h)).trans hA3.out; have q0 := blk_cell (j := 0) (v := .int .i64 a.kind) hh rfl; have q1 := blk_cell (j := 1) (v := .int .i64 a.cart) hh rfl; have q2 := blk_cell (j := 2) (v := .string (bs a.key)) hh rfl; have q3 := blk_cell (j := 3) (v := .int .i64 a.gen) hh rfl; have q4 := blk_cell (j := 4) (v := .int .i64 a.group) hh rfl; have q5 := blk_cell (j := 5) (v := .int .i64 a.groups) hh rfl; have q6 := blk_cell (j := 6) (v := .int .i64 a.index) hh rfl; have q7 := blk_cell (j := 7) (v := .int .i64 a.size) hh rfl; have q8 := blk_cell (j := 8) (v := .string (bs a.sum)) hh rfl; have q9 := blk_cell (j := 9) (v := .slice A a.data.length c) hh rfl; clear hh; go_simp; with_reducible rfl
  simp only [Act.put, List.setIfInBounds_toArray, List.set_cons_zero, List.set_cons_succ]
  refine wpR_take (i := 12) (v := ?_) (Upd.road _) (some 17) rfl (by kernel_rfl) (by kernel_rfl) (by kernel_rfl) (by kernel_rfl) (by kernel_rfl) (fun _ _ _ h => h) (by kernel_rfl) (fun w' hw' => ?_) ?_
  rotate_left
  · have hh := (hw'.2.2.2.2 N (blk_lt hA3.out) (fun h => h)).trans hA3.out; have q0 := blk_cell (j := 0) (v := .int .i64 a.kind) hh rfl; have q1 := blk_cell (j := 1) (v := .int .i64 a.cart) hh rfl; have q2 := blk_cell (j := 2) (v := .string (bs a.key)) hh rfl; have q3 := blk_cell (j := 3) (v := .int .i64 a.gen) hh rfl; have q4 := blk_cell (j := 4) (v := .int .i64 a.group) hh rfl; have q5 := blk_cell (j := 5) (v := .int .i64 a.groups) hh rfl; have q6 := blk_cell (j := 6) (v := .int .i64 a.index) hh rfl; have q7 := blk_cell (j := 7) (v := .int .i64 a.size) hh rfl; have q8 := blk_cell (j := 8) (v := .string (bs a.sum)) hh rfl; have q9 := blk_cell (j := 9) (v := .slice A a.data.length c) hh rfl; clear hh; go_simp; with_reducible rfl
  simp only [Act.put, List.setIfInBounds_toArray, List.set_cons_zero, List.set_cons_succ]
  refine wpR_one 13 rfl (by kernel_rfl) (by kernel_rfl) (fun K hK => ?_)
  go_simp
  have hs := same_any a a A A c c _ hRa3.out hRa3.out
  rw [sameR_self] at hs
  unfold Rc.agg at hs
  refine hs.mono ?_
  rintro e w4 ⟨rfl, hbb⟩
  refine hK _ _ (fun _ => Upd.of_below hbb) ?_
  clear hK K
  clear hs
  have hA4 := Lib.hid (blk_below hA3.out hbb)
  have hB4 := Lib.hid (blk_below hB3.out hbb)
  have hRa4 := Lib.hid (hRa3.out.up hbb)
  have hRb4 := Lib.hid (hRb3.out.up hbb)
  have hq4 := Lib.hid (hq3.out.trans (hbb.mono hq3.out.size))
  clear hbb
  try simp only [Act.put, List.setIfInBounds_toArray, List.set_cons_zero, List.set_cons_succ]
  refine wpR_take (i := 14) (v := ?_) (Upd.road _) (some 19) rfl (by kernel_rfl) (by kernel_rfl) (by kernel_rfl) (by kernel_rfl) (by kernel_rfl) (fun _ _ _ h => h) (by kernel_rfl) (fun w' hw' => ?_) ?_
  rotate_left
  · go_simp; with_reducible rfl
  simp only [Act.put, List.setIfInBounds_toArray, List.set_cons_zero, List.set_cons_succ]
  refine wpR_take (i := 15) (v := ?_) (Upd.road _) (some 20) rfl (by kernel_rfl) (by kernel_rfl) (by kernel_rfl) (by kernel_rfl) (by kernel_rfl) (fun _ _ _ h => h) (by kernel_rfl) (fun w' hw' => ?_) ?_
  rotate_left
  · go_simp; with_reducible rfl
  simp only [Act.put, List.setIfInBounds_toArray, List.set_cons_zero, List.set_cons_succ]
  refine wpR_take (i := 16) (v := ?_) (Upd.road _) (some 21) rfl (by kernel_rfl) (by kernel_rfl) (by kernel_rfl) (by kernel_rfl) (by kernel_rfl) (fun _ _ _ h => h) (by kernel_rfl) (fun w' hw' => ?_) ?_
  rotate_left
  · have hh := (hw'.2.2.2.2 (N + 1) (blk_lt hB4.out) (fun h => h)).trans hB4.out; have q0 := blk_cell (j := 0) (v := .int .i64 b.kind) hh rfl; have q1 := blk_cell (j := 1) (v := .int .i64 b.cart) hh rfl; have q2 := blk_cell (j := 2) (v := .string (bs b.key)) hh rfl; have q3 := blk_cell (j := 3) (v := .int .i64 b.gen) hh rfl; have q4 := blk_cell (j := 4) (v := .int .i64 b.group) hh rfl; have q5 := blk_cell (j := 5) (v := .int .i64 b.groups) hh rfl; have q6 := blk_cell (j := 6) (v := .int .i64 b.index) hh rfl; have q7 := blk_cell (j := 7) (v := .int .i64 b.size) hh rfl; have q8 := blk_cell (j := 8) (v := .string (bs b.sum)) hh rfl; have q9 := blk_cell (j := 9) (v := .slice A2 b.data.length c2) hh rfl; clear hh; go_simp; with_reducible rfl
  simp only [Act.put, List.setIfInBounds_toArray, List.set_cons_zero, List.set_cons_succ]
  refine wpR_take (i := 17) (v := ?_) (Upd.road _) (some 22) rfl (by kernel_rfl) (by kernel_rfl) (by kernel_rfl) (by kernel_rfl) (by kernel_rfl) (fun _ _ _ h => h) (by kernel_rfl) (fun w' hw' => ?_) ?_
  rotate_left
  · have hh := (hw'.2.2.2.2 (N + 1) (blk_lt hB4.out) (fun h => h)).trans hB4.out; have q0 := blk_cell (j := 0) (v := .int .i64 b.kind) hh rfl; have q1 := blk_cell (j := 1) (v := .int .i64 b.cart) hh rfl; have q2 := blk_cell (j := 2) (v := .string (bs b.key)) hh rfl; have q3 := blk_cell (j := 3) (v := .int .i64 b.gen) hh rfl; have q4 := blk_cell (j := 4) (v := .int .i64 b.group) hh rfl; have q5 := blk_cell (j := 5) (v := .int .i64 b.groups) hh rfl; have q6 := blk_cell (j := 6) (v := .int .i64 b.index) hh rfl; have q7 := blk_cell (j := 7) (v := .int .i64 b.size) hh rfl; have q8 := blk_cell (j := 8) (v := .string (bs b.sum)) hh rfl; have q9 := blk_cell (j := 9) (v := .slice A2 b.data.length c2) hh rfl; clear hh; go_simp; with_reducible rfl
  simp only [Act.put, List.setIfInBounds_toArray, List.set_cons_zero, List.set_cons_succ]
  refine wpR_one 18 rfl (by kernel_rfl) (by kernel_rfl) (fun K hK => ?_)
  go_simp
  have hs := same_any b b A2 A2 c2 c2 _ hRb4.out hRb4.out
  rw [sameR_self] at hs
  unfold Rc.agg at hs
  refine hs.mono ?_
  rintro e w5 ⟨rfl, hbb⟩
  refine hK _ _ (fun _ => Upd.of_below hbb) ?_
  clear hK K
  clear hs
  have hA5 := Lib.hid (blk_below hA4.out hbb)
  have hB5 := Lib.hid (blk_below hB4.out hbb)
  have hRa5 := Lib.hid (hRa4.out.up hbb)
  have hRb5 := Lib.hid (hRb4.out.up hbb)
  have hq5 := Lib.hid (hq4.out.trans (hbb.mono hq4.out.size))
  clear hbb
  try simp only [Act.put, List.setIfInBounds_toArray, List.set_cons_zero, List.set_cons_succ]
  refine wpR_take (i := 19) (v := ?_) (Upd.road _) (some 24) rfl (by kernel_rfl) (by kernel_rfl) (by kernel_rfl) (by kernel_rfl) (by kernel_rfl) (fun _ _ _ h => h) (by kernel_rfl) (fun w' hw' => ?_) ?_
  rotate_left
  · go_simp; with_reducible rfl
  simp only [Act.put, List.setIfInBounds_toArray, List.set_cons_zero, List.set_cons_succ]
  refine wpR_take (i := 20) (v := ?_) (Upd.road _) (some 4) rfl (by kernel_rfl) (by kernel_rfl) (by kernel_rfl) (by kernel_rfl) (by kernel_rfl) (fun _ _ _ h => h) (by kernel_rfl) (fun w' hw' => ?_) ?_
  rotate_left
  · go_simp; with_reducible rfl
  simp only [Act.put, List.setIfInBounds_toArray, List.set_cons_zero, List.set_cons_succ]
  refine wpR_done (by kernel_rfl) ?_ _
  go_wp2_with fail
  go_ret
  exact ⟨rfl, hq5.out⟩
end Go.Proofs.Yticdkmnjolkacab
