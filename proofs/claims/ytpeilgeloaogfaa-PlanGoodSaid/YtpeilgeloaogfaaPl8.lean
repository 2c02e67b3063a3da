/- plan: Good is the reference's. -/
import Derived.Test.YtpeilgeloaogfaaPl2
import Derived.Test.YtpeilgeloaogfaaPl7
namespace Go.Proofs.Ytpeilgeloaogfaa
set_option linter.unusedVariables false
set_option linter.unusedSimpArgs false
open Go Go.RowKit
set_option maxHeartbeats 8000000 in
set_option maxRecDepth 20000 in
theorem planGood_any (e : En) (A : Option Addr) (n c : Nat) (hc : n ≤ c) (hcm : c ≤ 9223372036854775807) (z : Int) (q : Rc) (A2 : Option Addr) (c2 : Nat) (w : World) :
    Calls Try.prog 23 #[e.agg A n c, .int .i64 z, q.agg A2 c2] w fun r w' => r = .returned (.bool true) ∧ Below w.heap.size w w' := by
  unfold En.agg Rc.agg
  have hb1 : Gr w (w.alloc (.cells #[.string (bs e.key), .int .i64 e.gen, .int .i64 e.size, .string (bs e.sum), .slice A n c] 79)) := (Below.refl _ _).alloc (Nat.le_refl _) _
  have hb2 : Gr (w.alloc (.cells #[.string (bs e.key), .int .i64 e.gen, .int .i64 e.size, .string (bs e.sum), .slice A n c] 79)) ((w.alloc (.cells #[.string (bs e.key), .int .i64 e.gen, .int .i64 e.size, .string (bs e.sum), .slice A n c] 79)).alloc (.cells #[.int .i64 q.kind, .int .i64 q.cart, .string (bs q.key), .int .i64 q.gen, .int .i64 q.group, .int .i64 q.groups, .int .i64 q.index, .int .i64 q.size, .string (bs q.sum), .slice A2 q.data.length c2] 69)) := (Below.refl _ _).alloc (Nat.le_refl _) _
  have x1 := heap_alloc_new w (.cells #[.string (bs e.key), .int .i64 e.gen, .int .i64 e.size, .string (bs e.sum), .slice A n c] 79)
  have x2 := heap_alloc_new (w.alloc (.cells #[.string (bs e.key), .int .i64 e.gen, .int .i64 e.size, .string (bs e.sum), .slice A n c] 79)) (.cells #[.int .i64 q.kind, .int .i64 q.cart, .string (bs q.key), .int .i64 q.gen, .int .i64 q.group, .int .i64 q.groups, .int .i64 q.index, .int .i64 q.size, .string (bs q.sum), .slice A2 q.data.length c2] 69)
  replace x1 := (hb2.block w.heap.size (by simp)).trans x1
  have hq : Gr w ((w.alloc (.cells #[.string (bs e.key), .int .i64 e.gen, .int .i64 e.size, .string (bs e.sum), .slice A n c] 79)).alloc (.cells #[.int .i64 q.kind, .int .i64 q.cart, .string (bs q.key), .int .i64 q.gen, .int .i64 q.group, .int .i64 q.groups, .int .i64 q.index, .int .i64 q.size, .string (bs q.sum), .slice A2 q.data.length c2] 69)) := hb1.trans hb2
  rw [World.size_alloc] at x2
  clear hb1 hb2
  obtain ⟨w2, hw2⟩ : ∃ x, (w.alloc (.cells #[.string (bs e.key), .int .i64 e.gen, .int .i64 e.size, .string (bs e.sum), .slice A n c] 79)).alloc (.cells #[.int .i64 q.kind, .int .i64 q.cart, .string (bs q.key), .int .i64 q.gen, .int .i64 q.group, .int .i64 q.groups, .int .i64 q.index, .int .i64 q.size, .string (bs q.sum), .slice A2 q.data.length c2] 69) = x := ⟨_, rfl⟩
  rw [hw2] at x1 x2 hq
  replace x1 := Lib.hid x1
  replace x2 := Lib.hid x2
  replace hq := Lib.hid hq
  go_enter Try.func23, Try.ntmps23
  have c0 := blk_cell (j := 0) x1.out rfl
  have c1 := blk_cell (j := 1) x1.out rfl
  have c2 := blk_cell (j := 2) x1.out rfl
  have c3 := blk_cell (j := 3) x1.out rfl
  have c4 := blk_cell (j := 4) x1.out rfl
  go_wp2_with fail
  try rw [hw2]
  clear c0 c1 c2 c3 c4
  refine (slots_any e A n c hc hcm _).mono ?_
  rintro r w3 ⟨rfl, hr⟩
  replace hw2 := Lib.hid hw2
  replace x2 := Lib.hid ((hr.block _ (Array.getElem?_eq_some_iff.mp x2.out).1).trans x2.out)
  replace hq := Gr.onP hr hq
  clear hr x1
  obtain ⟨m, hm⟩ : ∃ m, min n 60 = m := ⟨_, rfl⟩
  rw [hm]
  have hmn : m ≤ 9223372036854775807 := by omega
  replace hm := Lib.hid hm
  have x3 := heap_alloc_new w3 (.cells #[.string (bs e.key), .int .i64 e.gen, .int .i64 e.size, .string (bs e.sum), .slice A m c] 79)
  have hr : Gr w3 (w3.alloc (.cells #[.string (bs e.key), .int .i64 e.gen, .int .i64 e.size, .string (bs e.sum), .slice A m c] 79)) := (Below.refl _ _).alloc (Nat.le_refl _) _
  replace x2 := Lib.hid ((hr.block _ (Array.getElem?_eq_some_iff.mp x2.out).1).trans x2.out)
  replace hq := Gr.onP hr hq
  clear hr
  go_upto_region 2 with (fail)
  generalize hg3 : w3.heap.size = g3 at x3 ⊢
  generalize w3.alloc (.cells #[.string (bs e.key), .int .i64 e.gen, .int .i64 e.size, .string (bs e.sum), .slice A m c] 79) = w4 at x2 x3 hq ⊢
  replace hg3 := Lib.hid hg3
  replace x3 := Lib.hid (show w4.drew.heap[g3]? = _ from x3)
  replace x2 := Lib.hid (show w4.drew.heap[w.heap.size + 1]? = _ from x2.out)
  have hqd : Hid (Below w.heap.size w w4.drew) := Lib.hid (Below.drew hq.out)
  clear hq
  refine wpR_region (Gr) 9999 (by kernel_rfl) ?_
  refine wpR_one 0 rfl (by kernel_rfl) (by kernel_rfl) (fun K hK => ?_)
  go_simp
  refine (awake19_any _).mono ?_
  rintro r w5 ⟨rfl, hr⟩
  refine hK _ _ (fun _ => hr) ?_
  clear hK K
  replace x2 := Lib.hid ((hr.block _ (Array.getElem?_eq_some_iff.mp x2.out).1).trans x2.out)
  replace x3 := Lib.hid ((hr.block _ (Array.getElem?_eq_some_iff.mp x3.out).1).trans x3.out)
  replace hqd := Lib.hid (hqd.out.trans (Below.mono hr hqd.out.size))
  clear hr
  try simp only [Act.put, List.setIfInBounds_toArray, List.set_cons_zero, List.set_cons_succ]
  refine wpR_take (i := 1) (v := ?_) (Gr.road) (some 11) rfl (by kernel_rfl) (by kernel_rfl) (by kernel_rfl) (by kernel_rfl) (by kernel_rfl) (fun _ _ _ h => h) (by kernel_rfl) (fun w' hw' => ?_) ?_
  rotate_left
  · go_simp; with_reducible rfl
  simp only [Act.put, List.setIfInBounds_toArray, List.set_cons_zero, List.set_cons_succ]
  refine wpR_take (i := 2) (v := ?_) (Gr.road) (some 12) rfl (by kernel_rfl) (by kernel_rfl) (by kernel_rfl) (by kernel_rfl) (by kernel_rfl) (fun _ _ _ h => h) (by kernel_rfl) (fun w' hw' => ?_) ?_
  rotate_left
  · have y9 := (hw'.block _ (Array.getElem?_eq_some_iff.mp x3.out).1).trans x3.out; have c0 := blk_cell (j := 0) y9 rfl; have c1 := blk_cell (j := 1) y9 rfl; have c2 := blk_cell (j := 2) y9 rfl; have c3 := blk_cell (j := 3) y9 rfl; have c4 := blk_cell (j := 4) y9 rfl; clear y9; go_simp; with_reducible rfl
  simp only [Act.put, List.setIfInBounds_toArray, List.set_cons_zero, List.set_cons_succ]
  refine wpR_take (i := 3) (v := ?_) (Gr.road) (some 13) rfl (by kernel_rfl) (by kernel_rfl) (by kernel_rfl) (by kernel_rfl) (by kernel_rfl) (fun _ _ _ h => h) (by kernel_rfl) (fun w' hw' => ?_) ?_
  rotate_left
  · go_simp; with_reducible rfl
  simp only [Act.put, List.setIfInBounds_toArray, List.set_cons_zero, List.set_cons_succ]
  refine wpR_take (i := 4) (v := ?_) (Gr.road) (some 14) rfl (by kernel_rfl) (by kernel_rfl) (by kernel_rfl) (by kernel_rfl) (by kernel_rfl) (fun _ _ _ h => h) (by kernel_rfl) (fun w' hw' => ?_) ?_
  rotate_left
  · have y9 := (hw'.block _ (Array.getElem?_eq_some_iff.mp x2.out).1).trans x2.out; have c0 := blk_cell (j := 0) y9 rfl; have c1 := blk_cell (j := 1) y9 rfl; have c2 := blk_cell (j := 2) y9 rfl; have c3 := blk_cell (j := 3) y9 rfl; have c4 := blk_cell (j := 4) y9 rfl; have c5 := blk_cell (j := 5) y9 rfl; have c6 := blk_cell (j := 6) y9 rfl; have c7 := blk_cell (j := 7) y9 rfl; have c8 := blk_cell (j := 8) y9 rfl; have c9 := blk_cell (j := 9) y9 rfl; clear y9; go_simp; with_reducible rfl
  simp only [Act.put, List.setIfInBounds_toArray, List.set_cons_zero, List.set_cons_succ]
  refine wpR_take (i := 6) (v := ?_) (Gr.road) (some 16) rfl (by kernel_rfl) (by kernel_rfl) (by kernel_rfl) (by kernel_rfl) (by kernel_rfl) (fun _ _ _ h => h) (by kernel_rfl) (fun w' hw' => ?_) ?_
  rotate_left
  · have y9 := (hw'.block _ (Array.getElem?_eq_some_iff.mp x3.out).1).trans x3.out; have c0 := blk_cell (j := 0) y9 rfl; have c1 := blk_cell (j := 1) y9 rfl; have c2 := blk_cell (j := 2) y9 rfl; have c3 := blk_cell (j := 3) y9 rfl; have c4 := blk_cell (j := 4) y9 rfl; clear y9; go_simp; with_reducible rfl
  simp only [Act.put, List.setIfInBounds_toArray, List.set_cons_zero, List.set_cons_succ]
  refine wpR_take (i := 7) (v := ?_) (Gr.road) (some 17) rfl (by kernel_rfl) (by kernel_rfl) (by kernel_rfl) (by kernel_rfl) (by kernel_rfl) (fun _ _ _ h => h) (by kernel_rfl) (fun w' hw' => ?_) ?_
  rotate_left
  · go_simp; with_reducible rfl
  simp only [Act.put, List.setIfInBounds_toArray, List.set_cons_zero, List.set_cons_succ]
  refine wpR_take (i := 8) (v := ?_) (Gr.road) (some 18) rfl (by kernel_rfl) (by kernel_rfl) (by kernel_rfl) (by kernel_rfl) (by kernel_rfl) (fun _ _ _ h => h) (by kernel_rfl) (fun w' hw' => ?_) ?_
  rotate_left
  · have y9 := (hw'.block _ (Array.getElem?_eq_some_iff.mp x2.out).1).trans x2.out; have c0 := blk_cell (j := 0) y9 rfl; have c1 := blk_cell (j := 1) y9 rfl; have c2 := blk_cell (j := 2) y9 rfl; have c3 := blk_cell (j := 3) y9 rfl; have c4 := blk_cell (j := 4) y9 rfl; have c5 := blk_cell (j := 5) y9 rfl; have c6 := blk_cell (j := 6) y9 rfl; have c7 := blk_cell (j := 7) y9 rfl; have c8 := blk_cell (j := 8) y9 rfl; have c9 := blk_cell (j := 9) y9 rfl; clear y9; go_simp; with_reducible rfl
  simp only [Act.put, List.setIfInBounds_toArray, List.set_cons_zero, List.set_cons_succ]
  refine wpR_one 5 rfl (by kernel_rfl) (by kernel_rfl) (fun K hK => ?_)
  go_simp
  refine (good_any e A m c z q A2 c2 hmn _).mono ?_
  rintro r w6 ⟨rfl, hr⟩
  refine hK _ _ (fun _ => hr) ?_
  clear hK K
  replace x2 := Lib.hid ((hr.block _ (Array.getElem?_eq_some_iff.mp x2.out).1).trans x2.out)
  replace x3 := Lib.hid ((hr.block _ (Array.getElem?_eq_some_iff.mp x3.out).1).trans x3.out)
  replace hqd := Lib.hid (hqd.out.trans (Below.mono hr hqd.out.size))
  clear hr
  try simp only [Act.put, List.setIfInBounds_toArray, List.set_cons_zero, List.set_cons_succ]
  refine wpR_one 9 rfl (by kernel_rfl) (by kernel_rfl) (fun K hK => ?_)
  go_simp
  refine (rgood_any e A m c z q A2 c2 hmn _).mono ?_
  rintro r w7 ⟨rfl, hr⟩
  refine hK _ _ (fun _ => hr) ?_
  clear hK K
  replace x2 := Lib.hid ((hr.block _ (Array.getElem?_eq_some_iff.mp x2.out).1).trans x2.out)
  replace x3 := Lib.hid ((hr.block _ (Array.getElem?_eq_some_iff.mp x3.out).1).trans x3.out)
  replace hqd := Lib.hid (hqd.out.trans (Below.mono hr hqd.out.size))
  clear hr
  try simp only [Act.put, List.setIfInBounds_toArray, List.set_cons_zero, List.set_cons_succ]
  refine wpR_take (i := 10) (v := ?_) (Gr.road) (some 20) rfl (by kernel_rfl) (by kernel_rfl) (by kernel_rfl) (by kernel_rfl) (by kernel_rfl) (fun _ _ _ h => h) (by kernel_rfl) (fun w' hw' => ?_) ?_
  rotate_left
  · go_simp; with_reducible rfl
  simp only [Act.put, List.setIfInBounds_toArray, List.set_cons_zero, List.set_cons_succ]
  refine wpR_take (i := 11) (v := ?_) (Gr.road) (some 21) rfl (by kernel_rfl) (by kernel_rfl) (by kernel_rfl) (by kernel_rfl) (by kernel_rfl) (fun _ _ _ h => h) (by kernel_rfl) (fun w' hw' => ?_) ?_
  rotate_left
  · go_simp; with_reducible rfl
  simp only [Act.put, List.setIfInBounds_toArray, List.set_cons_zero, List.set_cons_succ]
  refine wpR_take (i := 12) (v := ?_) (Gr.road) (some 6) rfl (by kernel_rfl) (by kernel_rfl) (by kernel_rfl) (by kernel_rfl) (by kernel_rfl) (fun _ _ _ h => h) (by kernel_rfl) (fun w' hw' => ?_) ?_
  rotate_left
  · go_simp; with_reducible rfl
  simp only [Act.put, List.setIfInBounds_toArray, List.set_cons_zero, List.set_cons_succ]
  refine wpR_done (by kernel_rfl) ?_ _
  go_wp2_with fail
  go_ret
  exact ⟨rfl, hqd.out⟩
end Go.Proofs.Ytpeilgeloaogfaa
