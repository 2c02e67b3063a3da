/- The laws of label: LabelEncodes. -/
import Derived.Test.YticdkmnjolkacabLabRef6
import Derived.Test.YticdkmnjolkacabLab8
namespace Go.Proofs.Yticdkmnjolkacab
set_option linter.unusedVariables false
set_option linter.unusedSimpArgs false
open Go Go.RowKit
set_option maxHeartbeats 8000000 in
set_option maxRecDepth 20000 in
theorem labelEncodes_any (r : Rc) (A : Option Addr) (c : Nat) (hok : r.Ok) (w : World) (h : Rd w w.heap.size A r.data) :
    Calls Try.prog 4 #[r.agg A c] w fun e w' => e = .returned (.bool true) ∧ Below w.heap.size w w' := by
  have hbb := (Below.refl w.heap.size w).alloc (Nat.le_refl _) (.cells #[.int .i64 r.kind, .int .i64 r.cart, .string (bs r.key), .int .i64 r.gen, .int .i64 r.group, .int .i64 r.groups, .int .i64 r.index, .int .i64 r.size, .string (bs r.sum), .slice A r.data.length c] 34)
  have hR := Lib.hid (h.up hbb)
  have hX := heap_alloc_new w (.cells #[.int .i64 r.kind, .int .i64 r.cart, .string (bs r.key), .int .i64 r.gen, .int .i64 r.group, .int .i64 r.groups, .int .i64 r.index, .int .i64 r.size, .string (bs r.sum), .slice A r.data.length c] 34)
  have hq := Lib.hid hbb
  clear hbb h
  obtain ⟨N, hN⟩ : ∃ N, w.heap.size = N := ⟨_, rfl⟩
  rw [hN] at hX
  replace hX := Lib.hid hX
  replace hN := Lib.hid hN
  replace hok := Lib.hid hok
  cases hg : goodB r with
  | false =>
    have he := Lib.hid (encode_no r A c hok.out hg _ hR.out)
    replace hg := Lib.hid hg
    unfold Rc.agg at he ⊢
    go_enter Try.func4, Try.ntmps4
    go_wp2_with fail
    refine he.out.mono ?_
    rintro e w1 ⟨rfl, hbb⟩
    replace hR := Lib.hid (hR.out.up hbb)
    replace hX := Lib.hid (blk_below hX.out hbb)
    replace hq := Lib.hid (hq.out.trans (hbb.mono hq.out.size))
    clear hbb
    clear he
    try rw [hN.out]
    have x0 := blk_cell (j := 0) (v := .int .i64 r.kind) hX.out rfl
    have x1 := blk_cell (j := 1) (v := .int .i64 r.cart) hX.out rfl
    have x2 := blk_cell (j := 2) (v := .string (bs r.key)) hX.out rfl
    have x3 := blk_cell (j := 3) (v := .int .i64 r.gen) hX.out rfl
    have x4 := blk_cell (j := 4) (v := .int .i64 r.group) hX.out rfl
    have x5 := blk_cell (j := 5) (v := .int .i64 r.groups) hX.out rfl
    have x6 := blk_cell (j := 6) (v := .int .i64 r.index) hX.out rfl
    have x7 := blk_cell (j := 7) (v := .int .i64 r.size) hX.out rfl
    have x8 := blk_cell (j := 8) (v := .string (bs r.sum)) hX.out rfl
    have x9 := blk_cell (j := 9) (v := .slice A r.data.length c) hX.out rfl
    have he := Lib.hid (rencode_no r A c hok.out hg.out _ hR.out)
    unfold Rc.agg at he
    go_wp2_with fail
    clear x0 x1 x2 x3 x4 x5 x6 x7 x8 x9
    refine he.out.mono ?_
    rintro e w2 ⟨rfl, hbb⟩
    replace hR := Lib.hid (hR.out.up hbb)
    replace hX := Lib.hid (blk_below hX.out hbb)
    replace hq := Lib.hid (hq.out.trans (hbb.mono hq.out.size))
    clear hbb
    clear he
    go_wp2_with fail
    obtain ⟨we, hwe⟩ : ∃ we, we = w2.drew := ⟨_, rfl⟩
    have hbb : Below w2.heap.size w2 we := by rw [hwe]; exact (Below.refl _ _).drew
    replace hR := Lib.hid (hR.out.up hbb)
    replace hX := Lib.hid (blk_below hX.out hbb)
    replace hq := Lib.hid (hq.out.trans (hbb.mono hq.out.size))
    clear hbb
    refine wpR_region (Upd (fun _ => False)) 9999 (by kernel_rfl) ?_
    (rw [← hwe]; replace hwe := Lib.hid hwe)
    refine wpR_one 0 rfl (by kernel_rfl) (by kernel_rfl) (fun K hK => ?_)
    go_simp
    refine (awake09_any _).mono ?_
    rintro e w3 ⟨rfl, hbb⟩
    refine hK _ _ (fun _ => Upd.of_below hbb) ?_
    clear hK K
    replace hR := Lib.hid (hR.out.up hbb)
    replace hX := Lib.hid (blk_below hX.out hbb)
    replace hq := Lib.hid (hq.out.trans (hbb.mono hq.out.size))
    clear hbb
    try simp only [Act.put, List.setIfInBounds_toArray, List.set_cons_zero, List.set_cons_succ]
    refine wpR_take (i := 1) (v := ?_) (Upd.road _) (some 18) rfl (by kernel_rfl) (by kernel_rfl) (by kernel_rfl) (by kernel_rfl) (by kernel_rfl) (fun _ _ _ h => h) (by kernel_rfl) (fun w' hw' => ?_) ?_
    rotate_left
    · go_simp; with_reducible rfl
    simp only [Act.put, List.setIfInBounds_toArray, List.set_cons_zero, List.set_cons_succ]
    refine wpR_take (i := 2) (v := ?_) (Upd.road _) (some 19) rfl (by kernel_rfl) (by kernel_rfl) (by kernel_rfl) (by kernel_rfl) (by kernel_rfl) (fun _ _ _ h => h) (by kernel_rfl) (fun w' hw' => ?_) ?_
    rotate_left
    · have qb := (hw'.2.2.2.2 _ (blk_lt hX.out) (by first | omega | exact (fun h => h))).trans hX.out; have q0 := blk_cell (j := 0) (v := .int .i64 r.kind) qb rfl; have q1 := blk_cell (j := 1) (v := .int .i64 r.cart) qb rfl; have q2 := blk_cell (j := 2) (v := .string (bs r.key)) qb rfl; have q3 := blk_cell (j := 3) (v := .int .i64 r.gen) qb rfl; have q4 := blk_cell (j := 4) (v := .int .i64 r.group) qb rfl; have q5 := blk_cell (j := 5) (v := .int .i64 r.groups) qb rfl; have q6 := blk_cell (j := 6) (v := .int .i64 r.index) qb rfl; have q7 := blk_cell (j := 7) (v := .int .i64 r.size) qb rfl; have q8 := blk_cell (j := 8) (v := .string (bs r.sum)) qb rfl; have q9 := blk_cell (j := 9) (v := .slice A r.data.length c) qb rfl; clear qb; go_simp; with_reducible rfl
    simp only [Act.put, List.setIfInBounds_toArray, List.set_cons_zero, List.set_cons_succ]
    refine wpR_take (i := 4) (v := ?_) (Upd.road _) (some 21) rfl (by kernel_rfl) (by kernel_rfl) (by kernel_rfl) (by kernel_rfl) (by kernel_rfl) (fun _ _ _ h => h) (by kernel_rfl) (fun w' hw' => ?_) ?_
    rotate_left
    · have qb := (hw'.2.2.2.2 _ (blk_lt hX.out) (by first | omega | exact (fun h => h))).trans hX.out; have q0 := blk_cell (j := 0) (v := .int .i64 r.kind) qb rfl; have q1 := blk_cell (j := 1) (v := .int .i64 r.cart) qb rfl; have q2 := blk_cell (j := 2) (v := .string (bs r.key)) qb rfl; have q3 := blk_cell (j := 3) (v := .int .i64 r.gen) qb rfl; have q4 := blk_cell (j := 4) (v := .int .i64 r.group) qb rfl; have q5 := blk_cell (j := 5) (v := .int .i64 r.groups) qb rfl; have q6 := blk_cell (j := 6) (v := .int .i64 r.index) qb rfl; have q7 := blk_cell (j := 7) (v := .int .i64 r.size) qb rfl; have q8 := blk_cell (j := 8) (v := .string (bs r.sum)) qb rfl; have q9 := blk_cell (j := 9) (v := .slice A r.data.length c) qb rfl; clear qb; go_simp; with_reducible rfl
    simp only [Act.put, List.setIfInBounds_toArray, List.set_cons_zero, List.set_cons_succ]
    refine wpR_one 3 rfl (by kernel_rfl) (by kernel_rfl) (fun K hK => ?_)
    go_simp
    have he := good_any r A c hok.out _ hR.out
    rw [hg.out] at he
    unfold Rc.agg at he
    refine he.mono ?_
    rintro e w4 ⟨rfl, hbb⟩
    refine hK _ _ (fun _ => Upd.of_below hbb) ?_
    clear hK K
    clear he
    replace hR := Lib.hid (hR.out.up hbb)
    replace hX := Lib.hid (blk_below hX.out hbb)
    replace hq := Lib.hid (hq.out.trans (hbb.mono hq.out.size))
    clear hbb
    try simp only [Act.put, List.setIfInBounds_toArray, List.set_cons_zero, List.set_cons_succ]
    refine wpR_one 5 rfl (by kernel_rfl) (by kernel_rfl) (fun K hK => ?_)
    go_simp
    have he := rgood_any r A c hok.out _ hR.out
    rw [hg.out] at he
    unfold Rc.agg at he
    refine he.mono ?_
    rintro e w5 ⟨rfl, hbb⟩
    refine hK _ _ (fun _ => Upd.of_below hbb) ?_
    clear hK K
    clear he
    replace hR := Lib.hid (hR.out.up hbb)
    replace hX := Lib.hid (blk_below hX.out hbb)
    replace hq := Lib.hid (hq.out.trans (hbb.mono hq.out.size))
    clear hbb
    try simp only [Act.put, List.setIfInBounds_toArray, List.set_cons_zero, List.set_cons_succ]
    refine wpR_take (i := 6) (v := ?_) (Upd.road _) (some 23) rfl (by kernel_rfl) (by kernel_rfl) (by kernel_rfl) (by kernel_rfl) (by kernel_rfl) (fun _ _ _ h => h) (by kernel_rfl) (fun w' hw' => ?_) ?_
    rotate_left
    · go_simp; with_reducible rfl
    simp only [Act.put, List.setIfInBounds_toArray, List.set_cons_zero, List.set_cons_succ]
    refine wpR_take (i := 7) (v := ?_) (Upd.road _) (some 24) rfl (by kernel_rfl) (by kernel_rfl) (by kernel_rfl) (by kernel_rfl) (by kernel_rfl) (fun _ _ _ h => h) (by kernel_rfl) (fun w' hw' => ?_) ?_
    rotate_left
    · go_simp; with_reducible rfl
    simp only [Act.put, List.setIfInBounds_toArray, List.set_cons_zero, List.set_cons_succ]
    refine wpR_take (i := 8) (v := ?_) (Upd.road _) (some 25) rfl (by kernel_rfl) (by kernel_rfl) (by kernel_rfl) (by kernel_rfl) (by kernel_rfl) (fun _ _ _ h => h) (by kernel_rfl) (fun w' hw' => ?_) ?_
    rotate_left
    · go_simp; with_reducible rfl
    simp only [Act.put, List.setIfInBounds_toArray, List.set_cons_zero, List.set_cons_succ]
    refine wpR_take (i := 9) (v := ?_) (Upd.road _) (some 26) rfl (by kernel_rfl) (by kernel_rfl) (by kernel_rfl) (by kernel_rfl) (by kernel_rfl) (fun _ _ _ h => h) (by kernel_rfl) (fun w' hw' => ?_) ?_
    rotate_left
    · go_simp; with_reducible rfl
    simp only [Act.put, List.setIfInBounds_toArray, List.set_cons_zero, List.set_cons_succ]
    refine wpR_take (i := 10) (v := ?_) (Upd.road _) (some 27) rfl (by kernel_rfl) (by kernel_rfl) (by kernel_rfl) (by kernel_rfl) (by kernel_rfl) (fun _ _ _ h => h) (by kernel_rfl) (fun w' hw' => ?_) ?_
    rotate_left
    · go_simp; with_reducible rfl
    simp only [Act.put, List.setIfInBounds_toArray, List.set_cons_zero, List.set_cons_succ]
    refine wpR_take (i := 11) (v := ?_) (Upd.road _) (some 28) rfl (by kernel_rfl) (by kernel_rfl) (by kernel_rfl) (by kernel_rfl) (by kernel_rfl) (fun _ _ _ h => h) (by kernel_rfl) (fun w' hw' => ?_) ?_
    rotate_left
    · go_simp; with_reducible rfl
    simp only [Act.put, List.setIfInBounds_toArray, List.set_cons_zero, List.set_cons_succ]
    refine wpR_take (i := 12) (v := ?_) (Upd.road _) (some 29) rfl (by kernel_rfl) (by kernel_rfl) (by kernel_rfl) (by kernel_rfl) (by kernel_rfl) (fun _ _ _ h => h) (by kernel_rfl) (fun w' hw' => ?_) ?_
    rotate_left
    · go_simp; with_reducible rfl
    simp only [Act.put, List.setIfInBounds_toArray, List.set_cons_zero, List.set_cons_succ]
    refine wpR_take (i := 13) (v := ?_) (Upd.road _) (some 30) rfl (by kernel_rfl) (by kernel_rfl) (by kernel_rfl) (by kernel_rfl) (by kernel_rfl) (fun _ _ _ h => h) (by kernel_rfl) (fun w' hw' => ?_) ?_
    rotate_left
    · go_simp; with_reducible rfl
    simp only [Act.put, List.setIfInBounds_toArray, List.set_cons_zero, List.set_cons_succ]
    refine wpR_take (i := 14) (v := ?_) (Upd.road _) (some 31) rfl (by kernel_rfl) (by kernel_rfl) (by kernel_rfl) (by kernel_rfl) (by kernel_rfl) (fun _ _ _ h => h) (by kernel_rfl) (fun w' hw' => ?_) ?_
    rotate_left
    · go_simp; with_reducible rfl
    simp only [Act.put, List.setIfInBounds_toArray, List.set_cons_zero, List.set_cons_succ]
    refine wpR_take (i := 15) (v := ?_) (Upd.road _) (some 32) rfl (by kernel_rfl) (by kernel_rfl) (by kernel_rfl) (by kernel_rfl) (by kernel_rfl) (fun _ _ _ h => h) (by kernel_rfl) (fun w' hw' => ?_) ?_
    rotate_left
    · have cv : (convert 24 9 (.slice none 0 0)).run Try.prog w' = .ok (.string (bs [])) w' := run_str_at 0 (Rd.nil_ (w := w') (B := 0) (A := none)) rfl; go_simp; with_reducible rfl
    simp only [Act.put, List.setIfInBounds_toArray, List.set_cons_zero, List.set_cons_succ]
    refine wpR_take (i := 16) (v := ?_) (Upd.road _) (some 33) rfl (by kernel_rfl) (by kernel_rfl) (by kernel_rfl) (by kernel_rfl) (by kernel_rfl) (fun _ _ _ h => h) (by kernel_rfl) (fun w' hw' => ?_) ?_
    rotate_left
    · go_simp; with_reducible rfl
    simp only [Act.put, List.setIfInBounds_toArray, List.set_cons_zero, List.set_cons_succ]
    refine wpR_take (i := 17) (v := ?_) (Upd.road _) (some 34) rfl (by kernel_rfl) (by kernel_rfl) (by kernel_rfl) (by kernel_rfl) (by kernel_rfl) (fun _ _ _ h => h) (by kernel_rfl) (fun w' hw' => ?_) ?_
    rotate_left
    · have cv : (convert 24 9 (.slice none 0 0)).run Try.prog w' = .ok (.string (bs [])) w' := run_str_at 0 (Rd.nil_ (w := w') (B := 0) (A := none)) rfl; go_simp; with_reducible rfl
    simp only [Act.put, List.setIfInBounds_toArray, List.set_cons_zero, List.set_cons_succ]
    refine wpR_take (i := 18) (v := ?_) (Upd.road _) (some 35) rfl (by kernel_rfl) (by kernel_rfl) (by kernel_rfl) (by kernel_rfl) (by kernel_rfl) (fun _ _ _ h => h) (by kernel_rfl) (fun w' hw' => ?_) ?_
    rotate_left
    · go_simp; with_reducible rfl
    simp only [Act.put, List.setIfInBounds_toArray, List.set_cons_zero, List.set_cons_succ]
    refine wpR_take (i := 19) (v := ?_) (Upd.road _) (some 36) rfl (by kernel_rfl) (by kernel_rfl) (by kernel_rfl) (by kernel_rfl) (by kernel_rfl) (fun _ _ _ h => h) (by kernel_rfl) (fun w' hw' => ?_) ?_
    rotate_left
    · go_simp; with_reducible rfl
    simp only [Act.put, List.setIfInBounds_toArray, List.set_cons_zero, List.set_cons_succ]
    refine wpR_take (i := 20) (v := ?_) (Upd.road _) (some 2) rfl (by kernel_rfl) (by kernel_rfl) (by kernel_rfl) (by kernel_rfl) (by kernel_rfl) (fun _ _ _ h => h) (by kernel_rfl) (fun w' hw' => ?_) ?_
    rotate_left
    · go_simp; with_reducible rfl
    simp only [Act.put, List.setIfInBounds_toArray, List.set_cons_zero, List.set_cons_succ]
    refine wpR_done (by kernel_rfl) ?_ _
    go_wp2_with fail
    go_ret
    exact ⟨rfl, hq.out⟩
  | true =>
    have he := Lib.hid (encode_ok r A c hok.out hg _ hR.out)
    replace hg := Lib.hid hg
    unfold Rc.agg at he ⊢
    go_enter Try.func4, Try.ntmps4
    go_wp2_with fail
    refine he.out.mono ?_
    rintro e w1 ⟨v1, rfl, ho, hbb⟩
    obtain ⟨A8, c8, rfl, -, -, hE, -⟩ := ho.form
    obtain ⟨x, hx⟩ : ∃ x, encB r = x := ⟨_, rfl⟩
    rw [hx] at hE ⊢
    obtain ⟨n8, hn8⟩ : ∃ n8, x.length = n8 := ⟨_, rfl⟩
    rw [hn8]
    replace hn8 := Lib.hid hn8
    replace hx := Lib.hid hx
    replace hE := Lib.hid hE
    clear ho
    replace hR := Lib.hid (hR.out.up hbb)
    replace hX := Lib.hid (blk_below hX.out hbb)
    replace hq := Lib.hid (hq.out.trans (hbb.mono hq.out.size))
    clear hbb
    clear he
    try rw [hN.out]
    have x0 := blk_cell (j := 0) (v := .int .i64 r.kind) hX.out rfl
    have x1 := blk_cell (j := 1) (v := .int .i64 r.cart) hX.out rfl
    have x2 := blk_cell (j := 2) (v := .string (bs r.key)) hX.out rfl
    have x3 := blk_cell (j := 3) (v := .int .i64 r.gen) hX.out rfl
    have x4 := blk_cell (j := 4) (v := .int .i64 r.group) hX.out rfl
    have x5 := blk_cell (j := 5) (v := .int .i64 r.groups) hX.out rfl
    have x6 := blk_cell (j := 6) (v := .int .i64 r.index) hX.out rfl
    have x7 := blk_cell (j := 7) (v := .int .i64 r.size) hX.out rfl
    have x8 := blk_cell (j := 8) (v := .string (bs r.sum)) hX.out rfl
    have x9 := blk_cell (j := 9) (v := .slice A r.data.length c) hX.out rfl
    have he := Lib.hid (rencode_ok r A c hok.out hg.out _ hR.out)
    unfold Rc.agg at he
    go_wp2_with fail
    clear x0 x1 x2 x3 x4 x5 x6 x7 x8 x9
    refine he.out.mono ?_
    rintro e w2 ⟨v1, rfl, ho, hbb⟩
    rw [hx.out] at ho
    obtain ⟨A9, c9, rfl, -, -, hF, -⟩ := ho.form
    rw [hn8.out]
    replace hF := Lib.hid hF
    clear ho
    replace hR := Lib.hid (hR.out.up hbb)
    replace hX := Lib.hid (blk_below hX.out hbb)
    replace hq := Lib.hid (hq.out.trans (hbb.mono hq.out.size))
    replace hE := Lib.hid (hE.out.up hbb)
    clear hbb
    clear he
    go_wp2_with fail
    obtain ⟨we, hwe⟩ : ∃ we, we = w2.drew := ⟨_, rfl⟩
    have hbb : Below w2.heap.size w2 we := by rw [hwe]; exact (Below.refl _ _).drew
    replace hR := Lib.hid (hR.out.up hbb)
    replace hX := Lib.hid (blk_below hX.out hbb)
    replace hq := Lib.hid (hq.out.trans (hbb.mono hq.out.size))
    replace hE := Lib.hid (hE.out.up hbb)
    replace hF := Lib.hid (hF.out.up hbb)
    clear hbb
    refine wpR_region (Upd (fun _ => False)) 9999 (by kernel_rfl) ?_
    (rw [← hwe]; replace hwe := Lib.hid hwe)
    refine wpR_one 0 rfl (by kernel_rfl) (by kernel_rfl) (fun K hK => ?_)
    go_simp
    refine (awake09_any _).mono ?_
    rintro e w3 ⟨rfl, hbb⟩
    refine hK _ _ (fun _ => Upd.of_below hbb) ?_
    clear hK K
    replace hR := Lib.hid (hR.out.up hbb)
    replace hX := Lib.hid (blk_below hX.out hbb)
    replace hq := Lib.hid (hq.out.trans (hbb.mono hq.out.size))
    replace hE := Lib.hid (hE.out.up hbb)
    replace hF := Lib.hid (hF.out.up hbb)
    clear hbb
    try simp only [Act.put, List.setIfInBounds_toArray, List.set_cons_zero, List.set_cons_succ]
    refine wpR_take (i := 1) (v := ?_) (Upd.road _) (some 18) rfl (by kernel_rfl) (by kernel_rfl) (by kernel_rfl) (by kernel_rfl) (by kernel_rfl) (fun _ _ _ h => h) (by kernel_rfl) (fun w' hw' => ?_) ?_
    rotate_left
    · go_simp; with_reducible rfl
    simp only [Act.put, List.setIfInBounds_toArray, List.set_cons_zero, List.set_cons_succ]
    refine wpR_take (i := 2) (v := ?_) (Upd.road _) (some 19) rfl (by kernel_rfl) (by kernel_rfl) (by kernel_rfl) (by kernel_rfl) (by kernel_rfl) (fun _ _ _ h => h) (by kernel_rfl) (fun w' hw' => ?_) ?_
    rotate_left
    · have qb := (hw'.2.2.2.2 _ (blk_lt hX.out) (by first | omega | exact (fun h => h))).trans hX.out; have q0 := blk_cell (j := 0) (v := .int .i64 r.kind) qb rfl; have q1 := blk_cell (j := 1) (v := .int .i64 r.cart) qb rfl; have q2 := blk_cell (j := 2) (v := .string (bs r.key)) qb rfl; have q3 := blk_cell (j := 3) (v := .int .i64 r.gen) qb rfl; have q4 := blk_cell (j := 4) (v := .int .i64 r.group) qb rfl; have q5 := blk_cell (j := 5) (v := .int .i64 r.groups) qb rfl; have q6 := blk_cell (j := 6) (v := .int .i64 r.index) qb rfl; have q7 := blk_cell (j := 7) (v := .int .i64 r.size) qb rfl; have q8 := blk_cell (j := 8) (v := .string (bs r.sum)) qb rfl; have q9 := blk_cell (j := 9) (v := .slice A r.data.length c) qb rfl; clear qb; go_simp; with_reducible rfl
    simp only [Act.put, List.setIfInBounds_toArray, List.set_cons_zero, List.set_cons_succ]
    refine wpR_take (i := 4) (v := ?_) (Upd.road _) (some 21) rfl (by kernel_rfl) (by kernel_rfl) (by kernel_rfl) (by kernel_rfl) (by kernel_rfl) (fun _ _ _ h => h) (by kernel_rfl) (fun w' hw' => ?_) ?_
    rotate_left
    · have qb := (hw'.2.2.2.2 _ (blk_lt hX.out) (by first | omega | exact (fun h => h))).trans hX.out; have q0 := blk_cell (j := 0) (v := .int .i64 r.kind) qb rfl; have q1 := blk_cell (j := 1) (v := .int .i64 r.cart) qb rfl; have q2 := blk_cell (j := 2) (v := .string (bs r.key)) qb rfl; have q3 := blk_cell (j := 3) (v := .int .i64 r.gen) qb rfl; have q4 := blk_cell (j := 4) (v := .int .i64 r.group) qb rfl; have q5 := blk_cell (j := 5) (v := .int .i64 r.groups) qb rfl; have q6 := blk_cell (j := 6) (v := .int .i64 r.index) qb rfl; have q7 := blk_cell (j := 7) (v := .int .i64 r.size) qb rfl; have q8 := blk_cell (j := 8) (v := .string (bs r.sum)) qb rfl; have q9 := blk_cell (j := 9) (v := .slice A r.data.length c) qb rfl; clear qb; go_simp; with_reducible rfl
    simp only [Act.put, List.setIfInBounds_toArray, List.set_cons_zero, List.set_cons_succ]
    refine wpR_one 3 rfl (by kernel_rfl) (by kernel_rfl) (fun K hK => ?_)
    go_simp
    have he := good_any r A c hok.out _ hR.out
    rw [hg.out] at he
    unfold Rc.agg at he
    refine he.mono ?_
    rintro e w4 ⟨rfl, hbb⟩
    refine hK _ _ (fun _ => Upd.of_below hbb) ?_
    clear hK K
    clear he
    replace hR := Lib.hid (hR.out.up hbb)
    replace hX := Lib.hid (blk_below hX.out hbb)
    replace hq := Lib.hid (hq.out.trans (hbb.mono hq.out.size))
    replace hE := Lib.hid (hE.out.up hbb)
    replace hF := Lib.hid (hF.out.up hbb)
    clear hbb
    try simp only [Act.put, List.setIfInBounds_toArray, List.set_cons_zero, List.set_cons_succ]
    refine wpR_one 5 rfl (by kernel_rfl) (by kernel_rfl) (fun K hK => ?_)
    go_simp
    have he := rgood_any r A c hok.out _ hR.out
    rw [hg.out] at he
    unfold Rc.agg at he
    refine he.mono ?_
    rintro e w5 ⟨rfl, hbb⟩
    refine hK _ _ (fun _ => Upd.of_below hbb) ?_
    clear hK K
    clear he
    replace hR := Lib.hid (hR.out.up hbb)
    replace hX := Lib.hid (blk_below hX.out hbb)
    replace hq := Lib.hid (hq.out.trans (hbb.mono hq.out.size))
    replace hE := Lib.hid (hE.out.up hbb)
    replace hF := Lib.hid (hF.out.up hbb)
    clear hbb
    try simp only [Act.put, List.setIfInBounds_toArray, List.set_cons_zero, List.set_cons_succ]
    refine wpR_take (i := 6) (v := ?_) (Upd.road _) (some 23) rfl (by kernel_rfl) (by kernel_rfl) (by kernel_rfl) (by kernel_rfl) (by kernel_rfl) (fun _ _ _ h => h) (by kernel_rfl) (fun w' hw' => ?_) ?_
    rotate_left
    · go_simp; with_reducible rfl
    simp only [Act.put, List.setIfInBounds_toArray, List.set_cons_zero, List.set_cons_succ]
    refine wpR_take (i := 7) (v := ?_) (Upd.road _) (some 24) rfl (by kernel_rfl) (by kernel_rfl) (by kernel_rfl) (by kernel_rfl) (by kernel_rfl) (fun _ _ _ h => h) (by kernel_rfl) (fun w' hw' => ?_) ?_
    rotate_left
    · go_simp; with_reducible rfl
    simp only [Act.put, List.setIfInBounds_toArray, List.set_cons_zero, List.set_cons_succ]
    refine wpR_take (i := 8) (v := ?_) (Upd.road _) (some 25) rfl (by kernel_rfl) (by kernel_rfl) (by kernel_rfl) (by kernel_rfl) (by kernel_rfl) (fun _ _ _ h => h) (by kernel_rfl) (fun w' hw' => ?_) ?_
    rotate_left
    · go_simp; with_reducible rfl
    simp only [Act.put, List.setIfInBounds_toArray, List.set_cons_zero, List.set_cons_succ]
    refine wpR_take (i := 9) (v := ?_) (Upd.road _) (some 26) rfl (by kernel_rfl) (by kernel_rfl) (by kernel_rfl) (by kernel_rfl) (by kernel_rfl) (fun _ _ _ h => h) (by kernel_rfl) (fun w' hw' => ?_) ?_
    rotate_left
    · go_simp; with_reducible rfl
    simp only [Act.put, List.setIfInBounds_toArray, List.set_cons_zero, List.set_cons_succ]
    refine wpR_take (i := 10) (v := ?_) (Upd.road _) (some 27) rfl (by kernel_rfl) (by kernel_rfl) (by kernel_rfl) (by kernel_rfl) (by kernel_rfl) (fun _ _ _ h => h) (by kernel_rfl) (fun w' hw' => ?_) ?_
    rotate_left
    · go_simp; with_reducible rfl
    simp only [Act.put, List.setIfInBounds_toArray, List.set_cons_zero, List.set_cons_succ]
    refine wpR_take (i := 11) (v := ?_) (Upd.road _) (some 28) rfl (by kernel_rfl) (by kernel_rfl) (by kernel_rfl) (by kernel_rfl) (by kernel_rfl) (fun _ _ _ h => h) (by kernel_rfl) (fun w' hw' => ?_) ?_
    rotate_left
    · go_simp; with_reducible rfl
    simp only [Act.put, List.setIfInBounds_toArray, List.set_cons_zero, List.set_cons_succ]
    refine wpR_take (i := 12) (v := ?_) (Upd.road _) (some 29) rfl (by kernel_rfl) (by kernel_rfl) (by kernel_rfl) (by kernel_rfl) (by kernel_rfl) (fun _ _ _ h => h) (by kernel_rfl) (fun w' hw' => ?_) ?_
    rotate_left
    · go_simp; with_reducible rfl
    simp only [Act.put, List.setIfInBounds_toArray, List.set_cons_zero, List.set_cons_succ]
    refine wpR_take (i := 13) (v := ?_) (Upd.road _) (some 30) rfl (by kernel_rfl) (by kernel_rfl) (by kernel_rfl) (by kernel_rfl) (by kernel_rfl) (fun _ _ _ h => h) (by kernel_rfl) (fun w' hw' => ?_) ?_
    rotate_left
    · go_simp; with_reducible rfl
    simp only [Act.put, List.setIfInBounds_toArray, List.set_cons_zero, List.set_cons_succ]
    refine wpR_take (i := 14) (v := ?_) (Upd.road _) (some 31) rfl (by kernel_rfl) (by kernel_rfl) (by kernel_rfl) (by kernel_rfl) (by kernel_rfl) (fun _ _ _ h => h) (by kernel_rfl) (fun w' hw' => ?_) ?_
    rotate_left
    · go_simp; with_reducible rfl
    simp only [Act.put, List.setIfInBounds_toArray, List.set_cons_zero, List.set_cons_succ]
    refine wpR_take (i := 15) (v := ?_) (Upd.road _) (some 32) rfl (by kernel_rfl) (by kernel_rfl) (by kernel_rfl) (by kernel_rfl) (by kernel_rfl) (fun _ _ _ h => h) (by kernel_rfl) (fun w' hw' => ?_) ?_
    rotate_left
    · have cv := run_str_at c8 (hE.out.upd (fun _ _ _ h => h) hw') hn8.out; go_simp; with_reducible rfl
    simp only [Act.put, List.setIfInBounds_toArray, List.set_cons_zero, List.set_cons_succ]
    refine wpR_take (i := 16) (v := ?_) (Upd.road _) (some 33) rfl (by kernel_rfl) (by kernel_rfl) (by kernel_rfl) (by kernel_rfl) (by kernel_rfl) (fun _ _ _ h => h) (by kernel_rfl) (fun w' hw' => ?_) ?_
    rotate_left
    · go_simp; with_reducible rfl
    simp only [Act.put, List.setIfInBounds_toArray, List.set_cons_zero, List.set_cons_succ]
    refine wpR_take (i := 17) (v := ?_) (Upd.road _) (some 34) rfl (by kernel_rfl) (by kernel_rfl) (by kernel_rfl) (by kernel_rfl) (by kernel_rfl) (fun _ _ _ h => h) (by kernel_rfl) (fun w' hw' => ?_) ?_
    rotate_left
    · have cv := run_str_at c9 (hF.out.upd (fun _ _ _ h => h) hw') hn8.out; go_simp; with_reducible rfl
    simp only [Act.put, List.setIfInBounds_toArray, List.set_cons_zero, List.set_cons_succ]
    refine wpR_take (i := 18) (v := ?_) (Upd.road _) (some 35) rfl (by kernel_rfl) (by kernel_rfl) (by kernel_rfl) (by kernel_rfl) (by kernel_rfl) (fun _ _ _ h => h) (by kernel_rfl) (fun w' hw' => ?_) ?_
    rotate_left
    · go_simp; with_reducible rfl
    simp only [Act.put, List.setIfInBounds_toArray, List.set_cons_zero, List.set_cons_succ]
    refine wpR_take (i := 19) (v := ?_) (Upd.road _) (some 36) rfl (by kernel_rfl) (by kernel_rfl) (by kernel_rfl) (by kernel_rfl) (by kernel_rfl) (fun _ _ _ h => h) (by kernel_rfl) (fun w' hw' => ?_) ?_
    rotate_left
    · go_simp; with_reducible rfl
    simp only [Act.put, List.setIfInBounds_toArray, List.set_cons_zero, List.set_cons_succ]
    refine wpR_take (i := 20) (v := ?_) (Upd.road _) (some 2) rfl (by kernel_rfl) (by kernel_rfl) (by kernel_rfl) (by kernel_rfl) (by kernel_rfl) (fun _ _ _ h => h) (by kernel_rfl) (fun w' hw' => ?_) ?_
    rotate_left
    · go_simp; with_reducible rfl
    simp only [Act.put, List.setIfInBounds_toArray, List.set_cons_zero, List.set_cons_succ]
    refine wpR_done (by kernel_rfl) ?_ _
    go_wp2_with fail
    go_ret
    exact ⟨rfl, hq.out⟩
end Go.Proofs.Yticdkmnjolkacab
