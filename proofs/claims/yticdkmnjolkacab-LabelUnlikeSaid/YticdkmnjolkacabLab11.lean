/- The laws of label: LabelUnlike. -/
import Derived.Test.YticdkmnjolkacabLab10
namespace Go.Proofs.Yticdkmnjolkacab
set_option linter.unusedVariables false
set_option linter.unusedSimpArgs false
open Go Go.RowKit
set_option maxHeartbeats 8000000 in
set_option maxRecDepth 20000 in
theorem labelUnlike_any (a b : Rc) (A A2 : Option Addr) (c c2 : Nat) (hoa : a.Ok) (hob : b.Ok) (w : World) (h : Rd w w.heap.size A a.data) (h2 : Rd w w.heap.size A2 b.data) :
    Calls Try.prog 10 #[a.agg A c, b.agg A2 c2] w fun e w' => e = .returned (.bool true) ∧ Below w.heap.size w w' := by
  have hb1 := (Below.refl w.heap.size w).alloc (Nat.le_refl _) (.cells #[.int .i64 a.kind, .int .i64 a.cart, .string (bs a.key), .int .i64 a.gen, .int .i64 a.group, .int .i64 a.groups, .int .i64 a.index, .int .i64 a.size, .string (bs a.sum), .slice A a.data.length c] 34)
  have hb2 := hb1.alloc hb1.size (.cells #[.int .i64 b.kind, .int .i64 b.cart, .string (bs b.key), .int .i64 b.gen, .int .i64 b.group, .int .i64 b.groups, .int .i64 b.index, .int .i64 b.size, .string (bs b.sum), .slice A2 b.data.length c2] 34)
  have hRa0 := Lib.hid (h.up hb2)
  have hRb0 := Lib.hid (h2.up hb2)
  have hA := blk_alloc (heap_alloc_new w (.cells #[.int .i64 a.kind, .int .i64 a.cart, .string (bs a.key), .int .i64 a.gen, .int .i64 a.group, .int .i64 a.groups, .int .i64 a.index, .int .i64 a.size, .string (bs a.sum), .slice A a.data.length c] 34)) (.cells #[.int .i64 b.kind, .int .i64 b.cart, .string (bs b.key), .int .i64 b.gen, .int .i64 b.group, .int .i64 b.groups, .int .i64 b.index, .int .i64 b.size, .string (bs b.sum), .slice A2 b.data.length c2] 34)
  have hB := heap_alloc_new (w.alloc (.cells #[.int .i64 a.kind, .int .i64 a.cart, .string (bs a.key), .int .i64 a.gen, .int .i64 a.group, .int .i64 a.groups, .int .i64 a.index, .int .i64 a.size, .string (bs a.sum), .slice A a.data.length c] 34)) (.cells #[.int .i64 b.kind, .int .i64 b.cart, .string (bs b.key), .int .i64 b.gen, .int .i64 b.group, .int .i64 b.groups, .int .i64 b.index, .int .i64 b.size, .string (bs b.sum), .slice A2 b.data.length c2] 34)
  have hsz : (w.alloc (.cells #[.int .i64 a.kind, .int .i64 a.cart, .string (bs a.key), .int .i64 a.gen, .int .i64 a.group, .int .i64 a.groups, .int .i64 a.index, .int .i64 a.size, .string (bs a.sum), .slice A a.data.length c] 34)).heap.size = w.heap.size + 1 := by simp
  rw [hsz] at hB
  obtain ⟨N, hN⟩ : ∃ N, w.heap.size = N := ⟨_, rfl⟩
  rw [hN] at hA hB
  have hA0 := Lib.hid hA
  have hB0 := Lib.hid hB
  have hq0 := Lib.hid hb2
  clear hb1 hb2 hA hB hsz h h2
  replace hN := Lib.hid hN
  replace hoa := Lib.hid hoa
  replace hob := Lib.hid hob
  cases hga : goodB a with
  | false =>
    have he := Lib.hid (encode_no a A c hoa.out hga _ hRa0.out)
    replace hga := Lib.hid hga
    unfold Rc.agg at he ⊢
    go_enter Try.func10, Try.ntmps10
    go_wp2_with fail
    refine he.out.mono ?_
    rintro e w1 ⟨rfl, hbb⟩
    have hA1 := Lib.hid (blk_below hA0.out hbb)
    have hB1 := Lib.hid (blk_below hB0.out hbb)
    have hRa1 := Lib.hid (hRa0.out.up hbb)
    have hRb1 := Lib.hid (hRb0.out.up hbb)
    have hq1 := Lib.hid (hq0.out.trans (hbb.mono hq0.out.size))
    clear hbb
    rw [hN.out]
    have q0 := blk_cell (j := 0) (v := .int .i64 b.kind) hB1.out rfl
    have q1 := blk_cell (j := 1) (v := .int .i64 b.cart) hB1.out rfl
    have q2 := blk_cell (j := 2) (v := .string (bs b.key)) hB1.out rfl
    have q3 := blk_cell (j := 3) (v := .int .i64 b.gen) hB1.out rfl
    have q4 := blk_cell (j := 4) (v := .int .i64 b.group) hB1.out rfl
    have q5 := blk_cell (j := 5) (v := .int .i64 b.groups) hB1.out rfl
    have q6 := blk_cell (j := 6) (v := .int .i64 b.index) hB1.out rfl
    have q7 := blk_cell (j := 7) (v := .int .i64 b.size) hB1.out rfl
    have q8 := blk_cell (j := 8) (v := .string (bs b.sum)) hB1.out rfl
    have q9 := blk_cell (j := 9) (v := .slice A2 b.data.length c2) hB1.out rfl
    cases hgb : goodB b with
    | false =>
      have he2 := Lib.hid (encode_no b A2 c2 hob.out hgb _ hRb1.out)
      replace hgb := Lib.hid hgb
      unfold Rc.agg at he2
      go_wp2_with fail
      clear q0 q1 q2 q3 q4 q5 q6 q7 q8 q9
      refine he2.out.mono ?_
      rintro e w2 ⟨rfl, hbb⟩
      have hq2 := Lib.hid (hq1.out.trans (hbb.mono hq1.out.size))
      clear hbb
      go_wp2_with fail
      refine (awake09_any _).mono ?_
      rintro e w9 ⟨rfl, hbb⟩
      have hq9 := Lib.hid (hq2.out.trans (hbb.mono hq2.out.size))
      clear hbb
      go_wp2
      go_ret
      exact ⟨rfl, hq9.out⟩
    | true =>
      have he2 := Lib.hid (encode_ok b A2 c2 hob.out hgb _ hRb1.out)
      replace hgb := Lib.hid hgb
      unfold Rc.agg at he2
      go_wp2_with fail
      clear q0 q1 q2 q3 q4 q5 q6 q7 q8 q9
      refine he2.out.mono ?_
      rintro e w2 ⟨v2, rfl, -, hbb⟩
      have hq2 := Lib.hid (hq1.out.trans (hbb.mono hq1.out.size))
      clear hbb
      go_wp2_with fail
      refine (awake09_any _).mono ?_
      rintro e w9 ⟨rfl, hbb⟩
      have hq9 := Lib.hid (hq2.out.trans (hbb.mono hq2.out.size))
      clear hbb
      go_wp2
      go_ret
      exact ⟨rfl, hq9.out⟩
  | true =>
    have he := Lib.hid (encode_ok a A c hoa.out hga _ hRa0.out)
    unfold Rc.agg at he ⊢
    replace hga := Lib.hid hga
    go_enter Try.func10, Try.ntmps10
    go_wp2_with fail
    refine he.out.mono ?_
    rintro e w1 ⟨v1, rfl, ho1, hbb⟩
    have hA1 := Lib.hid (blk_below hA0.out hbb)
    have hB1 := Lib.hid (blk_below hB0.out hbb)
    have hRa1 := Lib.hid (hRa0.out.up hbb)
    have hRb1 := Lib.hid (hRb0.out.up hbb)
    have hq1 := Lib.hid (hq0.out.trans (hbb.mono hq0.out.size))
    clear hbb
    obtain ⟨la, hla⟩ : ∃ l, encB a = l := ⟨_, rfl⟩
    rw [hla] at ho1
    obtain ⟨A8, c8, rfl, -, -, hX1, -⟩ := ho1.form
    obtain ⟨na, hlx⟩ : ∃ n, la.length = n := ⟨_, rfl⟩
    rw [hlx]
    replace hlx := Lib.hid hlx
    replace hX1 := Lib.hid hX1
    clear ho1 he
    rw [hN.out]
    have q0 := blk_cell (j := 0) (v := .int .i64 b.kind) hB1.out rfl
    have q1 := blk_cell (j := 1) (v := .int .i64 b.cart) hB1.out rfl
    have q2 := blk_cell (j := 2) (v := .string (bs b.key)) hB1.out rfl
    have q3 := blk_cell (j := 3) (v := .int .i64 b.gen) hB1.out rfl
    have q4 := blk_cell (j := 4) (v := .int .i64 b.group) hB1.out rfl
    have q5 := blk_cell (j := 5) (v := .int .i64 b.groups) hB1.out rfl
    have q6 := blk_cell (j := 6) (v := .int .i64 b.index) hB1.out rfl
    have q7 := blk_cell (j := 7) (v := .int .i64 b.size) hB1.out rfl
    have q8 := blk_cell (j := 8) (v := .string (bs b.sum)) hB1.out rfl
    have q9 := blk_cell (j := 9) (v := .slice A2 b.data.length c2) hB1.out rfl
    cases hgb : goodB b with
    | false =>
      have he2 := Lib.hid (encode_no b A2 c2 hob.out hgb _ hRb1.out)
      replace hgb := Lib.hid hgb
      replace hla := Lib.hid hla
      unfold Rc.agg at he2
      go_wp2_with fail
      clear q0 q1 q2 q3 q4 q5 q6 q7 q8 q9
      refine he2.out.mono ?_
      rintro e w2 ⟨rfl, hbb⟩
      have hq2 := Lib.hid (hq1.out.trans (hbb.mono hq1.out.size))
      clear hbb
      go_wp2_with fail
      refine (awake09_any _).mono ?_
      rintro e w9 ⟨rfl, hbb⟩
      have hq9 := Lib.hid (hq2.out.trans (hbb.mono hq2.out.size))
      clear hbb
      go_wp2
      go_ret
      exact ⟨rfl, hq9.out⟩
    | true =>
      have he2 := Lib.hid (encode_ok b A2 c2 hob.out hgb _ hRb1.out)
      have hinj := encB_inj hga.out hgb
      unfold Rc.agg at he2
      obtain ⟨sv, hsv⟩ : ∃ sv, sameR a b = sv := ⟨_, rfl⟩
      obtain ⟨lb, hlb⟩ : ∃ l, encB b = l := ⟨_, rfl⟩
      rw [hla, hlb, hsv] at hinj
      have hinj2 : (bs la == bs lb) = sv := by rw [bs_beq]; exact hinj
      have hse : (sv == sv) = true := by cases sv <;> rfl
      replace hgb := Lib.hid hgb
      replace hsv := Lib.hid hsv
      replace hla := Lib.hid hla
      replace hlb := Lib.hid hlb
      go_wp2_with fail
      clear q0 q1 q2 q3 q4 q5 q6 q7 q8 q9
      refine he2.out.mono ?_
      rintro e w3 ⟨v3, rfl, ho3, hbb⟩
      rw [hlb.out] at ho3
      obtain ⟨A9, c9, rfl, -, -, hY3, -⟩ := ho3.form
      obtain ⟨nb, hly⟩ : ∃ n, lb.length = n := ⟨_, rfl⟩
      rw [hly]
      replace hly := Lib.hid hly
      replace hY3 := Lib.hid hY3
      have hX3 := Lib.hid (hX1.out.up hbb)
      have hA3 := Lib.hid (blk_below hA1.out hbb)
      have hB3 := Lib.hid (blk_below hB1.out hbb)
      have hRa3 := Lib.hid (hRa1.out.up hbb)
      have hRb3 := Lib.hid (hRb1.out.up hbb)
      have hq3 := Lib.hid (hq1.out.trans (hbb.mono hq1.out.size))
      clear hbb
      clear ho3 he2
      go_wp2_with fail
      obtain ⟨we, hwe⟩ : ∃ we, we = w3.drew := ⟨_, rfl⟩
      have hq4 : Hid (Below w.heap.size w we) := Lib.hid (by rw [hwe]; exact hq3.out.drew)
      have hA4 : Hid (we.heap[N]? = some (.cells #[.int .i64 a.kind, .int .i64 a.cart, .string (bs a.key), .int .i64 a.gen, .int .i64 a.group, .int .i64 a.groups, .int .i64 a.index, .int .i64 a.size, .string (bs a.sum), .slice A a.data.length c] 34 (0, 0))) := Lib.hid (by rw [hwe]; exact hA3.out)
      have hB4 : Hid (we.heap[N + 1]? = some (.cells #[.int .i64 b.kind, .int .i64 b.cart, .string (bs b.key), .int .i64 b.gen, .int .i64 b.group, .int .i64 b.groups, .int .i64 b.index, .int .i64 b.size, .string (bs b.sum), .slice A2 b.data.length c2] 34 (0, 0))) := Lib.hid (by rw [hwe]; exact hB3.out)
      have hRa4 : Hid (Rd we we.heap.size A a.data) := Lib.hid (by rw [hwe]; exact hRa3.out.drewN 1)
      have hRb4 : Hid (Rd we we.heap.size A2 b.data) := Lib.hid (by rw [hwe]; exact hRb3.out.drewN 1)
      have hX4 : Hid (Rd we we.heap.size A8 la) := Lib.hid (by rw [hwe]; exact hX3.out.drewN 1)
      have hY4 : Hid (Rd we we.heap.size A9 lb) := Lib.hid (by rw [hwe]; exact hY3.out.drewN 1)
      refine wpR_region (Upd (fun _ => False)) 9999 (by kernel_rfl) ?_
      (rw [← hwe]; replace hwe := Lib.hid hwe)
      refine wpR_one 0 rfl (by kernel_rfl) (by kernel_rfl) (fun K hK => ?_)
      go_simp
      refine (awake09_any _).mono ?_
      rintro e w5 ⟨rfl, hbb⟩
      refine hK _ _ (fun _ => Upd.of_below hbb) ?_
      clear hK K
      have hbx5 := Lib.hid hbb
      have hA5 := Lib.hid (blk_below hA4.out hbb)
      have hB5 := Lib.hid (blk_below hB4.out hbb)
      have hRa5 := Lib.hid (hRa4.out.up hbb)
      have hRb5 := Lib.hid (hRb4.out.up hbb)
      have hq5 := Lib.hid (hq4.out.trans (hbb.mono hq4.out.size))
      clear hbb
      have hX5 := Lib.hid (hX4.out.upd (fun _ _ _ h => h) (Upd.of_below (S := fun _ => False) hbx5.out))
      have hY5 := Lib.hid (hY4.out.upd (fun _ _ _ h => h) (Upd.of_below (S := fun _ => False) hbx5.out))
      try simp only [Act.put, List.setIfInBounds_toArray, List.set_cons_zero, List.set_cons_succ]
      refine wpR_take (i := 1) (v := ?_) (Upd.road _) (some 27) rfl (by kernel_rfl) (by kernel_rfl) (by kernel_rfl) (by kernel_rfl) (by kernel_rfl) (fun _ _ _ h => h) (by kernel_rfl) (fun w' hw' => ?_) ?_
      rotate_left
      · go_simp; with_reducible rfl
      simp only [Act.put, List.setIfInBounds_toArray, List.set_cons_zero, List.set_cons_succ]
      refine wpR_take (i := 2) (v := ?_) (Upd.road _) (some 28) rfl (by kernel_rfl) (by kernel_rfl) (by kernel_rfl) (by kernel_rfl) (by kernel_rfl) (fun _ _ _ h => h) (by kernel_rfl) (fun w' hw' => ?_) ?_
      rotate_left
      · go_simp; with_reducible rfl
      simp only [Act.put, List.setIfInBounds_toArray, List.set_cons_zero, List.set_cons_succ]
      refine wpR_take (i := 3) (v := ?_) (Upd.road _) (some 29) rfl (by kernel_rfl) (by kernel_rfl) (by kernel_rfl) (by kernel_rfl) (by kernel_rfl) (fun _ _ _ h => h) (by kernel_rfl) (fun w' hw' => ?_) ?_
      rotate_left
      · have cv := run_str_at c8 (hX5.out.upd (fun _ _ _ h => h) hw') hlx.out; go_simp; with_reducible rfl
      simp only [Act.put, List.setIfInBounds_toArray, List.set_cons_zero, List.set_cons_succ]
      refine wpR_take (i := 4) (v := ?_) (Upd.road _) (some 30) rfl (by kernel_rfl) (by kernel_rfl) (by kernel_rfl) (by kernel_rfl) (by kernel_rfl) (fun _ _ _ h => h) (by kernel_rfl) (fun w' hw' => ?_) ?_
      rotate_left
      · go_simp; with_reducible rfl
      simp only [Act.put, List.setIfInBounds_toArray, List.set_cons_zero, List.set_cons_succ]
      refine wpR_take (i := 5) (v := ?_) (Upd.road _) (some 31) rfl (by kernel_rfl) (by kernel_rfl) (by kernel_rfl) (by kernel_rfl) (by kernel_rfl) (fun _ _ _ h => h) (by kernel_rfl) (fun w' hw' => ?_) ?_
      rotate_left
      · have cv := run_str_at c9 (hY5.out.upd (fun _ _ _ h => h) hw') hly.out; go_simp; with_reducible rfl
      simp only [Act.put, List.setIfInBounds_toArray, List.set_cons_zero, List.set_cons_succ]
      refine wpR_take (i := 6) (v := ?_) (Upd.road _) (some 32) rfl (by kernel_rfl) (by kernel_rfl) (by kernel_rfl) (by kernel_rfl) (by kernel_rfl) (fun _ _ _ h => h) (by kernel_rfl) (fun w' hw' => ?_) ?_
      rotate_left
      · go_simp; with_reducible rfl
      simp only [Act.put, List.setIfInBounds_toArray, List.set_cons_zero, List.set_cons_succ]
      refine wpR_take (i := 7) (v := ?_) (Upd.road _) (some 33) rfl (by kernel_rfl) (by kernel_rfl) (by kernel_rfl) (by kernel_rfl) (by kernel_rfl) (fun _ _ _ h => h) (by kernel_rfl) (fun w' hw' => ?_) ?_
      rotate_left
      · have hh := (hw'.2.2.2.2 N (blk_lt hA5.out) (fun h => h)).trans hA5.out; have q0 := blk_cell (j := 0) (v := .int .i64 a.kind) hh rfl; have q1 := blk_cell (j := 1) (v := .int .i64 a.cart) hh rfl; have q2 := blk_cell (j := 2) (v := .string (bs a.key)) hh rfl; have q3 := blk_cell (j := 3) (v := .int .i64 a.gen) hh rfl; have q4 := blk_cell (j := 4) (v := .int .i64 a.group) hh rfl; have q5 := blk_cell (j := 5) (v := .int .i64 a.groups) hh rfl; have q6 := blk_cell (j := 6) (v := .int .i64 a.index) hh rfl; have q7 := blk_cell (j := 7) (v := .int .i64 a.size) hh rfl; have q8 := blk_cell (j := 8) (v := .string (bs a.sum)) hh rfl; have q9 := blk_cell (j := 9) (v := .slice A a.data.length c) hh rfl; clear hh; go_simp; with_reducible rfl
      simp only [Act.put, List.setIfInBounds_toArray, List.set_cons_zero, List.set_cons_succ]
      refine wpR_take (i := 8) (v := ?_) (Upd.road _) (some 34) rfl (by kernel_rfl) (by kernel_rfl) (by kernel_rfl) (by kernel_rfl) (by kernel_rfl) (fun _ _ _ h => h) (by kernel_rfl) (fun w' hw' => ?_) ?_
      rotate_left
      · have hh := (hw'.2.2.2.2 (N + 1) (blk_lt hB5.out) (fun h => h)).trans hB5.out; have q0 := blk_cell (j := 0) (v := .int .i64 b.kind) hh rfl; have q1 := blk_cell (j := 1) (v := .int .i64 b.cart) hh rfl; have q2 := blk_cell (j := 2) (v := .string (bs b.key)) hh rfl; have q3 := blk_cell (j := 3) (v := .int .i64 b.gen) hh rfl; have q4 := blk_cell (j := 4) (v := .int .i64 b.group) hh rfl; have q5 := blk_cell (j := 5) (v := .int .i64 b.groups) hh rfl; have q6 := blk_cell (j := 6) (v := .int .i64 b.index) hh rfl; have q7 := blk_cell (j := 7) (v := .int .i64 b.size) hh rfl; have q8 := blk_cell (j := 8) (v := .string (bs b.sum)) hh rfl; have q9 := blk_cell (j := 9) (v := .slice A2 b.data.length c2) hh rfl; clear hh; go_simp; with_reducible rfl
      simp only [Act.put, List.setIfInBounds_toArray, List.set_cons_zero, List.set_cons_succ]
      refine wpR_one 9 rfl (by kernel_rfl) (by kernel_rfl) (fun K hK => ?_)
      go_simp
      have hs := same_any a b A A2 c c2 _ hRa5.out hRb5.out
      rw [hsv.out] at hs
      unfold Rc.agg at hs
      refine hs.mono ?_
      rintro e w6 ⟨rfl, hbb⟩
      refine hK _ _ (fun _ => Upd.of_below hbb) ?_
      clear hK K
      clear hs
      have hA6 := Lib.hid (blk_below hA5.out hbb)
      have hB6 := Lib.hid (blk_below hB5.out hbb)
      have hRa6 := Lib.hid (hRa5.out.up hbb)
      have hRb6 := Lib.hid (hRb5.out.up hbb)
      have hq6 := Lib.hid (hq5.out.trans (hbb.mono hq5.out.size))
      clear hbb
      try simp only [Act.put, List.setIfInBounds_toArray, List.set_cons_zero, List.set_cons_succ]
      refine wpR_take (i := 10) (v := ?_) (Upd.road _) (some 36) rfl (by kernel_rfl) (by kernel_rfl) (by kernel_rfl) (by kernel_rfl) (by kernel_rfl) (fun _ _ _ h => h) (by kernel_rfl) (fun w' hw' => ?_) ?_
      rotate_left
      · go_simp; with_reducible rfl
      simp only [Act.put, List.setIfInBounds_toArray, List.set_cons_zero, List.set_cons_succ]
      refine wpR_take (i := 11) (v := ?_) (Upd.road _) (some 37) rfl (by kernel_rfl) (by kernel_rfl) (by kernel_rfl) (by kernel_rfl) (by kernel_rfl) (fun _ _ _ h => h) (by kernel_rfl) (fun w' hw' => ?_) ?_
      rotate_left
      · go_simp; with_reducible rfl
      simp only [Act.put, List.setIfInBounds_toArray, List.set_cons_zero, List.set_cons_succ]
      refine wpR_take (i := 12) (v := ?_) (Upd.road _) (some 4) rfl (by kernel_rfl) (by kernel_rfl) (by kernel_rfl) (by kernel_rfl) (by kernel_rfl) (fun _ _ _ h => h) (by kernel_rfl) (fun w' hw' => ?_) ?_
      rotate_left
      · go_simp; with_reducible rfl
      simp only [Act.put, List.setIfInBounds_toArray, List.set_cons_zero, List.set_cons_succ]
      refine wpR_done (by kernel_rfl) ?_ _
      go_wp2_with fail
      go_ret
      exact ⟨rfl, hq6.out⟩
end Go.Proofs.Yticdkmnjolkacab
