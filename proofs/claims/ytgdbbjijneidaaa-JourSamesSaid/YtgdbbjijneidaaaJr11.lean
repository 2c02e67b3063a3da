/- The laws of the journal: no journal; whether two notes are one; a note's bytes. -/
import Derived.Test.YtgdbbjijneidaaaJr10
import Derived.Test.YtgdbbjijneidaaaJr5b
import Derived.Test.YtgdbbjijneidaaaJr3
namespace Go.Proofs.Ytgdbbjijneidaaa
set_option linter.unusedVariables false
set_option linter.unusedSimpArgs false
open Go Go.RowKit
set_option maxHeartbeats 4000000 in
set_option maxRecDepth 20000 in
theorem jourNone_any (q : Nt) (A : Option Addr) (c : Nat) (A2 : Option Addr) (c2 : Nat) (LA : Option Addr) (ln lc : Nat) (w : World) (h : NtV q (q.agg A c A2 c2) w) :
    Calls Try.prog 13 #[q.agg A c A2 c2, .slice LA ln lc] w fun e w' => e = .returned (.bool true) ∧ Gr w w' := by
  have hg := Gr.alloc w (.cells #[.int .i64 q.kind, .string (bs q.key), .int .i64 q.gen, .int .i64 q.cart, .slice A q.data.length c, .string (bs q.sum), .int .i64 q.size, .slice A2 q.places.length c2] 25)
  have hm := heap_alloc_new w (.cells #[.int .i64 q.kind, .string (bs q.key), .int .i64 q.gen, .int .i64 q.cart, .slice A q.data.length c, .string (bs q.sum), .int .i64 q.size, .slice A2 q.places.length c2] 25)
  have hv := NtV.gr hg (Lib.hid h)
  obtain ⟨N, hN⟩ : ∃ N, w.heap.size = N := ⟨_, rfl⟩
  rw [hN] at hm
  obtain ⟨w1, hw1⟩ : ∃ w1, w.alloc (.cells #[.int .i64 q.kind, .string (bs q.key), .int .i64 q.gen, .int .i64 q.cart, .slice A q.data.length c, .string (bs q.sum), .int .i64 q.size, .slice A2 q.places.length c2] 25) = w1 := ⟨_, rfl⟩
  rw [hw1] at hg hm hv
  replace hg := Lib.hid hg
  replace hm := Lib.hid hm
  replace hN := Lib.hid hN
  replace hw1 := Lib.hid hw1
  unfold Nt.agg at hv ⊢
  clear h
  go_enter Try.func13, Try.ntmps13
  go_wp2_with fail
  rw [hN.out, hw1.out]
  clear hw1
  refine (open_nil _).mono ?_
  rintro e w' ⟨rfl, rfl⟩
  go_wp2_with fail
  refine (awake_any _).mono ?_
  rintro e w2 ⟨rfl, hg2⟩
  replace hg := Lib.hid (hg.out.trans hg2)
  replace hm := Lib.hid (blk_below hm.out hg2)
  replace hv := NtV.gr hg2 hv
  have had := Lib.hid (add_nil q _ w2 hv.out)
  have x0 := blk_cell (j := 0) (v := .int .i64 q.kind) hm.out rfl
  have x1 := blk_cell (j := 1) (v := .string (bs q.key)) hm.out rfl
  have x2 := blk_cell (j := 2) (v := .int .i64 q.gen) hm.out rfl
  have x3 := blk_cell (j := 3) (v := .int .i64 q.cart) hm.out rfl
  have x4 := blk_cell (j := 4) (v := .slice A q.data.length c) hm.out rfl
  have x5 := blk_cell (j := 5) (v := .string (bs q.sum)) hm.out rfl
  have x6 := blk_cell (j := 6) (v := .int .i64 q.size) hm.out rfl
  have x7 := blk_cell (j := 7) (v := .slice A2 q.places.length c2) hm.out rfl
  go_wp2_with fail
  refine had.out.mono ?_
  clear had x0 x1 x2 x3 x4 x5 x6 x7
  rintro e w3 ⟨rfl, hg3⟩
  replace hg := Lib.hid (hg.out.trans hg3)
  clear hg2 hg3 hm hv
  go_wp2_with fail
  refine (jswap_nil _ _).mono ?_
  rintro e w' ⟨rfl, rfl⟩
  go_wp2_with fail
  refine (jsize_nil _).mono ?_
  rintro e w' ⟨rfl, rfl⟩
  go_wp2_with fail
  go_ret
  exact ⟨rfl, hg.out⟩
set_option maxHeartbeats 4000000 in
set_option maxRecDepth 20000 in
theorem jourSames_any (q p : Nt) (A : Option Addr) (c : Nat) (A2 : Option Addr) (c2 : Nat) (B : Option Addr) (d : Nat) (B2 : Option Addr) (d2 : Nat) (w : World) (h : NtV q (q.agg A c A2 c2) w) (h2 : NtV p (p.agg B d B2 d2) w) :
    Calls Try.prog 5 #[q.agg A c A2 c2, p.agg B d B2 d2] w fun e w' => e = .returned (.bool true) ∧ Gr w w' := by
  have hb0 := heap_alloc_new w (.cells #[.int .i64 q.kind, .string (bs q.key), .int .i64 q.gen, .int .i64 q.cart, .slice A q.data.length c, .string (bs q.sum), .int .i64 q.size, .slice A2 q.places.length c2] 25)
  have hg0 := Gr.alloc w (.cells #[.int .i64 q.kind, .string (bs q.key), .int .i64 q.gen, .int .i64 q.cart, .slice A q.data.length c, .string (bs q.sum), .int .i64 q.size, .slice A2 q.places.length c2] 25)
  have hb1 := heap_alloc_new (w.alloc (.cells #[.int .i64 q.kind, .string (bs q.key), .int .i64 q.gen, .int .i64 q.cart, .slice A q.data.length c, .string (bs q.sum), .int .i64 q.size, .slice A2 q.places.length c2] 25)) (.cells #[.int .i64 p.kind, .string (bs p.key), .int .i64 p.gen, .int .i64 p.cart, .slice B p.data.length d, .string (bs p.sum), .int .i64 p.size, .slice B2 p.places.length d2] 25)
  have hg1 := Gr.alloc (w.alloc (.cells #[.int .i64 q.kind, .string (bs q.key), .int .i64 q.gen, .int .i64 q.cart, .slice A q.data.length c, .string (bs q.sum), .int .i64 q.size, .slice A2 q.places.length c2] 25)) (.cells #[.int .i64 p.kind, .string (bs p.key), .int .i64 p.gen, .int .i64 p.cart, .slice B p.data.length d, .string (bs p.sum), .int .i64 p.size, .slice B2 p.places.length d2] 25)
  have hm := blk_below hb0 hg1
  obtain ⟨N, hN⟩ : ∃ N, w.heap.size = N := ⟨_, rfl⟩
  have hN1 : (w.alloc (.cells #[.int .i64 q.kind, .string (bs q.key), .int .i64 q.gen, .int .i64 q.cart, .slice A q.data.length c, .string (bs q.sum), .int .i64 q.size, .slice A2 q.places.length c2] 25)).heap.size = N + 1 := by rw [← hN]; simp
  rw [hN] at hm
  rw [hN1] at hb1
  have hg := hg0.trans hg1
  have hv := NtV.gr hg (Lib.hid h)
  have hv2 := NtV.gr hg (Lib.hid h2)
  obtain ⟨w1, hw1⟩ : ∃ w1, (w.alloc (.cells #[.int .i64 q.kind, .string (bs q.key), .int .i64 q.gen, .int .i64 q.cart, .slice A q.data.length c, .string (bs q.sum), .int .i64 q.size, .slice A2 q.places.length c2] 25)).alloc (.cells #[.int .i64 p.kind, .string (bs p.key), .int .i64 p.gen, .int .i64 p.cart, .slice B p.data.length d, .string (bs p.sum), .int .i64 p.size, .slice B2 p.places.length d2] 25) = w1 := ⟨_, rfl⟩
  rw [hw1] at hg hm hb1 hv hv2
  replace hg := Lib.hid hg
  replace hm := Lib.hid hm
  replace hb1 := Lib.hid hb1
  replace hN := Lib.hid hN
  replace hw1 := Lib.hid hw1
  have hqq : sameN q q = true := decide_eq_true rfl
  have hpp : sameN p p = true := decide_eq_true rfl
  obtain ⟨s, hs⟩ : ∃ s, sameN q p = s := ⟨_, rfl⟩
  have hss : (s == s) = true := beq_self_eq_true s
  replace hqq := Lib.hid hqq
  replace hpp := Lib.hid hpp
  replace hs := Lib.hid hs
  unfold Nt.agg at hv hv2 ⊢
  clear h h2 hb0 hg0 hg1 hN1
  go_enter Try.func5, Try.ntmps5
  go_upto_region 1 with (fail)
  rw [hN.out, hw1.out]
  clear hw1
  obtain ⟨wd, hwd⟩ : ∃ wd, wd = w1.drew := ⟨_, rfl⟩
  have hdr : Gr w1 wd := by rw [hwd]; exact (Below.refl _ _).drew
  replace hg := Lib.hid (hg.out.trans hdr)
  replace hm := Lib.hid (blk_below hm.out hdr)
  replace hb1 := Lib.hid (blk_below hb1.out hdr)
  replace hv := NtV.gr hdr hv
  replace hv2 := NtV.gr hdr hv2
  have hcur : Hid (Gr wd wd) := Lib.hid (Gr.refl _)
  clear hdr
  refine wpR_region (Gr) 9999 (by kernel_rfl) ?_
  (rw [← hwd]; replace hwd := Lib.hid hwd)
  refine wpR_one 0 rfl (by kernel_rfl) (by kernel_rfl) (fun K hK => ?_)
  go_simp
  refine (awake_any _).mono ?_
  rintro e w2 ⟨rfl, hr2⟩
  refine hK _ _ (fun _ => hr2) ?_
  clear hK K
  replace hcur := Lib.hid (hcur.out.trans hr2)
  replace hv := NtV.gr hr2 hv
  replace hv2 := NtV.gr hr2 hv2
  clear hr2
  try simp only [Act.put, List.setIfInBounds_toArray, List.set_cons_zero, List.set_cons_succ]
  refine wpR_take (i := 1) (v := ?_) (Gr.road) (some 6) rfl (by kernel_rfl) (by kernel_rfl) (by kernel_rfl) (by kernel_rfl) (by kernel_rfl) (fun _ _ _ h => h) (by kernel_rfl) (fun w' hw' => ?_) ?_
  rotate_left
  · go_simp; with_reducible rfl
  simp only [Act.put, List.setIfInBounds_toArray, List.set_cons_zero, List.set_cons_succ]
  refine wpR_take (i := 2) (v := ?_) (Gr.road) (some 7) rfl (by kernel_rfl) (by kernel_rfl) (by kernel_rfl) (by kernel_rfl) (by kernel_rfl) (fun _ _ _ h => h) (by kernel_rfl) (fun w' hw' => ?_) ?_
  rotate_left
  · obtain ⟨q0, q1, q2, q3, q4, q5, q6, q7⟩ := cells8 (blk_below hm.out (hcur.out.trans hw')); go_simp; with_reducible rfl
  simp only [Act.put, List.setIfInBounds_toArray, List.set_cons_zero, List.set_cons_succ]
  refine wpR_take (i := 3) (v := ?_) (Gr.road) (some 8) rfl (by kernel_rfl) (by kernel_rfl) (by kernel_rfl) (by kernel_rfl) (by kernel_rfl) (fun _ _ _ h => h) (by kernel_rfl) (fun w' hw' => ?_) ?_
  rotate_left
  · obtain ⟨q0, q1, q2, q3, q4, q5, q6, q7⟩ := cells8 (blk_below hb1.out (hcur.out.trans hw')); go_simp; with_reducible rfl
  simp only [Act.put, List.setIfInBounds_toArray, List.set_cons_zero, List.set_cons_succ]
  refine wpR_take (i := 5) (v := ?_) (Gr.road) (some 10) rfl (by kernel_rfl) (by kernel_rfl) (by kernel_rfl) (by kernel_rfl) (by kernel_rfl) (fun _ _ _ h => h) (by kernel_rfl) (fun w' hw' => ?_) ?_
  rotate_left
  · obtain ⟨q0, q1, q2, q3, q4, q5, q6, q7⟩ := cells8 (blk_below hm.out (hcur.out.trans hw')); go_simp; with_reducible rfl
  simp only [Act.put, List.setIfInBounds_toArray, List.set_cons_zero, List.set_cons_succ]
  refine wpR_take (i := 6) (v := ?_) (Gr.road) (some 11) rfl (by kernel_rfl) (by kernel_rfl) (by kernel_rfl) (by kernel_rfl) (by kernel_rfl) (fun _ _ _ h => h) (by kernel_rfl) (fun w' hw' => ?_) ?_
  rotate_left
  · obtain ⟨q0, q1, q2, q3, q4, q5, q6, q7⟩ := cells8 (blk_below hb1.out (hcur.out.trans hw')); go_simp; with_reducible rfl
  simp only [Act.put, List.setIfInBounds_toArray, List.set_cons_zero, List.set_cons_succ]
  refine wpR_one 4 rfl (by kernel_rfl) (by kernel_rfl) (fun K hK => ?_)
  go_simp
  refine (same_any q p _ _ _ hv.out hv2.out).mono ?_
  rw [hs.out]
  rintro e w3 ⟨rfl, hr3⟩
  refine hK _ _ (fun _ => hr3) ?_
  clear hK K
  replace hcur := Lib.hid (hcur.out.trans hr3)
  replace hv := NtV.gr hr3 hv
  replace hv2 := NtV.gr hr3 hv2
  clear hr3
  try simp only [Act.put, List.setIfInBounds_toArray, List.set_cons_zero, List.set_cons_succ]
  refine wpR_one 7 rfl (by kernel_rfl) (by kernel_rfl) (fun K hK => ?_)
  go_simp
  refine (rsame_any q p _ _ _ hv.out hv2.out).mono ?_
  rw [hs.out]
  rintro e w4 ⟨rfl, hr4⟩
  refine hK _ _ (fun _ => hr4) ?_
  clear hK K
  replace hcur := Lib.hid (hcur.out.trans hr4)
  replace hv := NtV.gr hr4 hv
  replace hv2 := NtV.gr hr4 hv2
  clear hr4
  try simp only [Act.put, List.setIfInBounds_toArray, List.set_cons_zero, List.set_cons_succ]
  refine wpR_take (i := 8) (v := ?_) (Gr.road) (some 13) rfl (by kernel_rfl) (by kernel_rfl) (by kernel_rfl) (by kernel_rfl) (by kernel_rfl) (fun _ _ _ h => h) (by kernel_rfl) (fun w' hw' => ?_) ?_
  rotate_left
  · go_simp; with_reducible rfl
  simp only [Act.put, List.setIfInBounds_toArray, List.set_cons_zero, List.set_cons_succ]
  refine wpR_take (i := 9) (v := ?_) (Gr.road) (some 14) rfl (by kernel_rfl) (by kernel_rfl) (by kernel_rfl) (by kernel_rfl) (by kernel_rfl) (fun _ _ _ h => h) (by kernel_rfl) (fun w' hw' => ?_) ?_
  rotate_left
  · go_simp; with_reducible rfl
  simp only [Act.put, List.setIfInBounds_toArray, List.set_cons_zero, List.set_cons_succ]
  refine wpR_take (i := 10) (v := ?_) (Gr.road) (some 15) rfl (by kernel_rfl) (by kernel_rfl) (by kernel_rfl) (by kernel_rfl) (by kernel_rfl) (fun _ _ _ h => h) (by kernel_rfl) (fun w' hw' => ?_) ?_
  rotate_left
  · go_simp; with_reducible rfl
  simp only [Act.put, List.setIfInBounds_toArray, List.set_cons_zero, List.set_cons_succ]
  refine wpR_take (i := 11) (v := ?_) (Gr.road) (some 16) rfl (by kernel_rfl) (by kernel_rfl) (by kernel_rfl) (by kernel_rfl) (by kernel_rfl) (fun _ _ _ h => h) (by kernel_rfl) (fun w' hw' => ?_) ?_
  rotate_left
  · obtain ⟨q0, q1, q2, q3, q4, q5, q6, q7⟩ := cells8 (blk_below hm.out (hcur.out.trans hw')); go_simp; with_reducible rfl
  simp only [Act.put, List.setIfInBounds_toArray, List.set_cons_zero, List.set_cons_succ]
  refine wpR_take (i := 12) (v := ?_) (Gr.road) (some 17) rfl (by kernel_rfl) (by kernel_rfl) (by kernel_rfl) (by kernel_rfl) (by kernel_rfl) (fun _ _ _ h => h) (by kernel_rfl) (fun w' hw' => ?_) ?_
  rotate_left
  · obtain ⟨q0, q1, q2, q3, q4, q5, q6, q7⟩ := cells8 (blk_below hm.out (hcur.out.trans hw')); go_simp; with_reducible rfl
  simp only [Act.put, List.setIfInBounds_toArray, List.set_cons_zero, List.set_cons_succ]
  refine wpR_one 13 rfl (by kernel_rfl) (by kernel_rfl) (fun K hK => ?_)
  go_simp
  refine (same_any q q _ _ _ hv.out hv.out).mono ?_
  rw [hqq.out]
  rintro e w5 ⟨rfl, hr5⟩
  refine hK _ _ (fun _ => hr5) ?_
  clear hK K
  replace hcur := Lib.hid (hcur.out.trans hr5)
  replace hv := NtV.gr hr5 hv
  replace hv2 := NtV.gr hr5 hv2
  clear hr5
  try simp only [Act.put, List.setIfInBounds_toArray, List.set_cons_zero, List.set_cons_succ]
  refine wpR_take (i := 14) (v := ?_) (Gr.road) (some 19) rfl (by kernel_rfl) (by kernel_rfl) (by kernel_rfl) (by kernel_rfl) (by kernel_rfl) (fun _ _ _ h => h) (by kernel_rfl) (fun w' hw' => ?_) ?_
  rotate_left
  · go_simp; with_reducible rfl
  simp only [Act.put, List.setIfInBounds_toArray, List.set_cons_zero, List.set_cons_succ]
  refine wpR_take (i := 15) (v := ?_) (Gr.road) (some 20) rfl (by kernel_rfl) (by kernel_rfl) (by kernel_rfl) (by kernel_rfl) (by kernel_rfl) (fun _ _ _ h => h) (by kernel_rfl) (fun w' hw' => ?_) ?_
  rotate_left
  · go_simp; with_reducible rfl
  simp only [Act.put, List.setIfInBounds_toArray, List.set_cons_zero, List.set_cons_succ]
  refine wpR_take (i := 16) (v := ?_) (Gr.road) (some 21) rfl (by kernel_rfl) (by kernel_rfl) (by kernel_rfl) (by kernel_rfl) (by kernel_rfl) (fun _ _ _ h => h) (by kernel_rfl) (fun w' hw' => ?_) ?_
  rotate_left
  · obtain ⟨q0, q1, q2, q3, q4, q5, q6, q7⟩ := cells8 (blk_below hb1.out (hcur.out.trans hw')); go_simp; with_reducible rfl
  simp only [Act.put, List.setIfInBounds_toArray, List.set_cons_zero, List.set_cons_succ]
  refine wpR_take (i := 17) (v := ?_) (Gr.road) (some 22) rfl (by kernel_rfl) (by kernel_rfl) (by kernel_rfl) (by kernel_rfl) (by kernel_rfl) (fun _ _ _ h => h) (by kernel_rfl) (fun w' hw' => ?_) ?_
  rotate_left
  · obtain ⟨q0, q1, q2, q3, q4, q5, q6, q7⟩ := cells8 (blk_below hb1.out (hcur.out.trans hw')); go_simp; with_reducible rfl
  simp only [Act.put, List.setIfInBounds_toArray, List.set_cons_zero, List.set_cons_succ]
  refine wpR_one 18 rfl (by kernel_rfl) (by kernel_rfl) (fun K hK => ?_)
  go_simp
  refine (same_any p p _ _ _ hv2.out hv2.out).mono ?_
  rw [hpp.out]
  rintro e w6 ⟨rfl, hr6⟩
  refine hK _ _ (fun _ => hr6) ?_
  clear hK K
  replace hcur := Lib.hid (hcur.out.trans hr6)
  replace hv := NtV.gr hr6 hv
  replace hv2 := NtV.gr hr6 hv2
  clear hr6
  try simp only [Act.put, List.setIfInBounds_toArray, List.set_cons_zero, List.set_cons_succ]
  refine wpR_take (i := 19) (v := ?_) (Gr.road) (some 24) rfl (by kernel_rfl) (by kernel_rfl) (by kernel_rfl) (by kernel_rfl) (by kernel_rfl) (fun _ _ _ h => h) (by kernel_rfl) (fun w' hw' => ?_) ?_
  rotate_left
  · go_simp; with_reducible rfl
  simp only [Act.put, List.setIfInBounds_toArray, List.set_cons_zero, List.set_cons_succ]
  refine wpR_take (i := 20) (v := ?_) (Gr.road) (some 4) rfl (by kernel_rfl) (by kernel_rfl) (by kernel_rfl) (by kernel_rfl) (by kernel_rfl) (fun _ _ _ h => h) (by kernel_rfl) (fun w' hw' => ?_) ?_
  rotate_left
  · go_simp; with_reducible rfl
  simp only [Act.put, List.setIfInBounds_toArray, List.set_cons_zero, List.set_cons_succ]
  refine wpR_done (by kernel_rfl) ?_ _
  replace hg := Lib.hid (hg.out.trans hcur.out)
  go_wp2_with fail
  go_ret
  exact ⟨rfl, hg.out⟩
set_option maxHeartbeats 4000000 in
set_option maxRecDepth 20000 in
theorem jourEncodes_any (q : Nt) (A : Option Addr) (c : Nat) (A2 : Option Addr) (c2 : Nat) (w : World) (h : NtV q (q.agg A c A2 c2) w) :
    Calls Try.prog 3 #[q.agg A c A2 c2] w fun e w' => e = .returned (.bool true) ∧ Gr w w' := by
  have hg := Gr.alloc w (.cells #[.int .i64 q.kind, .string (bs q.key), .int .i64 q.gen, .int .i64 q.cart, .slice A q.data.length c, .string (bs q.sum), .int .i64 q.size, .slice A2 q.places.length c2] 25)
  have hm := heap_alloc_new w (.cells #[.int .i64 q.kind, .string (bs q.key), .int .i64 q.gen, .int .i64 q.cart, .slice A q.data.length c, .string (bs q.sum), .int .i64 q.size, .slice A2 q.places.length c2] 25)
  have hv := NtV.gr hg (Lib.hid h)
  obtain ⟨N, hN⟩ : ∃ N, w.heap.size = N := ⟨_, rfl⟩
  rw [hN] at hm
  obtain ⟨w1, hw1⟩ : ∃ w1, w.alloc (.cells #[.int .i64 q.kind, .string (bs q.key), .int .i64 q.gen, .int .i64 q.cart, .slice A q.data.length c, .string (bs q.sum), .int .i64 q.size, .slice A2 q.places.length c2] 25) = w1 := ⟨_, rfl⟩
  rw [hw1] at hg hm hv
  replace hg := Lib.hid hg
  replace hm := Lib.hid hm
  replace hN := Lib.hid hN
  replace hw1 := Lib.hid hw1
  unfold Nt.agg at hv ⊢
  clear h
  cases hgd : goodN q with
  | false =>
    have he := Lib.hid (encode_no q _ w1 hv.out hgd)
    go_enter Try.func3, Try.ntmps3
    go_wp2_with fail
    rw [hN.out, hw1.out]
    clear hw1
    refine he.out.mono ?_
    clear he
    rintro e w2 ⟨rfl, hg2⟩
    replace hg := Lib.hid (hg.out.trans hg2)
    replace hm := Lib.hid (blk_below hm.out hg2)
    replace hv := NtV.gr hg2 hv
    have he := Lib.hid (rencode_no q _ w2 hv.out hgd)
    have x0 := blk_cell (j := 0) (v := .int .i64 q.kind) hm.out rfl
    have x1 := blk_cell (j := 1) (v := .string (bs q.key)) hm.out rfl
    have x2 := blk_cell (j := 2) (v := .int .i64 q.gen) hm.out rfl
    have x3 := blk_cell (j := 3) (v := .int .i64 q.cart) hm.out rfl
    have x4 := blk_cell (j := 4) (v := .slice A q.data.length c) hm.out rfl
    have x5 := blk_cell (j := 5) (v := .string (bs q.sum)) hm.out rfl
    have x6 := blk_cell (j := 6) (v := .int .i64 q.size) hm.out rfl
    have x7 := blk_cell (j := 7) (v := .slice A2 q.places.length c2) hm.out rfl
    go_wp2_with fail
    refine he.out.mono ?_
    clear he x0 x1 x2 x3 x4 x5 x6 x7 hg2
    rintro e w3 ⟨rfl, hg2⟩
    replace hg := Lib.hid (hg.out.trans hg2)
    clear hg2 hm hv
    go_wp2_with fail
    refine (awake_any _).mono ?_
    rintro e w4 ⟨rfl, hg2⟩
    replace hg := Lib.hid (hg.out.trans hg2)
    have cv : (convert 22 9 (.slice none 0 0)).run Try.prog w4 = .ok (.string (bs [])) w4 := run_str (w := w4) (B := 0) (A := none) 0 Rd.nil_
    go_wp2_with fail
    go_ret
    exact ⟨rfl, hg.out⟩
  | true =>
    have he := Lib.hid (encode_ok q _ w1 hv.out hgd)
    obtain ⟨X, hX⟩ : ∃ X, encN q = X := ⟨_, rfl⟩
    rw [hX] at he
    go_enter Try.func3, Try.ntmps3
    go_wp2_with fail
    rw [hN.out, hw1.out]
    clear hw1
    refine he.out.mono ?_
    clear he
    rintro e w2 ⟨u2, rfl, ho2, hg2⟩
    replace hg := Lib.hid (hg.out.trans hg2)
    replace hm := Lib.hid (blk_below hm.out hg2)
    replace hv := NtV.gr hg2 hv
    obtain ⟨A3, c3, rfl, -⟩ := ho2.form
    obtain ⟨n3, hn3⟩ : ∃ n3, X.length = n3 := ⟨_, rfl⟩
    rw [hn3] at ho2 ⊢
    replace ho2 := Lib.hid ho2
    have he := Lib.hid (rencode_ok q _ w2 hv.out hgd)
    rw [hX] at he
    have x0 := blk_cell (j := 0) (v := .int .i64 q.kind) hm.out rfl
    have x1 := blk_cell (j := 1) (v := .string (bs q.key)) hm.out rfl
    have x2 := blk_cell (j := 2) (v := .int .i64 q.gen) hm.out rfl
    have x3 := blk_cell (j := 3) (v := .int .i64 q.cart) hm.out rfl
    have x4 := blk_cell (j := 4) (v := .slice A q.data.length c) hm.out rfl
    have x5 := blk_cell (j := 5) (v := .string (bs q.sum)) hm.out rfl
    have x6 := blk_cell (j := 6) (v := .int .i64 q.size) hm.out rfl
    have x7 := blk_cell (j := 7) (v := .slice A2 q.places.length c2) hm.out rfl
    go_wp2_with fail
    refine he.out.mono ?_
    clear he x0 x1 x2 x3 x4 x5 x6 x7 hg2
    rintro e w3 ⟨u3, rfl, ho3, hg2⟩
    replace hg := Lib.hid (hg.out.trans hg2)
    replace ho2 := OB.gr hg2 ho2
    obtain ⟨A4, c4, rfl, -⟩ := ho3.form
    rw [hn3] at ho3 ⊢
    replace ho3 := Lib.hid ho3
    clear hg2 hm hv
    go_wp2_with fail
    refine (awake_any _).mono ?_
    rintro e w4 ⟨rfl, hg2⟩
    replace hg := Lib.hid (hg.out.trans hg2)
    replace ho2 := OB.gr hg2 ho2
    replace ho3 := OB.gr hg2 ho3
    have cv : (convert 22 9 (.slice A3 n3 c3)).run Try.prog w4 = .ok (.string (bs X)) w4 := run_str_at c3 ho2.out.rd.1 hn3
    have cv2 : (convert 22 9 (.slice A4 n3 c4)).run Try.prog w4 = .ok (.string (bs X)) w4 := run_str_at c4 ho3.out.rd.1 hn3
    replace hn3 := Lib.hid hn3
    go_wp2_with fail
    go_ret
    exact ⟨rfl, hg.out⟩
end Go.Proofs.Ytgdbbjijneidaaa
