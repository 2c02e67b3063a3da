/- The laws of queue: QueueNone. -/
import Derived.Test.YtppclmidnomkjabQueueLaw
namespace Go.Proofs.Ytppclmidnomkjab
set_option linter.unusedVariables false
set_option linter.unusedSimpArgs false
open Go Go.RowKit
theorem qw2 : (min (max 0 0) 4096 : Int).toNat = 0 := rfl
set_option maxHeartbeats 2000000 in
set_option maxRecDepth 10000 in
theorem queueNone_any (n : Int) (q : AskR) (hq : q.Ok) (w : World) :
    Calls Try.prog 7 #[.int .i64 n, q.agg] w fun e w' => e = .returned (.bool true) ∧ Below w.heap.size w w' := by
  have hx1 := heap_alloc_new w (.cells #[.int .i64 q.a, .int .i64 q.b, .int .i64 q.c, .int .i64 q.d, .int .i64 q.e, .int .i64 q.f] 28)
  have hb1 := (Below.refl w.heap.size w).alloc (Nat.le_refl _) (.cells #[.int .i64 q.a, .int .i64 q.b, .int .i64 q.c, .int .i64 q.d, .int .i64 q.e, .int .i64 q.f] 28)
  obtain ⟨w1, hw1⟩ : ∃ w1, w.alloc (.cells #[.int .i64 q.a, .int .i64 q.b, .int .i64 q.c, .int .i64 q.d, .int .i64 q.e, .int .i64 q.f] 28) = w1 := ⟨_, rfl⟩
  obtain ⟨N, hN⟩ : ∃ N, w.heap.size = N := ⟨_, rfl⟩
  have hsz1 : w1.heap.size = N + 1 := by rw [← hw1, ← hN]; simp
  rw [hw1] at hx1 hb1
  rw [hN] at hx1
  replace hx1 := Lib.hid hx1
  replace hb1 := Lib.hid hb1
  unfold AskR.agg
  go_enter Try.func7, Try.ntmps7
  go_wp2_with fail
  refine (qtake_nil n w1).mono ?_
  unfold AskR.agg ask0
  rintro e w2 ⟨rfl, hbb⟩
  have hb2 := hb1.out.trans (hbb.mono hb1.out.size)
  have hx2 := blk_below hx1.out hbb
  have hbz := (Below.refl w2.heap.size w2).alloc (Nat.le_refl _) (.cells #[.int .i64 0, .int .i64 0, .int .i64 0, .int .i64 0, .int .i64 0, .int .i64 0] 28)
  have hx3 := Lib.hid (blk_below hx2 hbz)
  have hz3 := heap_alloc_new w2 (.cells #[.int .i64 0, .int .i64 0, .int .i64 0, .int .i64 0, .int .i64 0, .int .i64 0] 28)
  have hb3 := Lib.hid (hb2.trans (hbz.mono hb2.size))
  replace hz3 := Lib.hid hz3
  clear hbb hb2 hx2 hbz hx1 hb1 hsz1
  replace hN := Lib.hid hN
  replace hw1 := Lib.hid hw1
  have b0 := blk_cell (j := 0) hx3.out rfl
  have b1 := blk_cell (j := 1) hx3.out rfl
  have b2 := blk_cell (j := 2) hx3.out rfl
  have b3 := blk_cell (j := 3) hx3.out rfl
  have b4 := blk_cell (j := 4) hx3.out rfl
  have b5 := blk_cell (j := 5) hx3.out rfl
  go_wp2_with fail
  clear b0 b1 b2 b3 b4 b5
  obtain ⟨w3, hw3⟩ : ∃ w3, w2.alloc (.cells #[.int .i64 0, .int .i64 0, .int .i64 0, .int .i64 0, .int .i64 0, .int .i64 0] 28) = w3 := ⟨_, rfl⟩
  rw [hw3] at hx3 hz3 hb3 ⊢
  obtain ⟨M, hM⟩ : ∃ M, w2.heap.size = M := ⟨_, rfl⟩
  rw [hM] at hz3 ⊢
  replace hw3 := Lib.hid hw3
  replace hM := Lib.hid hM
  refine (qpush_nil q w3).mono ?_
  rintro e w4 ⟨rfl, hbb⟩
  have hb4 := Lib.hid (hb3.out.trans (hbb.mono hb3.out.size))
  have hx4 := Lib.hid (blk_below hx3.out hbb)
  have hz4 := Lib.hid (blk_below hz3.out hbb)
  clear hbb hb3 hx3 hz3
  have z0 := blk_cell (j := 0) hz4.out rfl
  have z1 := blk_cell (j := 1) hz4.out rfl
  have z2 := blk_cell (j := 2) hz4.out rfl
  have z3 := blk_cell (j := 3) hz4.out rfl
  have z4 := blk_cell (j := 4) hz4.out rfl
  have z5 := blk_cell (j := 5) hz4.out rfl
  go_wp2_with fail
  clear z0 z1 z2 z3 z4 z5
  refine (same_self ask0 w4).mono ?_
  rintro e w5 ⟨rfl, hbb⟩
  have hb5 := Lib.hid (hb4.out.trans (hbb.mono hb4.out.size))
  have hx5 := Lib.hid (blk_below hx4.out hbb)
  clear hbb hb4 hx4 hz4
  go_wp2_with fail
  refine (qdrop_nil n w5).mono ?_
  rintro e w6 ⟨rfl, hbb⟩
  have hb6 := Lib.hid (hb5.out.trans (hbb.mono hb5.out.size))
  have hx6 := Lib.hid (blk_below hx5.out hbb)
  clear hbb hb5 hx5
  go_wp2_with fail
  refine (qlen_nil w6).mono ?_
  rintro e w7 ⟨rfl, hbb⟩
  have hb7 := Lib.hid (hb6.out.trans (hbb.mono hb6.out.size))
  have hx7 := Lib.hid (blk_below hx6.out hbb)
  clear hbb hb6 hx6
  go_wp2_with fail
  refine (qall_nil w7).mono ?_
  rintro e w8 ⟨rfl, hbb⟩
  have hb8 := Lib.hid (hb7.out.trans (hbb.mono hb7.out.size))
  have hx8 := Lib.hid (blk_below hx7.out hbb)
  clear hbb hb7 hx7
  go_wp2_with fail
  refine (qnew_any 0 (by unfold I64; decide) w8).mono ?_
  rw [qw2]
  rintro e w9 ⟨rfl, h9, hbb⟩
  have hb9 := Lib.hid (hb8.out.trans (hbb.mono hb8.out.size))
  have hx9 := Lib.hid (blk_below hx8.out hbb)
  have hl8 := hb8.out.size
  replace h9 := Lib.hid h9
  clear hbb hb8 hx8
  go_wp2_with fail
  refine (awake15_any w9).mono ?_
  rintro e w10 ⟨rfl, hbb⟩
  have hb10 := Lib.hid (hb9.out.trans (hbb.mono hb9.out.size))
  have hx10 := Lib.hid (blk_below hx9.out hbb)
  have h10 := Lib.hid (h9.out.below hbb)
  clear hbb hb9 hx9 h9
  have b0 := blk_cell (j := 0) hx10.out rfl
  have b1 := blk_cell (j := 1) hx10.out rfl
  have b2 := blk_cell (j := 2) hx10.out rfl
  have b3 := blk_cell (j := 3) hx10.out rfl
  have b4 := blk_cell (j := 4) hx10.out rfl
  have b5 := blk_cell (j := 5) hx10.out rfl
  go_wp2_with fail
  clear b0 b1 b2 b3 b4 b5
  refine (qpush_full w8.heap.size w8.heap.size _ [] 0 q (Nat.le_refl _) w10 h10.out).mono ?_
  rintro e w11 ⟨rfl, hbb⟩
  have hb11 := Lib.hid (hb10.out.trans (hbb.mono hb10.out.size))
  have hx11 := Lib.hid (blk_below hx10.out hbb)
  have h11 := Lib.hid (h10.out.below hbb)
  clear hbb hb10 hx10 h10
  go_wp2_with fail
  refine (qlen_any w8.heap.size w8.heap.size _ [] 0 _ h11.out).mono ?_
  rintro e w12 ⟨rfl, rfl⟩
  have b0 := blk_cell (j := 0) hx11.out rfl
  have b1 := blk_cell (j := 1) hx11.out rfl
  have b2 := blk_cell (j := 2) hx11.out rfl
  have b3 := blk_cell (j := 3) hx11.out rfl
  have b4 := blk_cell (j := 4) hx11.out rfl
  have b5 := blk_cell (j := 5) hx11.out rfl
  go_wp2_with fail
  clear b0 b1 b2 b3 b4 b5
  refine (qdrop_any w8.heap.size w8.heap.size q.a _ [] 0 _ h11.out).mono ?_
  rw [show ((([] : List AskR).length : Int) - (fil q.a []).length) = 0 from rfl]
  rintro e w13 ⟨rfl, v13, -, -, hu⟩
  have hb13 := Lib.hid (h11.out.from_ hu hb11.out hl8)
  clear hu
  go_wp2
  go_ret
  exact ⟨rfl, hb13.out⟩
end Go.Proofs.Ytppclmidnomkjab
