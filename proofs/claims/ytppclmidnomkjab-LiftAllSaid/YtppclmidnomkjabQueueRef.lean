/- The reference queue: its state in memory, New, a full Push, a Take of none. -/
import Derived.Test.YtppclmidnomkjabQueueLaw5
namespace Go.Proofs.Ytppclmidnomkjab
set_option linter.unusedVariables false
set_option linter.unusedSimpArgs false
open Go Go.RowKit
/-- block g is the reference's queue of these requests, whose slice is v -/
structure Rq (w : World) (lo g : Nat) (v : Value) (l : List AskR) (most : Nat) : Prop where
  blk : w.heap[g]? = some (.cells #[v, .int .i64 most] 39 (0, 0))
  low : lo ≤ g
  row : ARow w lo v l
  len : l.length ≤ most
  most : most ≤ 4096
  ok : ∀ q ∈ l, q.Ok
section
variable {w w' : World} {lo g most : Nat} {v : Value} {l : List AskR} {S : Nat → Prop}
theorem Rq.upd (h : Rq w lo g v l most) (hu : Upd S w w') (hn : ∀ k, QS g v k → ¬ S k) : Rq w' lo g v l most :=
  ⟨(hu.2.2.2.2 g (blk_lt h.blk) (hn g (.inl rfl))).trans h.blk, h.low, row_upd h.row hu (fun k hk => hn k (.inr hk)), h.len, h.most, h.ok⟩
theorem Rq.below (h : Rq w lo g v l most) (hb : Below w.heap.size w w') : Rq w' lo g v l most := h.upd (S := fun _ => False) (Upd.of_below hb) (fun _ _ h => h)
theorem Rq.lt (h : Rq w lo g v l most) : g < w.heap.size := blk_lt h.blk
theorem Rq.lw (h : Rq w lo g v l most) : lo ≤ w.heap.size := by have := h.lt; have := h.low; omega
theorem Rq.qs (h : Rq w lo g v l most) : ∀ k, QS g v k → lo ≤ k ∧ k < w.heap.size := fun k hk => by
  rcases hk with rfl | hk
  · exact ⟨h.low, h.lt⟩
  · exact h.row.lt k hk
theorem Rq.frame (h : Rq w lo g v l most) (hu : Upd (· = g) w w') : Below lo w w' := Upd.to_below (Below.refl lo w) hu h.lw (fun k hk => by have := h.low; omega)
theorem Rq.form (h : Rq w lo g v l most) : ∃ A c, v = .slice A l.length c ∧ l.length ≤ c ∧ c ≤ maxLen := row_form h.row
theorem Rq.drewN (h : Rq w lo g v l most) (n : Nat) : Rq (w.drewN n) lo g v l most := ⟨h.blk, h.low, h.row, h.len, h.most, h.ok⟩
theorem Rq.free (h : Rq w lo g v l most) (j : Nat) : w.frozen? ⟨g, j, none⟩ = false := blk_free h.blk j
end
set_option maxRecDepth 10000 in
theorem rnew15_any (z : Int) (hz : I64 z) (w : World) :
    Calls Try.prog 13 #[.int .i64 z] w fun e w' => e = .returned (.pointer (some ⟨w.heap.size, 0, none⟩)) ∧ Rq w' w.heap.size w.heap.size (.slice none 0 0) [] (min (max z 0) 4096).toNat ∧ Below w.heap.size w w' := by
  obtain ⟨m, hm⟩ : ∃ m : Nat, (m : Int) = min (max z 0) 4096 := ⟨(min (max z 0) 4096).toNat, by omega⟩
  have hm2 : (min (max z 0) 4096).toNat = m := by omega
  rw [hm2]
  have hm3 : m ≤ 4096 := by omega
  replace hm := Lib.hid hm
  replace hm2 := Lib.hid hm2
  rcases (by have := hm.out; omega : (z < 0 ∧ (m : Int) = 0) ∨ (0 ≤ z ∧ z ≤ 4096 ∧ (m : Int) = z) ∨ (4096 < z ∧ (m : Int) = 4096)) with ⟨h1, hme⟩ | ⟨h1, h2, hme⟩ | ⟨h1, hme⟩
  all_goals
    replace hme := Lib.hid hme
    go_enter Try.func13, Try.ntmps13
    go_wp2
    try rw [← hme.out]
    go_ret
    exact ⟨rfl, ⟨by first | exact heap_alloc_new w _ | (rw [hme.out]; exact heap_alloc_new w _), Nat.le_refl _, World.ownsRow_nil _ _ _ 6, Nat.zero_le _, hm3, fun q h => (by cases h)⟩, (Below.refl _ _).alloc (Nat.le_refl _) _⟩
set_option maxHeartbeats 1000000 in
set_option maxRecDepth 10000 in
theorem rpush_full (lo g : Nat) (v : Value) (l : List AskR) (most : Nat) (q : AskR) (hfull : most ≤ l.length) (w : World) (h : Rq w lo g v l most) :
    Calls Try.prog 20 #[.pointer (some ⟨g, 0, none⟩), q.agg] w fun e w' => e = .returned (.bool false) ∧ Below w.heap.size w w' := by
  have hQ := Lib.hid (h.below ((Below.refl w.heap.size w).alloc (Nat.le_refl _) (.cells #[.int .i64 q.a, .int .i64 q.b, .int .i64 q.c, .int .i64 q.d, .int .i64 q.e, .int .i64 q.f] 28)))
  have hb := Lib.hid ((Below.refl w.heap.size w).alloc (Nat.le_refl _) (.cells #[.int .i64 q.a, .int .i64 q.b, .int .i64 q.c, .int .i64 q.d, .int .i64 q.e, .int .i64 q.f] 28))
  obtain ⟨A, c, rfl, hc1, hc2⟩ := h.form
  have c0 := blk_cell (j := 0) hQ.out.blk rfl
  have c1 := blk_cell (j := 1) hQ.out.blk rfl
  replace h := Lib.hid h
  unfold AskR.agg
  have hd : decide ((most : Int) ≤ (l.length : Int)) = true := decide_eq_true (by omega)
  go_enter Try.func20, Try.ntmps20
  go_wp2_with fail
  go_quiet (fail)
  go_wp2
  go_ret
  exact ⟨rfl, ⟨hb.out.os, hb.out.tape, hb.out.output, hb.out.size, hb.out.block⟩⟩
set_option maxHeartbeats 1000000 in
set_option maxRecDepth 10000 in
theorem rtake_none (lo g : Nat) (v : Value) (l : List AskR) (most : Nat) (p : Int) (hout : p < 0 ∨ (l.length : Int) ≤ p) (w : World) (h : Rq w lo g v l most) :
    Calls Try.prog 15 #[.pointer (some ⟨g, 0, none⟩), .int .i64 p] w fun e w' => e = .returned (.tuple #[ask0.agg, .bool false]) ∧ Below w.heap.size w w' := by
  obtain ⟨A, c, rfl, hc1, hc2⟩ := h.form
  have hlen := h.len
  have hmo := h.most
  have hgw := h.lt
  have hbz := (Below.refl w.heap.size w).alloc (Nat.le_refl _) (.cells #[.int .i64 0, .int .i64 0, .int .i64 0, .int .i64 0, .int .i64 0, .int .i64 0] 28)
  have c0 := blk_cell (j := 0) (h.below hbz).blk rfl
  replace hbz := Lib.hid hbz
  replace h := Lib.hid h
  by_cases h0 : p < 0
  · clear hout
    go_enter Try.func15, Try.ntmps15
    go_wp2_with fail
    have hz2 := heap_alloc_new w (.cells #[.int .i64 0, .int .i64 0, .int .i64 0, .int .i64 0, .int .i64 0, .int .i64 0] 28)
    obtain ⟨w2, hw2⟩ : ∃ w2, w.alloc (.cells #[.int .i64 0, .int .i64 0, .int .i64 0, .int .i64 0, .int .i64 0, .int .i64 0] 28) = w2 := ⟨_, rfl⟩
    rw [hw2] at hz2 hbz ⊢
    have r0 := blk_cell (j := 0) (v := .int .i64 0) hz2 rfl
    have r1 := blk_cell (j := 1) (v := .int .i64 0) hz2 rfl
    have r2 := blk_cell (j := 2) (v := .int .i64 0) hz2 rfl
    have r3 := blk_cell (j := 3) (v := .int .i64 0) hz2 rfl
    have r4 := blk_cell (j := 4) (v := .int .i64 0) hz2 rfl
    have r5 := blk_cell (j := 5) (v := .int .i64 0) hz2 rfl
    exact bodyPost_ret (v := .tuple #[.agg #[.int .i64 0, .int .i64 0, .int .i64 0, .int .i64 0, .int .i64 0, .int .i64 0], .bool false]) (by simp [results, Try.results15, go_sem, r0, r1, r2, r3, r4, r5]) rfl ⟨rfl, hbz.out⟩
  · have h1 : (l.length : Int) ≤ p := by omega
    clear hout
    go_enter Try.func15, Try.ntmps15
    go_wp2_with fail
    have hz2 := heap_alloc_new w (.cells #[.int .i64 0, .int .i64 0, .int .i64 0, .int .i64 0, .int .i64 0, .int .i64 0] 28)
    obtain ⟨w2, hw2⟩ : ∃ w2, w.alloc (.cells #[.int .i64 0, .int .i64 0, .int .i64 0, .int .i64 0, .int .i64 0, .int .i64 0] 28) = w2 := ⟨_, rfl⟩
    rw [hw2] at hz2 hbz ⊢
    have r0 := blk_cell (j := 0) (v := .int .i64 0) hz2 rfl
    have r1 := blk_cell (j := 1) (v := .int .i64 0) hz2 rfl
    have r2 := blk_cell (j := 2) (v := .int .i64 0) hz2 rfl
    have r3 := blk_cell (j := 3) (v := .int .i64 0) hz2 rfl
    have r4 := blk_cell (j := 4) (v := .int .i64 0) hz2 rfl
    have r5 := blk_cell (j := 5) (v := .int .i64 0) hz2 rfl
    exact bodyPost_ret (v := .tuple #[.agg #[.int .i64 0, .int .i64 0, .int .i64 0, .int .i64 0, .int .i64 0, .int .i64 0], .bool false]) (by simp [results, Try.results15, go_sem, r0, r1, r2, r3, r4, r5]) rfl ⟨rfl, hbz.out⟩
end Go.Proofs.Ytppclmidnomkjab
