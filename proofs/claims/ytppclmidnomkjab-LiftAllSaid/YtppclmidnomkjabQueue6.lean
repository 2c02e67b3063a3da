/- The queue of requests: Drop, and no queue. -/
import Derived.Test.YtppclmidnomkjabQueue5
namespace Go.Proofs.Ytppclmidnomkjab
set_option linter.unusedVariables false
set_option linter.unusedSimpArgs false
open Go Go.RowKit
theorem fil_len (job : Int) (l : List AskR) : (fil job l).length ≤ l.length := List.length_filter_le _ _
set_option maxHeartbeats 1000000 in
set_option maxRecDepth 10000 in
theorem qremoveall_any (lo g N : Nat) (job : Int) (v : Value) (l : List AskR) (most : Nat) (w : World) (hN : w.heap[N]? = some (.cells #[.int .i64 job] 3 (0, 0))) (h : Qu w lo g v l most) :
    Calls Try.prog 31 #[.pointer (some ⟨g, 0, none⟩), dropF N] w fun e w' => e = .returned (.int .i64 ((l.length : Int) - (fil job l).length)) ∧ ∃ v', Qu w' lo g v' (fil job l) most ∧ v'.ownBlock = v.ownBlock ∧ Upd (QS g v) w w' := by
  obtain ⟨A, c, rfl, hc1, hc2⟩ := h.form
  have c0 := blk_cell (j := 0) h.blk rfl
  have hlen := h.len
  have hmo := h.most
  have hfl := fil_len job l
  have hdf := Lib.hid (deletef_asks lo N job A l.length c l rfl (by omega) w hN h.row)
  have hne := Lib.hid (row_ne h.row h.blk (by decide))
  replace h := Lib.hid h
  replace hN := Lib.hid hN
  unfold dropF at *
  go_enter Try.func31, Try.ntmps31
  go_wp2_with fail
  refine hdf.out.mono ?_
  clear hdf
  rintro e w1 ⟨v1, rfl, hr1, hv1, hu1⟩
  have hh1 := (hu1.2.2.2.2 g h.out.lt (fun e => hne.out e)).trans h.out.blk
  have d0 := blk_cell (j := 0) hh1 rfl
  have f0 := blk_free hh1 0
  obtain ⟨A1, c1, rfl, -, -⟩ := row_form hr1
  have hset := blk_set hh1 0 (.slice A1 (fil job l).length c1)
  have hQ : Hid (Qu (w1.setCell ⟨g, 0, none⟩ (.slice A1 (fil job l).length c1)) lo g (.slice A1 (fil job l).length c1) (fil job l) most) := Lib.hid ⟨hset, h.out.low, row_set_other hr1 g 0 _ (row_ne hr1 hh1 (by decide)), by omega, hmo, fun q hq => h.out.ok q (List.mem_filter.1 hq).1⟩
  have hu2 := Lib.hid ((hu1.mono (fun k hk => .inr hk) : Upd (QS g (.slice A l.length c)) w w1).trans (Upd.of_grown (S := QS g (.slice A l.length c)) (blk_grown w1 g 0 (.slice A1 (fil job l).length c1)) (.inl rfl)))
  replace hv1 := Lib.hid hv1
  replace hr1 := Lib.hid hr1
  replace hh1 := Lib.hid hh1
  replace hset := Lib.hid hset
  clear hu1 c0
  go_wp2
  go_ret
  exact ⟨rfl, _, hQ.out, hv1.out, hu2.out⟩
set_option maxHeartbeats 1000000 in
set_option maxRecDepth 10000 in
theorem qdrop_any (lo g : Nat) (job : Int) (v : Value) (l : List AskR) (most : Nat) (w : World) (h : Qu w lo g v l most) :
    Calls Try.prog 17 #[.pointer (some ⟨g, 0, none⟩), .int .i64 job] w fun e w' => e = .returned (.int .i64 ((l.length : Int) - (fil job l).length)) ∧ ∃ v', Qu w' lo g v' (fil job l) most ∧ v'.ownBlock = v.ownBlock ∧ Upd (QS g v) w w' := by
  have hmf : ∀ (fn : Fn) (first cap : Array Value) (w : World), (Instr.makeFunc fn first cap).run Try.prog w = .ok (.func fn first cap) w := fun _ _ _ _ => rfl
  have hnew := heap_alloc_new w (.cells #[.int .i64 job] 3)
  have hb := (Below.refl w.heap.size w).alloc (Nat.le_refl _) (.cells #[.int .i64 job] 3)
  have hQ1 := Lib.hid (h.below hb)
  have hu1 : Hid (Upd (QS g v) w (w.alloc (.cells #[.int .i64 job] 3))) := Lib.hid (Upd.of_below hb)
  have hra := qremoveall_any lo g w.heap.size job v l most _ hnew hQ1.out
  unfold dropF at hra
  replace hra := Lib.hid hra
  have hfl := fil_len job l
  have hlen := h.len
  have hmo := h.most
  replace h := Lib.hid h
  replace hb := Lib.hid hb
  replace hnew := Lib.hid hnew
  go_enter Try.func17, Try.ntmps17
  go_wp2_with fail
  refine hra.out.mono ?_
  rintro e w1 ⟨rfl, v1, hQ, hv, hu⟩
  replace hQ := Lib.hid hQ
  replace hv := Lib.hid hv
  have hu2 := Lib.hid (hu1.out.trans hu)
  clear hu
  go_wp2
  go_ret
  exact ⟨rfl, v1, hQ.out, hv.out, hu2.out⟩
set_option maxRecDepth 10000 in
theorem qlen_nil (w : World) : Calls Try.prog 21 #[.pointer none] w fun e w' => e = .returned (.int .i64 0) ∧ Below w.heap.size w w' := by
  go_enter Try.func21, Try.ntmps21
  go_wp2
  go_ret
  exact ⟨rfl, by first | exact Below.refl _ _ | exact (Below.refl _ _).alloc (Nat.le_refl _) _⟩
set_option maxRecDepth 10000 in
theorem qall_nil (w : World) : Calls Try.prog 23 #[.pointer none] w fun e w' => e = .returned (.slice none 0 0) ∧ Below w.heap.size w w' := by
  go_enter Try.func23, Try.ntmps23
  go_wp2
  go_ret
  exact ⟨rfl, by first | exact Below.refl _ _ | exact (Below.refl _ _).alloc (Nat.le_refl _) _⟩
set_option maxRecDepth 10000 in
theorem qdrop_nil (job : Int) (w : World) : Calls Try.prog 17 #[.pointer none, .int .i64 job] w fun e w' => e = .returned (.int .i64 0) ∧ Below w.heap.size w w' := by
  go_enter Try.func17, Try.ntmps17
  go_wp2
  go_ret
  exact ⟨rfl, by first | exact Below.refl _ _ | exact (Below.refl _ _).alloc (Nat.le_refl _) _⟩
set_option maxRecDepth 10000 in
theorem qpush_nil (q : AskR) (w : World) : Calls Try.prog 19 #[.pointer none, q.agg] w fun e w' => e = .returned (.bool false) ∧ Below w.heap.size w w' := by
  unfold AskR.agg
  have hb := Lib.hid ((Below.refl w.heap.size w).alloc (Nat.le_refl _) (.cells #[.int .i64 q.a, .int .i64 q.b, .int .i64 q.c, .int .i64 q.d, .int .i64 q.e, .int .i64 q.f] 28))
  go_enter Try.func19, Try.ntmps19
  go_wp2_with fail
  go_quiet (fail)
  go_wp2
  go_ret
  exact ⟨rfl, ⟨hb.out.os, hb.out.tape, hb.out.output, hb.out.size, hb.out.block⟩⟩
/-- are two requests one -/
def sameA (p q : AskR) : Bool := p.a == q.a && p.b == q.b && p.c == q.c && p.d == q.d && p.e == q.e && p.f == q.f
theorem sameA_self (p : AskR) : sameA p p = true := by simp [sameA]
set_option maxHeartbeats 1000000 in
set_option maxRecDepth 10000 in
theorem same_self (p : AskR) (w : World) : Calls Try.prog 16 #[p.agg, p.agg] w fun e w' => e = .returned (.bool true) ∧ Below w.heap.size w w' := by
  unfold AskR.agg
  have hb := Lib.hid (((Below.refl w.heap.size w).alloc (Nat.le_refl _) (.cells #[.int .i64 p.a, .int .i64 p.b, .int .i64 p.c, .int .i64 p.d, .int .i64 p.e, .int .i64 p.f] 28)).alloc (by simp) (.cells #[.int .i64 p.a, .int .i64 p.b, .int .i64 p.c, .int .i64 p.d, .int .i64 p.e, .int .i64 p.f] 28))
  go_enter Try.func16, Try.ntmps16
  go_wp2
  go_ret
  exact ⟨rfl, hb.out⟩
end Go.Proofs.Ytppclmidnomkjab
