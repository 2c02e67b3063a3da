/- The reference's Same; the append of one record. -/
import Derived.Test.YtdgkcgiknfjpjaaBl10
namespace Go.Proofs.Ytdgkcgiknfjpjaa
set_option linter.unusedVariables false
set_option linter.unusedSimpArgs false
open Go Go.RowKit
set_option maxHeartbeats 8000000 in
set_option maxRecDepth 10000 in
theorem rsame18_any (a b : Rc) (A A2 : Option Addr) (c c2 : Nat) (w : World) (h : Rd w w.heap.size A a.data) (h2 : Rd w w.heap.size A2 b.data) :
    Calls Try.prog 23 #[a.agg A c, b.agg A2 c2] w fun e w' => e = .returned (.bool (sameR a b)) ∧ Below w.heap.size w w' := by
  have hb1 := (Below.refl w.heap.size w).alloc (Nat.le_refl _) (.cells #[.int .i64 a.kind, .int .i64 a.cart, .string (bs a.key), .int .i64 a.gen, .int .i64 a.group, .int .i64 a.groups, .int .i64 a.index, .int .i64 a.size, .string (bs a.sum), .slice A a.data.length c] 41)
  have hb := Lib.hid (hb1.alloc hb1.size (.cells #[.int .i64 b.kind, .int .i64 b.cart, .string (bs b.key), .int .i64 b.gen, .int .i64 b.group, .int .i64 b.groups, .int .i64 b.index, .int .i64 b.size, .string (bs b.sum), .slice A2 b.data.length c2] 41))
  have hR := Lib.hid (h.up hb.out)
  have hR2 := Lib.hid (h2.up hb.out)
  have hv := sameR_eq a b
  clear hb1 h h2
  have cv1 := run_str_at c hR.out rfl
  have cv2 := run_str_at c2 hR2.out rfl
  unfold Rc.agg
  obtain ⟨k0, d0⟩ : ∃ k, (a.kind == b.kind) = k := ⟨_, rfl⟩
  have f0 : (a.kind != b.kind) = !k0 := by rw [bne, d0]
  rw [d0] at hv
  obtain ⟨k1, d1⟩ : ∃ k, (a.cart == b.cart) = k := ⟨_, rfl⟩
  have f1 : (a.cart != b.cart) = !k1 := by rw [bne, d1]
  rw [d1] at hv
  obtain ⟨k2, e2⟩ : ∃ k, (a.key == b.key) = k := ⟨_, rfl⟩
  have d2 : (bs a.key == bs b.key) = k2 := by rw [bs_beq, e2]
  have f2 : (bs a.key != bs b.key) = !k2 := by rw [bne, d2]
  have g2 : (a.key != b.key) = !k2 := by rw [bne, e2]
  rw [e2] at hv
  obtain ⟨k3, d3⟩ : ∃ k, (a.gen == b.gen) = k := ⟨_, rfl⟩
  have f3 : (a.gen != b.gen) = !k3 := by rw [bne, d3]
  rw [d3] at hv
  obtain ⟨k4, d4⟩ : ∃ k, (a.group == b.group) = k := ⟨_, rfl⟩
  have f4 : (a.group != b.group) = !k4 := by rw [bne, d4]
  rw [d4] at hv
  obtain ⟨k5, d5⟩ : ∃ k, (a.groups == b.groups) = k := ⟨_, rfl⟩
  have f5 : (a.groups != b.groups) = !k5 := by rw [bne, d5]
  rw [d5] at hv
  obtain ⟨k6, d6⟩ : ∃ k, (a.index == b.index) = k := ⟨_, rfl⟩
  have f6 : (a.index != b.index) = !k6 := by rw [bne, d6]
  rw [d6] at hv
  obtain ⟨k7, d7⟩ : ∃ k, (a.size == b.size) = k := ⟨_, rfl⟩
  have f7 : (a.size != b.size) = !k7 := by rw [bne, d7]
  rw [d7] at hv
  obtain ⟨k8, e8⟩ : ∃ k, (a.sum == b.sum) = k := ⟨_, rfl⟩
  have d8 : (bs a.sum == bs b.sum) = k8 := by rw [bs_beq, e8]
  have f8 : (bs a.sum != bs b.sum) = !k8 := by rw [bne, d8]
  have g8 : (a.sum != b.sum) = !k8 := by rw [bne, e8]
  rw [e8] at hv
  obtain ⟨k9, e9⟩ : ∃ k, (a.data == b.data) = k := ⟨_, rfl⟩
  have d9 : (bs a.data == bs b.data) = k9 := by rw [bs_beq, e9]
  have f9 : (bs a.data != bs b.data) = !k9 := by rw [bne, d9]
  have g9 : (a.data != b.data) = !k9 := by rw [bne, e9]
  rw [e9] at hv
  rw [hv]
  clear hv
  go_enter Try.func23, Try.ntmps23
  go_wp2
  all_goals (first | go_ret | (go_wp2; go_ret))
  all_goals refine ⟨congrArg (fun z => Ending.returned (Value.bool z)) ?_, hb.out⟩
  all_goals simp_all
theorem info_r10 : (Try.prog.info? 41).map (fun i => (i.zero, i.size, i.bytes)) = some (some (.agg #[.int .i64 0, .int .i64 0, .string ⟨#[]⟩, .int .i64 0, .int .i64 0, .int .i64 0, .int .i64 0, .int .i64 0, .string ⟨#[]⟩, .slice none 0 0]), 10, 112) := info_rec10
theorem wpl_appR {w : World} {ops : Array Oper} {rest : List Oper} {o : Oper} {a : Act} {Q : Exit → Act → World → Prop} (hgd : o.guard = none) (s x : Operand)
    (ho : o.op = .call { callee := .builtin .append, args := #[s, x], argTypes := #[33, 33] })
    (base : Nat) (v : Value) (E : List Re) (q : Re) (hs : a.eval s = v) (hown : OR E v base w) (A : Option Addr) (c : Nat) (hx : a.eval x = .slice A 1 c) (hr : Reads w w.heap.size 10 A 1 q.cells)
    (hq : ReV q w) (hap : Apr q v.ownBlock) (hlen : E.length ≤ 1000000000000) (hbase : base ≤ w.heap.size)
    (h : ∀ v' w', OR (E ++ [q]) v' base w' → w.grownBy w' v.ownBlock → Below base w w' → wpList Try.prog ops Q rest (a.put o.dst v') w') : wpList Try.prog ops Q (o :: rest) a w := by
  obtain ⟨i0, hi, hz0, hz1, hz2⟩ := info_parts info_r10
  exact wpList_plain hgd fun _ hK => wp_append_any w s x 33 ho base 41 i0 _ 10 112 Try.underlying33 hi hz0 hz1 hz2 rfl (by omega) v E.length (flatRe E) hs hown.row w.heap.size A 1 c q.cells hx hr (by have := flatRe_one [q]; simpa [flatRe] using this)
    (by simp only [maxLen]; omega) (by omega) hbase fun v' w' h2 h3 h4 => hK _ _ (h v' w' (hown.snoc q hq hap h2 h3 h4) h3 ((Below.refl base w).grown h3 hbase (fun k hk => (World.ownsRow.lt hown.row k hk).1)))
end Go.Proofs.Ytdgkcgiknfjpjaa
