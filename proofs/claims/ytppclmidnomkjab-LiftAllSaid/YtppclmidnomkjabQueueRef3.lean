/- The reference queue: a Push that has room. -/
import Derived.Test.YtppclmidnomkjabQueueRef2
import Derived.Test.YtppclmidnomkjabReg2
namespace Go.Proofs.Ytppclmidnomkjab
set_option linter.unusedVariables false
set_option linter.unusedSimpArgs false
open Go Go.RowKit
theorem Reads.blk6 {w : World} {x B : Nat} {q : AskR} {t : TypeId} (hh : w.heap[x]? = some (.cells #[.int .i64 q.a, .int .i64 q.b, .int .i64 q.c, .int .i64 q.d, .int .i64 q.e, .int .i64 q.f] t (0, 0))) (hB : x < B) : Reads w B 6 (some ⟨x, 0, none⟩) 1 q.cells :=
  ⟨rfl, fun _ => ⟨_, rfl, hB, World.news_of_block hh |> fun hh j u hu => hh j u hu⟩⟩
theorem wp_append_asks {w : World} {o : Oper} {a : Act} {K : Act → World → Prop} {Q : Exit → Act → World → Prop} (s x : Operand)
    (ho : o.op = .call { callee := .builtin .append, args := #[s, x], argTypes := #[37, 37] })
    (base : Nat) (v : Value) (l : List AskR) (hs : a.eval s = v) (hown : ARow w base v l)
    (B : Nat) (A : Option Addr) (c m : Nat) (news : List AskR) (hm : news.length = m) (hx : a.eval x = .slice A m c) (hr : Reads w B 6 A m (flatA news))
    (hlen : (l.length + m) * 48 ≤ 140737488355328) (hbase : base ≤ w.heap.size)
    (h : ∀ v' w', ARow w' base v' (l ++ news) → w.grownBy w' v.ownBlock → K (a.put o.dst v') w') : Oper.wp Try.prog o a w K Q := by
  obtain ⟨i0, hi, hz0, hz1, hz2⟩ := info_parts info_ask
  refine wp_append_any w s x 37 ho base 28 i0 _ 6 48 Try.underlying37 hi hz0 hz1 hz2 rfl (by omega) v l.length (flatA l) hs hown B A m c (flatA news) hx hr
    (fun u hu => by
      unfold flatA at hu
      obtain ⟨q, _, hq⟩ := List.mem_flatMap.1 hu
      exact q.one u hq)
    (by simp only [maxLen]; omega) hlen hbase fun v' w' h2 h3 h4 => h v' w' ?_ h3
  unfold ARow
  rw [List.length_append, flatA_app, hm]
  exact h2
set_option maxHeartbeats 2000000 in
set_option maxRecDepth 10000 in
theorem rpush_ok (lo g : Nat) (v : Value) (l : List AskR) (most : Nat) (q : AskR) (hq : q.Ok) (hroom : l.length < most) (w : World) (h : Rq w lo g v l most) :
    Calls Try.prog 20 #[.pointer (some ⟨g, 0, none⟩), q.agg] w fun e w' => e = .returned (.bool true) ∧ ∃ v', Rq w' lo g v' (l ++ [q]) most ∧ (∀ k, v'.ownBlock = some k → w.heap.size ≤ k) ∧ Upd (· = g) w w' := by
  obtain ⟨A, c, rfl, hc1, hc2⟩ := h.form
  have hlen := h.len
  have hmo := h.most
  have hlow := h.low
  have hlw := h.lw
  have hgw := h.lt
  have hb1 := (Below.refl w.heap.size w).alloc (Nat.le_refl _) (.cells #[.int .i64 q.a, .int .i64 q.b, .int .i64 q.c, .int .i64 q.d, .int .i64 q.e, .int .i64 q.f] 28)
  have hnew := heap_alloc_new w (.cells #[.int .i64 q.a, .int .i64 q.b, .int .i64 q.c, .int .i64 q.d, .int .i64 q.e, .int .i64 q.f] 28)
  have hQ := h.below hb1
  have hws : (w.alloc (.cells #[.int .i64 q.a, .int .i64 q.b, .int .i64 q.c, .int .i64 q.d, .int .i64 q.e, .int .i64 q.f] 28)).heap.size = w.heap.size + 1 := by simp
  have c0 := blk_cell (j := 0) hQ.blk rfl
  have c1 := blk_cell (j := 1) hQ.blk rfl
  have hok : Hid (∀ p ∈ l ++ [q], p.Ok) := Lib.hid (fun p hp => by
    rcases List.mem_append.1 hp with h1 | h1
    · exact h.ok p h1
    · rw [List.mem_singleton] at h1; subst h1; exact hq)
  obtain ⟨n, hn⟩ : ∃ n, l.length = n := ⟨_, rfl⟩
  have hn1 : Hid ((l ++ [q]).length = n + 1) := Lib.hid (by rw [List.length_append, hn]; rfl)
  rw [hn] at hQ hc1 hlen hroom c0
  replace hn := Lib.hid hn
  replace hq := Lib.hid hq
  replace hQ := Lib.hid hQ
  replace hb1 := Lib.hid hb1
  replace hnew := Lib.hid hnew
  replace hws := Lib.hid hws
  clear h
  unfold AskR.agg
  have hd : decide ((most : Int) ≤ (n : Int)) = false := decide_eq_false (by omega)
  go_enter Try.func20, Try.ntmps20
  go_wp2_with fail
  go_quiet (fail)
  go_wp2_with fail
  obtain ⟨wd, hwd⟩ : ∃ wd, wd = ((w.alloc (.cells #[.int .i64 q.a, .int .i64 q.b, .int .i64 q.c, .int .i64 q.d, .int .i64 q.e, .int .i64 q.f] 28)).drewN nq).drew := ⟨_, rfl⟩
  have hbw : Hid (Below w.heap.size w wd) := Lib.hid (by rw [hwd]; exact ⟨hb1.out.os, hb1.out.tape, hb1.out.output, hb1.out.size, hb1.out.block⟩)
  replace hQ : Hid (Rq wd lo g (.slice A n c) l most) := Lib.hid (by rw [hwd]; exact hQ.out.drewN (nq + 1))
  replace hnew : Hid (wd.heap[w.heap.size]? = some (.cells #[.int .i64 q.a, .int .i64 q.b, .int .i64 q.c, .int .i64 q.d, .int .i64 q.e, .int .i64 q.f] 28 (0, 0))) := Lib.hid (by rw [hwd]; exact hnew.out)
  obtain ⟨N, hN⟩ : ∃ N, w.heap.size = N := ⟨_, rfl⟩
  have hND0 := blk_lt hnew.out
  have hwD := hbw.out.size
  rw [hN] at hnew hlw hgw hND0 ⊢
  replace hN := Lib.hid hN
  obtain ⟨B, hB⟩ : ∃ B, wd.heap.size = B := ⟨_, rfl⟩
  have hgD : g < wd.heap.size := by rw [← hN] at hgw; omega
  have hND : N < wd.heap.size := hND0
  have hwB : w.heap.size ≤ B := by rw [← hB]; exact hwD
  have hNlt : N < B := by rw [← hB]; exact hND
  have hNB : N ≤ B := by omega
  have hgB : g < B := by omega
  have hloB : lo ≤ B := by omega
  have hblk := Lib.hid hQ.out.blk
  have hrow := Lib.hid hQ.out.row
  have hnS : Hid (∀ k, (Value.slice A n c).ownBlock = some k → ¬ B ≤ k) := Lib.hid (fun k hk => by have := (hrow.out.lt k hk).2; omega)
  have hup : Hid (Upd (B ≤ ·) wd wd) := Lib.hid (Upd.refl _ _)
  replace hB := Lib.hid hB
  clear c0 c1 hd hQ hb1 hws
  refine wpR_region (Upd (B ≤ ·)) 12 (by kernel_rfl) ?_
  (rw [← hwd]; replace hwd := Lib.hid hwd)
  refine wpR_take (i := 0) (v := ?_) (Upd.road _) (some 15) rfl (by kernel_rfl) (by kernel_rfl) (by kernel_rfl) (by kernel_rfl) (by kernel_rfl) (fun _ _ _ h => h) (by kernel_rfl) (fun w' hw' => ?_) ?_
  rotate_left
  · go_simp; with_reducible rfl
  simp only [Act.put, List.setIfInBounds_toArray, List.set_cons_zero, List.set_cons_succ]
  refine wpR_take (i := 2) (v := ?_) (Upd.road _) (some 17) rfl (by kernel_rfl) (by kernel_rfl) (by kernel_rfl) (by kernel_rfl) (by kernel_rfl) (fun _ _ _ h => h) (by kernel_rfl) (fun w' hw' => ?_) ?_
  rotate_left
  · go_simp; with_reducible rfl
  simp only [Act.put, List.setIfInBounds_toArray, List.set_cons_zero, List.set_cons_succ]
  refine wpR_take (i := 3) (v := ?_) (Upd.road _) (some 18) rfl (by kernel_rfl) (by kernel_rfl) (by kernel_rfl) (by kernel_rfl) (by kernel_rfl) (fun _ _ _ h => h) (by kernel_rfl) (fun w' hw' => ?_) ?_
  rotate_left
  · go_simp; with_reducible rfl
  simp only [Act.put, List.setIfInBounds_toArray, List.set_cons_zero, List.set_cons_succ]
  refine wpR_take (i := 4) (v := ?_) (Upd.road _) (some 19) rfl (by kernel_rfl) (by kernel_rfl) (by kernel_rfl) (by kernel_rfl) (by kernel_rfl) (fun _ _ _ h => h) (by kernel_rfl) (fun w' hw' => ?_) ?_
  rotate_left
  · go_simp; with_reducible rfl
  simp only [Act.put, List.setIfInBounds_toArray, List.set_cons_zero, List.set_cons_succ]
  refine wpR_take (i := 5) (v := ?_) (Upd.road _) (some 20) rfl (by kernel_rfl) (by kernel_rfl) (by kernel_rfl) (by kernel_rfl) (by kernel_rfl) (fun _ _ _ h => h) (by kernel_rfl) (fun w' hw' => ?_) ?_
  rotate_left
  · have q0 := blk_cell (j := 0) ((hw'.2.2.2.2 g hgD (by omega)).trans hblk.out) rfl; go_simp; with_reducible rfl
  simp only [Act.put, List.setIfInBounds_toArray, List.set_cons_zero, List.set_cons_succ]
  refine wpR_take (i := 7) (v := ?_) (Upd.road _) (some 22) rfl (by kernel_rfl) (by kernel_rfl) (by kernel_rfl) (by kernel_rfl) (by kernel_rfl) (fun _ _ _ h => h) (by kernel_rfl) (fun w' hw' => ?_) ?_
  rotate_left
  · have hn5 := (hw'.2.2.2.2 N hND (by omega)).trans hnew.out; have k0 := blk_cell (j := 0) hn5 rfl; have k1 := blk_cell (j := 1) hn5 rfl; have k2 := blk_cell (j := 2) hn5 rfl; have k3 := blk_cell (j := 3) hn5 rfl; have k4 := blk_cell (j := 4) hn5 rfl; have k5 := blk_cell (j := 5) hn5 rfl; go_simp; with_reducible rfl
  simp only [Act.put, List.setIfInBounds_toArray, List.set_cons_zero, List.set_cons_succ]
  refine wpR_two 1 8 rfl rfl (by kernel_rfl) (by kernel_rfl) (by kernel_rfl) (fun K hK => ?_) (fun K hK => ?_)
  · go_simp
    refine hK _ _ (fun _ => Upd.of_below ((Below.refl _ _).alloc (Nat.le_refl _) _)) ?_
    clear hK K
    have hE0 : ARow (wd.alloc (.cells #[] 28)) wd.heap.size (.slice (some ⟨wd.heap.size, 0, none⟩) 0 0) [] := World.ownsRow_made wd #[] 0 (Nat.le_refl _) (by simp [maxLen]) rfl
    have hua := hup.out.trans (Upd.of_below (S := (B ≤ ·)) ((Below.refl wd.heap.size wd).alloc (Nat.le_refl _) (.cells #[] 28)))
    have hpB : B ≤ wd.heap.size := by rw [← hB.out]; exact hup.out.size
    obtain ⟨wa, hwa⟩ : ∃ wa, wd.alloc (.cells #[] 28) = wa := ⟨_, rfl⟩
    obtain ⟨x1, hx1⟩ : ∃ x1, wd.heap.size = x1 := ⟨_, rfl⟩
    rw [hwa] at hE0 hua ⊢
    rw [hx1] at hE0 hpB ⊢
    have hE := Lib.hid (hE0.mono hpB)
    replace hup := Lib.hid hua
    clear hE0 hua
    replace hwa := Lib.hid hwa
    replace hx1 := Lib.hid hx1
    try simp only [Act.put, List.setIfInBounds_toArray, List.set_cons_zero, List.set_cons_succ]
    refine wpR_two 6 8 rfl rfl (by kernel_rfl) (by kernel_rfl) (by kernel_rfl) (fun K hK => ?_) (fun K hK => ?_)
    · have hrd := (ARow.reads (row_upd hrow.out hup.out hnS.out)).1
      have hbp : B ≤ wa.heap.size := by rw [← hB.out]; exact hup.out.size
      refine wp_append_asks (.tmp 16) (.tmp 20) rfl B (.slice (some ⟨x1, 0, none⟩) 0 0) [] rfl hE.out wa.heap.size A c n l hn.out rfl hrd (by simp; omega) hbp ?_
      intro v6 wc hr6 hg6
      have hu6 : Upd (B ≤ ·) wa wc := (Upd.of_own hg6).mono (fun k hk => (hE.out.lt k hk).1)
      refine hK _ _ (fun _ => hu6) ?_
      clear hK K
      rw [List.nil_append] at hr6
      obtain ⟨A6, c6, rfl, -, -⟩ := row_form hr6
      rw [hn.out] at hr6 ⊢
      have hA : Hid (ARow wc B (.slice A6 n c6) l) := Lib.hid hr6
      replace hup := Lib.hid (hup.out.trans hu6)
      clear hr6 hg6 hu6 hrd
      try simp only [Act.put, List.setIfInBounds_toArray, List.set_cons_zero, List.set_cons_succ]
      refine wpR_one 8 rfl (by kernel_rfl) (by kernel_rfl) (fun K hK => ?_)
      go_simp
      refine hK _ _ (fun _ => Upd.of_below ((Below.refl _ _).alloc (Nat.le_refl _) _)) ?_
      clear hK K
      have hX0 := heap_alloc_new wc (.cells #[.int .i64 q.a, .int .i64 q.b, .int .i64 q.c, .int .i64 q.d, .int .i64 q.e, .int .i64 q.f] 28)
      have hua := hup.out.trans (Upd.of_below (S := (B ≤ ·)) ((Below.refl wc.heap.size wc).alloc (Nat.le_refl _) (.cells #[.int .i64 q.a, .int .i64 q.b, .int .i64 q.c, .int .i64 q.d, .int .i64 q.e, .int .i64 q.f] 28)))
      have hAa : ARow (wc.alloc (.cells #[.int .i64 q.a, .int .i64 q.b, .int .i64 q.c, .int .i64 q.d, .int .i64 q.e, .int .i64 q.f] 28)) B (.slice A6 n c6) l := hA.out.alloc (.cells #[.int .i64 q.a, .int .i64 q.b, .int .i64 q.c, .int .i64 q.d, .int .i64 q.e, .int .i64 q.f] 28)
      obtain ⟨wb, hwb⟩ : ∃ wb, wc.alloc (.cells #[.int .i64 q.a, .int .i64 q.b, .int .i64 q.c, .int .i64 q.d, .int .i64 q.e, .int .i64 q.f] 28) = wb := ⟨_, rfl⟩
      obtain ⟨x8, hx8⟩ : ∃ x8, wc.heap.size = x8 := ⟨_, rfl⟩
      rw [hwb] at hX0 hua hAa ⊢
      rw [hx8] at hX0 ⊢
      have hX8 := Lib.hid hX0
      replace hup := Lib.hid hua
      replace hA := Lib.hid hAa
      clear hX0 hua
      replace hwb := Lib.hid hwb
      replace hx8 := Lib.hid hx8
      try simp only [Act.put, List.setIfInBounds_toArray, List.set_cons_zero, List.set_cons_succ]
      refine wpR_one 9 rfl (by kernel_rfl) (by kernel_rfl) (fun K hK => ?_)
      have hrd : Reads wb wb.heap.size 6 (some ⟨x8, 0, none⟩) 1 (flatA [q]) := by rw [flatA_one]; exact Reads.blk6 hX8.out (blk_lt hX8.out)
      have hbp : B ≤ wb.heap.size := by rw [← hB.out]; exact hup.out.size
      refine wp_append_asks (.tmp 21) (.tmp 23) rfl B (.slice A6 n c6) l rfl hA.out wb.heap.size (some ⟨x8, 0, none⟩) 1 1 [q] rfl rfl hrd (by rw [hn.out]; omega) hbp ?_
      intro v9 we hr9 hg9
      have hu9 : Upd (B ≤ ·) wb we := (Upd.of_own hg9).mono (fun k hk => (hA.out.lt k hk).1)
      refine hK _ _ (fun _ => hu9) ?_
      clear hK K
      obtain ⟨A9, c9, rfl, -, -⟩ := row_form hr9
      rw [hn1.out] at hr9 ⊢
      have hut := hup.out.trans hu9
      have hh9 := (hut.2.2.2.2 g hgD (by omega)).trans hblk.out
      have q0 := blk_cell (j := 0) hh9 rfl
      have q1 := blk_free hh9 0
      have hset := blk_set hh9 0 (.slice A9 (n + 1) c9)
      have hQ2 : Hid (Rq (we.setCell ⟨g, 0, none⟩ (.slice A9 (n + 1) c9)) lo g (.slice A9 (n + 1) c9) (l ++ [q]) most) := Lib.hid ⟨hset, hlow, ARow.mono (row_set_other hr9 g 0 _ (row_ne hr9 hh9 (by decide))) hloB, by rw [hn1.out]; omega, hmo, hok.out⟩
      have hfu : Hid (Upd (· = g) w (we.setCell ⟨g, 0, none⟩ (.slice A9 (n + 1) c9))) := Lib.hid (((Upd.of_below (S := (· = g)) (Upd.to_below hbw.out hut hwD (fun k hk => Nat.le_trans hwB hk)))).trans (Upd.of_grown (blk_grown we g 0 _) rfl))
      have hfv : Hid (∀ k, (Value.slice A9 (n + 1) c9).ownBlock = some k → w.heap.size ≤ k) := Lib.hid (fun k hk => Nat.le_trans hwB (hr9.lt k hk).1)
      replace hset := Lib.hid hset
      replace hh9 := Lib.hid hh9
      clear hr9 hg9 hu9 hut hrd
      try simp only [Act.put, List.setIfInBounds_toArray, List.set_cons_zero, List.set_cons_succ]
      refine wpR_one 10 rfl (by kernel_rfl) (by kernel_rfl) (fun K hK => ?_)
      go_simp
      refine hK _ _ (fun _ => Upd.refl _ _) ?_
      clear hK K
      try simp only [Act.put, List.setIfInBounds_toArray, List.set_cons_zero, List.set_cons_succ]
      refine wpR_take (i := 11) (v := ?_) (Upd.road _) (some 26) rfl (by kernel_rfl) (by kernel_rfl) (by kernel_rfl) (by kernel_rfl) (by kernel_rfl) (fun _ _ _ h => h) (by kernel_rfl) (fun w' hw' => ?_) ?_
      rotate_left
      · go_simp; with_reducible rfl
      simp only [Act.put, List.setIfInBounds_toArray, List.set_cons_zero, List.set_cons_succ]
      refine wpR_one 12 rfl (by kernel_rfl) (by kernel_rfl) (fun K hK => ?_)
      go_simp
      refine hK _ _ (fun h => absurd rfl h) ?_
      clear hK K
      try simp only [Act.put, List.setIfInBounds_toArray, List.set_cons_zero, List.set_cons_succ]
      refine wpR_done (by kernel_rfl) ?_ _
      go_wp2
      go_ret
      exact ⟨rfl, _, hQ2.out, hfv.out, hfu.out⟩
    · go_simp
      refine hK _ _ (fun _ => Upd.of_below ((Below.refl _ _).alloc (Nat.le_refl _) _)) ?_
      clear hK K
      have hX0 := heap_alloc_new wa (.cells #[.int .i64 q.a, .int .i64 q.b, .int .i64 q.c, .int .i64 q.d, .int .i64 q.e, .int .i64 q.f] 28)
      have hua := hup.out.trans (Upd.of_below (S := (B ≤ ·)) ((Below.refl wa.heap.size wa).alloc (Nat.le_refl _) (.cells #[.int .i64 q.a, .int .i64 q.b, .int .i64 q.c, .int .i64 q.d, .int .i64 q.e, .int .i64 q.f] 28)))
      have hEa : ARow (wa.alloc (.cells #[.int .i64 q.a, .int .i64 q.b, .int .i64 q.c, .int .i64 q.d, .int .i64 q.e, .int .i64 q.f] 28)) B (.slice (some ⟨x1, 0, none⟩) 0 0) [] := hE.out.alloc (.cells #[.int .i64 q.a, .int .i64 q.b, .int .i64 q.c, .int .i64 q.d, .int .i64 q.e, .int .i64 q.f] 28)
      have hx1l := (hE.out.lt x1 rfl).2
      obtain ⟨wb, hwb⟩ : ∃ wb, wa.alloc (.cells #[.int .i64 q.a, .int .i64 q.b, .int .i64 q.c, .int .i64 q.d, .int .i64 q.e, .int .i64 q.f] 28) = wb := ⟨_, rfl⟩
      obtain ⟨x8, hx8⟩ : ∃ x8, wa.heap.size = x8 := ⟨_, rfl⟩
      rw [hwb] at hX0 hua hEa ⊢
      rw [hx8] at hX0 hx1l ⊢
      have hX8 := Lib.hid hX0
      replace hup := Lib.hid hua
      replace hE := Lib.hid hEa
      have hne := Lib.hid (show x1 ≠ x8 by omega)
      clear hx1l
      clear hX0 hua
      replace hwb := Lib.hid hwb
      replace hx8 := Lib.hid hx8
      try simp only [Act.put, List.setIfInBounds_toArray, List.set_cons_zero, List.set_cons_succ]
      refine wpR_one 6 rfl (by kernel_rfl) (by kernel_rfl) (fun K hK => ?_)
      have hrd := (ARow.reads (row_upd hrow.out hup.out hnS.out)).1
      have hbp : B ≤ wb.heap.size := by rw [← hB.out]; exact hup.out.size
      refine wp_append_asks (.tmp 16) (.tmp 20) rfl B (.slice (some ⟨x1, 0, none⟩) 0 0) [] rfl hE.out wb.heap.size A c n l hn.out rfl hrd (by simp; omega) hbp ?_
      intro v6 wc hr6 hg6
      have hu6 : Upd (B ≤ ·) wb wc := (Upd.of_own hg6).mono (fun k hk => (hE.out.lt k hk).1)
      refine hK _ _ (fun _ => hu6) ?_
      clear hK K
      rw [List.nil_append] at hr6
      obtain ⟨A6, c6, rfl, -, -⟩ := row_form hr6
      rw [hn.out] at hr6 ⊢
      have hA : Hid (ARow wc B (.slice A6 n c6) l) := Lib.hid hr6
      replace hX8 := Lib.hid (((Upd.of_own hg6).2.2.2.2 x8 (blk_lt hX8.out) (fun e => hne.out (by injection e))).trans hX8.out)
      replace hup := Lib.hid (hup.out.trans hu6)
      clear hr6 hg6 hu6 hrd
      try simp only [Act.put, List.setIfInBounds_toArray, List.set_cons_zero, List.set_cons_succ]
      refine wpR_one 9 rfl (by kernel_rfl) (by kernel_rfl) (fun K hK => ?_)
      have hrd : Reads wc wc.heap.size 6 (some ⟨x8, 0, none⟩) 1 (flatA [q]) := by rw [flatA_one]; exact Reads.blk6 hX8.out (blk_lt hX8.out)
      have hbp : B ≤ wc.heap.size := by rw [← hB.out]; exact hup.out.size
      refine wp_append_asks (.tmp 21) (.tmp 23) rfl B (.slice A6 n c6) l rfl hA.out wc.heap.size (some ⟨x8, 0, none⟩) 1 1 [q] rfl rfl hrd (by rw [hn.out]; omega) hbp ?_
      intro v9 we hr9 hg9
      have hu9 : Upd (B ≤ ·) wc we := (Upd.of_own hg9).mono (fun k hk => (hA.out.lt k hk).1)
      refine hK _ _ (fun _ => hu9) ?_
      clear hK K
      obtain ⟨A9, c9, rfl, -, -⟩ := row_form hr9
      rw [hn1.out] at hr9 ⊢
      have hut := hup.out.trans hu9
      have hh9 := (hut.2.2.2.2 g hgD (by omega)).trans hblk.out
      have q0 := blk_cell (j := 0) hh9 rfl
      have q1 := blk_free hh9 0
      have hset := blk_set hh9 0 (.slice A9 (n + 1) c9)
      have hQ2 : Hid (Rq (we.setCell ⟨g, 0, none⟩ (.slice A9 (n + 1) c9)) lo g (.slice A9 (n + 1) c9) (l ++ [q]) most) := Lib.hid ⟨hset, hlow, ARow.mono (row_set_other hr9 g 0 _ (row_ne hr9 hh9 (by decide))) hloB, by rw [hn1.out]; omega, hmo, hok.out⟩
      have hfu : Hid (Upd (· = g) w (we.setCell ⟨g, 0, none⟩ (.slice A9 (n + 1) c9))) := Lib.hid (((Upd.of_below (S := (· = g)) (Upd.to_below hbw.out hut hwD (fun k hk => Nat.le_trans hwB hk)))).trans (Upd.of_grown (blk_grown we g 0 _) rfl))
      have hfv : Hid (∀ k, (Value.slice A9 (n + 1) c9).ownBlock = some k → w.heap.size ≤ k) := Lib.hid (fun k hk => Nat.le_trans hwB (hr9.lt k hk).1)
      replace hset := Lib.hid hset
      replace hh9 := Lib.hid hh9
      clear hr9 hg9 hu9 hut hrd
      try simp only [Act.put, List.setIfInBounds_toArray, List.set_cons_zero, List.set_cons_succ]
      refine wpR_one 10 rfl (by kernel_rfl) (by kernel_rfl) (fun K hK => ?_)
      go_simp
      refine hK _ _ (fun _ => Upd.refl _ _) ?_
      clear hK K
      try simp only [Act.put, List.setIfInBounds_toArray, List.set_cons_zero, List.set_cons_succ]
      refine wpR_take (i := 11) (v := ?_) (Upd.road _) (some 26) rfl (by kernel_rfl) (by kernel_rfl) (by kernel_rfl) (by kernel_rfl) (by kernel_rfl) (fun _ _ _ h => h) (by kernel_rfl) (fun w' hw' => ?_) ?_
      rotate_left
      · go_simp; with_reducible rfl
      simp only [Act.put, List.setIfInBounds_toArray, List.set_cons_zero, List.set_cons_succ]
      refine wpR_one 12 rfl (by kernel_rfl) (by kernel_rfl) (fun K hK => ?_)
      go_simp
      refine hK _ _ (fun h => absurd rfl h) ?_
      clear hK K
      try simp only [Act.put, List.setIfInBounds_toArray, List.set_cons_zero, List.set_cons_succ]
      refine wpR_done (by kernel_rfl) ?_ _
      go_wp2
      go_ret
      exact ⟨rfl, _, hQ2.out, hfv.out, hfu.out⟩
  · go_simp
    refine hK _ _ (fun _ => Upd.of_below ((Below.refl _ _).alloc (Nat.le_refl _) _)) ?_
    clear hK K
    have hX0 := heap_alloc_new wd (.cells #[.int .i64 q.a, .int .i64 q.b, .int .i64 q.c, .int .i64 q.d, .int .i64 q.e, .int .i64 q.f] 28)
    have hua := hup.out.trans (Upd.of_below (S := (B ≤ ·)) ((Below.refl wd.heap.size wd).alloc (Nat.le_refl _) (.cells #[.int .i64 q.a, .int .i64 q.b, .int .i64 q.c, .int .i64 q.d, .int .i64 q.e, .int .i64 q.f] 28)))
    obtain ⟨wb, hwb⟩ : ∃ wb, wd.alloc (.cells #[.int .i64 q.a, .int .i64 q.b, .int .i64 q.c, .int .i64 q.d, .int .i64 q.e, .int .i64 q.f] 28) = wb := ⟨_, rfl⟩
    obtain ⟨x8, hx8⟩ : ∃ x8, wd.heap.size = x8 := ⟨_, rfl⟩
    rw [hwb] at hX0 hua  ⊢
    rw [hx8] at hX0 ⊢
    have hX8 := Lib.hid hX0
    replace hup := Lib.hid hua
    clear hX0 hua
    replace hwb := Lib.hid hwb
    replace hx8 := Lib.hid hx8
    try simp only [Act.put, List.setIfInBounds_toArray, List.set_cons_zero, List.set_cons_succ]
    refine wpR_one 1 rfl (by kernel_rfl) (by kernel_rfl) (fun K hK => ?_)
    go_simp
    refine hK _ _ (fun _ => Upd.of_below ((Below.refl _ _).alloc (Nat.le_refl _) _)) ?_
    clear hK K
    have hE0 : ARow (wb.alloc (.cells #[] 28)) wb.heap.size (.slice (some ⟨wb.heap.size, 0, none⟩) 0 0) [] := World.ownsRow_made wb #[] 0 (Nat.le_refl _) (by simp [maxLen]) rfl
    have hua := hup.out.trans (Upd.of_below (S := (B ≤ ·)) ((Below.refl wb.heap.size wb).alloc (Nat.le_refl _) (.cells #[] 28)))
    have hpB : B ≤ wb.heap.size := by rw [← hB.out]; exact hup.out.size
    have hxa := blk_alloc hX8.out (.cells #[] 28)
    have hx8l := blk_lt hX8.out
    obtain ⟨wa, hwa⟩ : ∃ wa, wb.alloc (.cells #[] 28) = wa := ⟨_, rfl⟩
    obtain ⟨x1, hx1⟩ : ∃ x1, wb.heap.size = x1 := ⟨_, rfl⟩
    rw [hwa] at hE0 hua hxa ⊢
    rw [hx1] at hE0 hpB hx8l ⊢
    have hE := Lib.hid (hE0.mono hpB)
    replace hup := Lib.hid hua
    replace hX8 := Lib.hid hxa
    have hne := Lib.hid (show x1 ≠ x8 by omega)
    clear hxa hx8l
    clear hE0 hua
    replace hwa := Lib.hid hwa
    replace hx1 := Lib.hid hx1
    try simp only [Act.put, List.setIfInBounds_toArray, List.set_cons_zero, List.set_cons_succ]
    refine wpR_one 6 rfl (by kernel_rfl) (by kernel_rfl) (fun K hK => ?_)
    have hrd := (ARow.reads (row_upd hrow.out hup.out hnS.out)).1
    have hbp : B ≤ wa.heap.size := by rw [← hB.out]; exact hup.out.size
    refine wp_append_asks (.tmp 16) (.tmp 20) rfl B (.slice (some ⟨x1, 0, none⟩) 0 0) [] rfl hE.out wa.heap.size A c n l hn.out rfl hrd (by simp; omega) hbp ?_
    intro v6 wc hr6 hg6
    have hu6 : Upd (B ≤ ·) wa wc := (Upd.of_own hg6).mono (fun k hk => (hE.out.lt k hk).1)
    refine hK _ _ (fun _ => hu6) ?_
    clear hK K
    rw [List.nil_append] at hr6
    obtain ⟨A6, c6, rfl, -, -⟩ := row_form hr6
    rw [hn.out] at hr6 ⊢
    have hA : Hid (ARow wc B (.slice A6 n c6) l) := Lib.hid hr6
    replace hX8 := Lib.hid (((Upd.of_own hg6).2.2.2.2 x8 (blk_lt hX8.out) (fun e => hne.out (by injection e))).trans hX8.out)
    replace hup := Lib.hid (hup.out.trans hu6)
    clear hr6 hg6 hu6 hrd
    try simp only [Act.put, List.setIfInBounds_toArray, List.set_cons_zero, List.set_cons_succ]
    refine wpR_one 9 rfl (by kernel_rfl) (by kernel_rfl) (fun K hK => ?_)
    have hrd : Reads wc wc.heap.size 6 (some ⟨x8, 0, none⟩) 1 (flatA [q]) := by rw [flatA_one]; exact Reads.blk6 hX8.out (blk_lt hX8.out)
    have hbp : B ≤ wc.heap.size := by rw [← hB.out]; exact hup.out.size
    refine wp_append_asks (.tmp 21) (.tmp 23) rfl B (.slice A6 n c6) l rfl hA.out wc.heap.size (some ⟨x8, 0, none⟩) 1 1 [q] rfl rfl hrd (by rw [hn.out]; omega) hbp ?_
    intro v9 we hr9 hg9
    have hu9 : Upd (B ≤ ·) wc we := (Upd.of_own hg9).mono (fun k hk => (hA.out.lt k hk).1)
    refine hK _ _ (fun _ => hu9) ?_
    clear hK K
    obtain ⟨A9, c9, rfl, -, -⟩ := row_form hr9
    rw [hn1.out] at hr9 ⊢
    have hut := hup.out.trans hu9
    have hh9 := (hut.2.2.2.2 g hgD (by omega)).trans hblk.out
    have q0 := blk_cell (j := 0) hh9 rfl
    have q1 := blk_free hh9 0
    have hset := blk_set hh9 0 (.slice A9 (n + 1) c9)
    have hQ2 : Hid (Rq (we.setCell ⟨g, 0, none⟩ (.slice A9 (n + 1) c9)) lo g (.slice A9 (n + 1) c9) (l ++ [q]) most) := Lib.hid ⟨hset, hlow, ARow.mono (row_set_other hr9 g 0 _ (row_ne hr9 hh9 (by decide))) hloB, by rw [hn1.out]; omega, hmo, hok.out⟩
    have hfu : Hid (Upd (· = g) w (we.setCell ⟨g, 0, none⟩ (.slice A9 (n + 1) c9))) := Lib.hid (((Upd.of_below (S := (· = g)) (Upd.to_below hbw.out hut hwD (fun k hk => Nat.le_trans hwB hk)))).trans (Upd.of_grown (blk_grown we g 0 _) rfl))
    have hfv : Hid (∀ k, (Value.slice A9 (n + 1) c9).ownBlock = some k → w.heap.size ≤ k) := Lib.hid (fun k hk => Nat.le_trans hwB (hr9.lt k hk).1)
    replace hset := Lib.hid hset
    replace hh9 := Lib.hid hh9
    clear hr9 hg9 hu9 hut hrd
    try simp only [Act.put, List.setIfInBounds_toArray, List.set_cons_zero, List.set_cons_succ]
    refine wpR_one 10 rfl (by kernel_rfl) (by kernel_rfl) (fun K hK => ?_)
    go_simp
    refine hK _ _ (fun _ => Upd.refl _ _) ?_
    clear hK K
    try simp only [Act.put, List.setIfInBounds_toArray, List.set_cons_zero, List.set_cons_succ]
    refine wpR_take (i := 11) (v := ?_) (Upd.road _) (some 26) rfl (by kernel_rfl) (by kernel_rfl) (by kernel_rfl) (by kernel_rfl) (by kernel_rfl) (fun _ _ _ h => h) (by kernel_rfl) (fun w' hw' => ?_) ?_
    rotate_left
    · go_simp; with_reducible rfl
    simp only [Act.put, List.setIfInBounds_toArray, List.set_cons_zero, List.set_cons_succ]
    refine wpR_one 12 rfl (by kernel_rfl) (by kernel_rfl) (fun K hK => ?_)
    go_simp
    refine hK _ _ (fun h => absurd rfl h) ?_
    clear hK K
    try simp only [Act.put, List.setIfInBounds_toArray, List.set_cons_zero, List.set_cons_succ]
    refine wpR_done (by kernel_rfl) ?_ _
    go_wp2
    go_ret
    exact ⟨rfl, _, hQ2.out, hfv.out, hfu.out⟩
end Go.Proofs.Ytppclmidnomkjab
