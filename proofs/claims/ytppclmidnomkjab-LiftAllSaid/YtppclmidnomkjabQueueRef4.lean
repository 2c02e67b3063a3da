/- The reference queue: a Take that takes. -/
import Derived.Test.YtppclmidnomkjabQueueRef3
import Derived.Test.YtppclmidnomkjabOpenTab
namespace Go.Proofs.Ytppclmidnomkjab
set_option linter.unusedVariables false
set_option linter.unusedSimpArgs false
open Go Go.RowKit
theorem Rq.setOther {w : World} {lo g k most : Nat} {v : Value} {l : List AskR} (h : Rq w lo g v l most) (hn : ¬ QS g v k) (j : Nat) (u : Value) : Rq (w.setCell ⟨k, j, none⟩ u) lo g v l most :=
  h.upd (S := (· = k)) (Upd.of_grown (blk_grown w k j u) rfl) (fun q hq e => hn (e ▸ hq))
theorem Reads.take6 {w : World} {B n i : Nat} {A : Option Addr} {l : List AskR} (h : Reads w B 6 A n (flatA l)) (hi : i ≤ n) : Reads w B 6 A i (flatA (l.take i)) := by
  have hl := h.1
  rw [flatA_len] at hl
  refine ⟨by rw [flatA_len, List.length_take]; omega, fun h0 => ?_⟩
  obtain ⟨ad, e, hb, hc⟩ := h.2 (by omega)
  refine ⟨ad, e, hb, fun j u hu => hc j u ?_⟩
  rw [← flatA_take, List.getElem?_take] at hu
  split at hu
  · exact hu
  · cases hu
theorem Reads.drop6 {w : World} {B n m k b : Nat} {A : Option Addr} {l : List AskR} (h : Reads w B 6 (some ⟨b, 0, none⟩) n (flatA l)) (hm : n = m + k) (hA : 0 < m → A = some ⟨b, k * 6, none⟩) : Reads w B 6 A m (flatA (l.drop k)) := by
  have hl := h.1
  rw [flatA_len] at hl
  refine ⟨by rw [flatA_len, List.length_drop]; omega, fun h0 => ?_⟩
  obtain ⟨ad, e, hb, hc⟩ := h.2 (by omega)
  injection e with e
  subst e
  refine ⟨_, hA h0, hb, fun j u hu => ?_⟩
  rw [← flatA_drop, List.getElem?_drop] at hu
  have := hc (k * 6 + j) u hu
  rw [add_flat, Nat.zero_add] at this
  rw [add_flat]
  exact this
set_option maxHeartbeats 2000000 in
set_option maxRecDepth 10000 in
theorem rtake_some (lo g : Nat) (v : Value) (l : List AskR) (most i : Nat) (q : AskR) (hq : l[i]? = some q) (w : World) (h : Rq w lo g v l most) :
    Calls Try.prog 15 #[.pointer (some ⟨g, 0, none⟩), .int .i64 i] w fun e w' => e = .returned (.tuple #[q.agg, .bool true]) ∧ ∃ v', Rq w' lo g v' (l.eraseIdx i) most ∧ (∀ k, v'.ownBlock = some k → w.heap.size ≤ k) ∧ Upd (· = g) w w' := by
  obtain ⟨b, c, rfl, hc1, hc2, hb1, hb2, hbg, x0, x1, x2, x3, x4, x5⟩ := h.cells hq
  have hil := (List.getElem?_eq_some_iff.1 hq).1
  have c0 := blk_cell (j := 0) h.blk rfl
  have hlen := h.len
  have hmo := h.most
  have hlow := h.low
  have hgw := h.lt
  have hlw := h.lw
  have hok : Hid (∀ p ∈ l.eraseIdx i, p.Ok) := Lib.hid (fun p hp => h.ok p (List.mem_of_mem_eraseIdx hp))
  have hbz := (Below.refl w.heap.size w).alloc (Nat.le_refl _) (.cells #[.int .i64 0, .int .i64 0, .int .i64 0, .int .i64 0, .int .i64 0, .int .i64 0] 28)
  have hbW := hbz.alloc hbz.size (.cells #[.int .i64 q.a, .int .i64 q.b, .int .i64 q.c, .int .i64 q.d, .int .i64 q.e, .int .i64 q.f] 28)
  have hz1 := blk_alloc (heap_alloc_new w (.cells #[.int .i64 0, .int .i64 0, .int .i64 0, .int .i64 0, .int .i64 0, .int .i64 0] 28)) (.cells #[.int .i64 q.a, .int .i64 q.b, .int .i64 q.c, .int .i64 q.d, .int .i64 q.e, .int .i64 q.f] 28)
  have hq1 := heap_alloc_new (w.alloc (.cells #[.int .i64 0, .int .i64 0, .int .i64 0, .int .i64 0, .int .i64 0, .int .i64 0] 28)) (.cells #[.int .i64 q.a, .int .i64 q.b, .int .i64 q.c, .int .i64 q.d, .int .i64 q.e, .int .i64 q.f] 28)
  have hsz : (w.alloc (.cells #[.int .i64 0, .int .i64 0, .int .i64 0, .int .i64 0, .int .i64 0, .int .i64 0] 28)).heap.size = w.heap.size + 1 := by simp
  rw [hsz] at hq1
  have hQW := h.below hbW
  obtain ⟨n, hn⟩ : ∃ n, l.length = n := ⟨_, rfl⟩
  have hti : Hid ((l.take i).length = i) := Lib.hid (by rw [List.length_take]; omega)
  rw [hn] at hQW hil hc1 hlen c0
  obtain ⟨m, hmm⟩ : ∃ m, n = m + (i + 1) := ⟨n - (i + 1), by omega⟩
  have hel : Hid ((l.eraseIdx i).length = m + i) := Lib.hid (by rw [List.length_eraseIdx, if_pos (by omega), hn]; omega)
  have hdi : Hid ((l.drop (i + 1)).length = m) := Lib.hid (by rw [List.length_drop]; omega)
  have hin : i < n := hil
  replace hn := Lib.hid hn
  replace hq := Lib.hid hq
  replace hbg := Lib.hid hbg
  replace hz1 := Lib.hid hz1
  replace hq1 := Lib.hid hq1
  replace hQW := Lib.hid hQW
  replace hbW := Lib.hid hbW
  replace hmm := Lib.hid hmm
  clear h hbz hsz
  have hwr : IntKind.i64.wrap ((i : Int) + 1) = (i : Int) + 1 := IntWalk.i64_in _ (by omega)
  unfold AskR.agg
  go_enter Try.func15, Try.ntmps15
  go_wp2_with fail
  obtain ⟨wd, hwd⟩ : ∃ wd, wd = ((w.alloc (.cells #[.int .i64 0, .int .i64 0, .int .i64 0, .int .i64 0, .int .i64 0, .int .i64 0] 28)).alloc (.cells #[.int .i64 q.a, .int .i64 q.b, .int .i64 q.c, .int .i64 q.d, .int .i64 q.e, .int .i64 q.f] 28)).drew := ⟨_, rfl⟩
  have hbw : Hid (Below w.heap.size w wd) := Lib.hid (by rw [hwd]; exact ⟨hbW.out.os, hbW.out.tape, hbW.out.output, hbW.out.size, hbW.out.block⟩)
  replace hQW : Hid (Rq wd lo g (.slice (some ⟨b, 0, none⟩) n c) l most) := Lib.hid (by rw [hwd]; exact hQW.out.drewN 1)
  replace hz1 : Hid (wd.heap[w.heap.size]? = some (.cells #[.int .i64 0, .int .i64 0, .int .i64 0, .int .i64 0, .int .i64 0, .int .i64 0] 28 (0, 0))) := Lib.hid (by rw [hwd]; exact hz1.out)
  replace hq1 : Hid (wd.heap[w.heap.size + 1]? = some (.cells #[.int .i64 q.a, .int .i64 q.b, .int .i64 q.c, .int .i64 q.d, .int .i64 q.e, .int .i64 q.f] 28 (0, 0))) := Lib.hid (by rw [hwd]; exact hq1.out)
  have hwD := hbw.out.size
  have hgD : g < wd.heap.size := by omega
  obtain ⟨N, hN⟩ : ∃ N, w.heap.size = N := ⟨_, rfl⟩
  obtain ⟨B, hB⟩ : ∃ B, wd.heap.size = B := ⟨_, rfl⟩
  have hwB : w.heap.size ≤ B := by rw [← hB]; exact hwD
  rw [hN] at hz1 hq1 hgw hlw hb2 ⊢
  have hND := blk_lt hz1.out
  have hND1 := blk_lt hq1.out
  have hNB1 : N + 1 < B := by rw [← hB]; exact hND1
  have hgB : g < B := by omega
  have hloB : lo ≤ B := by omega
  have hgN : g < N := hgw
  have hblk := Lib.hid hQW.out.blk
  have hrow := Lib.hid hQW.out.row
  have hnS : Hid (∀ k, (Value.slice (some ⟨b, 0, none⟩) n c).ownBlock = some k → ¬ B ≤ k) := Lib.hid (fun k hk => by have := (hrow.out.lt k hk).2; omega)
  have hic : i ≤ c := by omega
  have hs0 : 0 ≤ (i : Int) + 1 := by omega
  have hs1 : (i : Int) + 1 ≤ (m : Int) + ((i : Int) + 1) := by omega
  replace hmm := hmm.out
  replace hN := Lib.hid hN
  replace hB := Lib.hid hB
  clear c0 x0 x1 x2 x3 x4 x5 hQW hbW
  refine wpR_region (Upd (B ≤ ·)) 19 (by kernel_rfl) ?_
  (rw [← hwd]; replace hwd := Lib.hid hwd)
  refine wpR_take (i := 0) (v := ?_) (Upd.road _) (some 26) rfl (by kernel_rfl) (by kernel_rfl) (by kernel_rfl) (by kernel_rfl) (by kernel_rfl) (fun _ _ _ h => h) (by kernel_rfl) (fun w' hw' => ?_) ?_
  rotate_left
  · go_simp; with_reducible rfl
  simp only [Act.put, List.setIfInBounds_toArray, List.set_cons_zero, List.set_cons_succ]
  refine wpR_take (i := 2) (v := ?_) (Upd.road _) (some 28) rfl (by kernel_rfl) (by kernel_rfl) (by kernel_rfl) (by kernel_rfl) (by kernel_rfl) (fun _ _ _ h => h) (by kernel_rfl) (fun w' hw' => ?_) ?_
  rotate_left
  · go_simp; with_reducible rfl
  simp only [Act.put, List.setIfInBounds_toArray, List.set_cons_zero, List.set_cons_succ]
  refine wpR_take (i := 3) (v := ?_) (Upd.road _) (some 29) rfl (by kernel_rfl) (by kernel_rfl) (by kernel_rfl) (by kernel_rfl) (by kernel_rfl) (fun _ _ _ h => h) (by kernel_rfl) (fun w' hw' => ?_) ?_
  rotate_left
  · go_simp; with_reducible rfl
  simp only [Act.put, List.setIfInBounds_toArray, List.set_cons_zero, List.set_cons_succ]
  refine wpR_take (i := 4) (v := ?_) (Upd.road _) (some 30) rfl (by kernel_rfl) (by kernel_rfl) (by kernel_rfl) (by kernel_rfl) (by kernel_rfl) (fun _ _ _ h => h) (by kernel_rfl) (fun w' hw' => ?_) ?_
  rotate_left
  · go_simp; with_reducible rfl
  simp only [Act.put, List.setIfInBounds_toArray, List.set_cons_zero, List.set_cons_succ]
  refine wpR_take (i := 5) (v := ?_) (Upd.road _) (some 31) rfl (by kernel_rfl) (by kernel_rfl) (by kernel_rfl) (by kernel_rfl) (by kernel_rfl) (fun _ _ _ h => h) (by kernel_rfl) (fun w' hw' => ?_) ?_
  rotate_left
  · have q0 := blk_cell (j := 0) ((hw'.2.2.2.2 g hgD (by omega)).trans hblk.out) rfl; go_simp; with_reducible rfl
  simp only [Act.put, List.setIfInBounds_toArray, List.set_cons_zero, List.set_cons_succ]
  refine wpR_take (i := 6) (v := ?_) (Upd.road _) (some 32) rfl (by kernel_rfl) (by kernel_rfl) (by kernel_rfl) (by kernel_rfl) (by kernel_rfl) (fun _ _ _ h => h) (by kernel_rfl) (fun w' hw' => ?_) ?_
  rotate_left
  · go_simp; with_reducible rfl
  simp only [Act.put, List.setIfInBounds_toArray, List.set_cons_zero, List.set_cons_succ]
  refine wpR_take (i := 7) (v := ?_) (Upd.road _) (some 33) rfl (by kernel_rfl) (by kernel_rfl) (by kernel_rfl) (by kernel_rfl) (by kernel_rfl) (fun _ _ _ h => h) (by kernel_rfl) (fun w' hw' => ?_) ?_
  rotate_left
  · go_simp; with_reducible rfl
  simp only [Act.put, List.setIfInBounds_toArray, List.set_cons_zero, List.set_cons_succ]
  refine wpR_take (i := 9) (v := ?_) (Upd.road _) (some 35) rfl (by kernel_rfl) (by kernel_rfl) (by kernel_rfl) (by kernel_rfl) (by kernel_rfl) (fun _ _ _ h => h) (by kernel_rfl) (fun w' hw' => ?_) ?_
  rotate_left
  · go_simp; with_reducible rfl
  simp only [Act.put, List.setIfInBounds_toArray, List.set_cons_zero, List.set_cons_succ]
  refine wpR_take (i := 10) (v := ?_) (Upd.road _) (some 36) rfl (by kernel_rfl) (by kernel_rfl) (by kernel_rfl) (by kernel_rfl) (by kernel_rfl) (fun _ _ _ h => h) (by kernel_rfl) (fun w' hw' => ?_) ?_
  rotate_left
  · go_simp; with_reducible rfl
  simp only [Act.put, List.setIfInBounds_toArray, List.set_cons_zero, List.set_cons_succ]
  refine wpR_take (i := 11) (v := ?_) (Upd.road _) (some 37) rfl (by kernel_rfl) (by kernel_rfl) (by kernel_rfl) (by kernel_rfl) (by kernel_rfl) (fun _ _ _ h => h) (by kernel_rfl) (fun w' hw' => ?_) ?_
  rotate_left
  · go_simp; with_reducible rfl
  simp only [Act.put, List.setIfInBounds_toArray, List.set_cons_zero, List.set_cons_succ]
  refine wpR_take (i := 12) (v := ?_) (Upd.road _) (some 38) rfl (by kernel_rfl) (by kernel_rfl) (by kernel_rfl) (by kernel_rfl) (by kernel_rfl) (fun _ _ _ h => h) (by kernel_rfl) (fun w' hw' => ?_) ?_
  rotate_left
  · have q0 := blk_cell (j := 0) ((hw'.2.2.2.2 g hgD (by omega)).trans hblk.out) rfl; go_simp; with_reducible rfl
  simp only [Act.put, List.setIfInBounds_toArray, List.set_cons_zero, List.set_cons_succ]
  refine wpR_take (i := 13) (v := ?_) (Upd.road _) (some 39) rfl (by kernel_rfl) (by kernel_rfl) (by kernel_rfl) (by kernel_rfl) (by kernel_rfl) (fun _ _ _ h => h) (by kernel_rfl) (fun w' hw' => ?_) ?_
  rotate_left
  · go_simp; with_reducible rfl
  simp only [Act.put, List.setIfInBounds_toArray, List.set_cons_zero, List.set_cons_succ]
  refine wpR_take (i := 14) (v := ?_) (Upd.road _) (some 40) rfl (by kernel_rfl) (by kernel_rfl) (by kernel_rfl) (by kernel_rfl) (by kernel_rfl) (fun _ _ _ h => h) (by kernel_rfl) (fun w' hw' => ?_) ?_
  rotate_left
  · go_simp; with_reducible rfl
  simp only [Act.put, List.setIfInBounds_toArray, List.set_cons_zero, List.set_cons_succ]
  refine wpR_take (i := 15) (v := ?_) (Upd.road _) (some 41) rfl (by kernel_rfl) (by kernel_rfl) (by kernel_rfl) (by kernel_rfl) (by kernel_rfl) (fun _ _ _ h => h) (by kernel_rfl) (fun w' hw' => ?_) ?_
  rotate_left
  · go_simp; with_reducible rfl
  simp only [Act.put, List.setIfInBounds_toArray, List.set_cons_zero, List.set_cons_succ]
  refine wpR_one 1 rfl (by kernel_rfl) (by kernel_rfl) (fun K hK => ?_)
  go_simp
  refine hK _ _ (fun _ => Upd.of_below ((Below.refl _ _).alloc (Nat.le_refl _) _)) ?_
  clear hK K
  have hE0 : ARow (wd.alloc (.cells #[] 28)) wd.heap.size (.slice (some ⟨wd.heap.size, 0, none⟩) 0 0) [] := World.ownsRow_made wd #[] 0 (Nat.le_refl _) (by simp [maxLen]) rfl
  have hua := Upd.of_below (S := (B ≤ ·)) ((Below.refl wd.heap.size wd).alloc (Nat.le_refl _) (.cells #[] 28))
  obtain ⟨wa, hwa⟩ : ∃ wa, wd.alloc (.cells #[] 28) = wa := ⟨_, rfl⟩
  rw [hwa] at hE0 hua ⊢
  rw [hB.out] at hE0 ⊢
  have hE := Lib.hid hE0
  have hup := Lib.hid hua
  clear hE0 hua
  replace hwa := Lib.hid hwa
  try simp only [Act.put, List.setIfInBounds_toArray, List.set_cons_zero, List.set_cons_succ]
  refine wpR_one 8 rfl (by kernel_rfl) (by kernel_rfl) (fun K hK => ?_)
  have hrd := Reads.take6 (ARow.reads (row_upd hrow.out hup.out hnS.out)).1 (Nat.le_of_lt hin)
  have hbp : B ≤ wa.heap.size := by rw [← hB.out]; exact hup.out.size
  refine wp_append_asks (.tmp 27) (.tmp 33) rfl B (.slice (some ⟨B, 0, none⟩) 0 0) [] rfl hE.out wa.heap.size _ _ i (l.take i) hti.out rfl hrd (by simp; omega) hbp ?_
  intro v6 wc hr6 hg6
  have hu6 : Upd (B ≤ ·) wa wc := (Upd.of_own hg6).mono (fun k hk => (hE.out.lt k hk).1)
  refine hK _ _ (fun _ => hu6) ?_
  clear hK K
  rw [List.nil_append] at hr6
  obtain ⟨A6, c6, rfl, -, -⟩ := row_form hr6
  rw [hti.out] at hr6 ⊢
  have hA : Hid (ARow wc B (.slice A6 i c6) (l.take i)) := Lib.hid hr6
  replace hup := Lib.hid (hup.out.trans hu6)
  clear hr6 hg6 hu6 hrd
  try simp only [Act.put, List.setIfInBounds_toArray, List.set_cons_zero, List.set_cons_succ]
  refine wpR_one 16 rfl (by kernel_rfl) (by kernel_rfl) (fun K hK => ?_)
  have hrd := (ARow.reads (row_upd hrow.out hup.out hnS.out)).1
  have hbp : B ≤ wc.heap.size := by rw [← hB.out]; exact hup.out.size
  refine wp_append_asks (.tmp 34) (.tmp 41) rfl B (.slice A6 i c6) (l.take i) rfl hA.out wc.heap.size _ _ m (l.drop (i + 1)) hdi.out rfl (Reads.drop6 hrd hmm (fun h0 => by first | rfl | (rw [if_neg (by omega)]))) (by rw [hti.out]; omega) hbp ?_
  intro v9 we hr9 hg9
  have hu9 : Upd (B ≤ ·) wc we := (Upd.of_own hg9).mono (fun k hk => (hA.out.lt k hk).1)
  refine hK _ _ (fun _ => hu9) ?_
  clear hK K
  rw [← List.eraseIdx_eq_take_drop_succ] at hr9
  obtain ⟨A9, c9, rfl, -, -⟩ := row_form hr9
  rw [hel.out] at hr9 ⊢
  have hut := hup.out.trans hu9
  have hh9 := (hut.2.2.2.2 g hgD (by omega)).trans hblk.out
  have hz9 := (hut.2.2.2.2 N hND (by omega)).trans hz1.out
  have hq9 := (hut.2.2.2.2 (N + 1) hND1 (by omega)).trans hq1.out
  have q0 := blk_cell (j := 0) hh9 rfl
  have q1 := blk_free hh9 0
  have hset := blk_set hh9 0 (.slice A9 (m + i) c9)
  have hQ2 : Hid (Rq (we.setCell ⟨g, 0, none⟩ (.slice A9 (m + i) c9)) lo g (.slice A9 (m + i) c9) (l.eraseIdx i) most) := Lib.hid ⟨hset, hlow, ARow.mono (row_set_other hr9 g 0 _ (row_ne hr9 hh9 (by decide))) hloB, by rw [hel.out]; omega, hmo, hok.out⟩
  have hz8 := Lib.hid ((blk_other (w := we) (g := g) (k := N) (by omega) 0 (.slice A9 (m + i) c9)).trans hz9)
  have hq8 := Lib.hid ((blk_other (w := we) (g := g) (k := N + 1) (by omega) 0 (.slice A9 (m + i) c9)).trans hq9)
  have hfu : Hid (Upd (· = g) w (we.setCell ⟨g, 0, none⟩ (.slice A9 (m + i) c9))) := Lib.hid (((Upd.of_below (S := (· = g)) (Upd.to_below hbw.out hut hwD (fun k hk => Nat.le_trans hwB hk)))).trans (Upd.of_grown (blk_grown we g 0 _) rfl))
  have hfv : Hid (∀ k, (Value.slice A9 (m + i) c9).ownBlock = some k → B ≤ k) := Lib.hid (fun k hk => (hr9.lt k hk).1)
  replace hset := Lib.hid hset
  replace hh9 := Lib.hid hh9
  clear hr9 hg9 hu9 hut hrd hz9 hq9
  try simp only [Act.put, List.setIfInBounds_toArray, List.set_cons_zero, List.set_cons_succ]
  refine wpR_one 17 rfl (by kernel_rfl) (by kernel_rfl) (fun K hK => ?_)
  go_simp
  refine hK _ _ (fun _ => Upd.refl _ _) ?_
  clear hK K
  try simp only [Act.put, List.setIfInBounds_toArray, List.set_cons_zero, List.set_cons_succ]
  refine wpR_take (i := 18) (v := ?_) (Upd.road _) (some 44) rfl (by kernel_rfl) (by kernel_rfl) (by kernel_rfl) (by kernel_rfl) (by kernel_rfl) (fun _ _ _ h => h) (by kernel_rfl) (fun w' hw' => ?_) ?_
  rotate_left
  · go_simp; with_reducible rfl
  simp only [Act.put, List.setIfInBounds_toArray, List.set_cons_zero, List.set_cons_succ]
  refine wpR_one 19 rfl (by kernel_rfl) (by kernel_rfl) (fun K hK => ?_)
  go_simp
  refine hK _ _ (fun h => absurd rfl h) ?_
  clear hK K
  try simp only [Act.put, List.setIfInBounds_toArray, List.set_cons_zero, List.set_cons_succ]
  refine wpR_done (by kernel_rfl) ?_ _
  clear q0 q1
  obtain ⟨w4, hw4⟩ : ∃ w4, we.setCell ⟨g, 0, none⟩ (.slice A9 (m + i) c9) = w4 := ⟨_, rfl⟩
  rw [hw4] at hQ2 hfu hz8 hq8 ⊢
  replace hw4 := Lib.hid hw4
  have y0 := blk_cell (j := 0) hq8.out rfl
  have y1 := blk_cell (j := 1) hq8.out rfl
  have y2 := blk_cell (j := 2) hq8.out rfl
  have y3 := blk_cell (j := 3) hq8.out rfl
  have y4 := blk_cell (j := 4) hq8.out rfl
  have y5 := blk_cell (j := 5) hq8.out rfl
  have z0 := blk_cell (j := 0) hz8.out rfl
  have f0 := blk_free hz8.out 0
  have z1 := blk_cell (j := 1) hz8.out rfl
  have f1 := blk_free hz8.out 1
  have z2 := blk_cell (j := 2) hz8.out rfl
  have f2 := blk_free hz8.out 2
  have z3 := blk_cell (j := 3) hz8.out rfl
  have f3 := blk_free hz8.out 3
  have z4 := blk_cell (j := 4) hz8.out rfl
  have f4 := blk_free hz8.out 4
  have z5 := blk_cell (j := 5) hz8.out rfl
  have f5 := blk_free hz8.out 5
  go_wp2_with fail
  all_goals
    have hNq : ¬ QS g (.slice A9 (m + i) c9) N := fun hk => by
      rcases hk with hk | hk
      · omega
      · have := hfv.out N hk; omega
    have hNw : w.heap.size ≤ N := by rw [hN.out]; exact Nat.le_refl _
    have hz6 := (blk_set (blk_set (blk_set (blk_set (blk_set (blk_set hz8.out 0 (.int .i64 q.a)) 1 (.int .i64 q.b)) 2 (.int .i64 q.c)) 3 (.int .i64 q.d)) 4 (.int .i64 q.e)) 5 (.int .i64 q.f))
    have hu6 := ((((((hfu.out.setNew hNw 0 (.int .i64 q.a)).setNew hNw 1 (.int .i64 q.b)).setNew hNw 2 (.int .i64 q.c)).setNew hNw 3 (.int .i64 q.d)).setNew hNw 4 (.int .i64 q.e)).setNew hNw 5 (.int .i64 q.f))
    have hQ6 := (Rq.setOther (Rq.setOther (Rq.setOther (Rq.setOther (Rq.setOther (Rq.setOther hQ2.out hNq 0 (.int .i64 q.a)) hNq 1 (.int .i64 q.b)) hNq 2 (.int .i64 q.c)) hNq 3 (.int .i64 q.d)) hNq 4 (.int .i64 q.e)) hNq 5 (.int .i64 q.f))
    obtain ⟨w6, hw6⟩ : ∃ w6, ((((((w4.setCell ⟨N, 0, none⟩ (.int .i64 q.a)).setCell ⟨N, 1, none⟩ (.int .i64 q.b)).setCell ⟨N, 2, none⟩ (.int .i64 q.c)).setCell ⟨N, 3, none⟩ (.int .i64 q.d)).setCell ⟨N, 4, none⟩ (.int .i64 q.e)).setCell ⟨N, 5, none⟩ (.int .i64 q.f)) = w6 := ⟨_, rfl⟩
    rw [hw6] at hz6 hQ6 hu6 ⊢
    have r0 := blk_cell (j := 0) (v := .int .i64 q.a) hz6 rfl
    have r1 := blk_cell (j := 1) (v := .int .i64 q.b) hz6 rfl
    have r2 := blk_cell (j := 2) (v := .int .i64 q.c) hz6 rfl
    have r3 := blk_cell (j := 3) (v := .int .i64 q.d) hz6 rfl
    have r4 := blk_cell (j := 4) (v := .int .i64 q.e) hz6 rfl
    have r5 := blk_cell (j := 5) (v := .int .i64 q.f) hz6 rfl
    refine bodyPost_ret (v := .tuple #[.agg #[.int .i64 q.a, .int .i64 q.b, .int .i64 q.c, .int .i64 q.d, .int .i64 q.e, .int .i64 q.f], .bool true]) (by simp [results, Try.results15, go_sem, r0, r1, r2, r3, r4, r5]) rfl ⟨rfl, _, hQ6, fun k hk => by have := hfv.out k hk; omega, hu6⟩
end Go.Proofs.Ytppclmidnomkjab
