/- The queue of requests: Take. -/
import Derived.Test.YtppclmidnomkjabQueue2
import Derived.Deep.DeepCutAuto
namespace Go.Proofs.Ytppclmidnomkjab
set_option linter.unusedVariables false
set_option linter.unusedSimpArgs false
open Go Go.RowKit
section
variable {w w' : World} {lo g k : Nat} {v : Value} {l : List AskR} {most : Nat} {S : Nat → Prop}
theorem Qu.setOther (h : Qu w lo g v l most) (hn : ¬ QS g v k) (j : Nat) (u : Value) : Qu (w.setCell ⟨k, j, none⟩ u) lo g v l most :=
  h.upd (S := (· = k)) (Upd.of_grown (blk_grown w k j u) rfl) (fun q hq e => hn (e ▸ hq))
theorem Upd.setNew (h : Upd S w w') (hk : w.heap.size ≤ k) (j : Nat) (u : Value) : Upd S w (w'.setCell ⟨k, j, none⟩ u) :=
  ⟨h.1, h.2.1, h.2.2.1, by rw [World.size_setCell]; exact h.2.2.2.1, fun i hi hs => (blk_other (by omega) j u).trans (h.2.2.2.2 i hi hs)⟩
end
theorem Qu.cells {w : World} {lo g : Nat} {v : Value} {l : List AskR} {most i : Nat} {q : AskR} (h : Qu w lo g v l most) (hq : l[i]? = some q) : ∃ b c, v = .slice (some ⟨b, 0, none⟩) l.length c ∧ l.length ≤ c ∧ c ≤ maxLen ∧ lo ≤ b ∧ b < w.heap.size ∧ b ≠ g ∧
    w.cell? ⟨b, i * 6, none⟩ = some (.int .i64 q.a) ∧ w.cell? ⟨b, i * 6 + 1, none⟩ = some (.int .i64 q.b) ∧ w.cell? ⟨b, i * 6 + 2, none⟩ = some (.int .i64 q.c) ∧ w.cell? ⟨b, i * 6 + 3, none⟩ = some (.int .i64 q.d) ∧ w.cell? ⟨b, i * 6 + 4, none⟩ = some (.int .i64 q.e) ∧ w.cell? ⟨b, i * 6 + 5, none⟩ = some (.int .i64 q.f) := by
  have hil := (List.getElem?_eq_some_iff.1 hq).1
  obtain ⟨b, c, rfl, h1, h2, h3, h4, ⟨cs, hh⟩, -, h6, -⟩ := row_at h.row (by omega)
  have ha := flatA_at l hq
  refine ⟨b, c, rfl, h1, h2, h3, h4, ?_, h6 _ _ (ha 0 (by omega)), h6 _ _ (ha 1 (by omega)), h6 _ _ (ha 2 (by omega)), h6 _ _ (ha 3 (by omega)), h6 _ _ (ha 4 (by omega)), h6 _ _ (ha 5 (by omega))⟩
  rintro rfl
  have := h.blk
  rw [hh] at this
  injection this with this
  injection this with _ this _
  exact absurd this (by decide)
set_option maxHeartbeats 1000000 in
set_option maxRecDepth 10000 in
theorem qremove_some (lo g : Nat) (v : Value) (l : List AskR) (most i : Nat) (q : AskR) (hq : l[i]? = some q) (w : World) (h : Qu w lo g v l most) :
    Calls Try.prog 30 #[.pointer (some ⟨g, 0, none⟩), .int .i64 i] w fun e w' => e = .returned (.tuple #[q.agg, .bool true]) ∧ ∃ v', Qu w' lo g v' (l.eraseIdx i) most ∧ v'.ownBlock = v.ownBlock ∧ Upd (QS g v) w w' := by
  obtain ⟨b, c, rfl, hc1, hc2, hb1, hb2, hbg, x0, x1, x2, x3, x4, x5⟩ := h.cells hq
  have hil := (List.getElem?_eq_some_iff.1 hq).1
  have c0 := blk_cell (j := 0) h.blk rfl
  have hlen := h.len
  have hmo := h.most
  have hgw := h.lt
  replace h := Lib.hid h
  replace hq := Lib.hid hq
  replace hbg := Lib.hid hbg
  unfold AskR.agg
  go_enter Try.func30, Try.ntmps30
  go_upto_region 5 with (fail)
  have hbz := (Below.refl w.heap.size w).alloc (Nat.le_refl _) (.cells #[.int .i64 0, .int .i64 0, .int .i64 0, .int .i64 0, .int .i64 0, .int .i64 0] 28)
  have hbW := hbz.alloc hbz.size (.cells #[.int .i64 q.a, .int .i64 q.b, .int .i64 q.c, .int .i64 q.d, .int .i64 q.e, .int .i64 q.f] 28)
  have hz1 := blk_alloc (heap_alloc_new w (.cells #[.int .i64 0, .int .i64 0, .int .i64 0, .int .i64 0, .int .i64 0, .int .i64 0] 28)) (.cells #[.int .i64 q.a, .int .i64 q.b, .int .i64 q.c, .int .i64 q.d, .int .i64 q.e, .int .i64 q.f] 28)
  have hq1 := heap_alloc_new (w.alloc (.cells #[.int .i64 0, .int .i64 0, .int .i64 0, .int .i64 0, .int .i64 0, .int .i64 0] 28)) (.cells #[.int .i64 q.a, .int .i64 q.b, .int .i64 q.c, .int .i64 q.d, .int .i64 q.e, .int .i64 q.f] 28)
  have hsz : (w.alloc (.cells #[.int .i64 0, .int .i64 0, .int .i64 0, .int .i64 0, .int .i64 0, .int .i64 0] 28)).heap.size = w.heap.size + 1 := by simp
  rw [hsz] at hq1
  have hszW : ((w.alloc (.cells #[.int .i64 0, .int .i64 0, .int .i64 0, .int .i64 0, .int .i64 0, .int .i64 0] 28)).alloc (.cells #[.int .i64 q.a, .int .i64 q.b, .int .i64 q.c, .int .i64 q.d, .int .i64 q.e, .int .i64 q.f] 28)).heap.size = w.heap.size + 2 := by simp
  obtain ⟨W, hW⟩ : ∃ W, (w.alloc (.cells #[.int .i64 0, .int .i64 0, .int .i64 0, .int .i64 0, .int .i64 0, .int .i64 0] 28)).alloc (.cells #[.int .i64 q.a, .int .i64 q.b, .int .i64 q.c, .int .i64 q.d, .int .i64 q.e, .int .i64 q.f] 28) = W := ⟨_, rfl⟩
  rw [hW] at hbW hz1 hq1 hszW ⊢
  have hQW := Lib.hid (h.out.below hbW)
  have huW : Hid (Upd (QS g (.slice (some ⟨b, 0, none⟩) l.length c)) w W) := Lib.hid (Upd.of_below hbW)
  obtain ⟨N, hN⟩ : ∃ N, w.heap.size = N := ⟨_, rfl⟩
  rw [hN] at hb2 hgw hz1 hq1 hszW ⊢
  replace hN := Lib.hid hN
  replace hW := Lib.hid hW
  replace hz1 := Lib.hid hz1
  replace hq1 := Lib.hid hq1
  clear hbz hbW hsz x0 x1 x2 x3 x4 x5 c0
  have c0 := blk_cell (j := 0) hQW.out.blk rfl
  obtain ⟨n, hn⟩ : ∃ n, l.length = n := ⟨_, rfl⟩
  have hQr : Hid (ARow W lo (.slice (some ⟨b, 0, none⟩) n c) l) := Lib.hid (by rw [← hn]; exact hQW.out.row)
  rw [hn] at hil hc1 hlen c0 ⊢
  replace hn := Lib.hid hn
  obtain ⟨m, hm⟩ : ∃ m, n = m + 1 := ⟨n - 1, by omega⟩
  replace hm := Lib.hid hm
  go_wp2_with fail
  refine (delete_asks lo b n c i (i + 1) m l rfl hm.out hil hn.out (by omega) W hQr.out).mono ?_
  rintro e w3 ⟨rfl, ho3, hu3⟩
  have hneN : ¬ (N = b) := by omega
  have hneN1 : ¬ (N + 1 = b) := by omega
  have hz3 : w3.heap[N]? = some (.cells #[.int .i64 0, .int .i64 0, .int .i64 0, .int .i64 0, .int .i64 0, .int .i64 0] 28 (0, 0)) := (hu3.2.2.2.2 N (blk_lt hz1.out) hneN).trans hz1.out
  have hq3 : w3.heap[N + 1]? = some (.cells #[.int .i64 q.a, .int .i64 q.b, .int .i64 q.c, .int .i64 q.d, .int .i64 q.e, .int .i64 q.f] 28 (0, 0)) := (hu3.2.2.2.2 (N + 1) (blk_lt hq1.out) hneN1).trans hq1.out
  have hh3 := (hu3.2.2.2.2 g (blk_lt hQW.out.blk) (fun e => hbg.out e.symm)).trans hQW.out.blk
  have g0 := blk_cell (j := 0) hh3 rfl
  have g1 := blk_free hh3 0
  have hgN : g ≠ N := by omega
  have hgN1 : g ≠ N + 1 := by omega
  have hset := blk_set hh3 0 (.slice (some ⟨b, 0, none⟩) m c)
  have hz4 := (blk_other (w := w3) (g := g) (k := N) (fun e => hgN e.symm) 0 (.slice (some ⟨b, 0, none⟩) m c)).trans hz3
  have hq4 := (blk_other (w := w3) (g := g) (k := N + 1) (fun e => hgN1 e.symm) 0 (.slice (some ⟨b, 0, none⟩) m c)).trans hq3
  have hel : (l.eraseIdx i).length = m := by rw [List.length_eraseIdx, if_pos (by rw [hn.out]; exact hil), hn.out, hm.out]; rfl
  have hr4 : ARow (w3.setCell ⟨g, 0, none⟩ (.slice (some ⟨b, 0, none⟩) m c)) lo (.slice (some ⟨b, 0, none⟩) m c) (l.eraseIdx i) := row_set_other ho3 g 0 _ (fun e => by injection e with e; exact hbg.out e)
  have hQ4 : Qu (w3.setCell ⟨g, 0, none⟩ (.slice (some ⟨b, 0, none⟩) m c)) lo g (.slice (some ⟨b, 0, none⟩) m c) (l.eraseIdx i) most := ⟨hset, hQW.out.low, hr4, by rw [hel]; have := hm.out; omega, hmo, fun p hp => hQW.out.ok p (List.mem_of_mem_eraseIdx hp)⟩
  have hu4 := huW.out.trans ((hu3.mono (fun k hk => .inr (by rw [hk]; rfl)) : Upd (QS g (.slice (some ⟨b, 0, none⟩) l.length c)) W w3).trans (Upd.of_grown (S := QS g (.slice (some ⟨b, 0, none⟩) l.length c)) (blk_grown w3 g 0 (.slice (some ⟨b, 0, none⟩) m c)) (.inl rfl)))
  clear hset hr4 ho3 hu3 hz3 hq3
  replace hQ4 := Lib.hid hQ4
  replace hu4 := Lib.hid hu4
  replace hz4 := Lib.hid hz4
  replace hq4 := Lib.hid hq4
  replace hh3 := Lib.hid hh3
  replace hel := Lib.hid hel
  clear c0
  go_upto_region 6 with (fail)
  clear g0 g1
  obtain ⟨w4, hw4⟩ : ∃ w4, w3.setCell ⟨g, 0, none⟩ (.slice (some ⟨b, 0, none⟩) m c) = w4 := ⟨_, rfl⟩
  rw [hw4] at hQ4 hu4 hz4 hq4 ⊢
  replace hw4 := Lib.hid hw4
  have y0 := blk_cell (j := 0) hq4.out rfl
  have y1 := blk_cell (j := 1) hq4.out rfl
  have y2 := blk_cell (j := 2) hq4.out rfl
  have y3 := blk_cell (j := 3) hq4.out rfl
  have y4 := blk_cell (j := 4) hq4.out rfl
  have y5 := blk_cell (j := 5) hq4.out rfl
  have z0 := blk_cell (j := 0) hz4.out rfl
  have f0 := blk_free hz4.out 0
  have z1 := blk_cell (j := 1) hz4.out rfl
  have f1 := blk_free hz4.out 1
  have z2 := blk_cell (j := 2) hz4.out rfl
  have f2 := blk_free hz4.out 2
  have z3 := blk_cell (j := 3) hz4.out rfl
  have f3 := blk_free hz4.out 3
  have z4 := blk_cell (j := 4) hz4.out rfl
  have f4 := blk_free hz4.out 4
  have z5 := blk_cell (j := 5) hz4.out rfl
  have f5 := blk_free hz4.out 5
  go_wp2_with fail
  have hNq : ¬ QS g (.slice (some ⟨b, 0, none⟩) m c) N := fun hk => by
    rcases hk with hk | hk
    · omega
    · injection hk with hk; have hk : b = N := hk; omega
  have hz6 := blk_set (blk_set (blk_set (blk_set (blk_set (blk_set hz4.out 0 (.int .i64 q.a)) 1 (.int .i64 q.b)) 2 (.int .i64 q.c)) 3 (.int .i64 q.d)) 4 (.int .i64 q.e)) 5 (.int .i64 q.f)
  have hNw : w.heap.size ≤ N := by rw [hN.out]; exact Nat.le_refl _
  rw [hn.out] at hu4
  have hQ6 := (((((hQ4.out.setOther hNq 0 (.int .i64 q.a)).setOther hNq 1 (.int .i64 q.b)).setOther hNq 2 (.int .i64 q.c)).setOther hNq 3 (.int .i64 q.d)).setOther hNq 4 (.int .i64 q.e)).setOther hNq 5 (.int .i64 q.f)
  have hu6 := (((((hu4.out.setNew hNw 0 (.int .i64 q.a)).setNew hNw 1 (.int .i64 q.b)).setNew hNw 2 (.int .i64 q.c)).setNew hNw 3 (.int .i64 q.d)).setNew hNw 4 (.int .i64 q.e)).setNew hNw 5 (.int .i64 q.f)
  obtain ⟨w6, hw6⟩ : ∃ w6, ((((((w4.setCell ⟨N, 0, none⟩ (.int .i64 q.a)).setCell ⟨N, 1, none⟩ (.int .i64 q.b)).setCell ⟨N, 2, none⟩ (.int .i64 q.c)).setCell ⟨N, 3, none⟩ (.int .i64 q.d)).setCell ⟨N, 4, none⟩ (.int .i64 q.e)).setCell ⟨N, 5, none⟩ (.int .i64 q.f)) = w6 := ⟨_, rfl⟩
  rw [hw6] at hz6 hQ6 hu6 ⊢
  have r0 := blk_cell (j := 0) (v := .int .i64 q.a) hz6 rfl
  have r1 := blk_cell (j := 1) (v := .int .i64 q.b) hz6 rfl
  have r2 := blk_cell (j := 2) (v := .int .i64 q.c) hz6 rfl
  have r3 := blk_cell (j := 3) (v := .int .i64 q.d) hz6 rfl
  have r4 := blk_cell (j := 4) (v := .int .i64 q.e) hz6 rfl
  have r5 := blk_cell (j := 5) (v := .int .i64 q.f) hz6 rfl
  rw [hn.out]
  refine bodyPost_ret (v := .tuple #[.agg #[.int .i64 q.a, .int .i64 q.b, .int .i64 q.c, .int .i64 q.d, .int .i64 q.e, .int .i64 q.f], .bool true]) (by simp [results, Try.results30, go_sem, r0, r1, r2, r3, r4, r5]) rfl ⟨rfl, _, hQ6, rfl, hu6⟩
set_option maxRecDepth 10000 in
theorem qremove_none (lo g : Nat) (v : Value) (l : List AskR) (most : Nat) (p : Int) (hout : p < 0 ∨ (l.length : Int) ≤ p) (w : World) (h : Qu w lo g v l most) :
    Calls Try.prog 30 #[.pointer (some ⟨g, 0, none⟩), .int .i64 p] w fun e w' => e = .returned (.tuple #[ask0.agg, .bool false]) ∧ Below w.heap.size w w' := by
  obtain ⟨A, c, rfl, hc1, hc2⟩ := h.form
  have c0 := blk_cell (j := 0) h.blk rfl
  have hlen := h.len
  have hmo := h.most
  have hgw := h.lt
  have hbz := (Below.refl w.heap.size w).alloc (Nat.le_refl _) (.cells #[.int .i64 0, .int .i64 0, .int .i64 0, .int .i64 0, .int .i64 0, .int .i64 0] 28)
  have hbW := Lib.hid (hbz.alloc hbz.size (.cells #[.int .i64 0, .int .i64 0, .int .i64 0, .int .i64 0, .int .i64 0, .int .i64 0] 28))
  replace hbz := Lib.hid hbz
  replace h := Lib.hid h
  by_cases h0 : p < 0
  · clear hout
    go_enter Try.func30, Try.ntmps30
    go_wp2_with fail
    have hz2 := blk_alloc (heap_alloc_new w (.cells #[.int .i64 0, .int .i64 0, .int .i64 0, .int .i64 0, .int .i64 0, .int .i64 0] 28)) (.cells #[.int .i64 0, .int .i64 0, .int .i64 0, .int .i64 0, .int .i64 0, .int .i64 0] 28)
    obtain ⟨w2, hw2⟩ : ∃ w2, (w.alloc (.cells #[.int .i64 0, .int .i64 0, .int .i64 0, .int .i64 0, .int .i64 0, .int .i64 0] 28)).alloc (.cells #[.int .i64 0, .int .i64 0, .int .i64 0, .int .i64 0, .int .i64 0, .int .i64 0] 28) = w2 := ⟨_, rfl⟩
    rw [hw2] at hz2 hbW ⊢
    have r0 := blk_cell (j := 0) (v := .int .i64 0) hz2 rfl
    have r1 := blk_cell (j := 1) (v := .int .i64 0) hz2 rfl
    have r2 := blk_cell (j := 2) (v := .int .i64 0) hz2 rfl
    have r3 := blk_cell (j := 3) (v := .int .i64 0) hz2 rfl
    have r4 := blk_cell (j := 4) (v := .int .i64 0) hz2 rfl
    have r5 := blk_cell (j := 5) (v := .int .i64 0) hz2 rfl
    exact bodyPost_ret (v := .tuple #[.agg #[.int .i64 0, .int .i64 0, .int .i64 0, .int .i64 0, .int .i64 0, .int .i64 0], .bool false]) (by simp [results, Try.results30, go_sem, r0, r1, r2, r3, r4, r5]) rfl ⟨rfl, hbW.out⟩
  · have h1 : (l.length : Int) ≤ p := by omega
    clear hout
    go_enter Try.func30, Try.ntmps30
    go_wp2_with fail
    have hz2 := blk_alloc (heap_alloc_new w (.cells #[.int .i64 0, .int .i64 0, .int .i64 0, .int .i64 0, .int .i64 0, .int .i64 0] 28)) (.cells #[.int .i64 0, .int .i64 0, .int .i64 0, .int .i64 0, .int .i64 0, .int .i64 0] 28)
    obtain ⟨w2, hw2⟩ : ∃ w2, (w.alloc (.cells #[.int .i64 0, .int .i64 0, .int .i64 0, .int .i64 0, .int .i64 0, .int .i64 0] 28)).alloc (.cells #[.int .i64 0, .int .i64 0, .int .i64 0, .int .i64 0, .int .i64 0, .int .i64 0] 28) = w2 := ⟨_, rfl⟩
    rw [hw2] at hz2 hbW ⊢
    have r0 := blk_cell (j := 0) (v := .int .i64 0) hz2 rfl
    have r1 := blk_cell (j := 1) (v := .int .i64 0) hz2 rfl
    have r2 := blk_cell (j := 2) (v := .int .i64 0) hz2 rfl
    have r3 := blk_cell (j := 3) (v := .int .i64 0) hz2 rfl
    have r4 := blk_cell (j := 4) (v := .int .i64 0) hz2 rfl
    have r5 := blk_cell (j := 5) (v := .int .i64 0) hz2 rfl
    exact bodyPost_ret (v := .tuple #[.agg #[.int .i64 0, .int .i64 0, .int .i64 0, .int .i64 0, .int .i64 0, .int .i64 0], .bool false]) (by simp [results, Try.results30, go_sem, r0, r1, r2, r3, r4, r5]) rfl ⟨rfl, hbW.out⟩
set_option maxHeartbeats 1000000 in
set_option maxRecDepth 10000 in
theorem qtake_some (lo g : Nat) (v : Value) (l : List AskR) (most i : Nat) (q : AskR) (hq : l[i]? = some q) (w : World) (h : Qu w lo g v l most) :
    Calls Try.prog 14 #[.pointer (some ⟨g, 0, none⟩), .int .i64 i] w fun e w' => e = .returned (.tuple #[q.agg, .bool true]) ∧ ∃ v', Qu w' lo g v' (l.eraseIdx i) most ∧ v'.ownBlock = v.ownBlock ∧ Upd (QS g v) w w' := by
  have hz1 := heap_alloc_new w (.cells #[.int .i64 0, .int .i64 0, .int .i64 0, .int .i64 0, .int .i64 0, .int .i64 0] 28)
  have hb1 := (Below.refl w.heap.size w).alloc (Nat.le_refl _) (.cells #[.int .i64 0, .int .i64 0, .int .i64 0, .int .i64 0, .int .i64 0, .int .i64 0] 28)
  obtain ⟨w1, hw1⟩ : ∃ w1, w.alloc (.cells #[.int .i64 0, .int .i64 0, .int .i64 0, .int .i64 0, .int .i64 0, .int .i64 0] 28) = w1 := ⟨_, rfl⟩
  have hsz1 : w1.heap.size = w.heap.size + 1 := by rw [← hw1]; simp
  rw [hw1] at hz1 hb1
  have hQ1 := Lib.hid (h.below hb1)
  have hu1 : Hid (Upd (QS g v) w w1) := Lib.hid (Upd.of_below hb1)
  have hNv : Hid (¬ QS g v w.heap.size) := Lib.hid (fun hk => by have := (h.qs _ hk).2; omega)
  replace hz1 := Lib.hid hz1
  replace hb1 := Lib.hid hb1
  replace h := Lib.hid h
  replace hq := Lib.hid hq
  unfold AskR.agg
  go_enter Try.func14, Try.ntmps14
  go_wp2_with fail
  refine (qremove_some lo g v l most i q hq.out w1 hQ1.out).mono ?_
  unfold AskR.agg
  rintro e w4 ⟨rfl, v4, hQ4, hv4, hu4'⟩
  have hz4 := Lib.hid ((hu4'.2.2.2.2 _ (blk_lt hz1.out) hNv.out).trans hz1.out)
  have hu4 := Lib.hid (hu1.out.trans hu4')
  obtain ⟨N, hN⟩ : ∃ N, w.heap.size = N := ⟨_, rfl⟩
  have hNq : ¬ QS g v4 N := fun hk => hNv.out (by rw [hN]; rcases hk with hk | hk; exact .inl hk; exact .inr (by rw [← hv4]; exact hk))
  have hNw : w.heap.size ≤ N := by omega
  rw [hN] at hz4 ⊢
  replace hN := Lib.hid hN
  replace hQ4 := Lib.hid hQ4
  replace hv4 := Lib.hid hv4
  replace hw1 := Lib.hid hw1
  clear hu4'
  have z0 := blk_cell (j := 0) hz4.out rfl
  have f0 := blk_free hz4.out 0
  have z1 := blk_cell (j := 1) hz4.out rfl
  have f1 := blk_free hz4.out 1
  have z2 := blk_cell (j := 2) hz4.out rfl
  have f2 := blk_free hz4.out 2
  have z3 := blk_cell (j := 3) hz4.out rfl
  have f3 := blk_free hz4.out 3
  have z4 := blk_cell (j := 4) hz4.out rfl
  have f4 := blk_free hz4.out 4
  have z5 := blk_cell (j := 5) hz4.out rfl
  have f5 := blk_free hz4.out 5
  go_wp2_with fail
  have hz6 := (blk_set (blk_set (blk_set (blk_set (blk_set (blk_set hz4.out 0 (.int .i64 q.a)) 1 (.int .i64 q.b)) 2 (.int .i64 q.c)) 3 (.int .i64 q.d)) 4 (.int .i64 q.e)) 5 (.int .i64 q.f))
  have hQ6 := ((((((hQ4.out.setOther hNq 0 (.int .i64 q.a)).setOther hNq 1 (.int .i64 q.b)).setOther hNq 2 (.int .i64 q.c)).setOther hNq 3 (.int .i64 q.d)).setOther hNq 4 (.int .i64 q.e)).setOther hNq 5 (.int .i64 q.f))
  have hu6 := ((((((hu4.out.setNew hNw 0 (.int .i64 q.a)).setNew hNw 1 (.int .i64 q.b)).setNew hNw 2 (.int .i64 q.c)).setNew hNw 3 (.int .i64 q.d)).setNew hNw 4 (.int .i64 q.e)).setNew hNw 5 (.int .i64 q.f))
  obtain ⟨w6, hw6⟩ : ∃ w6, ((((((w4.setCell ⟨N, 0, none⟩ (.int .i64 q.a)).setCell ⟨N, 1, none⟩ (.int .i64 q.b)).setCell ⟨N, 2, none⟩ (.int .i64 q.c)).setCell ⟨N, 3, none⟩ (.int .i64 q.d)).setCell ⟨N, 4, none⟩ (.int .i64 q.e)).setCell ⟨N, 5, none⟩ (.int .i64 q.f)) = w6 := ⟨_, rfl⟩
  rw [hw6] at hz6 hQ6 hu6 ⊢
  have r0 := blk_cell (j := 0) (v := .int .i64 q.a) hz6 rfl
  have r1 := blk_cell (j := 1) (v := .int .i64 q.b) hz6 rfl
  have r2 := blk_cell (j := 2) (v := .int .i64 q.c) hz6 rfl
  have r3 := blk_cell (j := 3) (v := .int .i64 q.d) hz6 rfl
  have r4 := blk_cell (j := 4) (v := .int .i64 q.e) hz6 rfl
  have r5 := blk_cell (j := 5) (v := .int .i64 q.f) hz6 rfl
  exact bodyPost_ret (v := .tuple #[.agg #[.int .i64 q.a, .int .i64 q.b, .int .i64 q.c, .int .i64 q.d, .int .i64 q.e, .int .i64 q.f], .bool true]) (by simp [results, Try.results14, go_sem, r0, r1, r2, r3, r4, r5]) rfl ⟨rfl, v4, hQ6, hv4.out, hu6⟩
set_option maxHeartbeats 1000000 in
set_option maxRecDepth 10000 in
theorem qtake_none (lo g : Nat) (v : Value) (l : List AskR) (most : Nat) (p : Int) (hout : p < 0 ∨ (l.length : Int) ≤ p) (w : World) (h : Qu w lo g v l most) :
    Calls Try.prog 14 #[.pointer (some ⟨g, 0, none⟩), .int .i64 p] w fun e w' => e = .returned (.tuple #[ask0.agg, .bool false]) ∧ Below w.heap.size w w' := by
  have hz1 := heap_alloc_new w (.cells #[.int .i64 0, .int .i64 0, .int .i64 0, .int .i64 0, .int .i64 0, .int .i64 0] 28)
  have hb1 := (Below.refl w.heap.size w).alloc (Nat.le_refl _) (.cells #[.int .i64 0, .int .i64 0, .int .i64 0, .int .i64 0, .int .i64 0, .int .i64 0] 28)
  obtain ⟨w1, hw1⟩ : ∃ w1, w.alloc (.cells #[.int .i64 0, .int .i64 0, .int .i64 0, .int .i64 0, .int .i64 0, .int .i64 0] 28) = w1 := ⟨_, rfl⟩
  have hsz1 : w1.heap.size = w.heap.size + 1 := by rw [← hw1]; simp
  rw [hw1] at hz1 hb1
  have hQ1 := Lib.hid (h.below hb1)
  replace hz1 := Lib.hid hz1
  replace hb1 := Lib.hid hb1
  replace h := Lib.hid h
  replace hout := Lib.hid hout
  go_enter Try.func14, Try.ntmps14
  go_wp2_with fail
  refine (qremove_none lo g v l most p hout.out w1 hQ1.out).mono ?_
  unfold AskR.agg ask0
  rintro e w4 ⟨rfl, hb4'⟩
  have hz4 := Lib.hid (blk_below hz1.out hb4')
  have hb4 := Lib.hid (hb1.out.trans (hb4'.mono hb1.out.size))
  obtain ⟨N, hN⟩ : ∃ N, w.heap.size = N := ⟨_, rfl⟩
  have hb4n : Below N w w4 := by rw [← hN]; exact hb4.out
  rw [hN] at hz4 ⊢
  have hNw : w.heap.size ≤ N := by omega
  replace hN := Lib.hid hN
  replace hw1 := Lib.hid hw1
  clear hb4'
  have z0 := blk_cell (j := 0) hz4.out rfl
  have f0 := blk_free hz4.out 0
  have z1 := blk_cell (j := 1) hz4.out rfl
  have f1 := blk_free hz4.out 1
  have z2 := blk_cell (j := 2) hz4.out rfl
  have f2 := blk_free hz4.out 2
  have z3 := blk_cell (j := 3) hz4.out rfl
  have f3 := blk_free hz4.out 3
  have z4 := blk_cell (j := 4) hz4.out rfl
  have f4 := blk_free hz4.out 4
  have z5 := blk_cell (j := 5) hz4.out rfl
  have f5 := blk_free hz4.out 5
  go_wp2_with fail
  have hz6 := (blk_set (blk_set (blk_set (blk_set (blk_set (blk_set hz4.out 0 (.int .i64 0)) 1 (.int .i64 0)) 2 (.int .i64 0)) 3 (.int .i64 0)) 4 (.int .i64 0)) 5 (.int .i64 0))
  have hb6 := ((((((hb4n.setCell (p := ⟨N, 0, none⟩) (Nat.le_refl N) (.int .i64 0)).setCell (p := ⟨N, 1, none⟩) (Nat.le_refl N) (.int .i64 0)).setCell (p := ⟨N, 2, none⟩) (Nat.le_refl N) (.int .i64 0)).setCell (p := ⟨N, 3, none⟩) (Nat.le_refl N) (.int .i64 0)).setCell (p := ⟨N, 4, none⟩) (Nat.le_refl N) (.int .i64 0)).setCell (p := ⟨N, 5, none⟩) (Nat.le_refl N) (.int .i64 0))
  obtain ⟨w6, hw6⟩ : ∃ w6, ((((((w4.setCell ⟨N, 0, none⟩ (.int .i64 0)).setCell ⟨N, 1, none⟩ (.int .i64 0)).setCell ⟨N, 2, none⟩ (.int .i64 0)).setCell ⟨N, 3, none⟩ (.int .i64 0)).setCell ⟨N, 4, none⟩ (.int .i64 0)).setCell ⟨N, 5, none⟩ (.int .i64 0)) = w6 := ⟨_, rfl⟩
  rw [hw6] at hz6 hb6 ⊢
  have r0 := blk_cell (j := 0) (v := .int .i64 0) hz6 rfl
  have r1 := blk_cell (j := 1) (v := .int .i64 0) hz6 rfl
  have r2 := blk_cell (j := 2) (v := .int .i64 0) hz6 rfl
  have r3 := blk_cell (j := 3) (v := .int .i64 0) hz6 rfl
  have r4 := blk_cell (j := 4) (v := .int .i64 0) hz6 rfl
  have r5 := blk_cell (j := 5) (v := .int .i64 0) hz6 rfl
  exact bodyPost_ret (v := .tuple #[.agg #[.int .i64 0, .int .i64 0, .int .i64 0, .int .i64 0, .int .i64 0, .int .i64 0], .bool false]) (by simp [results, Try.results14, go_sem, r0, r1, r2, r3, r4, r5]) rfl ⟨rfl, by rw [hN.out]; exact hb6⟩
set_option maxHeartbeats 1000000 in
set_option maxRecDepth 10000 in
theorem qtake_nil (p : Int) (w : World) :
    Calls Try.prog 14 #[.pointer none, .int .i64 p] w fun e w' => e = .returned (.tuple #[ask0.agg, .bool false]) ∧ Below w.heap.size w w' := by
  have hb1 := (Below.refl w.heap.size w).alloc (Nat.le_refl _) (.cells #[.int .i64 0, .int .i64 0, .int .i64 0, .int .i64 0, .int .i64 0, .int .i64 0] 28)
  have hz2 := heap_alloc_new w (.cells #[.int .i64 0, .int .i64 0, .int .i64 0, .int .i64 0, .int .i64 0, .int .i64 0] 28)
  go_enter Try.func14, Try.ntmps14
  go_wp2_with fail
  obtain ⟨w2, hw2⟩ : ∃ w2, w.alloc (.cells #[.int .i64 0, .int .i64 0, .int .i64 0, .int .i64 0, .int .i64 0, .int .i64 0] 28) = w2 := ⟨_, rfl⟩
  rw [hw2] at hz2 hb1 ⊢
  have r0 := blk_cell (j := 0) (v := .int .i64 0) hz2 rfl
  have r1 := blk_cell (j := 1) (v := .int .i64 0) hz2 rfl
  have r2 := blk_cell (j := 2) (v := .int .i64 0) hz2 rfl
  have r3 := blk_cell (j := 3) (v := .int .i64 0) hz2 rfl
  have r4 := blk_cell (j := 4) (v := .int .i64 0) hz2 rfl
  have r5 := blk_cell (j := 5) (v := .int .i64 0) hz2 rfl
  exact bodyPost_ret (v := .tuple #[.agg #[.int .i64 0, .int .i64 0, .int .i64 0, .int .i64 0, .int .i64 0, .int .i64 0], .bool false]) (by simp [results, Try.results14, go_sem, r0, r1, r2, r3, r4, r5]) rfl ⟨rfl, hb1⟩
end Go.Proofs.Ytppclmidnomkjab
