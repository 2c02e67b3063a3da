/- place: the order of the candidates: cmp.Or, the closure, slices.Contains. -/
import Derived.Test.YtfiaedhdgbnfiaaPkLay
import Derived.Test.YtfiaedhdgbnfiaaPk1
import Derived.Test.YtfiaedhdgbnfiaaReg2
namespace Go.Proofs.Ytfiaedhdgbnfiaa
set_option linter.unusedVariables false
set_option linter.unusedSimpArgs false
open Go Go.RowKit Go.Sort Go.Proofs
/-- what has come: draws and new blocks -/
def GD (w w' : World) : Prop := ∃ q os, w' = grow (w.drewN q) os
theorem GD.refl (w : World) : GD w w := ⟨0, #[], by rw [grow_empty]; rfl⟩
theorem GD.trans {x y z : World} (h1 : GD x y) (h2 : GD y z) : GD x z := by
  obtain ⟨q, os, rfl⟩ := h1
  obtain ⟨r, ps, rfl⟩ := h2
  refine ⟨q + r, os ++ ps, ?_⟩
  rw [show (grow (x.drewN q) os).drewN r = grow ((x.drewN q).drewN r) os from rfl, World.drewN_drewN, grow_grow]
theorem GD.alloc (w : World) (o : Obj) : GD w (w.alloc o) := ⟨0, #[o], by rw [alloc_eq_grow]; rfl⟩
theorem GD.drew (w : World) : GD w w.drew := ⟨1, #[], by rw [grow_empty]; rfl⟩
theorem GD.road : Road GD := ⟨GD.refl, GD.trans⟩
theorem GD.cell {w w' : World} (h : GD w w') {a : Addr} (hb : a.block < w.heap.size) : w'.cell? a = w.cell? a := by
  obtain ⟨q, os, rfl⟩ := h
  exact (cell?_grow _ os a hb).trans rfl
theorem cmp_any (x y : Int) (w : World) : Calls Try.prog 17 #[.int .i64 x, .int .i64 y] w fun e w' => e = .returned (.int .i64 (Lib.compareInt x y)) ∧ w' = w := by
  have h := AnyG.cmp_Compare_int Try.cmpInt x y w
  exact h
theorem cmpI64 (x y : Int) : I64 (Lib.compareInt x y) := by
  unfold Lib.compareInt I64
  split
  · omega
  · split <;> omega
theorem Ints.two (w : World) (x y : Int) (hx : I64 x) (hy : I64 y) (t : TypeId) : Ints [x, y] (.slice (some ⟨w.heap.size, 0, none⟩) 2 2) (w.alloc (.cells #[.int .i64 x, .int .i64 y] t)) :=
  ⟨_, _, rfl, Nat.le_refl _, by decide, fun _ => ⟨_, _, rfl, by simp, fun i z hz => by
    match i, hz with
    | 0, hz => simp at hz; subst hz; exact cell_new w _ t rfl
    | 1, hz => simp at hz; subst hz; exact cell_new w _ t rfl⟩, fun z hz => by simp at hz; rcases hz with rfl | rfl <;> assumption⟩
def orI (x y : Int) : Int := if x = 0 then y else x
set_option maxRecDepth 10000 in
theorem or_any (x y : Int) (v : Value) (w : World) (h : Ints [x, y] v w) : Calls Try.prog 16 #[v] w fun e w' => e = .returned (.int .i64 (orI x y)) ∧ w' = w := by
  unfold orI
  obtain ⟨A, c, rfl, -, -, h3, h4⟩ := h
  obtain ⟨b, o, rfl, hb, hc⟩ := h3 (by simp)
  have c0 := hc 0 x rfl
  have c1 := hc 1 y rfl
  rw [Nat.add_zero] at c0
  clear hc h3 h4
  by_cases hx : x = 0
  · subst hx
    rw [if_pos rfl]
    by_cases hy : y = 0
    · subst hy
      go_enter Try.func16, Try.ntmps16
      go_wp2
      refine wp_loop_rounds 3 ?_
      rw [rounds_succ]
      go_wp2
      rw [rounds_succ]
      go_wp2
      rw [rounds_succ]
      go_wp2
      go_ret
      exact ⟨rfl, rfl⟩
    · have y1 : (y != 0) = true := by simpa using hy
      have y2 : (y == 0) = false := by simpa using hy
      go_enter Try.func16, Try.ntmps16
      go_wp2
      refine wp_loop_rounds 2 ?_
      rw [rounds_succ]
      go_wp2
      rw [rounds_succ]
      go_wp2
      go_ret
      exact ⟨rfl, rfl⟩
  · rw [if_neg hx]
    have y1 : (x != 0) = true := by simpa using hx
    have y2 : (x == 0) = false := by simpa using hx
    go_enter Try.func16, Try.ntmps16
    go_wp2
    refine wp_loop_rounds 1 ?_
    rw [rounds_succ]
    go_wp2
    go_ret
    exact ⟨rfl, rfl⟩
set_option maxHeartbeats 4000000 in
set_option maxRecDepth 10000 in
theorem closure_any (x y : Fr) (W : World) : Calls Try.prog 15 #[.agg #[.int .i64 x.1, .int .i64 x.2], .agg #[.int .i64 y.1, .int .i64 y.2]] W fun e w' => e = .returned (.int .i64 (cfF x y)) ∧ GD W w' := by
  rw [show cfF x y = orI (Lib.compareInt y.2 x.2) (Lib.compareInt x.1 y.1) from rfl]
  go_enter Try.func15, Try.ntmps15
  go_wp2_with fail
  obtain ⟨w0, hw0⟩ : ∃ w0, w0 = W.alloc (.cells #[.int .i64 x.1, .int .i64 x.2] 32) := ⟨_, rfl⟩
  obtain ⟨w1, hw1⟩ : ∃ w1, w1 = w0.alloc (.cells #[.int .i64 y.1, .int .i64 y.2] 32) := ⟨_, rfl⟩
  obtain ⟨wd, hwd⟩ : ∃ wd, wd = w1.drew := ⟨_, rfl⟩
  have hG : Hid (GD W wd) := Lib.hid (by rw [hwd, hw1, hw0]; exact ((GD.alloc W _).trans (GD.alloc _ _)).trans (GD.drew _))
  have hs0 : w0.heap.size = W.heap.size + 1 := by rw [hw0]; simp
  have hs1 : w1.heap.size = W.heap.size + 2 := by rw [hw1]; simp [hs0]
  have hg0 : W.heap.size < wd.heap.size := by rw [hwd]; show _ < w1.heap.size; omega
  have hg1 : W.heap.size + 1 < wd.heap.size := by rw [hwd]; show _ < w1.heap.size; omega
  have kx0 : wd.cell? ⟨W.heap.size, 0, none⟩ = some (.int .i64 x.1) := by rw [hwd, hw1]; exact (World.cell?_alloc_lt w0 _ _ (by show W.heap.size < _; omega)).trans (by rw [hw0]; exact cell_new W _ _ rfl)
  have kx1 : wd.cell? ⟨W.heap.size, 1, none⟩ = some (.int .i64 x.2) := by rw [hwd, hw1]; exact (World.cell?_alloc_lt w0 _ _ (by show W.heap.size < _; omega)).trans (by rw [hw0]; exact cell_new W _ _ rfl)
  have ky0 : wd.cell? ⟨W.heap.size + 1, 0, none⟩ = some (.int .i64 y.1) := by rw [hwd, hw1, ← hs0]; exact cell_new w0 _ _ rfl
  have ky1 : wd.cell? ⟨W.heap.size + 1, 1, none⟩ = some (.int .i64 y.2) := by rw [hwd, hw1, ← hs0]; exact cell_new w0 _ _ rfl
  rw [← hw0, ← hw1]
  clear hs0 hs1
  replace hw0 := Lib.hid hw0
  replace hw1 := Lib.hid hw1
  refine wpR_region (GD) 9999 (by kernel_rfl) ?_
  (rw [← hwd]; replace hwd := Lib.hid hwd)
  refine wpR_take (i := 0) (v := ?_) (GD.road) (some 5) rfl (by kernel_rfl) (by kernel_rfl) (by kernel_rfl) (by kernel_rfl) (by kernel_rfl) (fun _ _ _ h => h) (by kernel_rfl) (fun w' hw' => ?_) ?_
  rotate_left
  · go_simp; with_reducible rfl
  simp only [Act.put, List.setIfInBounds_toArray, List.set_cons_zero, List.set_cons_succ]
  refine wpR_take (i := 1) (v := ?_) (GD.road) (some 6) rfl (by kernel_rfl) (by kernel_rfl) (by kernel_rfl) (by kernel_rfl) (by kernel_rfl) (fun _ _ _ h => h) (by kernel_rfl) (fun w' hw' => ?_) ?_
  rotate_left
  · have q := (GD.cell hw' hg1).trans ky1; go_simp; with_reducible rfl
  simp only [Act.put, List.setIfInBounds_toArray, List.set_cons_zero, List.set_cons_succ]
  refine wpR_take (i := 2) (v := ?_) (GD.road) (some 7) rfl (by kernel_rfl) (by kernel_rfl) (by kernel_rfl) (by kernel_rfl) (by kernel_rfl) (fun _ _ _ h => h) (by kernel_rfl) (fun w' hw' => ?_) ?_
  rotate_left
  · go_simp; with_reducible rfl
  simp only [Act.put, List.setIfInBounds_toArray, List.set_cons_zero, List.set_cons_succ]
  refine wpR_take (i := 3) (v := ?_) (GD.road) (some 8) rfl (by kernel_rfl) (by kernel_rfl) (by kernel_rfl) (by kernel_rfl) (by kernel_rfl) (fun _ _ _ h => h) (by kernel_rfl) (fun w' hw' => ?_) ?_
  rotate_left
  · have q := (GD.cell hw' hg0).trans kx1; go_simp; with_reducible rfl
  simp only [Act.put, List.setIfInBounds_toArray, List.set_cons_zero, List.set_cons_succ]
  refine wpR_take (i := 5) (v := ?_) (GD.road) (some 10) rfl (by kernel_rfl) (by kernel_rfl) (by kernel_rfl) (by kernel_rfl) (by kernel_rfl) (fun _ _ _ h => h) (by kernel_rfl) (fun w' hw' => ?_) ?_
  rotate_left
  · go_simp; with_reducible rfl
  simp only [Act.put, List.setIfInBounds_toArray, List.set_cons_zero, List.set_cons_succ]
  refine wpR_take (i := 6) (v := ?_) (GD.road) (some 11) rfl (by kernel_rfl) (by kernel_rfl) (by kernel_rfl) (by kernel_rfl) (by kernel_rfl) (fun _ _ _ h => h) (by kernel_rfl) (fun w' hw' => ?_) ?_
  rotate_left
  · have q := (GD.cell hw' hg0).trans kx0; go_simp; with_reducible rfl
  simp only [Act.put, List.setIfInBounds_toArray, List.set_cons_zero, List.set_cons_succ]
  refine wpR_take (i := 7) (v := ?_) (GD.road) (some 12) rfl (by kernel_rfl) (by kernel_rfl) (by kernel_rfl) (by kernel_rfl) (by kernel_rfl) (fun _ _ _ h => h) (by kernel_rfl) (fun w' hw' => ?_) ?_
  rotate_left
  · go_simp; with_reducible rfl
  simp only [Act.put, List.setIfInBounds_toArray, List.set_cons_zero, List.set_cons_succ]
  refine wpR_take (i := 8) (v := ?_) (GD.road) (some 13) rfl (by kernel_rfl) (by kernel_rfl) (by kernel_rfl) (by kernel_rfl) (by kernel_rfl) (fun _ _ _ h => h) (by kernel_rfl) (fun w' hw' => ?_) ?_
  rotate_left
  · have q := (GD.cell hw' hg1).trans ky0; go_simp; with_reducible rfl
  simp only [Act.put, List.setIfInBounds_toArray, List.set_cons_zero, List.set_cons_succ]
  refine wpR_one 4 rfl (by kernel_rfl) (by kernel_rfl) (fun K hK => ?_)
  go_simp
  refine (cmp_any _ _ _).mono ?_
  rintro e w' ⟨rfl, hee⟩
  rw [hee]
  clear hee
  refine hK _ _ (fun _ => GD.refl _) ?_
  clear hK K
  try simp only [Act.put, List.setIfInBounds_toArray, List.set_cons_zero, List.set_cons_succ]
  refine wpR_one 9 rfl (by kernel_rfl) (by kernel_rfl) (fun K hK => ?_)
  go_simp
  refine (cmp_any _ _ _).mono ?_
  rintro e w' ⟨rfl, hee⟩
  rw [hee]
  clear hee
  refine hK _ _ (fun _ => GD.refl _) ?_
  clear hK K
  try simp only [Act.put, List.setIfInBounds_toArray, List.set_cons_zero, List.set_cons_succ]
  refine wpR_one 10 rfl (by kernel_rfl) (by kernel_rfl) (fun K hK => ?_)
  go_simp
  refine hK _ _ (fun _ => GD.alloc _ _) ?_
  clear hK K
  obtain ⟨w5, hw5⟩ : ∃ w5, w5 = wd.alloc (.cells #[.int .i64 (Lib.compareInt y.2 x.2), .int .i64 (Lib.compareInt x.1 y.1)] 3) := ⟨_, rfl⟩
  have hi5 := Lib.hid (Ints.two wd (Lib.compareInt y.2 x.2) (Lib.compareInt x.1 y.1) (cmpI64 _ _) (cmpI64 _ _) 3)
  have hg5 := Lib.hid (GD.alloc wd (.cells #[.int .i64 (Lib.compareInt y.2 x.2), .int .i64 (Lib.compareInt x.1 y.1)] 3))
  rw [← hw5] at hi5 hg5 ⊢
  replace hw5 := Lib.hid hw5
  try simp only [Act.put, List.setIfInBounds_toArray, List.set_cons_zero, List.set_cons_succ]
  refine wpR_one 11 rfl (by kernel_rfl) (by kernel_rfl) (fun K hK => ?_)
  go_simp
  refine (or_any _ _ _ _ hi5.out).mono ?_
  rintro e w' ⟨rfl, hee⟩
  rw [hee]
  clear hee
  refine hK _ _ (fun _ => GD.refl _) ?_
  clear hK K
  try simp only [Act.put, List.setIfInBounds_toArray, List.set_cons_zero, List.set_cons_succ]
  refine wpR_take (i := 12) (v := ?_) (GD.road) (some 4) rfl (by kernel_rfl) (by kernel_rfl) (by kernel_rfl) (by kernel_rfl) (by kernel_rfl) (fun _ _ _ h => h) (by kernel_rfl) (fun w' hw' => ?_) ?_
  rotate_left
  · go_simp; with_reducible rfl
  simp only [Act.put, List.setIfInBounds_toArray, List.set_cons_zero, List.set_cons_succ]
  refine wpR_done (by kernel_rfl) ?_ _
  go_wp2_with fail
  go_ret
  exact ⟨rfl, hG.out.trans hg5.out⟩
/-- where a number stands first -/
def idxL (l : List Int) (c : Int) : Option Nat := l.findIdx? (· == c)
set_option maxRecDepth 10000 in
theorem index_any (l : List Int) (c : Int) (v : Value) (w : World) (h : Hid (Ints l v w)) (hn : l.length ≤ 1000000) : Calls Try.prog 23 #[v, .int .i64 c] w fun e w' => (∃ r : Int, e = .returned (.int .i64 r) ∧ decide (0 ≤ r) = l.contains c) ∧ w' = w := by
  obtain ⟨A, cc, rfl, -, -, h3, -⟩ := h.out
  obtain ⟨n, hl⟩ : ∃ n, l.length = n := ⟨_, rfl⟩
  rw [hl] at h3 ⊢
  have hn2 : n ≤ 1000000 := by omega
  replace h3 := Lib.hid h3
  replace hl := Lib.hid hl
  clear h hn
  go_enter Try.func23, Try.ntmps23
  go_wp2_with fail
  go_loopw [8] (fun u8 wr => ∃ k : Nat, k ≤ n ∧ u8 = .int .i64 (k : Int) ∧ wr = w ∧ Hid (∀ x ∈ l.take k, x ≠ c)) (fun u8 _ => n - (intOf u8).toNat)
  case atStart => exact ⟨0, Nat.zero_le _, rfl, rfl, Lib.hid (fun x hx => by simp at hx)⟩
  case round =>
    obtain ⟨k, hk, rfl, rfl, hno⟩ := hrel
    by_cases hkn : k < n
    · have ik : (k : Int) < (n : Int) := by omega
      obtain ⟨b, o, rfl, hb, hc⟩ := h3.out (by omega)
      obtain ⟨x, hx⟩ : ∃ x, l[k]? = some x := ⟨_, List.getElem?_eq_getElem (by rw [hl.out]; exact hkn)⟩
      have c0 := hc k x hx
      clear hc
      by_cases hxc : x = c
      · subst hxc
        have hin : Hid (decide ((0 : Int) ≤ (k : Int)) = l.contains x) := Lib.hid (by
          rw [decide_eq_true (by omega)]
          exact (List.contains_iff_mem.mpr (List.mem_of_getElem? hx)).symm)
        replace hx := Lib.hid hx
        go_wp2_with fail
        go_ret
        exact ⟨⟨_, rfl, hin.out⟩, rfl⟩
      · have e1 : (c == x) = false := by simpa using Ne.symm hxc
        have hnext : Hid (∀ y ∈ l.take (k + 1), y ≠ c) := Lib.hid (fun y hy => by
          rw [List.take_add_one, hx] at hy
          rcases List.mem_append.mp hy with h | h
          · exact hno.out y h
          · simp at h; subst h; exact hxc)
        replace hx := Lib.hid hx
        replace hxc := Lib.hid hxc
        go_wp2_with fail
        go_roundw
        case rel => exact ⟨k + 1, by omega, by go_num, by first | trivial | rfl, hnext⟩
        case measure => simp [intOf]; omega
    · obtain rfl : k = n := by omega
      have ik : decide ((k : Int) < (k : Int)) = false := decide_eq_false (by omega)
      clear hkn
      have hin : Hid (decide ((0 : Int) ≤ -1) = l.contains c) := Lib.hid (by
        rw [decide_eq_false (by omega)]
        cases hc : l.contains c with
        | false => rfl
        | true =>
          exact absurd rfl (hno.out c (by rw [List.take_of_length_le (by rw [hl.out]; omega)]; exact List.contains_iff_mem.mp hc)))
      go_wp2_with fail
      go_ret
      exact ⟨⟨_, rfl, hin.out⟩, rfl⟩
theorem contains_any (l : List Int) (c : Int) (v : Value) (w : World) (h : Hid (Ints l v w)) (hn : l.length ≤ 1000000) : Calls Try.prog 19 #[v, .int .i64 c] w fun e w' => e = .returned (.bool (l.contains c)) ∧ w' = w := by
  have hi := index_any l c v w h hn
  obtain ⟨q, hq⟩ : ∃ q, q = l.contains c := ⟨_, rfl⟩
  rw [← hq] at hi ⊢
  replace hq := Lib.hid hq
  go_enter Try.func19, Try.ntmps19
  go_wp2_with (go_at_call 23; refine hi.mono ?_; rintro e w' ⟨⟨r, rfl, hr⟩, rfl⟩)
  go_ret
  exact ⟨by rw [← hr]; rfl, rfl⟩
end Go.Proofs.Ytfiaedhdgbnfiaa
