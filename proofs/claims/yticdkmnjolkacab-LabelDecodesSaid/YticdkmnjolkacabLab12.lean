/- Records of label: a label, and what is none, out of its bytes. -/
import Derived.Test.YticdkmnjolkacabLab7
namespace Go.Proofs.Yticdkmnjolkacab
set_option linter.unusedVariables false
set_option linter.unusedSimpArgs false
open Go Go.RowKit
def guess1 (l : List UInt8) : Rc := ⟨1, (rget (some l) 31).1, [], 0, 0, 0, 0, 0, [], []⟩
def guess0 (k : Int) : Rc := ⟨k, 0, [], 0, 0, 0, 0, 0, [], []⟩
set_option maxHeartbeats 8000000 in
set_option maxRecDepth 20000 in
theorem guess1_any (A : Option Addr) (n c : Nat) (l : List UInt8) (hn : l.length = n) (hl : n ≤ 140737488355328) (w : World) (hr : Rd w w.heap.size A l) :
    Calls Try.prog 43 #[.int .i64 1, .slice A n c] w fun e w' => e = .returned ((guess1 l).agg none 0) ∧ Below w.heap.size w w' := by
  obtain ⟨cn, hcn⟩ : ∃ cn, (rget (some l) 31).1 = cn := ⟨_, rfl⟩
  have hres : Hid ((guess1 l).agg none 0 = (.agg #[.int .i64 1, .int .i64 cn, .string .empty, .int .i64 0, .int .i64 0, .int .i64 0, .int .i64 0, .int .i64 0, .string .empty, .slice none 0 0])) := Lib.hid (by unfold guess1 Rc.agg; rw [hcn]; rfl)
  rw [hres.out]
  have hb1 := (Below.refl w.heap.size w).alloc (Nat.le_refl _) (.cells #[.int .i64 0, .int .i64 0, .string .empty, .int .i64 0, .int .i64 0, .int .i64 0, .int .i64 0, .int .i64 0, .string .empty, .slice none 0 0] 34)
  have hb2 := Lib.hid (hb1.alloc hb1.size (.cells #[.int .i64 1, .int .i64 0, .string .empty, .int .i64 0, .int .i64 0, .int .i64 0, .int .i64 0, .int .i64 0, .string .empty, .slice none 0 0] 34))
  have h4 := Lib.hid (blk_alloc (heap_alloc_new w (.cells #[.int .i64 0, .int .i64 0, .string .empty, .int .i64 0, .int .i64 0, .int .i64 0, .int .i64 0, .int .i64 0, .string .empty, .slice none 0 0] 34)) (.cells #[.int .i64 1, .int .i64 0, .string .empty, .int .i64 0, .int .i64 0, .int .i64 0, .int .i64 0, .int .i64 0, .string .empty, .slice none 0 0] 34))
  have h5 := heap_alloc_new (w.alloc (.cells #[.int .i64 0, .int .i64 0, .string .empty, .int .i64 0, .int .i64 0, .int .i64 0, .int .i64 0, .int .i64 0, .string .empty, .slice none 0 0] 34)) (.cells #[.int .i64 1, .int .i64 0, .string .empty, .int .i64 0, .int .i64 0, .int .i64 0, .int .i64 0, .int .i64 0, .string .empty, .slice none 0 0] 34)
  have hsz : (w.alloc (.cells #[.int .i64 0, .int .i64 0, .string .empty, .int .i64 0, .int .i64 0, .int .i64 0, .int .i64 0, .int .i64 0, .string .empty, .slice none 0 0] 34)).heap.size = w.heap.size + 1 := by simp
  rw [hsz] at h5
  have hR := Lib.hid (hr.up hb2.out)
  obtain ⟨N, hN⟩ : ∃ N, w.heap.size = N := ⟨_, rfl⟩
  rw [hN] at h4 h5 hb2 ⊢
  have hlt1 : N + 2 = ((w.alloc (.cells #[.int .i64 0, .int .i64 0, .string .empty, .int .i64 0, .int .i64 0, .int .i64 0, .int .i64 0, .int .i64 0, .string .empty, .slice none 0 0] 34)).alloc (.cells #[.int .i64 1, .int .i64 0, .string .empty, .int .i64 0, .int .i64 0, .int .i64 0, .int .i64 0, .int .i64 0, .string .empty, .slice none 0 0] 34)).heap.size := by simp; omega
  replace h5 := Lib.hid h5
  replace hN := Lib.hid hN
  replace hlt1 := Lib.hid hlt1
  replace hn := Lib.hid hn
  replace hcn := Lib.hid hcn
  clear hb1 hsz hr
  go_enter Try.func43, Try.ntmps43
  go_wp2_with fail
  rw [hN.out]
  refine (new_any A n c l hn.out hl _ hR.out).mono ?_
  rintro e w3 ⟨g, rfl, hgg, hrd, hbb⟩
  rw [← hlt1.out] at hgg
  have hb3 := Lib.hid (hb2.out.trans (hbb.mono (by rw [← hlt1.out]; omega)))
  replace h4 := Lib.hid (blk_below h4.out hbb)
  replace h5 := Lib.hid (blk_below h5.out hbb)
  replace hrd := Lib.hid hrd
  clear hbb hR
  go_wp2_with fail
  refine (get_any g _ 31 (by decide) (by decide) _ hrd.out (fun l' e => by injection e with e; subst e; rw [hn.out]; exact hl)).mono ?_
  rw [hcn.out]
  rintro e w5 ⟨rfl, hs1, hgr⟩
  have h4' := (hgr.block N (blk_lt h4.out) (fun e => by injection e with e; omega)).trans h4.out
  have h5' := (hgr.block (N + 1) (blk_lt h5.out) (fun e => by injection e with e; omega)).trans h5.out
  have hb5 := hb3.out.grown hgr (by rw [← hN.out]; exact hb3.out.size) (fun k hk => by injection hk with hk; omega)
  have p1 := blk_cell (j := 1) (v := .int .i64 0) h5' rfl
  have q1 := blk_free h5' 1
  have hset := blk_set h5' 1 (.int .i64 cn)
  have h4s := (blk_other (w := w5) (g := N + 1) (k := N) (by omega) 1 (.int .i64 cn)).trans h4'
  have hwN : N ≤ N + 1 := by omega
  have hb6 := setLo hb5 (g := N + 1) (j := 1) hwN (.int .i64 cn)
  obtain ⟨w6, hw6⟩ : ∃ w6, w5.setCell ⟨N + 1, 1, none⟩ (.int .i64 cn) = w6 := ⟨_, rfl⟩
  rw [hw6] at hset h4s hb6
  have h5 : Hid (w6.heap[N + 1]? = some (.cells #[.int .i64 1, .int .i64 cn, .string .empty, .int .i64 0, .int .i64 0, .int .i64 0, .int .i64 0, .int .i64 0, .string .empty, .slice none 0 0] 34 (0, 0))) := Lib.hid hset
  replace h4 := Lib.hid h4s
  replace hb6 := Lib.hid hb6
  clear hset h4s hgr hs1 hb5 h4' h5' hrd
  have y0 := blk_cell (j := 0) (v := .int .i64 1) h5.out rfl
  have y1 := blk_cell (j := 1) (v := .int .i64 cn) h5.out rfl
  have y2 := blk_cell (j := 2) (v := .string .empty) h5.out rfl
  have y3 := blk_cell (j := 3) (v := .int .i64 0) h5.out rfl
  have y4 := blk_cell (j := 4) (v := .int .i64 0) h5.out rfl
  have y5 := blk_cell (j := 5) (v := .int .i64 0) h5.out rfl
  have y6 := blk_cell (j := 6) (v := .int .i64 0) h5.out rfl
  have y7 := blk_cell (j := 7) (v := .int .i64 0) h5.out rfl
  have y8 := blk_cell (j := 8) (v := .string .empty) h5.out rfl
  have y9 := blk_cell (j := 9) (v := .slice none 0 0) h5.out rfl
  have z0 := blk_cell (j := 0) (v := .int .i64 0) h4.out rfl
  have f0 := blk_free h4.out 0
  have z1 := blk_cell (j := 1) (v := .int .i64 0) h4.out rfl
  have f1 := blk_free h4.out 1
  have z2 := blk_cell (j := 2) (v := .string .empty) h4.out rfl
  have f2 := blk_free h4.out 2
  have z3 := blk_cell (j := 3) (v := .int .i64 0) h4.out rfl
  have f3 := blk_free h4.out 3
  have z4 := blk_cell (j := 4) (v := .int .i64 0) h4.out rfl
  have f4 := blk_free h4.out 4
  have z5 := blk_cell (j := 5) (v := .int .i64 0) h4.out rfl
  have f5 := blk_free h4.out 5
  have z6 := blk_cell (j := 6) (v := .int .i64 0) h4.out rfl
  have f6 := blk_free h4.out 6
  have z7 := blk_cell (j := 7) (v := .int .i64 0) h4.out rfl
  have f7 := blk_free h4.out 7
  have z8 := blk_cell (j := 8) (v := .string .empty) h4.out rfl
  have f8 := blk_free h4.out 8
  have z9 := blk_cell (j := 9) (v := .slice none 0 0) h4.out rfl
  have f9 := blk_free h4.out 9
  go_wp2_with fail
  have hz := blk_set10 h4.out (.int .i64 1) (.int .i64 cn) (.string .empty) (.int .i64 0) (.int .i64 0) (.int .i64 0) (.int .i64 0) (.int .i64 0) (.string .empty) (.slice none 0 0)
  have hbz := setLo10 hb6.out (Nat.le_refl N) (.int .i64 1) (.int .i64 cn) (.string .empty) (.int .i64 0) (.int .i64 0) (.int .i64 0) (.int .i64 0) (.int .i64 0) (.string .empty) (.slice none 0 0)
  obtain ⟨w7, hw7⟩ : ∃ w7, ((((((((((w6.setCell ⟨N, 0, none⟩ (.int .i64 1)).setCell ⟨N, 1, none⟩ (.int .i64 cn)).setCell ⟨N, 2, none⟩ (.string .empty)).setCell ⟨N, 3, none⟩ (.int .i64 0)).setCell ⟨N, 4, none⟩ (.int .i64 0)).setCell ⟨N, 5, none⟩ (.int .i64 0)).setCell ⟨N, 6, none⟩ (.int .i64 0)).setCell ⟨N, 7, none⟩ (.int .i64 0)).setCell ⟨N, 8, none⟩ (.string .empty)).setCell ⟨N, 9, none⟩ (.slice none 0 0)) = w7 := ⟨_, rfl⟩
  rw [hw7] at hz hbz ⊢
  have r0 := blk_cell (j := 0) (v := .int .i64 1) hz (by rfl)
  have r1 := blk_cell (j := 1) (v := .int .i64 cn) hz (by rfl)
  have r2 := blk_cell (j := 2) (v := .string .empty) hz (by rfl)
  have r3 := blk_cell (j := 3) (v := .int .i64 0) hz (by rfl)
  have r4 := blk_cell (j := 4) (v := .int .i64 0) hz (by rfl)
  have r5 := blk_cell (j := 5) (v := .int .i64 0) hz (by rfl)
  have r6 := blk_cell (j := 6) (v := .int .i64 0) hz (by rfl)
  have r7 := blk_cell (j := 7) (v := .int .i64 0) hz (by rfl)
  have r8 := blk_cell (j := 8) (v := .string .empty) hz (by rfl)
  have r9 := blk_cell (j := 9) (v := .slice none 0 0) hz (by rfl)
  exact bodyPost_ret (v := (.agg #[.int .i64 1, .int .i64 cn, .string .empty, .int .i64 0, .int .i64 0, .int .i64 0, .int .i64 0, .int .i64 0, .string .empty, .slice none 0 0])) (by simp [results, Try.results43, go_sem, r0, r1, r2, r3, r4, r5, r6, r7, r8, r9]) rfl ⟨rfl, hbz⟩
set_option maxHeartbeats 8000000 in
set_option maxRecDepth 20000 in
theorem guess0_any (k : Int) (h1 : k ≠ 1) (h2 : k ≠ 2) (h3 : k ≠ 3) (A : Option Addr) (n c : Nat) (w : World) :
    Calls Try.prog 43 #[.int .i64 k, .slice A n c] w fun e w' => e = .returned ((guess0 k).agg none 0) ∧ Below w.heap.size w w' := by
  have hres : Hid ((guess0 k).agg none 0 = (.agg #[.int .i64 k, .int .i64 0, .string ⟨#[]⟩, .int .i64 0, .int .i64 0, .int .i64 0, .int .i64 0, .int .i64 0, .string ⟨#[]⟩, .slice none 0 0])) := Lib.hid (by unfold guess0 Rc.agg; rfl)
  rw [hres.out]
  have d1 : (k == 1) = false := beq_eq_false_iff_ne.mpr h1
  have d2 : (k == 2) = false := beq_eq_false_iff_ne.mpr h2
  have d3 : (k == 3) = false := beq_eq_false_iff_ne.mpr h3
  clear h1 h2 h3
  have hb1 := (Below.refl w.heap.size w).alloc (Nat.le_refl _) (.cells #[.int .i64 k, .int .i64 0, .string ⟨#[]⟩, .int .i64 0, .int .i64 0, .int .i64 0, .int .i64 0, .int .i64 0, .string ⟨#[]⟩, .slice none 0 0] 34)
  have hb2 := Lib.hid (hb1.alloc hb1.size (.cells #[.int .i64 k, .int .i64 0, .string ⟨#[]⟩, .int .i64 0, .int .i64 0, .int .i64 0, .int .i64 0, .int .i64 0, .string ⟨#[]⟩, .slice none 0 0] 34))
  have hz := Lib.hid (blk_alloc (heap_alloc_new w (.cells #[.int .i64 k, .int .i64 0, .string ⟨#[]⟩, .int .i64 0, .int .i64 0, .int .i64 0, .int .i64 0, .int .i64 0, .string ⟨#[]⟩, .slice none 0 0] 34)) (.cells #[.int .i64 k, .int .i64 0, .string ⟨#[]⟩, .int .i64 0, .int .i64 0, .int .i64 0, .int .i64 0, .int .i64 0, .string ⟨#[]⟩, .slice none 0 0] 34))
  clear hb1
  go_enter Try.func43, Try.ntmps43
  go_wp2_with fail
  obtain ⟨w7, hw7⟩ : ∃ w7, (w.alloc (.cells #[.int .i64 k, .int .i64 0, .string ⟨#[]⟩, .int .i64 0, .int .i64 0, .int .i64 0, .int .i64 0, .int .i64 0, .string ⟨#[]⟩, .slice none 0 0] 34)).alloc (.cells #[.int .i64 k, .int .i64 0, .string ⟨#[]⟩, .int .i64 0, .int .i64 0, .int .i64 0, .int .i64 0, .int .i64 0, .string ⟨#[]⟩, .slice none 0 0] 34) = w7 := ⟨_, rfl⟩
  rw [hw7] at hz hb2 ⊢
  replace hw7 := Lib.hid hw7
  have r0 := blk_cell (j := 0) (v := .int .i64 k) hz.out rfl
  have r1 := blk_cell (j := 1) (v := .int .i64 0) hz.out rfl
  have r2 := blk_cell (j := 2) (v := .string ⟨#[]⟩) hz.out rfl
  have r3 := blk_cell (j := 3) (v := .int .i64 0) hz.out rfl
  have r4 := blk_cell (j := 4) (v := .int .i64 0) hz.out rfl
  have r5 := blk_cell (j := 5) (v := .int .i64 0) hz.out rfl
  have r6 := blk_cell (j := 6) (v := .int .i64 0) hz.out rfl
  have r7 := blk_cell (j := 7) (v := .int .i64 0) hz.out rfl
  have r8 := blk_cell (j := 8) (v := .string ⟨#[]⟩) hz.out rfl
  have r9 := blk_cell (j := 9) (v := .slice none 0 0) hz.out rfl
  exact bodyPost_ret (v := (.agg #[.int .i64 k, .int .i64 0, .string ⟨#[]⟩, .int .i64 0, .int .i64 0, .int .i64 0, .int .i64 0, .int .i64 0, .string ⟨#[]⟩, .slice none 0 0])) (by simp [results, Try.results43, go_sem, r0, r1, r2, r3, r4, r5, r6, r7, r8, r9]) rfl ⟨rfl, hb2.out⟩
end Go.Proofs.Yticdkmnjolkacab
