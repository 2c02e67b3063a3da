/- Records of label: a tombstone out of its bytes. -/
import Derived.Test.YticdkmnjolkacabLab5
namespace Go.Proofs.Yticdkmnjolkacab
set_option linter.unusedVariables false
set_option linter.unusedSimpArgs false
open Go Go.RowKit
def gs3 (l : List UInt8) : List UInt8 × Int := ((rtext (some l) 16).1, (rget (rtext (some l) 16).2 1099511627776).1)
def guess3 (l : List UInt8) : Rc := ⟨3, 0, (gs3 l).1, (gs3 l).2, 0, 0, 0, 0, [], []⟩
theorem blk_set10 {w : World} {g : Nat} {T : TypeId} {z0 z1 z2 z3 z4 z5 z6 z7 z8 z9 : Value} (h : w.heap[g]? = some (.cells #[z0, z1, z2, z3, z4, z5, z6, z7, z8, z9] T (0, 0))) (a0 a1 a2 a3 a4 a5 a6 a7 a8 a9 : Value) : ((((((((((w.setCell ⟨g, 0, none⟩ a0).setCell ⟨g, 1, none⟩ a1).setCell ⟨g, 2, none⟩ a2).setCell ⟨g, 3, none⟩ a3).setCell ⟨g, 4, none⟩ a4).setCell ⟨g, 5, none⟩ a5).setCell ⟨g, 6, none⟩ a6).setCell ⟨g, 7, none⟩ a7).setCell ⟨g, 8, none⟩ a8).setCell ⟨g, 9, none⟩ a9).heap[g]? = some (.cells #[a0, a1, a2, a3, a4, a5, a6, a7, a8, a9] T (0, 0)) := by
  have h10 := (blk_set (blk_set (blk_set (blk_set (blk_set (blk_set (blk_set (blk_set (blk_set (blk_set h 0 a0) 1 a1) 2 a2) 3 a3) 4 a4) 5 a5) 6 a6) 7 a7) 8 a8) 9 a9)
  simpa using h10
theorem setLo {lo : Nat} {w0 w : World} (hb : Below lo w0 w) {g j : Nat} (hg : lo ≤ g) (u : Value) : Below lo w0 (w.setCell ⟨g, j, none⟩ u) := hb.setCell (p := ⟨g, j, none⟩) hg u
theorem setLo10 {lo : Nat} {w0 w : World} (h : Below lo w0 w) {g : Nat} (hg : lo ≤ g) (a0 a1 a2 a3 a4 a5 a6 a7 a8 a9 : Value) : Below lo w0 ((((((((((w.setCell ⟨g, 0, none⟩ a0).setCell ⟨g, 1, none⟩ a1).setCell ⟨g, 2, none⟩ a2).setCell ⟨g, 3, none⟩ a3).setCell ⟨g, 4, none⟩ a4).setCell ⟨g, 5, none⟩ a5).setCell ⟨g, 6, none⟩ a6).setCell ⟨g, 7, none⟩ a7).setCell ⟨g, 8, none⟩ a8).setCell ⟨g, 9, none⟩ a9) := (setLo (setLo (setLo (setLo (setLo (setLo (setLo (setLo (setLo (setLo h (g := g) (j := 0) hg a0) (g := g) (j := 1) hg a1) (g := g) (j := 2) hg a2) (g := g) (j := 3) hg a3) (g := g) (j := 4) hg a4) (g := g) (j := 5) hg a5) (g := g) (j := 6) hg a6) (g := g) (j := 7) hg a7) (g := g) (j := 8) hg a8) (g := g) (j := 9) hg a9)
set_option maxHeartbeats 8000000 in
set_option maxRecDepth 20000 in
theorem guess3_any (A : Option Addr) (n c : Nat) (l : List UInt8) (hn : l.length = n) (hl : n ≤ 140737488355328) (w : World) (hr : Rd w w.heap.size A l) :
    Calls Try.prog 43 #[.int .i64 3, .slice A n c] w fun e w' => e = .returned ((guess3 l).agg none 0) ∧ Below w.heap.size w w' := by
  obtain ⟨tx, htx⟩ : ∃ tx, (rtext (some l) 16).1 = tx := ⟨_, rfl⟩
  obtain ⟨gn, hgn⟩ : ∃ gn, (rget (rtext (some l) 16).2 1099511627776).1 = gn := ⟨_, rfl⟩
  have hres : Hid ((guess3 l).agg none 0 = (.agg #[.int .i64 3, .int .i64 0, .string (bs tx), .int .i64 gn, .int .i64 0, .int .i64 0, .int .i64 0, .int .i64 0, .string .empty, .slice none 0 0])) := Lib.hid (by unfold guess3 gs3 Rc.agg; rw [htx, hgn]; rfl)
  rw [hres.out]
  have hb1 := (Below.refl w.heap.size w).alloc (Nat.le_refl _) (.cells #[.int .i64 0, .int .i64 0, .string .empty, .int .i64 0, .int .i64 0, .int .i64 0, .int .i64 0, .int .i64 0, .string .empty, .slice none 0 0] 34)
  have hb2 := Lib.hid (hb1.alloc hb1.size (.cells #[.int .i64 3, .int .i64 0, .string .empty, .int .i64 0, .int .i64 0, .int .i64 0, .int .i64 0, .int .i64 0, .string .empty, .slice none 0 0] 34))
  have h4 := Lib.hid (blk_alloc (heap_alloc_new w (.cells #[.int .i64 0, .int .i64 0, .string .empty, .int .i64 0, .int .i64 0, .int .i64 0, .int .i64 0, .int .i64 0, .string .empty, .slice none 0 0] 34)) (.cells #[.int .i64 3, .int .i64 0, .string .empty, .int .i64 0, .int .i64 0, .int .i64 0, .int .i64 0, .int .i64 0, .string .empty, .slice none 0 0] 34))
  have h5 := heap_alloc_new (w.alloc (.cells #[.int .i64 0, .int .i64 0, .string .empty, .int .i64 0, .int .i64 0, .int .i64 0, .int .i64 0, .int .i64 0, .string .empty, .slice none 0 0] 34)) (.cells #[.int .i64 3, .int .i64 0, .string .empty, .int .i64 0, .int .i64 0, .int .i64 0, .int .i64 0, .int .i64 0, .string .empty, .slice none 0 0] 34)
  have hsz : (w.alloc (.cells #[.int .i64 0, .int .i64 0, .string .empty, .int .i64 0, .int .i64 0, .int .i64 0, .int .i64 0, .int .i64 0, .string .empty, .slice none 0 0] 34)).heap.size = w.heap.size + 1 := by simp
  rw [hsz] at h5
  have hR := Lib.hid (hr.up hb2.out)
  obtain ⟨N, hN⟩ : ∃ N, w.heap.size = N := ⟨_, rfl⟩
  rw [hN] at h4 h5 hb2 ⊢
  have hlt1 : N + 2 = ((w.alloc (.cells #[.int .i64 0, .int .i64 0, .string .empty, .int .i64 0, .int .i64 0, .int .i64 0, .int .i64 0, .int .i64 0, .string .empty, .slice none 0 0] 34)).alloc (.cells #[.int .i64 3, .int .i64 0, .string .empty, .int .i64 0, .int .i64 0, .int .i64 0, .int .i64 0, .int .i64 0, .string .empty, .slice none 0 0] 34)).heap.size := by simp; omega
  replace h5 := Lib.hid h5
  replace hN := Lib.hid hN
  replace hlt1 := Lib.hid hlt1
  replace hn := Lib.hid hn
  replace htx := Lib.hid htx
  replace hgn := Lib.hid hgn
  clear hb1 hsz hr
  go_enter Try.func43, Try.ntmps43
  go_wp2_with fail
  rw [hN.out]
  refine (new_any A n c l hn.out hl _ hR.out).mono ?_
  rintro e w3 ⟨g, rfl, hgg, hrd, hbb⟩
  rw [← hlt1.out] at hgg
  have hb3 := Lib.hid (hb2.out.trans (hbb.mono (by rw [← hlt1.out]; omega)))
  replace h4 := Lib.hid (blk_below h4.out hbb)
  replace h5 := Lib.hid (blk_below h5.out hbb)
  replace hrd := Lib.hid hrd
  clear hbb hR
  go_wp2_with fail
  refine (rtext_any g _ 16 (by decide) (by decide) _ hrd.out (fun l' e => by injection e with e; subst e; rw [hn.out]; exact hl)).mono ?_
  rw [htx.out]
  obtain ⟨st, hst⟩ : ∃ st, (rtext (some l) 16).2 = st := ⟨_, rfl⟩
  rw [hst] at hgn ⊢
  have hsl : Hid (∀ l', st = some l' → l'.length ≤ 140737488355328) := Lib.hid (fun l' e => by
    rw [← hst] at e
    unfold rtext at e
    split at e
    · cases e
    · rename_i m l2 hq
      obtain ⟨n', l3, -, -, e3, h3⟩ := rget_some (st := some l) (most := 16) (l' := l2) (by rw [hq])
      injection e3 with e3
      subst e3
      split at e
      · injection e with e
        subst e
        simp only [List.length_drop]
        have := hn.out
        omega
      · cases e)
  rintro e w4 ⟨rfl, hs1, hgr⟩
  have hgN : N + 2 ≤ g := hgg
  have h4' := (hgr.block N (blk_lt h4.out) (fun e => by injection e with e; omega)).trans h4.out
  have h5' := (hgr.block (N + 1) (blk_lt h5.out) (fun e => by injection e with e; omega)).trans h5.out
  have hb4 := Lib.hid (hb3.out.grown hgr (by rw [← hN.out]; exact hb3.out.size) (fun k hk => by injection hk with hk; omega))
  replace h4 := Lib.hid h4'
  replace h5 := Lib.hid h5'
  replace hrd := Lib.hid hs1
  replace hst := Lib.hid hst
  clear hgr hs1 hb3 h4' h5'
  go_wp2_with fail
  refine (get_any g _ 1099511627776 (by decide) (by decide) _ hrd.out hsl.out).mono ?_
  rw [hgn.out]
  rintro e w5 ⟨rfl, hs1, hgr⟩
  have h4' := (hgr.block N (blk_lt h4.out) (fun e => by injection e with e; omega)).trans h4.out
  have h5' := (hgr.block (N + 1) (blk_lt h5.out) (fun e => by injection e with e; omega)).trans h5.out
  have hb5 := hb4.out.grown hgr (by rw [← hN.out]; exact hb4.out.size) (fun k hk => by injection hk with hk; omega)
  have p2 := blk_cell (j := 2) (v := .string .empty) h5' rfl
  have p3 := blk_cell (j := 3) (v := .int .i64 0) h5' rfl
  have q2 := blk_free h5' 2
  have q3 := blk_free h5' 3
  have hset := blk_set (blk_set h5' 2 (.string (bs tx))) 3 (.int .i64 gn)
  have h4s := (blk_other (g := N + 1) (k := N) (by omega) 3 (.int .i64 gn)).trans ((blk_other (w := w5) (g := N + 1) (k := N) (by omega) 2 (.string (bs tx))).trans h4')
  have hwN : N ≤ N + 1 := by omega
  have hb6 := setLo (setLo hb5 (g := N + 1) (j := 2) hwN (.string (bs tx))) (g := N + 1) (j := 3) hwN (.int .i64 gn)
  obtain ⟨w6, hw6⟩ : ∃ w6, (w5.setCell ⟨N + 1, 2, none⟩ (.string (bs tx))).setCell ⟨N + 1, 3, none⟩ (.int .i64 gn) = w6 := ⟨_, rfl⟩
  rw [hw6] at hset h4s hb6
  have h5 : Hid (w6.heap[N + 1]? = some (.cells #[.int .i64 3, .int .i64 0, .string (bs tx), .int .i64 gn, .int .i64 0, .int .i64 0, .int .i64 0, .int .i64 0, .string .empty, .slice none 0 0] 34 (0, 0))) := Lib.hid hset
  replace h4 := Lib.hid h4s
  replace hb6 := Lib.hid hb6
  clear hset h4s hgr hs1 hb4 hb5 h4' h5' hrd
  have y0 := blk_cell (j := 0) (v := .int .i64 3) h5.out rfl
  have y1 := blk_cell (j := 1) (v := .int .i64 0) h5.out rfl
  have y2 := blk_cell (j := 2) (v := .string (bs tx)) h5.out rfl
  have y3 := blk_cell (j := 3) (v := .int .i64 gn) h5.out rfl
  have y4 := blk_cell (j := 4) (v := .int .i64 0) h5.out rfl
  have y5 := blk_cell (j := 5) (v := .int .i64 0) h5.out rfl
  have y6 := blk_cell (j := 6) (v := .int .i64 0) h5.out rfl
  have y7 := blk_cell (j := 7) (v := .int .i64 0) h5.out rfl
  have y8 := blk_cell (j := 8) (v := .string .empty) h5.out rfl
  have y9 := blk_cell (j := 9) (v := .slice none 0 0) h5.out rfl
  have z0 := blk_cell (j := 0) (v := .int .i64 0) h4.out rfl
  have f0 := blk_free h4.out 0
  have z1 := blk_cell (j := 1) (v := .int .i64 0) h4.out rfl
  have f1 := blk_free h4.out 1
  have z2 := blk_cell (j := 2) (v := .string .empty) h4.out rfl
  have f2 := blk_free h4.out 2
  have z3 := blk_cell (j := 3) (v := .int .i64 0) h4.out rfl
  have f3 := blk_free h4.out 3
  have z4 := blk_cell (j := 4) (v := .int .i64 0) h4.out rfl
  have f4 := blk_free h4.out 4
  have z5 := blk_cell (j := 5) (v := .int .i64 0) h4.out rfl
  have f5 := blk_free h4.out 5
  have z6 := blk_cell (j := 6) (v := .int .i64 0) h4.out rfl
  have f6 := blk_free h4.out 6
  have z7 := blk_cell (j := 7) (v := .int .i64 0) h4.out rfl
  have f7 := blk_free h4.out 7
  have z8 := blk_cell (j := 8) (v := .string .empty) h4.out rfl
  have f8 := blk_free h4.out 8
  have z9 := blk_cell (j := 9) (v := .slice none 0 0) h4.out rfl
  have f9 := blk_free h4.out 9
  go_wp2_with fail
  have hz := blk_set10 h4.out (.int .i64 3) (.int .i64 0) (.string (bs tx)) (.int .i64 gn) (.int .i64 0) (.int .i64 0) (.int .i64 0) (.int .i64 0) (.string .empty) (.slice none 0 0)
  have hbz := setLo10 hb6.out (Nat.le_refl N) (.int .i64 3) (.int .i64 0) (.string (bs tx)) (.int .i64 gn) (.int .i64 0) (.int .i64 0) (.int .i64 0) (.int .i64 0) (.string .empty) (.slice none 0 0)
  obtain ⟨w7, hw7⟩ : ∃ w7, ((((((((((w6.setCell ⟨N, 0, none⟩ (.int .i64 3)).setCell ⟨N, 1, none⟩ (.int .i64 0)).setCell ⟨N, 2, none⟩ (.string (bs tx))).setCell ⟨N, 3, none⟩ (.int .i64 gn)).setCell ⟨N, 4, none⟩ (.int .i64 0)).setCell ⟨N, 5, none⟩ (.int .i64 0)).setCell ⟨N, 6, none⟩ (.int .i64 0)).setCell ⟨N, 7, none⟩ (.int .i64 0)).setCell ⟨N, 8, none⟩ (.string .empty)).setCell ⟨N, 9, none⟩ (.slice none 0 0)) = w7 := ⟨_, rfl⟩
  rw [hw7] at hz hbz ⊢
  have r0 := blk_cell (j := 0) (v := .int .i64 3) hz (by rfl)
  have r1 := blk_cell (j := 1) (v := .int .i64 0) hz (by rfl)
  have r2 := blk_cell (j := 2) (v := .string (bs tx)) hz (by rfl)
  have r3 := blk_cell (j := 3) (v := .int .i64 gn) hz (by rfl)
  have r4 := blk_cell (j := 4) (v := .int .i64 0) hz (by rfl)
  have r5 := blk_cell (j := 5) (v := .int .i64 0) hz (by rfl)
  have r6 := blk_cell (j := 6) (v := .int .i64 0) hz (by rfl)
  have r7 := blk_cell (j := 7) (v := .int .i64 0) hz (by rfl)
  have r8 := blk_cell (j := 8) (v := .string .empty) hz (by rfl)
  have r9 := blk_cell (j := 9) (v := .slice none 0 0) hz (by rfl)
  exact bodyPost_ret (v := (.agg #[.int .i64 3, .int .i64 0, .string (bs tx), .int .i64 gn, .int .i64 0, .int .i64 0, .int .i64 0, .int .i64 0, .string .empty, .slice none 0 0])) (by simp [results, Try.results43, go_sem, r0, r1, r2, r3, r4, r5, r6, r7, r8, r9]) rfl ⟨rfl, hbz⟩
end Go.Proofs.Yticdkmnjolkacab
