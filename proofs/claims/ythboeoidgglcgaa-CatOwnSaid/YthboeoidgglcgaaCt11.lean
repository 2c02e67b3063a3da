/- cat: a blob is not staged any more. -/
import Derived.Test.YthboeoidgglcgaaCt10
namespace Go.Proofs.Ythboeoidgglcgaa
set_option linter.unusedVariables false
set_option linter.unusedSimpArgs false
open Go Go.RowKit Go.Maps
theorem Cr.form {w : World} {lo g t : Nat} {x : CtX} {B T : List (By × Int)} {R : List Int} {G : Int} (h : Cr w lo g x B T R G t) : ∃ A ca, x.vs = .slice A x.W.length ca := by
  obtain ⟨A, ca, e1, -⟩ := row_form h.ws
  exact ⟨A, ca, e1⟩
theorem Upd.own_gr {v : Value} {w w1 w2 : World} (hg : Gr w w1) (hu : Upd (fun k => v.ownBlock = some k) w1 w2) : Upd (fun k => v.ownBlock = some k) w w2 := (Upd.of_below hg).trans hu
theorem Cr.data_kept {w w1 : World} {lo g t : Nat} {x : CtX} {B T : List (By × Int)} {R : List Int} {G : Int} (h : Cr w lo g x B T R G t) (hu : Upd (fun k => x.vs.ownBlock = some k) w w1) : ∀ e ∈ x.W, OB w1 lo e.v e.d := fun e he => row_keep (h.wd e he) (fun k e' => hu.2.2.2.2 k ((h.wd e he).lt k e').2 (fun e2 => row_ne2 (h.wd e he) h.ws (by decide) k e2 e'))
set_option maxRecDepth 10000 in
set_option maxHeartbeats 1000000 in
theorem unstage_any (lo g t : Nat) (x : CtX) (B T : List (By × Int)) (R : List Int) (G : Int) (w : World) (h : Hid (Cr w lo g x B T R G t)) (hl : x.W.length ≤ 100000) (key : By) :
    Calls Try.prog 54 #[.pointer (some ⟨g, 0, none⟩), .string (bs key)] w fun e w' => (∃ v, e = .returned v) ∧ ∃ v', Hid (Cr w' lo g { x with vs := v', W := filW key x.W } B T R G t) ∧ v'.ownBlock = x.vs.ownBlock ∧ Upd (x.S g) w w' := by
  obtain ⟨A, cp, hv⟩ := h.out.form
  obtain ⟨N, hN⟩ : ∃ N, w.heap.size = N := ⟨_, rfl⟩
  obtain ⟨W, hW⟩ : ∃ W, w.alloc (.cells #[.string (bs key)] 9) = W := ⟨_, rfl⟩
  have hgW : Gr w W := by rw [← hW]; exact Gr.alloc _ _
  have hbW : W.heap[N]? = some (.cells #[.string (bs key)] 9 (0, 0)) := by rw [← hW, ← hN]; exact heap_alloc_new w _
  have hcW := h.out.gr hgW
  have hbk := hcW.blk
  rw [hv] at hbk
  have c0 := blk_cell (j := 0) hbk rfl
  have hrow : WRow W lo (.slice A x.W.length cp) x.W := by rw [← hv]; exact hcW.ws
  have hdel := deletef_W lo N key A x.W.length cp x.W rfl (by omega) W hbW hrow
  unfold dropF at hdel
  rw [← hv] at hdel
  have hkb : Hid (∀ w1, Upd (fun k => x.vs.ownBlock = some k) W w1 → w1.heap[g]? = some (.cells #[x.vs, .map (some x.be), .map (some x.bb), x.vt, .map (some x.br), .int .i64 G] 65 (0, 0))) := Lib.hid (fun w1 hu => (hu.2.2.2.2 g (blk_lt hcW.blk) (row_ne hcW.ws hcW.blk (by decide))).trans hcW.blk)
  rw [hv] at hdel
  replace hdel := Lib.hid hdel
  replace hgW := Lib.hid hgW
  replace hbW := Lib.hid hbW
  replace hbk := Lib.hid hbk
  replace hcW := Lib.hid hcW
  replace hrow := Lib.hid hrow
  replace hv := Lib.hid hv
  generalize hn : x.W.length = n at c0 hdel hv
  replace hn := Lib.hid hn
  clear hl
  go_enter Try.func54, Try.ntmps54
  go_upto_region 1 with (fail)
  replace hW := Lib.hid hW
  replace hN := Lib.hid hN
  go_wp2_with (go_at_call 68; go_must (refine hdel.out.mono ?_); clear hdel; rintro e w1 ⟨v1, rfl, hr1, ho1, hu1⟩; obtain ⟨A1, c1, rfl, -, -⟩ := row_form hr1; generalize hm1 : (filW key x.W).length = m1 at *; replace hm1 := Lib.hid hm1; rw [← hv.out] at ho1 hu1; have hb1 := hkb.out _ hu1; have q0 := blk_cell (j := 0) hb1 rfl; have f0 := blk_free hb1 0)
  go_end0
  rw [hm1.out.symm] at hr1 ho1 ⊢
  obtain ⟨h2, hu2⟩ := hcW.out.setW hu1 hr1 (fun e he => hcW.out.data_kept hu1 e (List.mem_filter.mp he).1)
  exact ⟨⟨_, rfl⟩, _, Lib.hid h2, ho1, (Upd.of_below hgW.out).trans hu2⟩
end Go.Proofs.Ythboeoidgglcgaa
