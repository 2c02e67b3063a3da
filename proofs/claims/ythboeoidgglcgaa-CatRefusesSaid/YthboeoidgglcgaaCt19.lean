/- cat: Entries. -/
import Derived.Test.YthboeoidgglcgaaCt18
namespace Go.Proofs.Ythboeoidgglcgaa
set_option linter.unusedVariables false
set_option linter.unusedSimpArgs false
open Go Go.RowKit Go.Maps Go.Sort Go.Shelf Go.Proofs
theorem key_le {k : By} (h : keyOk k = true) : k.length ≤ maxLen := by have := (keyOk_iff k).mp h; simp only [maxLen]; omega
section
variable (lo g t : Nat) (x : CtX) (c : CtP) (w : World) (h : Hid (Ca w lo g x c t))
include h
set_option maxRecDepth 10000 in
set_option maxHeartbeats 1000000 in
theorem entries_any (ht : t ≤ 1000) : Calls Try.prog 19 #[.pointer (some ⟨g, 0, none⟩)] w fun e w' => ∃ A cc E', e = .returned (.slice A c.E.length cc) ∧ E'.map (·.e) = c.E.map Prod.snd ∧ OE E' (.slice A c.E.length cc) w.heap.size w' ∧ Gr w w' := by
  have g1 := blk_cell (j := 1) h.out.blk rfl
  obtain ⟨n, hn⟩ : ∃ n, c.E.length = n := ⟨_, rfl⟩
  have hlen : n ≤ 1000 := by have h1 := h.out.few.2.1; omega
  have heM : (eM x.E).map Prod.fst = c.E.map Prod.fst := by rw [h.out.ec]; unfold eM; rw [List.map_map, List.map_map]; rfl
  have heL : (eM x.E).length = n := by rw [← hn, h.out.ec]; unfold eM; rw [List.length_map, List.length_map]
  have hK := Lib.hid (fun W => keysE_any (some x.be) W)
  have hS := Lib.hid (sortedE_any x.be t (eM x.E) w h.out.me (by rw [heM]; exact List.pairwise_map.mpr h.out.ok.rE) (by omega))
  rw [heM, heL] at hS
  rw [hn]
  obtain ⟨B0, hB0⟩ : ∃ B0, w.heap.size = B0 := ⟨_, rfl⟩
  have hS2 : Hid (Calls Try.prog 43 #[.func (.func 59) #[] #[.pointer (some ⟨w.heap.size, 0, none⟩)]] (w.alloc (.cells #[.map (some x.be)] 59)) fun e w' => ∃ A c2, e = .returned (.slice A n c2) ∧ OS (c.E.map Prod.fst) (.slice A n c2) w.heap.size w' ∧ Gr w w') := hS
  clear hS
  rw [hB0]
  replace hn := Lib.hid hn
  replace heM := Lib.hid heM
  replace heL := Lib.hid heL
  have hB0' := Lib.hid hB0
  clear hB0
  go_enter Try.func19, Try.ntmps19
  go_wp2_with (first
    | (go_at_call 41; go_must (refine (hK.out _).mono ?_); rintro e w' ⟨rfl, rfl⟩)
    | (go_at_call 43; go_must (refine hS2.out.mono ?_); clear hK hS2; rintro e w4 ⟨A4, c4, rfl, hos4, hg4⟩; replace hos4 := Lib.hid hos4; replace hg4 := Lib.hid hg4))
  obtain ⟨B4, hB4⟩ : ∃ B4, w4.heap.size = B4 := ⟨_, rfl⟩
  have hlow : Hid (∀ y, Gr w4 y → B4 ≤ y.heap.size) := Lib.hid (fun y hy => by rw [← hB4]; exact Below.size hy)
  have hgo : Hid (∀ y z, Gr w4 y → Below B4 y z → Gr w4 z) := Lib.hid (fun y z h1 h2 => by unfold Gr at h1 ⊢; rw [hB4] at h1 ⊢; exact h1.trans h2)
  have hB04 : Hid (B0 ≤ B4) := Lib.hid (by rw [← hB4, ← hB0'.out]; exact Below.size hg4.out)
  replace hB4 := Lib.hid hB4
  go_loopw [3, 17] (fun u z wr => ∃ (k : Nat) (A1 : Option Addr) (c1 : Nat) (E1 : List Et), k ≤ n ∧ u = .slice A1 k c1 ∧ z = .int .i64 k ∧ Hid (E1.map (·.e) = (c.E.take k).map Prod.snd) ∧ Hid (OE E1 (.slice A1 k c1) B4 wr) ∧ Hid (Gr w4 wr)) (fun _ z _ => (n - intOf z).toNat)
  case atStart => exact ⟨0, none, 0, [], Nat.zero_le _, rfl, rfl, Lib.hid rfl, Lib.hid (OE.nil_ _ _), Lib.hid (Gr.refl _)⟩
  case round =>
    obtain ⟨k, A1, c1, E1, hk, rfl, rfl, hE1, ho, hg⟩ := hrel
    by_cases hlt : k < n
    · have ii : (k : Int) < (n : Int) := by omega
      obtain ⟨q, hq⟩ : ∃ q, c.E[k]? = some q := ⟨_, List.getElem?_eq_getElem (by rw [hn.out]; exact hlt)⟩
      have hqm := List.mem_of_getElem? hq
      have hok := h.out.ok.okE q hqm
      have hqE : entOf c q.1 = q.2 := getP_mem h.out.ok.rE.dist hqm _
      obtain ⟨gk, rfl, -, -, hgk, hcell⟩ := OS.at_ (hos4.out.below hg.out) (by rw [List.length_map, hn.out]; omega)
      have x0 := hcell k q.1 (by rw [List.getElem?_map, hq]; rfl)
      clear hcell
      have hwr : Hid (Gr w wr) := Lib.hid (hg4.out.trans hg.out)
      have hen := Lib.hid (entry_any lo g t x c wr (Lib.hid (h.out.gr hwr.out)) q.1 (key_le hok.2.1))
      rw [hqE] at hen
      obtain ⟨qk, qe⟩ := q
      simp only at x0 hen hok
      have htk : Hid (∀ A cc, (E1 ++ [Et.mk qe A cc]).map (·.e) = (c.E.take (k + 1)).map Prod.snd) := Lib.hid (fun A cc => by rw [List.take_add_one, hq, List.map_append, List.map_append, hE1.out]; rfl)
      have hl1 : Hid (E1.length = k) := Lib.hid (by have := congrArg List.length hE1.out; rw [List.length_map, List.length_map, List.length_take, hn.out] at this; omega)
      replace hq := Lib.hid hq
      replace hok := Lib.hid hok
      replace hqm := Lib.hid hqm
      replace hqE := Lib.hid hqE
      obtain ⟨np, hnp⟩ : ∃ m, qe.places.length = m := ⟨_, rfl⟩
      have hen2 : Hid (Calls Try.prog 21 #[.pointer (some ⟨g, 0, none⟩), .string (bs qk)] wr fun e w' => ∃ A cc, e = .returned (.tuple #[.agg #[.string (bs qe.key), .int .i64 qe.gen, .int .i64 qe.size, .string (bs qe.sum), .slice A np cc], .bool (hasP c.E qk)]) ∧ OP qe.places (.slice A np cc) wr.heap.size w' ∧ Gr wr w') := Lib.hid (by rw [← hnp]; exact hen.out)
      clear hen
      generalize hasP c.E qk = hb at hen2
      replace hnp := Lib.hid hnp
      go_upto_region 8 with (go_at_call 21; go_must (refine hen2.out.mono ?_); clear hen2; rintro e w5 ⟨A5, c5, rfl, hop5, hg5⟩; replace hop5 := Lib.hid hop5; replace hg5 := Lib.hid hg5; obtain ⟨W, hW⟩ : ∃ W, w5.alloc (.cells #[.string (bs qe.key), .int .i64 qe.gen, .int .i64 qe.size, .string (bs qe.sum), .slice A5 np c5] 45) = W := ⟨_, rfl⟩; obtain ⟨N5, hN5⟩ : ∃ N5, w5.heap.size = N5 := ⟨_, rfl⟩)
      have hgW : Gr w5 W := by rw [← hW]; exact Gr.alloc _ _
      have hbW : W.heap[N5]? = some (.cells #[.string (bs qe.key), .int .i64 qe.gen, .int .i64 qe.size, .string (bs qe.sum), .slice A5 np c5] 45 (0, 0)) := by rw [← hW, ← hN5]; exact heap_alloc_new w5 _
      have y0 := blk_cell (j := 0) hbW rfl
      have y1 := blk_cell (j := 1) hbW rfl
      have y2 := blk_cell (j := 2) hbW rfl
      have y3 := blk_cell (j := 3) hbW rfl
      have y4 := blk_cell (j := 4) hbW rfl
      have hlit : Hid (Reads _ _ 5 _ 1 _) := Lib.hid (Reads.entryLit W ⟨qe, A5, c5⟩)
      have hlit2 : Hid (Reads (W.alloc (.cells #[.string (bs qe.key), .int .i64 qe.gen, .int .i64 qe.size, .string (bs qe.sum), .slice A5 np c5] 45)) (W.alloc (.cells #[.string (bs qe.key), .int .i64 qe.gen, .int .i64 qe.size, .string (bs qe.sum), .slice A5 np c5] 45)).heap.size 5 (some ⟨W.heap.size, 0, none⟩) 1 (Et.mk qe A5 c5).cells) := Lib.hid (by rw [← hnp.out]; exact hlit.out)
      have hwW : Hid (Gr wr (W.alloc (.cells #[.string (bs qe.key), .int .i64 qe.gen, .int .i64 qe.size, .string (bs qe.sum), .slice A5 np c5] 45))) := Lib.hid ((hg5.out.trans hgW).trans (Gr.alloc _ _))
      have hop6 : Hid (OP qe.places (Et.mk qe A5 c5).v B4 (W.alloc (.cells #[.string (bs qe.key), .int .i64 qe.gen, .int .i64 qe.size, .string (bs qe.sum), .slice A5 np c5] 45))) := Lib.hid (by
        unfold Et.v
        simp only
        rw [hnp.out]
        exact ⟨row_more (row_below (row_below hop5.out.1 hgW) (Gr.alloc _ _)) (hlow.out _ hg.out), hop5.out.2⟩)
      have ho6 := Lib.hid (ho.out.gr hwW.out)
      have hg6 : Hid (Gr w4 (W.alloc (.cells #[.string (bs qe.key), .int .i64 qe.gen, .int .i64 qe.size, .string (bs qe.sum), .slice A5 np c5] 45))) := Lib.hid (hg.out.trans hwW.out)
      replace hbW := Lib.hid hbW
      replace hgW := Lib.hid hgW
      replace hW := Lib.hid hW
      replace hN5 := Lib.hid hN5
      clear x0 hlit ho
      go_wp2_with (at_builtin; go_must (refine wpl_appE rfl (.tmp 27) (.tmp 29) rfl B4 (.slice A1 k c1) E1 ⟨qe, A5, c5⟩ rfl ho6.out (some ⟨W.heap.size, 0, none⟩) 1 rfl hlit2.out hop6.out (by have := hl1.out; omega) (hlow.out _ hg6.out) ?_); intro v6 w6 ho7 hb6; obtain ⟨A6, c6, rfl, -, -⟩ := OE.form ho7; have hl6 : (E1 ++ [Et.mk qe A5 c5]).length = k + 1 := (by rw [List.length_append, hl1.out]; rfl); rw [hl6] at ho7 ⊢; replace ho7 := Lib.hid ho7; replace hb6 := Lib.hid hb6; clear hl6)
      go_roundw
      case rel => exact ⟨k + 1, A6, c6, _, by omega, rfl, by go_num, Lib.hid (htk.out A5 c5), ho7, Lib.hid (hgo.out _ _ hg6.out hb6.out)⟩
      case measure => simp [intOf]; omega
    · obtain rfl : k = n := by omega
      go_wp2_with fail
      go_ret
      have e : (c.E.take k) = c.E := List.take_of_length_le (by rw [hn.out]; exact Nat.le_refl _)
      have hE' := hE1.out
      rw [e] at hE'
      exact ⟨A1, c1, E1, rfl, hE', ⟨row_more ho.out.1 hB04.out, fun y hy => ⟨row_more (ho.out.2 y hy).1 hB04.out, (ho.out.2 y hy).2⟩⟩, hg4.out.trans hg.out⟩
end
end Go.Proofs.Ythboeoidgglcgaa
