/- cat: Notes. -/
import Derived.Test.YthboeoidgglcgaaGreatCtY
import Derived.Test.YthboeoidgglcgaaGreatCtE
import Derived.Test.YthboeoidgglcgaaGreatNt16
import Derived.RangeFuncWrites
import Derived.RangeFuncCalls
import Derived.Shelf.SlIter.Stops
import Derived.Sort.OwnSorted
namespace Go.Proofs.YthboeoidgglcgaaGreat
set_option linter.unusedVariables false
set_option linter.unusedSimpArgs false
open Go Go.RowKit Go.Maps Go.Sort Go.Shelf Go.Proofs
theorem genP_len {c : CtP} {t : Nat} (h : c.Few t) : (genP c).length ≤ t + 1 := by
  have h1 := begP_len c
  have h2 := h.2.2.1
  unfold genP
  rw [List.length_append]
  split <;> simp <;> omega
set_option maxRecDepth 10000 in
set_option maxHeartbeats 4000000 in
theorem notes_any (lo g t : Nat) (x : CtX) (c : CtP) (w : World) (h : Hid (Ca w lo g x c t)) (ht : t ≤ 1000) : Calls Tryz.prog 42 #[.pointer (some ⟨g, 0, none⟩)] w fun e w' => ∃ E' A cc, e = .returned (.slice A E'.length cc) ∧ E'.map (·.n) = notesP c ∧ OND E' (.slice A E'.length cc) w.heap.size w' ∧ Gr w w' := by
  obtain ⟨A, cp, hv⟩ : ∃ A cp, x.vs = .slice A x.W.length cp := by obtain ⟨A, cp, _, _, e, -⟩ := h.out.form; exact ⟨A, cp, e⟩
  have hbk := h.out.blk
  rw [hv] at hbk
  have c0 := blk_cell (j := 0) hbk rfl
  obtain ⟨n, hn⟩ : ∃ n, x.W.length = n := ⟨_, rfl⟩
  have hlen : n ≤ 1000 := by have h1 := h.out.few.1; rw [h.out.wc, List.length_map] at h1; omega
  have hnW : Hid (c.W.length = n) := Lib.hid (by rw [h.out.wc, List.length_map]; exact hn)
  rw [hn] at c0
  have hfew := Lib.hid h.out.few
  obtain ⟨B0, hB0⟩ : ∃ B0, w.heap.size = B0 := ⟨_, rfl⟩
  have hlow : Hid (∀ y, Gr w y → B0 ≤ y.heap.size) := Lib.hid (fun y hy => by rw [← hB0]; exact Below.size hy)
  have hgo : Hid (∀ y z, Gr w y → Below B0 y z → Gr w z) := Lib.hid (fun y z h1 h2 => by unfold Gr at h1 ⊢; rw [hB0] at h1 ⊢; exact h1.trans h2)
  rw [hB0]
  replace hB0 := Lib.hid hB0
  replace hbk := Lib.hid hbk
  replace hn := Lib.hid hn
  replace hv := Lib.hid hv
  go_enter Tryz.func42, Tryz.ntmps42
  go_wp2_with fail
  go_loopw [3, 17] (fun u z wr => ∃ (k : Nat) (A1 : Option Addr) (c1 : Nat) (E1 : List Ne), k ≤ n ∧ u = .slice A1 k c1 ∧ z = .int .i64 k ∧ Hid (E1.length = k) ∧ Hid (E1.map (·.n) = (c.W.take k).map n1) ∧ Hid (OND E1 (.slice A1 k c1) B0 wr) ∧ Hid (Gr w wr)) (fun _ z _ => (n - intOf z).toNat)
  case atStart => exact ⟨0, none, 0, [], Nat.zero_le _, rfl, rfl, Lib.hid rfl, Lib.hid rfl, Lib.hid (OND.nil_ _ _), Lib.hid (Gr.refl _)⟩
  case round =>
    obtain ⟨k, A1, c1, E1, hk, rfl, rfl, hm, hE1, ho, hg⟩ := hrel
    by_cases hlt : k < n
    · have ii : (k : Int) < (n : Int) := by omega
      obtain ⟨q, hq⟩ : ∃ q, x.W[k]? = some q := ⟨_, List.getElem?_eq_getElem (by rw [hn.out]; exact hlt)⟩
      obtain ⟨b, cp', hv', hb, x0, x1, -⟩ := (h.out.gr hg.out).stag hq
      rw [hv.out, hn.out] at hv'
      injection hv' with e1 _ e3
      subst e1 e3
      have hrow := (h.out.gr hg.out).wd q (List.mem_of_getElem? hq)
      obtain ⟨qk, qd, qA, qc⟩ := q
      unfold Wt.v at hrow
      simp only at x0 x1 hrow
      have hcq : c.W[k]? = some (qk, qd) := by rw [h.out.wc, List.getElem?_map, hq]; rfl
      have htk : Hid (∀ A5 c5, (E1 ++ [Ne.mk (n1 (qk, qd)) A5 c5 none 0]).map (·.n) = (c.W.take (k + 1)).map n1) := Lib.hid (fun A5 c5 => by rw [List.take_add_one, hcq, List.map_append, List.map_append, hE1.out]; rfl)
      have hd512 := (h.out.ok.okW _ (List.mem_of_getElem? hcq)).2
      simp only at hd512
      obtain ⟨nd, hnd⟩ : ∃ m, qd.length = m := ⟨_, rfl⟩
      rw [hnd] at x1 hd512 hrow
      obtain ⟨W, hW⟩ : ∃ W, wr.alloc (.cells #[.string (bs qk), .slice qA nd qc] 76) = W := ⟨_, rfl⟩
      obtain ⟨N, hN⟩ : ∃ N, wr.heap.size = N := ⟨_, rfl⟩
      have hgW : Gr wr W := by rw [← hW]; exact Gr.alloc _ _
      have hbW : W.heap[N]? = some (.cells #[.string (bs qk), .slice qA nd qc] 76 (0, 0)) := by rw [← hW, ← hN]; exact heap_alloc_new wr _
      replace hgW := Lib.hid hgW
      replace hbW := Lib.hid hbW
      replace hnd := Lib.hid hnd
      replace hcq := Lib.hid hcq
      replace hq := Lib.hid hq
      replace hd512 := Lib.hid hd512
      replace hrow := Lib.hid hrow
      go_upto_region 7 with (fail)
      (try rw [hW])
      replace hW := Lib.hid hW
      replace hN := Lib.hid hN
      clear x0 x1
      obtain ⟨wd, hwd⟩ : ∃ wd, wd = W.drew := ⟨_, rfl⟩
      have hgd : Gr W wd := by rw [hwd]; exact (Below.refl _ _).drew
      have hbd : Hid (wd.heap[N]? = some (.cells #[.string (bs qk), .slice qA nd qc] 76 (0, 0))) := Lib.hid (blk_below hbW.out hgd)
      have hgw : Hid (Gr w wd) := Lib.hid ((hg.out.trans hgW.out).trans hgd)
      have hod := Lib.hid ((ho.out.gr hgW.out).gr hgd)
      have hrd : Rd wd wd.heap.size qA qd := by
        have h1 := row_below (row_below hrow.out hgW.out) hgd
        rw [← hnd.out] at h1
        exact (OB.rd h1).1
      have hcl := Lib.hid (clone_any qA nd qc qd hnd.out (by have := hd512.out; omega) wd hrd)
      replace hrd := Lib.hid hrd
      clear hgd ho
      refine wpR_region (TChg B0 [37]) 9999 (by kernel_rfl) ?_
      (rw [← hwd]; replace hwd := Lib.hid hwd)
      refine wT (i := 0) (v := ?_) (TChg.road _ _) (some 21) rfl (fun w' hw' => ?_) ?_
      rotate_left
      · go_simp; with_reducible rfl
      simp only [Act.put, List.setIfInBounds_toArray, List.set_cons_zero, List.set_cons_succ]
      refine wT (i := 1) (v := ?_) (TChg.road _ _) (some 22) rfl (fun w' hw' => ?_) ?_
      rotate_left
      · go_simp; with_reducible rfl
      simp only [Act.put, List.setIfInBounds_toArray, List.set_cons_zero, List.set_cons_succ]
      refine wT (i := 2) (v := ?_) (TChg.road _ _) (some 23) rfl (fun w' hw' => ?_) ?_
      rotate_left
      · have q := blk_cell (j := 0) (hw'.block hbd.out (by decide)) rfl; go_simp; with_reducible rfl
      simp only [Act.put, List.setIfInBounds_toArray, List.set_cons_zero, List.set_cons_succ]
      refine wT (i := 3) (v := ?_) (TChg.road _ _) (some 24) rfl (fun w' hw' => ?_) ?_
      rotate_left
      · go_simp; with_reducible rfl
      simp only [Act.put, List.setIfInBounds_toArray, List.set_cons_zero, List.set_cons_succ]
      refine wT (i := 4) (v := ?_) (TChg.road _ _) (some 25) rfl (fun w' hw' => ?_) ?_
      rotate_left
      · have q := blk_cell (j := 1) (hw'.block hbd.out (by decide)) rfl; go_simp; with_reducible rfl
      simp only [Act.put, List.setIfInBounds_toArray, List.set_cons_zero, List.set_cons_succ]
      refine wpR_one 5 rfl (by kernel_rfl) (by kernel_rfl) (fun K hK => ?_)
      go_simp
      refine hcl.out.mono ?_
      rintro e w5 ⟨v5, rfl, ho5, hb5⟩
      refine hK _ _ (fun _ => TChg.of_below hb5) ?_
      clear hK K
      clear hcl
      obtain ⟨A5, c5, rfl, -⟩ := ho5.form
      rw [hnd.out] at ho5 ⊢
      have hg5 : Hid (Gr w w5) := Lib.hid (hgw.out.trans hb5)
      have ho5' := Lib.hid ((hod.out.gr hb5).gr (Gr.alloc w5 (.cells #[.int .i64 1, .string (bs qk), .int .i64 0, .int .i64 0, .slice A5 nd c5, .string ⟨#[]⟩, .int .i64 0, .slice none 0 0] 37)))
      have hr5 : Hid (Reads (w5.alloc (.cells #[.int .i64 1, .string (bs qk), .int .i64 0, .int .i64 0, .slice A5 nd c5, .string ⟨#[]⟩, .int .i64 0, .slice none 0 0] 37)) (w5.alloc (.cells #[.int .i64 1, .string (bs qk), .int .i64 0, .int .i64 0, .slice A5 nd c5, .string ⟨#[]⟩, .int .i64 0, .slice none 0 0] 37)).heap.size 8 (some ⟨w5.heap.size, 0, none⟩) 1 (flatN [Ne.mk (n1 (qk, qd)) A5 c5 none 0])) := Lib.hid (Reads.note1 w5 _ _ (by rw [← hnd.out]; rfl))
      have hn5 : Hid (ND [Ne.mk (n1 (qk, qd)) A5 c5 none 0] B0 (w5.alloc (.cells #[.int .i64 1, .string (bs qk), .int .i64 0, .int .i64 0, .slice A5 nd c5, .string ⟨#[]⟩, .int .i64 0, .slice none 0 0] 37))) := Lib.hid (fun y hy => by rw [List.mem_singleton] at hy; subst hy; refine ⟨?_, OP.nil_ _ _⟩; show OB _ B0 (.slice A5 qd.length c5) qd; rw [hnd.out]; exact row_below (row_more ho5 (hlow.out _ hgw.out)) (Gr.alloc _ _))
      have hw5 : Hid (Gr w (w5.alloc (.cells #[.int .i64 1, .string (bs qk), .int .i64 0, .int .i64 0, .slice A5 nd c5, .string ⟨#[]⟩, .int .i64 0, .slice none 0 0] 37))) := Lib.hid (hg5.out.trans (Gr.alloc _ _))
      have hlm : Hid (E1.length + 1 ≤ 1000000000) := Lib.hid (by have := hm.out; omega)
      replace hb5 := Lib.hid hb5
      clear ho5 hod
      try simp only [Act.put, List.setIfInBounds_toArray, List.set_cons_zero, List.set_cons_succ]
      refine wT (i := 6) (v := ?_) (TChg.road _ _) (some 27) rfl (fun w' hw' => ?_) ?_
      rotate_left
      · go_simp; with_reducible rfl
      simp only [Act.put, List.setIfInBounds_toArray, List.set_cons_zero, List.set_cons_succ]
      refine wpR_one 7 rfl (by kernel_rfl) (by kernel_rfl) (fun K hK => ?_)
      go_simp
      refine hK _ _ (fun _ => TChg.of_alloc _ _) ?_
      clear hK K
      try simp only [Act.put, List.setIfInBounds_toArray, List.set_cons_zero, List.set_cons_succ]
      refine wpR_one 8 rfl (by kernel_rfl) (by kernel_rfl) (fun K hK => ?_)
      refine wp_aNN (.tmp 21) (.tmp 28) rfl B0 (.slice A1 k c1) E1 [Ne.mk (n1 (qk, qd)) A5 c5 none 0] rfl ho5'.out _ (some ⟨w5.heap.size, 0, none⟩) 1 1 rfl rfl hr5.out hn5.out hlm.out (hlow.out _ hw5.out) ?_
      intro v6 w6 ho6 hg6 hb6
      refine hK _ _ (fun _ => TChg.of_row (lo := B0) ho5'.out.1.row hg6 (by simp)) ?_
      clear hK K
      replace hb6 := Lib.hid (hgo.out _ _ hw5.out hb6)
      obtain ⟨A6, c6, rfl, -, -⟩ := OND.form ho6
      have hl6 : (E1 ++ [Ne.mk (n1 (qk, qd)) A5 c5 none 0]).length = k + 1 := (by rw [List.length_append, hm.out]; rfl)
      rw [hl6] at ho6 ⊢
      replace ho6 := Lib.hid ho6
      replace hl6 := Lib.hid hl6
      clear hg6 ho5' hr5 hn5
      try simp only [Act.put, List.setIfInBounds_toArray, List.set_cons_zero, List.set_cons_succ]
      refine wT (i := 9) (v := ?_) (TChg.road _ _) (some 3) rfl (fun w' hw' => ?_) ?_
      rotate_left
      · go_simp; with_reducible rfl
      simp only [Act.put, List.setIfInBounds_toArray, List.set_cons_zero, List.set_cons_succ]
      refine wpR_done (by kernel_rfl) ?_ _
      go_wp2_with fail
      go_roundw
      case rel => exact ⟨k + 1, A6, c6, _, by omega, rfl, by go_num, hl6, Lib.hid (htk.out A5 c5), ho6, hb6⟩
      case measure => simp [intOf]; omega
    · obtain rfl : k = n := by omega
      have e : (c.W.take k) = c.W := List.take_of_length_le (by rw [hnW.out]; exact Nat.le_refl _)
      rw [e] at hE1
      clear e
      have hgn := Lib.hid (genNotes_any lo g t x c wr (Lib.hid (h.out.gr hg.out)) ht)
      have hlg : Hid ((genP c).length ≤ 1001) := Lib.hid (Nat.le_trans (genP_len hfew.out) (by omega))
      have hL2 : Hid ((E1 ++ (genP c).map e4).map (·.n) = c.W.map n1 ++ (genP c).map n4) := Lib.hid (by rw [List.map_append, hE1.out, List.map_map]; rfl)
      have hll : Hid ((genP c).length = (genP c).length) := Lib.hid rfl
      generalize hgP : (genP c).length = gl at hgn hlg
      replace hgP := Lib.hid hgP
      go_upto_region 10 with (first
        | (go_at_call 60; go_must (refine hgn.out.mono ?_); clear hgn; rintro e w5 ⟨A5, c5, rfl, ho5, hg5⟩; have hw5 : Hid (Gr w w5) := Lib.hid (hg.out.trans hg5); have hr5 : Hid (Reads w5 w5.heap.size 8 A5 gl (flatN ((genP c).map e4))) := (Lib.hid (by unfold O4 at ho5; rw [hgP.out] at ho5; exact Reads.of_own ho5)); have hn5 : Hid (ND ((genP c).map e4) B0 w5) := Lib.hid (ho5.ond.2.lower (hlow.out _ hg.out)); have ho5' : Hid (OND E1 (.slice A1 k c1) B0 w5) := Lib.hid (ho.out.gr hg5); clear ho5 hg5 ho)
        | (at_builtin; go_must (refine wpl_aNN rfl (.tmp 31) (.tmp 33) rfl B0 (.slice A1 k c1) E1 ((genP c).map e4) rfl ho5'.out w5.heap.size A5 gl c5 (by rw [List.length_map]; exact hgP.out) rfl hr5.out hn5.out (by have := hm.out; have := hlg.out; omega) (hlow.out _ hw5.out) ?_); intro v6 w6 ho6 hg6 hb6; replace hb6 := Lib.hid (hgo.out _ _ hw5.out hb6); clear hg6 hr5 hn5 ho5'; obtain ⟨A6, c6, rfl, -, -⟩ := OND.form ho6; have hm6 : (E1 ++ (genP c).map e4).length = k + gl := (by rw [List.length_append, List.length_map, hm.out, hgP.out]); rw [hm6] at ho6 ⊢; replace ho6 := Lib.hid ho6; replace hm6 := Lib.hid hm6))
      obtain ⟨E2, hE2⟩ : ∃ E2, E2 = E1 ++ (genP c).map e4 := ⟨_, rfl⟩
      rw [← hE2] at ho6 hm6 hL2
      obtain ⟨m2, hm2⟩ : ∃ m2, m2 = k + gl := ⟨_, rfl⟩
      rw [← hm2] at ho6 hm6 ⊢
      have hm2l : Hid (m2 ≤ 2001) := Lib.hid (by have := hlg.out; omega)
      clear hE2 hm2 hE1 hm hg hgP hll
      have hen := Lib.hid (entries_any lo g t x c w6 (Lib.hid (h.out.gr hb6.out)) ht)
      have hlE : Hid (c.E.length ≤ 1000) := Lib.hid (by have h1 := hfew.out.2.1; omega)
      generalize hne : c.E.length = ne at hen hlE
      replace hne := Lib.hid hne
      go_wp2_with (go_at_call 36; go_must (refine hen.out.mono ?_); clear hen; rintro e w7 ⟨A3, c3, E3, rfl, hE3, hoe, hg7⟩; have hw7 : Hid (Gr w w7) := Lib.hid (hb6.out.trans hg7); have ho7 : Hid (OND E2 (.slice A6 m2 c6) B0 w7) := Lib.hid (ho6.out.gr hg7); have hoe7 : Hid (OE E3 (.slice A3 ne c3) B0 w7) := (Lib.hid ⟨row_more hoe.1 (hlow.out _ hb6.out), fun y hy => ⟨row_more (hoe.2 y hy).1 (hlow.out _ hb6.out), (hoe.2 y hy).2⟩⟩); replace hE3 := Lib.hid hE3; clear hoe hg7 ho6 hb6)
      have hl3 : Hid (E3.length = ne) := Lib.hid (by have := congrArg List.length hE3.out; rw [List.length_map, List.length_map] at this; exact this.trans hne.out)
      go_loopw [3, 38] (fun u z wr => ∃ (k3 m : Nat) (A1 : Option Addr) (c1 : Nat) (E1 : List Ne), k3 ≤ ne ∧ u = .slice A1 m c1 ∧ z = .int .i64 k3 ∧ Hid (E1.length = m) ∧ Hid (m = m2 + k3) ∧ Hid (E1.map (·.n) = (c.W.map n1 ++ (genP c).map n4) ++ ((c.E.take k3).map Prod.snd).map n2) ∧ Hid (OND E1 (.slice A1 m c1) B0 wr) ∧ Hid (OE E3 (.slice A3 ne c3) B0 wr) ∧ Hid (Gr w wr)) (fun _ z _ => (ne - intOf z).toNat)
      case atStart => exact ⟨0, m2, A6, c6, E2, Nat.zero_le _, rfl, rfl, hm6, Lib.hid rfl, Lib.hid (by rw [hL2.out]; simp), ho7, hoe7, hw7⟩
      case round =>
        obtain ⟨k3, m, A1, c1, E1, hk3, rfl, rfl, hm, hmk, hE1, ho, hoe, hg⟩ := hrel
        clear ho7 hoe7
        by_cases hlt3 : k3 < ne
        · have ii : (k3 : Int) < (ne : Int) := by omega
          have hlE' := hlE.out
          obtain ⟨q, hq⟩ : ∃ q, E3[k3]? = some q := ⟨_, List.getElem?_eq_getElem (by rw [hl3.out]; exact hlt3)⟩
          have hcq : (c.E.map Prod.snd)[k3]? = some q.e := by rw [← hE3.out, List.getElem?_map, hq]; rfl
          have htk : Hid (((c.E.take (k3 + 1)).map Prod.snd).map n2 = ((c.E.take k3).map Prod.snd).map n2 ++ [n2 q.e]) := Lib.hid (by rw [show (c.E.take (k3 + 1)).map Prod.snd = (c.E.map Prod.snd).take (k3 + 1) from List.map_take .., show (c.E.take k3).map Prod.snd = (c.E.map Prod.snd).take k3 from List.map_take .., List.take_add_one, hcq, List.map_append]; rfl)
          have hrow := hoe.out.1
          rw [hl3.out] at hrow
          obtain ⟨b, cp', hv', -, -, -, hb, -, -, hcell, -⟩ := row_at hrow (by omega)
          injection hv' with e1 _ e3
          subst e1 e3
          have x0 := hcell _ _ ((flatE_at hq 0 (by decide)).trans rfl)
          have x1 := hcell _ _ ((flatE_at hq 1 (by decide)).trans rfl)
          have x2 := hcell _ _ ((flatE_at hq 2 (by decide)).trans rfl)
          have x3 := hcell _ _ ((flatE_at hq 3 (by decide)).trans rfl)
          have x4 := hcell _ _ ((flatE_at hq 4 (by decide)).trans rfl)
          have hopl := hoe.out.2 q (List.mem_of_getElem? hq)
          clear hcell
          obtain ⟨qe, qA, qc⟩ := q
          unfold Et.v at x4 hopl
          simp only [Nat.add_zero] at x0 x1 x2 x3 x4 hopl htk
          obtain ⟨np, hnp⟩ : ∃ m, qe.places.length = m := ⟨_, rfl⟩
          rw [hnp] at x4 hopl
          obtain ⟨W, hW⟩ : ∃ W, wr.alloc (.cells #[.string (bs qe.key), .int .i64 qe.gen, .int .i64 qe.size, .string (bs qe.sum), .slice qA np qc] 43) = W := ⟨_, rfl⟩
          obtain ⟨N, hN⟩ : ∃ N, wr.heap.size = N := ⟨_, rfl⟩
          have hgW : Gr wr W := by rw [← hW]; exact Gr.alloc _ _
          have hbW : W.heap[N]? = some (.cells #[.string (bs qe.key), .int .i64 qe.gen, .int .i64 qe.size, .string (bs qe.sum), .slice qA np qc] 43 (0, 0)) := by rw [← hW, ← hN]; exact heap_alloc_new wr _
          have y0 := blk_cell (j := 0) hbW rfl
          have y1 := blk_cell (j := 1) hbW rfl
          have y2 := blk_cell (j := 2) hbW rfl
          have y3 := blk_cell (j := 3) hbW rfl
          have y4 := blk_cell (j := 4) hbW rfl
          have hr9 : Hid (Reads (W.alloc (.cells #[.int .i64 2, .string (bs qe.key), .int .i64 qe.gen, .int .i64 0, .slice none 0 0, .string (bs qe.sum), .int .i64 qe.size, .slice qA np qc] 37)) (W.alloc (.cells #[.int .i64 2, .string (bs qe.key), .int .i64 qe.gen, .int .i64 0, .slice none 0 0, .string (bs qe.sum), .int .i64 qe.size, .slice qA np qc] 37)).heap.size 8 (some ⟨W.heap.size, 0, none⟩) 1 (flatN [Ne.mk (n2 qe) none 0 qA qc])) := Lib.hid (Reads.note1 W _ _ (by rw [← hnp]; rfl))
          have hg9 : Hid (Gr wr (W.alloc (.cells #[.int .i64 2, .string (bs qe.key), .int .i64 qe.gen, .int .i64 0, .slice none 0 0, .string (bs qe.sum), .int .i64 qe.size, .slice qA np qc] 37))) := Lib.hid (hgW.trans (Gr.alloc _ _))
          have hw9 : Hid (Gr w (W.alloc (.cells #[.int .i64 2, .string (bs qe.key), .int .i64 qe.gen, .int .i64 0, .slice none 0 0, .string (bs qe.sum), .int .i64 qe.size, .slice qA np qc] 37))) := Lib.hid (hg.out.trans hg9.out)
          have hn9 : Hid (ND [Ne.mk (n2 qe) none 0 qA qc] B0 (W.alloc (.cells #[.int .i64 2, .string (bs qe.key), .int .i64 qe.gen, .int .i64 0, .slice none 0 0, .string (bs qe.sum), .int .i64 qe.size, .slice qA np qc] 37))) := Lib.hid (fun y hy => by
            rw [List.mem_singleton] at hy
            subst hy
            refine ⟨OB.nil_ _ _, ?_⟩
            show OP qe.places (.slice qA qe.places.length qc) B0 _
            rw [hnp]
            exact ⟨row_below hopl.1 hg9.out, hopl.2⟩)
          have ho9 := Lib.hid (ho.out.gr hg9.out)
          have hoe9 := Lib.hid (hoe.out.gr hg9.out)
          have hlm : Hid (E1.length + 1 ≤ 1000000000) := Lib.hid (by have := hm.out; have := hmk.out; have := hm2l.out; have := hlE.out; omega)
          replace hgW := Lib.hid hgW
          replace hbW := Lib.hid hbW
          replace hnp := Lib.hid hnp
          replace hcq := Lib.hid hcq
          replace hq := Lib.hid hq
          replace hrow := Lib.hid hrow
          replace hopl := Lib.hid hopl
          clear ho hoe hg9 hg
          go_upto_region 13 with (fail)
          (try rw [hW])
          clear x0 x1 x2 x3 x4
          replace hW := Lib.hid hW
          replace hN := Lib.hid hN
          go_wp2_with (at_builtin; go_must (refine wpl_aNN rfl (.tmp 42) (.tmp 54) rfl B0 (.slice A1 m c1) E1 [Ne.mk (n2 qe) none 0 qA qc] rfl ho9.out _ (some ⟨W.heap.size, 0, none⟩) 1 1 rfl rfl hr9.out hn9.out hlm.out (hlow.out _ hw9.out) ?_); intro v8 w8 ho8 hg8 hb8; replace hb8 := Lib.hid (hgo.out _ _ hw9.out hb8); have hoe8 := Lib.hid (hoe9.out.own ho9.out.1 hg8); obtain ⟨A8, c8, rfl, -, -⟩ := OND.form ho8; have hl8 : (E1 ++ [Ne.mk (n2 qe) none 0 qA qc]).length = m + 1 := (by rw [List.length_append, hm.out]; rfl); rw [hl8] at ho8 ⊢; replace ho8 := Lib.hid ho8; replace hl8 := Lib.hid hl8; clear hg8)
          go_roundw
          case rel => exact ⟨k3 + 1, m + 1, A8, c8, _, by omega, rfl, by go_num, hl8, Lib.hid (by have := hmk.out; omega), Lib.hid (by rw [List.map_append, hE1.out, htk.out, List.append_assoc]; rfl), ho8, hoe8, hb8⟩
          case measure => simp [intOf]; omega
        · obtain rfl : k3 = ne := by omega
          have e : (c.E.take k3) = c.E := List.take_of_length_le (by rw [hne.out]; exact Nat.le_refl _)
          rw [e] at hE1
          clear e hoe
          have htm := Lib.hid (tombs_any lo g t x c wr (Lib.hid (h.out.gr hg.out)) ht)
          have hlT : Hid (c.T.length ≤ 1000) := Lib.hid (by have h1 := hfew.out.2.2.2.1; omega)
          generalize hnt : c.T.length = nt at htm hlT
          have hnt2 : ((tombsN c.T).map neN).length = nt := by unfold tombsN; rw [List.length_map, List.length_map]; exact hnt
          replace hnt := Lib.hid hnt
          replace hnt2 := Lib.hid hnt2
          have hL4 : Hid ((E1 ++ (tombsN c.T).map neN).map (·.n) = ((c.W.map n1 ++ (genP c).map n4) ++ (c.E.map Prod.snd).map n2) ++ tombsN c.T) := Lib.hid (by
            have e0 : ((tombsN c.T).map neN).map (·.n) = tombsN c.T := by
              rw [List.map_map]
              exact List.map_id _
            rw [List.map_append, hE1.out, e0])
          go_upto_region 16 with (first
            | (go_at_call 38; go_must (refine htm.out.mono ?_); clear htm; rintro e w9 ⟨A5, c5, rfl, ho5, hg5⟩; have hw9 : Hid (Gr w w9) := Lib.hid (hg.out.trans hg5); have hr9 : Hid (Reads w9 w9.heap.size 8 A5 nt (flatN ((tombsN c.T).map neN))) := (Lib.hid (by have := ho5.row; rw [hnt2.out] at this; exact Reads.of_own this)); have hn9 : Hid (ND ((tombsN c.T).map neN) B0 w9) := (Lib.hid (ND.neN (fun n hn => by unfold tombsN at hn; obtain ⟨e, -, rfl⟩ := List.mem_map.mp hn; exact ⟨rfl, rfl⟩) _ _)); have ho9 : Hid (OND E1 (.slice A1 m c1) B0 w9) := Lib.hid (ho.out.gr hg5); clear ho5 hg5 ho)
            | (at_builtin; go_must (refine wpl_aNN rfl (.tmp 57) (.tmp 59) rfl B0 (.slice A1 m c1) E1 ((tombsN c.T).map neN) rfl ho9.out w9.heap.size A5 nt c5 hnt2.out rfl hr9.out hn9.out (by have := hm.out; have := hmk.out; have := hm2l.out; have := hlE.out; have := hlT.out; omega) (hlow.out _ hw9.out) ?_); intro v10 w10 ho10 hg10 hb10; replace hb10 := Lib.hid (hgo.out _ _ hw9.out hb10); clear hg10 hr9 hn9 ho9; obtain ⟨A10, c10, rfl, -, -⟩ := OND.form ho10; have hm10 : (E1 ++ (tombsN c.T).map neN).length = m + nt := (by rw [List.length_append, hm.out, hnt2.out]); rw [hm10] at ho10 ⊢; replace ho10 := Lib.hid ho10; replace hm10 := Lib.hid hm10))
          obtain ⟨E4, hE4⟩ : ∃ E4, E4 = E1 ++ (tombsN c.T).map neN := ⟨_, rfl⟩
          rw [← hE4] at ho10 hm10 hL4
          obtain ⟨m4, hm4⟩ : ∃ m4, m4 = m + nt := ⟨_, rfl⟩
          rw [← hm4] at ho10 hm10 ⊢
          have hm4l : Hid (m4 ≤ 4001) := Lib.hid (by have := hmk.out; have := hm2l.out; have := hlE.out; have := hlT.out; omega)
          clear hE4 hm4 hE1 hm hg hmk
          have hcR := Lib.hid (h.out.gr hb10.out)
          have g4 := blk_cell (j := 4) hcR.out.blk rfl
          have hlR : Hid (c.R.length ≤ 1000) := Lib.hid (by have h1 := hfew.out.2.2.2.2; omega)
          have hrM : (rM c.R).map Prod.fst = c.R := by
            unfold rM; rw [List.map_map]
            show c.R.map id = _
            exact List.map_id _
          have hK := Lib.hid (fun W => keysR_any (some x.br) W)
          have hS := Lib.hid (sortedR_any x.br t (rM c.R) w10 hcR.out.mr (by unfold rM; rw [List.length_map]; have := hlR.out; omega))
          rw [hrM, show (rM c.R).length = c.R.length from by unfold rM; rw [List.length_map]] at hS
          generalize hnr : c.R.length = nr at hS hlR
          have hnz : (sortZ c.R).length = nr := by rw [sortZ_len]; exact hnr
          replace hnr := Lib.hid hnr
          replace hnz := Lib.hid hnz
          replace hrM := Lib.hid hrM
          obtain ⟨B1, hB1⟩ : ∃ B1, B1 = w10.heap.size := ⟨_, rfl⟩
          have hS2 : Hid (Calls Tryz.prog 61 #[.func (.func 75) #[] #[.pointer (some ⟨w10.heap.size, 0, none⟩)]] (w10.alloc (.cells #[.map (some x.br)] 52)) fun e w' => ∃ A c2, e = .returned (.slice A nr c2) ∧ OZ (sortZ c.R) (.slice A nr c2) B1 w' ∧ Gr w10 w') := Lib.hid (by rw [hB1]; exact hS.out)
          have hB1l : Hid (B0 ≤ B1) := Lib.hid (by rw [hB1]; exact hlow.out _ hb10.out)
          replace hB1 := Lib.hid hB1
          clear hS
          go_wp2_with (first
            | (go_at_call 62; go_must (refine (hK.out _).mono ?_); rintro e w' ⟨rfl, rfl⟩)
            | (go_at_call 61; go_must (refine hS2.out.mono ?_); clear hK hS2; rintro e w11 ⟨A5, c5, rfl, hoz, hg11⟩; have hw11 : Hid (Gr w w11) := Lib.hid (hb10.out.trans hg11); have ho11 : Hid (OND E4 (.slice A10 m4 c10) B0 w11) := Lib.hid (ho10.out.gr hg11); have hoz11 : Hid (OZ (sortZ c.R) (.slice A5 nr c5) B0 w11) := Lib.hid (row_more hoz hB1l.out); clear hoz hg11 ho10 hb10))
          clear g4
          go_loopw [3, 68] (fun u z wr => ∃ (k5 m : Nat) (A1 : Option Addr) (c1 : Nat) (E1 : List Ne), k5 ≤ nr ∧ u = .slice A1 m c1 ∧ z = .int .i64 k5 ∧ Hid (E1.length = m) ∧ Hid (m = m4 + k5) ∧ Hid (E1.map (·.n) = (((c.W.map n1 ++ (genP c).map n4) ++ (c.E.map Prod.snd).map n2) ++ tombsN c.T) ++ ((sortZ c.R).take k5).map n5) ∧ Hid (OND E1 (.slice A1 m c1) B0 wr) ∧ Hid (OZ (sortZ c.R) (.slice A5 nr c5) B0 wr) ∧ Hid (Gr w wr)) (fun _ z _ => (nr - intOf z).toNat)
          case atStart => exact ⟨0, m4, A10, c10, E4, Nat.zero_le _, rfl, rfl, hm10, Lib.hid rfl, Lib.hid (by rw [hL4.out]; simp), ho11, hoz11, hw11⟩
          case round =>
            obtain ⟨k5, m, A1, c1, E1, hk5, rfl, rfl, hm, hmk, hE1, ho, hoz, hg⟩ := hrel
            clear ho11 hoz11
            by_cases hlt5 : k5 < nr
            · have ii : (k5 : Int) < (nr : Int) := by omega
              have hlR' := hlR.out
              obtain ⟨z, hz⟩ : ∃ z, (sortZ c.R)[k5]? = some z := ⟨_, List.getElem?_eq_getElem (by rw [hnz.out]; exact hlt5)⟩
              have htk : Hid (((sortZ c.R).take (k5 + 1)).map n5 = ((sortZ c.R).take k5).map n5 ++ [n5 z]) := Lib.hid (by rw [List.take_add_one, hz, List.map_append]; rfl)
              have hrow := hoz.out
              unfold OZ at hrow
              rw [hnz.out] at hrow
              obtain ⟨b, cp', hv', -, -, -, hb, -, -, hcell, -⟩ := row_at hrow (by omega)
              injection hv' with e1 _ e3
              subst e1 e3
              have x0 := hcell k5 (.int .i64 z) (by rw [List.getElem?_map, hz]; rfl)
              have hr9 : Hid (Reads (wr.alloc (.cells #[.int .i64 5, .string ⟨#[]⟩, .int .i64 0, .int .i64 z, .slice none 0 0, .string ⟨#[]⟩, .int .i64 0, .slice none 0 0] 37)) (wr.alloc (.cells #[.int .i64 5, .string ⟨#[]⟩, .int .i64 0, .int .i64 z, .slice none 0 0, .string ⟨#[]⟩, .int .i64 0, .slice none 0 0] 37)).heap.size 8 (some ⟨wr.heap.size, 0, none⟩) 1 (flatN [neN (n5 z)])) := Lib.hid (Reads.note1 wr _ _ rfl)
              have hg9 : Gr wr (wr.alloc (.cells #[.int .i64 5, .string ⟨#[]⟩, .int .i64 0, .int .i64 z, .slice none 0 0, .string ⟨#[]⟩, .int .i64 0, .slice none 0 0] 37)) := Gr.alloc _ _
              have hw9 : Hid (Gr w (wr.alloc (.cells #[.int .i64 5, .string ⟨#[]⟩, .int .i64 0, .int .i64 z, .slice none 0 0, .string ⟨#[]⟩, .int .i64 0, .slice none 0 0] 37))) := Lib.hid (hg.out.trans hg9)
              have hn9 : Hid (ND [neN (n5 z)] B0 (wr.alloc (.cells #[.int .i64 5, .string ⟨#[]⟩, .int .i64 0, .int .i64 z, .slice none 0 0, .string ⟨#[]⟩, .int .i64 0, .slice none 0 0] 37))) := Lib.hid (fun y hy => by
                rw [List.mem_singleton] at hy
                subst hy
                exact ⟨OB.nil_ _ _, OP.nil_ _ _⟩)
              have ho9 := Lib.hid (ho.out.gr hg9)
              have hoz9 := Lib.hid (row_below hrow hg9)
              have hlm : Hid (E1.length + 1 ≤ 1000000000) := Lib.hid (by have := hm.out; have := hmk.out; have := hm4l.out; have := hlR.out; omega)
              replace hz := Lib.hid hz
              replace hrow := Lib.hid hrow
              clear ho hoz hg9 hg hcell
              go_wp2_with (at_builtin; go_must (refine wpl_aNN rfl (.tmp 72) (.tmp 75) rfl B0 (.slice A1 m c1) E1 [neN (n5 z)] rfl ho9.out _ (some ⟨wr.heap.size, 0, none⟩) 1 1 rfl rfl hr9.out hn9.out hlm.out (hlow.out _ hw9.out) ?_); intro v8 w8 ho8 hg8 hb8; replace hb8 := Lib.hid (hgo.out _ _ hw9.out hb8); have hoz8 := row_on hoz9.out (by decide) ho9.out.1 hg8; obtain ⟨A8, c8, rfl, -, -⟩ := OND.form ho8; have hl8 : (E1 ++ [neN (n5 z)]).length = m + 1 := (by rw [List.length_append, hm.out]; rfl); rw [hl8] at ho8 ⊢; replace ho8 := Lib.hid ho8; replace hl8 := Lib.hid hl8; replace hoz8 := Lib.hid hoz8; clear hg8)
              go_roundw
              case rel => exact ⟨k5 + 1, m + 1, A8, c8, _, by omega, rfl, by go_num, hl8, Lib.hid (by have := hmk.out; omega), Lib.hid (by rw [List.map_append, hE1.out, htk.out, List.append_assoc _ (((sortZ c.R).take k5).map n5)]; rfl), ho8, Lib.hid (by unfold OZ; rw [hnz.out]; exact hoz8.out), hb8⟩
              case measure => simp [intOf]; omega
            · obtain rfl : k5 = nr := by omega
              have e : (sortZ c.R).take k5 = sortZ c.R := List.take_of_length_le (by rw [hnz.out]; exact Nat.le_refl _)
              rw [e] at hE1
              go_wp2_with fail
              go_ret
              rw [← hm.out] at ho ⊢
              exact ⟨E1, A1, c1, rfl, hE1.out, ho.out, hg.out⟩
end Go.Proofs.YthboeoidgglcgaaGreat
/- cat: what no catalog answers. -/
namespace Go.Proofs.YthboeoidgglcgaaGreat
set_option linter.unusedVariables false
set_option linter.unusedSimpArgs false
open Go Go.RowKit Go.Maps Go.Sort Go.Shelf Go.Proofs
set_option maxRecDepth 10000 in
theorem nil_Notes (w : World) : Calls Tryz.prog 42 #[.pointer none] w fun e w' => e = .returned (.slice none 0 0) ∧ Gr w w' := by
  go_enter Tryz.func42, Tryz.ntmps42
  go_wp2_with fail
  go_ret
  exact ⟨by first | rfl | simp, by first | exact Gr.refl _ | exact Gr.alloc _ _ | exact (Gr.alloc _ _).trans (Gr.alloc _ _)⟩
set_option maxRecDepth 10000 in
theorem nil_Tombs (w : World) : Calls Tryz.prog 38 #[.pointer none] w fun e w' => e = .returned (.slice none 0 0) ∧ Gr w w' := by
  go_enter Tryz.func38, Tryz.ntmps38
  go_wp2_with fail
  go_ret
  exact ⟨by first | rfl | simp, by first | exact Gr.refl _ | exact Gr.alloc _ _ | exact (Gr.alloc _ _).trans (Gr.alloc _ _)⟩
set_option maxRecDepth 10000 in
theorem nil_Entries (w : World) : Calls Tryz.prog 36 #[.pointer none] w fun e w' => e = .returned (.slice none 0 0) ∧ Gr w w' := by
  go_enter Tryz.func36, Tryz.ntmps36
  go_wp2_with fail
  go_ret
  exact ⟨by first | rfl | simp, by first | exact Gr.refl _ | exact Gr.alloc _ _ | exact (Gr.alloc _ _).trans (Gr.alloc _ _)⟩
set_option maxRecDepth 10000 in
theorem nil_Staged (w : World) : Calls Tryz.prog 32 #[.pointer none] w fun e w' => e = .returned (.slice none 0 0) ∧ Gr w w' := by
  go_enter Tryz.func32, Tryz.ntmps32
  go_wp2_with fail
  go_ret
  exact ⟨by first | rfl | simp, by first | exact Gr.refl _ | exact Gr.alloc _ _ | exact (Gr.alloc _ _).trans (Gr.alloc _ _)⟩
set_option maxRecDepth 10000 in
theorem nil_Keys (w : World) : Calls Tryz.prog 33 #[.pointer none] w fun e w' => e = .returned (.slice none 0 0) ∧ Gr w w' := by
  go_enter Tryz.func33, Tryz.ntmps33
  go_wp2_with fail
  go_ret
  exact ⟨by first | rfl | simp, by first | exact Gr.refl _ | exact Gr.alloc _ _ | exact (Gr.alloc _ _).trans (Gr.alloc _ _)⟩
set_option maxRecDepth 10000 in
theorem nil_Used (w : World) : Calls Tryz.prog 40 #[.pointer none] w fun e w' => e = .returned (.int .i64 0) ∧ Gr w w' := by
  go_enter Tryz.func40, Tryz.ntmps40
  go_wp2_with fail
  go_ret
  exact ⟨by first | rfl | simp, by first | exact Gr.refl _ | exact Gr.alloc _ _ | exact (Gr.alloc _ _).trans (Gr.alloc _ _)⟩
set_option maxRecDepth 10000 in
theorem nil_Gen (w : World) : Calls Tryz.prog 39 #[.pointer none] w fun e w' => e = .returned (.int .i64 0) ∧ Gr w w' := by
  go_enter Tryz.func39, Tryz.ntmps39
  go_wp2_with fail
  go_ret
  exact ⟨by first | rfl | simp, by first | exact Gr.refl _ | exact Gr.alloc _ _ | exact (Gr.alloc _ _).trans (Gr.alloc _ _)⟩
set_option maxRecDepth 10000 in
theorem nil_Retired (z : Int) (w : World) : Calls Tryz.prog 29 #[.pointer none, .int .i64 z] w fun e w' => e = .returned (.bool false) ∧ Gr w w' := by
  go_enter Tryz.func29, Tryz.ntmps29
  go_wp2_with fail
  go_ret
  exact ⟨by first | rfl | simp, by first | exact Gr.refl _ | exact Gr.alloc _ _ | exact (Gr.alloc _ _).trans (Gr.alloc _ _)⟩
set_option maxRecDepth 10000 in
theorem nil_Has (k : By) (w : World) : Calls Tryz.prog 11 #[.pointer none, .string (bs k)] w fun e w' => e = .returned (.bool false) ∧ Gr w w' := by
  go_enter Tryz.func11, Tryz.ntmps11
  go_wp2_with fail
  go_ret
  exact ⟨by first | rfl | simp, by first | exact Gr.refl _ | exact Gr.alloc _ _ | exact (Gr.alloc _ _).trans (Gr.alloc _ _)⟩
set_option maxRecDepth 10000 in
theorem nil_Entry (k : By) (w : World) : Calls Tryz.prog 9 #[.pointer none, .string (bs k)] w fun e w' => e = .returned (.tuple #[entZ, .bool false]) ∧ Gr w w' := by
  unfold entZ
  go_enter Tryz.func9, Tryz.ntmps9
  go_wp2_with fail
  have hb5 := heap_alloc_new w (.cells #[.string ⟨#[]⟩, .int .i64 0, .int .i64 0, .string ⟨#[]⟩, .slice none 0 0] 43)
  have r0 := blk_cell (j := 0) hb5 rfl
  have r1 := blk_cell (j := 1) hb5 rfl
  have r2 := blk_cell (j := 2) hb5 rfl
  have r3 := blk_cell (j := 3) hb5 rfl
  have r4 := blk_cell (j := 4) hb5 rfl
  refine bodyPost_ret (v := .tuple #[.agg #[.string ⟨#[]⟩, .int .i64 0, .int .i64 0, .string ⟨#[]⟩, .slice none 0 0], .bool false]) (by simp [results, Tryz.results9, go_sem, r0, r1, r2, r3, r4]) rfl ?_
  exact ⟨rfl, Gr.alloc _ _⟩
set_option maxRecDepth 10000 in
theorem nil_stagedAt (k : By) (w : World) : Calls Tryz.prog 44 #[.pointer none, .string (bs k)] w fun e w' => e = .returned (.int .i64 (-1)) ∧ Gr w w' := by
  go_enter Tryz.func44, Tryz.ntmps44
  go_wp2_with fail
  go_ret
  exact ⟨by first | rfl | simp, by first | exact Gr.refl _ | exact Gr.alloc _ _ | exact (Gr.alloc _ _).trans (Gr.alloc _ _)⟩
set_option maxRecDepth 10000 in
theorem nil_Data (k : By) (w : World) : Calls Tryz.prog 8 #[.pointer none, .string (bs k)] w fun e w' => e = .returned (.tuple #[.slice none 0 0, .bool false]) ∧ Gr w w' := by
  go_enter Tryz.func8, Tryz.ntmps8
  go_wp2_with (go_at_call 44; go_must (refine (nil_stagedAt k _).mono ?_); rintro e w5 ⟨rfl, hg5⟩)
  go_ret2
  exact ⟨rfl, hg5⟩
set_option maxRecDepth 10000 in
theorem nil_Apply (nk ng nc ns : Int) (ny nu : By) (A A2 : Option Addr) (ld ca lp c2 : Nat) (w : World) : Calls Tryz.prog 5 #[.pointer none, .agg #[.int .i64 nk, .string (bs ny), .int .i64 ng, .int .i64 nc, .slice A ld ca, .string (bs nu), .int .i64 ns, .slice A2 lp c2]] w fun e w' => e = .returned (.int .i64 1) ∧ Gr w w' := by
  go_enter Tryz.func5, Tryz.ntmps5
  go_wp2_with fail
  go_ret
  exact ⟨by first | rfl | simp, by first | exact Gr.refl _ | exact Gr.alloc _ _ | exact (Gr.alloc _ _).trans (Gr.alloc _ _)⟩
end Go.Proofs.YthboeoidgglcgaaGreat
/- cat: the fixed fact. -/
namespace Go.Proofs.YthboeoidgglcgaaGreat
set_option linter.unusedVariables false
set_option linter.unusedSimpArgs false
open Go Go.RowKit Go.Maps Go.Sort Go.Shelf Go.Proofs
theorem ApPost.low {lo g t : Nat} {x : CtX} {c : CtP} {n : Nt} {w w' : World} {e : Ending} (h : Ca w lo g x c t) (hlo : lo ≤ w.heap.size) (hp : ApPost lo g t x c n w e w') : e = .returned (.int .i64 (c.apply n).1) ∧ ∃ x', Hid (Ca w' lo g x' (c.apply n).2 (t + 1)) ∧ Below lo w w' := by
  obtain ⟨he, x', h1, h2, -⟩ := hp
  exact ⟨he, x', h1, Upd.to_below (Below.refl lo w) h2 hlo (fun k hk => (h.lt k hk).2)⟩
theorem apply_lit (lo g t : Nat) (x : CtX) (c : CtP) (w : World) (h : Hid (Ca w lo g x c t)) (ht : t ≤ 900) (hlo : lo ≤ w.heap.size) (n : Nt) (hd : n.data = []) (hp : n.places = []) (hk : n.key.length ≤ maxLen) (hI : I64 n.cart) {z : Int} {c' : CtP} (hr : c.apply n = (z, c')) :
    Calls Tryz.prog 5 #[.pointer (some ⟨g, 0, none⟩), .agg #[.int .i64 n.kind, .string (bs n.key), .int .i64 n.gen, .int .i64 n.cart, .slice none 0 0, .string (bs n.sum), .int .i64 n.size, .slice none 0 0]] w fun e w' => e = .returned (.int .i64 z) ∧ ∃ x', Hid (Ca w' lo g x' c' (t + 1)) ∧ Below lo w w' := by
  have hv : NtV n (.agg #[.int .i64 n.kind, .string (bs n.key), .int .i64 n.gen, .int .i64 n.cart, .slice none 0 0, .string (bs n.sum), .int .i64 n.size, .slice none 0 0]) w := by
    refine ⟨none, 0, none, 0, by unfold Nt.agg; rw [hd, hp]; rfl, ?_, ?_⟩
    · rw [hd]; exact Byt.nil_ w
    · rw [hp]; exact Pls.nil_ w _ _ (Nat.zero_le _)
  refine (apply_any lo g t x c w h ht hlo n _ hk hv hI (fun hh => absurd hh (by rw [hp]; simp))).mono ?_
  intro e w' hpo
  have := hpo.low h.out hlo
  rw [hr] at this
  exact this
theorem OND.cell {E : List Ne} {A : Option Addr} {m c base : Nat} {w : World} (h : OND E (.slice A m c) base w) (hm : 0 < m) : ∃ b, A = some ⟨b, 0, none⟩ ∧ b < w.heap.size ∧ ∀ i q j v, E[i]? = some q → j < 8 → q.cells[j]? = some v → w.cell? ⟨b, i * 8 + j, none⟩ = some v := by
  have hl : E.length = m := by
    obtain ⟨A', c', e, -⟩ := h.form
    injection e with _ e _
    exact e.symm
  obtain ⟨b, cp, e1, -, -, -, hb, -, -, hcell, -⟩ := row_at h.1.row (by omega)
  injection e1 with e1 _ _
  exact ⟨b, e1, hb, fun i q j v hq hj hv => hcell _ _ ((flatN_at hq j hj).trans hv)⟩
def kA : By := [97]
def ka1 : CtP := ⟨[(kA, [])], [], [], [], [], 0⟩
def ka2 : CtP := ⟨[(kA, [])], [], [(kA, 1)], [], [], 1⟩
def ka3 : CtP := ⟨[], [], [], [(kA, 2)], [], 2⟩
def kd2 : CtP := ⟨[], [], [], [], [], 1⟩
def nA1 : Nt := ⟨1, kA, 0, 0, [], [], 0, []⟩
def nA4 : Nt := ⟨4, kA, 1, 0, [], [], 0, []⟩
def nA3 : Nt := ⟨3, kA, 2, 0, [], [], 0, []⟩
def nD3 : Nt := ⟨3, kA, 1, 0, [], [], 0, []⟩
theorem r_a1 : CtP.none_.apply nA1 = (0, ka1) := by decide
theorem r_a2 : ka1.apply nA4 = (0, ka2) := by decide
theorem r_a3 : ka2.apply nA3 = (0, ka3) := by decide
theorem r_d2 : ka1.apply nD3 = (0, kd2) := by decide
theorem r_notes : notesP ka3 = [⟨4, [], 2, 0, [], [], 0, []⟩, ⟨6, kA, 2, 0, [], [], 1, []⟩] := by
  unfold notesP
  rw [show sortZ ka3.R = [] from List.eq_nil_of_length_eq_zero (sortZ_len _)]
  decide
theorem r_tombs : (tombsN ka3.T) = [⟨6, kA, 2, 0, [], [], 1, []⟩] := by decide
set_option maxHeartbeats 4000000 in
set_option maxRecDepth 20000 in
theorem awake13_any (w : World) : Calls Tryz.prog 10 #[] w fun e w' => e = .returned (.bool true) ∧ Gr w w' := by
  have hI0 : I64 0 := by unfold I64; omega
  have hkA : kA.length ≤ maxLen := by decide
  have n0 := Lib.hid (cnew_any w)
  obtain ⟨B0, hB0⟩ : ∃ B0, w.heap.size = B0 := ⟨_, rfl⟩
  go_enter Tryz.func10, Tryz.ntmps10
  go_upto_region 2 with (go_at_call 4; go_must (refine n0.out.mono ?_); clear n0; rintro e w1 ⟨g, x1, rfl, hc1, hg1⟩)
  rw [hB0] at hc1
  have hl1 : B0 ≤ w1.heap.size := by rw [← hB0]; exact Below.size hg1
  have a1 := Lib.hid (apply_lit B0 g 0 x1 _ w1 (Lib.hid hc1) (by omega) hl1 nA1 rfl rfl hkA hI0 r_a1)
  have hs1 := Lib.hid hl1
  replace hg1 := Lib.hid hg1
  replace hc1 := Lib.hid hc1
  go_upto_region 4 with (first
    | (go_at_call 5; first
      | (refine a1.out.mono ?_; clear a1; rintro e w2 ⟨rfl, x2, hc2, hb2⟩; have hs2 : Hid (B0 ≤ w2.heap.size) := Lib.hid (Nat.le_trans hs1.out hb2.size); replace hb2 := Lib.hid hb2; have a2 := Lib.hid (apply_lit B0 g 1 x2 _ w2 hc2 (by omega) hs2.out nA4 rfl rfl hkA hI0 r_a2))
      | (refine a2.out.mono ?_; clear a2; rintro e w3 ⟨rfl, x3, hc3, hb3⟩; have hs3 : Hid (B0 ≤ w3.heap.size) := Lib.hid (Nat.le_trans hs2.out hb3.size); replace hb3 := Lib.hid hb3; have a3 := Lib.hid (apply_lit B0 g 2 x3 _ w3 hc3 (by omega) hs3.out nA3 rfl rfl hkA hI0 r_a3))
      | (refine a3.out.mono ?_; clear a3; rintro e w4 ⟨rfl, x4, hc4, hb4⟩; have hs4 : Hid (B0 ≤ w4.heap.size) := Lib.hid (Nat.le_trans hs3.out hb4.size); replace hb4 := Lib.hid hb4; have a4 := Lib.hid (notes_any B0 g 3 x4 _ w4 hc4 (by omega))))
    | (go_at_call 42; go_must (refine a4.out.mono ?_); clear a4; rintro e w5 ⟨E5, A5, c5, rfl, hE5, ho5, hg5⟩; rw [r_notes] at hE5; have hl5 : E5.length = 2 := (by have := congrArg List.length hE5; rw [List.length_map] at this; exact this); rw [hl5] at ho5 ⊢; replace ho5 := Lib.hid ho5; replace hE5 := Lib.hid hE5; replace hl5 := Lib.hid hl5; replace hg5 := Lib.hid hg5; have a5 := Lib.hid (tombs_any B0 g 3 x4 _ w5 (Lib.hid (hc4.out.gr hg5.out)) (by omega)))
    | (go_at_call 38; go_must (refine a5.out.mono ?_); clear a5; rintro e w6 ⟨A6, c6, rfl, ho6, hg6⟩; rw [r_tombs] at ho6; replace ho6 := Lib.hid ho6; replace hg6 := Lib.hid hg6))
  have hE5' := hE5.out
  obtain ⟨q0, q1, rfl⟩ : ∃ q0 q1, E5 = [q0, q1] := by
    match E5, hl5.out with
    | [q0, q1], _ => exact ⟨q0, q1, rfl⟩
  have e0 : q0.n = ⟨4, [], 2, 0, [], [], 0, []⟩ := by injection hE5'
  replace hE5' := Lib.hid hE5'
  have hgw : Hid (Below B0 w w6) := Lib.hid ((((((Below.mono hg1.out (Nat.le_of_eq hB0.symm)).trans hb2.out).trans hb3.out).trans hb4.out).trans (Below.mono hg5.out hs4.out)).trans (Below.mono hg6.out (Nat.le_trans hs4.out (Below.size hg5.out))))
  have hc6 := Lib.hid ((hc4.out.gr hg5.out).gr hg6.out)
  have ho56 := Lib.hid (ho5.out.gr hg6.out)
  have m0 := Lib.hid (cnew_any w6)
  obtain ⟨B1, hB1⟩ : ∃ B1, w6.heap.size = B1 := ⟨_, rfl⟩
  clear hg1 hc1 hb2 hc2 hb3 hc3 hb4 hc4 hs1 hs2 hs3 hg5 hg6 ho5 hl1
  go_upto_region 5 with (go_at_call 4; go_must (refine m0.out.mono ?_); clear m0; rintro e w7 ⟨g7, y1, rfl, hd1, hg7⟩)
  rw [hB1] at hd1
  have hl7 : B1 ≤ w7.heap.size := by rw [← hB1]; exact Below.size hg7
  have b1 := Lib.hid (apply_lit B1 g7 0 y1 _ w7 (Lib.hid hd1) (by omega) hl7 nA1 rfl rfl hkA hI0 r_a1)
  have hs7 := Lib.hid hl7
  have hz7 : Hid (Below B1 w6 w7) := Lib.hid (Below.mono hg7 (Nat.le_of_eq hB1.symm))
  replace hg7 := Lib.hid hg7
  replace hd1 := Lib.hid hd1
  clear hl7
  go_upto_region 7 with (first
    | (go_at_call 5; go_must (refine b1.out.mono ?_); clear b1; rintro e w8 ⟨rfl, y2, hd2, hb8⟩; have hs8 : Hid (B1 ≤ w8.heap.size) := Lib.hid (Nat.le_trans hs7.out hb8.size); replace hb8 := Lib.hid hb8; have b2 := Lib.hid (has_any B1 g7 1 y2 _ w8 hd2 (by omega) kA hkA))
    | (go_at_call 11; go_must (refine b2.out.mono ?_); clear b2; rintro e w9 ⟨he9, hg9⟩; rw [show ka1.has kA = true from by decide] at he9; subst he9; have hd3 := Lib.hid (hd2.out.gr hg9); have hs9 : Hid (B1 ≤ w9.heap.size) := Lib.hid (Nat.le_trans hs8.out (Below.size hg9)); replace hg9 := Lib.hid hg9; have b3 := Lib.hid (staged_any B1 g7 1 y2 _ w9 hd3 (by omega)))
    | (go_at_call 32; go_must (refine b3.out.mono ?_); clear b3; rintro e w10 ⟨A7, c7, rfl, -, hg10⟩; have hd4 := Lib.hid (hd3.out.gr hg10); have hs10 : Hid (B1 ≤ w10.heap.size) := Lib.hid (Nat.le_trans hs9.out (Below.size hg10)); have hx10 : y2.W.length = 1 := (by have := congrArg List.length hd2.out.wc; rw [List.length_map] at this; exact this.symm); rw [hx10]; replace hx10 := Lib.hid hx10; replace hg10 := Lib.hid hg10; have b4 := Lib.hid (apply_lit B1 g7 1 y2 _ w10 hd4 (by omega) hs10.out nD3 rfl rfl hkA hI0 r_d2)))
  go_wp2_with (first
    | (go_at_call 5; go_must (refine b4.out.mono ?_); clear b4; rintro e w11 ⟨rfl, y5, hd5, hb11⟩
       have hz : Hid (Gr w6 w11) := Lib.hid (by
        have h1 := hz7.out.trans (hb8.out.trans ((Below.mono hg9.out hs8.out).trans ((Below.mono hg10.out hs9.out).trans hb11)))
        unfold Gr
        rw [hB1]
        exact h1)
       replace hb11 := Lib.hid hb11
       obtain ⟨bt, rfl, hbt, hct⟩ := OND.cell (m := 1) ⟨(ON.gr hz.out ho6).out, ND.neN (l := [⟨6, kA, 2, 0, [], [], 1, []⟩]) (fun n hn => by rw [List.mem_singleton] at hn; subst hn; exact ⟨rfl, rfl⟩) _ _⟩ (by omega)
       have t1 := hct 0 _ 1 _ rfl (by omega) rfl
       have t2 := hct 0 _ 2 _ rfl (by omega) rfl
       have t6 := hct 0 _ 6 _ rfl (by omega) rfl
       obtain ⟨bl, rfl, hbl, hcl⟩ := OND.cell (ho56.out.gr hz.out) (by omega)
       have l0 := hcl 0 _ 0 (.int .i64 4) rfl (by omega) (by unfold Ne.cells; rw [e0]; rfl)
       have l2 := hcl 0 _ 2 (.int .i64 2) rfl (by omega) (by unfold Ne.cells; rw [e0]; rfl)
       clear hct hcl
       have hcz := Lib.hid (hc6.out.gr hz.out)
       have b5 := Lib.hid (cgen_any B0 g 3 x4 _ w11 hcz)
       have b6 := Lib.hid (has_any B0 g 3 x4 _ w11 hcz (by omega) kA hkA)
       have hsz : Hid (B1 ≤ w11.heap.size) := Lib.hid (by rw [← hB1]; exact Below.size hz.out))
    | (go_at_call 39; first
      | (refine b5.out.mono ?_; clear b5; rintro e w' ⟨rfl, rfl⟩; rw [show ka3.G = 2 from rfl])
      | (refine b8.out.mono ?_; clear b8; rintro e w' ⟨rfl, rfl⟩; rw [show kd2.G = 1 from rfl]))
    | (go_at_call 11; go_must (refine b6.out.mono ?_); clear b6; rintro e w12 ⟨he9, hg12⟩; rw [show ka3.has kA = false from by decide] at he9; subst he9; have hd6 := Lib.hid (hd5.out.gr hg12); replace hg12 := Lib.hid hg12; have b7 := Lib.hid (tombs_any B1 g7 2 y5 _ w12 hd6 (by omega)))
    | (go_at_call 38; go_must (refine b7.out.mono ?_); clear b7; rintro e w13 ⟨A9, c9, rfl, -, hg13⟩; rw [show kd2.T.length = 0 from rfl]; have hd7 := Lib.hid (hd6.out.gr hg13); replace hg13 := Lib.hid hg13; have b8 := Lib.hid (cgen_any B1 g7 2 y5 _ w13 hd7)))
  go_ret
  refine ⟨by first | rfl | simp, ?_⟩
  have := hgw.out
  unfold Gr
  rw [hB0]
  have hB01 : B0 ≤ B1 := by rw [← hB1, ← hB0]; rw [← hB0] at this; exact this.size
  exact this.trans ((Below.mono (hz.out.trans (hg12.out.trans hg13.out)) (by rw [hB1]; exact hB01)))
end Go.Proofs.YthboeoidgglcgaaGreat
/- cat: a catalog by notes; the law CatRefuses. -/
namespace Go.Proofs.YthboeoidgglcgaaGreat
set_option linter.unusedVariables false
set_option linter.unusedSimpArgs false
open Go Go.RowKit Go.Maps Go.Sort Go.Shelf Go.Proofs
theorem OND.upd {E : List Ne} {v : Value} {base : Nat} {S : Nat → Prop} {w w' : World} (h : OND E v base w) (hu : Upd S w w') (hS : ∀ k, S k → k < base) : OND E v base w' := by
  have hk : ∀ {m T s n : Nat} {u : Value} {xs : List Value}, w.ownsRow base T s u n xs → w'.ownsRow base T s u n xs := fun {m T s n u xs} hr => row_keep hr (fun k hk => hu.2.2.2.2 k (hr.lt k hk).2 (fun hs => by have := hS k hs; have := (hr.lt k hk).1; omega))
  have hnd : ND E base w' := fun x hx => ⟨row_keep (h.2 x hx).1 (fun k hk => hu.2.2.2.2 k ((h.2 x hx).1.lt k hk).2 (fun hs => by have := hS k hs; have := ((h.2 x hx).1.lt k hk).1; omega)), row_keep (h.2 x hx).2.1 (fun k hk => hu.2.2.2.2 k ((h.2 x hx).2.1.lt k hk).2 (fun hs => by have := hS k hs; have := ((h.2 x hx).2.1.lt k hk).1; omega)), (h.2 x hx).2.2⟩
  exact ⟨⟨row_keep h.1.row (fun k hk => hu.2.2.2.2 k (h.1.row.lt k hk).2 (fun hs => by have := hS k hs; have := (h.1.row.lt k hk).1; omega)), hnd.ntv, h.1.ap⟩, hnd⟩
theorem OND.ns {E : List Ne} {v : Value} {base : Nat} {w : World} (h : OND E v base w) : NsV (E.map (·.n)) v w := h.1.ns
def madeP (L : List Nt) (k : Nat) : CtP := (L.take k).foldl (fun c n => (c.apply n).2) CtP.none_
theorem madeP_zero (L : List Nt) : madeP L 0 = CtP.none_ := rfl
theorem madeP_succ {L : List Nt} {k : Nat} {n : Nt} (h : L[k]? = some n) : madeP L (k + 1) = ((madeP L k).apply n).2 := by
  unfold madeP
  rw [List.take_add_one, h]
  show (L.take k ++ [n]).foldl _ _ = _
  rw [List.foldl_append]
  rfl
theorem madeP_end {L : List Nt} {k m : Nat} (h : L.length ≤ k) (hm : k ≤ m) : madeP L k = madeP L m := by
  unfold madeP
  rw [List.take_of_length_le h, List.take_of_length_le (Nat.le_trans h hm)]
theorem i64_r {z : Int} (h : R64 z) : I64 z := h
theorem FarP.of_low {n : Nt} {A A2 : Option Addr} {c c2 : Nat} {x : CtX} {g : Nat} {w : World} (h : Pls n.places (.slice A2 n.places.length c2) w) (hS : ∀ k, x.S g k → w.heap.size ≤ k) : FarP n (n.agg A c A2 c2) x g := by
  intro hn A' ca' A2' c2' ad he ha hs
  unfold Nt.agg at he
  injection he with he
  have he' : some (Value.slice A2 n.places.length c2) = some (Value.slice A2' n.places.length c2') := congrArg (fun a : Array Value => a[7]?) he
  injection he' with he'
  injection he' with he' _
  subst he'
  obtain ⟨A3, c3, e3, -, -, hh, -⟩ := h
  injection e3 with e3 _
  subst e3
  obtain ⟨b, o, e, hb, -⟩ := hh hn
  rw [ha] at e
  injection e with e
  subst e
  have := hS _ hs
  simp only at this hb
  omega
theorem apply_same {c : CtP} {n : Nt} (h : (c.apply n).1 ≠ 0) : (c.apply n).2 = c := by
  unfold CtP.apply CtP.put CtP.placed CtP.gone CtP.begin_ CtP.retire CtP.turnT at h ⊢
  repeat' (split at h <;> rename_i h1 <;> first | (exact absurd rfl h) | simp only [h1, if_true, if_false] | skip)
  all_goals first | rfl | simp_all
theorem apply_gen {c : CtP} (n : Nt) : c.G ≤ (c.apply n).2.G := by
  unfold CtP.apply CtP.put CtP.placed CtP.gone CtP.begin_ CtP.retire CtP.turnT
  repeat' split
  all_goals first
    | exact Int.le_refl _
    | (rename_i h1 h2; exact Int.le_of_lt ((later_iff c n.gen).mp (by simpa using h2)).1)
    | (rename_i h1 h2; exact Int.le_of_lt ((later_iff c n.gen).mp (by simpa using h1)).1)
    | (rename_i h1 h2 h3; exact Int.le_of_lt ((later_iff c n.gen).mp (by simpa using h1)).1)
end Go.Proofs.YthboeoidgglcgaaGreat
/- cat: the law CatRefuses. -/
namespace Go.Proofs.YthboeoidgglcgaaGreat
set_option linter.unusedVariables false
set_option linter.unusedSimpArgs false
open Go Go.RowKit Go.Maps Go.Sort Go.Shelf Go.Proofs
end Go.Proofs.YthboeoidgglcgaaGreat
/- cat: slices.AppendSeq behind what is there. -/
namespace Go.Proofs.YthboeoidgglcgaaGreat
set_option linter.unusedVariables false
set_option linter.unusedSimpArgs false
open Go Go.RowKit Go.Maps Go.Sort Go.Shelf Go.Proofs
attribute [local go_sem] Oper.semAt_some
/-- the box at Bs holds a row of texts -/
def BoxS (base Bs : Nat) (w0 : World) (l : List By) (W : World) : Prop := ∃ v, W.heap[Bs]? = some (.cells #[v] 65 (0, 0)) ∧ OS l v base W ∧ Below base w0 W
theorem BoxS.own {base Bs : Nat} {w0 : World} {l : List By} {W W' : World} {row : Option Nat} (h : BoxS base Bs w0 l W) (hb : base ≤ Bs) (hg : W.grownBy W' row) (hr : ∀ r, row = some r → base ≤ r ∧ ∃ o : Obj, W.heap[r]? = some o ∧ o.isCells = false) : BoxS base Bs w0 l W' := by
  obtain ⟨v, hv, ho, hbw⟩ := h
  have hBs : Bs < W.heap.size := (Array.getElem?_eq_some_iff.mp hv).1
  refine ⟨v, (hg.block Bs hBs (fun e => ?_)).trans hv, World.ownsRow.kept ho hg ?_, hbw.grown hg (Nat.le_trans hb (Nat.le_of_lt hBs)) (fun k e => (hr k e).1)⟩
  · obtain ⟨-, o, ho', hc⟩ := hr Bs e.symm
    rw [hv] at ho'
    injection ho' with ho'
    subst ho'
    cases hc
  · cases hu : v.ownBlock with
    | none => exact .inl rfl
    | some k =>
      refine .inr (fun e => ?_)
      obtain ⟨-, o, ho', hc⟩ := hr k e.symm
      rcases ho.2 with ⟨rfl, -⟩ | ⟨g, cap, cur, rfl, -, hgb, -⟩
      · cases hu
      · injection hu with hu
        subst hu
        rw [hgb] at ho'
        injection ho' with ho'
        subst ho'
        cases hc
set_option maxRecDepth 20000 in
set_option maxHeartbeats 4000000 in
theorem appendSeq_any (pre0 : List By) (v0 : Value) (base Bm b t : Nat) (L : List (By × Value)) (w : World) (hv0 : OS pre0 v0 base w) (hbase : base ≤ w.heap.size) (hBm : w.cell? ⟨Bm, 0, none⟩ = some (.map (some b))) (hBl : Bm < w.heap.size)
    (h : MapB w 9 KS b t L) (hl : L.length ≤ 1000000) (hp0 : pre0.length ≤ 1000000) :
    Calls Tryz.prog 55 #[v0, .func (.func 67) #[] #[.pointer (some ⟨Bm, 0, none⟩)]] w fun e w' => ∃ v ss, e = .returned v ∧ ss.Perm (L.map Prod.fst) ∧ OS (pre0 ++ ss) v base w' ∧ Below base w w' := by
  obtain ⟨A0, c0, rfl, -, -⟩ := OS.form hv0
  obtain ⟨n, D, -, hown, hrel⟩ := h
  have hsz := hrel.size
  have hperm := keysS_perm hrel
  obtain ⟨m0, hm0⟩ : ∃ m, pre0.length = m := ⟨_, rfl⟩
  rw [hm0] at hv0 hp0 ⊢
  replace hm0 := Lib.hid hm0
  obtain ⟨w1, hw1⟩ : ∃ w1, w.alloc (.cells #[.slice A0 m0 c0] 65) = w1 := ⟨_, rfl⟩
  have hg1 : Gr w w1 := by rw [← hw1]; exact Gr.alloc _ _
  obtain ⟨Bs, hBs⟩ : ∃ Bs, w.heap.size = Bs := ⟨_, rfl⟩
  have hb1 : w1.heap[Bs]? = some (.cells #[.slice A0 m0 c0] 65 (0, 0)) := by rw [← hw1, ← hBs]; exact heap_alloc_new w _
  have hs1 : w1.heap.size = Bs + 1 := by rw [← hw1, ← hBs]; simp
  have hI0 : BoxS base Bs w pre0 w1 := ⟨_, hb1, row_below hv0 hg1, Below.mono hg1 hbase⟩
  have hown1 : w1.ownsMap Tryz.prog 9 RV b n D := by
    have hbl := hown.lt
    obtain ⟨es, clock, hb, Ft, hs, hD⟩ := hown
    exact ⟨es, clock, (Below.block hg1 b hbl).trans hb, Ft, hs, hD⟩
  have hcell1 : w1.cell? ⟨Bm, 0, none⟩ = some (.map (some b)) := (cellGr hg1 (a := ⟨Bm, 0, none⟩) hBl).trans hBm
  have hseq := AnyZ.keys_stops (ρ := Tryz.ctKeys_ren) { Tryz.ctKeys with } Fence.wide (8 - 1) trivial rfl (by omega) Bm b n D w1 (by rw [hs1, ← hBs]; omega) hcell1 hown1
  obtain ⟨i0, hi, hz0, hz1, hz2⟩ := info_parts info_str
  refine (callsIn_wide (n := 8)).1 ?_
  refine callsIn_of_wp_marks Tryz.func55 rfl trivial ?_ rfl
  simp only [Tryz.ntmps55, List.size_toArray, List.length_cons, List.length_nil, Nat.reduceAdd, Nat.reduceSub, Array.replicate_succ, Array.replicate_zero, List.push_toArray, List.append_toArray, List.nil_append, List.cons_append]
  refine wpIn_wide.2 ?_
  replace hown := Lib.hid hown
  replace hv0 := Lib.hid hv0
  replace hg1 := Lib.hid hg1
  replace hcell1 := Lib.hid hcell1
  replace hb1 := Lib.hid hb1
  replace hBm := Lib.hid hBm
  go_wp2_with fail
  replace hw1 := Lib.hid hw1
  have hBs' := hBs
  replace hBs := Lib.hid hBs
  refine (wpIn_wide (n := 8)).1 ?_
  refine wpIn_rangeFunc_ownG rfl (by omega) (gf := 67) (lb := #[.pointer (some ⟨Bm, 0, none⟩)]) rfl trivial (enters_of Tryz.func67 (by kernel_rfl) rfl)
    hseq KeepsWalks.trans (fun W l o o' _ h2 h3 h4 => KeepsWalks.putObj o' h2 h4) (Below.refl _ _) (fun _ => rfl)
    (fun (pre : List By) W => BoxS base Bs w (pre0 ++ pre) W)
    (fun _ _ _ => False)
    (fun s W W' row hs hg9 hr => hs.own (by rw [← hBs.out]; exact hbase) hg9 (fun r e => ⟨Nat.le_trans (by rw [hs1]; have := hBs.out; omega) (hr r e).1, (hr r e).2⟩))
    (fun _ _ _ _ _ hs _ _ => hs)
    (by rw [List.append_nil]; exact hI0)
    (fun x => { tmps := #[.slice A0 m0 c0, .func (.func 67) #[] #[.pointer (some ⟨Bm, 0, none⟩)], .pointer (some ⟨Bs, 0, none⟩), undef, .slice none 0 0, .string (bs x), .func (.func 67) #[] #[.pointer (some ⟨Bm, 0, none⟩)], .string (bs x), undef, undef, undef, undef, undef], defers := [] }) ?assign ?body ?done ?stop
  case assign =>
    intro l x W K hK
    gi_wp2
    exact hK
  case body =>
    rintro lr pre x W ⟨v, hv, ho, hbw⟩ hlt
    obtain ⟨A1, c1, rfl, -, -⟩ := OS.form ho
    have hml : (pre0 ++ pre).length ≤ 2000000 := by rw [List.length_append, hm0.out]; omega
    obtain ⟨m1, hm1⟩ : ∃ m, (pre0 ++ pre).length = m := ⟨_, rfl⟩
    unfold OS at ho
    rw [hm1] at hv ho hml
    have k0 := blk_cell (j := 0) hv rfl
    have f0 := blk_free hv 0
    have hBW : Bs < W.heap.size := blk_lt hv
    have ho2 := row_below ho (Gr.alloc W (.cells #[.string (bs x)] 9))
    have hv2 := blk_alloc hv (.cells #[.string (bs x)] 9)
    have hne : (Value.slice A1 m1 c1).ownBlock ≠ some Bs := row_ne ho hv (by decide)
    have hsz2 : base ≤ (W.alloc (.cells #[.string (bs x)] 9)).heap.size := Nat.le_trans hbase (Nat.le_trans (by rw [hBs.out]; exact Nat.le_of_lt hBW) (by simp))
    replace hv := Lib.hid hv
    refine wpIn_block ?_
    gi_wp2_with (first
      | (gi_at_builtin; refine wpListIn_append_own _ rfl _ _ 65 rfl base 9 i0 (.string ⟨#[]⟩) 1 16 Tryz.underlying65 hi hz0 hz1 hz2 rfl (by decide) _ _ _ rfl ho2 ⟨W.heap.size, 0, none⟩ 1 1 [sV x] rfl rfl (fun j u hj => by rw [addr0]; exact cell_new W _ _ (by unfold sV at hj; simpa using hj)) (by simp [sV, Value.oneCell']) (by simp only [maxLen]; omega) (by omega) hsz2 ?_; intro v3 w3 ho3 hg3 _
         have hv3 := blk_grow hv2 hg3 hne
         have k3 := blk_cell (j := 0) hv3 rfl
         have f3 := blk_free hv3 0
         clear k0 f0
         obtain ⟨A3, c3, rfl, -, -⟩ := row_form ho3)
      | gi_round_op_a)
    have hbs := blk_set hv3 0 (.slice A3 (m1 + 1) c3)
    have ko : KeepsOthers W (w3.setCell ⟨Bs, 0, none⟩ (.slice A3 (m1 + 1) c3)) := ((KeepsOthers.alloc _ _).trans (KeepsOthers.of_grownBy hg3 (fun j o hj ho' => by
      rcases ho2.2 with ⟨e, -⟩ | ⟨g9, cap, cur, e, -, hgb, -⟩
      · rw [e] at hj; cases hj
      · rw [e] at hj
        injection hj with hj
        subst hj
        rw [hgb] at ho'
        injection ho' with ho'
        subst ho'
        rfl))).trans (KeepsOthers.setCell _ _ _)
    refine ⟨ko.from _, ko.walks, _, hbs, ?_, ?_⟩
    · unfold OS
      rw [← List.append_assoc, List.length_append, hm1, List.map_append]
      refine row_set_other ho3 _ _ _ (fun e => ?_)
      exact row_ne ho3 hv3 (by decide) e
    · exact ((hbw.trans (Below.mono (Gr.alloc W _) (Nat.le_trans hbase (by rw [hBs.out]; exact Nat.le_of_lt hBW)))).grown hg3 hsz2 (fun k e => (ho2.lt k e).1)).setCell (p := ⟨Bs, 0, none⟩) (by rw [← hBs.out]; exact hbase) _
  case done =>
    rintro D' ys W hD ⟨hS, -⟩ hI hK
    have hDl : D' < W.heap.size := (Array.getElem?_eq_some_iff.mp hK).1
    have hI' := hI
    obtain ⟨v, hv, ho, hbw⟩ := hI'
    obtain ⟨A1, c1, rfl, -, -⟩ := OS.form ho
    have k0 := blk_cell (j := 0) hv rfl
    replace hK := Lib.hid hK
    replace hv := Lib.hid hv
    replace ho := Lib.hid ho
    generalize (pre0 ++ ys).length = m9 at k0 hv ho
    go_wp2_with fail
    refine ⟨by simp, .inl ⟨_, _, rfl, run_takeDeferred hK.out, ?_⟩⟩
    refine ⟨_, results_tmp rfl _ _ _, ?_⟩
    have hDb : base ≤ D' := Nat.le_trans (by rw [hs1]; have := hBs.out; omega) hD
    have hrow : ∀ r, some D' = some r → base ≤ r ∧ ∃ o : Obj, W.heap[r]? = some o ∧ o.isCells = false := fun r e => by
      injection e with e
      subst e
      exact ⟨hDb, _, hK.out, rfl⟩
    refine ⟨.slice A1 m9 c1, ys, rfl, hS.trans hperm.symm, World.ownsRow.kept ho.out (grownBy_putObj' W D' _) ?_, hbw.grown (grownBy_putObj' W D' _) (Nat.le_trans hDb (Nat.le_of_lt hDl)) (fun k e => (hrow k e).1)⟩
    cases hu : (Value.slice A1 m9 c1).ownBlock with
    | none => exact .inl rfl
    | some k =>
      refine .inr (fun e => ?_)
      obtain ⟨-, o, ho', hc⟩ := hrow k e.symm
      rcases ho.out.2 with ⟨e2, -⟩ | ⟨g, cap, cur, e2, -, hgb, -⟩
      · rw [e2] at hu; cases hu
      · rw [e2] at hu
        injection hu with hu
        subst hu
        rw [hgb] at ho'
        injection ho' with ho'
        subst ho'
        cases hc
  case stop =>
    rintro D c pre W _ _ h _
    exact h.elim
end Go.Proofs.YthboeoidgglcgaaGreat
/- cat: Keys. -/
namespace Go.Proofs.YthboeoidgglcgaaGreat
set_option linter.unusedVariables false
set_option linter.unusedSimpArgs false
open Go Go.RowKit Go.Maps Go.Sort Go.Shelf Go.Proofs
theorem sortStr_any (l : List By) (v : Value) (base : Nat) (w : World) (h : OS l v base w) (hn : l.length ≤ 1000000000) :
    Calls Tryz.prog 57 #[v] w fun e w' => e = .returned (.tuple #[]) ∧ OS (l.mergeSort (fun x y => decide (x ≤ y))) v base w' ∧ Below base w w' := by
  have h' := h
  unfold OS at h
  rcases h.2 with ⟨rfl, h0⟩ | ⟨g, cap, cur, rfl, hbg, hh, hcap, hmx, hsz, htk⟩
  · obtain rfl : l = [] := List.eq_nil_of_length_eq_zero h0
    refine (AnyM.slices_Sort_string_none Tryz.ctSort none 0 w).mono ?_
    rintro e w' ⟨rfl, rfl⟩
    exact ⟨rfl, by rw [List.mergeSort_nil]; exact h', Below.refl _ _⟩
  · have hg : g < w.heap.size := blk_lt hh
    have hH : Holds encStr w g 0 l.toArray := holds_of_block hh (by rw [Nat.mul_one] at htk; exact htk)
    refine (AnyM.slices_Sort_string Tryz.ctSort g 0 cap l w hH hg (by omega)).mono ?_
    rintro e w' ⟨rfl, n, os, rfl⟩
    refine ⟨rfl, ?_, (Below.refl base w).grown (grownBy_sorted _) (by omega) (fun k hk => by injection hk with hk; omega)⟩
    have := ownsRow_sorted (n := n) (os := os) (ss := l) (ts := l.mergeSort (fun x y => decide (x ≤ y))) (List.length_mergeSort ..) hbg hh hcap hmx hsz
    unfold OS
    rw [List.length_mergeSort]
    exact this
def keysP (c : CtP) : List By := (c.W.map Prod.fst ++ c.E.map Prod.fst).mergeSort (fun x y => decide (x ≤ y))
theorem keysP_len (c : CtP) : (keysP c).length = c.W.length + c.E.length := by unfold keysP; rw [List.length_mergeSort, List.length_append, List.length_map, List.length_map]
section
variable (lo g t : Nat) (x : CtX) (c : CtP) (w : World) (h : Hid (Ca w lo g x c t))
include h
set_option maxRecDepth 10000 in
set_option maxHeartbeats 1000000 in
theorem keys_any (ht : t ≤ 1000) : Calls Tryz.prog 33 #[.pointer (some ⟨g, 0, none⟩)] w fun e w' => ∃ A cc, e = .returned (.slice A (keysP c).length cc) ∧ OS (keysP c) (.slice A (keysP c).length cc) w.heap.size w' ∧ Gr w w' := by
  obtain ⟨kp, hkp⟩ : ∃ kp, keysP c = kp := ⟨_, rfl⟩
  rw [hkp]
  replace hkp := Lib.hid hkp
  go_enter Tryz.func33, Tryz.ntmps33
  go_upto_region 3 with (fail)
  obtain ⟨wd, hwd⟩ : ∃ wd, wd = w.drew := ⟨_, rfl⟩
  have hgd : Gr w wd := by rw [hwd]; exact (Below.refl _ _).drew
  have hcd := Lib.hid (h.out.gr hgd)
  have hsd : Hid (wd.heap.size = w.heap.size) := Lib.hid (by rw [hwd]; rfl)
  have hst := Lib.hid (staged_any lo g t x c wd hcd ht)
  have hlW : Hid (c.W.length ≤ 1000) := Lib.hid (by have h1 := h.out.few.1; omega)
  have hlE : Hid (c.E.length ≤ 1000) := Lib.hid (by have h1 := h.out.few.2.1; omega)
  have heM : Hid ((eM x.E).map Prod.fst = c.E.map Prod.fst) := Lib.hid (by rw [h.out.ec]; unfold eM; rw [List.map_map, List.map_map]; rfl)
  have heL : Hid ((eM x.E).length = c.E.length) := Lib.hid (by rw [h.out.ec]; unfold eM; rw [List.length_map, List.length_map])
  have hxW : Hid (x.W.length = c.W.length) := Lib.hid (by rw [h.out.wc, List.length_map])
  rw [hxW.out] at hst
  obtain ⟨nW, hnW⟩ : ∃ n, c.W.length = n := ⟨_, rfl⟩
  rw [hnW] at hst hlW
  replace hnW := Lib.hid hnW
  replace hgd := Lib.hid hgd
  refine wpR_region (Below wd.heap.size) 9999 (by kernel_rfl) ?_
  (rw [← hwd]; replace hwd := Lib.hid hwd)
  refine wT (i := 0) (v := ?_) (⟨fun x => Below.refl _ x, fun h1 h2 => h1.trans h2⟩) (some 6) rfl (fun w' hw' => ?_) ?_
  rotate_left
  · go_simp; with_reducible rfl
  simp only [Act.put, List.setIfInBounds_toArray, List.set_cons_zero, List.set_cons_succ]
  refine wT (i := 2) (v := ?_) (⟨fun x => Below.refl _ x, fun h1 h2 => h1.trans h2⟩) (some 8) rfl (fun w' hw' => ?_) ?_
  rotate_left
  · go_simp; with_reducible rfl
  simp only [Act.put, List.setIfInBounds_toArray, List.set_cons_zero, List.set_cons_succ]
  refine wT (i := 3) (v := ?_) (⟨fun x => Below.refl _ x, fun h1 h2 => h1.trans h2⟩) (some 9) rfl (fun w' hw' => ?_) ?_
  rotate_left
  · go_simp; with_reducible rfl
  simp only [Act.put, List.setIfInBounds_toArray, List.set_cons_zero, List.set_cons_succ]
  refine wT (i := 4) (v := ?_) (⟨fun x => Below.refl _ x, fun h1 h2 => h1.trans h2⟩) (some 10) rfl (fun w' hw' => ?_) ?_
  rotate_left
  · go_simp; with_reducible rfl
  simp only [Act.put, List.setIfInBounds_toArray, List.set_cons_zero, List.set_cons_succ]
  refine wT (i := 5) (v := ?_) (⟨fun x => Below.refl _ x, fun h1 h2 => h1.trans h2⟩) (some 11) rfl (fun w' hw' => ?_) ?_
  rotate_left
  · have q := blk_cell (j := 1) (hcd.out.gr hw').blk rfl; go_simp; with_reducible rfl
  simp only [Act.put, List.setIfInBounds_toArray, List.set_cons_zero, List.set_cons_succ]
  refine wpR_one 1 rfl (by kernel_rfl) (by kernel_rfl) (fun K hK => ?_)
  go_simp
  refine hst.out.mono ?_
  rintro e w2 ⟨A2, c2, rfl, hos2, hg2⟩
  refine hK _ _ (fun _ => hg2) ?_
  clear hK K
  have hc2 := Lib.hid (hcd.out.gr hg2)
  have hs2 := Lib.hid (Below.size hg2)
  replace hg2 := Lib.hid hg2
  have hbm := heap_alloc_new w2 (.cells #[.map (some x.be)] 50)
  have hseq := Lib.hid (appendSeq_any (c.W.map Prod.fst) (.slice A2 nW c2) wd.heap.size w2.heap.size x.be t (eM x.E) (w2.alloc (.cells #[.map (some x.be)] 50)) (OS.below (Gr.alloc _ _) hos2) (Nat.le_trans hs2.out (by simp)) (blk_cell (j := 0) hbm rfl) (blk_lt hbm) (hc2.out.gr (Gr.alloc _ _)).me (by rw [heL.out]; have := hlE.out; omega) (by rw [List.length_map, hnW.out]; have := hlW.out; omega))
  replace hbm := Lib.hid hbm
  clear hos2
  try simp only [Act.put, List.setIfInBounds_toArray, List.set_cons_zero, List.set_cons_succ]
  refine wpR_one 6 rfl (by kernel_rfl) (by kernel_rfl) (fun K hK => ?_)
  go_simp
  refine (keysE_any (some x.be) w2).mono ?_
  rintro e w' ⟨rfl, rfl⟩
  refine hK _ _ (fun _ => Below.mono (Gr.alloc _ _) hs2.out) ?_
  clear hK K
  try simp only [Act.put, List.setIfInBounds_toArray, List.set_cons_zero, List.set_cons_succ]
  refine wpR_one 7 rfl (by kernel_rfl) (by kernel_rfl) (fun K hK => ?_)
  go_simp
  refine hseq.out.mono ?_
  rintro e w4 ⟨v4, ss, rfl, hp4, hos4, hb4⟩
  refine hK _ _ (fun _ => hb4) ?_
  clear hK K
  clear hseq
  have hpl : Hid (ss.length = (c.E.map Prod.fst).length) := Lib.hid (by rw [hp4.length_eq, heM.out])
  have hks : Hid ((c.W.map Prod.fst ++ ss).mergeSort (fun x y => decide (x ≤ y)) = kp) := Lib.hid (by rw [← hkp.out]; unfold keysP; rw [heM.out] at hp4; exact mergeSort_of_perm (hp4.append_left _))
  replace hb4 : Hid (Below wd.heap.size wd w4) := Lib.hid (Below.trans (show Below wd.heap.size wd w2 from hg2.out) ((Below.mono (Gr.alloc w2 (.cells #[.map (some x.be)] 50)) hs2.out).trans hb4))
  obtain ⟨A4, c4, rfl, -, -⟩ := OS.form hos4
  generalize hm4 : (c.W.map Prod.fst ++ ss).length = m4 at *
  replace hm4 := Lib.hid hm4
  replace hos4 := Lib.hid hos4
  replace hp4 := Lib.hid hp4
  try simp only [Act.put, List.setIfInBounds_toArray, List.set_cons_zero, List.set_cons_succ]
  refine wT (i := 8) (v := ?_) (⟨fun x => Below.refl _ x, fun h1 h2 => h1.trans h2⟩) (some 3) rfl (fun w' hw' => ?_) ?_
  rotate_left
  · go_simp; with_reducible rfl
  simp only [Act.put, List.setIfInBounds_toArray, List.set_cons_zero, List.set_cons_succ]
  refine wpR_done (by kernel_rfl) ?_ _
  have hsrt := Lib.hid (sortStr_any _ _ _ _ hos4.out (by rw [hm4.out, ← hm4.out, List.length_append, hpl.out, List.length_map, List.length_map]; have := hlW.out; have := hlE.out; have := hnW.out; omega))
  rw [hks.out] at hsrt
  go_wp2_with (go_at_call 57; go_must (refine hsrt.out.mono ?_); clear hsrt; rintro e w5 ⟨rfl, ho5, hb5⟩)
  go_ret
  obtain ⟨A5, c5, e5, -, -⟩ := OS.form ho5
  rw [e5] at ho5
  refine ⟨A5, c5, congrArg Ending.returned e5, by rw [← hsd.out]; exact ho5, ?_⟩
  have h1 := hb4.out.trans hb5
  have h2 : Below w.heap.size wd w5 := Below.mono h1 (by rw [hsd.out]; exact Nat.le_refl _)
  exact Gr.trans hgd.out (by unfold Gr; rw [hsd.out]; exact h2)
end
end Go.Proofs.YthboeoidgglcgaaGreat
/- cat: what a key that is gone leaves, plain. -/
namespace Go.Proofs.YthboeoidgglcgaaGreat
set_option linter.unusedVariables false
set_option linter.unusedSimpArgs false
open Go Go.RowKit Go.Maps Go.Sort Go.Shelf Go.Proofs
theorem mem_keysP (c : CtP) (k : By) : k ∈ keysP c ↔ c.has k = true := by
  unfold keysP CtP.has
  rw [List.mem_mergeSort, List.mem_append, List.mem_map, List.mem_map, Bool.or_eq_true, hasP_iff, hasP_iff]
  constructor
  · rintro (⟨e, he, rfl⟩ | ⟨e, he, rfl⟩)
    · exact .inr ⟨e, he, rfl⟩
    · exact .inl ⟨e, he, rfl⟩
  · rintro (⟨e, he, rfl⟩ | ⟨e, he, rfl⟩)
    · exact .inr ⟨e, he, rfl⟩
    · exact .inl ⟨e, he, rfl⟩
def begN (k : By) (n : Nt) : Bool := n.kind == 4 && n.key == k
def wasP (c : CtP) (k : By) : Bool := hasP c.E k || (notesP c).any (begN k)
theorem any_begN (c : CtP) (h : c.Ok) {k : By} (hk : keyOk k = true) : (notesP c).any (begN k) = (begP c).any (fun e => e.1 == k) := by
  have hk0 : k ≠ [] := fun e => by subst e; have := (keyOk_iff []).mp hk; simp at this
  unfold notesP
  have e1 : (c.W.map n1).any (begN k) = false := by rw [List.any_eq_false]; intro n hn; obtain ⟨e, -, rfl⟩ := List.mem_map.mp hn; simp [begN, n1]
  have e2 : ((c.E.map Prod.snd).map n2).any (begN k) = false := by rw [List.any_eq_false]; intro n hn; obtain ⟨e, -, rfl⟩ := List.mem_map.mp hn; simp [begN, n2]
  have e3 : (tombsN c.T).any (begN k) = false := by rw [List.any_eq_false]; intro n hn; unfold tombsN at hn; obtain ⟨e, -, rfl⟩ := List.mem_map.mp hn; simp [begN]
  have e4 : ((sortZ c.R).map n5).any (begN k) = false := by rw [List.any_eq_false]; intro n hn; obtain ⟨e, -, rfl⟩ := List.mem_map.mp hn; simp [begN, n5]
  rw [List.any_append, List.any_append, List.any_append, List.any_append, e1, e2, e3, e4, Bool.or_false, Bool.or_false, Bool.or_false, Bool.false_or]
  unfold genP
  rw [List.map_append, List.any_append]
  have e5 : ((if lastG (begP c) < c.G then [([], c.G)] else []).map n4).any (begN k) = false := by
    split
    · simp [begN, n4, hk0]
    · rfl
  rw [e5, Bool.or_false, List.any_map]
  congr 1
theorem wasP_iff {c : CtP} (h : c.Ok) {k : By} (hk : c.has k = true) : wasP c k = true ↔ (hasP c.E k = true ∨ hasP c.B k = true) := by
  have hko := has_key h hk
  unfold wasP
  rw [any_begN c h hko, Bool.or_eq_true]
  constructor
  · rintro (h1 | h1)
    · exact .inl h1
    · rw [List.any_eq_true] at h1
      obtain ⟨e, he, e1⟩ := h1
      exact .inr ((hasP_iff _ _).mpr ⟨e, (List.mem_filter.mp he).1, by simpa using e1⟩)
  · rintro (h1 | h1)
    · exact .inl h1
    · cases hE : hasP c.E k with
      | true => exact .inl rfl
      | false =>
        refine .inr ?_
        obtain ⟨e, he, e1⟩ := (hasP_iff _ _).mp h1
        rw [List.any_eq_true]
        unfold CtP.has at hk
        rw [hE, Bool.false_or] at hk
        exact ⟨e, List.mem_filter.mpr ⟨he, by rw [e1]; exact hk⟩, by simpa using e1⟩
def beg1 (c : CtP) (k : By) : CtP := { c with G := c.G + 1, B := delP c.B k ++ [(k, c.G + 1)] }
theorem beg1_apply {c : CtP} (h : c.Ok) {k : By} (hk : c.has k = true) (hG : c.G ≤ 1099511627773) : c.apply ⟨4, k, c.G + 1, 0, [], [], 0, []⟩ = (0, beg1 c k) := by
  have hko := has_key h hk
  have hk0 : k ≠ [] := fun e => by subst e; have := (keyOk_iff []).mp hko; simp at this
  have hl : c.later (c.G + 1) = true := (later_iff c _).mpr ⟨by omega, by omega⟩
  show c.begin_ ⟨4, k, c.G + 1, 0, [], [], 0, []⟩ = _
  unfold CtP.begin_
  simp only [hl, hk, hk0]
  rw [if_neg (by simp), if_neg (by simp)]
  unfold beg1
  simp
theorem beg1_hasB (c : CtP) (k : By) : hasP (beg1 c k).B k = true := by unfold beg1; simp only; rw [hasP_snoc]; simp
theorem beg1_keys (c : CtP) (k : By) : keysP (beg1 c k) = keysP c := rfl
theorem beg1_has (c : CtP) (k k' : By) : (beg1 c k).has k' = c.has k' := rfl
def gone1 (c : CtP) (k : By) : CtP := { c with W := delP c.W k, E := delP c.E k, B := delP c.B k, T := if hasP c.E k = true ∨ hasP c.B k = true then c.T ++ [(k, c.G + 1)] else c.T, G := c.G + 1 }
theorem gone1_apply {c : CtP} (h : c.Ok) {k : By} (hk : c.has k = true) (hG : c.G ≤ 1099511627774) : c.apply ⟨3, k, c.G + 1, 0, [], [], 0, []⟩ = (0, gone1 c k) := by
  have hl : c.later (c.G + 1) = true := (later_iff c _).mpr ⟨by omega, by omega⟩
  show c.gone ⟨3, k, c.G + 1, 0, [], [], 0, []⟩ = _
  unfold CtP.gone
  simp only [hl, hk]
  rw [if_neg (by simp), if_neg (by simp)]
  rfl
theorem gone1_has (c : CtP) (k : By) : (gone1 c k).has k = false := by unfold gone1 CtP.has; simp only; rw [hasP_del, hasP_del]; simp
theorem gone1_keys {c : CtP} (h : c.Ok) {k : By} (hk : c.has k = true) : (keysP (gone1 c k)).length + 1 = (keysP c).length := by
  rw [keysP_len, keysP_len]
  unfold gone1
  simp only
  have h1 := delP_len h.dW k
  have h2 := delP_len h.rE.dist k
  have h3 := h.ap k
  unfold CtP.has at hk
  rw [Bool.or_eq_true] at hk
  cases hW : hasP c.W k with
  | true =>
    rw [hW] at h1 h3
    rw [h3 rfl] at h2
    rw [if_pos rfl] at h1
    rw [if_neg (by simp)] at h2
    omega
  | false =>
    rw [hW] at h1 hk
    have hE : hasP c.E k = true := by simpa using hk
    rw [hE] at h2
    rw [if_pos rfl] at h2
    rw [if_neg (by simp)] at h1
    omega
theorem gone1_T {c : CtP} {k : By} {b : Bool} (hb : b = true ↔ (hasP c.E k = true ∨ hasP c.B k = true)) : (gone1 c k).T = if b = true then c.T ++ [(k, c.G + 1)] else c.T := by
  unfold gone1
  simp only
  by_cases h : b = true
  · rw [if_pos h, if_pos (hb.mp h)]
  · rw [if_neg h, if_neg (fun h' => h (hb.mpr h'))]
def put1 (c : CtP) (k d : By) : CtP := { c with W := c.W ++ [(k, d)] }
theorem put1_apply {c : CtP} {k d : By} (hk : c.has k = false) (hko : keyOk k = true) (hd : d.length ≤ 512) : c.apply ⟨1, k, 0, 0, d, [], 0, []⟩ = (0, put1 c k d) := by
  show c.put ⟨1, k, 0, 0, d, [], 0, []⟩ = _
  unfold CtP.put
  simp only [hk, hko]
  rw [if_neg (by simp; omega), if_neg (by simp)]
  rfl
theorem put1_get {c : CtP} (h : c.Ok) {k : By} (hk : c.has k = false) (d : By) : hasP (put1 c k d).W k = true ∧ getP (put1 c k d).W k [] = d := by
  unfold CtP.has at hk
  rw [Bool.or_eq_false_iff] at hk
  unfold put1
  simp only
  refine ⟨by rw [hasP_snoc]; simp, getP_mem (h.dW.snoc hk.2 d) (by simp) _⟩
end Go.Proofs.YthboeoidgglcgaaGreat
