/- cat: Notes. -/
import Derived.Test.YthboeoidgglcgaaCt23
namespace Go.Proofs.Ythboeoidgglcgaa
set_option linter.unusedVariables false
set_option linter.unusedSimpArgs false
open Go Go.RowKit Go.Maps Go.Sort Go.Shelf Go.Proofs
theorem genP_len {c : CtP} {t : Nat} (h : c.Few t) : (genP c).length ≤ t + 1 := by
  have h1 := begP_len c
  have h2 := h.2.2.1
  unfold genP
  rw [List.length_append]
  split <;> simp <;> omega
set_option maxRecDepth 10000 in
set_option maxHeartbeats 4000000 in
theorem notes_any (lo g t : Nat) (x : CtX) (c : CtP) (w : World) (h : Hid (Ca w lo g x c t)) (ht : t ≤ 1000) : Calls Try.prog 11 #[.pointer (some ⟨g, 0, none⟩)] w fun e w' => ∃ E' A cc, e = .returned (.slice A E'.length cc) ∧ E'.map (·.n) = notesP c ∧ OND E' (.slice A E'.length cc) w.heap.size w' ∧ Gr w w' := by
  obtain ⟨A, cp, hv⟩ : ∃ A cp, x.vs = .slice A x.W.length cp := by obtain ⟨A, cp, _, _, e, -⟩ := h.out.form; exact ⟨A, cp, e⟩
  have hbk := h.out.blk
  rw [hv] at hbk
  have c0 := blk_cell (j := 0) hbk rfl
  obtain ⟨n, hn⟩ : ∃ n, x.W.length = n := ⟨_, rfl⟩
  have hlen : n ≤ 1000 := by have h1 := h.out.few.1; rw [h.out.wc, List.length_map] at h1; omega
  have hnW : Hid (c.W.length = n) := Lib.hid (by rw [h.out.wc, List.length_map]; exact hn)
  rw [hn] at c0
  have hfew := Lib.hid h.out.few
  obtain ⟨B0, hB0⟩ : ∃ B0, w.heap.size = B0 := ⟨_, rfl⟩
  have hlow : Hid (∀ y, Gr w y → B0 ≤ y.heap.size) := Lib.hid (fun y hy => by rw [← hB0]; exact Below.size hy)
  have hgo : Hid (∀ y z, Gr w y → Below B0 y z → Gr w z) := Lib.hid (fun y z h1 h2 => by unfold Gr at h1 ⊢; rw [hB0] at h1 ⊢; exact h1.trans h2)
  rw [hB0]
  replace hB0 := Lib.hid hB0
  replace hbk := Lib.hid hbk
  replace hn := Lib.hid hn
  replace hv := Lib.hid hv
  go_enter Try.func11, Try.ntmps11
  go_wp2_with fail
  go_loopw [3, 17] (fun u z wr => ∃ (k : Nat) (A1 : Option Addr) (c1 : Nat) (E1 : List Ne), k ≤ n ∧ u = .slice A1 k c1 ∧ z = .int .i64 k ∧ Hid (E1.length = k) ∧ Hid (E1.map (·.n) = (c.W.take k).map n1) ∧ Hid (OND E1 (.slice A1 k c1) B0 wr) ∧ Hid (Gr w wr)) (fun _ z _ => (n - intOf z).toNat)
  case atStart => exact ⟨0, none, 0, [], Nat.zero_le _, rfl, rfl, Lib.hid rfl, Lib.hid rfl, Lib.hid (OND.nil_ _ _), Lib.hid (Gr.refl _)⟩
  case round =>
    obtain ⟨k, A1, c1, E1, hk, rfl, rfl, hm, hE1, ho, hg⟩ := hrel
    by_cases hlt : k < n
    · have ii : (k : Int) < (n : Int) := by omega
      obtain ⟨q, hq⟩ : ∃ q, x.W[k]? = some q := ⟨_, List.getElem?_eq_getElem (by rw [hn.out]; exact hlt)⟩
      obtain ⟨b, cp', hv', hb, x0, x1, -⟩ := (h.out.gr hg.out).stag hq
      rw [hv.out, hn.out] at hv'
      injection hv' with e1 _ e3
      subst e1 e3
      have hrow := (h.out.gr hg.out).wd q (List.mem_of_getElem? hq)
      obtain ⟨qk, qd, qA, qc⟩ := q
      unfold Wt.v at hrow
      simp only at x0 x1 hrow
      have hcq : c.W[k]? = some (qk, qd) := by rw [h.out.wc, List.getElem?_map, hq]; rfl
      have htk : Hid (∀ A5 c5, (E1 ++ [Ne.mk (n1 (qk, qd)) A5 c5 none 0]).map (·.n) = (c.W.take (k + 1)).map n1) := Lib.hid (fun A5 c5 => by rw [List.take_add_one, hcq, List.map_append, List.map_append, hE1.out]; rfl)
      have hd512 := (h.out.ok.okW _ (List.mem_of_getElem? hcq)).2
      simp only at hd512
      obtain ⟨nd, hnd⟩ : ∃ m, qd.length = m := ⟨_, rfl⟩
      rw [hnd] at x1 hd512 hrow
      obtain ⟨W, hW⟩ : ∃ W, wr.alloc (.cells #[.string (bs qk), .slice qA nd qc] 67) = W := ⟨_, rfl⟩
      obtain ⟨N, hN⟩ : ∃ N, wr.heap.size = N := ⟨_, rfl⟩
      have hgW : Gr wr W := by rw [← hW]; exact Gr.alloc _ _
      have hbW : W.heap[N]? = some (.cells #[.string (bs qk), .slice qA nd qc] 67 (0, 0)) := by rw [← hW, ← hN]; exact heap_alloc_new wr _
      replace hgW := Lib.hid hgW
      replace hbW := Lib.hid hbW
      replace hnd := Lib.hid hnd
      replace hcq := Lib.hid hcq
      replace hq := Lib.hid hq
      replace hd512 := Lib.hid hd512
      replace hrow := Lib.hid hrow
      go_upto_region 7 with (fail)
      (try rw [hW])
      replace hW := Lib.hid hW
      replace hN := Lib.hid hN
      clear x0 x1
      obtain ⟨wd, hwd⟩ : ∃ wd, wd = W.drew := ⟨_, rfl⟩
      have hgd : Gr W wd := by rw [hwd]; exact (Below.refl _ _).drew
      have hbd : Hid (wd.heap[N]? = some (.cells #[.string (bs qk), .slice qA nd qc] 67 (0, 0))) := Lib.hid (blk_below hbW.out hgd)
      have hgw : Hid (Gr w wd) := Lib.hid ((hg.out.trans hgW.out).trans hgd)
      have hod := Lib.hid ((ho.out.gr hgW.out).gr hgd)
      have hrd : Rd wd wd.heap.size qA qd := by
        have h1 := row_below (row_below hrow.out hgW.out) hgd
        rw [← hnd.out] at h1
        exact (OB.rd h1).1
      have hcl := Lib.hid (clone_any qA nd qc qd hnd.out (by have := hd512.out; omega) wd hrd)
      replace hrd := Lib.hid hrd
      clear hgd ho
      refine wpR_region (TChg B0 [32]) 9999 (by kernel_rfl) ?_
      (rw [← hwd]; replace hwd := Lib.hid hwd)
      refine wpR_take (i := 0) (v := ?_) (TChg.road _ _) (some 21) rfl (by kernel_rfl) (by kernel_rfl) (by kernel_rfl) (by kernel_rfl) (by kernel_rfl) (fun _ _ _ h => h) (by kernel_rfl) (fun w' hw' => ?_) ?_
      rotate_left
      · go_simp; with_reducible rfl
      simp only [Act.put, List.setIfInBounds_toArray, List.set_cons_zero, List.set_cons_succ]
      refine wpR_take (i := 1) (v := ?_) (TChg.road _ _) (some 22) rfl (by kernel_rfl) (by kernel_rfl) (by kernel_rfl) (by kernel_rfl) (by kernel_rfl) (fun _ _ _ h => h) (by kernel_rfl) (fun w' hw' => ?_) ?_
      rotate_left
      · go_simp; with_reducible rfl
      simp only [Act.put, List.setIfInBounds_toArray, List.set_cons_zero, List.set_cons_succ]
      refine wpR_take (i := 2) (v := ?_) (TChg.road _ _) (some 23) rfl (by kernel_rfl) (by kernel_rfl) (by kernel_rfl) (by kernel_rfl) (by kernel_rfl) (fun _ _ _ h => h) (by kernel_rfl) (fun w' hw' => ?_) ?_
      rotate_left
      · have q := blk_cell (j := 0) (hw'.block hbd.out (by decide)) rfl; go_simp; with_reducible rfl
      simp only [Act.put, List.setIfInBounds_toArray, List.set_cons_zero, List.set_cons_succ]
      refine wpR_take (i := 3) (v := ?_) (TChg.road _ _) (some 24) rfl (by kernel_rfl) (by kernel_rfl) (by kernel_rfl) (by kernel_rfl) (by kernel_rfl) (fun _ _ _ h => h) (by kernel_rfl) (fun w' hw' => ?_) ?_
      rotate_left
      · go_simp; with_reducible rfl
      simp only [Act.put, List.setIfInBounds_toArray, List.set_cons_zero, List.set_cons_succ]
      refine wpR_take (i := 4) (v := ?_) (TChg.road _ _) (some 25) rfl (by kernel_rfl) (by kernel_rfl) (by kernel_rfl) (by kernel_rfl) (by kernel_rfl) (fun _ _ _ h => h) (by kernel_rfl) (fun w' hw' => ?_) ?_
      rotate_left
      · have q := blk_cell (j := 1) (hw'.block hbd.out (by decide)) rfl; go_simp; with_reducible rfl
      simp only [Act.put, List.setIfInBounds_toArray, List.set_cons_zero, List.set_cons_succ]
      refine wpR_one 5 rfl (by kernel_rfl) (by kernel_rfl) (fun K hK => ?_)
      go_simp
      refine hcl.out.mono ?_
      rintro e w5 ⟨v5, rfl, ho5, hb5⟩
      refine hK _ _ (fun _ => TChg.of_below hb5) ?_
      clear hK K
      clear hcl
      obtain ⟨A5, c5, rfl, -⟩ := ho5.form
      rw [hnd.out] at ho5 ⊢
      have hg5 : Hid (Gr w w5) := Lib.hid (hgw.out.trans hb5)
      have ho5' := Lib.hid ((hod.out.gr hb5).gr (Gr.alloc w5 (.cells #[.int .i64 1, .string (bs qk), .int .i64 0, .int .i64 0, .slice A5 nd c5, .string ⟨#[]⟩, .int .i64 0, .slice none 0 0] 32)))
      have hr5 : Hid (Reads (w5.alloc (.cells #[.int .i64 1, .string (bs qk), .int .i64 0, .int .i64 0, .slice A5 nd c5, .string ⟨#[]⟩, .int .i64 0, .slice none 0 0] 32)) (w5.alloc (.cells #[.int .i64 1, .string (bs qk), .int .i64 0, .int .i64 0, .slice A5 nd c5, .string ⟨#[]⟩, .int .i64 0, .slice none 0 0] 32)).heap.size 8 (some ⟨w5.heap.size, 0, none⟩) 1 (flatN [Ne.mk (n1 (qk, qd)) A5 c5 none 0])) := Lib.hid (Reads.note1 w5 _ _ (by rw [← hnd.out]; rfl))
      have hn5 : Hid (ND [Ne.mk (n1 (qk, qd)) A5 c5 none 0] B0 (w5.alloc (.cells #[.int .i64 1, .string (bs qk), .int .i64 0, .int .i64 0, .slice A5 nd c5, .string ⟨#[]⟩, .int .i64 0, .slice none 0 0] 32))) := Lib.hid (fun y hy => by rw [List.mem_singleton] at hy; subst hy; refine ⟨?_, OP.nil_ _ _⟩; show OB _ B0 (.slice A5 qd.length c5) qd; rw [hnd.out]; exact row_below (row_more ho5 (hlow.out _ hgw.out)) (Gr.alloc _ _))
      have hw5 : Hid (Gr w (w5.alloc (.cells #[.int .i64 1, .string (bs qk), .int .i64 0, .int .i64 0, .slice A5 nd c5, .string ⟨#[]⟩, .int .i64 0, .slice none 0 0] 32))) := Lib.hid (hg5.out.trans (Gr.alloc _ _))
      have hlm : Hid (E1.length + 1 ≤ 1000000000) := Lib.hid (by have := hm.out; omega)
      replace hb5 := Lib.hid hb5
      clear ho5 hod
      try simp only [Act.put, List.setIfInBounds_toArray, List.set_cons_zero, List.set_cons_succ]
      refine wpR_take (i := 6) (v := ?_) (TChg.road _ _) (some 27) rfl (by kernel_rfl) (by kernel_rfl) (by kernel_rfl) (by kernel_rfl) (by kernel_rfl) (fun _ _ _ h => h) (by kernel_rfl) (fun w' hw' => ?_) ?_
      rotate_left
      · go_simp; with_reducible rfl
      simp only [Act.put, List.setIfInBounds_toArray, List.set_cons_zero, List.set_cons_succ]
      refine wpR_one 7 rfl (by kernel_rfl) (by kernel_rfl) (fun K hK => ?_)
      go_simp
      refine hK _ _ (fun _ => TChg.of_alloc _ _) ?_
      clear hK K
      try simp only [Act.put, List.setIfInBounds_toArray, List.set_cons_zero, List.set_cons_succ]
      refine wpR_one 8 rfl (by kernel_rfl) (by kernel_rfl) (fun K hK => ?_)
      refine wp_aNN (.tmp 21) (.tmp 28) rfl B0 (.slice A1 k c1) E1 [Ne.mk (n1 (qk, qd)) A5 c5 none 0] rfl ho5'.out _ (some ⟨w5.heap.size, 0, none⟩) 1 1 rfl rfl hr5.out hn5.out hlm.out (hlow.out _ hw5.out) ?_
      intro v6 w6 ho6 hg6 hb6
      refine hK _ _ (fun _ => TChg.of_row (lo := B0) ho5'.out.1.row hg6 (by simp)) ?_
      clear hK K
      replace hb6 := Lib.hid (hgo.out _ _ hw5.out hb6)
      obtain ⟨A6, c6, rfl, -, -⟩ := OND.form ho6
      have hl6 : (E1 ++ [Ne.mk (n1 (qk, qd)) A5 c5 none 0]).length = k + 1 := (by rw [List.length_append, hm.out]; rfl)
      rw [hl6] at ho6 ⊢
      replace ho6 := Lib.hid ho6
      replace hl6 := Lib.hid hl6
      clear hg6 ho5' hr5 hn5
      try simp only [Act.put, List.setIfInBounds_toArray, List.set_cons_zero, List.set_cons_succ]
      refine wpR_take (i := 9) (v := ?_) (TChg.road _ _) (some 3) rfl (by kernel_rfl) (by kernel_rfl) (by kernel_rfl) (by kernel_rfl) (by kernel_rfl) (fun _ _ _ h => h) (by kernel_rfl) (fun w' hw' => ?_) ?_
      rotate_left
      · go_simp; with_reducible rfl
      simp only [Act.put, List.setIfInBounds_toArray, List.set_cons_zero, List.set_cons_succ]
      refine wpR_done (by kernel_rfl) ?_ _
      go_wp2_with fail
      go_roundw
      case rel => exact ⟨k + 1, A6, c6, _, by omega, rfl, by go_num, hl6, Lib.hid (htk.out A5 c5), ho6, hb6⟩
      case measure => simp [intOf]; omega
    · obtain rfl : k = n := by omega
      have e : (c.W.take k) = c.W := List.take_of_length_le (by rw [hnW.out]; exact Nat.le_refl _)
      rw [e] at hE1
      clear e
      have hgn := Lib.hid (genNotes_any lo g t x c wr (Lib.hid (h.out.gr hg.out)) ht)
      have hlg : Hid ((genP c).length ≤ 1001) := Lib.hid (Nat.le_trans (genP_len hfew.out) (by omega))
      have hL2 : Hid ((E1 ++ (genP c).map e4).map (·.n) = c.W.map n1 ++ (genP c).map n4) := Lib.hid (by rw [List.map_append, hE1.out, List.map_map]; rfl)
      have hll : Hid ((genP c).length = (genP c).length) := Lib.hid rfl
      generalize hgP : (genP c).length = gl at hgn hlg
      replace hgP := Lib.hid hgP
      go_upto_region 10 with (first
        | (go_at_call 29; go_must (refine hgn.out.mono ?_); clear hgn; rintro e w5 ⟨A5, c5, rfl, ho5, hg5⟩; have hw5 : Hid (Gr w w5) := Lib.hid (hg.out.trans hg5); have hr5 : Hid (Reads w5 w5.heap.size 8 A5 gl (flatN ((genP c).map e4))) := (Lib.hid (by unfold O4 at ho5; rw [hgP.out] at ho5; exact Reads.of_own ho5)); have hn5 : Hid (ND ((genP c).map e4) B0 w5) := Lib.hid (ho5.ond.2.lower (hlow.out _ hg.out)); have ho5' : Hid (OND E1 (.slice A1 k c1) B0 w5) := Lib.hid (ho.out.gr hg5); clear ho5 hg5 ho)
        | (at_builtin; go_must (refine wpl_aNN rfl (.tmp 31) (.tmp 33) rfl B0 (.slice A1 k c1) E1 ((genP c).map e4) rfl ho5'.out w5.heap.size A5 gl c5 (by rw [List.length_map]; exact hgP.out) rfl hr5.out hn5.out (by have := hm.out; have := hlg.out; omega) (hlow.out _ hw5.out) ?_); intro v6 w6 ho6 hg6 hb6; replace hb6 := Lib.hid (hgo.out _ _ hw5.out hb6); clear hg6 hr5 hn5 ho5'; obtain ⟨A6, c6, rfl, -, -⟩ := OND.form ho6; have hm6 : (E1 ++ (genP c).map e4).length = k + gl := (by rw [List.length_append, List.length_map, hm.out, hgP.out]); rw [hm6] at ho6 ⊢; replace ho6 := Lib.hid ho6; replace hm6 := Lib.hid hm6))
      obtain ⟨E2, hE2⟩ : ∃ E2, E2 = E1 ++ (genP c).map e4 := ⟨_, rfl⟩
      rw [← hE2] at ho6 hm6 hL2
      obtain ⟨m2, hm2⟩ : ∃ m2, m2 = k + gl := ⟨_, rfl⟩
      rw [← hm2] at ho6 hm6 ⊢
      have hm2l : Hid (m2 ≤ 2001) := Lib.hid (by have := hlg.out; omega)
      clear hE2 hm2 hE1 hm hg hgP hll
      have hen := Lib.hid (entries_any lo g t x c w6 (Lib.hid (h.out.gr hb6.out)) ht)
      have hlE : Hid (c.E.length ≤ 1000) := Lib.hid (by have h1 := hfew.out.2.1; omega)
      generalize hne : c.E.length = ne at hen hlE
      replace hne := Lib.hid hne
      go_wp2_with (go_at_call 19; go_must (refine hen.out.mono ?_); clear hen; rintro e w7 ⟨A3, c3, E3, rfl, hE3, hoe, hg7⟩; have hw7 : Hid (Gr w w7) := Lib.hid (hb6.out.trans hg7); have ho7 : Hid (OND E2 (.slice A6 m2 c6) B0 w7) := Lib.hid (ho6.out.gr hg7); have hoe7 : Hid (OE E3 (.slice A3 ne c3) B0 w7) := (Lib.hid ⟨row_more hoe.1 (hlow.out _ hb6.out), fun y hy => ⟨row_more (hoe.2 y hy).1 (hlow.out _ hb6.out), (hoe.2 y hy).2⟩⟩); replace hE3 := Lib.hid hE3; clear hoe hg7 ho6 hb6)
      have hl3 : Hid (E3.length = ne) := Lib.hid (by have := congrArg List.length hE3.out; rw [List.length_map, List.length_map] at this; exact this.trans hne.out)
      go_loopw [3, 38] (fun u z wr => ∃ (k3 m : Nat) (A1 : Option Addr) (c1 : Nat) (E1 : List Ne), k3 ≤ ne ∧ u = .slice A1 m c1 ∧ z = .int .i64 k3 ∧ Hid (E1.length = m) ∧ Hid (m = m2 + k3) ∧ Hid (E1.map (·.n) = (c.W.map n1 ++ (genP c).map n4) ++ ((c.E.take k3).map Prod.snd).map n2) ∧ Hid (OND E1 (.slice A1 m c1) B0 wr) ∧ Hid (OE E3 (.slice A3 ne c3) B0 wr) ∧ Hid (Gr w wr)) (fun _ z _ => (ne - intOf z).toNat)
      case atStart => exact ⟨0, m2, A6, c6, E2, Nat.zero_le _, rfl, rfl, hm6, Lib.hid rfl, Lib.hid (by rw [hL2.out]; simp), ho7, hoe7, hw7⟩
      case round =>
        obtain ⟨k3, m, A1, c1, E1, hk3, rfl, rfl, hm, hmk, hE1, ho, hoe, hg⟩ := hrel
        clear ho7 hoe7
        by_cases hlt3 : k3 < ne
        · have ii : (k3 : Int) < (ne : Int) := by omega
          have hlE' := hlE.out
          obtain ⟨q, hq⟩ : ∃ q, E3[k3]? = some q := ⟨_, List.getElem?_eq_getElem (by rw [hl3.out]; exact hlt3)⟩
          have hcq : (c.E.map Prod.snd)[k3]? = some q.e := by rw [← hE3.out, List.getElem?_map, hq]; rfl
          have htk : Hid (((c.E.take (k3 + 1)).map Prod.snd).map n2 = ((c.E.take k3).map Prod.snd).map n2 ++ [n2 q.e]) := Lib.hid (by rw [show (c.E.take (k3 + 1)).map Prod.snd = (c.E.map Prod.snd).take (k3 + 1) from List.map_take .., show (c.E.take k3).map Prod.snd = (c.E.map Prod.snd).take k3 from List.map_take .., List.take_add_one, hcq, List.map_append]; rfl)
          have hrow := hoe.out.1
          rw [hl3.out] at hrow
          obtain ⟨b, cp', hv', -, -, -, hb, -, -, hcell, -⟩ := row_at hrow (by omega)
          injection hv' with e1 _ e3
          subst e1 e3
          have x0 := hcell _ _ ((flatE_at hq 0 (by decide)).trans rfl)
          have x1 := hcell _ _ ((flatE_at hq 1 (by decide)).trans rfl)
          have x2 := hcell _ _ ((flatE_at hq 2 (by decide)).trans rfl)
          have x3 := hcell _ _ ((flatE_at hq 3 (by decide)).trans rfl)
          have x4 := hcell _ _ ((flatE_at hq 4 (by decide)).trans rfl)
          have hopl := hoe.out.2 q (List.mem_of_getElem? hq)
          clear hcell
          obtain ⟨qe, qA, qc⟩ := q
          unfold Et.v at x4 hopl
          simp only [Nat.add_zero] at x0 x1 x2 x3 x4 hopl htk
          obtain ⟨np, hnp⟩ : ∃ m, qe.places.length = m := ⟨_, rfl⟩
          rw [hnp] at x4 hopl
          obtain ⟨W, hW⟩ : ∃ W, wr.alloc (.cells #[.string (bs qe.key), .int .i64 qe.gen, .int .i64 qe.size, .string (bs qe.sum), .slice qA np qc] 45) = W := ⟨_, rfl⟩
          obtain ⟨N, hN⟩ : ∃ N, wr.heap.size = N := ⟨_, rfl⟩
          have hgW : Gr wr W := by rw [← hW]; exact Gr.alloc _ _
          have hbW : W.heap[N]? = some (.cells #[.string (bs qe.key), .int .i64 qe.gen, .int .i64 qe.size, .string (bs qe.sum), .slice qA np qc] 45 (0, 0)) := by rw [← hW, ← hN]; exact heap_alloc_new wr _
          have y0 := blk_cell (j := 0) hbW rfl
          have y1 := blk_cell (j := 1) hbW rfl
          have y2 := blk_cell (j := 2) hbW rfl
          have y3 := blk_cell (j := 3) hbW rfl
          have y4 := blk_cell (j := 4) hbW rfl
          have hr9 : Hid (Reads (W.alloc (.cells #[.int .i64 2, .string (bs qe.key), .int .i64 qe.gen, .int .i64 0, .slice none 0 0, .string (bs qe.sum), .int .i64 qe.size, .slice qA np qc] 32)) (W.alloc (.cells #[.int .i64 2, .string (bs qe.key), .int .i64 qe.gen, .int .i64 0, .slice none 0 0, .string (bs qe.sum), .int .i64 qe.size, .slice qA np qc] 32)).heap.size 8 (some ⟨W.heap.size, 0, none⟩) 1 (flatN [Ne.mk (n2 qe) none 0 qA qc])) := Lib.hid (Reads.note1 W _ _ (by rw [← hnp]; rfl))
          have hg9 : Hid (Gr wr (W.alloc (.cells #[.int .i64 2, .string (bs qe.key), .int .i64 qe.gen, .int .i64 0, .slice none 0 0, .string (bs qe.sum), .int .i64 qe.size, .slice qA np qc] 32))) := Lib.hid (hgW.trans (Gr.alloc _ _))
          have hw9 : Hid (Gr w (W.alloc (.cells #[.int .i64 2, .string (bs qe.key), .int .i64 qe.gen, .int .i64 0, .slice none 0 0, .string (bs qe.sum), .int .i64 qe.size, .slice qA np qc] 32))) := Lib.hid (hg.out.trans hg9.out)
          have hn9 : Hid (ND [Ne.mk (n2 qe) none 0 qA qc] B0 (W.alloc (.cells #[.int .i64 2, .string (bs qe.key), .int .i64 qe.gen, .int .i64 0, .slice none 0 0, .string (bs qe.sum), .int .i64 qe.size, .slice qA np qc] 32))) := Lib.hid (fun y hy => by
            rw [List.mem_singleton] at hy
            subst hy
            refine ⟨OB.nil_ _ _, ?_⟩
            show OP qe.places (.slice qA qe.places.length qc) B0 _
            rw [hnp]
            exact ⟨row_below hopl.1 hg9.out, hopl.2⟩)
          have ho9 := Lib.hid (ho.out.gr hg9.out)
          have hoe9 := Lib.hid (hoe.out.gr hg9.out)
          have hlm : Hid (E1.length + 1 ≤ 1000000000) := Lib.hid (by have := hm.out; have := hmk.out; have := hm2l.out; have := hlE.out; omega)
          replace hgW := Lib.hid hgW
          replace hbW := Lib.hid hbW
          replace hnp := Lib.hid hnp
          replace hcq := Lib.hid hcq
          replace hq := Lib.hid hq
          replace hrow := Lib.hid hrow
          replace hopl := Lib.hid hopl
          clear ho hoe hg9 hg
          go_upto_region 13 with (fail)
          (try rw [hW])
          clear x0 x1 x2 x3 x4
          replace hW := Lib.hid hW
          replace hN := Lib.hid hN
          go_wp2_with (at_builtin; go_must (refine wpl_aNN rfl (.tmp 42) (.tmp 54) rfl B0 (.slice A1 m c1) E1 [Ne.mk (n2 qe) none 0 qA qc] rfl ho9.out _ (some ⟨W.heap.size, 0, none⟩) 1 1 rfl rfl hr9.out hn9.out hlm.out (hlow.out _ hw9.out) ?_); intro v8 w8 ho8 hg8 hb8; replace hb8 := Lib.hid (hgo.out _ _ hw9.out hb8); have hoe8 := Lib.hid (hoe9.out.own ho9.out.1 hg8); obtain ⟨A8, c8, rfl, -, -⟩ := OND.form ho8; have hl8 : (E1 ++ [Ne.mk (n2 qe) none 0 qA qc]).length = m + 1 := (by rw [List.length_append, hm.out]; rfl); rw [hl8] at ho8 ⊢; replace ho8 := Lib.hid ho8; replace hl8 := Lib.hid hl8; clear hg8)
          go_roundw
          case rel => exact ⟨k3 + 1, m + 1, A8, c8, _, by omega, rfl, by go_num, hl8, Lib.hid (by have := hmk.out; omega), Lib.hid (by rw [List.map_append, hE1.out, htk.out, List.append_assoc]; rfl), ho8, hoe8, hb8⟩
          case measure => simp [intOf]; omega
        · obtain rfl : k3 = ne := by omega
          have e : (c.E.take k3) = c.E := List.take_of_length_le (by rw [hne.out]; exact Nat.le_refl _)
          rw [e] at hE1
          clear e hoe
          have htm := Lib.hid (tombs_any lo g t x c wr (Lib.hid (h.out.gr hg.out)) ht)
          have hlT : Hid (c.T.length ≤ 1000) := Lib.hid (by have h1 := hfew.out.2.2.2.1; omega)
          generalize hnt : c.T.length = nt at htm hlT
          have hnt2 : ((tombsN c.T).map neN).length = nt := by unfold tombsN; rw [List.length_map, List.length_map]; exact hnt
          replace hnt := Lib.hid hnt
          replace hnt2 := Lib.hid hnt2
          have hL4 : Hid ((E1 ++ (tombsN c.T).map neN).map (·.n) = ((c.W.map n1 ++ (genP c).map n4) ++ (c.E.map Prod.snd).map n2) ++ tombsN c.T) := Lib.hid (by
            have e0 : ((tombsN c.T).map neN).map (·.n) = tombsN c.T := by
              rw [List.map_map]
              exact List.map_id _
            rw [List.map_append, hE1.out, e0])
          go_upto_region 16 with (first
            | (go_at_call 24; go_must (refine htm.out.mono ?_); clear htm; rintro e w9 ⟨A5, c5, rfl, ho5, hg5⟩; have hw9 : Hid (Gr w w9) := Lib.hid (hg.out.trans hg5); have hr9 : Hid (Reads w9 w9.heap.size 8 A5 nt (flatN ((tombsN c.T).map neN))) := (Lib.hid (by have := ho5.row; rw [hnt2.out] at this; exact Reads.of_own this)); have hn9 : Hid (ND ((tombsN c.T).map neN) B0 w9) := (Lib.hid (ND.neN (fun n hn => by unfold tombsN at hn; obtain ⟨e, -, rfl⟩ := List.mem_map.mp hn; exact ⟨rfl, rfl⟩) _ _)); have ho9 : Hid (OND E1 (.slice A1 m c1) B0 w9) := Lib.hid (ho.out.gr hg5); clear ho5 hg5 ho)
            | (at_builtin; go_must (refine wpl_aNN rfl (.tmp 57) (.tmp 59) rfl B0 (.slice A1 m c1) E1 ((tombsN c.T).map neN) rfl ho9.out w9.heap.size A5 nt c5 hnt2.out rfl hr9.out hn9.out (by have := hm.out; have := hmk.out; have := hm2l.out; have := hlE.out; have := hlT.out; omega) (hlow.out _ hw9.out) ?_); intro v10 w10 ho10 hg10 hb10; replace hb10 := Lib.hid (hgo.out _ _ hw9.out hb10); clear hg10 hr9 hn9 ho9; obtain ⟨A10, c10, rfl, -, -⟩ := OND.form ho10; have hm10 : (E1 ++ (tombsN c.T).map neN).length = m + nt := (by rw [List.length_append, hm.out, hnt2.out]); rw [hm10] at ho10 ⊢; replace ho10 := Lib.hid ho10; replace hm10 := Lib.hid hm10))
          obtain ⟨E4, hE4⟩ : ∃ E4, E4 = E1 ++ (tombsN c.T).map neN := ⟨_, rfl⟩
          rw [← hE4] at ho10 hm10 hL4
          obtain ⟨m4, hm4⟩ : ∃ m4, m4 = m + nt := ⟨_, rfl⟩
          rw [← hm4] at ho10 hm10 ⊢
          have hm4l : Hid (m4 ≤ 4001) := Lib.hid (by have := hmk.out; have := hm2l.out; have := hlE.out; have := hlT.out; omega)
          clear hE4 hm4 hE1 hm hg hmk
          have hcR := Lib.hid (h.out.gr hb10.out)
          have g4 := blk_cell (j := 4) hcR.out.blk rfl
          have hlR : Hid (c.R.length ≤ 1000) := Lib.hid (by have h1 := hfew.out.2.2.2.2; omega)
          have hrM : (rM c.R).map Prod.fst = c.R := by
            unfold rM; rw [List.map_map]
            show c.R.map id = _
            exact List.map_id _
          have hK := Lib.hid (fun W => keysR_any (some x.br) W)
          have hS := Lib.hid (sortedR_any x.br t (rM c.R) w10 hcR.out.mr (by unfold rM; rw [List.length_map]; have := hlR.out; omega))
          rw [hrM, show (rM c.R).length = c.R.length from by unfold rM; rw [List.length_map]] at hS
          generalize hnr : c.R.length = nr at hS hlR
          have hnz : (sortZ c.R).length = nr := by rw [sortZ_len]; exact hnr
          replace hnr := Lib.hid hnr
          replace hnz := Lib.hid hnz
          replace hrM := Lib.hid hrM
          obtain ⟨B1, hB1⟩ : ∃ B1, B1 = w10.heap.size := ⟨_, rfl⟩
          have hS2 : Hid (Calls Try.prog 30 #[.func (.func 50) #[] #[.pointer (some ⟨w10.heap.size, 0, none⟩)]] (w10.alloc (.cells #[.map (some x.br)] 61)) fun e w' => ∃ A c2, e = .returned (.slice A nr c2) ∧ OZ (sortZ c.R) (.slice A nr c2) B1 w' ∧ Gr w10 w') := Lib.hid (by rw [hB1]; exact hS.out)
          have hB1l : Hid (B0 ≤ B1) := Lib.hid (by rw [hB1]; exact hlow.out _ hb10.out)
          replace hB1 := Lib.hid hB1
          clear hS
          go_wp2_with (first
            | (go_at_call 31; go_must (refine (hK.out _).mono ?_); rintro e w' ⟨rfl, rfl⟩)
            | (go_at_call 30; go_must (refine hS2.out.mono ?_); clear hK hS2; rintro e w11 ⟨A5, c5, rfl, hoz, hg11⟩; have hw11 : Hid (Gr w w11) := Lib.hid (hb10.out.trans hg11); have ho11 : Hid (OND E4 (.slice A10 m4 c10) B0 w11) := Lib.hid (ho10.out.gr hg11); have hoz11 : Hid (OZ (sortZ c.R) (.slice A5 nr c5) B0 w11) := Lib.hid (row_more hoz hB1l.out); clear hoz hg11 ho10 hb10))
          clear g4
          go_loopw [3, 68] (fun u z wr => ∃ (k5 m : Nat) (A1 : Option Addr) (c1 : Nat) (E1 : List Ne), k5 ≤ nr ∧ u = .slice A1 m c1 ∧ z = .int .i64 k5 ∧ Hid (E1.length = m) ∧ Hid (m = m4 + k5) ∧ Hid (E1.map (·.n) = (((c.W.map n1 ++ (genP c).map n4) ++ (c.E.map Prod.snd).map n2) ++ tombsN c.T) ++ ((sortZ c.R).take k5).map n5) ∧ Hid (OND E1 (.slice A1 m c1) B0 wr) ∧ Hid (OZ (sortZ c.R) (.slice A5 nr c5) B0 wr) ∧ Hid (Gr w wr)) (fun _ z _ => (nr - intOf z).toNat)
          case atStart => exact ⟨0, m4, A10, c10, E4, Nat.zero_le _, rfl, rfl, hm10, Lib.hid rfl, Lib.hid (by rw [hL4.out]; simp), ho11, hoz11, hw11⟩
          case round =>
            obtain ⟨k5, m, A1, c1, E1, hk5, rfl, rfl, hm, hmk, hE1, ho, hoz, hg⟩ := hrel
            clear ho11 hoz11
            by_cases hlt5 : k5 < nr
            · have ii : (k5 : Int) < (nr : Int) := by omega
              have hlR' := hlR.out
              obtain ⟨z, hz⟩ : ∃ z, (sortZ c.R)[k5]? = some z := ⟨_, List.getElem?_eq_getElem (by rw [hnz.out]; exact hlt5)⟩
              have htk : Hid (((sortZ c.R).take (k5 + 1)).map n5 = ((sortZ c.R).take k5).map n5 ++ [n5 z]) := Lib.hid (by rw [List.take_add_one, hz, List.map_append]; rfl)
              have hrow := hoz.out
              unfold OZ at hrow
              rw [hnz.out] at hrow
              obtain ⟨b, cp', hv', -, -, -, hb, -, -, hcell, -⟩ := row_at hrow (by omega)
              injection hv' with e1 _ e3
              subst e1 e3
              have x0 := hcell k5 (.int .i64 z) (by rw [List.getElem?_map, hz]; rfl)
              have hr9 : Hid (Reads (wr.alloc (.cells #[.int .i64 5, .string ⟨#[]⟩, .int .i64 0, .int .i64 z, .slice none 0 0, .string ⟨#[]⟩, .int .i64 0, .slice none 0 0] 32)) (wr.alloc (.cells #[.int .i64 5, .string ⟨#[]⟩, .int .i64 0, .int .i64 z, .slice none 0 0, .string ⟨#[]⟩, .int .i64 0, .slice none 0 0] 32)).heap.size 8 (some ⟨wr.heap.size, 0, none⟩) 1 (flatN [neN (n5 z)])) := Lib.hid (Reads.note1 wr _ _ rfl)
              have hg9 : Gr wr (wr.alloc (.cells #[.int .i64 5, .string ⟨#[]⟩, .int .i64 0, .int .i64 z, .slice none 0 0, .string ⟨#[]⟩, .int .i64 0, .slice none 0 0] 32)) := Gr.alloc _ _
              have hw9 : Hid (Gr w (wr.alloc (.cells #[.int .i64 5, .string ⟨#[]⟩, .int .i64 0, .int .i64 z, .slice none 0 0, .string ⟨#[]⟩, .int .i64 0, .slice none 0 0] 32))) := Lib.hid (hg.out.trans hg9)
              have hn9 : Hid (ND [neN (n5 z)] B0 (wr.alloc (.cells #[.int .i64 5, .string ⟨#[]⟩, .int .i64 0, .int .i64 z, .slice none 0 0, .string ⟨#[]⟩, .int .i64 0, .slice none 0 0] 32))) := Lib.hid (fun y hy => by
                rw [List.mem_singleton] at hy
                subst hy
                exact ⟨OB.nil_ _ _, OP.nil_ _ _⟩)
              have ho9 := Lib.hid (ho.out.gr hg9)
              have hoz9 := Lib.hid (row_below hrow hg9)
              have hlm : Hid (E1.length + 1 ≤ 1000000000) := Lib.hid (by have := hm.out; have := hmk.out; have := hm4l.out; have := hlR.out; omega)
              replace hz := Lib.hid hz
              replace hrow := Lib.hid hrow
              clear ho hoz hg9 hg hcell
              go_wp2_with (at_builtin; go_must (refine wpl_aNN rfl (.tmp 72) (.tmp 75) rfl B0 (.slice A1 m c1) E1 [neN (n5 z)] rfl ho9.out _ (some ⟨wr.heap.size, 0, none⟩) 1 1 rfl rfl hr9.out hn9.out hlm.out (hlow.out _ hw9.out) ?_); intro v8 w8 ho8 hg8 hb8; replace hb8 := Lib.hid (hgo.out _ _ hw9.out hb8); have hoz8 := row_on hoz9.out (by decide) ho9.out.1 hg8; obtain ⟨A8, c8, rfl, -, -⟩ := OND.form ho8; have hl8 : (E1 ++ [neN (n5 z)]).length = m + 1 := (by rw [List.length_append, hm.out]; rfl); rw [hl8] at ho8 ⊢; replace ho8 := Lib.hid ho8; replace hl8 := Lib.hid hl8; replace hoz8 := Lib.hid hoz8; clear hg8)
              go_roundw
              case rel => exact ⟨k5 + 1, m + 1, A8, c8, _, by omega, rfl, by go_num, hl8, Lib.hid (by have := hmk.out; omega), Lib.hid (by rw [List.map_append, hE1.out, htk.out, List.append_assoc _ (((sortZ c.R).take k5).map n5)]; rfl), ho8, Lib.hid (by unfold OZ; rw [hnz.out]; exact hoz8.out), hb8⟩
              case measure => simp [intOf]; omega
            · obtain rfl : k5 = nr := by omega
              have e : (sortZ c.R).take k5 = sortZ c.R := List.take_of_length_le (by rw [hnz.out]; exact Nat.le_refl _)
              rw [e] at hE1
              go_wp2_with fail
              go_ret
              rw [← hm.out] at ho ⊢
              exact ⟨E1, A1, c1, rfl, hE1.out, ho.out, hg.out⟩
end Go.Proofs.Ythboeoidgglcgaa
