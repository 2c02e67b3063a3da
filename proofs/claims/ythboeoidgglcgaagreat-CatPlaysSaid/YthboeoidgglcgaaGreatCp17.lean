/- cat: the law's alike: all that the catalog tells is what the reference tells. -/
import Derived.Test.YthboeoidgglcgaaGreatCp13
import Derived.Test.YthboeoidgglcgaaGreatCp14
import Derived.Test.YthboeoidgglcgaaGreatCp16
import Derived.Test.YthboeoidgglcgaaGreatCt34
namespace Go.Proofs.YthboeoidgglcgaaGreat
set_option linter.unusedVariables false
set_option linter.unusedSimpArgs false
set_option linter.unusedSectionVars false
open Go Go.RowKit Go.Maps Go.Sort Go.Shelf Go.Proofs
theorem NSt.ns {w wr : World} {L : List Nt} {v : Value} (h : NSt w L v wr) : NsV L v wr := by
  obtain ⟨E, A, m, c1, rfl, h1, rfl, h3, h4⟩ := h
  exact h3.ns
theorem tombs_ns (T : List (By × Int)) : ((tombsN T).map neN).map (·.n) = tombsN T := by
  rw [List.map_map, show ((fun x : Ne => x.n) ∘ neN) = id from rfl, List.map_id]
set_option maxRecDepth 10000 in
set_option maxHeartbeats 4000000 in
theorem alike13_any (lo1 g1 t lo2 g2 : Nat) (x : CtX) (y : RcX) (c : CtP) (w : World) (h1 : Hid (Ca w lo1 g1 x c t)) (ht : t ≤ 900) (h2 : Hid (Rc w lo2 g2 y c)) (hf : c.Few 999) :
    Calls Tryz.prog 7 #[.pointer (some ⟨g1, 0, none⟩), .pointer (some ⟨g2, 0, none⟩)] w fun e w' => e = .returned (.bool true) ∧ Gr w w' := by
  have hok := h1.out.ok
  obtain ⟨nW, hnW⟩ : ∃ n, c.W.length = n := ⟨_, rfl⟩
  have hWl : nW ≤ 999 := by have := hf.1; omega
  obtain ⟨AW, cW, hvW, -, -⟩ := row_form h2.out.ws
  rw [hnW] at hvW
  have hcA : Hid (∀ q, Gr w q → Hid (Ca q lo1 g1 x c t)) := Lib.hid (fun q hq => Lib.hid (h1.out.gr hq))
  have hcT : Hid (∀ q, Gr w q → Hid (Rc q lo2 g2 y c)) := Lib.hid (fun q hq => Lib.hid (h2.out.gr hq))
  have hkW : Hid (∀ j x, c.W[j]? = some x → ∃ bW, AW = some ⟨bW, 0, none⟩ ∧ bW < w.heap.size ∧ ∀ q, Gr w q → q.cell? ⟨bW, j * 2, none⟩ = some (.string (bs x.1)) ∧ q.cell? ⟨bW, j * 2 + 1, none⟩ = some (.string (bs x.2))) := Lib.hid (fun j x hx => by
    have hj := (List.getElem?_eq_some_iff.mp hx).1
    obtain ⟨bW, c', e, -, -, -, hb, -, -, hcell, -⟩ := row_at h2.out.ws (by omega)
    rw [hvW] at e
    injection e with e1 _ _
    exact ⟨bW, e1, hb, fun q hq => ⟨(cellGr hq (a := ⟨bW, j * 2, none⟩) hb).trans (hcell _ _ (flatB_at hx).1), (cellGr hq (a := ⟨bW, j * 2 + 1, none⟩) hb).trans (hcell _ _ (flatB_at hx).2)⟩⟩)
  obtain ⟨B0, hB0⟩ : ∃ b, w.heap.size = b := ⟨_, rfl⟩
  have hlow : Hid (∀ q, Gr w q → B0 ≤ q.heap.size) := Lib.hid (fun q hq => by rw [← hB0]; exact Below.size hq)
  have hgo : Hid (∀ q r, Gr w q → Below B0 q r → Gr w r) := Lib.hid (fun q r h1 h2 => by unfold Gr at h1 ⊢; rw [hB0] at h1 ⊢; exact h1.trans h2)
  have ho0 : Hid (OS [] (.slice (some ⟨w.heap.size, 0, none⟩) 0 0) B0 (w.alloc (.cells #[] 9))) := Lib.hid (World.ownsRow_made w #[] 0 (by rw [hB0]; exact Nat.le_refl _) (by simp [maxLen]) rfl)
  have hg0 : Hid (Gr w (w.alloc (.cells #[] 9))) := Lib.hid (Gr.alloc _ _)
  have hg2B : Hid (g2 < B0) := Lib.hid (by rw [← hB0]; exact blk_lt h2.out.blk)
  replace hB0 := Lib.hid hB0
  replace hvW := Lib.hid hvW
  replace hnW := Lib.hid hnW
  go_enter Tryz.func7, Tryz.ntmps7
  go_wp2_with fail
  go_loopw [5, 6] (fun q u wr => ∃ (k : Nat) (A1 : Option Addr) (c1 : Nat), k ≤ nW ∧ q = .slice A1 k c1 ∧ u = .int .i64 k ∧ Hid (OS ((c.W.map Prod.fst).take k) (.slice A1 k c1) B0 wr) ∧ Hid (Gr w wr)) (fun _ u _ => (nW - intOf u).toNat)
  case atStart => exact ⟨0, _, _, Nat.zero_le _, rfl, rfl, ho0, hg0⟩
  case round =>
    obtain ⟨k, A1, c1, hk, rfl, rfl, ho, hg⟩ := hrel
    clear ho0 hg0
    have y0 := blk_cell (j := 0) (hcT.out wr hg.out).out.blk rfl
    rw [hvW.out] at y0
    by_cases hlt : k < nW
    · have ii : (k : Int) < (nW : Int) := by omega
      obtain ⟨e, hx⟩ : ∃ e, c.W[k]? = some e := ⟨_, List.getElem?_eq_getElem (by rw [hnW.out]; exact hlt)⟩
      obtain ⟨bW, rfl, hbB, hkx⟩ := hkW.out k e hx
      rw [hB0.out] at hbB
      have hkx' := Lib.hid hkx
      obtain ⟨p0, p1⟩ := hkx wr hg.out
      have htk : Hid ((c.W.map Prod.fst).take (k + 1) = (c.W.map Prod.fst).take k ++ [e.1]) := Lib.hid (by rw [List.take_add_one, List.getElem?_map, hx]; rfl)
      have htl : Hid (((c.W.map Prod.fst).take k).length = k) := Lib.hid (by rw [List.length_take, List.length_map, hnW.out]; omega)
      have hhW : hasP c.W e.1 = true := (hasP_iff _ _).mpr ⟨e, List.mem_of_getElem? hx, rfl⟩
      have hhE : hasP c.E e.1 = false := hok.ap _ hhW
      have hget : getP c.W e.1 [] = e.2 := getP_mem hok.dW (v := e.2) (List.mem_of_getElem? hx) _
      have hkk : Hid (e.1.length ≤ maxLen) := Lib.hid (key_le (hok.okW e (List.mem_of_getElem? hx)).1)
      have hha : Hid (c.has e.1 = true) := Lib.hid (by unfold CtP.has; rw [hhW, Bool.or_true])
      obtain ⟨ld, hld⟩ : ∃ l, e.2.length = l := ⟨_, rfl⟩
      have hda : Hid (∀ q, Gr w q → Calls Tryz.prog 8 #[.pointer (some ⟨g1, 0, none⟩), .string (bs e.1)] q fun z w' => ∃ A cc, z = .returned (.tuple #[.slice A ld cc, .bool true]) ∧ OB w' q.heap.size (.slice A ld cc) e.2 ∧ Gr q w') := Lib.hid (fun q hq => by
        have h3 := data_any lo1 g1 t x c q (hcA.out q hq) (by omega) e.1
        rw [hget, hhW, hld] at h3
        exact h3)
      have hen : Hid (∀ q, Gr w q → Calls Tryz.prog 9 #[.pointer (some ⟨g1, 0, none⟩), .string (bs e.1)] q fun z w' => ∃ (s1 s2 : ByteArray) (z1 z2 : Int) (A : Option Addr) (n cc : Nat), z = .returned (.tuple #[.agg #[.string s1, .int .i64 z1, .int .i64 z2, .string s2, .slice A n cc], .bool false]) ∧ Gr q w') := Lib.hid (fun q hq => by
        refine (entry_any lo1 g1 t x c q (hcA.out q hq) e.1 hkk.out).mono ?_
        rintro z w' ⟨A, cc, rfl, -, hgz⟩
        exact ⟨_, _, _, _, A, _, cc, by rw [hhE]; rfl, hgz⟩)
      replace hx := Lib.hid hx
      replace hhW := Lib.hid hhW
      replace hhE := Lib.hid hhE
      replace hget := Lib.hid hget
      replace hld := Lib.hid hld
      obtain ⟨ek, ed⟩ := e
      simp only at p0 p1 htk hda hen
      clear hkx
      have hr9 : Hid (Reads (wr.alloc (.cells #[.string (bs ek)] 9)) (wr.heap.size + 1) 1 (some ⟨wr.heap.size, 0, none⟩) 1 [sV ek]) := Lib.hid (sV_lit wr ek)
      have hgA : Gr wr (wr.alloc (.cells #[.string (bs ek)] 9)) := Gr.alloc _ _
      have hw9 := Lib.hid (hg.out.trans hgA)
      have ho9 := Lib.hid (OS.below hgA ho.out)
      clear ho hgA
      go_upto_region 6 with (at_builtin; go_must (refine wpl_appS rfl (.tmp 29) (.tmp 38) rfl B0 (.slice A1 k c1) ((c.W.map Prod.fst).take k) rfl ho9.out (some ⟨wr.heap.size, 0, none⟩) 1 _ ek rfl hr9.out (by rw [htl.out]; omega) (hlow.out _ hw9.out) ?_); intro v8 w8 ho8 hgr8; have hb8 := (Below.refl B0 _).grown hgr8 (hlow.out _ hw9.out) (fun q hq => (World.ownsRow.lt ho9.out q hq).1); have hg8 : Hid (Gr w w8) := Lib.hid (hgo.out _ _ hw9.out hb8); obtain ⟨A8, c8, rfl, -, -⟩ := OS.form ho8; have hl8 : ((c.W.map Prod.fst).take k ++ [ek]).length = k + 1 := (by rw [List.length_append, htl.out]; rfl); rw [hl8] at ho8 ⊢; replace ho8 := Lib.hid ho8; replace hl8 := Lib.hid hl8; replace hb8 := Lib.hid hb8; clear hgr8)
      clear y0 p0 p1
      have y0 := blk_cell (j := 0) (hcT.out w8 hg8.out).out.blk rfl
      rw [hvW.out] at y0
      obtain ⟨p0, -⟩ := hkx'.out w8 hg8.out
      simp only at p0
      go_upto_region 8 with (first
        | (go_at_call 8; go_must (refine (hda.out _ hg8.out).mono ?_); rintro z w9 ⟨A9, c9, rfl, hob9, hg9⟩
           have hg9' : Hid (Gr w w9) := Lib.hid (hg8.out.trans hg9)
           replace hob9 := Lib.hid hob9
           replace hg9 := Lib.hid hg9
           have y9 := blk_cell (j := 0) (hcT.out w9 hg9'.out).out.blk rfl
           rw [hvW.out] at y9
           obtain ⟨p9, -⟩ := hkx'.out w9 hg9'.out
           simp only at p9)
        | (go_at_call 9; go_must (refine (hen.out _ hg9'.out).mono ?_); rintro z w10 ⟨s1, s2, z1, z2, A10, n10, c10, rfl, hg10⟩
           have hg10' : Hid (Gr w w10) := Lib.hid (hg9'.out.trans hg10)
           replace hg10 := Lib.hid hg10))
      clear y0 p0 y9 p9
      obtain ⟨wb, hwb⟩ : ∃ W, w10.alloc (.cells #[.string s1, .int .i64 z1, .int .i64 z2, .string s2, .slice A10 n10 c10] 43) = W := ⟨_, rfl⟩
      have hgb : Gr w10 wb := by rw [← hwb]; exact Gr.alloc _ _
      rw [hwb]
      replace hwb := Lib.hid hwb
      obtain ⟨we, hwe⟩ : ∃ we, we = wb.drew := ⟨_, rfl⟩
      have hge0 : Gr w10 we := hgb.trans (by rw [hwe]; exact (Below.refl _ _).drew)
      replace hgb := Lib.hid hgb
      have hge := Lib.hid (hg10'.out.trans hge0)
      have hobE := Lib.hid (row_below (row_below hob9.out hg10.out) hge0)
      replace hge0 := Lib.hid hge0
      have hhs := Lib.hid (has_any lo1 g1 t x c we (hcA.out we hge.out) (by omega) ek hkk.out)
      rw [show c.has ek = true from hha.out] at hhs
      refine wpR_region (Gr) 9999 (by kernel_rfl) ?_
      (rw [← hwe]; replace hwe := Lib.hid hwe)
      refine wT (i := 0) (v := ?_) (Gr.road) (some 66) rfl (fun w' hw' => ?_) ?_
      rotate_left
      · go_simp; with_reducible rfl
      simp only [Act.put, List.setIfInBounds_toArray, List.set_cons_zero, List.set_cons_succ]
      refine wT (i := 1) (v := ?_) (Gr.road) (some 67) rfl (fun w' hw' => ?_) ?_
      rotate_left
      · go_simp; with_reducible rfl
      simp only [Act.put, List.setIfInBounds_toArray, List.set_cons_zero, List.set_cons_succ]
      refine wT (i := 2) (v := ?_) (Gr.road) (some 68) rfl (fun w' hw' => ?_) ?_
      rotate_left
      · go_simp; with_reducible rfl
      simp only [Act.put, List.setIfInBounds_toArray, List.set_cons_zero, List.set_cons_succ]
      refine wT (i := 3) (v := ?_) (Gr.road) (some 69) rfl (fun w' hw' => ?_) ?_
      rotate_left
      · go_simp; with_reducible rfl
      simp only [Act.put, List.setIfInBounds_toArray, List.set_cons_zero, List.set_cons_succ]
      refine wT (i := 4) (v := ?_) (Gr.road) (some 70) rfl (fun w' hw' => ?_) ?_
      rotate_left
      · have hcv := run_str_at (n := ld) c9 (OB.rd (row_below hobE.out hw')).1 hld.out; go_simp; with_reducible rfl
      simp only [Act.put, List.setIfInBounds_toArray, List.set_cons_zero, List.set_cons_succ]
      refine wT (i := 5) (v := ?_) (Gr.road) (some 71) rfl (fun w' hw' => ?_) ?_
      rotate_left
      · go_simp; with_reducible rfl
      simp only [Act.put, List.setIfInBounds_toArray, List.set_cons_zero, List.set_cons_succ]
      refine wT (i := 6) (v := ?_) (Gr.road) (some 72) rfl (fun w' hw' => ?_) ?_
      rotate_left
      · go_simp; with_reducible rfl
      simp only [Act.put, List.setIfInBounds_toArray, List.set_cons_zero, List.set_cons_succ]
      refine wT (i := 7) (v := ?_) (Gr.road) (some 73) rfl (fun w' hw' => ?_) ?_
      rotate_left
      · go_simp; with_reducible rfl
      simp only [Act.put, List.setIfInBounds_toArray, List.set_cons_zero, List.set_cons_succ]
      refine wT (i := 8) (v := ?_) (Gr.road) (some 74) rfl (fun w' hw' => ?_) ?_
      rotate_left
      · have z := blk_cell (j := 0) (hcT.out _ (hge.out.trans hw')).out.blk rfl; rw [hvW.out] at z; go_simp; with_reducible rfl
      simp only [Act.put, List.setIfInBounds_toArray, List.set_cons_zero, List.set_cons_succ]
      refine wT (i := 9) (v := ?_) (Gr.road) (some 75) rfl (fun w' hw' => ?_) ?_
      rotate_left
      · go_simp; with_reducible rfl
      simp only [Act.put, List.setIfInBounds_toArray, List.set_cons_zero, List.set_cons_succ]
      refine wT (i := 10) (v := ?_) (Gr.road) (some 76) rfl (fun w' hw' => ?_) ?_
      rotate_left
      · go_simp; with_reducible rfl
      simp only [Act.put, List.setIfInBounds_toArray, List.set_cons_zero, List.set_cons_succ]
      refine wT (i := 11) (v := ?_) (Gr.road) (some 77) rfl (fun w' hw' => ?_) ?_
      rotate_left
      · go_simp; with_reducible rfl
      simp only [Act.put, List.setIfInBounds_toArray, List.set_cons_zero, List.set_cons_succ]
      refine wT (i := 12) (v := ?_) (Gr.road) (some 78) rfl (fun w' hw' => ?_) ?_
      rotate_left
      · obtain ⟨u0, u1⟩ := hkx'.out _ (hge.out.trans hw'); (try simp only at u0 u1); go_simp; with_reducible rfl
      simp only [Act.put, List.setIfInBounds_toArray, List.set_cons_zero, List.set_cons_succ]
      refine wT (i := 13) (v := ?_) (Gr.road) (some 79) rfl (fun w' hw' => ?_) ?_
      rotate_left
      · go_simp; with_reducible rfl
      simp only [Act.put, List.setIfInBounds_toArray, List.set_cons_zero, List.set_cons_succ]
      refine wT (i := 14) (v := ?_) (Gr.road) (some 80) rfl (fun w' hw' => ?_) ?_
      rotate_left
      · go_simp; with_reducible rfl
      simp only [Act.put, List.setIfInBounds_toArray, List.set_cons_zero, List.set_cons_succ]
      refine wT (i := 15) (v := ?_) (Gr.road) (some 81) rfl (fun w' hw' => ?_) ?_
      rotate_left
      · go_simp; with_reducible rfl
      simp only [Act.put, List.setIfInBounds_toArray, List.set_cons_zero, List.set_cons_succ]
      refine wT (i := 16) (v := ?_) (Gr.road) (some 82) rfl (fun w' hw' => ?_) ?_
      rotate_left
      · go_simp; with_reducible rfl
      simp only [Act.put, List.setIfInBounds_toArray, List.set_cons_zero, List.set_cons_succ]
      refine wT (i := 17) (v := ?_) (Gr.road) (some 83) rfl (fun w' hw' => ?_) ?_
      rotate_left
      · go_simp; with_reducible rfl
      simp only [Act.put, List.setIfInBounds_toArray, List.set_cons_zero, List.set_cons_succ]
      refine wT (i := 18) (v := ?_) (Gr.road) (some 84) rfl (fun w' hw' => ?_) ?_
      rotate_left
      · go_simp; with_reducible rfl
      simp only [Act.put, List.setIfInBounds_toArray, List.set_cons_zero, List.set_cons_succ]
      refine wT (i := 19) (v := ?_) (Gr.road) (some 85) rfl (fun w' hw' => ?_) ?_
      rotate_left
      · go_simp; with_reducible rfl
      simp only [Act.put, List.setIfInBounds_toArray, List.set_cons_zero, List.set_cons_succ]
      refine wT (i := 20) (v := ?_) (Gr.road) (some 86) rfl (fun w' hw' => ?_) ?_
      rotate_left
      · go_simp; with_reducible rfl
      simp only [Act.put, List.setIfInBounds_toArray, List.set_cons_zero, List.set_cons_succ]
      refine wT (i := 21) (v := ?_) (Gr.road) (some 87) rfl (fun w' hw' => ?_) ?_
      rotate_left
      · go_simp; with_reducible rfl
      simp only [Act.put, List.setIfInBounds_toArray, List.set_cons_zero, List.set_cons_succ]
      refine wT (i := 22) (v := ?_) (Gr.road) (some 88) rfl (fun w' hw' => ?_) ?_
      rotate_left
      · go_simp; with_reducible rfl
      simp only [Act.put, List.setIfInBounds_toArray, List.set_cons_zero, List.set_cons_succ]
      refine wT (i := 23) (v := ?_) (Gr.road) (some 89) rfl (fun w' hw' => ?_) ?_
      rotate_left
      · have z := blk_cell (j := 0) (hcT.out _ (hge.out.trans hw')).out.blk rfl; rw [hvW.out] at z; go_simp; with_reducible rfl
      simp only [Act.put, List.setIfInBounds_toArray, List.set_cons_zero, List.set_cons_succ]
      refine wT (i := 24) (v := ?_) (Gr.road) (some 90) rfl (fun w' hw' => ?_) ?_
      rotate_left
      · go_simp; with_reducible rfl
      simp only [Act.put, List.setIfInBounds_toArray, List.set_cons_zero, List.set_cons_succ]
      refine wT (i := 25) (v := ?_) (Gr.road) (some 91) rfl (fun w' hw' => ?_) ?_
      rotate_left
      · go_simp; with_reducible rfl
      simp only [Act.put, List.setIfInBounds_toArray, List.set_cons_zero, List.set_cons_succ]
      refine wT (i := 26) (v := ?_) (Gr.road) (some 92) rfl (fun w' hw' => ?_) ?_
      rotate_left
      · go_simp; with_reducible rfl
      simp only [Act.put, List.setIfInBounds_toArray, List.set_cons_zero, List.set_cons_succ]
      refine wT (i := 27) (v := ?_) (Gr.road) (some 93) rfl (fun w' hw' => ?_) ?_
      rotate_left
      · obtain ⟨u0, u1⟩ := hkx'.out _ (hge.out.trans hw'); (try simp only at u0 u1); go_simp; with_reducible rfl
      simp only [Act.put, List.setIfInBounds_toArray, List.set_cons_zero, List.set_cons_succ]
      refine wpR_one 28 rfl (by kernel_rfl) (by kernel_rfl) (fun K hK => ?_)
      go_simp
      refine hhs.out.mono ?_
      rintro z w11 ⟨rfl, hg11⟩
      refine hK _ _ (fun _ => hg11) ?_
      clear hK K
      clear hhs
      have hg11' : Hid (Gr w w11) := Lib.hid (hge.out.trans hg11)
      replace hg11 := Lib.hid hg11
      try simp only [Act.put, List.setIfInBounds_toArray, List.set_cons_zero, List.set_cons_succ]
      refine wT (i := 29) (v := ?_) (Gr.road) (some 95) rfl (fun w' hw' => ?_) ?_
      rotate_left
      · go_simp; with_reducible rfl
      simp only [Act.put, List.setIfInBounds_toArray, List.set_cons_zero, List.set_cons_succ]
      refine wT (i := 30) (v := ?_) (Gr.road) (some 96) rfl (fun w' hw' => ?_) ?_
      rotate_left
      · go_simp; with_reducible rfl
      simp only [Act.put, List.setIfInBounds_toArray, List.set_cons_zero, List.set_cons_succ]
      refine wpR_done (by kernel_rfl) ?_ _
      go_wp2_with fail
      go_roundw
      case rel => exact ⟨k + 1, A8, c8, by omega, rfl, by go_num, Lib.hid (by rw [htk.out]; exact OS.below (hg9.out.trans (hg10.out.trans (hge0.out.trans hg11.out))) ho8.out), hg11'⟩
      case measure => simp [intOf]; omega
    · obtain rfl : nW = k := by omega
      rw [List.take_of_length_le (show (c.W.map Prod.fst).length ≤ nW by rw [List.length_map, hnW.out]; exact Nat.le_refl _)] at ho
      clear hkW hlt
      obtain ⟨nE, hnE⟩ : ∃ n, c.E.length = n := ⟨_, rfl⟩
      have hEb : nE ≤ 999 := by have := hf.2.1; omega
      have hEl : Hid (y.E.length = nE) := Lib.hid (h2.out.len.trans hnE)
      obtain ⟨AE, cE, hvE, -, -⟩ := row_form h2.out.hs.1
      rw [hEl.out] at hvE
      have hkE : Hid (∀ j x, y.E[j]? = some x → ∃ bE, AE = some ⟨bE, 0, none⟩ ∧ ∀ q, Gr w q → q.cell? ⟨bE, j * 5, none⟩ = some (.string (bs x.e.key)) ∧ q.cell? ⟨bE, j * 5 + 1, none⟩ = some (.int .i64 x.e.gen) ∧ q.cell? ⟨bE, j * 5 + 2, none⟩ = some (.int .i64 x.e.size) ∧ q.cell? ⟨bE, j * 5 + 3, none⟩ = some (.string (bs x.e.sum)) ∧ q.cell? ⟨bE, j * 5 + 4, none⟩ = some (.slice x.A x.e.places.length x.c) ∧ Pls x.e.places (.slice x.A x.e.places.length x.c) q) := Lib.hid (fun j x hx => by
        have hj := (List.getElem?_eq_some_iff.mp hx).1
        obtain ⟨bE, c', e, -, -, -, hb, -, -, hcell, -⟩ := row_at h2.out.hs.1 (by omega)
        rw [hvE] at e
        injection e with e1 _ _
        refine ⟨bE, e1, fun q hq => ⟨?_, ?_, ?_, ?_, ?_, (OP.gr hq (Lib.hid (h2.out.hs.2 x (List.mem_of_getElem? hx)))).out.pls⟩⟩
        · exact (cellGr hq (a := ⟨bE, j * 5, none⟩) hb).trans (hcell _ _ ((flatE_at hx 0 (by omega)).trans rfl))
        · exact (cellGr hq (a := ⟨bE, j * 5 + 1, none⟩) hb).trans (hcell _ _ ((flatE_at hx 1 (by omega)).trans rfl))
        · exact (cellGr hq (a := ⟨bE, j * 5 + 2, none⟩) hb).trans (hcell _ _ ((flatE_at hx 2 (by omega)).trans rfl))
        · exact (cellGr hq (a := ⟨bE, j * 5 + 3, none⟩) hb).trans (hcell _ _ ((flatE_at hx 3 (by omega)).trans rfl))
        · exact (cellGr hq (a := ⟨bE, j * 5 + 4, none⟩) hb).trans (hcell _ _ ((flatE_at hx 4 (by omega)).trans rfl)))
      replace hnE := Lib.hid hnE
      replace hvE := Lib.hid hvE
      go_wp2_with fail
      clear y0
      go_loopw [11] (fun u wr => ∃ i : Nat, i ≤ nE ∧ u = .int .i64 i ∧ Hid (OS (c.W.map Prod.fst) (.slice A1 nW c1) B0 wr) ∧ Hid (Gr w wr)) (fun u _ => (nE - intOf u).toNat)
      case atStart => exact ⟨0, Nat.zero_le _, rfl, ho, hg⟩
      case round =>
        obtain ⟨i, hi, rfl, ho2, hg2⟩ := hrel
        clear ho hg
        have y1 := blk_cell (j := 1) (hcT.out wr hg2.out).out.blk rfl
        rw [hvE.out] at y1
        by_cases hlt : i < nE
        · have ii : (i : Int) < (nE : Int) := by omega
          obtain ⟨xe, hxe⟩ : ∃ x, y.E[i]? = some x := ⟨_, List.getElem?_eq_getElem (by rw [hEl.out]; exact hlt)⟩
          obtain ⟨bE, rfl, hkx⟩ := hkE.out i xe hxe
          obtain ⟨p, hp, hpx⟩ : ∃ p, c.E[i]? = some p ∧ p.2 = xe.e := by
            have h5 := congrArg (fun l => l[i]?) h2.out.he
            simp only [List.getElem?_map, hxe, Option.map_some] at h5
            cases hq : c.E[i]? with
            | none => rw [hq] at h5; simp at h5
            | some p => rw [hq] at h5; simp at h5; exact ⟨p, rfl, h5.symm⟩
          have hpm := List.mem_of_getElem? hp
          obtain ⟨o1, o2, -⟩ := hok.okE p hpm
          have hkk : Hid (xe.e.key.length ≤ maxLen) := Lib.hid (by rw [← hpx, o1]; exact key_le o2)
          have hen : entOf c xe.e.key = xe.e := by
            unfold entOf
            rw [← hpx, o1]
            exact getP_mem hok.rE.dist (v := p.2) hpm _
          have hhE : hasP c.E xe.e.key = true := (hasP_iff _ _).mpr ⟨p, hpm, by rw [← hpx, o1]⟩
          have hhW : hasP c.W xe.e.key = false := by
            cases hq : hasP c.W xe.e.key with
            | false => rfl
            | true => have h6 := hok.ap _ hq; rw [hhE] at h6; cases h6
          have hha : c.has xe.e.key = true := by unfold CtP.has; rw [hhE, Bool.true_or]
          clear hp hpx hpm o1 o2 p
          replace hxe := Lib.hid hxe
          obtain ⟨⟨ek, eg, ez, eu, pl⟩, xA, xc⟩ := xe
          simp only at hkx hkk hen hhE hhW hha
          obtain ⟨lp, hlp⟩ : ∃ lp, pl.length = lp := ⟨_, rfl⟩
          rw [hlp] at hkx
          have hkx' := Lib.hid hkx
          have hna : Hid (∀ q, Gr w q → Calls Tryz.prog 9 #[.pointer (some ⟨g1, 0, none⟩), .string (bs ek)] q fun z w' => ∃ A cc, z = .returned (.tuple #[.agg #[.string (bs ek), .int .i64 eg, .int .i64 ez, .string (bs eu), .slice A lp cc], .bool true]) ∧ Pls pl (.slice A lp cc) w' ∧ Gr q w') := Lib.hid (fun q hq => by
            refine (entry_any lo1 g1 t x c q (hcA.out q hq) ek hkk.out).mono ?_
            rintro z w' ⟨A, cc, rfl, hop, hgz⟩
            rw [hen] at hop ⊢
            unfold Et.agg Et.v
            simp only at hop ⊢
            rw [hlp] at hop ⊢
            exact ⟨A, cc, by rw [hhE], hop.pls, hgz⟩)
          have hda : Hid (∀ q, Gr w q → Calls Tryz.prog 8 #[.pointer (some ⟨g1, 0, none⟩), .string (bs ek)] q fun z w' => ∃ A n cc, z = .returned (.tuple #[.slice A n cc, .bool false]) ∧ Gr q w') := Lib.hid (fun q hq => by
            refine (data_any lo1 g1 t x c q (hcA.out q hq) (by omega) ek).mono ?_
            rintro z w' ⟨A, cc, rfl, -, hgz⟩
            exact ⟨A, _, cc, by rw [hhW], hgz⟩)
          have hhs : Hid (∀ q, Gr w q → Calls Tryz.prog 11 #[.pointer (some ⟨g1, 0, none⟩), .string (bs ek)] q fun z w' => z = .returned (.bool true) ∧ Gr q w') := Lib.hid (fun q hq => by
            have h6 := has_any lo1 g1 t x c q (hcA.out q hq) (by omega) ek hkk.out
            rw [hha] at h6
            exact h6)
          replace hen := Lib.hid hen
          replace hhE := Lib.hid hhE
          replace hhW := Lib.hid hhW
          replace hha := Lib.hid hha
          replace hlp := Lib.hid hlp
          obtain ⟨u0, -⟩ := hkx wr hg2.out
          clear hkx
          go_upto_region 14 with (first
            | (go_at_call 9; go_must (refine (hna.out _ hg2.out).mono ?_); rintro z w5 ⟨A5, c5, rfl, hp5, hg5⟩
               have hg5' : Hid (Gr w w5) := Lib.hid (hg2.out.trans hg5)
               replace hp5 := Lib.hid hp5
               replace hg5 := Lib.hid hg5))
          clear u0 y1
          obtain ⟨wb, hwb⟩ : ∃ W, w5.alloc (.cells #[.string (bs ek), .int .i64 eg, .int .i64 ez, .string (bs eu), .slice A5 lp c5] 43) = W := ⟨_, rfl⟩
          have hgb : Gr w5 wb := by rw [← hwb]; exact Gr.alloc _ _
          have hbx : wb.heap[w5.heap.size]? = some (.cells #[.string (bs ek), .int .i64 eg, .int .i64 ez, .string (bs eu), .slice A5 lp c5] 43 (0, 0)) := by rw [← hwb]; exact heap_alloc_new w5 _
          rw [hwb]
          replace hwb := Lib.hid hwb
          obtain ⟨b5, hb5⟩ : ∃ b, w5.heap.size = b := ⟨_, rfl⟩
          rw [hb5] at hbx ⊢
          replace hb5 := Lib.hid hb5
          have hgb' : Hid (Gr w wb) := Lib.hid (hg5'.out.trans hgb)
          replace hbx := Lib.hid hbx
          replace hgb := Lib.hid hgb
          have y1 := blk_cell (j := 1) (hcT.out wb hgb'.out).out.blk rfl
          rw [hvE.out] at y1
          obtain ⟨u0, -⟩ := hkx'.out wb hgb'.out
          go_upto_region 15 with (first
            | (go_at_call 8; go_must (refine (hda.out _ hgb'.out).mono ?_); rintro z w6 ⟨A6, n6, c6, rfl, hg6⟩
               have hg6' : Hid (Gr w w6) := Lib.hid (hgb'.out.trans hg6)
               replace hg6 := Lib.hid hg6))
          clear u0 y1
          obtain ⟨we, hwe⟩ : ∃ we, we = w6.drew := ⟨_, rfl⟩
          have hge0 : Gr w6 we := by rw [hwe]; exact (Below.refl _ _).drew
          have hge := Lib.hid (hg6'.out.trans hge0)
          have hbe := Lib.hid (blk_below hbx.out (hg6.out.trans hge0))
          have hpe := (Pls.gr (hgb.out.trans (hg6.out.trans hge0)) hp5).out
          obtain ⟨-, -, -, -, -, hpx⟩ := hkx'.out we hge.out
          have hse := Lib.hid (sameE_any ek eg ez eu pl A5 c5 xA xc lp hlp.out we hpe hpx)
          replace hpe := Lib.hid hpe
          clear hpx
          replace hge0 := Lib.hid hge0
          refine wpR_region (Gr) 9999 (by kernel_rfl) ?_
          (rw [← hwe]; replace hwe := Lib.hid hwe)
          refine wT (i := 0) (v := ?_) (Gr.road) (some 132) rfl (fun w' hw' => ?_) ?_
          rotate_left
          · go_simp; with_reducible rfl
          simp only [Act.put, List.setIfInBounds_toArray, List.set_cons_zero, List.set_cons_succ]
          refine wT (i := 1) (v := ?_) (Gr.road) (some 133) rfl (fun w' hw' => ?_) ?_
          rotate_left
          · go_simp; with_reducible rfl
          simp only [Act.put, List.setIfInBounds_toArray, List.set_cons_zero, List.set_cons_succ]
          refine wT (i := 2) (v := ?_) (Gr.road) (some 134) rfl (fun w' hw' => ?_) ?_
          rotate_left
          · go_simp; with_reducible rfl
          simp only [Act.put, List.setIfInBounds_toArray, List.set_cons_zero, List.set_cons_succ]
          refine wT (i := 3) (v := ?_) (Gr.road) (some 135) rfl (fun w' hw' => ?_) ?_
          rotate_left
          · have z0 := blk_cell (j := 0) (blk_below hbe.out hw') rfl; have z1 := blk_cell (j := 1) (blk_below hbe.out hw') rfl; have z2 := blk_cell (j := 2) (blk_below hbe.out hw') rfl; have z3 := blk_cell (j := 3) (blk_below hbe.out hw') rfl; have z4 := blk_cell (j := 4) (blk_below hbe.out hw') rfl; go_simp; with_reducible rfl
          simp only [Act.put, List.setIfInBounds_toArray, List.set_cons_zero, List.set_cons_succ]
          refine wT (i := 4) (v := ?_) (Gr.road) (some 136) rfl (fun w' hw' => ?_) ?_
          rotate_left
          · go_simp; with_reducible rfl
          simp only [Act.put, List.setIfInBounds_toArray, List.set_cons_zero, List.set_cons_succ]
          refine wT (i := 5) (v := ?_) (Gr.road) (some 137) rfl (fun w' hw' => ?_) ?_
          rotate_left
          · go_simp; with_reducible rfl
          simp only [Act.put, List.setIfInBounds_toArray, List.set_cons_zero, List.set_cons_succ]
          refine wT (i := 6) (v := ?_) (Gr.road) (some 138) rfl (fun w' hw' => ?_) ?_
          rotate_left
          · go_simp; with_reducible rfl
          simp only [Act.put, List.setIfInBounds_toArray, List.set_cons_zero, List.set_cons_succ]
          refine wT (i := 7) (v := ?_) (Gr.road) (some 139) rfl (fun w' hw' => ?_) ?_
          rotate_left
          · have z := blk_cell (j := 1) (hcT.out _ (hge.out.trans hw')).out.blk rfl; rw [hvE.out] at z; go_simp; with_reducible rfl
          simp only [Act.put, List.setIfInBounds_toArray, List.set_cons_zero, List.set_cons_succ]
          refine wT (i := 8) (v := ?_) (Gr.road) (some 140) rfl (fun w' hw' => ?_) ?_
          rotate_left
          · go_simp; with_reducible rfl
          simp only [Act.put, List.setIfInBounds_toArray, List.set_cons_zero, List.set_cons_succ]
          refine wT (i := 9) (v := ?_) (Gr.road) (some 141) rfl (fun w' hw' => ?_) ?_
          rotate_left
          · go_simp; with_reducible rfl
          simp only [Act.put, List.setIfInBounds_toArray, List.set_cons_zero, List.set_cons_succ]
          refine wT (i := 10) (v := ?_) (Gr.road) (some 142) rfl (fun w' hw' => ?_) ?_
          rotate_left
          · obtain ⟨u0, u1, u2, u3, u4, -⟩ := hkx'.out _ (hge.out.trans hw'); go_simp; with_reducible rfl
          simp only [Act.put, List.setIfInBounds_toArray, List.set_cons_zero, List.set_cons_succ]
          refine wpR_one 11 rfl (by kernel_rfl) (by kernel_rfl) (fun K hK => ?_)
          go_simp
          refine hse.out.mono ?_
          rintro e w11 ⟨rfl, hg11⟩
          refine hK _ _ (fun _ => hg11) ?_
          clear hK K
          clear hse
          have hg11' : Hid (Gr w w11) := Lib.hid (hge.out.trans hg11)
          replace hg11 := Lib.hid hg11
          try simp only [Act.put, List.setIfInBounds_toArray, List.set_cons_zero, List.set_cons_succ]
          refine wT (i := 12) (v := ?_) (Gr.road) (some 144) rfl (fun w' hw' => ?_) ?_
          rotate_left
          · go_simp; with_reducible rfl
          simp only [Act.put, List.setIfInBounds_toArray, List.set_cons_zero, List.set_cons_succ]
          refine wT (i := 13) (v := ?_) (Gr.road) (some 145) rfl (fun w' hw' => ?_) ?_
          rotate_left
          · go_simp; with_reducible rfl
          simp only [Act.put, List.setIfInBounds_toArray, List.set_cons_zero, List.set_cons_succ]
          refine wT (i := 14) (v := ?_) (Gr.road) (some 146) rfl (fun w' hw' => ?_) ?_
          rotate_left
          · go_simp; with_reducible rfl
          simp only [Act.put, List.setIfInBounds_toArray, List.set_cons_zero, List.set_cons_succ]
          refine wT (i := 15) (v := ?_) (Gr.road) (some 147) rfl (fun w' hw' => ?_) ?_
          rotate_left
          · go_simp; with_reducible rfl
          simp only [Act.put, List.setIfInBounds_toArray, List.set_cons_zero, List.set_cons_succ]
          refine wT (i := 16) (v := ?_) (Gr.road) (some 148) rfl (fun w' hw' => ?_) ?_
          rotate_left
          · go_simp; with_reducible rfl
          simp only [Act.put, List.setIfInBounds_toArray, List.set_cons_zero, List.set_cons_succ]
          refine wT (i := 17) (v := ?_) (Gr.road) (some 149) rfl (fun w' hw' => ?_) ?_
          rotate_left
          · go_simp; with_reducible rfl
          simp only [Act.put, List.setIfInBounds_toArray, List.set_cons_zero, List.set_cons_succ]
          refine wT (i := 18) (v := ?_) (Gr.road) (some 150) rfl (fun w' hw' => ?_) ?_
          rotate_left
          · go_simp; with_reducible rfl
          simp only [Act.put, List.setIfInBounds_toArray, List.set_cons_zero, List.set_cons_succ]
          refine wT (i := 19) (v := ?_) (Gr.road) (some 151) rfl (fun w' hw' => ?_) ?_
          rotate_left
          · go_simp; with_reducible rfl
          simp only [Act.put, List.setIfInBounds_toArray, List.set_cons_zero, List.set_cons_succ]
          refine wT (i := 20) (v := ?_) (Gr.road) (some 152) rfl (fun w' hw' => ?_) ?_
          rotate_left
          · go_simp; with_reducible rfl
          simp only [Act.put, List.setIfInBounds_toArray, List.set_cons_zero, List.set_cons_succ]
          refine wT (i := 21) (v := ?_) (Gr.road) (some 153) rfl (fun w' hw' => ?_) ?_
          rotate_left
          · go_simp; with_reducible rfl
          simp only [Act.put, List.setIfInBounds_toArray, List.set_cons_zero, List.set_cons_succ]
          refine wT (i := 22) (v := ?_) (Gr.road) (some 154) rfl (fun w' hw' => ?_) ?_
          rotate_left
          · have z := blk_cell (j := 1) (hcT.out _ (hg11'.out.trans hw')).out.blk rfl; rw [hvE.out] at z; go_simp; with_reducible rfl
          simp only [Act.put, List.setIfInBounds_toArray, List.set_cons_zero, List.set_cons_succ]
          refine wT (i := 23) (v := ?_) (Gr.road) (some 155) rfl (fun w' hw' => ?_) ?_
          rotate_left
          · go_simp; with_reducible rfl
          simp only [Act.put, List.setIfInBounds_toArray, List.set_cons_zero, List.set_cons_succ]
          refine wT (i := 24) (v := ?_) (Gr.road) (some 156) rfl (fun w' hw' => ?_) ?_
          rotate_left
          · go_simp; with_reducible rfl
          simp only [Act.put, List.setIfInBounds_toArray, List.set_cons_zero, List.set_cons_succ]
          refine wT (i := 25) (v := ?_) (Gr.road) (some 157) rfl (fun w' hw' => ?_) ?_
          rotate_left
          · go_simp; with_reducible rfl
          simp only [Act.put, List.setIfInBounds_toArray, List.set_cons_zero, List.set_cons_succ]
          refine wT (i := 26) (v := ?_) (Gr.road) (some 158) rfl (fun w' hw' => ?_) ?_
          rotate_left
          · obtain ⟨u0, -⟩ := hkx'.out _ (hg11'.out.trans hw'); go_simp; with_reducible rfl
          simp only [Act.put, List.setIfInBounds_toArray, List.set_cons_zero, List.set_cons_succ]
          refine wpR_one 27 rfl (by kernel_rfl) (by kernel_rfl) (fun K hK => ?_)
          go_simp
          refine (hhs.out _ hg11'.out).mono ?_
          rintro e w12 ⟨rfl, hg12⟩
          refine hK _ _ (fun _ => hg12) ?_
          clear hK K
          have hg12' : Hid (Gr w w12) := Lib.hid (hg11'.out.trans hg12)
          replace hg12 := Lib.hid hg12
          try simp only [Act.put, List.setIfInBounds_toArray, List.set_cons_zero, List.set_cons_succ]
          refine wT (i := 28) (v := ?_) (Gr.road) (some 160) rfl (fun w' hw' => ?_) ?_
          rotate_left
          · go_simp; with_reducible rfl
          simp only [Act.put, List.setIfInBounds_toArray, List.set_cons_zero, List.set_cons_succ]
          refine wT (i := 29) (v := ?_) (Gr.road) (some 161) rfl (fun w' hw' => ?_) ?_
          rotate_left
          · go_simp; with_reducible rfl
          simp only [Act.put, List.setIfInBounds_toArray, List.set_cons_zero, List.set_cons_succ]
          refine wpR_done (by kernel_rfl) ?_ _
          go_wp2_with fail
          go_roundw
          case rel => exact ⟨i + 1, by omega, by go_num, Lib.hid (OS.below (hg5.out.trans (hgb.out.trans (hg6.out.trans (hge0.out.trans (hg11.out.trans hg12.out))))) ho2.out), hg12'⟩
          case measure => simp [intOf]; omega
        · obtain rfl : nE = i := by omega
          clear hkE hlt
          obtain ⟨nT, hnT⟩ : ∃ n, c.T.length = n := ⟨_, rfl⟩
          have hTb : nT ≤ 999 := by have := hf.2.2.2.1; omega
          obtain ⟨AT, cT, hvT, -, -⟩ := row_form h2.out.ts
          rw [hnT] at hvT
          have hkT : Hid (∀ j x, c.T[j]? = some x → ∃ bW, AT = some ⟨bW, 0, none⟩ ∧ ∀ q, Gr w q → (∃ cs, q.heap[bW]? = some (.cells cs 63 (0, 0))) ∧ q.cell? ⟨bW, j * 2, none⟩ = some (.string (bs x.1)) ∧ q.cell? ⟨bW, j * 2 + 1, none⟩ = some (.int .i64 x.2)) := Lib.hid (fun j x hx => by
            have hj := (List.getElem?_eq_some_iff.mp hx).1
            obtain ⟨bW, c', e, -, -, -, hb, ⟨cs, hcs⟩, -, hcell, -⟩ := row_at h2.out.ts (by omega)
            rw [hvT] at e
            injection e with e1 _ _
            exact ⟨bW, e1, fun q hq => ⟨⟨cs, blk_below hcs hq⟩, (cellGr hq (a := ⟨bW, j * 2, none⟩) hb).trans (hcell _ _ (flatT_at hx).1), (cellGr hq (a := ⟨bW, j * 2 + 1, none⟩) hb).trans (hcell _ _ (flatT_at hx).2)⟩⟩)
          replace hnT := Lib.hid hnT
          replace hvT := Lib.hid hvT
          go_wp2_with fail
          clear y1
          go_loopw [16] (fun u wr => ∃ z : Int, -1 ≤ z ∧ z ≤ 33 ∧ u = .int .i64 z ∧ Hid (OS (c.W.map Prod.fst) (.slice A1 nW c1) B0 wr) ∧ Hid (Gr w wr)) (fun u _ => (33 - intOf u).toNat)
          case atStart => exact ⟨-1, by omega, by omega, rfl, ho2, hg2⟩
          case round =>
            obtain ⟨z, hz1, hz2, rfl, ho3, hg3⟩ := hrel
            clear ho2 hg2
            by_cases hlt : z < 33
            · have hrt := retired_any lo1 g1 t x c wr (hcA.out wr hg3.out) z (by unfold I64; omega)
              have hou := rout_any lo2 g2 y c wr (hcT.out wr hg3.out) (few1 hf) z
              obtain ⟨b, hb⟩ : ∃ b, c.R.contains z = b := ⟨_, rfl⟩
              rw [hb] at hrt hou
              replace hrt := Lib.hid hrt
              replace hou := Lib.hid hou
              replace hb := Lib.hid hb
              cases b with
              | false =>
                go_wp2_with (first
                  | (go_at_call 29; go_must (refine hrt.out.mono ?_); clear hrt; rintro e w' ⟨rfl, hww⟩; rw [hww]; clear hww w')
                  | (go_at_call 30; go_must (refine hou.out.mono ?_); clear hou; rintro e w' ⟨rfl, hww⟩; rw [hww]; clear hww w'))
                go_roundw
                case rel => exact ⟨z + 1, by omega, by omega, by go_num, ho3, hg3⟩
                case measure => simp [intOf]; omega
              | true =>
                go_wp2_with (first
                  | (go_at_call 29; go_must (refine hrt.out.mono ?_); clear hrt; rintro e w' ⟨rfl, hww⟩; rw [hww]; clear hww w')
                  | (go_at_call 30; go_must (refine hou.out.mono ?_); clear hou; rintro e w' ⟨rfl, hww⟩; rw [hww]; clear hww w'))
                go_roundw
                case rel => exact ⟨z + 1, by omega, by omega, by go_num, ho3, hg3⟩
                case measure => simp [intOf]; omega
            · obtain rfl : z = 33 := by omega
              have hst0 : Hid (NSt w [] (.slice (some ⟨wr.heap.size, 0, none⟩) 0 0) (wr.alloc (.cells #[] 37))) := Lib.hid ⟨[], some ⟨wr.heap.size, 0, none⟩, 0, 0, rfl, rfl, rfl, ⟨World.ownsRow_made wr #[] 0 (Below.size hg3.out) (by simp [maxLen]) rfl, (fun x hx => by cases hx), (fun x hx => by cases hx)⟩, hg3.out.trans (Gr.alloc _ _)⟩
              have hgA : Hid (Gr w (wr.alloc (.cells #[] 37))) := Lib.hid (hg3.out.trans (Gr.alloc _ _))
              have hoA : Hid (OS (c.W.map Prod.fst) (.slice A1 nW c1) B0 (wr.alloc (.cells #[] 37))) := Lib.hid (OS.below (Gr.alloc _ _) ho3.out)
              go_wp2_with fail
              go_loopw [17, 18] (fun q u wr => ∃ (k m : Nat) (A2 : Option Addr) (c2 : Nat), k ≤ nT ∧ q = .slice A2 m c2 ∧ u = .int .i64 k ∧ Hid (NSt w (tombsN (c.T.take k)) (.slice A2 m c2) wr) ∧ Hid (OS (c.W.map Prod.fst) (.slice A1 nW c1) B0 wr) ∧ Hid (Gr w wr)) (fun _ u _ => (nT - intOf u).toNat)
              case atStart => exact ⟨0, 0, _, _, Nat.zero_le _, rfl, rfl, hst0, hoA, hgA⟩
              case round =>
                obtain ⟨k, m, A2, c2, hk, rfl, rfl, hst4, ho4, hg4⟩ := hrel
                clear ho3 hg3 hst0 hoA hgA
                have y3 := blk_cell (j := 3) (hcT.out wr hg4.out).out.blk rfl
                rw [hvT.out] at y3
                by_cases hlt : k < nT
                · have ii : (k : Int) < (nT : Int) := by omega
                  obtain ⟨xt, hxt⟩ : ∃ x, c.T[k]? = some x := ⟨_, List.getElem?_eq_getElem (by rw [hnT.out]; exact hlt)⟩
                  obtain ⟨bW, rfl, hkx⟩ := hkT.out k xt hxt
                  have htk : Hid (tombsN (c.T.take (k + 1)) = tombsN (c.T.take k) ++ [⟨6, xt.1, xt.2, 0, [], [], 1, []⟩]) := Lib.hid (by unfold tombsN; rw [List.take_add_one, hxt, List.map_append]; rfl)
                  have htl : Hid ((tombsN (c.T.take k)).length ≤ 100000) := Lib.hid (by unfold tombsN; rw [List.length_map, List.length_take]; omega)
                  replace hxt := Lib.hid hxt
                  obtain ⟨xk, xg⟩ := xt
                  obtain ⟨wd, hwd⟩ : ∃ wd, wd = wr.drew := ⟨_, rfl⟩
                  have hgd : Gr wr wd := by rw [hwd]; exact (Below.refl _ _).drew
                  have hgw := Lib.hid (hg4.out.trans hgd)
                  have hstd := Lib.hid (hst4.out.gr hgd)
                  have hod := Lib.hid (OS.below hgd ho4.out)
                  have hcd := hcT.out wd hgw.out
                  obtain ⟨hbT, q0, q1⟩ := hkx wd hgw.out
                  replace hbT := Lib.hid hbT
                  replace q0 := Lib.hid q0
                  replace q1 := Lib.hid q1
                  replace hgd := Lib.hid hgd
                  simp only at q0 q1 htk
                  clear hkx
                  go_upto_region 26 with (fail)
                  clear y3
                  refine wpR_region (TChg w.heap.size [37]) 9999 (by kernel_rfl) ?_
                  (rw [← hwd]; replace hwd := Lib.hid hwd)
                  refine wT (i := 0) (v := ?_) (TChg.road _ _) (some 183) rfl (fun w' hw' => ?_) ?_
                  rotate_left
                  · go_simp; with_reducible rfl
                  simp only [Act.put, List.setIfInBounds_toArray, List.set_cons_zero, List.set_cons_succ]
                  refine wT (i := 1) (v := ?_) (TChg.road _ _) (some 184) rfl (fun w' hw' => ?_) ?_
                  rotate_left
                  · go_simp; with_reducible rfl
                  simp only [Act.put, List.setIfInBounds_toArray, List.set_cons_zero, List.set_cons_succ]
                  refine wT (i := 2) (v := ?_) (TChg.road _ _) (some 185) rfl (fun w' hw' => ?_) ?_
                  rotate_left
                  · go_simp; with_reducible rfl
                  simp only [Act.put, List.setIfInBounds_toArray, List.set_cons_zero, List.set_cons_succ]
                  refine wT (i := 3) (v := ?_) (TChg.road _ _) (some 186) rfl (fun w' hw' => ?_) ?_
                  rotate_left
                  · go_simp; with_reducible rfl
                  simp only [Act.put, List.setIfInBounds_toArray, List.set_cons_zero, List.set_cons_succ]
                  refine wT (i := 4) (v := ?_) (TChg.road _ _) (some 187) rfl (fun w' hw' => ?_) ?_
                  rotate_left
                  · have z := blk_cell (j := 3) (hw'.block hcd.out.blk (by decide)) rfl; rw [hvT.out] at z; go_simp; with_reducible rfl
                  simp only [Act.put, List.setIfInBounds_toArray, List.set_cons_zero, List.set_cons_succ]
                  refine wT (i := 5) (v := ?_) (TChg.road _ _) (some 188) rfl (fun w' hw' => ?_) ?_
                  rotate_left
                  · go_simp; with_reducible rfl
                  simp only [Act.put, List.setIfInBounds_toArray, List.set_cons_zero, List.set_cons_succ]
                  refine wT (i := 6) (v := ?_) (TChg.road _ _) (some 189) rfl (fun w' hw' => ?_) ?_
                  rotate_left
                  · go_simp; with_reducible rfl
                  simp only [Act.put, List.setIfInBounds_toArray, List.set_cons_zero, List.set_cons_succ]
                  refine wT (i := 7) (v := ?_) (TChg.road _ _) (some 190) rfl (fun w' hw' => ?_) ?_
                  rotate_left
                  · go_simp; with_reducible rfl
                  simp only [Act.put, List.setIfInBounds_toArray, List.set_cons_zero, List.set_cons_succ]
                  refine wT (i := 8) (v := ?_) (TChg.road _ _) (some 191) rfl (fun w' hw' => ?_) ?_
                  rotate_left
                  · have z := (hw'.cellT hbT.out (by decide) (j := k * 2)).trans q0.out; go_simp; with_reducible rfl
                  simp only [Act.put, List.setIfInBounds_toArray, List.set_cons_zero, List.set_cons_succ]
                  refine wT (i := 9) (v := ?_) (TChg.road _ _) (some 192) rfl (fun w' hw' => ?_) ?_
                  rotate_left
                  · go_simp; with_reducible rfl
                  simp only [Act.put, List.setIfInBounds_toArray, List.set_cons_zero, List.set_cons_succ]
                  refine wT (i := 10) (v := ?_) (TChg.road _ _) (some 193) rfl (fun w' hw' => ?_) ?_
                  rotate_left
                  · go_simp; with_reducible rfl
                  simp only [Act.put, List.setIfInBounds_toArray, List.set_cons_zero, List.set_cons_succ]
                  refine wT (i := 11) (v := ?_) (TChg.road _ _) (some 194) rfl (fun w' hw' => ?_) ?_
                  rotate_left
                  · go_simp; with_reducible rfl
                  simp only [Act.put, List.setIfInBounds_toArray, List.set_cons_zero, List.set_cons_succ]
                  refine wT (i := 12) (v := ?_) (TChg.road _ _) (some 195) rfl (fun w' hw' => ?_) ?_
                  rotate_left
                  · have z := blk_cell (j := 3) (hw'.block hcd.out.blk (by decide)) rfl; rw [hvT.out] at z; go_simp; with_reducible rfl
                  simp only [Act.put, List.setIfInBounds_toArray, List.set_cons_zero, List.set_cons_succ]
                  refine wT (i := 13) (v := ?_) (TChg.road _ _) (some 196) rfl (fun w' hw' => ?_) ?_
                  rotate_left
                  · go_simp; with_reducible rfl
                  simp only [Act.put, List.setIfInBounds_toArray, List.set_cons_zero, List.set_cons_succ]
                  refine wT (i := 14) (v := ?_) (TChg.road _ _) (some 197) rfl (fun w' hw' => ?_) ?_
                  rotate_left
                  · go_simp; with_reducible rfl
                  simp only [Act.put, List.setIfInBounds_toArray, List.set_cons_zero, List.set_cons_succ]
                  refine wT (i := 15) (v := ?_) (TChg.road _ _) (some 198) rfl (fun w' hw' => ?_) ?_
                  rotate_left
                  · go_simp; with_reducible rfl
                  simp only [Act.put, List.setIfInBounds_toArray, List.set_cons_zero, List.set_cons_succ]
                  refine wT (i := 16) (v := ?_) (TChg.road _ _) (some 199) rfl (fun w' hw' => ?_) ?_
                  rotate_left
                  · have z := (hw'.cellT hbT.out (by decide) (j := k * 2 + 1)).trans q1.out; go_simp; with_reducible rfl
                  simp only [Act.put, List.setIfInBounds_toArray, List.set_cons_zero, List.set_cons_succ]
                  refine wT (i := 17) (v := ?_) (TChg.road _ _) (some 200) rfl (fun w' hw' => ?_) ?_
                  rotate_left
                  · go_simp; with_reducible rfl
                  simp only [Act.put, List.setIfInBounds_toArray, List.set_cons_zero, List.set_cons_succ]
                  refine wpR_one 18 rfl (by kernel_rfl) (by kernel_rfl) (fun K hK => ?_)
                  go_simp
                  refine hK _ _ (fun _ => TChg.of_alloc _ _) ?_
                  clear hK K
                  have hoA : Hid (OS (c.W.map Prod.fst) (.slice A1 nW c1) B0 (wd.alloc (.cells #[.int .i64 6, .string (bs xk), .int .i64 xg, .int .i64 0, .slice none 0 0, .string ⟨#[]⟩, .int .i64 1, .slice none 0 0] 37))) := Lib.hid (OS.below (Gr.alloc _ _) hod.out)
                  try simp only [Act.put, List.setIfInBounds_toArray, List.set_cons_zero, List.set_cons_succ]
                  refine wpR_one 19 rfl (by kernel_rfl) (by kernel_rfl) (fun K hK => ?_)
                  refine wp_stepQ (.tmp 183) (.tmp 201) rfl (tombsN (c.T.take k)) (.slice A2 m c2) (neN ⟨6, xk, xg, 0, [], [], 1, []⟩) hstd.out htl.out (neNq_v _ rfl rfl _ none).1 (neNq_v _ rfl rfl wd _).2 _ rfl _ rfl rfl ?_
                  intro A8 m8 c8 w8 hst8 hch8
                  refine hK _ _ (fun _ => hch8) ?_
                  clear hK K
                  have hg8 : Hid (Gr w w8) := Lib.hid (by obtain ⟨E, A, m, c1, -, -, -, -, h4⟩ := hst8; exact h4)
                  have ho8 : Hid (OS (c.W.map Prod.fst) (.slice A1 nW c1) B0 w8) := Lib.hid (row_tchg hoA.out hch8 (by decide))
                  replace hst8 := Lib.hid hst8
                  replace hch8 := Lib.hid hch8
                  simp only [List.getElem_toArray, List.getElem_cons_succ, List.getElem_cons_zero, Act.put, List.setIfInBounds_toArray, List.set_cons_zero, List.set_cons_succ]
                  try simp only [Act.put, List.setIfInBounds_toArray, List.set_cons_zero, List.set_cons_succ]
                  refine wT (i := 20) (v := ?_) (TChg.road _ _) (some 17) rfl (fun w' hw' => ?_) ?_
                  rotate_left
                  · go_simp; with_reducible rfl
                  simp only [Act.put, List.setIfInBounds_toArray, List.set_cons_zero, List.set_cons_succ]
                  refine wpR_done (by kernel_rfl) ?_ _
                  go_wp2_with fail
                  go_roundw
                  case rel => exact ⟨k + 1, m8, A8, c8, by omega, rfl, by go_num, Lib.hid (by rw [htk.out]; exact hst8.out), ho8, hg8⟩
                  case measure => simp [intOf]; omega
                · obtain rfl : nT = k := by omega
                  rw [List.take_of_length_le (show c.T.length ≤ nT by rw [hnT.out]; exact Nat.le_refl _)] at hst4
                  clear hkT hlt
                  obtain ⟨we, hwe⟩ : ∃ we, we = wr.drew := ⟨_, rfl⟩
                  have hgd : Gr wr we := by rw [hwe]; exact (Below.refl _ _).drew
                  have hge := Lib.hid (hg4.out.trans hgd)
                  have hse := Lib.hid (hst4.out.gr hgd)
                  have hoe := Lib.hid (OS.below hgd ho4.out)
                  replace hgd := Lib.hid hgd
                  go_upto_region 27 with (fail)
                  clear y3
                  refine wpR_region (Gr) 9999 (by kernel_rfl) ?_
                  (rw [← hwe]; replace hwe := Lib.hid hwe)
                  refine wT (i := 0) (v := ?_) (Gr.road) (some 203) rfl (fun w' hw' => ?_) ?_
                  rotate_left
                  · go_simp; with_reducible rfl
                  simp only [Act.put, List.setIfInBounds_toArray, List.set_cons_zero, List.set_cons_succ]
                  refine wT (i := 2) (v := ?_) (Gr.road) (some 205) rfl (fun w' hw' => ?_) ?_
                  rotate_left
                  · go_simp; with_reducible rfl
                  simp only [Act.put, List.setIfInBounds_toArray, List.set_cons_zero, List.set_cons_succ]
                  refine wpR_one 1 rfl (by kernel_rfl) (by kernel_rfl) (fun K hK => ?_)
                  go_simp
                  refine (staged_any lo1 g1 t x c we (hcA.out we hge.out) (by omega)).mono ?_
                  rintro e v1 ⟨B1, d1, rfl, ho1, hr1⟩
                  obtain ⟨m1, hm1⟩ : ∃ m, x.W.length = m := ⟨_, rfl⟩
                  rw [hm1] at ho1 ⊢
                  refine hK _ _ (fun _ => hr1) ?_
                  clear hK K
                  have hv1 := Lib.hid (hge.out.trans hr1)
                  have hs1 := same_any _ _ _ _ _ _ _ _ _ _ v1 ho1 (OS.below hr1 hoe.out)
                  rw [decide_eq_true rfl] at hs1
                  replace hs1 := Lib.hid hs1
                  replace ho1 := Lib.hid ho1
                  replace hm1 := Lib.hid hm1
                  replace hr1 := Lib.hid hr1
                  try simp only [Act.put, List.setIfInBounds_toArray, List.set_cons_zero, List.set_cons_succ]
                  refine wpR_one 3 rfl (by kernel_rfl) (by kernel_rfl) (fun K hK => ?_)
                  go_simp
                  refine hs1.out.mono ?_
                  rintro e v3 ⟨rfl, hr3⟩
                  refine hK _ _ (fun _ => hr3) ?_
                  clear hK K
                  have hv3 := Lib.hid (hv1.out.trans hr3)
                  clear hs1
                  replace hr3 := Lib.hid hr3
                  try simp only [Act.put, List.setIfInBounds_toArray, List.set_cons_zero, List.set_cons_succ]
                  refine wT (i := 4) (v := ?_) (Gr.road) (some 207) rfl (fun w' hw' => ?_) ?_
                  rotate_left
                  · go_simp; with_reducible rfl
                  simp only [Act.put, List.setIfInBounds_toArray, List.set_cons_zero, List.set_cons_succ]
                  refine wT (i := 5) (v := ?_) (Gr.road) (some 208) rfl (fun w' hw' => ?_) ?_
                  rotate_left
                  · go_simp; with_reducible rfl
                  simp only [Act.put, List.setIfInBounds_toArray, List.set_cons_zero, List.set_cons_succ]
                  refine wT (i := 7) (v := ?_) (Gr.road) (some 210) rfl (fun w' hw' => ?_) ?_
                  rotate_left
                  · go_simp; with_reducible rfl
                  simp only [Act.put, List.setIfInBounds_toArray, List.set_cons_zero, List.set_cons_succ]
                  refine wpR_one 6 rfl (by kernel_rfl) (by kernel_rfl) (fun K hK => ?_)
                  go_simp
                  refine (keys_any lo1 g1 t x c v3 (hcA.out v3 hv3.out) (by omega)).mono ?_
                  rintro e v6 ⟨B6, d6, rfl, ho6, hr6⟩
                  obtain ⟨m6, hm6⟩ : ∃ m, (keysP c).length = m := ⟨_, rfl⟩
                  rw [hm6] at ho6 ⊢
                  refine hK _ _ (fun _ => hr6) ?_
                  clear hK K
                  have hv6 := Lib.hid (hv3.out.trans hr6)
                  replace ho6 := Lib.hid ho6
                  replace hm6 := Lib.hid hm6
                  replace hr6 := Lib.hid hr6
                  try simp only [Act.put, List.setIfInBounds_toArray, List.set_cons_zero, List.set_cons_succ]
                  refine wpR_one 8 rfl (by kernel_rfl) (by kernel_rfl) (fun K hK => ?_)
                  go_simp
                  refine (rkeys_any lo2 g2 y c v6 (hcT.out v6 hv6.out) hf hok).mono ?_
                  rintro e v8 ⟨B8, d8, rfl, ho8, hr8⟩
                  rw [hm6.out] at ho8 ⊢
                  refine hK _ _ (fun _ => hr8) ?_
                  clear hK K
                  have hv8 := Lib.hid (hv6.out.trans hr8)
                  have hs9 := same_any _ _ _ _ _ _ _ _ _ _ v8 (OS.below hr8 ho6.out) ho8
                  rw [decide_eq_true rfl] at hs9
                  replace hs9 := Lib.hid hs9
                  replace ho8 := Lib.hid ho8
                  replace hr8 := Lib.hid hr8
                  try simp only [Act.put, List.setIfInBounds_toArray, List.set_cons_zero, List.set_cons_succ]
                  refine wpR_one 9 rfl (by kernel_rfl) (by kernel_rfl) (fun K hK => ?_)
                  go_simp
                  refine hs9.out.mono ?_
                  rintro e v9 ⟨rfl, hr9⟩
                  refine hK _ _ (fun _ => hr9) ?_
                  clear hK K
                  have hv9 := Lib.hid (hv8.out.trans hr9)
                  clear hs9
                  replace hr9 := Lib.hid hr9
                  try simp only [Act.put, List.setIfInBounds_toArray, List.set_cons_zero, List.set_cons_succ]
                  refine wT (i := 10) (v := ?_) (Gr.road) (some 213) rfl (fun w' hw' => ?_) ?_
                  rotate_left
                  · go_simp; with_reducible rfl
                  simp only [Act.put, List.setIfInBounds_toArray, List.set_cons_zero, List.set_cons_succ]
                  refine wT (i := 11) (v := ?_) (Gr.road) (some 214) rfl (fun w' hw' => ?_) ?_
                  rotate_left
                  · go_simp; with_reducible rfl
                  simp only [Act.put, List.setIfInBounds_toArray, List.set_cons_zero, List.set_cons_succ]
                  refine wT (i := 12) (v := ?_) (Gr.road) (some 215) rfl (fun w' hw' => ?_) ?_
                  rotate_left
                  · go_simp; with_reducible rfl
                  simp only [Act.put, List.setIfInBounds_toArray, List.set_cons_zero, List.set_cons_succ]
                  refine wT (i := 14) (v := ?_) (Gr.road) (some 217) rfl (fun w' hw' => ?_) ?_
                  rotate_left
                  · go_simp; with_reducible rfl
                  simp only [Act.put, List.setIfInBounds_toArray, List.set_cons_zero, List.set_cons_succ]
                  refine wT (i := 15) (v := ?_) (Gr.road) (some 218) rfl (fun w' hw' => ?_) ?_
                  rotate_left
                  · go_simp; with_reducible rfl
                  simp only [Act.put, List.setIfInBounds_toArray, List.set_cons_zero, List.set_cons_succ]
                  refine wT (i := 16) (v := ?_) (Gr.road) (some 219) rfl (fun w' hw' => ?_) ?_
                  rotate_left
                  · go_simp; with_reducible rfl
                  simp only [Act.put, List.setIfInBounds_toArray, List.set_cons_zero, List.set_cons_succ]
                  refine wT (i := 17) (v := ?_) (Gr.road) (some 220) rfl (fun w' hw' => ?_) ?_
                  rotate_left
                  · have z := blk_cell (j := 1) (hcT.out _ (hv9.out.trans hw')).out.blk rfl; rw [hvE.out] at z; go_simp; with_reducible rfl
                  simp only [Act.put, List.setIfInBounds_toArray, List.set_cons_zero, List.set_cons_succ]
                  refine wpR_one 13 rfl (by kernel_rfl) (by kernel_rfl) (fun K hK => ?_)
                  go_simp
                  refine (entries_any lo1 g1 t x c v9 (hcA.out v9 hv9.out) (by omega)).mono ?_
                  rintro e v13 ⟨B13, d13, E13, rfl, he13, ho13, hr13⟩
                  rw [hnE.out] at ho13 ⊢
                  refine hK _ _ (fun _ => hr13) ?_
                  clear hK K
                  have hv13 := Lib.hid (hv9.out.trans hr13)
                  have hs18 := Lib.hid (alikeE_any (c.E.map Prod.snd) E13 y.E B13 d13 AE cE nE _ _ (by rw [List.length_map, hnE.out]) he13 h2.out.he v13 ho13 (by have h7 := (hcT.out v13 hv13.out).out.hs; rw [hvE.out] at h7; exact h7))
                  replace ho13 := Lib.hid ho13
                  replace he13 := Lib.hid he13
                  replace hr13 := Lib.hid hr13
                  try simp only [Act.put, List.setIfInBounds_toArray, List.set_cons_zero, List.set_cons_succ]
                  refine wpR_one 18 rfl (by kernel_rfl) (by kernel_rfl) (fun K hK => ?_)
                  go_simp
                  refine hs18.out.mono ?_
                  rintro e v18 ⟨rfl, hr18⟩
                  refine hK _ _ (fun _ => hr18) ?_
                  clear hK K
                  have hv18 := Lib.hid (hv13.out.trans hr18)
                  clear hs18
                  replace hr18 := Lib.hid hr18
                  try simp only [Act.put, List.setIfInBounds_toArray, List.set_cons_zero, List.set_cons_succ]
                  refine wT (i := 19) (v := ?_) (Gr.road) (some 222) rfl (fun w' hw' => ?_) ?_
                  rotate_left
                  · go_simp; with_reducible rfl
                  simp only [Act.put, List.setIfInBounds_toArray, List.set_cons_zero, List.set_cons_succ]
                  refine wT (i := 20) (v := ?_) (Gr.road) (some 223) rfl (fun w' hw' => ?_) ?_
                  rotate_left
                  · go_simp; with_reducible rfl
                  simp only [Act.put, List.setIfInBounds_toArray, List.set_cons_zero, List.set_cons_succ]
                  refine wT (i := 21) (v := ?_) (Gr.road) (some 224) rfl (fun w' hw' => ?_) ?_
                  rotate_left
                  · go_simp; with_reducible rfl
                  simp only [Act.put, List.setIfInBounds_toArray, List.set_cons_zero, List.set_cons_succ]
                  refine wT (i := 23) (v := ?_) (Gr.road) (some 226) rfl (fun w' hw' => ?_) ?_
                  rotate_left
                  · go_simp; with_reducible rfl
                  simp only [Act.put, List.setIfInBounds_toArray, List.set_cons_zero, List.set_cons_succ]
                  refine wpR_one 22 rfl (by kernel_rfl) (by kernel_rfl) (fun K hK => ?_)
                  go_simp
                  refine (tombs_any lo1 g1 t x c v18 (hcA.out v18 hv18.out) (by omega)).mono ?_
                  rintro e v22 ⟨B22, d22, rfl, ho22, hr22⟩
                  rw [hnT.out] at ho22 ⊢
                  refine hK _ _ (fun _ => hr22) ?_
                  clear hK K
                  have hv22 := Lib.hid (hv18.out.trans hr22)
                  have hs24 := alike_any _ _ _ _ v22 ho22.ns ((hse.out.gr (hr1.out.trans (hr3.out.trans (hr6.out.trans (hr8.out.trans (hr9.out.trans (hr13.out.trans (hr18.out.trans hr22)))))))).ns)
                  rw [tombs_ns, decide_eq_true rfl] at hs24
                  replace hs24 := Lib.hid hs24
                  replace ho22 := Lib.hid ho22
                  replace hr22 := Lib.hid hr22
                  try simp only [Act.put, List.setIfInBounds_toArray, List.set_cons_zero, List.set_cons_succ]
                  refine wpR_one 24 rfl (by kernel_rfl) (by kernel_rfl) (fun K hK => ?_)
                  go_simp
                  refine hs24.out.mono ?_
                  rintro e v24 ⟨rfl, hr24⟩
                  refine hK _ _ (fun _ => hr24) ?_
                  clear hK K
                  have hv24 := Lib.hid (hv22.out.trans hr24)
                  clear hs24
                  replace hr24 := Lib.hid hr24
                  try simp only [Act.put, List.setIfInBounds_toArray, List.set_cons_zero, List.set_cons_succ]
                  refine wT (i := 25) (v := ?_) (Gr.road) (some 228) rfl (fun w' hw' => ?_) ?_
                  rotate_left
                  · go_simp; with_reducible rfl
                  simp only [Act.put, List.setIfInBounds_toArray, List.set_cons_zero, List.set_cons_succ]
                  refine wT (i := 26) (v := ?_) (Gr.road) (some 229) rfl (fun w' hw' => ?_) ?_
                  rotate_left
                  · go_simp; with_reducible rfl
                  simp only [Act.put, List.setIfInBounds_toArray, List.set_cons_zero, List.set_cons_succ]
                  refine wT (i := 27) (v := ?_) (Gr.road) (some 230) rfl (fun w' hw' => ?_) ?_
                  rotate_left
                  · go_simp; with_reducible rfl
                  simp only [Act.put, List.setIfInBounds_toArray, List.set_cons_zero, List.set_cons_succ]
                  refine wT (i := 29) (v := ?_) (Gr.road) (some 232) rfl (fun w' hw' => ?_) ?_
                  rotate_left
                  · go_simp; with_reducible rfl
                  simp only [Act.put, List.setIfInBounds_toArray, List.set_cons_zero, List.set_cons_succ]
                  refine wT (i := 30) (v := ?_) (Gr.road) (some 233) rfl (fun w' hw' => ?_) ?_
                  rotate_left
                  · go_simp; with_reducible rfl
                  simp only [Act.put, List.setIfInBounds_toArray, List.set_cons_zero, List.set_cons_succ]
                  refine wT (i := 31) (v := ?_) (Gr.road) (some 234) rfl (fun w' hw' => ?_) ?_
                  rotate_left
                  · go_simp; with_reducible rfl
                  simp only [Act.put, List.setIfInBounds_toArray, List.set_cons_zero, List.set_cons_succ]
                  refine wT (i := 32) (v := ?_) (Gr.road) (some 235) rfl (fun w' hw' => ?_) ?_
                  rotate_left
                  · have z := blk_cell (j := 5) (hcT.out _ (hv24.out.trans hw')).out.blk rfl; go_simp; with_reducible rfl
                  simp only [Act.put, List.setIfInBounds_toArray, List.set_cons_zero, List.set_cons_succ]
                  refine wpR_one 28 rfl (by kernel_rfl) (by kernel_rfl) (fun K hK => ?_)
                  go_simp
                  refine (cgen_any lo1 g1 t x c v24 (hcA.out v24 hv24.out)).mono ?_
                  rintro e v28 ⟨rfl, hww⟩
                  have hr28 : Gr v24 v28 := by rw [hww]; exact Gr.refl _
                  refine hK _ _ (fun _ => hr28) ?_
                  clear hK K
                  have hv28 := Lib.hid (hv24.out.trans hr28)
                  clear hww
                  replace hr28 := Lib.hid hr28
                  try simp only [Act.put, List.setIfInBounds_toArray, List.set_cons_zero, List.set_cons_succ]
                  refine wT (i := 33) (v := ?_) (Gr.road) (some 236) rfl (fun w' hw' => ?_) ?_
                  rotate_left
                  · go_simp; with_reducible rfl
                  simp only [Act.put, List.setIfInBounds_toArray, List.set_cons_zero, List.set_cons_succ]
                  refine wT (i := 34) (v := ?_) (Gr.road) (some 237) rfl (fun w' hw' => ?_) ?_
                  rotate_left
                  · go_simp; with_reducible rfl
                  simp only [Act.put, List.setIfInBounds_toArray, List.set_cons_zero, List.set_cons_succ]
                  refine wT (i := 35) (v := ?_) (Gr.road) (some 238) rfl (fun w' hw' => ?_) ?_
                  rotate_left
                  · go_simp; with_reducible rfl
                  simp only [Act.put, List.setIfInBounds_toArray, List.set_cons_zero, List.set_cons_succ]
                  refine wT (i := 36) (v := ?_) (Gr.road) (some 239) rfl (fun w' hw' => ?_) ?_
                  rotate_left
                  · go_simp; with_reducible rfl
                  simp only [Act.put, List.setIfInBounds_toArray, List.set_cons_zero, List.set_cons_succ]
                  refine wT (i := 38) (v := ?_) (Gr.road) (some 241) rfl (fun w' hw' => ?_) ?_
                  rotate_left
                  · go_simp; with_reducible rfl
                  simp only [Act.put, List.setIfInBounds_toArray, List.set_cons_zero, List.set_cons_succ]
                  refine wpR_one 37 rfl (by kernel_rfl) (by kernel_rfl) (fun K hK => ?_)
                  go_simp
                  refine (used_any lo1 g1 t x c v28 (hcA.out v28 hv28.out) (by omega)).mono ?_
                  rintro e v37 ⟨rfl, hr37⟩
                  refine hK _ _ (fun _ => hr37) ?_
                  clear hK K
                  have hv37 := Lib.hid (hv28.out.trans hr37)
                  replace hr37 := Lib.hid hr37
                  try simp only [Act.put, List.setIfInBounds_toArray, List.set_cons_zero, List.set_cons_succ]
                  refine wpR_one 39 rfl (by kernel_rfl) (by kernel_rfl) (fun K hK => ?_)
                  go_simp
                  refine (rused_any lo2 g2 y c v37 (hcT.out v37 hv37.out) hf hok).mono ?_
                  rintro e v39 ⟨rfl, hww⟩
                  have hr39 : Gr v37 v39 := by rw [hww]; exact Gr.refl _
                  refine hK _ _ (fun _ => hr39) ?_
                  clear hK K
                  have hv39 := Lib.hid (hv37.out.trans hr39)
                  clear hww
                  replace hr39 := Lib.hid hr39
                  try simp only [Act.put, List.setIfInBounds_toArray, List.set_cons_zero, List.set_cons_succ]
                  refine wT (i := 40) (v := ?_) (Gr.road) (some 243) rfl (fun w' hw' => ?_) ?_
                  rotate_left
                  · go_simp; with_reducible rfl
                  simp only [Act.put, List.setIfInBounds_toArray, List.set_cons_zero, List.set_cons_succ]
                  refine wT (i := 41) (v := ?_) (Gr.road) (some 244) rfl (fun w' hw' => ?_) ?_
                  rotate_left
                  · go_simp; with_reducible rfl
                  simp only [Act.put, List.setIfInBounds_toArray, List.set_cons_zero, List.set_cons_succ]
                  refine wT (i := 42) (v := ?_) (Gr.road) (some 245) rfl (fun w' hw' => ?_) ?_
                  rotate_left
                  · go_simp; with_reducible rfl
                  simp only [Act.put, List.setIfInBounds_toArray, List.set_cons_zero, List.set_cons_succ]
                  refine wT (i := 43) (v := ?_) (Gr.road) (some 246) rfl (fun w' hw' => ?_) ?_
                  rotate_left
                  · go_simp; with_reducible rfl
                  simp only [Act.put, List.setIfInBounds_toArray, List.set_cons_zero, List.set_cons_succ]
                  refine wT (i := 45) (v := ?_) (Gr.road) (some 248) rfl (fun w' hw' => ?_) ?_
                  rotate_left
                  · go_simp; with_reducible rfl
                  simp only [Act.put, List.setIfInBounds_toArray, List.set_cons_zero, List.set_cons_succ]
                  refine wpR_one 44 rfl (by kernel_rfl) (by kernel_rfl) (fun K hK => ?_)
                  go_simp
                  refine (notes_any lo1 g1 t x c v39 (hcA.out v39 hv39.out) (by omega)).mono ?_
                  rintro e v44 ⟨E44, B44, d44, rfl, he44, ho44, hr44⟩
                  obtain ⟨m44, hm44⟩ : ∃ m, E44.length = m := ⟨_, rfl⟩
                  rw [hm44] at ho44 ⊢
                  refine hK _ _ (fun _ => hr44) ?_
                  clear hK K
                  have hv44 := Lib.hid (hv39.out.trans hr44)
                  replace ho44 := Lib.hid ho44
                  replace he44 := Lib.hid he44
                  replace hm44 := Lib.hid hm44
                  replace hr44 := Lib.hid hr44
                  try simp only [Act.put, List.setIfInBounds_toArray, List.set_cons_zero, List.set_cons_succ]
                  refine wpR_one 46 rfl (by kernel_rfl) (by kernel_rfl) (fun K hK => ?_)
                  go_simp
                  refine (rnotes_any lo2 g2 y c v44 (hcT.out v44 hv44.out) hf hok).mono ?_
                  rintro e v46 ⟨V46, rfl, hst46⟩
                  have hr46 : Gr v44 v46 := by obtain ⟨E, A, m, c1, -, -, -, -, h4⟩ := hst46; exact h4
                  refine hK _ _ (fun _ => hr46) ?_
                  clear hK K
                  have hv46 := Lib.hid (hv44.out.trans hr46)
                  have hs47 := alike_any _ _ _ _ v46 ((ho44.out.gr hr46).1.ns) hst46.ns
                  rw [he44.out, decide_eq_true rfl] at hs47
                  replace hs47 := Lib.hid hs47
                  replace hst46 := Lib.hid hst46
                  replace hr46 := Lib.hid hr46
                  try simp only [Act.put, List.setIfInBounds_toArray, List.set_cons_zero, List.set_cons_succ]
                  refine wpR_one 47 rfl (by kernel_rfl) (by kernel_rfl) (fun K hK => ?_)
                  go_simp
                  refine hs47.out.mono ?_
                  rintro e v47 ⟨rfl, hr47⟩
                  refine hK _ _ (fun _ => hr47) ?_
                  clear hK K
                  have hv47 := Lib.hid (hv46.out.trans hr47)
                  clear hs47
                  replace hr47 := Lib.hid hr47
                  try simp only [Act.put, List.setIfInBounds_toArray, List.set_cons_zero, List.set_cons_succ]
                  refine wT (i := 48) (v := ?_) (Gr.road) (some 251) rfl (fun w' hw' => ?_) ?_
                  rotate_left
                  · go_simp; with_reducible rfl
                  simp only [Act.put, List.setIfInBounds_toArray, List.set_cons_zero, List.set_cons_succ]
                  refine wT (i := 49) (v := ?_) (Gr.road) (some 4) rfl (fun w' hw' => ?_) ?_
                  rotate_left
                  · go_simp; with_reducible rfl
                  simp only [Act.put, List.setIfInBounds_toArray, List.set_cons_zero, List.set_cons_succ]
                  refine wpR_done (by kernel_rfl) ?_ _
                  go_wp2_with fail
                  go_ret
                  exact ⟨rfl, hv47.out⟩
end Go.Proofs.YthboeoidgglcgaaGreat
