/- The laws of label: the fixed fact. -/
import Derived.Test.YticdkmnjolkacabLab7
namespace Go.Proofs.Yticdkmnjolkacab
set_option linter.unusedVariables false
set_option linter.unusedSimpArgs false
open Go Go.RowKit
theorem ok_any (k c g a b d e : Int) (key sum data : List UInt8) (h : R64 k ∧ R64 c ∧ R64 g ∧ R64 a ∧ R64 b ∧ R64 d ∧ R64 e) (hk : key.length ≤ maxLen) (hs : sum.length ≤ maxLen) : (Rc.mk k c key g a b d e sum data).Ok :=
  ⟨h.1, h.2.1, h.2.2.1, h.2.2.2.1, h.2.2.2.2.1, h.2.2.2.2.2.1, h.2.2.2.2.2.2, hk, hs⟩
theorem okR1 : ((Rc.mk 1 5 [] 0 0 0 0 0 [] [])).Ok := ok_any _ _ _ _ _ _ _ _ _ _ (by unfold R64; decide) (by decide) (by decide)
theorem okR2 : ((Rc.mk 1 32 [] 0 0 0 0 0 [] [])).Ok := ok_any _ _ _ _ _ _ _ _ _ _ (by unfold R64; decide) (by decide) (by decide)
theorem okR3 : ((Rc.mk 3 0 [97] 300 0 0 0 0 [] [])).Ok := ok_any _ _ _ _ _ _ _ _ _ _ (by unfold R64; decide) (by decide) (by decide)
theorem gR1 : goodB (Rc.mk 1 5 [] 0 0 0 0 0 [] []) = true := by decide +kernel
theorem gR2 : goodB (Rc.mk 1 32 [] 0 0 0 0 0 [] []) = false := by decide +kernel
theorem gR3 : goodB (Rc.mk 3 0 [97] 300 0 0 0 0 [] []) = true := by decide +kernel
theorem eR1 : ∃ t, encB (Rc.mk 1 5 [] 0 0 0 0 0 [] []) = 107 :: 1 :: 5 :: t ∧ t.length = 4 := ⟨bytes4 (crc (flds (Rc.mk 1 5 [] 0 0 0 0 0 [] []))), by decide +kernel, rfl⟩
theorem eR3 : (encB (Rc.mk 3 0 [97] 300 0 0 0 0 [] [])).length = 4 + 6 := by decide +kernel
theorem eR3b : (encB (Rc.mk 3 0 [97] 300 0 0 0 0 [] []))[1]? = some 3 := by decide +kernel
theorem gsR3 : guess3 (((encB (Rc.mk 3 0 [97] 300 0 0 0 0 [] [])).drop 2).take 4) = (Rc.mk 3 0 [97] 300 0 0 0 0 [] []) := by decide +kernel
theorem same33 : sameR (Rc.mk 3 0 [97] 300 0 0 0 0 [] []) (Rc.mk 3 0 [97] 300 0 0 0 0 [] []) = true := by decide +kernel
theorem same30 : sameR (Rc.mk 3 0 [97] 300 0 0 0 0 [] []) (Rc.mk 0 0 [] 0 0 0 0 0 [] []) = false := by decide +kernel
set_option maxHeartbeats 8000000 in
set_option maxRecDepth 20000 in
theorem awake09_any (w : World) :
    Calls Try.prog 20 #[] w fun e w' => e = .returned (.bool true) ∧ Below w.heap.size w w' := by
  obtain ⟨t1, ht1, htl⟩ := eR1
  have h1 := encode_ok (Rc.mk 1 5 [] 0 0 0 0 0 [] []) none 0 okR1 gR1 w Rd.nil_
  rw [ht1] at h1
  have hl7 : (107 :: 1 :: 5 :: t1).length = 7 := by simp [htl]
  replace ht1 := Lib.hid ht1
  replace htl := Lib.hid htl
  obtain ⟨b1, hb1e⟩ : ∃ b1 : List UInt8, 107 :: 1 :: 5 :: t1 = b1 := ⟨_, rfl⟩
  rw [hb1e] at h1 hl7
  have hx0 : b1[0]? = some 107 := by rw [← hb1e]; rfl
  have hx1 : b1[1]? = some 1 := by rw [← hb1e]; rfl
  have hx2 : b1[2]? = some 5 := by rw [← hb1e]; rfl
  replace hb1e := Lib.hid hb1e
  replace hx0 := Lib.hid hx0
  replace hx1 := Lib.hid hx1
  replace hx2 := Lib.hid hx2
  replace hl7 := Lib.hid hl7
  unfold Rc.agg at h1
  replace h1 := Lib.hid h1
  go_enter Try.func20, Try.ntmps20
  go_wp2_with fail
  refine h1.out.mono ?_
  rintro e w1 ⟨v1, rfl, ho1, hb1⟩
  obtain ⟨g1, c1, rfl, hc1, -, -, hg1, -, -, hcell1, -⟩ := row_at ho1 (by rw [hl7.out]; decide)
  rw [hl7.out] at hc1 ⊢
  have hgc : Hid (∀ W, Below w1.heap.size w1 W → W.cell? ⟨g1, 0, none⟩ = some (.int .u8 107) ∧ W.cell? ⟨g1, 1, none⟩ = some (.int .u8 1) ∧ W.cell? ⟨g1, 2, none⟩ = some (.int .u8 5)) := Lib.hid (fun W hW =>
    ⟨(hW.cell (p := ⟨g1, 0, none⟩) hg1).trans (hcell1 0 _ (by rw [List.getElem?_map, hx0.out]; rfl)), (hW.cell (p := ⟨g1, 1, none⟩) hg1).trans (hcell1 1 _ (by rw [List.getElem?_map, hx1.out]; rfl)), (hW.cell (p := ⟨g1, 2, none⟩) hg1).trans (hcell1 2 _ (by rw [List.getElem?_map, hx2.out]; rfl))⟩)
  clear ho1 hcell1 h1
  replace hb1 := Lib.hid hb1
  have hs1 := hb1.out.size
  have h2 := encode_no (Rc.mk 1 32 [] 0 0 0 0 0 [] []) none 0 okR2 gR2 w1 Rd.nil_
  unfold Rc.agg at h2
  replace h2 := Lib.hid h2
  go_wp2_with fail
  refine h2.out.mono ?_
  rintro e w2 ⟨rfl, hbb⟩
  have hq2 := Lib.hid hbb
  clear hbb h2
  have hs2 := hq2.out.size
  have h3 := encode_ok (Rc.mk 3 0 [97] 300 0 0 0 0 [] []) none 0 okR3 gR3 (w2.alloc (.cells #[.int .i64 3, .int .i64 0, .string (bs [97]), .int .i64 300, .int .i64 0, .int .i64 0, .int .i64 0, .int .i64 0, .string (bs []), .slice none 0 0] 34)) Rd.nil_
  unfold Rc.agg at h3
  replace h3 := Lib.hid h3
  have hP := heap_alloc_new w2 (.cells #[.int .i64 3, .int .i64 0, .string (bs [97]), .int .i64 300, .int .i64 0, .int .i64 0, .int .i64 0, .int .i64 0, .string (bs []), .slice none 0 0] 34)
  have hq3 := Lib.hid (hq2.out.alloc hs2 (.cells #[.int .i64 3, .int .i64 0, .string (bs [97]), .int .i64 300, .int .i64 0, .int .i64 0, .int .i64 0, .int .i64 0, .string (bs []), .slice none 0 0] 34))
  obtain ⟨P, hPe⟩ : ∃ P, w2.heap.size = P := ⟨_, rfl⟩
  rw [hPe] at hP
  replace hP := Lib.hid hP
  replace hPe := Lib.hid hPe
  go_wp2_with fail
  rw [hPe.out]
  refine h3.out.mono ?_
  rintro e w3 ⟨v3, rfl, ho3, hbb⟩
  have hs3 := hq3.out.size
  replace hq3 := Lib.hid (hq3.out.trans (hbb.mono hs3))
  replace hP := Lib.hid (blk_below hP.out hbb)
  obtain ⟨A3, c3, rfl, hc3, hm3, hR3, -⟩ := ho3.form
  rw [eR3] at hc3 ho3 ⊢
  unfold maxLen at hm3
  have h4 := decode3_any A3 4 c3 (encB (Rc.mk 3 0 [97] 300 0 0 0 0 [] [])) eR3 hc3 (by omega) (by decide) [97] 300 eR3b gsR3 okR3 gR3 rfl w3 hR3
  replace h4 := Lib.hid h4
  clear hbb h3 ho3 hR3
  replace hs3 := hq3.out.size
  go_wp2_with fail
  refine h4.out.mono ?_
  rintro e w4 ⟨rfl, hbb⟩
  have hq4 := hq3.out.trans (hbb.mono hs3)
  have hP4 := blk_below hP.out hbb
  have hD := heap_alloc_new w4 (.cells #[.int .i64 3, .int .i64 0, .string (bs [97]), .int .i64 300, .int .i64 0, .int .i64 0, .int .i64 0, .int .i64 0, .string .empty, .slice none 0 0] 34)
  have hP5 := Lib.hid (blk_alloc hP4 (.cells #[.int .i64 3, .int .i64 0, .string (bs [97]), .int .i64 300, .int .i64 0, .int .i64 0, .int .i64 0, .int .i64 0, .string .empty, .slice none 0 0] 34))
  have hq5 := Lib.hid (hq4.alloc hq4.size (.cells #[.int .i64 3, .int .i64 0, .string (bs [97]), .int .i64 300, .int .i64 0, .int .i64 0, .int .i64 0, .int .i64 0, .string .empty, .slice none 0 0] 34))
  obtain ⟨D, hDe⟩ : ∃ D, w4.heap.size = D := ⟨_, rfl⟩
  rw [hDe] at hD
  obtain ⟨k0, k1, k2⟩ := hgc.out _ hq5.out
  replace hD := Lib.hid hD
  have x0 := blk_cell (j := 0) (v := .int .i64 3) hD.out rfl
  have x1 := blk_cell (j := 1) (v := .int .i64 0) hD.out rfl
  have x2 := blk_cell (j := 2) (v := .string (bs [97])) hD.out rfl
  have x3 := blk_cell (j := 3) (v := .int .i64 300) hD.out rfl
  have x4 := blk_cell (j := 4) (v := .int .i64 0) hD.out rfl
  have x5 := blk_cell (j := 5) (v := .int .i64 0) hD.out rfl
  have x6 := blk_cell (j := 6) (v := .int .i64 0) hD.out rfl
  have x7 := blk_cell (j := 7) (v := .int .i64 0) hD.out rfl
  have x8 := blk_cell (j := 8) (v := .string (bs [])) hD.out rfl
  have x9 := blk_cell (j := 9) (v := .slice none 0 0) hD.out rfl
  have y0 := blk_cell (j := 0) (v := .int .i64 3) hP5.out rfl
  have y1 := blk_cell (j := 1) (v := .int .i64 0) hP5.out rfl
  have y2 := blk_cell (j := 2) (v := .string (bs [97])) hP5.out rfl
  have y3 := blk_cell (j := 3) (v := .int .i64 300) hP5.out rfl
  have y4 := blk_cell (j := 4) (v := .int .i64 0) hP5.out rfl
  have y5 := blk_cell (j := 5) (v := .int .i64 0) hP5.out rfl
  have y6 := blk_cell (j := 6) (v := .int .i64 0) hP5.out rfl
  have y7 := blk_cell (j := 7) (v := .int .i64 0) hP5.out rfl
  have y8 := blk_cell (j := 8) (v := .string (bs [])) hP5.out rfl
  have y9 := blk_cell (j := 9) (v := .slice none 0 0) hP5.out rfl
  clear hbb hq4 hP4 hq3 hP h4
  go_wp2_with fail
  obtain ⟨w5, hw5⟩ : ∃ w5, w4.alloc (.cells #[.int .i64 3, .int .i64 0, .string (bs [97]), .int .i64 300, .int .i64 0, .int .i64 0, .int .i64 0, .int .i64 0, .string .empty, .slice none 0 0] 34) = w5 := ⟨_, rfl⟩
  rw [hw5] at hD hP5 hq5 ⊢
  replace hw5 := Lib.hid hw5
  have h5 := same_any (Rc.mk 3 0 [97] 300 0 0 0 0 [] []) (Rc.mk 3 0 [97] 300 0 0 0 0 [] []) none none 0 0 w5 Rd.nil_ Rd.nil_
  rw [same33] at h5
  clear x0 x1 x2 x3 x4 x5 x6 x7 x8 x9
  clear y0 y1 y2 y3 y4 y5 y6 y7 y8 y9
  clear k0 k1 k2
  refine h5.mono ?_
  rintro e w6 ⟨rfl, hbb⟩
  have hD6 := Lib.hid (blk_below hD.out hbb)
  have hP6 := Lib.hid (blk_below hP5.out hbb)
  have hq6 := Lib.hid (hq5.out.trans (hbb.mono hq5.out.size))
  clear hbb h5
  have x0 := blk_cell (j := 0) (v := .int .i64 3) hD6.out rfl
  have x1 := blk_cell (j := 1) (v := .int .i64 0) hD6.out rfl
  have x2 := blk_cell (j := 2) (v := .string (bs [97])) hD6.out rfl
  have x3 := blk_cell (j := 3) (v := .int .i64 300) hD6.out rfl
  have x4 := blk_cell (j := 4) (v := .int .i64 0) hD6.out rfl
  have x5 := blk_cell (j := 5) (v := .int .i64 0) hD6.out rfl
  have x6 := blk_cell (j := 6) (v := .int .i64 0) hD6.out rfl
  have x7 := blk_cell (j := 7) (v := .int .i64 0) hD6.out rfl
  have x8 := blk_cell (j := 8) (v := .string (bs [])) hD6.out rfl
  have x9 := blk_cell (j := 9) (v := .slice none 0 0) hD6.out rfl
  go_wp2_with fail
  clear x0 x1 x2 x3 x4 x5 x6 x7 x8 x9
  have h6 := same_any (Rc.mk 3 0 [97] 300 0 0 0 0 [] []) (Rc.mk 0 0 [] 0 0 0 0 0 [] []) none none 0 0 w6 Rd.nil_ Rd.nil_
  rw [same30] at h6
  refine h6.mono ?_
  rintro e w7 ⟨rfl, hbb⟩
  have hP7 := Lib.hid (blk_below hP6.out hbb)
  have hq7 := Lib.hid (hq6.out.trans (hbb.mono hq6.out.size))
  clear hbb h6
  have y0 := blk_cell (j := 0) (v := .int .i64 3) hP7.out rfl
  have y1 := blk_cell (j := 1) (v := .int .i64 0) hP7.out rfl
  have y2 := blk_cell (j := 2) (v := .string (bs [97])) hP7.out rfl
  have y3 := blk_cell (j := 3) (v := .int .i64 300) hP7.out rfl
  have y4 := blk_cell (j := 4) (v := .int .i64 0) hP7.out rfl
  have y5 := blk_cell (j := 5) (v := .int .i64 0) hP7.out rfl
  have y6 := blk_cell (j := 6) (v := .int .i64 0) hP7.out rfl
  have y7 := blk_cell (j := 7) (v := .int .i64 0) hP7.out rfl
  have y8 := blk_cell (j := 8) (v := .string (bs [])) hP7.out rfl
  have y9 := blk_cell (j := 9) (v := .slice none 0 0) hP7.out rfl
  go_wp2_with fail
  clear y0 y1 y2 y3 y4 y5 y6 y7 y8 y9
  have h7 := good_any (Rc.mk 3 0 [97] 300 0 0 0 0 [] []) none 0 okR3 w7 Rd.nil_
  rw [gR3] at h7
  refine h7.mono ?_
  rintro e w8 ⟨rfl, hbb⟩
  have hq8 := Lib.hid (hb1.out.trans ((hq7.out.trans (hbb.mono hq7.out.size)).mono hs1))
  clear hbb h7
  go_wp2
  go_ret
  exact ⟨rfl, hq8.out⟩
end Go.Proofs.Yticdkmnjolkacab
