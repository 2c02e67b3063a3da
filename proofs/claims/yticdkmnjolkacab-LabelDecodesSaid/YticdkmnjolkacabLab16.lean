/- The laws of label: LabelBack. -/
import Derived.Test.YticdkmnjolkacabLab15
import Derived.Test.YticdkmnjolkacabLab8
namespace Go.Proofs.Yticdkmnjolkacab
set_option linter.unusedVariables false
set_option linter.unusedSimpArgs false
open Go Go.RowKit
theorem encB_len {q : Rc} (hg : goodB q = true) : (encB q).length ≤ 204 := by
  have := flds_len hg
  unfold encB
  rw [List.length_append]
  have : (bytes4 (crc (flds q))).length = 4 := rfl
  omega
theorem sameR_refl (a : Rc) : sameR a a = true := decide_eq_true rfl
set_option maxHeartbeats 8000000 in
set_option maxRecDepth 20000 in
theorem labelBack_any (r : Rc) (A : Option Addr) (c : Nat) (hok : r.Ok) (A1 : Option Addr) (n1 c1 : Nat) (b : List UInt8) (hn : b.length = n1) (hl : n1 ≤ 140737488355000) (hnc : n1 ≤ c1) (hcm : c1 ≤ maxLen) (w : World) (h : Rd w w.heap.size A r.data) (h1 : Rd w w.heap.size A1 b) :
    Calls Try.prog 6 #[r.agg A c, .slice A1 n1 c1] w fun e w' => e = .returned (.bool true) ∧ Below w.heap.size w w' := by
  have hbb := (Below.refl w.heap.size w).alloc (Nat.le_refl _) (.cells #[.int .i64 r.kind, .int .i64 r.cart, .string (bs r.key), .int .i64 r.gen, .int .i64 r.group, .int .i64 r.groups, .int .i64 r.index, .int .i64 r.size, .string (bs r.sum), .slice A r.data.length c] 34)
  have hR := Lib.hid (h.up hbb)
  have hB := Lib.hid (h1.up hbb)
  have hX := Lib.hid (heap_alloc_new w (.cells #[.int .i64 r.kind, .int .i64 r.cart, .string (bs r.key), .int .i64 r.gen, .int .i64 r.group, .int .i64 r.groups, .int .i64 r.index, .int .i64 r.size, .string (bs r.sum), .slice A r.data.length c] 34))
  have hq := Lib.hid hbb
  clear hbb h h1
  replace hok := Lib.hid hok
  replace hn := Lib.hid hn
  unfold maxLen at hcm
  cases hg : goodB r with
  | false =>
    have he := Lib.hid (encode_no r A c hok.out hg _ hR.out)
    replace hg := Lib.hid hg
    unfold Rc.agg at he ⊢
    go_enter Try.func6, Try.ntmps6
    go_wp2_with fail
    refine he.out.mono ?_
    rintro e w1 ⟨rfl, hbb⟩
    replace hR := Lib.hid (hR.out.up hbb)
    replace hB := Lib.hid (hB.out.up hbb)
    replace hX := Lib.hid (blk_below hX.out hbb)
    replace hq := Lib.hid (hq.out.trans (hbb.mono hq.out.size))
    clear hbb
    clear he
    cases hdb : decB b with
    | none =>
      have hd := Lib.hid (decode_none A1 n1 c1 b hn.out hl hnc (by unfold maxLen; exact hcm) hdb _ hB.out)
      replace hdb := Lib.hid hdb
      go_wp2_with fail
      refine hd.out.mono ?_
      rintro e w5 ⟨rfl, hbb⟩
      replace hR := Lib.hid (hR.out.up hbb)
      replace hB := Lib.hid (hB.out.up hbb)
      replace hX := Lib.hid (blk_below hX.out hbb)
      replace hq := Lib.hid (hq.out.trans (hbb.mono hq.out.size))
      clear hbb
      clear hd
      go_wp2_with fail
      have hbb := (Below.refl _ w5).alloc (Nat.le_refl _) (.cells #[.int .i64 0, .int .i64 0, .string ⟨#[]⟩, .int .i64 0, .int .i64 0, .int .i64 0, .int .i64 0, .int .i64 0, .string ⟨#[]⟩, .slice none 0 0] 34)
      have hnew := heap_alloc_new w5 (.cells #[.int .i64 0, .int .i64 0, .string ⟨#[]⟩, .int .i64 0, .int .i64 0, .int .i64 0, .int .i64 0, .int .i64 0, .string ⟨#[]⟩, .slice none 0 0] 34)
      obtain ⟨Z6, hZ6⟩ : ∃ x, w5.heap.size = x := ⟨_, rfl⟩
      rw [hZ6] at hnew
      try rw [hZ6]
      obtain ⟨w6, hw6⟩ : ∃ x, w5.alloc (.cells #[.int .i64 0, .int .i64 0, .string ⟨#[]⟩, .int .i64 0, .int .i64 0, .int .i64 0, .int .i64 0, .int .i64 0, .string ⟨#[]⟩, .slice none 0 0] 34) = x := ⟨_, rfl⟩
      rw [hw6] at hbb hnew ⊢
      replace hR := Lib.hid (hR.out.up hbb)
      replace hB := Lib.hid (hB.out.up hbb)
      replace hX := Lib.hid (blk_below hX.out hbb)
      replace hq := Lib.hid (hq.out.trans (hbb.mono hq.out.size))
      clear hbb
      have hZ := Lib.hid hnew
      clear hnew
      replace hw6 := Lib.hid hw6
      replace hZ6 := Lib.hid hZ6
      refine (awake09_any _).mono ?_
      rintro e w7 ⟨rfl, hbb⟩
      replace hR := Lib.hid (hR.out.up hbb)
      replace hB := Lib.hid (hB.out.up hbb)
      replace hX := Lib.hid (blk_below hX.out hbb)
      replace hq := Lib.hid (hq.out.trans (hbb.mono hq.out.size))
      replace hZ := Lib.hid (blk_below hZ.out hbb)
      clear hbb
      go_wp2_with fail
      go_ret
      exact ⟨rfl, hq.out⟩
    | some s =>
      have hd := Lib.hid (decode_some A1 n1 c1 b hn.out hl hnc (by unfold maxLen; exact hcm) s hdb _ hB.out)
      have hgs := (decB_iff.mp hdb).1
      have hes := Lib.hid (decB_iff.mp hdb).2
      have hoks := Lib.hid (decB_ok hdb (by have := hn.out; omega))
      replace hdb := Lib.hid hdb
      replace hgs := Lib.hid hgs
      unfold Rc.agg at hd
      go_wp2_with fail
      refine hd.out.mono ?_
      rintro e w5 ⟨A9, c9, rfl, hS, hbb⟩
      replace hS := Lib.hid hS
      replace hR := Lib.hid (hR.out.up hbb)
      replace hB := Lib.hid (hB.out.up hbb)
      replace hX := Lib.hid (blk_below hX.out hbb)
      replace hq := Lib.hid (hq.out.trans (hbb.mono hq.out.size))
      clear hbb
      clear hd
      have hbb := (Below.refl _ w5).alloc (Nat.le_refl _) (.cells #[.int .i64 s.kind, .int .i64 s.cart, .string (bs s.key), .int .i64 s.gen, .int .i64 s.group, .int .i64 s.groups, .int .i64 s.index, .int .i64 s.size, .string (bs s.sum), .slice A9 s.data.length c9] 34)
      have hnew := Lib.hid (heap_alloc_new w5 (.cells #[.int .i64 s.kind, .int .i64 s.cart, .string (bs s.key), .int .i64 s.gen, .int .i64 s.group, .int .i64 s.groups, .int .i64 s.index, .int .i64 s.size, .string (bs s.sum), .slice A9 s.data.length c9] 34))
      replace hR := Lib.hid (hR.out.up hbb)
      replace hB := Lib.hid (hB.out.up hbb)
      replace hX := Lib.hid (blk_below hX.out hbb)
      replace hq := Lib.hid (hq.out.trans (hbb.mono hq.out.size))
      replace hS := Lib.hid (hS.out.up hbb)
      clear hbb
      have x0 := blk_cell (j := 0) (v := .int .i64 s.kind) hnew.out rfl
      have x1 := blk_cell (j := 1) (v := .int .i64 s.cart) hnew.out rfl
      have x2 := blk_cell (j := 2) (v := .string (bs s.key)) hnew.out rfl
      have x3 := blk_cell (j := 3) (v := .int .i64 s.gen) hnew.out rfl
      have x4 := blk_cell (j := 4) (v := .int .i64 s.group) hnew.out rfl
      have x5 := blk_cell (j := 5) (v := .int .i64 s.groups) hnew.out rfl
      have x6 := blk_cell (j := 6) (v := .int .i64 s.index) hnew.out rfl
      have x7 := blk_cell (j := 7) (v := .int .i64 s.size) hnew.out rfl
      have x8 := blk_cell (j := 8) (v := .string (bs s.sum)) hnew.out rfl
      have x9 := blk_cell (j := 9) (v := .slice A9 s.data.length c9) hnew.out rfl
      have he := Lib.hid (encode_ok s A9 c9 hoks.out hgs.out _ hS.out)
      unfold Rc.agg at he
      go_wp2_with fail
      clear x0 x1 x2 x3 x4 x5 x6 x7 x8 x9
      refine he.out.mono ?_
      rintro e w7 ⟨v7, rfl, ho, hbb⟩
      rw [hes.out] at ho
      obtain ⟨A7, c7, rfl, -, -, hD, -⟩ := ho.form
      rw [hn.out]
      replace hD := Lib.hid hD
      clear ho he
      replace hR := Lib.hid (hR.out.up hbb)
      replace hB := Lib.hid (hB.out.up hbb)
      replace hX := Lib.hid (blk_below hX.out hbb)
      replace hq := Lib.hid (hq.out.trans (hbb.mono hq.out.size))
      replace hS := Lib.hid (hS.out.up hbb)
      replace hnew := Lib.hid (blk_below hnew.out hbb)
      clear hbb
      clear hnew
      go_wp2_with fail
      refine (awake09_any _).mono ?_
      rintro e w8 ⟨rfl, hbb⟩
      replace hR := Lib.hid (hR.out.up hbb)
      replace hB := Lib.hid (hB.out.up hbb)
      replace hX := Lib.hid (blk_below hX.out hbb)
      replace hq := Lib.hid (hq.out.trans (hbb.mono hq.out.size))
      replace hS := Lib.hid (hS.out.up hbb)
      replace hD := Lib.hid (hD.out.up hbb)
      clear hbb
      have cv := run_str_at c7 hD.out hn.out
      have cv2 := run_str_at c1 hB.out hn.out
      have hbq : (bs b == bs b) = true := by rw [bs_beq]; exact beq_self_eq_true b
      go_wp2_with fail
      go_ret
      exact ⟨rfl, hq.out⟩
  | true =>
    have he := Lib.hid (encode_ok r A c hok.out hg _ hR.out)
    have hdr := Lib.hid (decB_enc hg)
    have hel := encB_len hg
    replace hg := Lib.hid hg
    unfold Rc.agg at he ⊢
    go_enter Try.func6, Try.ntmps6
    go_wp2_with fail
    refine he.out.mono ?_
    rintro e w1 ⟨v1, rfl, ho, hbb⟩
    obtain ⟨A8, c8, rfl, hc8, hm8, hE, -⟩ := ho.form
    obtain ⟨n8, hn8⟩ : ∃ n8, (encB r).length = n8 := ⟨_, rfl⟩
    rw [hn8] at hel hc8 ⊢
    replace hn8 := Lib.hid hn8
    unfold maxLen at hm8
    replace hE := Lib.hid hE
    clear ho he
    replace hR := Lib.hid (hR.out.up hbb)
    replace hB := Lib.hid (hB.out.up hbb)
    replace hX := Lib.hid (blk_below hX.out hbb)
    replace hq := Lib.hid (hq.out.trans (hbb.mono hq.out.size))
    clear hbb
    have hd := Lib.hid (decode_some A8 n8 c8 (encB r) hn8.out (by omega) hc8 (by unfold maxLen; exact hm8) r hdr.out _ hE.out)
    unfold Rc.agg at hd
    go_wp2_with fail
    refine hd.out.mono ?_
    rintro e w2 ⟨A9, c9, rfl, hS, hbb⟩
    replace hS := Lib.hid hS
    clear hd
    replace hR := Lib.hid (hR.out.up hbb)
    replace hB := Lib.hid (hB.out.up hbb)
    replace hX := Lib.hid (blk_below hX.out hbb)
    replace hq := Lib.hid (hq.out.trans (hbb.mono hq.out.size))
    replace hE := Lib.hid (hE.out.up hbb)
    clear hbb
    have hbb := (Below.refl _ w2).alloc (Nat.le_refl _) (.cells #[.int .i64 r.kind, .int .i64 r.cart, .string (bs r.key), .int .i64 r.gen, .int .i64 r.group, .int .i64 r.groups, .int .i64 r.index, .int .i64 r.size, .string (bs r.sum), .slice A9 r.data.length c9] 34)
    have hnew := Lib.hid (heap_alloc_new w2 (.cells #[.int .i64 r.kind, .int .i64 r.cart, .string (bs r.key), .int .i64 r.gen, .int .i64 r.group, .int .i64 r.groups, .int .i64 r.index, .int .i64 r.size, .string (bs r.sum), .slice A9 r.data.length c9] 34))
    replace hR := Lib.hid (hR.out.up hbb)
    replace hB := Lib.hid (hB.out.up hbb)
    replace hX := Lib.hid (blk_below hX.out hbb)
    replace hq := Lib.hid (hq.out.trans (hbb.mono hq.out.size))
    replace hE := Lib.hid (hE.out.up hbb)
    replace hS := Lib.hid (hS.out.up hbb)
    clear hbb
    have x0 := blk_cell (j := 0) (v := .int .i64 r.kind) hnew.out rfl
    have x1 := blk_cell (j := 1) (v := .int .i64 r.cart) hnew.out rfl
    have x2 := blk_cell (j := 2) (v := .string (bs r.key)) hnew.out rfl
    have x3 := blk_cell (j := 3) (v := .int .i64 r.gen) hnew.out rfl
    have x4 := blk_cell (j := 4) (v := .int .i64 r.group) hnew.out rfl
    have x5 := blk_cell (j := 5) (v := .int .i64 r.groups) hnew.out rfl
    have x6 := blk_cell (j := 6) (v := .int .i64 r.index) hnew.out rfl
    have x7 := blk_cell (j := 7) (v := .int .i64 r.size) hnew.out rfl
    have x8 := blk_cell (j := 8) (v := .string (bs r.sum)) hnew.out rfl
    have x9 := blk_cell (j := 9) (v := .slice A9 r.data.length c9) hnew.out rfl
    have y0 := blk_cell (j := 0) (v := .int .i64 r.kind) hX.out rfl
    have y1 := blk_cell (j := 1) (v := .int .i64 r.cart) hX.out rfl
    have y2 := blk_cell (j := 2) (v := .string (bs r.key)) hX.out rfl
    have y3 := blk_cell (j := 3) (v := .int .i64 r.gen) hX.out rfl
    have y4 := blk_cell (j := 4) (v := .int .i64 r.group) hX.out rfl
    have y5 := blk_cell (j := 5) (v := .int .i64 r.groups) hX.out rfl
    have y6 := blk_cell (j := 6) (v := .int .i64 r.index) hX.out rfl
    have y7 := blk_cell (j := 7) (v := .int .i64 r.size) hX.out rfl
    have y8 := blk_cell (j := 8) (v := .string (bs r.sum)) hX.out rfl
    have y9 := blk_cell (j := 9) (v := .slice A r.data.length c) hX.out rfl
    have hsm := same_any r r A A9 c c9 _ hR.out hS.out
    rw [sameR_refl] at hsm
    unfold Rc.agg at hsm
    replace hsm := Lib.hid hsm
    have hdl : decide ((256 : Int) < (n8 : Int)) = false := decide_eq_false (by omega)
    go_wp2_with fail
    clear x0 x1 x2 x3 x4 x5 x6 x7 x8 x9
    clear y0 y1 y2 y3 y4 y5 y6 y7 y8 y9
    clear hnew hX hS hE hR
    refine hsm.out.mono ?_
    rintro e w4 ⟨rfl, hbb⟩
    replace hB := Lib.hid (hB.out.up hbb)
    replace hq := Lib.hid (hq.out.trans (hbb.mono hq.out.size))
    clear hbb
    clear hsm
    cases hdb : decB b with
    | none =>
      have hd := Lib.hid (decode_none A1 n1 c1 b hn.out hl hnc (by unfold maxLen; exact hcm) hdb _ hB.out)
      replace hdb := Lib.hid hdb
      go_wp2_with fail
      refine hd.out.mono ?_
      rintro e w5 ⟨rfl, hbb⟩
      replace hB := Lib.hid (hB.out.up hbb)
      replace hq := Lib.hid (hq.out.trans (hbb.mono hq.out.size))
      clear hbb
      clear hd
      go_wp2_with fail
      have hbb := (Below.refl _ w5).alloc (Nat.le_refl _) (.cells #[.int .i64 0, .int .i64 0, .string ⟨#[]⟩, .int .i64 0, .int .i64 0, .int .i64 0, .int .i64 0, .int .i64 0, .string ⟨#[]⟩, .slice none 0 0] 34)
      have hnew := heap_alloc_new w5 (.cells #[.int .i64 0, .int .i64 0, .string ⟨#[]⟩, .int .i64 0, .int .i64 0, .int .i64 0, .int .i64 0, .int .i64 0, .string ⟨#[]⟩, .slice none 0 0] 34)
      obtain ⟨Z6, hZ6⟩ : ∃ x, w5.heap.size = x := ⟨_, rfl⟩
      rw [hZ6] at hnew
      try rw [hZ6]
      obtain ⟨w6, hw6⟩ : ∃ x, w5.alloc (.cells #[.int .i64 0, .int .i64 0, .string ⟨#[]⟩, .int .i64 0, .int .i64 0, .int .i64 0, .int .i64 0, .int .i64 0, .string ⟨#[]⟩, .slice none 0 0] 34) = x := ⟨_, rfl⟩
      rw [hw6] at hbb hnew ⊢
      replace hB := Lib.hid (hB.out.up hbb)
      replace hq := Lib.hid (hq.out.trans (hbb.mono hq.out.size))
      clear hbb
      have hZ := Lib.hid hnew
      clear hnew
      replace hw6 := Lib.hid hw6
      replace hZ6 := Lib.hid hZ6
      refine (awake09_any _).mono ?_
      rintro e w7 ⟨rfl, hbb⟩
      replace hB := Lib.hid (hB.out.up hbb)
      replace hq := Lib.hid (hq.out.trans (hbb.mono hq.out.size))
      replace hZ := Lib.hid (blk_below hZ.out hbb)
      clear hbb
      go_wp2_with fail
      go_ret
      exact ⟨rfl, hq.out⟩
    | some s =>
      have hd := Lib.hid (decode_some A1 n1 c1 b hn.out hl hnc (by unfold maxLen; exact hcm) s hdb _ hB.out)
      have hgs := (decB_iff.mp hdb).1
      have hes := Lib.hid (decB_iff.mp hdb).2
      have hoks := Lib.hid (decB_ok hdb (by have := hn.out; omega))
      replace hdb := Lib.hid hdb
      replace hgs := Lib.hid hgs
      unfold Rc.agg at hd
      go_wp2_with fail
      refine hd.out.mono ?_
      rintro e w5 ⟨A9, c9, rfl, hS, hbb⟩
      replace hS := Lib.hid hS
      replace hB := Lib.hid (hB.out.up hbb)
      replace hq := Lib.hid (hq.out.trans (hbb.mono hq.out.size))
      clear hbb
      clear hd
      have hbb := (Below.refl _ w5).alloc (Nat.le_refl _) (.cells #[.int .i64 s.kind, .int .i64 s.cart, .string (bs s.key), .int .i64 s.gen, .int .i64 s.group, .int .i64 s.groups, .int .i64 s.index, .int .i64 s.size, .string (bs s.sum), .slice A9 s.data.length c9] 34)
      have hnew := Lib.hid (heap_alloc_new w5 (.cells #[.int .i64 s.kind, .int .i64 s.cart, .string (bs s.key), .int .i64 s.gen, .int .i64 s.group, .int .i64 s.groups, .int .i64 s.index, .int .i64 s.size, .string (bs s.sum), .slice A9 s.data.length c9] 34))
      replace hB := Lib.hid (hB.out.up hbb)
      replace hq := Lib.hid (hq.out.trans (hbb.mono hq.out.size))
      replace hS := Lib.hid (hS.out.up hbb)
      clear hbb
      have x0 := blk_cell (j := 0) (v := .int .i64 s.kind) hnew.out rfl
      have x1 := blk_cell (j := 1) (v := .int .i64 s.cart) hnew.out rfl
      have x2 := blk_cell (j := 2) (v := .string (bs s.key)) hnew.out rfl
      have x3 := blk_cell (j := 3) (v := .int .i64 s.gen) hnew.out rfl
      have x4 := blk_cell (j := 4) (v := .int .i64 s.group) hnew.out rfl
      have x5 := blk_cell (j := 5) (v := .int .i64 s.groups) hnew.out rfl
      have x6 := blk_cell (j := 6) (v := .int .i64 s.index) hnew.out rfl
      have x7 := blk_cell (j := 7) (v := .int .i64 s.size) hnew.out rfl
      have x8 := blk_cell (j := 8) (v := .string (bs s.sum)) hnew.out rfl
      have x9 := blk_cell (j := 9) (v := .slice A9 s.data.length c9) hnew.out rfl
      have he := Lib.hid (encode_ok s A9 c9 hoks.out hgs.out _ hS.out)
      unfold Rc.agg at he
      go_wp2_with fail
      clear x0 x1 x2 x3 x4 x5 x6 x7 x8 x9
      refine he.out.mono ?_
      rintro e w7 ⟨v7, rfl, ho, hbb⟩
      rw [hes.out] at ho
      obtain ⟨A7, c7, rfl, -, -, hD, -⟩ := ho.form
      rw [hn.out]
      replace hD := Lib.hid hD
      clear ho he
      replace hB := Lib.hid (hB.out.up hbb)
      replace hq := Lib.hid (hq.out.trans (hbb.mono hq.out.size))
      replace hS := Lib.hid (hS.out.up hbb)
      replace hnew := Lib.hid (blk_below hnew.out hbb)
      clear hbb
      clear hnew
      go_wp2_with fail
      refine (awake09_any _).mono ?_
      rintro e w8 ⟨rfl, hbb⟩
      replace hB := Lib.hid (hB.out.up hbb)
      replace hq := Lib.hid (hq.out.trans (hbb.mono hq.out.size))
      replace hS := Lib.hid (hS.out.up hbb)
      replace hD := Lib.hid (hD.out.up hbb)
      clear hbb
      have cv := run_str_at c7 hD.out hn.out
      have cv2 := run_str_at c1 hB.out hn.out
      have hbq : (bs b == bs b) = true := by rw [bs_beq]; exact beq_self_eq_true b
      go_wp2_with fail
      go_ret
      exact ⟨rfl, hq.out⟩
end Go.Proofs.Yticdkmnjolkacab
