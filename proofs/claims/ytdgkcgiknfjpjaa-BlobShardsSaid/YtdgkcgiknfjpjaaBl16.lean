/- The law of blob: the shards. -/
import Derived.Test.YtdgkcgiknfjpjaaBl13
import Derived.Test.YtdgkcgiknfjpjaaBl9
import Derived.Test.YtdgkcgiknfjpjaaBl15
import Derived.Test.YtdgkcgiknfjpjaaBl14
import Derived.Test.YtdgkcgiknfjpjaaRs6
namespace Go.Proofs.Ytdgkcgiknfjpjaa
set_option linter.unusedVariables false
set_option linter.unusedSimpArgs false
open Go Go.RowKit
theorem tabN_none (n m : Nat) (M : Mx) : tabN n m M (fun _ => false) = tabM n m M := by unfold tabN tabM; simp
theorem encB_lenS {q : Rc} (hg : goodB q = true) : (encB q).length ≤ 204 := by
  have := flds_len hg
  unfold encB
  rw [List.length_append]
  have : (bytes4 (crc (flds q))).length = 4 := rfl
  omega
theorem bit_one (x : Int) : bits BinOp.and .u16 x 1 = 0 ∨ bits BinOp.and .u16 x 1 = 1 := by
  have h : ((BitVec.ofInt 16 x) &&& (BitVec.ofInt 16 1)).toNat = 0 ∨ ((BitVec.ofInt 16 x) &&& (BitVec.ofInt 16 1)).toNat = 1 := by
    have h1 : (BitVec.ofInt 16 1).toNat = 1 := by decide
    rw [BitVec.toNat_and, h1, Nat.and_one_is_mod]
    omega
  show IntKind.u16.wrap ((((BitVec.ofInt 16 x) &&& (BitVec.ofInt 16 1)).toNat : Nat) : Int) = 0 ∨ IntKind.u16.wrap ((((BitVec.ofInt 16 x) &&& (BitVec.ofInt 16 1)).toNat : Nat) : Int) = 1
  rcases h with h | h
  · left; rw [h]; decide
  · right; rw [h]; decide
theorem lackP_yes {lk k : Nat} (h : lackP lk k = true) : bits BinOp.and .u16 ((lk : Int) / 2 ^ k) 1 = 1 := beq_iff_eq.mp h
theorem lackP_no {lk k : Nat} (h : lackP lk k = false) : bits BinOp.and .u16 ((lk : Int) / 2 ^ k) 1 = 0 := by
  rcases bit_one ((lk : Int) / 2 ^ k) with h1 | h1
  · exact h1
  · have : lackP lk k = true := beq_iff_eq.mpr h1
    rw [h] at this
    cases this
theorem AP.form {w : World} {base : Nat} {v : Value} {L : List (List UInt8)} (h : AP w base v L) : ∃ A c, v = .slice A L.length c := by
  obtain ⟨rows, h1, -, -⟩ := h
  obtain ⟨A, c, e, -, -⟩ := row_form h1
  exact ⟨A, c, e⟩
set_option maxHeartbeats 8000000 in
set_option maxRecDepth 20000 in
theorem blobShards_any (key : List UInt8) (hkl : key.length ≤ maxLen) (gn : Nat) (hgn : gn < 65536) (A : Option Addr) (n c : Nat) (l : List UInt8) (hn : l.length = n) (hnc : n ≤ c) (hcm : c ≤ maxLen) (lk : Nat) (hlk : lk < 65536) (w : World) (hr : Rd w w.heap.size A l) :
    Calls Try.prog 7 #[.string (bs key), .int .u16 gn, .slice A n c, .int .u16 lk] w fun e w' => e = .returned (.bool true) ∧ Gr w w' := by
  have hsh := Lib.hid (short18_any A n c l 512 (by decide) (by decide) (Lib.hid hn) hnc (by simp only [maxLen] at hcm; omega) w (Lib.hid hr))
  have hd5 : (l.take 512).length ≤ 512 := by rw [List.length_take]; omega
  obtain ⟨d, hd⟩ : ∃ d, l.take 512 = d := ⟨_, rfl⟩
  rw [hd] at hsh hd5
  replace hd := Lib.hid hd
  replace hkl := Lib.hid hkl
  clear hn hnc hcm hr
  go_enter Try.func7, Try.ntmps7
  go_wp2_with fail
  refine hsh.out.mono ?_
  clear hsh
  rintro e w1 ⟨A1, n1, c1, rfl, ho1, hn1, hg1⟩
  rw [hn1.out] at hd5
  have hgR : Hid (R64 (gn : Int)) := Lib.hid (by unfold R64; omega)
  have hs := Lib.hid (brec_any key (gn : Int) hkl.out hgR.out A1 n1 c1 d hn1.out hd5 w1 ho1.out.rd.1)
  obtain ⟨hgq, hq1, hq4, hqn⟩ := ngrp_spec hd5
  have hbg := fun w' => bgroups_any (n1 : Int) ⟨by omega, by omega⟩ w'
  obtain ⟨q, hq⟩ : ∃ q, ngrp n1 = q := ⟨_, rfl⟩
  rw [hgq, hq] at hbg
  rw [hq] at hs hq1 hq4
  replace hbg := Lib.hid hbg
  replace hq := Lib.hid hq
  replace hg1 := Lib.hid hg1
  replace hqn := Lib.hid hqn
  replace hgq := Lib.hid hgq
  go_wp2_with fail
  refine hs.out.mono ?_
  clear hs
  intro e w2 hpost
  by_cases hk : nameOk key (gn : Int) = true
  · have h1 : ¬ ((key.length : Int) < 1) := by unfold nameOk inB at hk; simp at hk; omega
    have h2 : ¬ ((16 : Int) < (key.length : Int)) := by unfold nameOk inB at hk; simp at hk; omega
    obtain ⟨hg2, ⟨-, u, E, rfl, hE, hR⟩ | ⟨hno, -⟩⟩ := hpost
    rotate_left
    · exact absurd (hk.symm.trans hno) (by decide)
    have hEl : E.length = 10 * q := by rw [← recsP_len ⟨key, gn, d, q⟩, ← hE, List.length_map]
    obtain ⟨Au, cu, rfl, -, -⟩ := hR.form
    rw [hEl] at hR ⊢
    have ho2 : Hid (OB w2 w.heap.size (.slice A1 n1 c1) d) := Lib.hid (row_below ho1.out hg2)
    have hg2' := Lib.hid (hg1.out.trans hg2)
    have hw10 : IntKind.i64.wrap (10 * (q : Int)) = ((10 * q : Nat) : Int) := by rw [IntKind.wrap_i64]; omega
    obtain ⟨m, hm⟩ : ∃ m, 10 * q = m := ⟨_, rfl⟩
    rw [hm] at hR hw10 ⊢
    have hmm : ((m : Int) != (m : Int)) = false := by simp
    replace hm := Lib.hid hm
    replace hEl := Lib.hid hEl
    replace hR := Lib.hid hR
    replace hE := Lib.hid hE
    replace hk := Lib.hid hk
    clear hg2 ho1 hg1
    go_wp2_with fail
    refine (hbg.out _).mono ?_
    rintro e wx ⟨rfl, hwx⟩
    rw [hwx]
    clear hwx
    go_wp2_with fail
    go_loopw [12, 13] (fun v i wr => ∃ (k cnt : Nat), k ≤ 10 ∧ cnt ≤ k ∧ i = .int .i64 k ∧ v = .int .i64 cnt ∧ Hid (cnt = cntP (lackP lk) k) ∧ w2 = wr) (fun _ i _ => 10 - (intOf i).toNat)
    case atStart => exact ⟨0, 0, Nat.zero_le _, Nat.le_refl _, rfl, rfl, Lib.hid rfl, rfl⟩
    case round =>
      obtain ⟨k, cnt, hk10, hck, rfl, rfl, hcnt, rfl⟩ := hrel
      by_cases hlt : k < 10
      · have ik : (k : Int) < 10 := by omega
        have hcs := cntP_next (lackP lk) k
        cases hP : lackP lk k with
        | true =>
          rw [hP, if_pos rfl, ← hcnt.out] at hcs
          have hb := lackP_yes hP
          replace hP := Lib.hid hP
          replace hcs := Lib.hid hcs
          go_wp2_with fail
          go_roundw
          case rel => exact ⟨k + 1, cnt + 1, by omega, by omega, by go_num, by go_num, Lib.hid hcs.out.symm, trivial⟩
          case measure => simp [intOf]; omega
        | false =>
          rw [hP, if_neg (by decide), ← hcnt.out] at hcs
          have hb := lackP_no hP
          replace hP := Lib.hid hP
          replace hcs := Lib.hid hcs
          go_wp2_with fail
          go_roundw
          case rel => exact ⟨k + 1, cnt, by omega, by omega, by go_num, by go_num, Lib.hid hcs.out.symm, trivial⟩
          case measure => simp [intOf]; omega
      · obtain rfl : k = 10 := by omega
        have ik : decide (((10 : Nat) : Int) < 10) = false := by decide
        have hP0 := Lib.hid (AP.empty w2 w2.heap.size (Nat.le_refl _))
        have hG0 := Lib.hid (alloc_grB w2 (.cells #[] 22))
        go_wp2_with fail
        obtain ⟨w3, hw3⟩ : ∃ w3, w2.alloc (.cells #[] 22) = w3 := ⟨_, rfl⟩
        rw [hw3] at hP0 hG0 ⊢
        replace hw3 := Lib.hid hw3
        clear ik
        go_loopw [14, 15] (fun v g wr => ∃ (t : Nat) (VP : Value), t ≤ q ∧ g = .int .i64 t ∧ VP = v ∧ Hid (AP wr w2.heap.size VP (tabN t 128 (partM 128 (padD d q)) (fun _ => decide (2 < cnt)))) ∧ Hid (Gr w2 wr)) (fun _ g _ => q - (intOf g).toNat)
        case atStart => exact ⟨0, _, Nat.zero_le _, rfl, rfl, hP0, hG0⟩
        case round =>
          clear hP0 hG0
          obtain ⟨t, VP, htq, rfl, rfl, hP, hG⟩ := hrel
          obtain ⟨PA, Pc, eP⟩ := hP.out.form
          rw [tabN_length] at eP
          subst eP
          by_cases hlt : t < q
          · obtain ⟨wo, hwo⟩ : ∃ wo, wo = wr := ⟨_, rfl⟩
            subst hwo
            obtain ⟨T, hT⟩ : ∃ T, 10 * t = T := ⟨_, rfl⟩
            have hTm : (T : Int) < (m : Int) := by have := hm.out; omega
            have hTm2 : T + 10 ≤ m := by have := hm.out; omega
            have hm40 : m ≤ 40 := by have := hm.out; omega
            have hw : IntKind.i64.wrap (10 * (t : Int)) = (T : Int) := by rw [IntKind.wrap_i64]; omega
            have hS0 := Lib.hid (AP.empty wo wo.heap.size (Nat.le_refl _))
            have hH0 := Lib.hid (alloc_grB wo (.cells #[] 22))
            replace hT := Lib.hid hT
            go_wp2_with fail
            obtain ⟨w4, hw4⟩ : ∃ w4, wo.alloc (.cells #[] 22) = w4 := ⟨_, rfl⟩
            rw [hw4] at hS0 hH0 ⊢
            replace hw4 := Lib.hid hw4
            go_loopw [16, 17] (fun v i wr => ∃ (k : Nat) (VV : Value), k ≤ 10 ∧ i = .int .i64 k ∧ VV = v ∧ Hid (AP wr wo.heap.size VV (tabN k 16 (encM (grpB d q t)) (lackP lk))) ∧ Hid (Gr wo wr)) (fun _ i _ => 10 - (intOf i).toNat)
            case atStart => exact ⟨0, _, Nat.zero_le _, rfl, rfl, hS0, hH0⟩
            case round =>
              clear hS0 hH0
              obtain ⟨k, VV, hk10, rfl, rfl, hS, hH⟩ := hrel
              obtain ⟨SA, Sc, eV⟩ := hS.out.form
              rw [tabN_length] at eV
              subst eV
              obtain ⟨wi, hwi⟩ : ∃ wi, wi = wr := ⟨_, rfl⟩
              subst hwi
              by_cases hlk3 : k < 10
              · have ik : (k : Int) < 10 := by omega
                obtain ⟨I, hI⟩ : ∃ I, T + k = I := ⟨_, rfl⟩
                have hIm : (I : Int) < (m : Int) := by omega
                have hImn : I < m := by omega
                have hw2 : IntKind.i64.wrap ((T : Int) + (k : Int)) = (I : Int) := by rw [IntKind.wrap_i64]; omega
                obtain ⟨b, o, xr, xA, xc, rfl, hq0, hxv, hbl, hcx⟩ := (OR.gr (hG.out.trans hH.out) hR).out.get (i := I) (by rw [hEl.out, hm.out]; exact hImn)
                have hxr : xr = rec1 ⟨key, gn, d, q⟩ t t k := by
                  rw [hE.out, ← hI, ← hT.out, recsP_at ⟨key, gn, d, q⟩ hlt hlk3] at hq0
                  injection hq0 with hq0
                  exact hq0.symm
                have hgd : goodB xr = true := by rw [hxr]; exact rec1_good hk.out (by show d.length ≤ 512; rw [hn1.out]; exact hd5) (by show ngrp d.length = q; rw [hn1.out]; exact hq.out) hlt hlk3
                have hokr : xr.Ok := by rw [hxr]; exact rec1_ok hkl.out hgR.out (by show d.length ≤ 512; rw [hn1.out]; exact hd5) hq4 hlt hlk3
                obtain ⟨c0, c1', c2, c3, c4, c5, c6, c7, c8, c9⟩ := hcx wi (Below.refl _ _)
                replace hgd := Lib.hid hgd
                replace hokr := Lib.hid hokr
                replace hxr := Lib.hid hxr
                replace hxv := Lib.hid hxv
                replace hI := Lib.hid hI
                clear hq0 hcx
                go_wp2_with fail
                have hg5 := alloc_grB wi (.cells #[.int .i64 xr.kind, .int .i64 xr.cart, .string (bs xr.key), .int .i64 xr.gen, .int .i64 xr.group, .int .i64 xr.groups, .int .i64 xr.index, .int .i64 xr.size, .string (bs xr.sum), .slice xA xr.data.length xc] 41)
                have hX5 := heap_alloc_new wi (.cells #[.int .i64 xr.kind, .int .i64 xr.cart, .string (bs xr.key), .int .i64 xr.gen, .int .i64 xr.group, .int .i64 xr.groups, .int .i64 xr.index, .int .i64 xr.size, .string (bs xr.sum), .slice xA xr.data.length xc] 41)
                obtain ⟨P, hPp⟩ : ∃ P, wi.heap.size = P := ⟨_, rfl⟩
                obtain ⟨w5, hw5⟩ : ∃ w5, wi.alloc (.cells #[.int .i64 xr.kind, .int .i64 xr.cart, .string (bs xr.key), .int .i64 xr.gen, .int .i64 xr.group, .int .i64 xr.groups, .int .i64 xr.index, .int .i64 xr.size, .string (bs xr.sum), .slice xA xr.data.length xc] 41) = w5 := ⟨_, rfl⟩
                rw [hw5] at hg5 hX5 ⊢
                rw [hPp] at hX5 ⊢
                have he := Lib.hid (encode_ok xr xA xc hokr.out hgd.out w5 (hxv.out.up hg5))
                unfold Rc.agg at he
                have hel := encB_lenS hgd.out
                replace hw5 := Lib.hid hw5
                replace hPp := Lib.hid hPp
                refine he.out.mono ?_
                clear he c0 c1' c2 c3 c4 c5 c6 c7 c8 c9
                rintro e w6 ⟨v6, rfl, ho6, hg6⟩
                obtain ⟨A6, cc6, rfl, hc6, hcm6, hr6, -⟩ := OB.form ho6
                obtain ⟨n6, hn6⟩ : ∃ n6, (encB xr).length = n6 := ⟨_, rfl⟩
                rw [hn6] at hc6 hel ⊢
                have hd := Lib.hid (decode_some A6 n6 cc6 (encB xr) hn6 (by omega) hc6 hcm6 xr (decB_enc hgd.out) w6 hr6)
                unfold Rc.agg at hd
                have hX6 := blk_below hX5 hg6
                replace hn6 := Lib.hid hn6
                replace hg6 := Lib.hid (hg5.trans hg6)
                replace hX6 := Lib.hid hX6
                clear hc6 hcm6 hr6 ho6 hel hX5 hg5
                go_wp2_with fail
                refine hd.out.mono ?_
                clear hd
                rintro e w7 ⟨A9, c9, rfl, hS9, hfr, hc91, hc92, hg7⟩
                replace hc91 := Lib.hid hc91
                replace hc92 := Lib.hid hc92
                have hX7 := blk_below hX6.out hg7
                have hg8 := alloc_grB w7 (.cells #[.int .i64 xr.kind, .int .i64 xr.cart, .string (bs xr.key), .int .i64 xr.gen, .int .i64 xr.group, .int .i64 xr.groups, .int .i64 xr.index, .int .i64 xr.size, .string (bs xr.sum), .slice A9 xr.data.length c9] 41)
                have hZ8 := heap_alloc_new w7 (.cells #[.int .i64 xr.kind, .int .i64 xr.cart, .string (bs xr.key), .int .i64 xr.gen, .int .i64 xr.group, .int .i64 xr.groups, .int .i64 xr.index, .int .i64 xr.size, .string (bs xr.sum), .slice A9 xr.data.length c9] 41)
                have hX8 := blk_below hX7 hg8
                replace hS9 := Lib.hid (hS9.up hg8)
                have hg78 := Lib.hid (Gr.trans hg7 hg8)
                replace hfr := Lib.hid hfr
                replace hg7 := Lib.hid hg7
                replace hg8 := Lib.hid hg8
                clear hX7
                have y0 := blk_cell (j := 0) (v := .int .i64 xr.kind) hX8 rfl
                have y1 := blk_cell (j := 1) (v := .int .i64 xr.cart) hX8 rfl
                have y2 := blk_cell (j := 2) (v := .string (bs xr.key)) hX8 rfl
                have y3 := blk_cell (j := 3) (v := .int .i64 xr.gen) hX8 rfl
                have y4 := blk_cell (j := 4) (v := .int .i64 xr.group) hX8 rfl
                have y5 := blk_cell (j := 5) (v := .int .i64 xr.groups) hX8 rfl
                have y6 := blk_cell (j := 6) (v := .int .i64 xr.index) hX8 rfl
                have y7 := blk_cell (j := 7) (v := .int .i64 xr.size) hX8 rfl
                have y8 := blk_cell (j := 8) (v := .string (bs xr.sum)) hX8 rfl
                have y9 := blk_cell (j := 9) (v := .slice xA xr.data.length xc) hX8 rfl
                go_wp2_with fail
                obtain ⟨Zb, hZb⟩ : ∃ Zb, w7.heap.size = Zb := ⟨_, rfl⟩
                obtain ⟨w8, hw8⟩ : ∃ w8, w7.alloc (.cells #[.int .i64 xr.kind, .int .i64 xr.cart, .string (bs xr.key), .int .i64 xr.gen, .int .i64 xr.group, .int .i64 xr.groups, .int .i64 xr.index, .int .i64 xr.size, .string (bs xr.sum), .slice A9 xr.data.length c9] 41) = w8 := ⟨_, rfl⟩
                rw [hw8] at hg78 hg8 hZ8 hX8 hS9 ⊢
                rw [hZb] at hZ8 ⊢
                replace hw8 := Lib.hid hw8
                replace hZb := Lib.hid hZb
                clear y0 y1 y2 y3 y4 y5 y6 y7 y8 y9
                have hgo := good_any xr xA xc hokr.out w8 (hxv.out.up (hg6.out.trans hg78.out))
                rw [hgd.out] at hgo
                unfold Rc.agg at hgo
                refine hgo.mono ?_
                clear hgo
                rintro e w9 ⟨rfl, hg9⟩
                have hX9 := blk_below hX8 hg9
                have hZ9 := blk_below hZ8 hg9
                replace hS9 := Lib.hid (hS9.out.up hg9)
                have hg89 := Lib.hid (hg78.out.trans hg9)
                clear hX8 hZ8 hg9
                have y0 := blk_cell (j := 0) (v := .int .i64 xr.kind) hX9 rfl
                have y1 := blk_cell (j := 1) (v := .int .i64 xr.cart) hX9 rfl
                have y2 := blk_cell (j := 2) (v := .string (bs xr.key)) hX9 rfl
                have y3 := blk_cell (j := 3) (v := .int .i64 xr.gen) hX9 rfl
                have y4 := blk_cell (j := 4) (v := .int .i64 xr.group) hX9 rfl
                have y5 := blk_cell (j := 5) (v := .int .i64 xr.groups) hX9 rfl
                have y6 := blk_cell (j := 6) (v := .int .i64 xr.index) hX9 rfl
                have y7 := blk_cell (j := 7) (v := .int .i64 xr.size) hX9 rfl
                have y8 := blk_cell (j := 8) (v := .string (bs xr.sum)) hX9 rfl
                have y9 := blk_cell (j := 9) (v := .slice xA xr.data.length xc) hX9 rfl
                have z0 := blk_cell (j := 0) (v := .int .i64 xr.kind) hZ9 rfl
                have z1 := blk_cell (j := 1) (v := .int .i64 xr.cart) hZ9 rfl
                have z2 := blk_cell (j := 2) (v := .string (bs xr.key)) hZ9 rfl
                have z3 := blk_cell (j := 3) (v := .int .i64 xr.gen) hZ9 rfl
                have z4 := blk_cell (j := 4) (v := .int .i64 xr.group) hZ9 rfl
                have z5 := blk_cell (j := 5) (v := .int .i64 xr.groups) hZ9 rfl
                have z6 := blk_cell (j := 6) (v := .int .i64 xr.index) hZ9 rfl
                have z7 := blk_cell (j := 7) (v := .int .i64 xr.size) hZ9 rfl
                have z8 := blk_cell (j := 8) (v := .string (bs xr.sum)) hZ9 rfl
                have z9 := blk_cell (j := 9) (v := .slice A9 xr.data.length c9) hZ9 rfl
                go_wp2_with fail
                have hsm := same_any xr xr A9 xA c9 xc w9 hS9.out (hxv.out.up (hg6.out.trans hg89.out))
                rw [show sameR xr xr = true from decide_eq_true rfl] at hsm
                unfold Rc.agg at hsm
                refine hsm.mono ?_
                clear hsm y0 y1 y2 y3 y4 y5 y6 y7 y8 y9 z0 z1 z2 z3 z4 z5 z6 z7 z8 z9
                rintro e w10 ⟨rfl, hg10⟩
                have hX10 := blk_below hX9 hg10
                have hZ10 := blk_below hZ9 hg10
                replace hS9 := Lib.hid (hS9.out.up hg10)
                have hgA := Lib.hid (hg89.out.trans hg10)
                clear hX9 hZ9 hg10
                have y0 := blk_cell (j := 0) (v := .int .i64 xr.kind) hX10 rfl
                have y1 := blk_cell (j := 1) (v := .int .i64 xr.cart) hX10 rfl
                have y2 := blk_cell (j := 2) (v := .string (bs xr.key)) hX10 rfl
                have y3 := blk_cell (j := 3) (v := .int .i64 xr.gen) hX10 rfl
                have y4 := blk_cell (j := 4) (v := .int .i64 xr.group) hX10 rfl
                have y5 := blk_cell (j := 5) (v := .int .i64 xr.groups) hX10 rfl
                have y6 := blk_cell (j := 6) (v := .int .i64 xr.index) hX10 rfl
                have y7 := blk_cell (j := 7) (v := .int .i64 xr.size) hX10 rfl
                have y8 := blk_cell (j := 8) (v := .string (bs xr.sum)) hX10 rfl
                have y9 := blk_cell (j := 9) (v := .slice xA xr.data.length xc) hX10 rfl
                have y9z := blk_cell (j := 9) (v := .slice A9 xr.data.length c9) hZ10 rfl
                have hne1 : (xr.group != (t : Int)) = false := by rw [hxr.out]; simp [rec1]
                have hne2 : (xr.index != (k : Int)) = false := by rw [hxr.out]; simp [rec1]
                have hne3 : (xr.size != (n1 : Int)) = false := by rw [hxr.out]; simp [rec1, hn1.out]
                have hgAll := Lib.hid (hg6.out.trans hgA.out)
                have hSA := Lib.hid (hS.out.gr hgAll.out)
                have hHA := Lib.hid (hH.out.trans hgAll.out)
                have htn := tabN_snoc k 16 (encM (grpB d q t)) (lackP lk)
                have hwoz : wo.heap.size ≤ w10.heap.size := hHA.out.size
                cases hP2 : lackP lk k with
                | true =>
                  rw [hP2, if_pos rfl] at htn
                  have hb : (bits BinOp.and .u16 ((lk : Int) / 2 ^ k) 1 == 1) = true := hP2
                  replace htn := Lib.hid htn
                  replace hP2 := Lib.hid hP2
                  have hz1 := alloc_grB w10 (.cells #[] 5)
                  have hz2 := Gr.trans hz1 (alloc_grB (w10.alloc (.cells #[] 5)) (.cells #[.slice (some ⟨w10.heap.size, 0, none⟩) 0 0] 22))
                  have hS3 := Lib.hid (hSA.out.gr hz2)
                  have hH3 := Lib.hid (hHA.out.trans hz2)
                  have hrw := Lib.hid (RowP.nil_ ((w10.alloc (.cells #[] 5)).alloc (.cells #[.slice (some ⟨w10.heap.size, 0, none⟩) 0 0] 22)) (Value.ownBlock (.slice SA k Sc)) (some ⟨w10.heap.size, 0, none⟩) 0 (Nat.zero_le _))
                  have hrd9 : Hid (Reads ((w10.alloc (.cells #[] 5)).alloc (.cells #[.slice (some ⟨w10.heap.size, 0, none⟩) 0 0] 22)) ((w10.alloc (.cells #[] 5)).alloc (.cells #[.slice (some ⟨w10.heap.size, 0, none⟩) 0 0] 22)).heap.size 1 (some ⟨w10.heap.size + 1, 0, none⟩) 1 [.slice (some ⟨w10.heap.size, 0, none⟩) ([] : List UInt8).length 0]) := Lib.hid (by
                    have h0 := reads_one (w10.alloc (.cells #[] 5)) 22 (.slice (some ⟨w10.heap.size, 0, none⟩) 0 0)
                    rw [show w10.heap.size + 1 = (w10.alloc (.cells #[] 5)).heap.size from by simp]
                    exact h0)
                  clear hz1 hz2
                  go_wp2_with (at_builtin; go_must (refine wpl_append_rowP rfl (.tmp 150) (.tmp 152) rfl wo.heap.size (.slice SA k Sc) (tabN k 16 (encM (grpB d q t)) (lackP lk)) rfl hS3.out (some ⟨w10.heap.size, 0, none⟩) 0 [] hrw.out _ _ 1 rfl hrd9.out (by rw [tabN_length]; omega) hH3.out.size ?_; intro v8 w8 hat8 hg8 hbl8; have hH8 := Lib.hid (Below.trans hH3.out hbl8); rw [htn.out] at hat8; replace hat8 := Lib.hid hat8; clear hg8 hbl8))
                  go_roundw
                  case rel => first | exact ⟨k + 1, _, by omega, by go_num, rfl, hat8, hH8⟩ | ((repeat apply Exists.intro); exact ⟨⟨k + 1, _, by omega, by go_num, rfl, hat8, hH8⟩, rfl⟩)
                  case measure => simp [intOf]; omega
                | false =>
                  rw [hP2, if_neg (by decide)] at htn
                  have hb : (bits BinOp.and .u16 ((lk : Int) / 2 ^ k) 1 == 1) = false := hP2
                  have hdt : xr.data = row 16 (encM (grpB d q t) k) := by rw [hxr.out]; rfl
                  rw [← hdt] at htn
                  replace htn := Lib.hid htn
                  replace hP2 := Lib.hid hP2
                  replace hdt := Lib.hid hdt
                  have hz2 := alloc_grB w10 (.cells #[.slice A9 xr.data.length c9] 22)
                  have hS3 := Lib.hid (hSA.out.gr hz2)
                  have hH3 := Lib.hid (hHA.out.trans hz2)
                  have hrw := Lib.hid (RowP.new (w := w6) (ob := Value.ownBlock (.slice SA k Sc)) hc91.out hc92.out (hS9.out.up hz2) hfr.out (fun x e => by have h1 := (hS.out.lt x e).2; have h2 := hg6.out.size; omega))
                  have hrd9 := Lib.hid (reads_one w10 22 (.slice A9 xr.data.length c9))
                  clear hz2
                  go_wp2_with (at_builtin; go_must (refine wpl_append_rowP rfl (.tmp 154) (.tmp 157) rfl wo.heap.size (.slice SA k Sc) (tabN k 16 (encM (grpB d q t)) (lackP lk)) rfl hS3.out A9 c9 xr.data hrw.out _ _ 1 rfl hrd9.out (by rw [tabN_length]; omega) hH3.out.size ?_; intro v8 w8 hat8 hg8 hbl8; have hH8 := Lib.hid (Below.trans hH3.out hbl8); rw [htn.out] at hat8; replace hat8 := Lib.hid hat8; clear hg8 hbl8))
                  go_roundw
                  case rel => first | exact ⟨k + 1, _, by omega, by go_num, rfl, hat8, hH8⟩ | ((repeat apply Exists.intro); exact ⟨⟨k + 1, _, by omega, by go_num, rfl, hat8, hH8⟩, rfl⟩)
                  case measure => simp [intOf]; omega
              · obtain rfl : k = 10 := by omega
                have ik : decide (((10 : Nat) : Int) < 10) = false := by decide
                have hrd := Lib.hid (rsdec_any (tabN_length 10 16 (encM (grpB d q t)) (lackP lk)) wi (Lib.hid hS.out.tbl))
                have hpc := Lib.hid (pidx_cnt (encM (grpB d q t)) (lackP lk))
                go_wp2_with fail
                refine hrd.out.mono ?_
                clear hrd
                rintro e w5 ⟨hg5, hcs⟩
                have hPg := Lib.hid (hP.out.gr (hH.out.trans hg5))
                have hGg := Lib.hid (hG.out.trans (hH.out.trans hg5))
                have htn := tabN_snoc t 128 (partM 128 (padD d q)) (fun _ => decide (2 < cnt))
                have hHs := Lib.hid hH.out.size
                rcases hcs with ⟨-, h8, A5, c5, D, rfl, hob, hsol⟩ | ⟨-, h8, rfl⟩ | ⟨h8, -⟩
                · have hc2 : ¬ (2 < cnt) := by have := hpc.out; have := hcnt.out; omega
                  have ic2 : (cnt : Int) ≤ 2 := by omega
                  have ic2d : decide ((cnt : Int) ≤ 2) = true := decide_eq_true ic2
                  have hfl := shards_some (grpB_len d q t) (by have := hcnt.out; omega) hsol
                  rw [hfl] at hob
                  rw [if_neg (by rw [decide_eq_false hc2]; decide), show row 128 (partM 128 (padD d q) t) = grpB d q t from rfl] at htn
                  obtain ⟨A5', c5', e5, hc51, hc52, hr5, hn5⟩ := hob.out.form
                  injection e5 with e51 _ e53
                  subst e51 e53
                  have hgl : Hid ((grpB d q t).length = 128) := Lib.hid (grpB_len d q t)
                  have hz2 := alloc_grB w5 (.cells #[.slice A5 128 c5] 22)
                  have hS3 := Lib.hid (hPg.out.gr hz2)
                  have hH3 := Lib.hid (hGg.out.trans hz2)
                  have hrw := Lib.hid (RowP.new (w := wi) (ob := Value.ownBlock (.slice PA t Pc)) hc51 hc52 (hr5.up hz2) hn5 (fun x e => by have h1 := (hP.out.lt x e).2; have h2 := hHs.out; omega))
                  have hrd9 : Hid (Reads (w5.alloc (.cells #[.slice A5 128 c5] 22)) (w5.alloc (.cells #[.slice A5 128 c5] 22)).heap.size 1 (some ⟨w5.heap.size, 0, none⟩) 1 [.slice A5 (grpB d q t).length c5]) := Lib.hid (by rw [hgl.out]; exact reads_one w5 22 (.slice A5 128 c5))
                  replace htn := Lib.hid htn
                  replace hc2 := Lib.hid hc2
                  replace h8 := Lib.hid h8
                  replace hsol := Lib.hid hsol
                  replace hob := Lib.hid hob
                  replace hfl := Lib.hid hfl
                  replace hc51 := Lib.hid hc51
                  replace hc52 := Lib.hid hc52
                  clear hz2 hr5 hn5
                  go_wp2_with (at_builtin; go_must (refine wpl_append_rowP rfl (.tmp 169) (.tmp 171) rfl w2.heap.size (.slice PA t Pc) (tabN t 128 (partM 128 (padD d q)) (fun _ => decide (2 < cnt))) rfl hS3.out A5 c5 (grpB d q t) hrw.out _ _ 1 rfl hrd9.out (by rw [tabN_length]; omega) hH3.out.size ?_; intro v8 w8 hat8 hg8 hbl8; have hH8 := Lib.hid (Below.trans hH3.out hbl8); rw [htn.out] at hat8; replace hat8 := Lib.hid hat8; clear hg8 hbl8))
                  go_roundw
                  case rel => first | exact ⟨t + 1, _, by omega, by go_num, rfl, hat8, hH8⟩ | ((repeat apply Exists.intro); exact ⟨⟨t + 1, _, by omega, by go_num, rfl, hat8, hH8⟩, rfl⟩)
                  case measure => simp [intOf]; omega
                · have hc2 : 2 < cnt := by have := hpc.out; have := hcnt.out; omega
                  have ic2 : (2 : Int) < (cnt : Int) := by omega
                  have ic2d : decide ((cnt : Int) ≤ 2) = false := decide_eq_false (by omega)
                  rw [if_pos (by rw [decide_eq_true hc2])] at htn
                  have hz2 := alloc_grB w5 (.cells #[.slice none 0 0] 22)
                  have hS3 := Lib.hid (hPg.out.gr hz2)
                  have hH3 := Lib.hid (hGg.out.trans hz2)
                  have hrw := Lib.hid (RowP.nil_ (w5.alloc (.cells #[.slice none 0 0] 22)) (Value.ownBlock (.slice PA t Pc)) none 0 (Nat.zero_le _))
                  have hrd9 : Hid (Reads (w5.alloc (.cells #[.slice none 0 0] 22)) (w5.alloc (.cells #[.slice none 0 0] 22)).heap.size 1 (some ⟨w5.heap.size, 0, none⟩) 1 [.slice none ([] : List UInt8).length 0]) := Lib.hid (reads_one w5 22 (.slice none 0 0))
                  replace htn := Lib.hid htn
                  replace hc2 := Lib.hid hc2
                  replace h8 := Lib.hid h8
                  clear hz2
                  go_wp2_with (at_builtin; go_must (refine wpl_append_rowP rfl (.tmp 169) (.tmp 171) rfl w2.heap.size (.slice PA t Pc) (tabN t 128 (partM 128 (padD d q)) (fun _ => decide (2 < cnt))) rfl hS3.out none 0 [] hrw.out _ _ 1 rfl hrd9.out (by rw [tabN_length]; omega) hH3.out.size ?_; intro v8 w8 hat8 hg8 hbl8; have hH8 := Lib.hid (Below.trans hH3.out hbl8); rw [htn.out] at hat8; replace hat8 := Lib.hid hat8; clear hg8 hbl8))
                  go_roundw
                  case rel => first | exact ⟨t + 1, _, by omega, by go_num, rfl, hat8, hH8⟩ | ((repeat apply Exists.intro); exact ⟨⟨t + 1, _, by omega, by go_num, rfl, hat8, hH8⟩, rfl⟩)
                  case measure => simp [intOf]; omega
                · exact absurd tabN_ok h8
          · obtain rfl : t = q := by omega
            have hw : IntKind.i64.wrap (10 * (t : Int)) = ((m : Nat) : Int) := by rw [IntKind.wrap_i64]; have := hm.out; omega
            by_cases hc : 2 < cnt
            · have hci : (2 : Int) < (cnt : Int) := by omega
              have hgw := Lib.hid (hg2'.out.trans hG.out)
              go_wp2_with fail
              refine (awake18_any _).mono ?_
              rintro e w5 ⟨rfl, hg5⟩
              have hfin := Lib.hid (hgw.out.trans hg5)
              clear hg5
              go_wp2_with fail
              go_ret
              exact ⟨rfl, hfin.out⟩
            · have hci : ¬ ((2 : Int) < (cnt : Int)) := by omega
              have hjo := join_spl (l := d) (by rw [hn1.out]; exact hd5)
              have hjv := join_back (l := d) (by rw [hn1.out]; exact hd5)
              rw [hn1.out] at hjo hjv
              replace hjo := Lib.hid hjo
              replace hjv := Lib.hid hjv
              have hTT := hP.out.tbl
              rw [decide_eq_false hc, tabN_none, show tabM t 128 (partM 128 (padD d t)) = splD d from by unfold splD; rw [hn1.out, hq.out]] at hTT
              have hj := Lib.hid (join_any (n1 : Int) ⟨by omega, by omega⟩ _ (Lib.hid hTT))
              have ho5 : Hid (OB wr w.heap.size (.slice A1 n1 c1) d) := Lib.hid (row_below ho2.out hG.out)
              have hgw := Lib.hid (hg2'.out.trans hG.out)
              clear hTT
              go_wp2_with fail
              refine hj.out.mono ?_
              clear hj
              rintro e w6 hp
              rcases hp with ⟨-, A3, n3, c3, rfl, -, ho3, hg3⟩ | ⟨hf, -⟩
              case inr => rw [hjo.out] at hf; cases hf
              rw [hjv.out] at ho3
              have hd6 : Hid (OB w6 w.heap.size (.slice A1 n1 c1) d) := Lib.hid (row_below ho5.out hg3)
              replace hgw := Lib.hid (hgw.out.trans hg3)
              clear hg3
              go_wp2_with fail
              refine (awake18_any _).mono ?_
              rintro e w7 ⟨rfl, hg7⟩
              have hd7 : OB w7 w.heap.size (.slice A1 n1 c1) d := row_below hd6.out hg7
              have ho7 := row_below ho3.out hg7
              have cv1 := run_str_at c3 (OB.rd ho7).1 (OB.len_ ho7)
              have cv2 := run_str_at c1 hd7.rd.1 hd7.len_
              have hfin := Lib.hid (hgw.out.trans hg7)
              clear hg7 hd7 ho7
              go_wp2_with fail
              go_ret
              exact ⟨by first | rfl | simp, hfin.out⟩
  · obtain ⟨hg2, ⟨hyes, -⟩ | ⟨hno, rfl⟩⟩ := hpost
    · exact absurd hyes hk
    have hor : (key.length : Int) < 1 ∨ (¬ ((key.length : Int) < 1) ∧ (16 : Int) < (key.length : Int)) := by
      unfold nameOk inB at hk
      simp at hk
      omega
    have hg2' := Lib.hid (hg1.out.trans hg2)
    replace hk := Lib.hid hk
    replace hno := Lib.hid hno
    clear hg2
    rcases hor with h1 | ⟨h1, h2⟩
    all_goals
      go_wp2_with fail
      refine (awake18_any _).mono ?_
      rintro e w5 ⟨rfl, hg5⟩
      have hfin := Lib.hid (hg2'.out.trans hg5)
      clear hg5
      go_wp2_with fail
      go_ret
      exact ⟨rfl, hfin.out⟩
end Go.Proofs.Ytdgkcgiknfjpjaa
