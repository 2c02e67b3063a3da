/- Records of label: Good. -/
import Derived.Test.YtiliggleplpjbaaSl2
import Derived.Test.YtiliggleplpjbaaTyp
namespace Go.Proofs.Ytiliggleplpjbaa
set_option linter.unusedVariables false
set_option linter.unusedSimpArgs false
open Go Go.RowKit
theorem bs_nil : bs [] = ByteArray.empty := rfl
theorem same1_any (r : Rc) (A : Option Addr) (c : Nat) (w : World) (h : Rd w w.heap.size A r.data) :
    Calls Try.prog 35 #[r.agg A c, .agg #[.int .i64 r.kind, .int .i64 r.cart, .string .empty, .int .i64 0, .int .i64 0, .int .i64 0, .int .i64 0, .int .i64 0, .string .empty, .slice none 0 0]] w fun e w' => e = .returned (.bool (sameR r (bare1 r))) ∧ Below w.heap.size w w' :=
  same_any r (bare1 r) A none c 0 w h Rd.nil_
theorem same3_any (r : Rc) (A : Option Addr) (c : Nat) (w : World) (h : Rd w w.heap.size A r.data) :
    Calls Try.prog 35 #[r.agg A c, .agg #[.int .i64 r.kind, .int .i64 0, .string (bs r.key), .int .i64 r.gen, .int .i64 0, .int .i64 0, .int .i64 0, .int .i64 0, .string .empty, .slice none 0 0]] w fun e w' => e = .returned (.bool (sameR r (bare3 r))) ∧ Below w.heap.size w w' :=
  same_any r (bare3 r) A none c 0 w h Rd.nil_
theorem goodB_1 (r : Rc) (h : r.kind = 1) : goodB r = (inB r.cart 0 31 && sameR r (bare1 r)) := if_pos h
theorem goodB_3 (r : Rc) (h : r.kind = 3) : goodB r = (nameB r && sameR r (bare3 r)) := by unfold goodB; rw [if_neg (by omega), if_pos h]
theorem goodB_2 (r : Rc) (h : r.kind = 2) : goodB r = ((r.cart == 0) && nameB r && shardB r) := by unfold goodB; rw [if_neg (by omega), if_neg (by omega), if_pos h]
theorem goodB_no (r : Rc) (h1 : r.kind ≠ 1) (h2 : r.kind ≠ 2) (h3 : r.kind ≠ 3) : goodB r = false := by unfold goodB; rw [if_neg h1, if_neg h3, if_neg h2]
set_option maxHeartbeats 8000000 in
set_option maxRecDepth 10000 in
theorem good_any (r : Rc) (A : Option Addr) (c : Nat) (hok : r.Ok) (w : World) (h : Rd w w.heap.size A r.data) :
    Calls Try.prog 14 #[r.agg A c] w fun e w' => e = .returned (.bool (goodB r)) ∧ Below w.heap.size w w' := by
  have hb := Lib.hid ((Below.refl w.heap.size w).alloc (Nat.le_refl _) (.cells #[.int .i64 r.kind, .int .i64 r.cart, .string (bs r.key), .int .i64 r.gen, .int .i64 r.group, .int .i64 r.groups, .int .i64 r.index, .int .i64 r.size, .string (bs r.sum), .slice A r.data.length c] 37))
  have hR := Lib.hid (h.up hb.out)
  have hs1 := Lib.hid (same1_any r A c _ hR.out)
  have hs3 := Lib.hid (same3_any r A c _ hR.out)
  have hn := Lib.hid (goodName_any r A c (w.alloc (.cells #[.int .i64 r.kind, .int .i64 r.cart, .string (bs r.key), .int .i64 r.gen, .int .i64 r.group, .int .i64 r.groups, .int .i64 r.index, .int .i64 r.size, .string (bs r.sum), .slice A r.data.length c] 37)))
  unfold Rc.agg at hs1 hs3 hn
  clear h
  replace hok := Lib.hid hok
  by_cases k1 : r.kind = 1
  · have d1 : (r.kind == 1) = true := beq_iff_eq.mpr k1
    have hg := Lib.hid (goodB_1 r k1)
    replace k1 := Lib.hid k1
    rw [hg.out]
    cases h1 : inB r.cart 0 31 with
    | false =>
      unfold Rc.agg
      go_enter Try.func14, Try.ntmps14
      go_wp2_with fail
      refine (in_any r.cart 0 31 _).mono ?_
      rw [h1]
      rintro e w' ⟨rfl, rfl⟩
      go_wp2
      go_ret
      exact ⟨rfl, hb.out⟩
    | true =>
      unfold Rc.agg
      go_enter Try.func14, Try.ntmps14
      go_wp2_with fail
      refine (in_any r.cart 0 31 _).mono ?_
      rw [h1]
      rintro e w' ⟨rfl, rfl⟩
      go_wp2_with fail
      refine hs1.out.mono ?_
      rintro e w' ⟨rfl, hbb⟩
      replace hbb := Lib.hid (hb.out.trans (hbb.mono hb.out.size))
      go_wp2
      go_ret
      exact ⟨rfl, hbb.out⟩
  · have d1 : (r.kind == 1) = false := beq_eq_false_iff_ne.mpr k1
    by_cases k3 : r.kind = 3
    · have d3 : (r.kind == 3) = true := beq_iff_eq.mpr k3
      have hg := Lib.hid (goodB_3 r k3)
      replace k1 := Lib.hid k1
      replace k3 := Lib.hid k3
      rw [hg.out]
      cases h1 : nameB r with
      | false =>
        unfold Rc.agg
        go_enter Try.func14, Try.ntmps14
        go_wp2_with fail
        refine hn.out.mono ?_
        rw [h1]
        rintro e w' ⟨rfl, hbb⟩
        replace hbb := Lib.hid (hb.out.trans (hbb.mono hb.out.size))
        go_wp2
        go_ret
        exact ⟨rfl, hbb.out⟩
      | true =>
        unfold Rc.agg
        go_enter Try.func14, Try.ntmps14
        go_wp2_with fail
        refine hn.out.mono ?_
        rw [h1]
        rintro e w2 ⟨rfl, hbb⟩
        have hs := Lib.hid (same3_any r A c w2 (hR.out.up hbb))
        unfold Rc.agg at hs
        have hbx := blk_below (heap_alloc_new w (.cells #[.int .i64 r.kind, .int .i64 r.cart, .string (bs r.key), .int .i64 r.gen, .int .i64 r.group, .int .i64 r.groups, .int .i64 r.index, .int .i64 r.size, .string (bs r.sum), .slice A r.data.length c] 37)) hbb
        have hb2 := Lib.hid (hb.out.trans (hbb.mono hb.out.size))
        have x0 := blk_cell (j := 0) hbx rfl
        have x1 := blk_cell (j := 1) hbx rfl
        have x2 := blk_cell (j := 2) hbx rfl
        have x3 := blk_cell (j := 3) hbx rfl
        have x4 := blk_cell (j := 4) hbx rfl
        have x5 := blk_cell (j := 5) hbx rfl
        have x6 := blk_cell (j := 6) hbx rfl
        have x7 := blk_cell (j := 7) hbx rfl
        have x8 := blk_cell (j := 8) hbx rfl
        have x9 := blk_cell (j := 9) hbx rfl
        replace hbx := Lib.hid hbx
        clear hbb
        go_wp2_with fail
        refine hs.out.mono ?_
        rintro e w' ⟨rfl, hbb⟩
        replace hbb := Lib.hid (hb2.out.trans (hbb.mono hb2.out.size))
        go_wp2
        go_ret
        exact ⟨rfl, hbb.out⟩
    · have d3 : (r.kind == 3) = false := beq_eq_false_iff_ne.mpr k3
      by_cases k2 : r.kind = 2
      · have d2 : (r.kind == 2) = true := beq_iff_eq.mpr k2
        have hg := Lib.hid (goodB_2 r k2)
        replace k1 := Lib.hid k1
        replace k2 := Lib.hid k2
        replace k3 := Lib.hid k3
        rw [hg.out]
        cases h0 : (r.cart == 0) with
        | false =>
          unfold Rc.agg
          go_enter Try.func14, Try.ntmps14
          go_wp2
          go_ret
          exact ⟨rfl, hb.out⟩
        | true =>
          cases h1 : nameB r with
          | false =>
            unfold Rc.agg
            go_enter Try.func14, Try.ntmps14
            go_wp2_with fail
            refine hn.out.mono ?_
            rw [h1]
            rintro e w' ⟨rfl, hbb⟩
            replace hbb := Lib.hid (hb.out.trans (hbb.mono hb.out.size))
            go_wp2
            go_ret
            exact ⟨rfl, hbb.out⟩
          | true =>
            unfold Rc.agg
            go_enter Try.func14, Try.ntmps14
            go_wp2_with fail
            refine hn.out.mono ?_
            rw [h1]
            rintro e w2 ⟨rfl, hbb⟩
            have hs := Lib.hid (goodShard_any r A c hok.out w2)
            unfold Rc.agg at hs
            have hbx := blk_below (heap_alloc_new w (.cells #[.int .i64 r.kind, .int .i64 r.cart, .string (bs r.key), .int .i64 r.gen, .int .i64 r.group, .int .i64 r.groups, .int .i64 r.index, .int .i64 r.size, .string (bs r.sum), .slice A r.data.length c] 37)) hbb
            have hb2 := Lib.hid (hb.out.trans (hbb.mono hb.out.size))
            have x0 := blk_cell (j := 0) hbx rfl
            have x1 := blk_cell (j := 1) hbx rfl
            have x2 := blk_cell (j := 2) hbx rfl
            have x3 := blk_cell (j := 3) hbx rfl
            have x4 := blk_cell (j := 4) hbx rfl
            have x5 := blk_cell (j := 5) hbx rfl
            have x6 := blk_cell (j := 6) hbx rfl
            have x7 := blk_cell (j := 7) hbx rfl
            have x8 := blk_cell (j := 8) hbx rfl
            have x9 := blk_cell (j := 9) hbx rfl
            replace hbx := Lib.hid hbx
            clear hbb
            go_wp2_with fail
            refine hs.out.mono ?_
            rintro e w' ⟨rfl, hbb⟩
            replace hbb := Lib.hid (hb2.out.trans (hbb.mono hb2.out.size))
            go_wp2
            go_ret
            exact ⟨rfl, hbb.out⟩
      · have d2 : (r.kind == 2) = false := beq_eq_false_iff_ne.mpr k2
        have hg := Lib.hid (goodB_no r k1 k2 k3)
        replace k1 := Lib.hid k1
        replace k2 := Lib.hid k2
        replace k3 := Lib.hid k3
        rw [hg.out]
        unfold Rc.agg
        go_enter Try.func14, Try.ntmps14
        go_wp2
        go_ret
        exact ⟨rfl, hb.out⟩
end Go.Proofs.Ytiliggleplpjbaa
