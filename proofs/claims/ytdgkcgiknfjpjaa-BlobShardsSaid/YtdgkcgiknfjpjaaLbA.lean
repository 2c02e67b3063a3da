/- Records of label: what they are, in memory and plain; the walks of fit, bytes.Equal and Same. -/
import Derived.Test.YtdgkcgiknfjpjaaRcA
import Derived.Test.YtdgkcgiknfjpjaaWdA
import Derived.Test.YtdgkcgiknfjpjaaBaseA
import Derived.IntWalk
import Derived.Test.YtdgkcgiknfjpjaaLg
import Derived.Deep.QuietTactic
import Derived.BigQuiet
import Derived.Test.YtdgkcgiknfjpjaaSmA
import Derived.Deep.CutBlock
import Derived.Deep.DeepCutAuto
namespace Go.Proofs.Ytdgkcgiknfjpjaa
set_option linter.unusedVariables false
set_option linter.unusedSimpArgs false
open Go Go.RowKit
theorem equal_any (A A2 : Option Addr) (n c n2 c2 B B2 : Nat) (l l2 : List UInt8) (hn : l.length = n) (hn2 : l2.length = n2) (w : World) (h : Rd w B A l) (h2 : Rd w B2 A2 l2) :
    Calls Try.prog 51 #[.slice A n c, .slice A2 n2 c2] w fun e w' => e = .returned (.bool (l == l2)) ∧ w' = w := by
  have c1 := run_str_at c h hn
  have c2' := run_str_at c2 h2 hn2
  go_enter Try.func51, Try.ntmps51
  go_wp2
  go_ret
  exact ⟨rfl, rfl⟩
set_option maxHeartbeats 8000000 in
set_option maxRecDepth 10000 in
theorem same_any (a b : Rc) (A A2 : Option Addr) (c c2 : Nat) (w : World) (h : Rd w w.heap.size A a.data) (h2 : Rd w w.heap.size A2 b.data) :
    Calls Try.prog 27 #[a.agg A c, b.agg A2 c2] w fun e w' => e = .returned (.bool (sameR a b)) ∧ Below w.heap.size w w' := by
  have hb1 := (Below.refl w.heap.size w).alloc (Nat.le_refl _) (.cells #[.int .i64 a.kind, .int .i64 a.cart, .string (bs a.key), .int .i64 a.gen, .int .i64 a.group, .int .i64 a.groups, .int .i64 a.index, .int .i64 a.size, .string (bs a.sum), .slice A a.data.length c] 41)
  have hb := Lib.hid (hb1.alloc hb1.size (.cells #[.int .i64 b.kind, .int .i64 b.cart, .string (bs b.key), .int .i64 b.gen, .int .i64 b.group, .int .i64 b.groups, .int .i64 b.index, .int .i64 b.size, .string (bs b.sum), .slice A2 b.data.length c2] 41))
  have hR := Lib.hid (h.up hb.out)
  have hR2 := Lib.hid (h2.up hb.out)
  have hv := sameR_eq a b
  clear hb1 h h2
  unfold Rc.agg
  obtain ⟨k0, d0⟩ : ∃ k, (a.kind == b.kind) = k := ⟨_, rfl⟩
  rw [d0] at hv
  obtain ⟨k1, d1⟩ : ∃ k, (a.cart == b.cart) = k := ⟨_, rfl⟩
  rw [d1] at hv
  obtain ⟨k2, e2⟩ : ∃ k, (a.key == b.key) = k := ⟨_, rfl⟩
  have d2 : (bs a.key == bs b.key) = k2 := by rw [bs_beq, e2]
  rw [e2] at hv
  obtain ⟨k3, d3⟩ : ∃ k, (a.gen == b.gen) = k := ⟨_, rfl⟩
  rw [d3] at hv
  obtain ⟨k4, d4⟩ : ∃ k, (a.group == b.group) = k := ⟨_, rfl⟩
  rw [d4] at hv
  obtain ⟨k5, d5⟩ : ∃ k, (a.groups == b.groups) = k := ⟨_, rfl⟩
  rw [d5] at hv
  obtain ⟨k6, d6⟩ : ∃ k, (a.index == b.index) = k := ⟨_, rfl⟩
  rw [d6] at hv
  obtain ⟨k7, d7⟩ : ∃ k, (a.size == b.size) = k := ⟨_, rfl⟩
  rw [d7] at hv
  obtain ⟨k8, e8⟩ : ∃ k, (a.sum == b.sum) = k := ⟨_, rfl⟩
  have d8 : (bs a.sum == bs b.sum) = k8 := by rw [bs_beq, e8]
  rw [e8] at hv
  obtain ⟨k9, d9⟩ : ∃ k, (a.data == b.data) = k := ⟨_, rfl⟩
  rw [d9] at hv
  rw [hv]
  clear hv
  go_enter Try.func27, Try.ntmps27
  go_wp2_with (go_at_call 51; refine (equal_any A A2 _ c _ c2 _ _ a.data b.data rfl rfl _ hR.out hR2.out).mono ?_; rw [d9]; rintro e w' ⟨rfl, rfl⟩)
  all_goals (first | go_ret | (go_wp2; go_ret))
  all_goals refine ⟨congrArg (fun z => Ending.returned (Value.bool z)) ?_, hb.out⟩
  all_goals simp_all
end Go.Proofs.Ytdgkcgiknfjpjaa
/- Records of label: which may be. -/
namespace Go.Proofs.Ytdgkcgiknfjpjaa
set_option linter.unusedVariables false
set_option linter.unusedSimpArgs false
open Go Go.RowKit
def bare1 (r : Rc) : Rc := ⟨r.kind, r.cart, [], 0, 0, 0, 0, 0, [], []⟩
def bare3 (r : Rc) : Rc := ⟨r.kind, 0, r.key, r.gen, 0, 0, 0, 0, [], []⟩
def goodB (r : Rc) : Bool := if r.kind = 1 then inB r.cart 0 31 && sameR r (bare1 r) else if r.kind = 3 then nameB r && sameR r (bare3 r) else if r.kind = 2 then (r.cart == 0) && nameB r && shardB r else false
theorem groupsOf_bd9 (n : Int) (h : inB n 0 512 = true) : 1 ≤ groupsOf n ∧ groupsOf n ≤ 5 := by
  unfold groupsOf
  rw [if_pos h]
  have h2 : 0 ≤ n ∧ n ≤ 512 := by unfold inB at h; simpa using h
  omega
end Go.Proofs.Ytdgkcgiknfjpjaa
/- Records of label: Good. -/
namespace Go.Proofs.Ytdgkcgiknfjpjaa
set_option linter.unusedVariables false
set_option linter.unusedSimpArgs false
open Go Go.RowKit
theorem bs_nil : bs [] = ByteArray.empty := rfl
theorem same1_any (r : Rc) (A : Option Addr) (c : Nat) (w : World) (h : Rd w w.heap.size A r.data) :
    Calls Try.prog 27 #[r.agg A c, .agg #[.int .i64 r.kind, .int .i64 r.cart, .string .empty, .int .i64 0, .int .i64 0, .int .i64 0, .int .i64 0, .int .i64 0, .string .empty, .slice none 0 0]] w fun e w' => e = .returned (.bool (sameR r (bare1 r))) ∧ Below w.heap.size w w' :=
  same_any r (bare1 r) A none c 0 w h Rd.nil_
theorem same3_any (r : Rc) (A : Option Addr) (c : Nat) (w : World) (h : Rd w w.heap.size A r.data) :
    Calls Try.prog 27 #[r.agg A c, .agg #[.int .i64 r.kind, .int .i64 0, .string (bs r.key), .int .i64 r.gen, .int .i64 0, .int .i64 0, .int .i64 0, .int .i64 0, .string .empty, .slice none 0 0]] w fun e w' => e = .returned (.bool (sameR r (bare3 r))) ∧ Below w.heap.size w w' :=
  same_any r (bare3 r) A none c 0 w h Rd.nil_
theorem goodB_1 (r : Rc) (h : r.kind = 1) : goodB r = (inB r.cart 0 31 && sameR r (bare1 r)) := if_pos h
theorem goodB_3 (r : Rc) (h : r.kind = 3) : goodB r = (nameB r && sameR r (bare3 r)) := by unfold goodB; rw [if_neg (by omega), if_pos h]
theorem goodB_2 (r : Rc) (h : r.kind = 2) : goodB r = ((r.cart == 0) && nameB r && shardB r) := by unfold goodB; rw [if_neg (by omega), if_neg (by omega), if_pos h]
theorem goodB_no (r : Rc) (h1 : r.kind ≠ 1) (h2 : r.kind ≠ 2) (h3 : r.kind ≠ 3) : goodB r = false := by unfold goodB; rw [if_neg h1, if_neg h3, if_neg h2]
set_option maxHeartbeats 8000000 in
set_option maxRecDepth 10000 in
theorem good_any (r : Rc) (A : Option Addr) (c : Nat) (hok : r.Ok) (w : World) (h : Rd w w.heap.size A r.data) :
    Calls Try.prog 26 #[r.agg A c] w fun e w' => e = .returned (.bool (goodB r)) ∧ Below w.heap.size w w' := by
  have hb := Lib.hid ((Below.refl w.heap.size w).alloc (Nat.le_refl _) (.cells #[.int .i64 r.kind, .int .i64 r.cart, .string (bs r.key), .int .i64 r.gen, .int .i64 r.group, .int .i64 r.groups, .int .i64 r.index, .int .i64 r.size, .string (bs r.sum), .slice A r.data.length c] 41))
  have hR := Lib.hid (h.up hb.out)
  have hs1 := Lib.hid (same1_any r A c _ hR.out)
  have hs3 := Lib.hid (same3_any r A c _ hR.out)
  have hn := Lib.hid (goodName_any r A c (w.alloc (.cells #[.int .i64 r.kind, .int .i64 r.cart, .string (bs r.key), .int .i64 r.gen, .int .i64 r.group, .int .i64 r.groups, .int .i64 r.index, .int .i64 r.size, .string (bs r.sum), .slice A r.data.length c] 41)))
  unfold Rc.agg at hs1 hs3 hn
  clear h
  replace hok := Lib.hid hok
  by_cases k1 : r.kind = 1
  · have d1 : (r.kind == 1) = true := beq_iff_eq.mpr k1
    have hg := Lib.hid (goodB_1 r k1)
    replace k1 := Lib.hid k1
    rw [hg.out]
    cases h1 : inB r.cart 0 31 with
    | false =>
      unfold Rc.agg
      go_enter Try.func26, Try.ntmps26
      go_wp2_with fail
      refine (in_any r.cart 0 31 _).mono ?_
      rw [h1]
      rintro e w' ⟨rfl, rfl⟩
      go_wp2
      go_ret
      exact ⟨rfl, hb.out⟩
    | true =>
      unfold Rc.agg
      go_enter Try.func26, Try.ntmps26
      go_wp2_with fail
      refine (in_any r.cart 0 31 _).mono ?_
      rw [h1]
      rintro e w' ⟨rfl, rfl⟩
      go_wp2_with fail
      refine hs1.out.mono ?_
      rintro e w' ⟨rfl, hbb⟩
      replace hbb := Lib.hid (hb.out.trans (hbb.mono hb.out.size))
      go_wp2
      go_ret
      exact ⟨rfl, hbb.out⟩
  · have d1 : (r.kind == 1) = false := beq_eq_false_iff_ne.mpr k1
    by_cases k3 : r.kind = 3
    · have d3 : (r.kind == 3) = true := beq_iff_eq.mpr k3
      have hg := Lib.hid (goodB_3 r k3)
      replace k1 := Lib.hid k1
      replace k3 := Lib.hid k3
      rw [hg.out]
      cases h1 : nameB r with
      | false =>
        unfold Rc.agg
        go_enter Try.func26, Try.ntmps26
        go_wp2_with fail
        refine hn.out.mono ?_
        rw [h1]
        rintro e w' ⟨rfl, hbb⟩
        replace hbb := Lib.hid (hb.out.trans (hbb.mono hb.out.size))
        go_wp2
        go_ret
        exact ⟨rfl, hbb.out⟩
      | true =>
        unfold Rc.agg
        go_enter Try.func26, Try.ntmps26
        go_wp2_with fail
        refine hn.out.mono ?_
        rw [h1]
        rintro e w2 ⟨rfl, hbb⟩
        have hs := Lib.hid (same3_any r A c w2 (hR.out.up hbb))
        unfold Rc.agg at hs
        have hbx := blk_below (heap_alloc_new w (.cells #[.int .i64 r.kind, .int .i64 r.cart, .string (bs r.key), .int .i64 r.gen, .int .i64 r.group, .int .i64 r.groups, .int .i64 r.index, .int .i64 r.size, .string (bs r.sum), .slice A r.data.length c] 41)) hbb
        have hb2 := Lib.hid (hb.out.trans (hbb.mono hb.out.size))
        have x0 := blk_cell (j := 0) hbx rfl
        have x1 := blk_cell (j := 1) hbx rfl
        have x2 := blk_cell (j := 2) hbx rfl
        have x3 := blk_cell (j := 3) hbx rfl
        have x4 := blk_cell (j := 4) hbx rfl
        have x5 := blk_cell (j := 5) hbx rfl
        have x6 := blk_cell (j := 6) hbx rfl
        have x7 := blk_cell (j := 7) hbx rfl
        have x8 := blk_cell (j := 8) hbx rfl
        have x9 := blk_cell (j := 9) hbx rfl
        replace hbx := Lib.hid hbx
        clear hbb
        go_wp2_with fail
        refine hs.out.mono ?_
        rintro e w' ⟨rfl, hbb⟩
        replace hbb := Lib.hid (hb2.out.trans (hbb.mono hb2.out.size))
        go_wp2
        go_ret
        exact ⟨rfl, hbb.out⟩
    · have d3 : (r.kind == 3) = false := beq_eq_false_iff_ne.mpr k3
      by_cases k2 : r.kind = 2
      · have d2 : (r.kind == 2) = true := beq_iff_eq.mpr k2
        have hg := Lib.hid (goodB_2 r k2)
        replace k1 := Lib.hid k1
        replace k2 := Lib.hid k2
        replace k3 := Lib.hid k3
        rw [hg.out]
        cases h0 : (r.cart == 0) with
        | false =>
          unfold Rc.agg
          go_enter Try.func26, Try.ntmps26
          go_wp2
          go_ret
          exact ⟨rfl, hb.out⟩
        | true =>
          cases h1 : nameB r with
          | false =>
            unfold Rc.agg
            go_enter Try.func26, Try.ntmps26
            go_wp2_with fail
            refine hn.out.mono ?_
            rw [h1]
            rintro e w' ⟨rfl, hbb⟩
            replace hbb := Lib.hid (hb.out.trans (hbb.mono hb.out.size))
            go_wp2
            go_ret
            exact ⟨rfl, hbb.out⟩
          | true =>
            unfold Rc.agg
            go_enter Try.func26, Try.ntmps26
            go_wp2_with fail
            refine hn.out.mono ?_
            rw [h1]
            rintro e w2 ⟨rfl, hbb⟩
            have hs := Lib.hid (goodShard_any r A c hok.out w2)
            unfold Rc.agg at hs
            have hbx := blk_below (heap_alloc_new w (.cells #[.int .i64 r.kind, .int .i64 r.cart, .string (bs r.key), .int .i64 r.gen, .int .i64 r.group, .int .i64 r.groups, .int .i64 r.index, .int .i64 r.size, .string (bs r.sum), .slice A r.data.length c] 41)) hbb
            have hb2 := Lib.hid (hb.out.trans (hbb.mono hb.out.size))
            have x0 := blk_cell (j := 0) hbx rfl
            have x1 := blk_cell (j := 1) hbx rfl
            have x2 := blk_cell (j := 2) hbx rfl
            have x3 := blk_cell (j := 3) hbx rfl
            have x4 := blk_cell (j := 4) hbx rfl
            have x5 := blk_cell (j := 5) hbx rfl
            have x6 := blk_cell (j := 6) hbx rfl
            have x7 := blk_cell (j := 7) hbx rfl
            have x8 := blk_cell (j := 8) hbx rfl
            have x9 := blk_cell (j := 9) hbx rfl
            replace hbx := Lib.hid hbx
            clear hbb
            go_wp2_with fail
            refine hs.out.mono ?_
            rintro e w' ⟨rfl, hbb⟩
            replace hbb := Lib.hid (hb2.out.trans (hbb.mono hb2.out.size))
            go_wp2
            go_ret
            exact ⟨rfl, hbb.out⟩
      · have d2 : (r.kind == 2) = false := beq_eq_false_iff_ne.mpr k2
        have hg := Lib.hid (goodB_no r k1 k2 k3)
        replace k1 := Lib.hid k1
        replace k2 := Lib.hid k2
        replace k3 := Lib.hid k3
        rw [hg.out]
        unfold Rc.agg
        go_enter Try.func26, Try.ntmps26
        go_wp2
        go_ret
        exact ⟨rfl, hb.out⟩
end Go.Proofs.Ytdgkcgiknfjpjaa
/- Records of label: their bytes. -/
namespace Go.Proofs.Ytdgkcgiknfjpjaa
set_option linter.unusedVariables false
set_option linter.unusedSimpArgs false
open Go Go.RowKit
def body (r : Rc) : List UInt8 := if r.kind = 1 then enc r.cart.toNat else if r.kind = 3 then enc r.key.length ++ r.key ++ enc r.gen.toNat else
  enc r.key.length ++ r.key ++ enc r.gen.toNat ++ enc r.group.toNat ++ enc r.groups.toNat ++ enc r.index.toNat ++ enc r.size.toNat ++ r.sum ++ r.data
def flds (r : Rc) : List UInt8 := 107 :: UInt8.ofNat r.kind.toNat :: body r
theorem U107 : U 107 = 107 := rfl
set_option maxHeartbeats 4000000 in
set_option maxRecDepth 10000 in
theorem fields1 (cart : Int) (key : List UInt8) (gen group groups index size : Int) (sum data : List UInt8) (A : Option Addr) (c : Nat) (hc : R64 cart) (w : World) :
    Calls Try.prog 48 #[(Rc.mk 1 cart key gen group groups index size sum data).agg A c] w fun e w' => ∃ v, e = .returned v ∧ OB w' w.heap.size v (flds ⟨1, cart, key, gen, group, groups, index, size, sum, data⟩) ∧ Below w.heap.size w w' := by
  have hb1 := (Below.refl w.heap.size w).alloc (Nat.le_refl _) (.cells #[.int .i64 1, .int .i64 cart, .string (bs key), .int .i64 gen, .int .i64 group, .int .i64 groups, .int .i64 index, .int .i64 size, .string (bs sum), .slice A data.length c] 41)
  have hb2 := Lib.hid (hb1.alloc hb1.size (.cells #[.int .u8 107, .int .u8 1] 5))
  have hbx := Lib.hid (blk_alloc (heap_alloc_new w (.cells #[.int .i64 1, .int .i64 cart, .string (bs key), .int .i64 gen, .int .i64 group, .int .i64 groups, .int .i64 index, .int .i64 size, .string (bs sum), .slice A data.length c] 41)) (.cells #[.int .u8 107, .int .u8 1] 5))
  have hlit := Lib.hid (Rd.lit (w.alloc (.cells #[.int .i64 1, .int .i64 cart, .string (bs key), .int .i64 gen, .int .i64 group, .int .i64 groups, .int .i64 index, .int .i64 size, .string (bs sum), .slice A data.length c] 41)) #[.int .u8 107, .int .u8 1] 5 [107, 1] rfl ((w.alloc (.cells #[.int .i64 1, .int .i64 cart, .string (bs key), .int .i64 gen, .int .i64 group, .int .i64 groups, .int .i64 index, .int .i64 size, .string (bs sum), .slice A data.length c] 41)).heap.size + 1) (Nat.lt_succ_self _))
  have hsz : (w.alloc (.cells #[.int .i64 1, .int .i64 cart, .string (bs key), .int .i64 gen, .int .i64 group, .int .i64 groups, .int .i64 index, .int .i64 size, .string (bs sum), .slice A data.length c] 41)).heap.size = w.heap.size + 1 := by simp
  obtain ⟨N, hN⟩ : ∃ N, w.heap.size = N := ⟨_, rfl⟩
  rw [hsz] at hlit
  rw [hN] at hbx hlit hb2 ⊢
  have hlt1 : N + 2 = ((w.alloc (.cells #[.int .i64 1, .int .i64 cart, .string (bs key), .int .i64 gen, .int .i64 group, .int .i64 groups, .int .i64 index, .int .i64 size, .string (bs sum), .slice A data.length c] 41)).alloc (.cells #[.int .u8 107, .int .u8 1] 5)).heap.size := by simp; omega
  replace hlit : Hid (Rd ((w.alloc (.cells #[.int .i64 1, .int .i64 cart, .string (bs key), .int .i64 gen, .int .i64 group, .int .i64 groups, .int .i64 index, .int .i64 size, .string (bs sum), .slice A data.length c] 41)).alloc (.cells #[.int .u8 107, .int .u8 1] 5)) ((w.alloc (.cells #[.int .i64 1, .int .i64 cart, .string (bs key), .int .i64 gen, .int .i64 group, .int .i64 groups, .int .i64 index, .int .i64 size, .string (bs sum), .slice A data.length c] 41)).alloc (.cells #[.int .u8 107, .int .u8 1] 5)).heap.size (some ⟨N + 1, 0, none⟩) [107, 1]) := Lib.hid (hlt1 ▸ hlit.out)
  clear hb1 hsz
  replace hN := Lib.hid hN
  replace hlt1 := Lib.hid hlt1
  unfold Rc.agg
  go_enter Try.func48, Try.ntmps48
  go_wp2_with fail
  rw [hN.out]
  refine (put_any (some ⟨N + 1, 0, none⟩) 2 2 [107, 1] rfl cart hc.1 hc.2 (by decide) _ hlit.out).mono ?_
  rintro e w2 ⟨v2, rfl, ho, hbb⟩
  have hb3 := Lib.hid (hb2.out.trans (hbb.mono (by rw [← hlt1.out]; omega)))
  replace ho := Lib.hid (ho.more (base' := N) (by rw [← hlt1.out]; omega))
  clear hbb
  obtain ⟨A2, c2, rfl, -, -, -, -⟩ := ho.out.form
  go_wp2_with fail
  go_ret
  exact ⟨_, rfl, ho.out, hb3.out⟩
set_option maxHeartbeats 4000000 in
set_option maxRecDepth 10000 in
theorem fields3 (cart : Int) (key : List UInt8) (gen group groups index size : Int) (sum data : List UInt8) (A : Option Addr) (c : Nat) (hk : key.length ≤ 16) (hg : 0 ≤ gen) (hg2 : gen ≤ 1099511627776) (w : World) :
    Calls Try.prog 48 #[(Rc.mk 3 cart key gen group groups index size sum data).agg A c] w fun e w' => ∃ v, e = .returned v ∧ OB w' w.heap.size v (flds ⟨3, cart, key, gen, group, groups, index, size, sum, data⟩) ∧ Below w.heap.size w w' := by
  have hb1 := (Below.refl w.heap.size w).alloc (Nat.le_refl _) (.cells #[.int .i64 3, .int .i64 cart, .string (bs key), .int .i64 gen, .int .i64 group, .int .i64 groups, .int .i64 index, .int .i64 size, .string (bs sum), .slice A data.length c] 41)
  have hb2 := Lib.hid (hb1.alloc hb1.size (.cells #[.int .u8 107, .int .u8 3] 5))
  have hbx := Lib.hid (blk_alloc (heap_alloc_new w (.cells #[.int .i64 3, .int .i64 cart, .string (bs key), .int .i64 gen, .int .i64 group, .int .i64 groups, .int .i64 index, .int .i64 size, .string (bs sum), .slice A data.length c] 41)) (.cells #[.int .u8 107, .int .u8 3] 5))
  have hlit := Lib.hid (Rd.lit (w.alloc (.cells #[.int .i64 3, .int .i64 cart, .string (bs key), .int .i64 gen, .int .i64 group, .int .i64 groups, .int .i64 index, .int .i64 size, .string (bs sum), .slice A data.length c] 41)) #[.int .u8 107, .int .u8 3] 5 [107, 3] rfl ((w.alloc (.cells #[.int .i64 3, .int .i64 cart, .string (bs key), .int .i64 gen, .int .i64 group, .int .i64 groups, .int .i64 index, .int .i64 size, .string (bs sum), .slice A data.length c] 41)).heap.size + 1) (Nat.lt_succ_self _))
  have hsz : (w.alloc (.cells #[.int .i64 3, .int .i64 cart, .string (bs key), .int .i64 gen, .int .i64 group, .int .i64 groups, .int .i64 index, .int .i64 size, .string (bs sum), .slice A data.length c] 41)).heap.size = w.heap.size + 1 := by simp
  obtain ⟨N, hN⟩ : ∃ N, w.heap.size = N := ⟨_, rfl⟩
  rw [hsz] at hlit
  rw [hN] at hbx hlit hb2 ⊢
  have hlt1 : N + 2 = ((w.alloc (.cells #[.int .i64 3, .int .i64 cart, .string (bs key), .int .i64 gen, .int .i64 group, .int .i64 groups, .int .i64 index, .int .i64 size, .string (bs sum), .slice A data.length c] 41)).alloc (.cells #[.int .u8 107, .int .u8 3] 5)).heap.size := by simp; omega
  replace hlit : Hid (Rd ((w.alloc (.cells #[.int .i64 3, .int .i64 cart, .string (bs key), .int .i64 gen, .int .i64 group, .int .i64 groups, .int .i64 index, .int .i64 size, .string (bs sum), .slice A data.length c] 41)).alloc (.cells #[.int .u8 107, .int .u8 3] 5)) ((w.alloc (.cells #[.int .i64 3, .int .i64 cart, .string (bs key), .int .i64 gen, .int .i64 group, .int .i64 groups, .int .i64 index, .int .i64 size, .string (bs sum), .slice A data.length c] 41)).alloc (.cells #[.int .u8 107, .int .u8 3] 5)).heap.size (some ⟨N + 1, 0, none⟩) [107, 3]) := Lib.hid (hlt1 ▸ hlit.out)
  clear hb1 hsz
  replace hN := Lib.hid hN
  replace hlt1 := Lib.hid hlt1
  unfold Rc.agg
  go_enter Try.func48, Try.ntmps48
  go_wp2_with fail
  rw [hN.out]
  obtain ⟨wd, hwd⟩ : ∃ wd, wd = ((w.alloc (.cells #[.int .i64 3, .int .i64 cart, .string (bs key), .int .i64 gen, .int .i64 group, .int .i64 groups, .int .i64 index, .int .i64 size, .string (bs sum), .slice A data.length c] 41)).alloc (.cells #[.int .u8 107, .int .u8 3] 5)).drew := ⟨_, rfl⟩
  have hbd : Hid (Below N w wd) := Lib.hid (by rw [hwd]; exact hb2.out.drew)
  replace hbx : Hid (wd.heap[N]? = some (.cells #[.int .i64 3, .int .i64 cart, .string (bs key), .int .i64 gen, .int .i64 group, .int .i64 groups, .int .i64 index, .int .i64 size, .string (bs sum), .slice A data.length c] 41 (0, 0))) := Lib.hid (by rw [hwd]; exact hbx.out)
  replace hlit : Hid (Rd wd wd.heap.size (some ⟨N + 1, 0, none⟩) [107, 3]) := Lib.hid (by rw [hwd]; exact hlit.out)
  have hNd : N + 2 ≤ wd.heap.size := by rw [hwd]; exact Nat.le_of_eq hlt1.out
  refine wpR_region (Upd (fun _ => False)) 9999 (by kernel_rfl) ?_
  (rw [← hwd]; replace hwd := Lib.hid hwd)
  refine wpR_take (i := 0) (v := ?_) (Upd.road _) (some 20) rfl (by kernel_rfl) (by kernel_rfl) (by kernel_rfl) (by kernel_rfl) (by kernel_rfl) (fun _ _ _ h => h) (by kernel_rfl) (fun w' hw' => ?_) ?_
  rotate_left
  · go_simp; with_reducible rfl
  simp only [Act.put, List.setIfInBounds_toArray, List.set_cons_zero, List.set_cons_succ]
  refine wpR_take (i := 1) (v := ?_) (Upd.road _) (some 21) rfl (by kernel_rfl) (by kernel_rfl) (by kernel_rfl) (by kernel_rfl) (by kernel_rfl) (fun _ _ _ h => h) (by kernel_rfl) (fun w' hw' => ?_) ?_
  rotate_left
  · go_simp; with_reducible rfl
  simp only [Act.put, List.setIfInBounds_toArray, List.set_cons_zero, List.set_cons_succ]
  refine wpR_take (i := 2) (v := ?_) (Upd.road _) (some 22) rfl (by kernel_rfl) (by kernel_rfl) (by kernel_rfl) (by kernel_rfl) (by kernel_rfl) (fun _ _ _ h => h) (by kernel_rfl) (fun w' hw' => ?_) ?_
  rotate_left
  · have q := blk_cell (j := 2) ((hw'.2.2.2.2 N (by omega) (fun h => h)).trans hbx.out) rfl; go_simp; with_reducible rfl
  simp only [Act.put, List.setIfInBounds_toArray, List.set_cons_zero, List.set_cons_succ]
  refine wpR_take (i := 4) (v := ?_) (Upd.road _) (some 24) rfl (by kernel_rfl) (by kernel_rfl) (by kernel_rfl) (by kernel_rfl) (by kernel_rfl) (fun _ _ _ h => h) (by kernel_rfl) (fun w' hw' => ?_) ?_
  rotate_left
  · go_simp; with_reducible rfl
  simp only [Act.put, List.setIfInBounds_toArray, List.set_cons_zero, List.set_cons_succ]
  refine wpR_take (i := 5) (v := ?_) (Upd.road _) (some 25) rfl (by kernel_rfl) (by kernel_rfl) (by kernel_rfl) (by kernel_rfl) (by kernel_rfl) (fun _ _ _ h => h) (by kernel_rfl) (fun w' hw' => ?_) ?_
  rotate_left
  · have q := blk_cell (j := 3) ((hw'.2.2.2.2 N (by omega) (fun h => h)).trans hbx.out) rfl; go_simp; with_reducible rfl
  simp only [Act.put, List.setIfInBounds_toArray, List.set_cons_zero, List.set_cons_succ]
  refine wpR_one 3 rfl (by kernel_rfl) (by kernel_rfl) (fun K hK => ?_)
  go_simp
  refine (text_any (some ⟨N + 1, 0, none⟩) 2 2 [107, 3] rfl key (by omega) _ hlit.out).mono ?_
  rintro e w3 ⟨v3, rfl, ho3, hbb⟩
  refine hK _ _ (fun _ => Upd.of_below hbb) ?_
  clear hK K
  have hb3 := Lib.hid (hbd.out.trans (hbb.mono (by omega)))
  have hs3 := hbb.size
  obtain ⟨A3, c3, rfl, -, -, hR3, -⟩ := ho3.form
  obtain ⟨m3, hm3⟩ : ∃ m3, (([107, 3] ++ enc key.length) ++ key).length = m3 := ⟨_, rfl⟩
  have hm3b : m3 ≤ 40 := by rw [← hm3]; have := (enc_length key.length (by omega)).2; simp only [List.length_append, List.length_cons, List.length_nil]; omega
  rw [hm3] at ho3 ⊢
  replace hm3 := Lib.hid hm3
  replace hR3 := Lib.hid hR3
  have hbx3 := Lib.hid (blk_below hbx.out hbb)
  clear hbb ho3
  try simp only [Act.put, List.setIfInBounds_toArray, List.set_cons_zero, List.set_cons_succ]
  refine wpR_one 6 rfl (by kernel_rfl) (by kernel_rfl) (fun K hK => ?_)
  go_simp
  refine (put_any A3 m3 c3 _ hm3.out gen (by omega) (by omega) (by omega) _ hR3.out).mono ?_
  rintro e w4 ⟨v4, rfl, ho, hbb⟩
  refine hK _ _ (fun _ => Upd.of_below hbb) ?_
  clear hK K
  have hb4 := Lib.hid (hb3.out.trans (hbb.mono (by omega)))
  have hs4 := hbb.size
  replace ho : Hid (OB w4 N v4 (flds ⟨3, cart, key, gen, group, groups, index, size, sum, data⟩)) := Lib.hid (show OB w4 N v4 (flds ⟨3, cart, key, gen, group, groups, index, size, sum, data⟩) from ho.more (by omega))
  clear hbb
  obtain ⟨A4, c4, rfl, -, -, -, -⟩ := ho.out.form
  try simp only [Act.put, List.setIfInBounds_toArray, List.set_cons_zero, List.set_cons_succ]
  refine wpR_take (i := 7) (v := ?_) (Upd.road _) (some 3) rfl (by kernel_rfl) (by kernel_rfl) (by kernel_rfl) (by kernel_rfl) (by kernel_rfl) (fun _ _ _ h => h) (by kernel_rfl) (fun w' hw' => ?_) ?_
  rotate_left
  · go_simp; with_reducible rfl
  simp only [Act.put, List.setIfInBounds_toArray, List.set_cons_zero, List.set_cons_succ]
  refine wpR_done (by kernel_rfl) ?_ _
  go_wp2_with fail
  go_ret
  exact ⟨_, rfl, ho.out, hb4.out⟩
theorem Upd.mono {S S' : Nat → Prop} {w w' : World} (h : Upd S w w') (hs : ∀ k, S k → S' k) : Upd S' w w' := ⟨h.1, h.2.1, h.2.2.1, h.2.2.2.1, fun k hk hn => h.2.2.2.2 k hk (fun h' => hn (hs k h'))⟩
theorem wp_append_str {w : World} {o : Oper} {a : Act} {K : Act → World → Prop} {Q : Exit → Act → World → Prop} (s x : Operand)
    (ho : o.op = .call { callee := .builtin .append, args := #[s, x], argTypes := #[22, 9] })
    (base : Nat) (v : Value) (l : List UInt8) (hs : a.eval s = v) (hown : OB w base v l) (m : List UInt8) (hx : a.eval x = .string (bs m))
    (hlen : l.length + m.length ≤ 140737488355328) (hbase : base ≤ w.heap.size)
    (h : ∀ v' w', OB w' base v' (l ++ m) → w.grownBy w' v.ownBlock → K (a.put o.dst v') w') : Oper.wp Try.prog o a w K Q := by
  obtain ⟨i0, hi, hz0, hz1, hz2⟩ := info_parts info_u8
  have hsz := bs_size m
  obtain ⟨v', w', hr, h2, h3, -⟩ := Lib.run_append_own_string (P := Try.prog) w base 22 9 o.type 5 i0 Try.underlying22 Try.underlying9 hi hz0 hz1 hz2 v l.length (l.map vb) hown (bs m) (by simp only [maxLen]; omega) (by omega) hbase
  unfold Oper.wp execOp
  simp only [ho, resolve, invoke, builtin, Sem.run_bind, Sem.run_pure, Result.andThen_ok, List.map_toArray, List.map_cons, List.map_nil, hs, hx, hr]
  refine h v' w' ?_ h3
  unfold OB
  rw [List.length_append, List.map_append]
  rw [hsz, strCells_bs] at h2
  exact h2
theorem wp_append_bytes {w : World} {o : Oper} {a : Act} {K : Act → World → Prop} {Q : Exit → Act → World → Prop} (s x : Operand)
    (ho : o.op = .call { callee := .builtin .append, args := #[s, x], argTypes := #[22, 22] })
    (base : Nat) (v : Value) (l : List UInt8) (hs : a.eval s = v) (hown : OB w base v l)
    (B : Nat) (A : Option Addr) (c : Nat) (news : List UInt8) (hx : a.eval x = .slice A news.length c) (hr : Rd w B A news)
    (hlen : l.length + news.length ≤ 140737488355328) (hbase : base ≤ w.heap.size)
    (h : ∀ v' w', OB w' base v' (l ++ news) → w.grownBy w' v.ownBlock → K (a.put o.dst v') w') : Oper.wp Try.prog o a w K Q := by
  obtain ⟨i0, hi, hz0, hz1, hz2⟩ := info_parts info_u8
  refine wp_append_any w s x 22 ho base 5 i0 _ 1 1 Try.underlying22 hi hz0 hz1 hz2 rfl (by omega) v l.length (l.map vb) hs hown B A news.length c (news.map vb) hx hr (vb_one news) (by simp only [maxLen]; omega) (by omega) hbase fun v' w' h2 h3 h4 => h v' w' ?_ h3
  unfold OB
  rw [List.length_append, List.map_append]
  exact h2
/-- the first j of four numbers, encoded -/
def fourOf (a b c d : Int) : Nat → List UInt8
  | 0 => []
  | 1 => enc a.toNat
  | 2 => enc a.toNat ++ enc b.toNat
  | 3 => enc a.toNat ++ enc b.toNat ++ enc c.toNat
  | _ => enc a.toNat ++ enc b.toNat ++ enc c.toNat ++ enc d.toNat
def pick4 (a b c d : Int) : Nat → Int
  | 0 => a | 1 => b | 2 => c | _ => d
theorem four_step (a b c d : Int) (k : Nat) (hk : k < 4) : fourOf a b c d k ++ enc (pick4 a b c d k).toNat = fourOf a b c d (k + 1) := by
  match k, hk with
  | 0, _ => rfl
  | 1, _ => rfl
  | 2, _ => rfl
  | 3, _ => rfl
set_option maxHeartbeats 8000000 in
set_option maxRecDepth 10000 in
theorem fields2 (cart : Int) (key : List UInt8) (gen group groups index size : Int) (sum data : List UInt8) (A : Option Addr) (c : Nat) (hk : key.length ≤ 16) (hg : 0 ≤ gen) (hg2 : gen ≤ 1099511627776)
    (h4 : ∀ k, k < 4 → 0 ≤ pick4 group groups index size k ∧ pick4 group groups index size k ≤ 512) (hsl : sum.length = 32) (hdl : data.length = 16) (w : World) (hR : Rd w w.heap.size A data) :
    Calls Try.prog 48 #[(Rc.mk 2 cart key gen group groups index size sum data).agg A c] w fun e w' => ∃ v, e = .returned v ∧ OB w' w.heap.size v (flds ⟨2, cart, key, gen, group, groups, index, size, sum, data⟩) ∧ Below w.heap.size w w' := by
  have hb1 := (Below.refl w.heap.size w).alloc (Nat.le_refl _) (.cells #[.int .i64 2, .int .i64 cart, .string (bs key), .int .i64 gen, .int .i64 group, .int .i64 groups, .int .i64 index, .int .i64 size, .string (bs sum), .slice A data.length c] 41)
  have hb2 := Lib.hid (hb1.alloc hb1.size (.cells #[.int .u8 107, .int .u8 2] 5))
  have hbx := Lib.hid (blk_alloc (heap_alloc_new w (.cells #[.int .i64 2, .int .i64 cart, .string (bs key), .int .i64 gen, .int .i64 group, .int .i64 groups, .int .i64 index, .int .i64 size, .string (bs sum), .slice A data.length c] 41)) (.cells #[.int .u8 107, .int .u8 2] 5))
  have hlit := Lib.hid (Rd.lit (w.alloc (.cells #[.int .i64 2, .int .i64 cart, .string (bs key), .int .i64 gen, .int .i64 group, .int .i64 groups, .int .i64 index, .int .i64 size, .string (bs sum), .slice A data.length c] 41)) #[.int .u8 107, .int .u8 2] 5 [107, 2] rfl ((w.alloc (.cells #[.int .i64 2, .int .i64 cart, .string (bs key), .int .i64 gen, .int .i64 group, .int .i64 groups, .int .i64 index, .int .i64 size, .string (bs sum), .slice A data.length c] 41)).heap.size + 1) (Nat.lt_succ_self _))
  have hsz : (w.alloc (.cells #[.int .i64 2, .int .i64 cart, .string (bs key), .int .i64 gen, .int .i64 group, .int .i64 groups, .int .i64 index, .int .i64 size, .string (bs sum), .slice A data.length c] 41)).heap.size = w.heap.size + 1 := by simp
  obtain ⟨N, hN⟩ : ∃ N, w.heap.size = N := ⟨_, rfl⟩
  rw [hsz] at hlit
  rw [hN] at hbx hlit hb2 ⊢
  have hlt1 : N + 2 = ((w.alloc (.cells #[.int .i64 2, .int .i64 cart, .string (bs key), .int .i64 gen, .int .i64 group, .int .i64 groups, .int .i64 index, .int .i64 size, .string (bs sum), .slice A data.length c] 41)).alloc (.cells #[.int .u8 107, .int .u8 2] 5)).heap.size := by simp; omega
  replace hlit : Hid (Rd ((w.alloc (.cells #[.int .i64 2, .int .i64 cart, .string (bs key), .int .i64 gen, .int .i64 group, .int .i64 groups, .int .i64 index, .int .i64 size, .string (bs sum), .slice A data.length c] 41)).alloc (.cells #[.int .u8 107, .int .u8 2] 5)) ((w.alloc (.cells #[.int .i64 2, .int .i64 cart, .string (bs key), .int .i64 gen, .int .i64 group, .int .i64 groups, .int .i64 index, .int .i64 size, .string (bs sum), .slice A data.length c] 41)).alloc (.cells #[.int .u8 107, .int .u8 2] 5)).heap.size (some ⟨N + 1, 0, none⟩) [107, 2]) := Lib.hid (hlt1 ▸ hlit.out)
  clear hb1 hsz
  replace hN := Lib.hid hN
  replace hlt1 := Lib.hid hlt1
  unfold Rc.agg
  have hRN : Hid (Rd ((w.alloc (.cells #[.int .i64 2, .int .i64 cart, .string (bs key), .int .i64 gen, .int .i64 group, .int .i64 groups, .int .i64 index, .int .i64 size, .string (bs sum), .slice A data.length c] 41)).alloc (.cells #[.int .u8 107, .int .u8 2] 5)) N A data) := Lib.hid (by rw [← hN.out]; exact (hR.alloc (Nat.le_refl _) _).alloc (by simp) _)
  obtain ⟨pre, hpre⟩ : ∃ pre, (([107, 2] ++ enc key.length) ++ key) ++ enc gen.toNat = pre := ⟨_, rfl⟩
  have hpl : pre.length ≤ 50 := by
    rw [← hpre]
    have h1 := (enc_length key.length (by omega)).2
    have h2 := (enc_length gen.toNat (by omega)).2
    simp only [List.length_append, List.length_cons, List.length_nil]
    omega
  obtain ⟨four, hfour⟩ : ∃ f, fourOf group groups index size = f := ⟨_, rfl⟩
  obtain ⟨pk, hpk⟩ : ∃ f, pick4 group groups index size = f := ⟨_, rfl⟩
  have hstep : Hid (∀ k, k < 4 → (pre ++ four k) ++ enc (pk k).toNat = pre ++ four (k + 1)) := Lib.hid (fun k hk4 => by rw [List.append_assoc, ← hfour, ← hpk, four_step _ _ _ _ k hk4])
  have hend : Hid ((pre ++ four 4 ++ sum) ++ data = flds ⟨2, cart, key, gen, group, groups, index, size, sum, data⟩) := Lib.hid (by rw [← hpre, ← hfour]; simp [flds, body, fourOf])
  have h4' : Hid (∀ k, k < 4 → 0 ≤ pk k ∧ pk k ≤ 512) := Lib.hid (by rw [← hpk]; exact h4)
  have hcell : Hid (∀ k, k < 4 → (#[Value.int .i64 group, .int .i64 groups, .int .i64 index, .int .i64 size] : Array Value)[k]? = some (.int .i64 (pk k))) := Lib.hid (fun k hk4 => by
    rw [← hpk]
    match k, hk4 with
    | 0, _ => rfl
    | 1, _ => rfl
    | 2, _ => rfl
    | 3, _ => rfl)
  have hf0 : Hid (four 0 = []) := Lib.hid (by rw [← hfour]; rfl)
  clear hR h4 hfour hpk
  replace hsl := Lib.hid hsl
  replace hdl := Lib.hid hdl
  go_enter Try.func48, Try.ntmps48
  go_wp2_with fail
  rw [hN.out]
  obtain ⟨wd, hwd⟩ : ∃ wd, wd = ((w.alloc (.cells #[.int .i64 2, .int .i64 cart, .string (bs key), .int .i64 gen, .int .i64 group, .int .i64 groups, .int .i64 index, .int .i64 size, .string (bs sum), .slice A data.length c] 41)).alloc (.cells #[.int .u8 107, .int .u8 2] 5)).drew := ⟨_, rfl⟩
  have hbd : Hid (Below N w wd) := Lib.hid (by rw [hwd]; exact hb2.out.drew)
  replace hbx : Hid (wd.heap[N]? = some (.cells #[.int .i64 2, .int .i64 cart, .string (bs key), .int .i64 gen, .int .i64 group, .int .i64 groups, .int .i64 index, .int .i64 size, .string (bs sum), .slice A data.length c] 41 (0, 0))) := Lib.hid (by rw [hwd]; exact hbx.out)
  replace hlit : Hid (Rd wd wd.heap.size (some ⟨N + 1, 0, none⟩) [107, 2]) := Lib.hid (by rw [hwd]; exact hlit.out)
  have hNd : N + 2 ≤ wd.heap.size := by rw [hwd]; exact Nat.le_of_eq hlt1.out
  have hRd : Hid (Rd wd N A data) := Lib.hid (by rw [hwd]; exact hRN.out)
  refine wpR_region (Upd (fun _ => False)) 9999 (by kernel_rfl) ?_
  (rw [← hwd]; replace hwd := Lib.hid hwd)
  refine wpR_take (i := 0) (v := ?_) (Upd.road _) (some 29) rfl (by kernel_rfl) (by kernel_rfl) (by kernel_rfl) (by kernel_rfl) (by kernel_rfl) (fun _ _ _ h => h) (by kernel_rfl) (fun w' hw' => ?_) ?_
  rotate_left
  · go_simp; with_reducible rfl
  simp only [Act.put, List.setIfInBounds_toArray, List.set_cons_zero, List.set_cons_succ]
  refine wpR_take (i := 1) (v := ?_) (Upd.road _) (some 30) rfl (by kernel_rfl) (by kernel_rfl) (by kernel_rfl) (by kernel_rfl) (by kernel_rfl) (fun _ _ _ h => h) (by kernel_rfl) (fun w' hw' => ?_) ?_
  rotate_left
  · go_simp; with_reducible rfl
  simp only [Act.put, List.setIfInBounds_toArray, List.set_cons_zero, List.set_cons_succ]
  refine wpR_take (i := 2) (v := ?_) (Upd.road _) (some 31) rfl (by kernel_rfl) (by kernel_rfl) (by kernel_rfl) (by kernel_rfl) (by kernel_rfl) (fun _ _ _ h => h) (by kernel_rfl) (fun w' hw' => ?_) ?_
  rotate_left
  · have q := blk_cell (j := 2) ((hw'.2.2.2.2 N (by omega) (fun h => h)).trans hbx.out) rfl; go_simp; with_reducible rfl
  simp only [Act.put, List.setIfInBounds_toArray, List.set_cons_zero, List.set_cons_succ]
  refine wpR_take (i := 4) (v := ?_) (Upd.road _) (some 33) rfl (by kernel_rfl) (by kernel_rfl) (by kernel_rfl) (by kernel_rfl) (by kernel_rfl) (fun _ _ _ h => h) (by kernel_rfl) (fun w' hw' => ?_) ?_
  rotate_left
  · go_simp; with_reducible rfl
  simp only [Act.put, List.setIfInBounds_toArray, List.set_cons_zero, List.set_cons_succ]
  refine wpR_take (i := 5) (v := ?_) (Upd.road _) (some 34) rfl (by kernel_rfl) (by kernel_rfl) (by kernel_rfl) (by kernel_rfl) (by kernel_rfl) (fun _ _ _ h => h) (by kernel_rfl) (fun w' hw' => ?_) ?_
  rotate_left
  · have q := blk_cell (j := 3) ((hw'.2.2.2.2 N (by omega) (fun h => h)).trans hbx.out) rfl; go_simp; with_reducible rfl
  simp only [Act.put, List.setIfInBounds_toArray, List.set_cons_zero, List.set_cons_succ]
  refine wpR_one 3 rfl (by kernel_rfl) (by kernel_rfl) (fun K hK => ?_)
  go_simp
  refine (text_any (some ⟨N + 1, 0, none⟩) 2 2 [107, 2] rfl key (by omega) _ hlit.out).mono ?_
  rintro e w3 ⟨v3, rfl, ho3, hbb⟩
  refine hK _ _ (fun _ => Upd.of_below hbb) ?_
  clear hK K
  have hb3 := Lib.hid (hbd.out.trans (hbb.mono (by omega)))
  have hs3 := hbb.size
  obtain ⟨A3, c3, rfl, -, -, hR3, -⟩ := ho3.form
  obtain ⟨m3, hm3⟩ : ∃ m3, (([107, 2] ++ enc key.length) ++ key).length = m3 := ⟨_, rfl⟩
  have hm3b : m3 ≤ 40 := by rw [← hm3]; have := (enc_length key.length (by omega)).2; simp only [List.length_append, List.length_cons, List.length_nil]; omega
  rw [hm3] at ho3 ⊢
  replace hm3 := Lib.hid hm3
  replace hR3 := Lib.hid hR3
  have hRd3 := Lib.hid (hRd.out.keep (w' := w3) (fun p hp => hbb.cell (by omega)))
  have hbx3 := Lib.hid (blk_below hbx.out hbb)
  clear hbb ho3
  try simp only [Act.put, List.setIfInBounds_toArray, List.set_cons_zero, List.set_cons_succ]
  refine wpR_one 6 rfl (by kernel_rfl) (by kernel_rfl) (fun K hK => ?_)
  go_simp
  refine (put_any A3 m3 c3 _ hm3.out gen (by omega) (by omega) (by omega) _ hR3.out).mono ?_
  rintro e w4 ⟨v4, rfl, ho, hbb⟩
  refine hK _ _ (fun _ => Upd.of_below hbb) ?_
  clear hK K
  have hb4 := Lib.hid (hb3.out.trans (hbb.mono (by omega)))
  have hs4 := hbb.size
  replace ho := ho.more (base' := N + 1) (by omega)
  have hRd4 := Lib.hid (hRd3.out.keep (w' := w4) (fun p hp => hbb.cell (by omega)))
  have hbx4 := Lib.hid (blk_below hbx3.out hbb)
  clear hbb
  obtain ⟨A4, c4, rfl, -, -, -, -⟩ := ho.form
  rw [hpre] at ho ⊢
  replace ho := Lib.hid ho
  try simp only [Act.put, List.setIfInBounds_toArray, List.set_cons_zero, List.set_cons_succ]
  refine wpR_take (i := 7) (v := ?_) (Upd.road _) (some 3) rfl (by kernel_rfl) (by kernel_rfl) (by kernel_rfl) (by kernel_rfl) (by kernel_rfl) (fun _ _ _ h => h) (by kernel_rfl) (fun w' hw' => ?_) ?_
  rotate_left
  · go_simp; with_reducible rfl
  simp only [Act.put, List.setIfInBounds_toArray, List.set_cons_zero, List.set_cons_succ]
  refine wpR_done (by kernel_rfl) ?_ _
  replace hpre := Lib.hid hpre
  have hi4 := Lib.hid (heap_alloc_new w4 (.cells #[.int .i64 group, .int .i64 groups, .int .i64 index, .int .i64 size] 3))
  have hbx5 := Lib.hid (blk_alloc hbx4.out (.cells #[.int .i64 group, .int .i64 groups, .int .i64 index, .int .i64 size] 3))
  obtain ⟨M, hM⟩ : ∃ M, w4.heap.size = M := ⟨_, rfl⟩
  rw [hM] at hi4
  have hMN : N + 2 ≤ M := by omega
  replace ho := Lib.hid (ho.out.alloc (.cells #[.int .i64 group, .int .i64 groups, .int .i64 index, .int .i64 size] 3))
  have hR5 := Lib.hid (hRd4.out.alloc (by omega) (.cells #[.int .i64 group, .int .i64 groups, .int .i64 index, .int .i64 size] 3))
  replace hb4 := Lib.hid (hb4.out.alloc (by omega) (.cells #[.int .i64 group, .int .i64 groups, .int .i64 index, .int .i64 size] 3))
  have x4 := blk_cell (j := 4) (v := .int .i64 group) hbx4.out rfl
  have x5 := blk_cell (j := 5) (v := .int .i64 groups) hbx4.out rfl
  have x6 := blk_cell (j := 6) (v := .int .i64 index) hbx4.out rfl
  have x7 := blk_cell (j := 7) (v := .int .i64 size) hbx4.out rfl
  have hsz5 : Hid ((w4.alloc (.cells #[.int .i64 group, .int .i64 groups, .int .i64 index, .int .i64 size] 3)).heap.size = M + 1) := Lib.hid (by rw [← hM]; simp)
  clear hb3 hs3 hR3 hm3 hbx3 hRd3 hbx hlit hb2 hRd hbd hRN
  replace hM := Lib.hid hM
  go_wp2_with fail
  rw [hM.out]
  have hs5 := hsz5.out
  obtain ⟨w5, hw5⟩ : ∃ w5, w4.alloc (.cells #[.int .i64 group, .int .i64 groups, .int .i64 index, .int .i64 size] 3) = w5 := ⟨_, rfl⟩
  rw [hw5] at hi4 hbx5 ho hR5 hb4 hs5 ⊢
  replace hs5 : M + 1 ≤ w5.heap.size := by omega
  clear x4 x5 x6 x7 hsz5 hRd4 hbx4 hs4
  replace hw5 := Lib.hid hw5
  go_loopw [3, 46] (fun b i wr => ∃ (k m : Nat) (A5 : Option Addr) (c5 : Nat), i = .int .i64 k ∧ b = .slice A5 m c5 ∧ k ≤ 4 ∧ m ≤ 50 + 10 * k ∧ M + 1 ≤ wr.heap.size ∧ Hid ((pre ++ four k).length = m) ∧ Hid (OB wr (N + 1) (.slice A5 m c5) (pre ++ four k)) ∧ Hid (wr.heap[N]? = some (.cells #[.int .i64 2, .int .i64 cart, .string (bs key), .int .i64 gen, .int .i64 group, .int .i64 groups, .int .i64 index, .int .i64 size, .string (bs sum), .slice A data.length c] 41 (0, 0))) ∧ Hid (wr.heap[M]? = some (.cells #[.int .i64 group, .int .i64 groups, .int .i64 index, .int .i64 size] 3 (0, 0))) ∧ Hid (Rd wr N A data) ∧ Hid (Below N w wr)) (fun _ i _ => 4 - (intOf i).toNat)
  case atStart => exact ⟨0, pre.length, A4, c4, rfl, rfl, by omega, by omega, hs5, Lib.hid (by rw [hf0.out, List.append_nil]), Lib.hid (by rw [hf0.out, List.append_nil]; exact ho.out), hbx5, hi4, hR5, hb4⟩
  case round =>
    obtain ⟨k, m, A5, c5, rfl, rfl, hk4, hm90, hwM, hm5, ho5, hbx6, hi6, hR6, hb6⟩ := hrel
    clear ho hbx5 hi4 hR5 hb4 hs5
    by_cases hlt : k < 4
    · have ci := blk_cell (j := k) hi6.out (hcell.out k hlt)
      obtain ⟨p1, p2⟩ := h4'.out k hlt
      have hst := Lib.hid (hstep.out k hlt)
      have hen := (enc_length (pk k).toNat (by omega)).2
      have hRo := Lib.hid ho5.out.rd.1
      go_wp2_with fail
      refine (put_any A5 m c5 _ hm5.out (pk k) (by omega) (by omega) (by omega) _ hRo.out).mono ?_
      rintro e w6 ⟨v6, rfl, ho6, hbb⟩
      have hss := hbb.size
      have hbx7 := Lib.hid (blk_below hbx6.out hbb)
      have hi7 := Lib.hid (blk_below hi6.out hbb)
      have hR7 := Lib.hid (hR6.out.keep (w' := w6) (fun p hp => hbb.cell (by omega)))
      have hb7 := Lib.hid (hb6.out.trans (hbb.mono (by omega)))
      replace ho6 := ho6.more (base' := N + 1) (by omega)
      rw [hst.out] at ho6
      obtain ⟨A6, c6, rfl, -, -, -, -⟩ := ho6.form
      obtain ⟨m6, hm6⟩ : ∃ m6, (pre ++ four (k + 1)).length = m6 := ⟨_, rfl⟩
      have hl6 : m6 ≤ 50 + 10 * (k + 1) := by rw [← hm6, ← hst.out, List.length_append, hm5.out]; omega
      rw [hm6] at ho6 ⊢
      replace hm6 := Lib.hid hm6
      replace ho6 := Lib.hid ho6
      clear hbb hRo ci
      go_wp2_with fail
      go_roundw
      case rel => exact ⟨k + 1, m6, A6, c6, by go_num, rfl, by omega, hl6, by omega, hm6, ho6, hbx7, hi7, hR7, hb7⟩
      case measure => simp [intOf]; omega
    · obtain rfl : k = 4 := by omega
      clear hlt
      go_wp2_with fail
      obtain ⟨wf, hwf⟩ : ∃ wf, wf = wr.drew := ⟨_, rfl⟩
      have hb5 : Hid (Below N w wf) := Lib.hid (by rw [hwf]; exact hb6.out.drew)
      have hbx5 : Hid (wf.heap[N]? = some (.cells #[.int .i64 2, .int .i64 cart, .string (bs key), .int .i64 gen, .int .i64 group, .int .i64 groups, .int .i64 index, .int .i64 size, .string (bs sum), .slice A data.length c] 41 (0, 0))) := Lib.hid (by rw [hwf]; exact hbx6.out)
      have hR5 : Hid (Rd wf N A data) := Lib.hid (by rw [hwf]; exact hR6.out)
      replace ho5 : Hid (OB wf (N + 1) (.slice A5 m c5) (pre ++ four 4)) := Lib.hid (by rw [hwf]; exact ho5.out.drew)
      have hw1 : N + 1 ≤ wf.heap.size := by rw [hwf]; exact Nat.le_trans (by omega) hwM
      clear hbx6 hi6 hR6 hb6
      refine wpR_region (Upd (N + 1 ≤ ·)) 9999 (by kernel_rfl) ?_
      (rw [← hwf]; replace hwf := Lib.hid hwf)
      refine wpR_take (i := 0) (v := ?_) (Upd.road _) (some 54) rfl (by kernel_rfl) (by kernel_rfl) (by kernel_rfl) (by kernel_rfl) (by kernel_rfl) (fun _ _ _ h => h) (by kernel_rfl) (fun w' hw' => ?_) ?_
      rotate_left
      · go_simp; with_reducible rfl
      simp only [Act.put, List.setIfInBounds_toArray, List.set_cons_zero, List.set_cons_succ]
      refine wpR_take (i := 1) (v := ?_) (Upd.road _) (some 55) rfl (by kernel_rfl) (by kernel_rfl) (by kernel_rfl) (by kernel_rfl) (by kernel_rfl) (fun _ _ _ h => h) (by kernel_rfl) (fun w' hw' => ?_) ?_
      rotate_left
      · go_simp; with_reducible rfl
      simp only [Act.put, List.setIfInBounds_toArray, List.set_cons_zero, List.set_cons_succ]
      refine wpR_take (i := 2) (v := ?_) (Upd.road _) (some 56) rfl (by kernel_rfl) (by kernel_rfl) (by kernel_rfl) (by kernel_rfl) (by kernel_rfl) (fun _ _ _ h => h) (by kernel_rfl) (fun w' hw' => ?_) ?_
      rotate_left
      · have q := blk_cell (j := 8) ((hw'.2.2.2.2 N (by omega) (by omega)).trans hbx5.out) rfl; go_simp; with_reducible rfl
      simp only [Act.put, List.setIfInBounds_toArray, List.set_cons_zero, List.set_cons_succ]
      refine wpR_take (i := 4) (v := ?_) (Upd.road _) (some 58) rfl (by kernel_rfl) (by kernel_rfl) (by kernel_rfl) (by kernel_rfl) (by kernel_rfl) (fun _ _ _ h => h) (by kernel_rfl) (fun w' hw' => ?_) ?_
      rotate_left
      · go_simp; with_reducible rfl
      simp only [Act.put, List.setIfInBounds_toArray, List.set_cons_zero, List.set_cons_succ]
      refine wpR_take (i := 5) (v := ?_) (Upd.road _) (some 59) rfl (by kernel_rfl) (by kernel_rfl) (by kernel_rfl) (by kernel_rfl) (by kernel_rfl) (fun _ _ _ h => h) (by kernel_rfl) (fun w' hw' => ?_) ?_
      rotate_left
      · have q := blk_cell (j := 9) ((hw'.2.2.2.2 N (by omega) (by omega)).trans hbx5.out) rfl; go_simp; with_reducible rfl
      simp only [Act.put, List.setIfInBounds_toArray, List.set_cons_zero, List.set_cons_succ]
      refine wpR_one 3 rfl (by kernel_rfl) (by kernel_rfl) (fun K hK => ?_)
      refine wp_append_str (.tmp 54) (.tmp 56) rfl (N + 1) (.slice A5 m c5) (pre ++ four 4) rfl ho5.out sum rfl (by rw [hm5.out, hsl.out]; omega) hw1 ?_
      intro v6 w6 ho6 hg6
      have hu6 : Upd (N + 1 ≤ ·) wf w6 := (Upd.of_own hg6).mono (fun k hk => (ho5.out.lt k hk).1)
      refine hK _ _ (fun _ => hu6) ?_
      clear hK K
      have hb6 := Lib.hid (Upd.to_below hb5.out hu6 (by omega) (fun k hk => by omega))
      have hR6 : Hid (Rd w6 w6.heap.size A data) := Lib.hid ((hR5.out.keep (w' := w6) (fun p hp => hu6.cell (by omega) (by omega))).more (by have := hu6.size; omega))
      have hbx6 := Lib.hid ((hu6.2.2.2.2 N (by omega) (by omega)).trans hbx5.out)
      have hw6 : N + 1 ≤ w6.heap.size := by have := hu6.size; omega
      obtain ⟨A6, c6, rfl, -, -, -, -⟩ := ho6.form
      obtain ⟨m6, hm6⟩ : ∃ m6, (pre ++ four 4 ++ sum).length = m6 := ⟨_, rfl⟩
      have hm6b : m6 ≤ 200 := by rw [← hm6, List.length_append, hm5.out, hsl.out]; omega
      rw [hm6] at ho6 ⊢
      replace hm6 := Lib.hid hm6
      replace ho6 := Lib.hid ho6
      clear hg6 hu6
      try simp only [Act.put, List.setIfInBounds_toArray, List.set_cons_zero, List.set_cons_succ]
      refine wpR_one 6 rfl (by kernel_rfl) (by kernel_rfl) (fun K hK => ?_)
      refine wp_append_bytes (.tmp 57) (.tmp 59) rfl (N + 1) (.slice A6 m6 c6) (pre ++ four 4 ++ sum) rfl ho6.out w6.heap.size A c data rfl hR6.out (by rw [hm6.out, hdl.out]; omega) hw6 ?_
      intro v7 w7 ho7 hg7
      have hu7 : Upd (N + 1 ≤ ·) w6 w7 := (Upd.of_own hg7).mono (fun k hk => (ho6.out.lt k hk).1)
      refine hK _ _ (fun _ => hu7) ?_
      clear hK K
      have hb7 := Lib.hid (Upd.to_below hb6.out hu7 (by omega) (fun k hk => by omega))
      rw [hend.out] at ho7
      obtain ⟨A7, c7, rfl, -, -, -, -⟩ := ho7.form
      replace ho7 := Lib.hid (ho7.more (base' := N) (by omega))
      clear hg7 hu7
      try simp only [Act.put, List.setIfInBounds_toArray, List.set_cons_zero, List.set_cons_succ]
      refine wpR_take (i := 7) (v := ?_) (Upd.road _) (some 3) rfl (by kernel_rfl) (by kernel_rfl) (by kernel_rfl) (by kernel_rfl) (by kernel_rfl) (fun _ _ _ h => h) (by kernel_rfl) (fun w' hw' => ?_) ?_
      rotate_left
      · go_simp; with_reducible rfl
      simp only [Act.put, List.setIfInBounds_toArray, List.set_cons_zero, List.set_cons_succ]
      refine wpR_done (by kernel_rfl) ?_ _
      go_wp2_with fail
      go_ret
      exact ⟨_, rfl, ho7.out, hb7.out⟩
end Go.Proofs.Ytdgkcgiknfjpjaa
/- Records of label: Encode. -/
namespace Go.Proofs.Ytdgkcgiknfjpjaa
set_option linter.unusedVariables false
set_option linter.unusedSimpArgs false
open Go Go.RowKit
def encB (r : Rc) : List UInt8 := flds r ++ bytes4 (crc (flds r))
theorem inB_iff (n lo hi : Int) : inB n lo hi = true ↔ lo ≤ n ∧ n ≤ hi := by unfold inB; simp
theorem good1 {r : Rc} (hg : goodB r = true) (hk : r.kind = 1) : 0 ≤ r.cart ∧ r.cart ≤ 31 ∧ r = bare1 r := by
  rw [goodB_1 r hk, Bool.and_eq_true, inB_iff] at hg
  exact ⟨hg.1.1, hg.1.2, of_decide_eq_true hg.2⟩
theorem name_iff (r : Rc) : nameB r = true ↔ (1 ≤ r.key.length ∧ r.key.length ≤ 16) ∧ 0 ≤ r.gen ∧ r.gen ≤ 1099511627776 := by
  unfold nameB
  rw [Bool.and_eq_true, inB_iff, inB_iff]
  omega
theorem good3 {r : Rc} (hg : goodB r = true) (hk : r.kind = 3) : (1 ≤ r.key.length ∧ r.key.length ≤ 16) ∧ 0 ≤ r.gen ∧ r.gen ≤ 1099511627776 ∧ r = bare3 r := by
  rw [goodB_3 r hk, Bool.and_eq_true, name_iff] at hg
  exact ⟨hg.1.1, hg.1.2.1, hg.1.2.2, of_decide_eq_true hg.2⟩
theorem good2 {r : Rc} (hg : goodB r = true) (hk : r.kind = 2) : r.cart = 0 ∧ (1 ≤ r.key.length ∧ r.key.length ≤ 16) ∧ (0 ≤ r.gen ∧ r.gen ≤ 1099511627776) ∧ (0 ≤ r.size ∧ r.size ≤ 512) ∧ r.groups = groupsOf r.size ∧
    (0 ≤ r.group ∧ r.group ≤ r.groups - 1) ∧ (0 ≤ r.index ∧ r.index ≤ 9) ∧ r.sum.length = 32 ∧ r.data.length = 16 ∧ 1 ≤ r.groups ∧ r.groups ≤ 5 := by
  rw [goodB_2 r hk, Bool.and_eq_true, Bool.and_eq_true, name_iff] at hg
  obtain ⟨⟨h1, h2⟩, h3⟩ := hg
  unfold shardB at h3
  simp only [Bool.and_eq_true, inB_iff, beq_iff_eq] at h3 h1
  obtain ⟨⟨⟨⟨⟨a, b⟩, d⟩, e⟩, f⟩, g⟩ := h3
  have := groupsOf_bd9 r.size ((inB_iff _ _ _).2 a)
  exact ⟨h1, h2.1, h2.2, a, b, d, e, by omega, by omega, by omega, by omega⟩
theorem good_kind {r : Rc} (hg : goodB r = true) : r.kind = 1 ∨ r.kind = 2 ∨ r.kind = 3 := by
  by_cases h1 : r.kind = 1
  · exact .inl h1
  · by_cases h2 : r.kind = 2
    · exact .inr (.inl h2)
    · by_cases h3 : r.kind = 3
      · exact .inr (.inr h3)
      · rw [goodB_no r h1 h2 h3] at hg; cases hg
theorem encl (z : Int) (h : z ≤ 9223372036854775807) : (enc z.toNat).length ≤ 9 := (enc_length _ (by omega)).2
theorem flds_len {r : Rc} (hg : goodB r = true) : (flds r).length ≤ 200 := by
  rcases good_kind hg with hk | hk | hk
  · have h1 := good1 hg hk
    have := encl r.cart (by omega)
    unfold flds body
    rw [if_pos hk]
    simp only [List.length_cons]
    omega
  · have h2 := good2 hg hk
    have e1 := (enc_length r.key.length (by omega)).2
    have e2 := encl r.gen (by omega)
    have e3 := encl r.group (by omega)
    have e4 := encl r.groups (by omega)
    have e5 := encl r.index (by omega)
    have e6 := encl r.size (by omega)
    unfold flds body
    rw [if_neg (by omega), if_neg (by omega)]
    simp only [List.length_cons, List.length_append]
    omega
  · have h3 := good3 hg hk
    have e1 := (enc_length r.key.length (by omega)).2
    have e2 := encl r.gen (by omega)
    unfold flds body
    rw [if_neg (by omega), if_pos hk]
    simp only [List.length_cons, List.length_append]
    omega
theorem fields_any (r : Rc) (A : Option Addr) (c : Nat) (hg : goodB r = true) (w : World) (hR : Rd w w.heap.size A r.data) :
    Calls Try.prog 48 #[r.agg A c] w fun e w' => ∃ v, e = .returned v ∧ OB w' w.heap.size v (flds r) ∧ Below w.heap.size w w' := by
  rcases good_kind hg with hk | hk | hk
  · have h1 := good1 hg hk
    obtain ⟨kind, cart, key, gen, group, groups, index, size, sum, data⟩ := r
    simp only at hk h1 hR
    subst hk
    exact fields1 cart key gen group groups index size sum data A c (by unfold R64; omega) w
  · have h1 := good2 hg hk
    obtain ⟨kind, cart, key, gen, group, groups, index, size, sum, data⟩ := r
    simp only at hk h1 hR
    subst hk
    refine fields2 cart key gen group groups index size sum data A c (by omega) (by omega) (by omega) (fun k hk4 => ?_) (by omega) (by omega) w hR
    match k, hk4 with
    | 0, _ => show 0 ≤ group ∧ group ≤ 512; omega
    | 1, _ => show 0 ≤ groups ∧ groups ≤ 512; omega
    | 2, _ => show 0 ≤ index ∧ index ≤ 512; omega
    | 3, _ => show 0 ≤ size ∧ size ≤ 512; omega
  · have h1 := good3 hg hk
    obtain ⟨kind, cart, key, gen, group, groups, index, size, sum, data⟩ := r
    simp only at hk h1 hR
    subst hk
    exact fields3 cart key gen group groups index size sum data A c (by omega) (by omega) (by omega) w
set_option maxHeartbeats 4000000 in
set_option maxRecDepth 10000 in
theorem encode_no (r : Rc) (A : Option Addr) (c : Nat) (hok : r.Ok) (hg : goodB r = false) (w : World) (h : Rd w w.heap.size A r.data) :
    Calls Try.prog 24 #[r.agg A c] w fun e w' => e = .returned (.tuple #[.slice none 0 0, .int .i64 12]) ∧ Below w.heap.size w w' := by
  have hb := Lib.hid ((Below.refl w.heap.size w).alloc (Nat.le_refl _) (.cells #[.int .i64 r.kind, .int .i64 r.cart, .string (bs r.key), .int .i64 r.gen, .int .i64 r.group, .int .i64 r.groups, .int .i64 r.index, .int .i64 r.size, .string (bs r.sum), .slice A r.data.length c] 41))
  have hR := Lib.hid (h.up hb.out)
  have hgd := Lib.hid (good_any r A c hok _ hR.out)
  rw [hg] at hgd
  replace hg := Lib.hid hg
  unfold Rc.agg at hgd ⊢
  clear h hok
  go_enter Try.func24, Try.ntmps24
  go_wp2_with fail
  refine hgd.out.mono ?_
  rintro e w2 ⟨rfl, hbb⟩
  replace hbb := Lib.hid (hb.out.trans (hbb.mono hb.out.size))
  go_wp2
  go_ret2
  exact ⟨rfl, hbb.out⟩
set_option maxHeartbeats 4000000 in
set_option maxRecDepth 10000 in
theorem encode_ok (r : Rc) (A : Option Addr) (c : Nat) (hok : r.Ok) (hg : goodB r = true) (w : World) (h : Rd w w.heap.size A r.data) :
    Calls Try.prog 24 #[r.agg A c] w fun e w' => ∃ v, e = .returned (.tuple #[v, .int .i64 0]) ∧ OB w' w.heap.size v (encB r) ∧ Below w.heap.size w w' := by
  have hb := Lib.hid ((Below.refl w.heap.size w).alloc (Nat.le_refl _) (.cells #[.int .i64 r.kind, .int .i64 r.cart, .string (bs r.key), .int .i64 r.gen, .int .i64 r.group, .int .i64 r.groups, .int .i64 r.index, .int .i64 r.size, .string (bs r.sum), .slice A r.data.length c] 41))
  have hR := Lib.hid (h.up hb.out)
  have hgd := Lib.hid (good_any r A c hok _ hR.out)
  rw [hg] at hgd
  have hlen := flds_len hg
  have hlw := hb.out.size
  replace hg := Lib.hid hg
  unfold Rc.agg at hgd ⊢
  clear h hok
  go_enter Try.func24, Try.ntmps24
  go_wp2_with fail
  refine hgd.out.mono ?_
  rintro e w2 ⟨rfl, hbb⟩
  have hbx := blk_below (heap_alloc_new w (.cells #[.int .i64 r.kind, .int .i64 r.cart, .string (bs r.key), .int .i64 r.gen, .int .i64 r.group, .int .i64 r.groups, .int .i64 r.index, .int .i64 r.size, .string (bs r.sum), .slice A r.data.length c] 41)) hbb
  have hR2 := Lib.hid (hR.out.up hbb)
  have hb2 := Lib.hid (hb.out.trans (hbb.mono hb.out.size))
  have x0 := blk_cell (j := 0) hbx rfl
  have x1 := blk_cell (j := 1) hbx rfl
  have x2 := blk_cell (j := 2) hbx rfl
  have x3 := blk_cell (j := 3) hbx rfl
  have x4 := blk_cell (j := 4) hbx rfl
  have x5 := blk_cell (j := 5) hbx rfl
  have x6 := blk_cell (j := 6) hbx rfl
  have x7 := blk_cell (j := 7) hbx rfl
  have x8 := blk_cell (j := 8) hbx rfl
  have x9 := blk_cell (j := 9) hbx rfl
  clear hbb hbx hR hgd
  have hfd := Lib.hid (fields_any r A c hg.out w2 hR2.out)
  unfold Rc.agg at hfd
  go_wp2_with fail
  clear x0 x1 x2 x3 x4 x5 x6 x7 x8 x9
  refine hfd.out.mono ?_
  rintro e w3 ⟨v3, rfl, ho, hbb⟩
  have hw2 := hb2.out.size
  have hb3 := Lib.hid (hb2.out.trans (hbb.mono hb2.out.size))
  replace ho := ho.more (base' := w.heap.size) hw2
  obtain ⟨A3, c3, rfl, -, -, hR3, -⟩ := ho.form
  obtain ⟨fl, hfl⟩ : ∃ fl, flds r = fl := ⟨_, rfl⟩
  have hres : Hid (fl ++ bytes4 (crc fl) = encB r) := Lib.hid (by rw [← hfl]; rfl)
  rw [hfl] at ho hR3 hlen ⊢
  obtain ⟨m, hm⟩ : ∃ m, fl.length = m := ⟨_, rfl⟩
  rw [hm] at ho hlen ⊢
  replace hm := Lib.hid hm
  replace hfl := Lib.hid hfl
  replace ho := Lib.hid ho
  replace hR3 := Lib.hid hR3
  have hw3 := hb3.out.size
  clear hbb hfd hR2
  go_wp2_with fail
  refine (sum_at A3 m c3 fl hm.out w3 hR3.out (by omega)).mono ?_
  rintro e w' ⟨rfl, rfl⟩
  have hb4 := Lib.hid (hb3.out.alloc hw3 (.cells #[.int .u8 (U (lo8 (crc fl))), .int .u8 (U (lo8 (crc fl >>> 8))), .int .u8 (U (lo8 (crc fl >>> 16))), .int .u8 (U (lo8 (crc fl >>> 24)))] 5))
  go_wp2_with (at_builtin; refine wpl_append rfl (.tmp 13) (.tmp 25) rfl w.heap.size (.slice A3 m c3) fl rfl (ho.out.alloc _) (w3.heap.size + 1) (some ⟨w3.heap.size, 0, none⟩) 4 (bytes4 (crc fl)) rfl (Rd.lit _ _ _ _ rfl _ (by simp)) (by simp [bytes4]; rw [hm.out]; omega) (by simp; omega) ?_; intro v4 w4 ho4 hg4 _; have hb5 := Lib.hid (hb4.out.grown hg4 (by simp; omega) (fun k hk => (ho.out.lt k hk).1)); rw [hres.out] at ho4; obtain ⟨A4, c4, rfl, -, -, -, -⟩ := ho4.form; replace ho4 := Lib.hid ho4; clear hg4)
  go_ret2
  exact ⟨_, rfl, ho4.out, hb5.out⟩
end Go.Proofs.Ytdgkcgiknfjpjaa
