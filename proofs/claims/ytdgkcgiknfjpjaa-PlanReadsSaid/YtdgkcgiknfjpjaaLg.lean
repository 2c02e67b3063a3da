/- label.Good of a shard's record. -/
import Derived.Test.YtdgkcgiknfjpjaaRcA
import Derived.Deep.QuietTactic
import Derived.BigQuiet
namespace Go.Proofs.Ytdgkcgiknfjpjaa
set_option linter.unusedVariables false
set_option linter.unusedSimpArgs false
open Go Go.RowKit
def nameB (r : Rc) : Bool := inB r.key.length 1 16 && inB r.gen 0 1099511627776
def shardB (r : Rc) : Bool := inB r.size 0 512 && (r.groups == groupsOf r.size) && inB r.group 0 (r.groups - 1) && inB r.index 0 9 && ((r.sum.length : Int) == 32) && ((r.data.length : Int) == 16)
theorem groupsOf_bdL (n : Int) (h : inB n 0 512 = true) : 1 ≤ groupsOf n ∧ groupsOf n ≤ 5 := by
  unfold groupsOf
  rw [if_pos h]
  have h2 : 0 ≤ n ∧ n ≤ 512 := by unfold inB at h; simpa using h
  omega
set_option maxHeartbeats 4000000 in
set_option maxRecDepth 10000 in
theorem goodName_any (r : Rc) (A : Option Addr) (c : Nat) (w : World) :
    Calls Try.prog 53 #[r.agg A c] w fun e w' => e = .returned (.bool (nameB r)) ∧ Below w.heap.size w w' := by
  have hb := Lib.hid ((Below.refl w.heap.size w).alloc (Nat.le_refl _) (.cells #[.int .i64 r.kind, .int .i64 r.cart, .string (bs r.key), .int .i64 r.gen, .int .i64 r.group, .int .i64 r.groups, .int .i64 r.index, .int .i64 r.size, .string (bs r.sum), .slice A r.data.length c] 41))
  unfold Rc.agg nameB
  cases h1 : inB r.key.length 1 16 with
  | true =>
    go_enter Try.func53, Try.ntmps53
    go_wp2_with fail
    refine (key_any r.key _).mono ?_
    rw [h1]
    rintro e w' ⟨rfl, rfl⟩
    go_wp2_with fail
    refine (in_any r.gen 0 1099511627776 _).mono ?_
    rintro e w' ⟨rfl, rfl⟩
    go_wp2
    go_ret
    exact ⟨rfl, hb.out⟩
  | false =>
    go_enter Try.func53, Try.ntmps53
    go_wp2_with fail
    refine (key_any r.key _).mono ?_
    rw [h1]
    rintro e w' ⟨rfl, rfl⟩
    go_wp2
    go_ret
    exact ⟨rfl, hb.out⟩
set_option maxHeartbeats 8000000 in
set_option maxRecDepth 10000 in
theorem goodShard_any (r : Rc) (A : Option Addr) (c : Nat) (hok : r.Ok) (w : World) :
    Calls Try.prog 54 #[r.agg A c] w fun e w' => e = .returned (.bool (shardB r)) ∧ Below w.heap.size w w' := by
  have hb := Lib.hid ((Below.refl w.heap.size w).alloc (Nat.le_refl _) (.cells #[.int .i64 r.kind, .int .i64 r.cart, .string (bs r.key), .int .i64 r.gen, .int .i64 r.group, .int .i64 r.groups, .int .i64 r.index, .int .i64 r.size, .string (bs r.sum), .slice A r.data.length c] 41))
  have hsz := Lib.hid hok.size
  unfold Rc.agg shardB
  cases h0 : inB r.size 0 512 with
  | false =>
    go_enter Try.func54, Try.ntmps54
    go_wp2_with fail
    go_quiet ((first | (go_at_call 52; exact Calls.quiet_of_same (in_any _ _ _ _)) | (go_at_call 38; exact Calls.quiet_of_same (groups_any _ hsz.out _))))
    go_wp2
    go_ret
    exact ⟨rfl, ⟨hb.out.os, hb.out.tape, hb.out.output, hb.out.size, hb.out.block⟩⟩
  | true =>
    cases h1 : (r.groups == groupsOf r.size) with
    | false =>
      go_enter Try.func54, Try.ntmps54
      go_wp2_with fail
      go_quiet ((first | (go_at_call 52; exact Calls.quiet_of_same (in_any _ _ _ _)) | (go_at_call 38; exact Calls.quiet_of_same (groups_any _ hsz.out _))))
      go_wp2
      go_ret
      exact ⟨rfl, ⟨hb.out.os, hb.out.tape, hb.out.output, hb.out.size, hb.out.block⟩⟩
    | true =>
      have hgb := groupsOf_bdL r.size h0
      have hge : r.groups = groupsOf r.size := beq_iff_eq.mp h1
      have hg1 : 1 ≤ r.groups ∧ r.groups ≤ 5 := by omega
      obtain ⟨hg1, hg2⟩ := hg1
      have hwr : IntKind.i64.wrap (r.groups - 1) = r.groups - 1 := IntWalk.i64_in _ (by omega)
      replace hge := Lib.hid hge
      clear hgb
      cases h2 : inB r.group 0 (r.groups - 1) with
      | false =>
        go_enter Try.func54, Try.ntmps54
        go_wp2_with fail
        go_quiet ((first | (go_at_call 52; exact Calls.quiet_of_same (in_any _ _ _ _)) | (go_at_call 38; exact Calls.quiet_of_same (groups_any _ hsz.out _))))
        go_wp2
        go_ret
        exact ⟨rfl, ⟨hb.out.os, hb.out.tape, hb.out.output, hb.out.size, hb.out.block⟩⟩
      | true =>
        cases h3 : inB r.index 0 9 with
        | false =>
          go_enter Try.func54, Try.ntmps54
          go_wp2_with fail
          go_quiet ((first | (go_at_call 52; exact Calls.quiet_of_same (in_any _ _ _ _)) | (go_at_call 38; exact Calls.quiet_of_same (groups_any _ hsz.out _))))
          go_wp2
          go_ret
          exact ⟨rfl, ⟨hb.out.os, hb.out.tape, hb.out.output, hb.out.size, hb.out.block⟩⟩
        | true =>
          cases h4 : ((r.sum.length : Int) == 32) with
          | false =>
            go_enter Try.func54, Try.ntmps54
            go_wp2_with fail
            go_quiet ((first | (go_at_call 52; exact Calls.quiet_of_same (in_any _ _ _ _)) | (go_at_call 38; exact Calls.quiet_of_same (groups_any _ hsz.out _))))
            go_wp2
            go_ret
            exact ⟨rfl, ⟨hb.out.os, hb.out.tape, hb.out.output, hb.out.size, hb.out.block⟩⟩
          | true =>
            cases h5 : ((r.data.length : Int) == 16) with
            | false =>
              go_enter Try.func54, Try.ntmps54
              go_wp2_with fail
              go_quiet ((first | (go_at_call 52; exact Calls.quiet_of_same (in_any _ _ _ _)) | (go_at_call 38; exact Calls.quiet_of_same (groups_any _ hsz.out _))))
              go_wp2
              go_ret
              exact ⟨rfl, ⟨hb.out.os, hb.out.tape, hb.out.output, hb.out.size, hb.out.block⟩⟩
            | true =>
              go_enter Try.func54, Try.ntmps54
              go_wp2_with fail
              go_quiet ((first | (go_at_call 52; exact Calls.quiet_of_same (in_any _ _ _ _)) | (go_at_call 38; exact Calls.quiet_of_same (groups_any _ hsz.out _))))
              go_wp2
              go_ret
              exact ⟨rfl, ⟨hb.out.os, hb.out.tape, hb.out.output, hb.out.size, hb.out.block⟩⟩
set_option maxHeartbeats 8000000 in
set_option maxRecDepth 10000 in
theorem lgood_any (r : Rc) (A : Option Addr) (c : Nat) (hok : r.Ok) (k2 : r.kind = 2) (kc : r.cart = 0) (w : World) :
    Calls Try.prog 26 #[r.agg A c] w fun e w' => e = .returned (.bool (nameB r && shardB r)) ∧ Below w.heap.size w w' := by
  have hb := Lib.hid ((Below.refl w.heap.size w).alloc (Nat.le_refl _) (.cells #[.int .i64 r.kind, .int .i64 r.cart, .string (bs r.key), .int .i64 r.gen, .int .i64 r.group, .int .i64 r.groups, .int .i64 r.index, .int .i64 r.size, .string (bs r.sum), .slice A r.data.length c] 41))
  have hn := Lib.hid (goodName_any r A c (w.alloc (.cells #[.int .i64 r.kind, .int .i64 r.cart, .string (bs r.key), .int .i64 r.gen, .int .i64 r.group, .int .i64 r.groups, .int .i64 r.index, .int .i64 r.size, .string (bs r.sum), .slice A r.data.length c] 41)))
  unfold Rc.agg at hn
  replace hok := Lib.hid hok
  have d1 : (r.kind == 1) = false := by rw [k2]; rfl
  have d3 : (r.kind == 3) = false := by rw [k2]; rfl
  have d2 : (r.kind == 2) = true := by rw [k2]; rfl
  have h0 : (r.cart == 0) = true := by rw [kc]; rfl
  replace k2 := Lib.hid k2
  replace kc := Lib.hid kc
  cases h1 : nameB r with
  | false =>
    unfold Rc.agg
    go_enter Try.func26, Try.ntmps26
    go_wp2_with fail
    refine hn.out.mono ?_
    rw [h1]
    rintro e w' ⟨rfl, hbb⟩
    replace hbb := Lib.hid (hb.out.trans (hbb.mono hb.out.size))
    go_wp2
    go_ret
    exact ⟨rfl, hbb.out⟩
  | true =>
    unfold Rc.agg
    go_enter Try.func26, Try.ntmps26
    go_wp2_with fail
    refine hn.out.mono ?_
    rw [h1]
    rintro e w2 ⟨rfl, hbb⟩
    have hs := Lib.hid (goodShard_any r A c hok.out w2)
    unfold Rc.agg at hs
    have hbx := blk_below (heap_alloc_new w (.cells #[.int .i64 r.kind, .int .i64 r.cart, .string (bs r.key), .int .i64 r.gen, .int .i64 r.group, .int .i64 r.groups, .int .i64 r.index, .int .i64 r.size, .string (bs r.sum), .slice A r.data.length c] 41)) hbb
    have hb2 := Lib.hid (hb.out.trans (hbb.mono hb.out.size))
    have x0 := blk_cell (j := 0) hbx rfl
    have x1 := blk_cell (j := 1) hbx rfl
    have x2 := blk_cell (j := 2) hbx rfl
    have x3 := blk_cell (j := 3) hbx rfl
    have x4 := blk_cell (j := 4) hbx rfl
    have x5 := blk_cell (j := 5) hbx rfl
    have x6 := blk_cell (j := 6) hbx rfl
    have x7 := blk_cell (j := 7) hbx rfl
    have x8 := blk_cell (j := 8) hbx rfl
    have x9 := blk_cell (j := 9) hbx rfl
    replace hbx := Lib.hid hbx
    clear hbb
    go_wp2_with fail
    refine hs.out.mono ?_
    rintro e w' ⟨rfl, hbb⟩
    replace hbb := Lib.hid (hb2.out.trans (hbb.mono hb2.out.size))
    go_wp2
    go_ret
    exact ⟨rfl, hbb.out⟩
end Go.Proofs.Ytdgkcgiknfjpjaa
