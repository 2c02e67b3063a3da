/- Records of label: which may be. -/
import Derived.Test.YtiliggleplpjbaaSl1
import Derived.Deep.QuietTactic
import Derived.BigQuiet
namespace Go.Proofs.Ytiliggleplpjbaa
set_option linter.unusedVariables false
set_option linter.unusedSimpArgs false
open Go Go.RowKit
def nameB (r : Rc) : Bool := inB r.key.length 1 16 && inB r.gen 0 1099511627776
def shardB (r : Rc) : Bool := inB r.size 0 512 && (r.groups == groupsOf r.size) && inB r.group 0 (r.groups - 1) && inB r.index 0 9 && ((r.sum.length : Int) == 32) && ((r.data.length : Int) == 16)
def bare1 (r : Rc) : Rc := ⟨r.kind, r.cart, [], 0, 0, 0, 0, 0, [], []⟩
def bare3 (r : Rc) : Rc := ⟨r.kind, 0, r.key, r.gen, 0, 0, 0, 0, [], []⟩
def goodB (r : Rc) : Bool := if r.kind = 1 then inB r.cart 0 31 && sameR r (bare1 r) else if r.kind = 3 then nameB r && sameR r (bare3 r) else if r.kind = 2 then (r.cart == 0) && nameB r && shardB r else false
theorem groupsOf_bd (n : Int) (h : inB n 0 512 = true) : 1 ≤ groupsOf n ∧ groupsOf n ≤ 5 := by
  unfold groupsOf
  rw [if_pos h]
  have h2 : 0 ≤ n ∧ n ≤ 512 := by unfold inB at h; simpa using h
  omega
set_option maxHeartbeats 4000000 in
set_option maxRecDepth 10000 in
theorem goodName_any (r : Rc) (A : Option Addr) (c : Nat) (w : World) :
    Calls Try.prog 36 #[r.agg A c] w fun e w' => e = .returned (.bool (nameB r)) ∧ Below w.heap.size w w' := by
  have hb := Lib.hid ((Below.refl w.heap.size w).alloc (Nat.le_refl _) (.cells #[.int .i64 r.kind, .int .i64 r.cart, .string (bs r.key), .int .i64 r.gen, .int .i64 r.group, .int .i64 r.groups, .int .i64 r.index, .int .i64 r.size, .string (bs r.sum), .slice A r.data.length c] 37))
  unfold Rc.agg nameB
  cases h1 : inB r.key.length 1 16 with
  | true =>
    go_enter Try.func36, Try.ntmps36
    go_wp2_with fail
    refine (key_any r.key _).mono ?_
    rw [h1]
    rintro e w' ⟨rfl, rfl⟩
    go_wp2_with fail
    refine (in_any r.gen 0 1099511627776 _).mono ?_
    rintro e w' ⟨rfl, rfl⟩
    go_wp2
    go_ret
    exact ⟨rfl, hb.out⟩
  | false =>
    go_enter Try.func36, Try.ntmps36
    go_wp2_with fail
    refine (key_any r.key _).mono ?_
    rw [h1]
    rintro e w' ⟨rfl, rfl⟩
    go_wp2
    go_ret
    exact ⟨rfl, hb.out⟩
set_option maxHeartbeats 8000000 in
set_option maxRecDepth 10000 in
theorem goodShard_any (r : Rc) (A : Option Addr) (c : Nat) (hok : r.Ok) (w : World) :
    Calls Try.prog 37 #[r.agg A c] w fun e w' => e = .returned (.bool (shardB r)) ∧ Below w.heap.size w w' := by
  have hb := Lib.hid ((Below.refl w.heap.size w).alloc (Nat.le_refl _) (.cells #[.int .i64 r.kind, .int .i64 r.cart, .string (bs r.key), .int .i64 r.gen, .int .i64 r.group, .int .i64 r.groups, .int .i64 r.index, .int .i64 r.size, .string (bs r.sum), .slice A r.data.length c] 37))
  have hsz := Lib.hid hok.size
  unfold Rc.agg shardB
  cases h0 : inB r.size 0 512 with
  | false =>
    go_enter Try.func37, Try.ntmps37
    go_wp2_with fail
    go_quiet ((first | (go_at_call 34; exact Calls.quiet_of_same (in_any _ _ _ _)) | (go_at_call 53; exact Calls.quiet_of_same (groups_any _ hsz.out _))))
    go_wp2
    go_ret
    exact ⟨rfl, ⟨hb.out.os, hb.out.tape, hb.out.output, hb.out.size, hb.out.block⟩⟩
  | true =>
    cases h1 : (r.groups == groupsOf r.size) with
    | false =>
      go_enter Try.func37, Try.ntmps37
      go_wp2_with fail
      go_quiet ((first | (go_at_call 34; exact Calls.quiet_of_same (in_any _ _ _ _)) | (go_at_call 53; exact Calls.quiet_of_same (groups_any _ hsz.out _))))
      go_wp2
      go_ret
      exact ⟨rfl, ⟨hb.out.os, hb.out.tape, hb.out.output, hb.out.size, hb.out.block⟩⟩
    | true =>
      have hgb := groupsOf_bd r.size h0
      have hge : r.groups = groupsOf r.size := beq_iff_eq.mp h1
      have hg1 : 1 ≤ r.groups ∧ r.groups ≤ 5 := by omega
      obtain ⟨hg1, hg2⟩ := hg1
      have hwr : IntKind.i64.wrap (r.groups - 1) = r.groups - 1 := IntWalk.i64_in _ (by omega)
      replace hge := Lib.hid hge
      clear hgb
      cases h2 : inB r.group 0 (r.groups - 1) with
      | false =>
        go_enter Try.func37, Try.ntmps37
        go_wp2_with fail
        go_quiet ((first | (go_at_call 34; exact Calls.quiet_of_same (in_any _ _ _ _)) | (go_at_call 53; exact Calls.quiet_of_same (groups_any _ hsz.out _))))
        go_wp2
        go_ret
        exact ⟨rfl, ⟨hb.out.os, hb.out.tape, hb.out.output, hb.out.size, hb.out.block⟩⟩
      | true =>
        cases h3 : inB r.index 0 9 with
        | false =>
          go_enter Try.func37, Try.ntmps37
          go_wp2_with fail
          go_quiet ((first | (go_at_call 34; exact Calls.quiet_of_same (in_any _ _ _ _)) | (go_at_call 53; exact Calls.quiet_of_same (groups_any _ hsz.out _))))
          go_wp2
          go_ret
          exact ⟨rfl, ⟨hb.out.os, hb.out.tape, hb.out.output, hb.out.size, hb.out.block⟩⟩
        | true =>
          cases h4 : ((r.sum.length : Int) == 32) with
          | false =>
            go_enter Try.func37, Try.ntmps37
            go_wp2_with fail
            go_quiet ((first | (go_at_call 34; exact Calls.quiet_of_same (in_any _ _ _ _)) | (go_at_call 53; exact Calls.quiet_of_same (groups_any _ hsz.out _))))
            go_wp2
            go_ret
            exact ⟨rfl, ⟨hb.out.os, hb.out.tape, hb.out.output, hb.out.size, hb.out.block⟩⟩
          | true =>
            cases h5 : ((r.data.length : Int) == 16) with
            | false =>
              go_enter Try.func37, Try.ntmps37
              go_wp2_with fail
              go_quiet ((first | (go_at_call 34; exact Calls.quiet_of_same (in_any _ _ _ _)) | (go_at_call 53; exact Calls.quiet_of_same (groups_any _ hsz.out _))))
              go_wp2
              go_ret
              exact ⟨rfl, ⟨hb.out.os, hb.out.tape, hb.out.output, hb.out.size, hb.out.block⟩⟩
            | true =>
              go_enter Try.func37, Try.ntmps37
              go_wp2_with fail
              go_quiet ((first | (go_at_call 34; exact Calls.quiet_of_same (in_any _ _ _ _)) | (go_at_call 53; exact Calls.quiet_of_same (groups_any _ hsz.out _))))
              go_wp2
              go_ret
              exact ⟨rfl, ⟨hb.out.os, hb.out.tape, hb.out.output, hb.out.size, hb.out.block⟩⟩
end Go.Proofs.Ytiliggleplpjbaa
