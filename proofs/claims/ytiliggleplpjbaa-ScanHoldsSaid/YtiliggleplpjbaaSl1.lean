/- Records of label: what they are, in memory and plain; the walks of fit, bytes.Equal and Same. -/
import Derived.Test.YtiliggleplpjbaaBytes2
import Derived.Test.YtiliggleplpjbaaJrM
import Derived.Test.YtiliggleplpjbaaRegRd
import Derived.IntWalk
namespace Go.Proofs.Ytiliggleplpjbaa
set_option linter.unusedVariables false
set_option linter.unusedSimpArgs false
open Go Go.RowKit
structure Rc where
  kind : Int
  cart : Int
  key : List UInt8
  gen : Int
  group : Int
  groups : Int
  index : Int
  size : Int
  sum : List UInt8
  data : List UInt8
deriving DecidableEq
def Rc.agg (r : Rc) (A : Option Addr) (c : Nat) : Value := .agg #[.int .i64 r.kind, .int .i64 r.cart, .string (bs r.key), .int .i64 r.gen, .int .i64 r.group, .int .i64 r.groups, .int .i64 r.index, .int .i64 r.size, .string (bs r.sum), .slice A r.data.length c]
def Rc.cells (r : Rc) (A : Option Addr) (c : Nat) : Array Value := #[.int .i64 r.kind, .int .i64 r.cart, .string (bs r.key), .int .i64 r.gen, .int .i64 r.group, .int .i64 r.groups, .int .i64 r.index, .int .i64 r.size, .string (bs r.sum), .slice A r.data.length c]
structure Rc.Ok (r : Rc) : Prop where
  kind : R64 r.kind
  cart : R64 r.cart
  gen : R64 r.gen
  group : R64 r.group
  groups : R64 r.groups
  index : R64 r.index
  size : R64 r.size
  key : r.key.length ≤ maxLen
  sum : r.sum.length ≤ maxLen
def sameR (a b : Rc) : Bool := decide (a = b)
theorem bs_beq (l m : List UInt8) : (bs l == bs m) = (l == m) := by
  have h : (bs l == bs m) = (l.toArray == m.toArray) := rfl
  rw [h]
  simp
theorem sameR_eq (a b : Rc) : sameR a b = ((a.kind == b.kind) && (a.cart == b.cart) && (a.key == b.key) && (a.gen == b.gen) && (a.group == b.group) && (a.groups == b.groups) && (a.index == b.index) && (a.size == b.size) && (a.sum == b.sum) && (a.data == b.data)) := by
  unfold sameR
  rw [Bool.eq_iff_iff, decide_eq_true_iff]
  cases a; cases b
  simp [and_assoc]
theorem bs_eq (l m : List UInt8) : (bs l = bs m) = (l = m) := by rw [eq_iff_iff]; exact ⟨bs_inj, fun h => by rw [h]⟩
theorem in_any (n lo hi : Int) (w : World) : Calls Try.prog 34 #[.int .i64 n, .int .i64 lo, .int .i64 hi] w fun e w' => e = .returned (.bool (inB n lo hi)) ∧ w' = w := by
  unfold inB
  by_cases h1 : lo ≤ n
  · have d1 : decide (lo ≤ n) = true := decide_eq_true h1
    rw [d1]
    go_enter Try.func34, Try.ntmps34
    go_wp2
    go_ret
    exact ⟨by first | rfl | (rw [Bool.true_and]; rfl), rfl⟩
  · have d1 : decide (lo ≤ n) = false := decide_eq_false h1
    rw [d1]
    go_enter Try.func34, Try.ntmps34
    go_wp2
    go_ret
    exact ⟨by first | rfl | (rw [Bool.false_and]; rfl), rfl⟩
theorem rin_any (n lo hi : Int) (w : World) : Calls Try.prog 63 #[.int .i64 n, .int .i64 lo, .int .i64 hi] w fun e w' => e = .returned (.bool (inB n lo hi)) ∧ w' = w := by
  unfold inB
  by_cases h1 : lo ≤ n
  · have d1 : decide (lo ≤ n) = true := decide_eq_true h1
    rw [d1]
    go_enter Try.func63, Try.ntmps63
    go_wp2
    go_ret
    exact ⟨by first | rfl | (rw [Bool.true_and]; rfl), rfl⟩
  · have d1 : decide (lo ≤ n) = false := decide_eq_false h1
    rw [d1]
    go_enter Try.func63, Try.ntmps63
    go_wp2
    go_ret
    exact ⟨by first | rfl | (rw [Bool.false_and]; rfl), rfl⟩
theorem key_any (l : List UInt8) (w : World) : Calls Try.prog 52 #[.string (bs l)] w fun e w' => e = .returned (.bool (inB l.length 1 16)) ∧ w' = w := by
  go_enter Try.func52, Try.ntmps52
  go_wp2_with fail
  refine (in_any _ 1 16 _).mono ?_
  rintro e w' ⟨rfl, rfl⟩
  go_wp2
  go_ret
  exact ⟨rfl, rfl⟩
def groupsOf (n : Int) : Int := if inB n 0 512 = true then max 1 ((n + 127) / 128) else 0
theorem groups_any (n : Int) (hn : R64 n) (w : World) : Calls Try.prog 53 #[.int .i64 n] w fun e w' => e = .returned (.int .i64 (groupsOf n)) ∧ w' = w := by
  unfold groupsOf
  cases h : inB n 0 512 with
  | true =>
    have h2 : 0 ≤ n ∧ n ≤ 512 := by unfold inB at h; simpa using h
    obtain ⟨h3, h4⟩ := h2
    go_enter Try.func53, Try.ntmps53
    go_wp2_with fail
    refine (in_any n 0 512 _).mono ?_
    rw [h]
    rintro e w' ⟨rfl, rfl⟩
    replace h := Lib.hid h
    go_wp2
    all_goals
      go_ret
      exact ⟨congrArg (fun z => Ending.returned (Value.int .i64 z)) (by omega), rfl⟩
  | false =>
    go_enter Try.func53, Try.ntmps53
    go_wp2_with fail
    refine (in_any n 0 512 _).mono ?_
    rw [h]
    rintro e w' ⟨rfl, rfl⟩
    go_wp2
    go_ret
    exact ⟨rfl, rfl⟩
theorem equal_any (A A2 : Option Addr) (n c n2 c2 B B2 : Nat) (l l2 : List UInt8) (hn : l.length = n) (hn2 : l2.length = n2) (w : World) (h : Rd w B A l) (h2 : Rd w B2 A2 l2) :
    Calls Try.prog 51 #[.slice A n c, .slice A2 n2 c2] w fun e w' => e = .returned (.bool (l == l2)) ∧ w' = w := by
  have c1 := run_str_at c h hn
  have c2' := run_str_at c2 h2 hn2
  go_enter Try.func51, Try.ntmps51
  go_wp2
  go_ret
  exact ⟨rfl, rfl⟩
set_option maxHeartbeats 8000000 in
set_option maxRecDepth 10000 in
theorem same_any (a b : Rc) (A A2 : Option Addr) (c c2 : Nat) (w : World) (h : Rd w w.heap.size A a.data) (h2 : Rd w w.heap.size A2 b.data) :
    Calls Try.prog 35 #[a.agg A c, b.agg A2 c2] w fun e w' => e = .returned (.bool (sameR a b)) ∧ Below w.heap.size w w' := by
  have hb1 := (Below.refl w.heap.size w).alloc (Nat.le_refl _) (.cells #[.int .i64 a.kind, .int .i64 a.cart, .string (bs a.key), .int .i64 a.gen, .int .i64 a.group, .int .i64 a.groups, .int .i64 a.index, .int .i64 a.size, .string (bs a.sum), .slice A a.data.length c] 37)
  have hb := Lib.hid (hb1.alloc hb1.size (.cells #[.int .i64 b.kind, .int .i64 b.cart, .string (bs b.key), .int .i64 b.gen, .int .i64 b.group, .int .i64 b.groups, .int .i64 b.index, .int .i64 b.size, .string (bs b.sum), .slice A2 b.data.length c2] 37))
  have hR := Lib.hid (h.up hb.out)
  have hR2 := Lib.hid (h2.up hb.out)
  have hv := sameR_eq a b
  clear hb1 h h2
  unfold Rc.agg
  obtain ⟨k0, d0⟩ : ∃ k, (a.kind == b.kind) = k := ⟨_, rfl⟩
  rw [d0] at hv
  obtain ⟨k1, d1⟩ : ∃ k, (a.cart == b.cart) = k := ⟨_, rfl⟩
  rw [d1] at hv
  obtain ⟨k2, e2⟩ : ∃ k, (a.key == b.key) = k := ⟨_, rfl⟩
  have d2 : (bs a.key == bs b.key) = k2 := by rw [bs_beq, e2]
  rw [e2] at hv
  obtain ⟨k3, d3⟩ : ∃ k, (a.gen == b.gen) = k := ⟨_, rfl⟩
  rw [d3] at hv
  obtain ⟨k4, d4⟩ : ∃ k, (a.group == b.group) = k := ⟨_, rfl⟩
  rw [d4] at hv
  obtain ⟨k5, d5⟩ : ∃ k, (a.groups == b.groups) = k := ⟨_, rfl⟩
  rw [d5] at hv
  obtain ⟨k6, d6⟩ : ∃ k, (a.index == b.index) = k := ⟨_, rfl⟩
  rw [d6] at hv
  obtain ⟨k7, d7⟩ : ∃ k, (a.size == b.size) = k := ⟨_, rfl⟩
  rw [d7] at hv
  obtain ⟨k8, e8⟩ : ∃ k, (a.sum == b.sum) = k := ⟨_, rfl⟩
  have d8 : (bs a.sum == bs b.sum) = k8 := by rw [bs_beq, e8]
  rw [e8] at hv
  obtain ⟨k9, d9⟩ : ∃ k, (a.data == b.data) = k := ⟨_, rfl⟩
  rw [d9] at hv
  rw [hv]
  clear hv
  go_enter Try.func35, Try.ntmps35
  go_wp2_with (go_at_call 51; refine (equal_any A A2 _ c _ c2 _ _ a.data b.data rfl rfl _ hR.out hR2.out).mono ?_; rw [d9]; rintro e w' ⟨rfl, rfl⟩)
  all_goals (first | go_ret | (go_wp2; go_ret))
  all_goals refine ⟨congrArg (fun z => Ending.returned (Value.bool z)) ?_, hb.out⟩
  all_goals simp_all
end Go.Proofs.Ytiliggleplpjbaa
