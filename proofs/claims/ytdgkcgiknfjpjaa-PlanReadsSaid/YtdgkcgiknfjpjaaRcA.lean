/- plan: small facts, under names of their own. -/
import Derived.LoopTactic
import Derived.WalkSpells
import Derived.Deep.DeepMust
import Derived.Deep.QuietTactic
import Derived.BigQuiet
import Derived.Test.YtdgkcgiknfjpjaaBaseB
import Derived.IntWalk
import Derived.Test.YtdgkcgiknfjpjaaBaseA
namespace Go.Proofs.Ytdgkcgiknfjpjaa
set_option linter.unusedVariables false
open Go Go.RowKit
theorem i64_wrap_idP {m : Int} (h1 : -9223372036854775808 ≤ m) (h2 : m ≤ 9223372036854775807) : IntKind.i64.wrap m = m := IntWalk.i64_in m ⟨h1, h2⟩
theorem Rd.grP {w w' : World} {A : Option Addr} {l : List UInt8} (hr : Gr w w') (h : Hid (Rd w w.heap.size A l)) : Hid (Rd w' w'.heap.size A l) := Lib.hid (h.out.up hr)
theorem Gr.onP {a w w' : World} (hr : Gr w w') (h : Hid (Gr a w)) : Hid (Gr a w') := Lib.hid (h.out.trans hr)
end Go.Proofs.Ytdgkcgiknfjpjaa
/- Records, as blob and plan have them; fit. -/
namespace Go.Proofs.Ytdgkcgiknfjpjaa
set_option linter.unusedVariables false
set_option linter.unusedSimpArgs false
open Go Go.RowKit
structure Rc where
  kind : Int
  cart : Int
  key : List UInt8
  gen : Int
  group : Int
  groups : Int
  index : Int
  size : Int
  sum : List UInt8
  data : List UInt8
deriving DecidableEq
def Rc.agg (r : Rc) (A : Option Addr) (c : Nat) : Value := .agg #[.int .i64 r.kind, .int .i64 r.cart, .string (bs r.key), .int .i64 r.gen, .int .i64 r.group, .int .i64 r.groups, .int .i64 r.index, .int .i64 r.size, .string (bs r.sum), .slice A r.data.length c]
def Rc.cells (r : Rc) (A : Option Addr) (c : Nat) : Array Value := #[.int .i64 r.kind, .int .i64 r.cart, .string (bs r.key), .int .i64 r.gen, .int .i64 r.group, .int .i64 r.groups, .int .i64 r.index, .int .i64 r.size, .string (bs r.sum), .slice A r.data.length c]
def R64 (z : Int) : Prop := -9223372036854775808 ≤ z ∧ z ≤ 9223372036854775807
structure Rc.Ok (r : Rc) : Prop where
  kind : R64 r.kind
  cart : R64 r.cart
  gen : R64 r.gen
  group : R64 r.group
  groups : R64 r.groups
  index : R64 r.index
  size : R64 r.size
  key : r.key.length ≤ maxLen
  sum : r.sum.length ≤ maxLen
def sameR (a b : Rc) : Bool := decide (a = b)
theorem bs_beq (l m : List UInt8) : (bs l == bs m) = (l == m) := by
  have h : (bs l == bs m) = (l.toArray == m.toArray) := rfl
  rw [h]
  simp
theorem sameR_eq (a b : Rc) : sameR a b = ((a.kind == b.kind) && (a.cart == b.cart) && (a.key == b.key) && (a.gen == b.gen) && (a.group == b.group) && (a.groups == b.groups) && (a.index == b.index) && (a.size == b.size) && (a.sum == b.sum) && (a.data == b.data)) := by
  unfold sameR
  rw [Bool.eq_iff_iff, decide_eq_true_iff]
  cases a; cases b
  simp [and_assoc]
theorem bs_eq (l m : List UInt8) : (bs l = bs m) = (l = m) := by rw [eq_iff_iff]; exact ⟨bs_inj, fun h => by rw [h]⟩
def inB (n lo hi : Int) : Bool := decide (lo ≤ n) && decide (n ≤ hi)
theorem in_any (n lo hi : Int) (w : World) : Calls Try.prog 52 #[.int .i64 n, .int .i64 lo, .int .i64 hi] w fun e w' => e = .returned (.bool (inB n lo hi)) ∧ w' = w := by
  unfold inB
  by_cases h1 : lo ≤ n
  · have d1 : decide (lo ≤ n) = true := decide_eq_true h1
    rw [d1]
    go_enter Try.func52, Try.ntmps52
    go_wp2
    go_ret
    exact ⟨by first | rfl | (rw [Bool.true_and]; rfl), rfl⟩
  · have d1 : decide (lo ≤ n) = false := decide_eq_false h1
    rw [d1]
    go_enter Try.func52, Try.ntmps52
    go_wp2
    go_ret
    exact ⟨by first | rfl | (rw [Bool.false_and]; rfl), rfl⟩
theorem key_any (l : List UInt8) (w : World) : Calls Try.prog 81 #[.string (bs l)] w fun e w' => e = .returned (.bool (inB l.length 1 16)) ∧ w' = w := by
  go_enter Try.func81, Try.ntmps81
  go_wp2_with fail
  refine (in_any _ 1 16 _).mono ?_
  rintro e w' ⟨rfl, rfl⟩
  go_wp2
  go_ret
  exact ⟨rfl, rfl⟩
def groupsOf (n : Int) : Int := if inB n 0 512 = true then max 1 ((n + 127) / 128) else 0
theorem groups_any (n : Int) (hn : R64 n) (w : World) : Calls Try.prog 38 #[.int .i64 n] w fun e w' => e = .returned (.int .i64 (groupsOf n)) ∧ w' = w := by
  unfold groupsOf
  cases h : inB n 0 512 with
  | true =>
    have h2 : 0 ≤ n ∧ n ≤ 512 := by unfold inB at h; simpa using h
    obtain ⟨h3, h4⟩ := h2
    go_enter Try.func38, Try.ntmps38
    go_wp2_with fail
    refine (in_any n 0 512 _).mono ?_
    rw [h]
    rintro e w' ⟨rfl, rfl⟩
    replace h := Lib.hid h
    go_wp2
    all_goals
      go_ret
      exact ⟨congrArg (fun z => Ending.returned (Value.int .i64 z)) (by omega), rfl⟩
  | false =>
    go_enter Try.func38, Try.ntmps38
    go_wp2_with fail
    refine (in_any n 0 512 _).mono ?_
    rw [h]
    rintro e w' ⟨rfl, rfl⟩
    go_wp2
    go_ret
    exact ⟨rfl, rfl⟩
end Go.Proofs.Ytdgkcgiknfjpjaa
