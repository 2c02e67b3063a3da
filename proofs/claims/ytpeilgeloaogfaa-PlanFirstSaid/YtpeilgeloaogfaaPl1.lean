/- plan: entries; Good, the program's and the reference's. -/
import Derived.Test.YtpeilgeloaogfaaRc
namespace Go.Proofs.Ytpeilgeloaogfaa
set_option linter.unusedVariables false
set_option linter.unusedSimpArgs false
open Go Go.RowKit
structure En where
  key : List UInt8
  gen : Int
  size : Int
  sum : List UInt8
def En.cells (e : En) (A : Option Addr) (n c : Nat) : Array Value := #[.string (bs e.key), .int .i64 e.gen, .int .i64 e.size, .string (bs e.sum), .slice A n c]
def En.agg (e : En) (A : Option Addr) (n c : Nat) : Value := .agg #[.string (bs e.key), .int .i64 e.gen, .int .i64 e.size, .string (bs e.sum), .slice A n c]
def slotB (z : Int) (n : Nat) : Bool := decide (0 ≤ z) && decide (z < n)
def goodN (e : En) (n k : Nat) (q : Rc) : Bool := (q.kind == 2) && (q.key == e.key) && (q.gen == e.gen) && (q.size == e.size) && (q.sum == e.sum) && (q.group == ((k / 10 : Nat) : Int)) && (q.index == ((k % 10 : Nat) : Int)) && (q.groups == ((n / 10 : Nat) : Int)) && ((q.data.length : Int) == 16)
def goodE (e : En) (n : Nat) (z : Int) (q : Rc) : Bool := slotB z n && goodN e n z.toNat q
theorem wrap64_nat (k : Nat) (h : k ≤ 9223372036854775807) : wrap64 (k : Int) = (k : Int) := by unfold wrap64; omega
theorem tdiv10 (k : Nat) : Int.tdiv (k : Int) 10 = ((k / 10 : Nat) : Int) := by rw [Int.tdiv_eq_ediv_of_nonneg (by omega)]; omega
theorem tmod10 (k : Nat) : Int.tmod (k : Int) 10 = ((k % 10 : Nat) : Int) := Int.ofNat_tmod k 10
set_option maxHeartbeats 4000000 in
theorem hasSlot_any (e : En) (A : Option Addr) (n c : Nat) (z : Int) (w : World) :
    Calls Try.prog 112 #[.agg #[.string (bs e.key), .int .i64 e.gen, .int .i64 e.size, .string (bs e.sum), .slice A n c], .int .i64 z] w fun r w' => r = .returned (.bool (slotB z n)) ∧ Gr w w' := by
  have hb : Gr w (w.alloc (.cells #[.string (bs e.key), .int .i64 e.gen, .int .i64 e.size, .string (bs e.sum), .slice A n c] 79)) := (Below.refl _ _).alloc (Nat.le_refl _) _
  replace hb := Lib.hid hb
  unfold slotB
  by_cases h1 : 0 ≤ z
  · have d1 : decide (0 ≤ z) = true := decide_eq_true h1
    rw [d1, Bool.true_and]
    go_enter Try.func112, Try.ntmps112
    go_wp2_with fail
    go_ret
    exact ⟨rfl, hb.out⟩
  · have d1 : decide (0 ≤ z) = false := decide_eq_false h1
    rw [d1, Bool.false_and]
    go_enter Try.func112, Try.ntmps112
    go_wp2_with fail
    go_ret
    exact ⟨rfl, hb.out⟩
set_option maxHeartbeats 8000000 in
set_option maxRecDepth 20000 in
theorem good_any (e : En) (A : Option Addr) (n c : Nat) (z : Int) (q : Rc) (A2 : Option Addr) (c2 : Nat) (hn : n ≤ 9223372036854775807) (w : World) :
    Calls Try.prog 69 #[.agg #[.string (bs e.key), .int .i64 e.gen, .int .i64 e.size, .string (bs e.sum), .slice A n c], .int .i64 z, .agg #[.int .i64 q.kind, .int .i64 q.cart, .string (bs q.key), .int .i64 q.gen, .int .i64 q.group, .int .i64 q.groups, .int .i64 q.index, .int .i64 q.size, .string (bs q.sum), .slice A2 q.data.length c2]] w fun r w' => r = .returned (.bool (goodE e n z q)) ∧ Gr w w' := by
  obtain ⟨res, hres⟩ : ∃ r, goodE e n z q = r := ⟨_, rfl⟩
  rw [hres]
  replace hres := Lib.hid hres
  have hb1 : Gr w (w.alloc (.cells #[.string (bs e.key), .int .i64 e.gen, .int .i64 e.size, .string (bs e.sum), .slice A n c] 79)) := (Below.refl _ _).alloc (Nat.le_refl _) _
  have hb2 : Gr (w.alloc (.cells #[.string (bs e.key), .int .i64 e.gen, .int .i64 e.size, .string (bs e.sum), .slice A n c] 79)) ((w.alloc (.cells #[.string (bs e.key), .int .i64 e.gen, .int .i64 e.size, .string (bs e.sum), .slice A n c] 79)).alloc (.cells #[.int .i64 q.kind, .int .i64 q.cart, .string (bs q.key), .int .i64 q.gen, .int .i64 q.group, .int .i64 q.groups, .int .i64 q.index, .int .i64 q.size, .string (bs q.sum), .slice A2 q.data.length c2] 69)) := (Below.refl _ _).alloc (Nat.le_refl _) _
  have x1 := heap_alloc_new w (.cells #[.string (bs e.key), .int .i64 e.gen, .int .i64 e.size, .string (bs e.sum), .slice A n c] 79)
  have x2 := heap_alloc_new (w.alloc (.cells #[.string (bs e.key), .int .i64 e.gen, .int .i64 e.size, .string (bs e.sum), .slice A n c] 79)) (.cells #[.int .i64 q.kind, .int .i64 q.cart, .string (bs q.key), .int .i64 q.gen, .int .i64 q.group, .int .i64 q.groups, .int .i64 q.index, .int .i64 q.size, .string (bs q.sum), .slice A2 q.data.length c2] 69)
  replace x1 := (hb2.block w.heap.size (by simp)).trans x1
  have hq : Gr w ((w.alloc (.cells #[.string (bs e.key), .int .i64 e.gen, .int .i64 e.size, .string (bs e.sum), .slice A n c] 79)).alloc (.cells #[.int .i64 q.kind, .int .i64 q.cart, .string (bs q.key), .int .i64 q.gen, .int .i64 q.group, .int .i64 q.groups, .int .i64 q.index, .int .i64 q.size, .string (bs q.sum), .slice A2 q.data.length c2] 69)) := hb1.trans hb2
  rw [World.size_alloc] at x2
  clear hb1 hb2
  obtain ⟨w2, hw2⟩ : ∃ x, (w.alloc (.cells #[.string (bs e.key), .int .i64 e.gen, .int .i64 e.size, .string (bs e.sum), .slice A n c] 79)).alloc (.cells #[.int .i64 q.kind, .int .i64 q.cart, .string (bs q.key), .int .i64 q.gen, .int .i64 q.group, .int .i64 q.groups, .int .i64 q.index, .int .i64 q.size, .string (bs q.sum), .slice A2 q.data.length c2] 69) = x := ⟨_, rfl⟩
  rw [hw2] at x1 x2 hq
  replace x1 := Lib.hid x1
  replace x2 := Lib.hid x2
  replace hq := Lib.hid hq
  go_enter Try.func69, Try.ntmps69
  have c0 := blk_cell (j := 0) x1.out rfl
  have c1 := blk_cell (j := 1) x1.out rfl
  have c2 := blk_cell (j := 2) x1.out rfl
  have c3 := blk_cell (j := 3) x1.out rfl
  have c4 := blk_cell (j := 4) x1.out rfl
  have d0 := blk_cell (j := 0) x2.out rfl
  have d1 := blk_cell (j := 1) x2.out rfl
  have d2 := blk_cell (j := 2) x2.out rfl
  have d3 := blk_cell (j := 3) x2.out rfl
  have d4 := blk_cell (j := 4) x2.out rfl
  have d5 := blk_cell (j := 5) x2.out rfl
  have d6 := blk_cell (j := 6) x2.out rfl
  have d7 := blk_cell (j := 7) x2.out rfl
  have d8 := blk_cell (j := 8) x2.out rfl
  have d9 := blk_cell (j := 9) x2.out rfl
  go_wp2_with fail
  try rw [hw2]
  refine (hasSlot_any e A n c z _).mono ?_
  rintro r w3 ⟨rfl, hr⟩
  replace hw2 := Lib.hid hw2
  clear c0 c1 c2 c3 c4 d0 d1 d2 d3 d4 d5 d6 d7 d8 d9
  replace x1 := Lib.hid ((hr.block _ (Array.getElem?_eq_some_iff.mp x1.out).1).trans x1.out)
  replace x2 := Lib.hid ((hr.block _ (Array.getElem?_eq_some_iff.mp x2.out).1).trans x2.out)
  replace hq := Gr.onP hr hq
  clear hr
  have c0 := blk_cell (j := 0) x1.out rfl
  have c1 := blk_cell (j := 1) x1.out rfl
  have c2 := blk_cell (j := 2) x1.out rfl
  have c3 := blk_cell (j := 3) x1.out rfl
  have c4 := blk_cell (j := 4) x1.out rfl
  have d0 := blk_cell (j := 0) x2.out rfl
  have d1 := blk_cell (j := 1) x2.out rfl
  have d2 := blk_cell (j := 2) x2.out rfl
  have d3 := blk_cell (j := 3) x2.out rfl
  have d4 := blk_cell (j := 4) x2.out rfl
  have d5 := blk_cell (j := 5) x2.out rfl
  have d6 := blk_cell (j := 6) x2.out rfl
  have d7 := blk_cell (j := 7) x2.out rfl
  have d8 := blk_cell (j := 8) x2.out rfl
  have d9 := blk_cell (j := 9) x2.out rfl
  cases hs : slotB z n with
  | false =>
    obtain rfl : res = false := by rw [← hres.out]; unfold goodE; rw [hs, Bool.false_and]
    go_wp2_with fail
    go_ret
    exact ⟨rfl, hq.out⟩
  | true =>
    have hz : 0 ≤ z ∧ z < n := by unfold slotB at hs; simpa using hs
    obtain ⟨k, rfl⟩ := Int.eq_ofNat_of_zero_le hz.1
    have hkn : k < n := by omega
    have hv : res = goodN e n k q := by rw [← hres.out]; unfold goodE; rw [hs, Bool.true_and, Int.toNat_natCast]
    unfold goodN at hv
    clear hres
    obtain ⟨k0, hk0⟩ : ∃ b, (q.kind == 2) = b := ⟨_, rfl⟩
    rw [hk0] at hv
    obtain ⟨k1, hk1⟩ : ∃ b, (q.key == e.key) = b := ⟨_, rfl⟩
    rw [hk1] at hv
    have hk12 : (bs q.key == bs e.key) = k1 := by rw [bs_beq, hk1]
    obtain ⟨k2, hk2⟩ : ∃ b, (q.gen == e.gen) = b := ⟨_, rfl⟩
    rw [hk2] at hv
    obtain ⟨k3, hk3⟩ : ∃ b, (q.size == e.size) = b := ⟨_, rfl⟩
    rw [hk3] at hv
    obtain ⟨k4, hk4⟩ : ∃ b, (q.sum == e.sum) = b := ⟨_, rfl⟩
    rw [hk4] at hv
    have hk42 : (bs q.sum == bs e.sum) = k4 := by rw [bs_beq, hk4]
    obtain ⟨k5, hk5⟩ : ∃ b, (q.group == ((k / 10 : Nat) : Int)) = b := ⟨_, rfl⟩
    rw [hk5] at hv
    obtain ⟨k6, hk6⟩ : ∃ b, (q.index == ((k % 10 : Nat) : Int)) = b := ⟨_, rfl⟩
    rw [hk6] at hv
    obtain ⟨k7, hk7⟩ : ∃ b, (q.groups == ((n / 10 : Nat) : Int)) = b := ⟨_, rfl⟩
    rw [hk7] at hv
    obtain ⟨k8, hk8⟩ : ∃ b, ((q.data.length : Int) == 16) = b := ⟨_, rfl⟩
    rw [hk8] at hv
    have t1 := tdiv10 k
    have t2 := tmod10 k
    have t3 := tdiv10 n
    obtain ⟨p1, hp1⟩ : ∃ p, k / 10 = p := ⟨_, rfl⟩
    obtain ⟨p2, hp2⟩ : ∃ p, k % 10 = p := ⟨_, rfl⟩
    obtain ⟨p3, hp3⟩ : ∃ p, n / 10 = p := ⟨_, rfl⟩
    rw [hp1] at t1 hk5
    rw [hp2] at t2 hk6
    rw [hp3] at t3 hk7
    have u1 := wrap64_nat p1 (by omega)
    have u3 := wrap64_nat p3 (by omega)
    replace hp1 := Lib.hid hp1
    replace hp2 := Lib.hid hp2
    replace hp3 := Lib.hid hp3
    replace hv := Lib.hid hv
    go_wp2_with fail
    all_goals
      go_ret
      exact ⟨by rw [hv.out]; first | rfl | (simp; done) | (simp [*]; done), hq.out⟩
end Go.Proofs.Ytpeilgeloaogfaa
