/- plan: the reference's Good. -/
import Derived.Test.YtpeilgeloaogfaaPl1
namespace Go.Proofs.Ytpeilgeloaogfaa
set_option linter.unusedVariables false
set_option linter.unusedSimpArgs false
open Go Go.RowKit
set_option maxHeartbeats 8000000 in
set_option maxRecDepth 20000 in
theorem rgood_any (e : En) (A : Option Addr) (n c : Nat) (z : Int) (q : Rc) (A2 : Option Addr) (c2 : Nat) (hn : n ≤ 9223372036854775807) (w : World) :
    Calls Try.prog 70 #[.agg #[.string (bs e.key), .int .i64 e.gen, .int .i64 e.size, .string (bs e.sum), .slice A n c], .int .i64 z, .agg #[.int .i64 q.kind, .int .i64 q.cart, .string (bs q.key), .int .i64 q.gen, .int .i64 q.group, .int .i64 q.groups, .int .i64 q.index, .int .i64 q.size, .string (bs q.sum), .slice A2 q.data.length c2]] w fun r w' => r = .returned (.bool (goodE e n z q)) ∧ Gr w w' := by
  obtain ⟨res, hres⟩ : ∃ r, goodE e n z q = r := ⟨_, rfl⟩
  rw [hres]
  replace hres := Lib.hid hres
  have hb1 : Gr w (w.alloc (.cells #[.string (bs e.key), .int .i64 e.gen, .int .i64 e.size, .string (bs e.sum), .slice A n c] 79)) := (Below.refl _ _).alloc (Nat.le_refl _) _
  have hb2 : Gr (w.alloc (.cells #[.string (bs e.key), .int .i64 e.gen, .int .i64 e.size, .string (bs e.sum), .slice A n c] 79)) ((w.alloc (.cells #[.string (bs e.key), .int .i64 e.gen, .int .i64 e.size, .string (bs e.sum), .slice A n c] 79)).alloc (.cells #[.int .i64 q.kind, .int .i64 q.cart, .string (bs q.key), .int .i64 q.gen, .int .i64 q.group, .int .i64 q.groups, .int .i64 q.index, .int .i64 q.size, .string (bs q.sum), .slice A2 q.data.length c2] 69)) := (Below.refl _ _).alloc (Nat.le_refl _) _
  have x1 := heap_alloc_new w (.cells #[.string (bs e.key), .int .i64 e.gen, .int .i64 e.size, .string (bs e.sum), .slice A n c] 79)
  have x2 := heap_alloc_new (w.alloc (.cells #[.string (bs e.key), .int .i64 e.gen, .int .i64 e.size, .string (bs e.sum), .slice A n c] 79)) (.cells #[.int .i64 q.kind, .int .i64 q.cart, .string (bs q.key), .int .i64 q.gen, .int .i64 q.group, .int .i64 q.groups, .int .i64 q.index, .int .i64 q.size, .string (bs q.sum), .slice A2 q.data.length c2] 69)
  replace x1 := (hb2.block w.heap.size (by simp)).trans x1
  have hq : Gr w ((w.alloc (.cells #[.string (bs e.key), .int .i64 e.gen, .int .i64 e.size, .string (bs e.sum), .slice A n c] 79)).alloc (.cells #[.int .i64 q.kind, .int .i64 q.cart, .string (bs q.key), .int .i64 q.gen, .int .i64 q.group, .int .i64 q.groups, .int .i64 q.index, .int .i64 q.size, .string (bs q.sum), .slice A2 q.data.length c2] 69)) := hb1.trans hb2
  rw [World.size_alloc] at x2
  clear hb1 hb2
  obtain ⟨w2, hw2⟩ : ∃ x, (w.alloc (.cells #[.string (bs e.key), .int .i64 e.gen, .int .i64 e.size, .string (bs e.sum), .slice A n c] 79)).alloc (.cells #[.int .i64 q.kind, .int .i64 q.cart, .string (bs q.key), .int .i64 q.gen, .int .i64 q.group, .int .i64 q.groups, .int .i64 q.index, .int .i64 q.size, .string (bs q.sum), .slice A2 q.data.length c2] 69) = x := ⟨_, rfl⟩
  rw [hw2] at x1 x2 hq
  replace x1 := Lib.hid x1
  replace x2 := Lib.hid x2
  replace hq := Lib.hid hq
  cases hs : slotB z n with
  | false =>
    obtain rfl : res = false := by rw [← hres.out]; unfold goodE; rw [hs, Bool.false_and]
    by_cases h0 : z < 0
    · go_enter Try.func70, Try.ntmps70
      have c0 := blk_cell (j := 0) x1.out rfl
      have c1 := blk_cell (j := 1) x1.out rfl
      have c2 := blk_cell (j := 2) x1.out rfl
      have c3 := blk_cell (j := 3) x1.out rfl
      have c4 := blk_cell (j := 4) x1.out rfl
      have d0 := blk_cell (j := 0) x2.out rfl
      have d1 := blk_cell (j := 1) x2.out rfl
      have d2 := blk_cell (j := 2) x2.out rfl
      have d3 := blk_cell (j := 3) x2.out rfl
      have d4 := blk_cell (j := 4) x2.out rfl
      have d5 := blk_cell (j := 5) x2.out rfl
      have d6 := blk_cell (j := 6) x2.out rfl
      have d7 := blk_cell (j := 7) x2.out rfl
      have d8 := blk_cell (j := 8) x2.out rfl
      have d9 := blk_cell (j := 9) x2.out rfl
      go_wp2_with fail
      go_ret
      exact ⟨rfl, hq.out⟩
    · have h1 : (n : Int) ≤ z := by unfold slotB at hs; simp at hs; omega
      have h0' : 0 ≤ z := by omega
      go_enter Try.func70, Try.ntmps70
      have c0 := blk_cell (j := 0) x1.out rfl
      have c1 := blk_cell (j := 1) x1.out rfl
      have c2 := blk_cell (j := 2) x1.out rfl
      have c3 := blk_cell (j := 3) x1.out rfl
      have c4 := blk_cell (j := 4) x1.out rfl
      have d0 := blk_cell (j := 0) x2.out rfl
      have d1 := blk_cell (j := 1) x2.out rfl
      have d2 := blk_cell (j := 2) x2.out rfl
      have d3 := blk_cell (j := 3) x2.out rfl
      have d4 := blk_cell (j := 4) x2.out rfl
      have d5 := blk_cell (j := 5) x2.out rfl
      have d6 := blk_cell (j := 6) x2.out rfl
      have d7 := blk_cell (j := 7) x2.out rfl
      have d8 := blk_cell (j := 8) x2.out rfl
      have d9 := blk_cell (j := 9) x2.out rfl
      go_wp2_with fail
      go_ret
      exact ⟨rfl, hq.out⟩
  | true =>
    have hz : 0 ≤ z ∧ z < n := by unfold slotB at hs; simpa using hs
    obtain ⟨k, rfl⟩ := Int.eq_ofNat_of_zero_le hz.1
    have hkn : k < n := by omega
    have g1 : ¬ ((n : Int) ≤ (k : Int)) := by omega
    have g2 : (k : Int) < (n : Int) := by omega
    have hv : res = goodN e n k q := by rw [← hres.out]; unfold goodE; rw [hs, Bool.true_and, Int.toNat_natCast]
    unfold goodN at hv
    clear hres hs
    obtain ⟨k0, hk0⟩ : ∃ b, (q.kind == 2) = b := ⟨_, rfl⟩
    rw [hk0] at hv
    obtain ⟨k1, hk1⟩ : ∃ b, (q.key == e.key) = b := ⟨_, rfl⟩
    rw [hk1] at hv
    have hk12 : (bs q.key == bs e.key) = k1 := by rw [bs_beq, hk1]
    obtain ⟨k2, hk2⟩ : ∃ b, (q.gen == e.gen) = b := ⟨_, rfl⟩
    rw [hk2] at hv
    obtain ⟨k3, hk3⟩ : ∃ b, (q.size == e.size) = b := ⟨_, rfl⟩
    rw [hk3] at hv
    obtain ⟨k4, hk4⟩ : ∃ b, (q.sum == e.sum) = b := ⟨_, rfl⟩
    rw [hk4] at hv
    have hk42 : (bs q.sum == bs e.sum) = k4 := by rw [bs_beq, hk4]
    obtain ⟨k5, hk5⟩ : ∃ b, (q.group == ((k / 10 : Nat) : Int)) = b := ⟨_, rfl⟩
    rw [hk5] at hv
    obtain ⟨k6, hk6⟩ : ∃ b, (q.index == ((k % 10 : Nat) : Int)) = b := ⟨_, rfl⟩
    rw [hk6] at hv
    obtain ⟨k7, hk7⟩ : ∃ b, (q.groups == ((n / 10 : Nat) : Int)) = b := ⟨_, rfl⟩
    rw [hk7] at hv
    obtain ⟨k8, hk8⟩ : ∃ b, ((q.data.length : Int) == 16) = b := ⟨_, rfl⟩
    rw [hk8] at hv
    have t1 := tdiv10 k
    have t2 := tmod10 k
    have t3 := tdiv10 n
    obtain ⟨p1, hp1⟩ : ∃ p, k / 10 = p := ⟨_, rfl⟩
    obtain ⟨p2, hp2⟩ : ∃ p, k % 10 = p := ⟨_, rfl⟩
    obtain ⟨p3, hp3⟩ : ∃ p, n / 10 = p := ⟨_, rfl⟩
    rw [hp1] at t1 hk5
    rw [hp2] at t2 hk6
    rw [hp3] at t3 hk7
    have u1 := wrap64_nat p1 (by omega)
    have u3 := wrap64_nat p3 (by omega)
    replace hp1 := Lib.hid hp1
    replace hp2 := Lib.hid hp2
    replace hp3 := Lib.hid hp3
    clear t1 t2 u1
    replace hk5 := Lib.hid hk5
    replace hk6 := Lib.hid hk6
    replace hv := Lib.hid hv
    have hk0n : (q.kind != 2) = !k0 := by rw [bne, hk0]
    have hk8n : ((q.data.length : Int) != 16) = !k8 := by rw [bne, hk8]
    cases k0 with
    | false =>
      go_enter Try.func70, Try.ntmps70
      have c0 := blk_cell (j := 0) x1.out rfl
      have c1 := blk_cell (j := 1) x1.out rfl
      have c2 := blk_cell (j := 2) x1.out rfl
      have c3 := blk_cell (j := 3) x1.out rfl
      have c4 := blk_cell (j := 4) x1.out rfl
      have d0 := blk_cell (j := 0) x2.out rfl
      have d1 := blk_cell (j := 1) x2.out rfl
      have d2 := blk_cell (j := 2) x2.out rfl
      have d3 := blk_cell (j := 3) x2.out rfl
      have d4 := blk_cell (j := 4) x2.out rfl
      have d5 := blk_cell (j := 5) x2.out rfl
      have d6 := blk_cell (j := 6) x2.out rfl
      have d7 := blk_cell (j := 7) x2.out rfl
      have d8 := blk_cell (j := 8) x2.out rfl
      have d9 := blk_cell (j := 9) x2.out rfl
      go_wp2_with fail
      go_ret
      exact ⟨by rw [hv.out]; first | rfl | (simp; done), hq.out⟩
    | true =>
      cases k8 with
      | false =>
        go_enter Try.func70, Try.ntmps70
        have c0 := blk_cell (j := 0) x1.out rfl
        have c1 := blk_cell (j := 1) x1.out rfl
        have c2 := blk_cell (j := 2) x1.out rfl
        have c3 := blk_cell (j := 3) x1.out rfl
        have c4 := blk_cell (j := 4) x1.out rfl
        have d0 := blk_cell (j := 0) x2.out rfl
        have d1 := blk_cell (j := 1) x2.out rfl
        have d2 := blk_cell (j := 2) x2.out rfl
        have d3 := blk_cell (j := 3) x2.out rfl
        have d4 := blk_cell (j := 4) x2.out rfl
        have d5 := blk_cell (j := 5) x2.out rfl
        have d6 := blk_cell (j := 6) x2.out rfl
        have d7 := blk_cell (j := 7) x2.out rfl
        have d8 := blk_cell (j := 8) x2.out rfl
        have d9 := blk_cell (j := 9) x2.out rfl
        go_wp2_with fail
        go_ret
        exact ⟨by rw [hv.out]; first | rfl | (simp; done), hq.out⟩
      | true =>
        go_enter Try.func70, Try.ntmps70
        have c0 := blk_cell (j := 0) x1.out rfl
        have c1 := blk_cell (j := 1) x1.out rfl
        have c2 := blk_cell (j := 2) x1.out rfl
        have c3 := blk_cell (j := 3) x1.out rfl
        have c4 := blk_cell (j := 4) x1.out rfl
        have d0 := blk_cell (j := 0) x2.out rfl
        have d1 := blk_cell (j := 1) x2.out rfl
        have d2 := blk_cell (j := 2) x2.out rfl
        have d3 := blk_cell (j := 3) x2.out rfl
        have d4 := blk_cell (j := 4) x2.out rfl
        have d5 := blk_cell (j := 5) x2.out rfl
        have d6 := blk_cell (j := 6) x2.out rfl
        have d7 := blk_cell (j := 7) x2.out rfl
        have d8 := blk_cell (j := 8) x2.out rfl
        have d9 := blk_cell (j := 9) x2.out rfl
        go_wp2_with fail
        go_loopw [7, 8] (fun u v wr => ∃ j i : Nat, u = .int .i64 j ∧ v = .int .i64 i ∧ 10 * j + i = k ∧ wr = w2) (fun _ v _ => (intOf v).toNat)
        case atStart => exact ⟨0, k, rfl, rfl, by omega, rfl⟩
        case round =>
          obtain ⟨j, i, rfl, rfl, hji, rfl⟩ := hrel
          by_cases hi : 10 ≤ i
          · have ii : (10 : Int) ≤ (i : Int) := by omega
            obtain ⟨p, hp⟩ : ∃ p, i - 10 = p := ⟨_, rfl⟩
            have e1 : IntKind.i64.wrap ((i : Int) - 10) = (p : Int) := by rw [i64_wrap_idP (by omega) (by omega)]; omega
            have e2 : (i : Int) - 10 = (p : Int) := by omega
            replace hp := Lib.hid hp
            go_wp2_with fail
            go_roundw
            case rel => exact ⟨j + 1, p, by go_num, rfl, by have := hp.out; omega, by first | trivial | rfl⟩
            case measure => simp [intOf]; omega
          · have ii : ¬ ((10 : Int) ≤ (i : Int)) := by omega
            have ii' : (i : Int) < 10 := by omega
            have hj : Hid (j = p1) := Lib.hid (by have := hp1.out; omega)
            have hi2 : Hid (i = p2) := Lib.hid (by have := hp2.out; omega)
            have hk5' : (q.group == (j : Int)) = k5 := by rw [hj.out]; exact hk5.out
            have hk6' : (q.index == (i : Int)) = k6 := by rw [hi2.out]; exact hk6.out
            go_wp2_with fail
            all_goals
              go_ret
              exact ⟨by rw [hv.out]; first | rfl | (simp; done) | (simp [*]; done), hq.out⟩
end Go.Proofs.Ytpeilgeloaogfaa
