/- slices.Grow of nil, slices.Concat. -/
import Derived.Lib.AppendZeros
import Derived.Test.YtpeilgeloaogfaaMatRef2
import Derived.Test.YtpeilgeloaogfaaSpanT
namespace Go.Proofs.Ytpeilgeloaogfaa
set_option linter.unusedVariables false
set_option linter.unusedSimpArgs false
open Go Go.RowKit
theorem infoB : (Try.prog.info? 5).map (fun i => (i.zero, i.size, i.bytes)) = some (some (.int .u8 0), 1, 1) := by kernel_rfl
set_option maxHeartbeats 4000000 in
set_option maxRecDepth 20000 in
theorem grow_any (n : Nat) (h1 : 1 ≤ n) (hn : n ≤ 1000000) (w : World) :
    Calls Try.prog 121 #[.slice none 0 0, .int .i64 n] w fun e w' => ∃ v, e = .returned v ∧ Hid (OB w' w.heap.size v []) ∧ Below w.heap.size w w' := by
  obtain ⟨i0, hi, hz0, hz1, hz2⟩ := info_parts infoB
  have d1 : decide ((n : Int) < 0) = false := decide_eq_false (by omega)
  have i1 : (0 : Int) < (n : Int) := by omega
  have hrun := Lib.hid (Lib.run_append_nil_zeros (P := Try.prog) w 29 3 29 5 i0 (.int .u8 0) .i64 .i64 Try.underlying29 Try.underlying3 hi hz0 n (by omega) (by rw [hz1]; decide) (by omega) (by rw [hz2]; omega))
  replace hi := Lib.hid hi
  replace hz0 := Lib.hid hz0
  replace hz1 := Lib.hid hz1
  replace hz2 := Lib.hid hz2
  go_enter Try.func121, Try.ntmps121
  go_wp2_with (at_builtin; refine Lib.wpList_append_run _ rfl (.tmp 20) (.tmp 21) 29 3 rfl _ _ rfl rfl _ _ hrun.out ?_)
  go_ret
  refine ⟨_, rfl, Lib.hid ?_, ?_⟩
  · have h9 := World.ownsRow_made (base := w.heap.size) (e := 5) (size := 1) w (Builtin.zeroCells #[.int .u8 0] n ++ Builtin.zeroCells #[.int .u8 0] (grownCap w n 0 5 - n)) (grownCap w n 0 5) (Nat.le_refl _) (grownCap_le_maxLen w n 0 _ (by simp only [maxLen]; omega)) (by
      have := grownCap_ge w n 0 5
      rw [Array.size_append, size_zeroCells, size_zeroCells]
      simp only [List.size_toArray, List.length_cons, List.length_nil]
      omega)
    exact h9
  · exact (Below.refl w.heap.size w).trans (((Below.refl _ w).alloc (Nat.le_refl _) _).trans (Below.refl _ _).drew)
def flat (n m : Nat) (D : Mx) : List UInt8 := (List.range n).flatMap (fun i => row m (D i))
theorem flat_succ (n m : Nat) (D : Mx) : flat (n + 1) m D = flat n m D ++ row m (D n) := by
  unfold flat
  rw [List.range_succ, List.flatMap_append]
  simp
theorem flat_length (n m : Nat) (D : Mx) : (flat n m D).length = n * m := by
  induction n with
  | zero => simp [flat]
  | succ n ih => rw [flat_succ, List.length_append, ih, row_length, Nat.succ_mul]
set_option maxHeartbeats 8000000 in
set_option maxRecDepth 20000 in
theorem concat_any (n m : Nat) (D : Mx) (h1 : 1 ≤ n) (hn : n ≤ 32) (hm1 : 1 ≤ m) (hm : m ≤ 32) {v : Value} (w : World) (h : Tbl (tabM n m D) v w) :
    Calls Try.prog 91 #[v] w fun e w' => ∃ A c, e = .returned (.slice A (n * m) c) ∧ Hid (OB w' w.heap.size (.slice A (n * m) c) (flat n m D)) ∧ Below w.heap.size w w' := by
  obtain ⟨A, c, rfl, a1, a2, a3⟩ := h
  rw [tabM_length] at a1 a3 ⊢
  obtain ⟨b, o, A0, c0, l0, rfl, hb, -⟩ := a3.at_ (i := 0) (by omega)
  have hRT := Lib.hid a3
  clear a3 hb
  go_enter Try.func91, Try.ntmps91
  go_wp2_with fail
  go_loopw [3, 11] (fun sz i wr => ∃ (k t : Nat), k ≤ n ∧ i = .int .i64 k ∧ sz = .int .i64 t ∧ Hid (k * m = t) ∧ w = wr) (fun _ i _ => n - (intOf i).toNat)
  case atStart => exact ⟨0, 0, Nat.zero_le _, rfl, rfl, Lib.hid (Nat.zero_mul _), rfl⟩
  case round =>
    obtain ⟨k, t, hk, rfl, rfl, ht, rfl⟩ := hrel
    by_cases hlt : k < n
    · have ik : (k : Int) < (n : Int) := by omega
      obtain ⟨b', o', A', c', r, e, -, hr, hcell, hrc, -, -⟩ := hRT.out.at_ hlt
      injection e with e
      injection e with e1 e2 e3
      subst e1 e2
      rw [tabM_get hlt] at hr
      injection hr with hr
      rw [← hr, row_length] at hcell hrc
      have htk : t ≤ 1024 := by
        have h8 := ht.out
        have h9 := Nat.mul_le_mul (show k ≤ 32 by omega) hm
        omega
      have ht2 : Hid ((k + 1) * m = t + m) := Lib.hid (by rw [Nat.succ_mul, ht.out])
      have d1 : decide ((t : Int) + (m : Int) < 0) = false := decide_eq_false (by omega)
      clear e3 hr
      go_wp2_with fail
      go_roundw
      case rel => first | exact ⟨k + 1, t + m, by omega, by go_num, by go_num, ht2, by first | rfl | trivial⟩ | ((repeat apply Exists.intro); exact ⟨⟨k + 1, t + m, by omega, by go_num, by go_num, ht2, by first | rfl | trivial⟩, rfl⟩)
      case measure => simp [intOf]; omega
    · obtain rfl : k = n := by omega
      have htk : t ≤ 1024 := by
        have h8 := ht.out
        have h9 := Nat.mul_le_mul hn hm
        omega
      have ht1 : 1 ≤ t := by
        have h8 := ht.out
        have h9 := Nat.mul_le_mul h1 hm1
        omega
      have ik : decide ((k : Int) < (k : Int)) = false := decide_eq_false (by omega)
      have hg := Lib.hid (grow_any t ht1 (by omega) w)
      go_wp2_with fail
      refine hg.out.mono ?_
      rintro e w1 ⟨v1, rfl, ho1, hb1⟩
      have hRT1 := Lib.hid (hRT.out.up hb1)
      have hq1 := Lib.hid hb1
      obtain ⟨A1, c1, rfl, -, -, -⟩ := ho1.out.form
      have hoo : Hid (OB w1 w.heap.size (.slice A1 0 c1) (flat 0 m D)) := ho1
      rw [List.length_nil]
      clear hg hb1 ho1
      go_wp2_with fail
      go_loopw [6, 27] (fun s i wr => ∃ (j t : Nat) (A2 : Option Addr) (c2 : Nat), j ≤ k ∧ i = .int .i64 j ∧ s = .slice A2 t c2 ∧ Hid (j * m = t) ∧ Hid (OB wr w.heap.size (.slice A2 t c2) (flat j m D)) ∧ Hid (Below w.heap.size w wr)) (fun _ i _ => k - (intOf i).toNat)
      case atStart => exact ⟨0, 0, _, _, Nat.zero_le _, rfl, rfl, Lib.hid (Nat.zero_mul _), hoo, hq1⟩
      case round =>
        obtain ⟨j, t2, A2, c2, hj, rfl, rfl, htj, ho2, hq2⟩ := hrel
        clear hoo hq1 hRT1
        obtain ⟨wo, hwo⟩ : ∃ wo, wo = wr := ⟨_, rfl⟩
        subst hwo
        by_cases hlt : j < k
        · have ij : (j : Int) < (k : Int) := by omega
          obtain ⟨b', o', A', c', r, e, -, hr, hcell, hrc, -, hrd⟩ := (hRT.out.up hq2.out).at_ hlt
          injection e with e
          injection e with e1 e2 e3
          subst e1 e2
          rw [tabM_get hlt] at hr
          injection hr with hr
          rw [← hr] at hrd
          rw [← hr, row_length] at hcell hrc
          have hrd' := Lib.hid hrd
          have ht2 : Hid ((j + 1) * m = t2 + m) := Lib.hid (by rw [Nat.succ_mul, htj.out])
          have hbd : Hid ((flat j m D).length + m ≤ 140737488355328) := Lib.hid (by
            rw [flat_length]
            have h9 := Nat.mul_le_mul (show j ≤ 32 by omega) hm
            omega)
          have hfl : Hid ((flat j m D).length = t2) := Lib.hid (by rw [flat_length]; exact htj.out)
          clear e3 hr hrd
          have hws := hq2.out.size
          go_wp2_with (at_builtin; go_must (refine wpl_append rfl (.tmp 31) (.tmp 32) rfl w.heap.size (.slice A2 t2 c2) (flat j m D) rfl ho2.out _ A' c' (row m (D j)) (by rw [row_length]; rfl) hrd'.out (by rw [row_length]; exact hbd.out) hws ?_); intro v8 w8 ho8 hg8 _; have hq8 := Lib.hid (below_row ho2.out hq2.out hws hg8); rw [← flat_succ] at ho8; obtain ⟨A8, c8, rfl, -, -, -, -⟩ := ho8.form; rw [flat_length, ht2.out] at ho8 ⊢; replace ho8 := Lib.hid ho8; clear hg8)
          go_roundw
          case rel => first | exact ⟨j + 1, t2 + m, A8, c8, by omega, by go_num, rfl, ht2, ho8, hq8⟩ | ((repeat apply Exists.intro); exact ⟨⟨j + 1, t2 + m, A8, c8, by omega, by go_num, rfl, ht2, ho8, hq8⟩, rfl⟩)
          case measure => simp [intOf]; omega
        · obtain rfl : j = k := by omega
          have ij : decide ((j : Int) < (j : Int)) = false := decide_eq_false (by omega)
          have htt := htj.out
          replace ht := Lib.hid ht
          go_wp2_with fail
          go_ret
          subst htt
          exact ⟨A2, c2, rfl, ho2, hq2.out⟩
end Go.Proofs.Ytpeilgeloaogfaa
