/- dig: the schedule. -/
import Derived.Test.YtpeilgeloaogfaaDig5
namespace Go.Proofs.Ytpeilgeloaogfaa
set_option linter.unusedVariables false
set_option linter.unusedSimpArgs false
open Go Go.RowKit
theorem i64_wrap_id {m : Int} (h1 : -9223372036854775808 ≤ m) (h2 : m ≤ 9223372036854775807) : IntKind.i64.wrap m = m := IntWalk.i64_in m ⟨h1, h2⟩
set_option maxHeartbeats 8000000 in
set_option maxRecDepth 20000 in
theorem schedule_any (b : Nat → UInt8) (A : Option Addr) (c : Nat) (l : List UInt8) (hl : Hid (l = row 64 b)) (hc : 64 ≤ c) (w : World) (h : Hid (Rd w w.heap.size A l)) : Calls Try.prog 97 #[.slice A 64 c] w fun e w' => e = .returned (.agg (wcells 64 (wd b)).toArray) ∧ Gr w w' := by
  have hZ : (wcells 64 (fun _ => 0)).toArray = Array.replicate 64 (.int .u32 0) := by kernel_rfl
  obtain ⟨w1, hw1⟩ : ∃ x, w.alloc (.cells (Array.replicate 64 (.int .u32 0)) 116) = x := ⟨_, rfl⟩
  obtain ⟨w2, hw2⟩ : ∃ x, w1.alloc (.cells (Array.replicate 64 (.int .u32 0)) 116) = x := ⟨_, rfl⟩
  have s1 : w1.heap.size = w.heap.size + 1 := by rw [← hw1]; simp
  have hA2 : Ar w2 (w.heap.size + 1) 116 64 (fun _ => 0) := by
    unfold Ar
    rw [hZ, ← hw2, ← s1]
    exact heap_alloc_new w1 _
  have hA1 : Ar w2 w.heap.size 116 64 (fun _ => 0) := by
    unfold Ar
    rw [hZ, ← hw2]
    have e1 : w1.heap[w.heap.size]? = some (.cells (Array.replicate 64 (.int .u32 0)) 116 (0, 0)) := by rw [← hw1]; exact heap_alloc_new w _
    have e2 := (Below.refl w1.heap.size w1).alloc (Nat.le_refl _) (.cells (Array.replicate 64 (.int .u32 0)) 116)
    obtain ⟨-, -, -, -, e3⟩ := e2
    rw [e3 _ (by omega), e1]
  have hq2 : Below w.heap.size w w2 := by
    rw [← hw2, ← hw1]
    exact ((Below.refl _ _).alloc (Nat.le_refl _) _).alloc (by simp) _
  replace hA1 := Lib.hid hA1
  replace hA2 := Lib.hid hA2
  replace hq2 := Lib.hid hq2
  go_enter Try.func97, Try.ntmps97
  go_upto_region 2 with (fail)
  rw [show (#[.int .u32 0, .int .u32 0, .int .u32 0, .int .u32 0, .int .u32 0, .int .u32 0, .int .u32 0, .int .u32 0, .int .u32 0, .int .u32 0, .int .u32 0, .int .u32 0, .int .u32 0, .int .u32 0, .int .u32 0, .int .u32 0, .int .u32 0, .int .u32 0, .int .u32 0, .int .u32 0, .int .u32 0, .int .u32 0, .int .u32 0, .int .u32 0, .int .u32 0, .int .u32 0, .int .u32 0, .int .u32 0, .int .u32 0, .int .u32 0, .int .u32 0, .int .u32 0, .int .u32 0, .int .u32 0, .int .u32 0, .int .u32 0, .int .u32 0, .int .u32 0, .int .u32 0, .int .u32 0, .int .u32 0, .int .u32 0, .int .u32 0, .int .u32 0, .int .u32 0, .int .u32 0, .int .u32 0, .int .u32 0, .int .u32 0, .int .u32 0, .int .u32 0, .int .u32 0, .int .u32 0, .int .u32 0, .int .u32 0, .int .u32 0, .int .u32 0, .int .u32 0, .int .u32 0, .int .u32 0, .int .u32 0, .int .u32 0, .int .u32 0, .int .u32 0] : Array Value) = Array.replicate 64 (.int .u32 0) from rfl, hw1, hw2]
  replace hw1 := Lib.hid hw1
  replace hw2 := Lib.hid hw2
  replace hZ := Lib.hid hZ
  go_wp2_with fail
  go_loopw [10] (fun v wr => ∃ (k : Nat), k ≤ 16 ∧ v = .int .i64 k ∧ Hid (Ar wr (w.heap.size + 1) 116 64 (wdTo b k)) ∧ Hid (Ar wr w.heap.size 116 64 (fun _ => 0)) ∧ Hid (Below w.heap.size w wr)) (fun v _ => (16 - intOf v).toNat)
  case atStart => exact ⟨0, by omega, rfl, by rw [wdTo_zero]; exact hA2, hA1, hq2⟩
  case round =>
    obtain ⟨k, hk, rfl, hA, hB, hq⟩ := hrel
    clear hA2 hA1 hq2
    by_cases hlt : k < 16
    · have i16 : (k : Int) < 16 := by omega
      go_wp2_with fail
      have hrw : Hid (Rd wr.drew wr.drew.heap.size A l) := Lib.hid ((h.out.up hq.out).drewN _)
      have hlen : l.length = 64 := by rw [hl.out, row_length]
      obtain ⟨ad, hAd, -, c0⟩ := hrw.out.at_ (k := 4 * k) (by omega)
      subst hAd
      obtain ⟨ad1, hAd1, -, c1⟩ := hrw.out.at_ (k := 4 * k + 1) (by omega)
      obtain ⟨ad2, hAd2, -, c2⟩ := hrw.out.at_ (k := 4 * k + 2) (by omega)
      obtain ⟨ad3, hAd3, -, c3⟩ := hrw.out.at_ (k := 4 * k + 3) (by omega)
      obtain rfl := Option.some.inj hAd1
      obtain rfl := Option.some.inj hAd2
      obtain rfl := Option.some.inj hAd3
      clear hAd1 hAd2 hAd3
      have gb : ∀ j (hj : j < l.length), l[j] = b j := fun j hj => by have := hl.out; subst this; simp [row]
      rw [gb] at c0 c1 c2 c3
      replace gb := Lib.hid gb
      obtain ⟨q0, e0⟩ : ∃ q, 4 * k = q := ⟨_, rfl⟩
      obtain ⟨q1, e1⟩ : ∃ q, 4 * k + 1 = q := ⟨_, rfl⟩
      obtain ⟨q2, e2⟩ : ∃ q, 4 * k + 2 = q := ⟨_, rfl⟩
      obtain ⟨q3, e3⟩ : ∃ q, 4 * k + 3 = q := ⟨_, rfl⟩
      rw [e0] at c0
      rw [e1] at c1
      rw [e2] at c2
      rw [e3] at c3
      have m0 : IntKind.i64.wrap (4 * (k : Int)) = (q0 : Int) := by rw [i64_wrap_id (by omega) (by omega)]; omega
      have m1 : IntKind.i64.wrap ((q0 : Int) + 1) = (q1 : Int) := by rw [i64_wrap_id (by omega) (by omega)]; omega
      have m2 : IntKind.i64.wrap ((q0 : Int) + 2) = (q2 : Int) := by rw [i64_wrap_id (by omega) (by omega)]; omega
      have m3 : IntKind.i64.wrap ((q0 : Int) + 3) = (q3 : Int) := by rw [i64_wrap_id (by omega) (by omega)]; omega
      have l0 : (q0 : Int) < 64 := by omega
      have l1 : (q1 : Int) < 64 := by omega
      have l2 : (q2 : Int) < 64 := by omega
      have l3 : (q3 : Int) < 64 := by omega
      replace e0 := Lib.hid e0
      replace e1 := Lib.hid e1
      replace e2 := Lib.hid e2
      replace e3 := Lib.hid e3
      have l4 : (k : Int) < 64 := by omega
      have hAd : Hid (Ar wr.drew (w.heap.size + 1) 116 64 (wdTo b k)) := Lib.hid (hA.out.other rfl)
      replace hlen := Lib.hid hlen
      have cw := hAd.out.at (i := k) (by omega)
      have fz : wr.frozen? ⟨w.heap.size + 1, k, none⟩ = false := by have := hA.out; unfold Ar at this; simp [World.frozen?, this]
      refine wpR_region (Eq) 35 (by kernel_rfl) ?_
      refine wpR_take (i := 0) (v := ?_) (⟨fun _ => rfl, Eq.trans⟩) (some 13) rfl (by kernel_rfl) (by kernel_rfl) (by kernel_rfl) (by kernel_rfl) (by kernel_rfl) (fun _ _ _ h => h) (by kernel_rfl) (fun w' hw' => ?_) ?_
      rotate_left
      · go_simp; with_reducible rfl
      simp only [Act.put, List.setIfInBounds_toArray, List.set_cons_zero, List.set_cons_succ]
      refine wpR_take (i := 1) (v := ?_) (⟨fun _ => rfl, Eq.trans⟩) (some 14) rfl (by kernel_rfl) (by kernel_rfl) (by kernel_rfl) (by kernel_rfl) (by kernel_rfl) (fun _ _ _ h => h) (by kernel_rfl) (fun w' hw' => ?_) ?_
      rotate_left
      · go_simp; with_reducible rfl
      simp only [Act.put, List.setIfInBounds_toArray, List.set_cons_zero, List.set_cons_succ]
      refine wpR_take (i := 2) (v := ?_) (⟨fun _ => rfl, Eq.trans⟩) (some 15) rfl (by kernel_rfl) (by kernel_rfl) (by kernel_rfl) (by kernel_rfl) (by kernel_rfl) (fun _ _ _ h => h) (by kernel_rfl) (fun w' hw' => ?_) ?_
      rotate_left
      · go_simp; with_reducible rfl
      simp only [Act.put, List.setIfInBounds_toArray, List.set_cons_zero, List.set_cons_succ]
      refine wpR_take (i := 3) (v := ?_) (⟨fun _ => rfl, Eq.trans⟩) (some 16) rfl (by kernel_rfl) (by kernel_rfl) (by kernel_rfl) (by kernel_rfl) (by kernel_rfl) (fun _ _ _ h => h) (by kernel_rfl) (fun w' hw' => ?_) ?_
      rotate_left
      · go_simp; with_reducible rfl
      simp only [Act.put, List.setIfInBounds_toArray, List.set_cons_zero, List.set_cons_succ]
      refine wpR_take (i := 4) (v := ?_) (⟨fun _ => rfl, Eq.trans⟩) (some 17) rfl (by kernel_rfl) (by kernel_rfl) (by kernel_rfl) (by kernel_rfl) (by kernel_rfl) (fun _ _ _ h => h) (by kernel_rfl) (fun w' hw' => ?_) ?_
      rotate_left
      · go_simp; with_reducible rfl
      simp only [Act.put, List.setIfInBounds_toArray, List.set_cons_zero, List.set_cons_succ]
      refine wpR_take (i := 5) (v := ?_) (⟨fun _ => rfl, Eq.trans⟩) (some 18) rfl (by kernel_rfl) (by kernel_rfl) (by kernel_rfl) (by kernel_rfl) (by kernel_rfl) (fun _ _ _ h => h) (by kernel_rfl) (fun w' hw' => ?_) ?_
      rotate_left
      · subst hw'; go_simp; with_reducible rfl
      simp only [Act.put, List.setIfInBounds_toArray, List.set_cons_zero, List.set_cons_succ]
      refine wpR_take (i := 6) (v := ?_) (⟨fun _ => rfl, Eq.trans⟩) (some 19) rfl (by kernel_rfl) (by kernel_rfl) (by kernel_rfl) (by kernel_rfl) (by kernel_rfl) (fun _ _ _ h => h) (by kernel_rfl) (fun w' hw' => ?_) ?_
      rotate_left
      · go_simp; with_reducible rfl
      simp only [Act.put, List.setIfInBounds_toArray, List.set_cons_zero, List.set_cons_succ]
      refine wpR_take (i := 7) (v := ?_) (⟨fun _ => rfl, Eq.trans⟩) (some 20) rfl (by kernel_rfl) (by kernel_rfl) (by kernel_rfl) (by kernel_rfl) (by kernel_rfl) (fun _ _ _ h => h) (by kernel_rfl) (fun w' hw' => ?_) ?_
      rotate_left
      · go_simp; with_reducible rfl
      simp only [Act.put, List.setIfInBounds_toArray, List.set_cons_zero, List.set_cons_succ]
      refine wpR_take (i := 8) (v := ?_) (⟨fun _ => rfl, Eq.trans⟩) (some 21) rfl (by kernel_rfl) (by kernel_rfl) (by kernel_rfl) (by kernel_rfl) (by kernel_rfl) (fun _ _ _ h => h) (by kernel_rfl) (fun w' hw' => ?_) ?_
      rotate_left
      · go_simp; with_reducible rfl
      simp only [Act.put, List.setIfInBounds_toArray, List.set_cons_zero, List.set_cons_succ]
      refine wpR_take (i := 9) (v := ?_) (⟨fun _ => rfl, Eq.trans⟩) (some 22) rfl (by kernel_rfl) (by kernel_rfl) (by kernel_rfl) (by kernel_rfl) (by kernel_rfl) (fun _ _ _ h => h) (by kernel_rfl) (fun w' hw' => ?_) ?_
      rotate_left
      · go_simp; with_reducible rfl
      simp only [Act.put, List.setIfInBounds_toArray, List.set_cons_zero, List.set_cons_succ]
      refine wpR_take (i := 10) (v := ?_) (⟨fun _ => rfl, Eq.trans⟩) (some 23) rfl (by kernel_rfl) (by kernel_rfl) (by kernel_rfl) (by kernel_rfl) (by kernel_rfl) (fun _ _ _ h => h) (by kernel_rfl) (fun w' hw' => ?_) ?_
      rotate_left
      · go_simp; with_reducible rfl
      simp only [Act.put, List.setIfInBounds_toArray, List.set_cons_zero, List.set_cons_succ]
      refine wpR_take (i := 11) (v := ?_) (⟨fun _ => rfl, Eq.trans⟩) (some 24) rfl (by kernel_rfl) (by kernel_rfl) (by kernel_rfl) (by kernel_rfl) (by kernel_rfl) (fun _ _ _ h => h) (by kernel_rfl) (fun w' hw' => ?_) ?_
      rotate_left
      · go_simp; with_reducible rfl
      simp only [Act.put, List.setIfInBounds_toArray, List.set_cons_zero, List.set_cons_succ]
      refine wpR_take (i := 12) (v := ?_) (⟨fun _ => rfl, Eq.trans⟩) (some 25) rfl (by kernel_rfl) (by kernel_rfl) (by kernel_rfl) (by kernel_rfl) (by kernel_rfl) (fun _ _ _ h => h) (by kernel_rfl) (fun w' hw' => ?_) ?_
      rotate_left
      · go_simp; with_reducible rfl
      simp only [Act.put, List.setIfInBounds_toArray, List.set_cons_zero, List.set_cons_succ]
      refine wpR_take (i := 13) (v := ?_) (⟨fun _ => rfl, Eq.trans⟩) (some 26) rfl (by kernel_rfl) (by kernel_rfl) (by kernel_rfl) (by kernel_rfl) (by kernel_rfl) (fun _ _ _ h => h) (by kernel_rfl) (fun w' hw' => ?_) ?_
      rotate_left
      · subst hw'; go_simp; with_reducible rfl
      simp only [Act.put, List.setIfInBounds_toArray, List.set_cons_zero, List.set_cons_succ]
      refine wpR_take (i := 14) (v := ?_) (⟨fun _ => rfl, Eq.trans⟩) (some 27) rfl (by kernel_rfl) (by kernel_rfl) (by kernel_rfl) (by kernel_rfl) (by kernel_rfl) (fun _ _ _ h => h) (by kernel_rfl) (fun w' hw' => ?_) ?_
      rotate_left
      · go_simp; with_reducible rfl
      simp only [Act.put, List.setIfInBounds_toArray, List.set_cons_zero, List.set_cons_succ]
      refine wpR_take (i := 15) (v := ?_) (⟨fun _ => rfl, Eq.trans⟩) (some 28) rfl (by kernel_rfl) (by kernel_rfl) (by kernel_rfl) (by kernel_rfl) (by kernel_rfl) (fun _ _ _ h => h) (by kernel_rfl) (fun w' hw' => ?_) ?_
      rotate_left
      · go_simp; with_reducible rfl
      simp only [Act.put, List.setIfInBounds_toArray, List.set_cons_zero, List.set_cons_succ]
      refine wpR_take (i := 16) (v := ?_) (⟨fun _ => rfl, Eq.trans⟩) (some 29) rfl (by kernel_rfl) (by kernel_rfl) (by kernel_rfl) (by kernel_rfl) (by kernel_rfl) (fun _ _ _ h => h) (by kernel_rfl) (fun w' hw' => ?_) ?_
      rotate_left
      · go_simp; with_reducible rfl
      simp only [Act.put, List.setIfInBounds_toArray, List.set_cons_zero, List.set_cons_succ]
      refine wpR_take (i := 17) (v := ?_) (⟨fun _ => rfl, Eq.trans⟩) (some 30) rfl (by kernel_rfl) (by kernel_rfl) (by kernel_rfl) (by kernel_rfl) (by kernel_rfl) (fun _ _ _ h => h) (by kernel_rfl) (fun w' hw' => ?_) ?_
      rotate_left
      · go_simp; with_reducible rfl
      simp only [Act.put, List.setIfInBounds_toArray, List.set_cons_zero, List.set_cons_succ]
      refine wpR_take (i := 18) (v := ?_) (⟨fun _ => rfl, Eq.trans⟩) (some 31) rfl (by kernel_rfl) (by kernel_rfl) (by kernel_rfl) (by kernel_rfl) (by kernel_rfl) (fun _ _ _ h => h) (by kernel_rfl) (fun w' hw' => ?_) ?_
      rotate_left
      · go_simp; with_reducible rfl
      simp only [Act.put, List.setIfInBounds_toArray, List.set_cons_zero, List.set_cons_succ]
      refine wpR_take (i := 19) (v := ?_) (⟨fun _ => rfl, Eq.trans⟩) (some 32) rfl (by kernel_rfl) (by kernel_rfl) (by kernel_rfl) (by kernel_rfl) (by kernel_rfl) (fun _ _ _ h => h) (by kernel_rfl) (fun w' hw' => ?_) ?_
      rotate_left
      · go_simp; with_reducible rfl
      simp only [Act.put, List.setIfInBounds_toArray, List.set_cons_zero, List.set_cons_succ]
      refine wpR_take (i := 20) (v := ?_) (⟨fun _ => rfl, Eq.trans⟩) (some 33) rfl (by kernel_rfl) (by kernel_rfl) (by kernel_rfl) (by kernel_rfl) (by kernel_rfl) (fun _ _ _ h => h) (by kernel_rfl) (fun w' hw' => ?_) ?_
      rotate_left
      · go_simp; with_reducible rfl
      simp only [Act.put, List.setIfInBounds_toArray, List.set_cons_zero, List.set_cons_succ]
      refine wpR_take (i := 21) (v := ?_) (⟨fun _ => rfl, Eq.trans⟩) (some 34) rfl (by kernel_rfl) (by kernel_rfl) (by kernel_rfl) (by kernel_rfl) (by kernel_rfl) (fun _ _ _ h => h) (by kernel_rfl) (fun w' hw' => ?_) ?_
      rotate_left
      · go_simp; with_reducible rfl
      simp only [Act.put, List.setIfInBounds_toArray, List.set_cons_zero, List.set_cons_succ]
      refine wpR_take (i := 22) (v := ?_) (⟨fun _ => rfl, Eq.trans⟩) (some 35) rfl (by kernel_rfl) (by kernel_rfl) (by kernel_rfl) (by kernel_rfl) (by kernel_rfl) (fun _ _ _ h => h) (by kernel_rfl) (fun w' hw' => ?_) ?_
      rotate_left
      · subst hw'; go_simp; with_reducible rfl
      simp only [Act.put, List.setIfInBounds_toArray, List.set_cons_zero, List.set_cons_succ]
      refine wpR_take (i := 23) (v := ?_) (⟨fun _ => rfl, Eq.trans⟩) (some 36) rfl (by kernel_rfl) (by kernel_rfl) (by kernel_rfl) (by kernel_rfl) (by kernel_rfl) (fun _ _ _ h => h) (by kernel_rfl) (fun w' hw' => ?_) ?_
      rotate_left
      · go_simp; with_reducible rfl
      simp only [Act.put, List.setIfInBounds_toArray, List.set_cons_zero, List.set_cons_succ]
      refine wpR_take (i := 24) (v := ?_) (⟨fun _ => rfl, Eq.trans⟩) (some 37) rfl (by kernel_rfl) (by kernel_rfl) (by kernel_rfl) (by kernel_rfl) (by kernel_rfl) (fun _ _ _ h => h) (by kernel_rfl) (fun w' hw' => ?_) ?_
      rotate_left
      · go_simp; with_reducible rfl
      simp only [Act.put, List.setIfInBounds_toArray, List.set_cons_zero, List.set_cons_succ]
      refine wpR_take (i := 25) (v := ?_) (⟨fun _ => rfl, Eq.trans⟩) (some 38) rfl (by kernel_rfl) (by kernel_rfl) (by kernel_rfl) (by kernel_rfl) (by kernel_rfl) (fun _ _ _ h => h) (by kernel_rfl) (fun w' hw' => ?_) ?_
      rotate_left
      · go_simp; with_reducible rfl
      simp only [Act.put, List.setIfInBounds_toArray, List.set_cons_zero, List.set_cons_succ]
      refine wpR_take (i := 26) (v := ?_) (⟨fun _ => rfl, Eq.trans⟩) (some 39) rfl (by kernel_rfl) (by kernel_rfl) (by kernel_rfl) (by kernel_rfl) (by kernel_rfl) (fun _ _ _ h => h) (by kernel_rfl) (fun w' hw' => ?_) ?_
      rotate_left
      · go_simp; with_reducible rfl
      simp only [Act.put, List.setIfInBounds_toArray, List.set_cons_zero, List.set_cons_succ]
      refine wpR_take (i := 27) (v := ?_) (⟨fun _ => rfl, Eq.trans⟩) (some 40) rfl (by kernel_rfl) (by kernel_rfl) (by kernel_rfl) (by kernel_rfl) (by kernel_rfl) (fun _ _ _ h => h) (by kernel_rfl) (fun w' hw' => ?_) ?_
      rotate_left
      · go_simp; with_reducible rfl
      simp only [Act.put, List.setIfInBounds_toArray, List.set_cons_zero, List.set_cons_succ]
      refine wpR_take (i := 28) (v := ?_) (⟨fun _ => rfl, Eq.trans⟩) (some 41) rfl (by kernel_rfl) (by kernel_rfl) (by kernel_rfl) (by kernel_rfl) (by kernel_rfl) (fun _ _ _ h => h) (by kernel_rfl) (fun w' hw' => ?_) ?_
      rotate_left
      · go_simp; with_reducible rfl
      simp only [Act.put, List.setIfInBounds_toArray, List.set_cons_zero, List.set_cons_succ]
      refine wpR_take (i := 29) (v := ?_) (⟨fun _ => rfl, Eq.trans⟩) (some 42) rfl (by kernel_rfl) (by kernel_rfl) (by kernel_rfl) (by kernel_rfl) (by kernel_rfl) (fun _ _ _ h => h) (by kernel_rfl) (fun w' hw' => ?_) ?_
      rotate_left
      · go_simp; with_reducible rfl
      simp only [Act.put, List.setIfInBounds_toArray, List.set_cons_zero, List.set_cons_succ]
      refine wpR_take (i := 30) (v := ?_) (⟨fun _ => rfl, Eq.trans⟩) (some 43) rfl (by kernel_rfl) (by kernel_rfl) (by kernel_rfl) (by kernel_rfl) (by kernel_rfl) (fun _ _ _ h => h) (by kernel_rfl) (fun w' hw' => ?_) ?_
      rotate_left
      · go_simp; with_reducible rfl
      simp only [Act.put, List.setIfInBounds_toArray, List.set_cons_zero, List.set_cons_succ]
      refine wpR_take (i := 31) (v := ?_) (⟨fun _ => rfl, Eq.trans⟩) (some 44) rfl (by kernel_rfl) (by kernel_rfl) (by kernel_rfl) (by kernel_rfl) (by kernel_rfl) (fun _ _ _ h => h) (by kernel_rfl) (fun w' hw' => ?_) ?_
      rotate_left
      · subst hw'; go_simp; with_reducible rfl
      simp only [Act.put, List.setIfInBounds_toArray, List.set_cons_zero, List.set_cons_succ]
      refine wpR_take (i := 32) (v := ?_) (⟨fun _ => rfl, Eq.trans⟩) (some 45) rfl (by kernel_rfl) (by kernel_rfl) (by kernel_rfl) (by kernel_rfl) (by kernel_rfl) (fun _ _ _ h => h) (by kernel_rfl) (fun w' hw' => ?_) ?_
      rotate_left
      · go_simp; with_reducible rfl
      simp only [Act.put, List.setIfInBounds_toArray, List.set_cons_zero, List.set_cons_succ]
      refine wpR_take (i := 33) (v := ?_) (⟨fun _ => rfl, Eq.trans⟩) (some 46) rfl (by kernel_rfl) (by kernel_rfl) (by kernel_rfl) (by kernel_rfl) (by kernel_rfl) (fun _ _ _ h => h) (by kernel_rfl) (fun w' hw' => ?_) ?_
      rotate_left
      · go_simp; with_reducible rfl
      simp only [Act.put, List.setIfInBounds_toArray, List.set_cons_zero, List.set_cons_succ]
      refine wpR_take (i := 34) (v := ?_) (⟨fun _ => rfl, Eq.trans⟩) (some 47) rfl (by kernel_rfl) (by kernel_rfl) (by kernel_rfl) (by kernel_rfl) (by kernel_rfl) (fun _ _ _ h => h) (by kernel_rfl) (fun w' hw' => ?_) ?_
      rotate_left
      · go_simp; with_reducible rfl
      simp only [Act.put, List.setIfInBounds_toArray, List.set_cons_zero, List.set_cons_succ]
      refine wpR_one 35 rfl (by kernel_rfl) (by kernel_rfl) (fun K hK => ?_)
      go_simp
      refine hK _ _ (fun h => absurd h (by decide)) ?_
      clear hK K
      try simp only [Act.put, List.setIfInBounds_toArray, List.set_cons_zero, List.set_cons_succ]
      refine wpR_done (by kernel_rfl) ?_ _
      have hv : zx32 (b q0) <<< 24 ||| zx32 (b q1) <<< 16 ||| zx32 (b q2) <<< 8 ||| zx32 (b q3) = wd b k := by rw [wd_low b hlt]; unfold big4; rw [← e0.out, ← e1.out, ← e2.out, ← e3.out]
      rw [hv]
      have hA' : Hid (Ar (wr.setCell ⟨w.heap.size + 1, k, none⟩ (.int .u32 (W (wd b k)))).drew (w.heap.size + 1) 116 64 (wdTo b (k + 1))) := Lib.hid (by rw [wdTo_succ]; exact (hA.out.set (by omega) _).other rfl)
      have hB' : Hid (Ar (wr.setCell ⟨w.heap.size + 1, k, none⟩ (.int .u32 (W (wd b k)))).drew w.heap.size 116 64 (fun _ => 0)) := Lib.hid ((hB.out.other (setCells_other (b := w.heap.size + 1) (by omega) [.int .u32 (W (wd b k))] k wr).1).other rfl)
      have hq' : Hid (Below w.heap.size w (wr.setCell ⟨w.heap.size + 1, k, none⟩ (.int .u32 (W (wd b k)))).drew) := Lib.hid ((below_setCells (b := w.heap.size + 1) hq.out (by omega) k [.int .u32 (W (wd b k))]).drew)
      go_wp2_with fail
      go_roundw
      case rel => first | exact ⟨k + 1, by omega, by go_num, hA', hB', hq'⟩ | ((repeat apply Exists.intro); exact ⟨⟨k + 1, by omega, by go_num, hA', hB', hq'⟩, rfl⟩)
      case measure => simp [intOf]; omega
    · obtain rfl : k = 16 := by omega
      have i16 : decide (((16 : Nat) : Int) < 16) = false := by decide
      go_wp2_with fail
      go_loopw [5] (fun v wr => ∃ (k : Nat), 16 ≤ k ∧ k ≤ 64 ∧ v = .int .i64 k ∧ Hid (Ar wr (w.heap.size + 1) 116 64 (wdTo b k)) ∧ Hid (Ar wr w.heap.size 116 64 (fun _ => 0)) ∧ Hid (Below w.heap.size w wr)) (fun v _ => (64 - intOf v).toNat)
      case atStart => exact ⟨16, by omega, by omega, rfl, hA, hB, hq⟩
      case round =>
        obtain ⟨n, hn1, hn2, rfl, hA5, hB5, hq5⟩ := hrel
        clear hA hB hq
        by_cases hlt : n < 64
        · have i64' : (n : Int) < 64 := by omega
          go_wp2_with fail
          have hAd : Hid (Ar wr.drew (w.heap.size + 1) 116 64 (wdTo b n)) := Lib.hid (hA5.out.other rfl)
          obtain ⟨p1, f1⟩ : ∃ p, n - 15 = p := ⟨_, rfl⟩
          obtain ⟨p2, f2⟩ : ∃ p, n - 2 = p := ⟨_, rfl⟩
          have c1 := hAd.out.at (i := p1) (by omega)
          have c2 := hAd.out.at (i := p2) (by omega)
          rw [wdTo_at b (by omega)] at c1 c2
          have m1 : IntKind.i64.wrap ((n : Int) - 15) = (p1 : Int) := by rw [i64_wrap_id (by omega) (by omega)]; omega
          have m2 : IntKind.i64.wrap ((n : Int) - 2) = (p2 : Int) := by rw [i64_wrap_id (by omega) (by omega)]; omega
          have l1 : (p1 : Int) < 64 := by omega
          have l2 : (p2 : Int) < 64 := by omega
          replace f1 := Lib.hid f1
          replace f2 := Lib.hid f2
          refine wpR_region (Eq) 9999 (by kernel_rfl) ?_
          refine wpR_take (i := 0) (v := ?_) (⟨fun _ => rfl, Eq.trans⟩) (some 53) rfl (by kernel_rfl) (by kernel_rfl) (by kernel_rfl) (by kernel_rfl) (by kernel_rfl) (fun _ _ _ h => h) (by kernel_rfl) (fun w' hw' => ?_) ?_
          rotate_left
          · go_simp; with_reducible rfl
          simp only [Act.put, List.setIfInBounds_toArray, List.set_cons_zero, List.set_cons_succ]
          refine wpR_take (i := 1) (v := ?_) (⟨fun _ => rfl, Eq.trans⟩) (some 54) rfl (by kernel_rfl) (by kernel_rfl) (by kernel_rfl) (by kernel_rfl) (by kernel_rfl) (fun _ _ _ h => h) (by kernel_rfl) (fun w' hw' => ?_) ?_
          rotate_left
          · go_simp; with_reducible rfl
          simp only [Act.put, List.setIfInBounds_toArray, List.set_cons_zero, List.set_cons_succ]
          refine wpR_take (i := 2) (v := ?_) (⟨fun _ => rfl, Eq.trans⟩) (some 55) rfl (by kernel_rfl) (by kernel_rfl) (by kernel_rfl) (by kernel_rfl) (by kernel_rfl) (fun _ _ _ h => h) (by kernel_rfl) (fun w' hw' => ?_) ?_
          rotate_left
          · go_simp; with_reducible rfl
          simp only [Act.put, List.setIfInBounds_toArray, List.set_cons_zero, List.set_cons_succ]
          refine wpR_take (i := 3) (v := ?_) (⟨fun _ => rfl, Eq.trans⟩) (some 56) rfl (by kernel_rfl) (by kernel_rfl) (by kernel_rfl) (by kernel_rfl) (by kernel_rfl) (fun _ _ _ h => h) (by kernel_rfl) (fun w' hw' => ?_) ?_
          rotate_left
          · subst hw'; go_simp; with_reducible rfl
          simp only [Act.put, List.setIfInBounds_toArray, List.set_cons_zero, List.set_cons_succ]
          refine wpR_take (i := 4) (v := ?_) (⟨fun _ => rfl, Eq.trans⟩) (some 57) rfl (by kernel_rfl) (by kernel_rfl) (by kernel_rfl) (by kernel_rfl) (by kernel_rfl) (fun _ _ _ h => h) (by kernel_rfl) (fun w' hw' => ?_) ?_
          rotate_left
          · go_simp; with_reducible rfl
          simp only [Act.put, List.setIfInBounds_toArray, List.set_cons_zero, List.set_cons_succ]
          refine wpR_take (i := 5) (v := ?_) (⟨fun _ => rfl, Eq.trans⟩) (some 58) rfl (by kernel_rfl) (by kernel_rfl) (by kernel_rfl) (by kernel_rfl) (by kernel_rfl) (fun _ _ _ h => h) (by kernel_rfl) (fun w' hw' => ?_) ?_
          rotate_left
          · go_simp; with_reducible rfl
          simp only [Act.put, List.setIfInBounds_toArray, List.set_cons_zero, List.set_cons_succ]
          refine wpR_take (i := 6) (v := ?_) (⟨fun _ => rfl, Eq.trans⟩) (some 59) rfl (by kernel_rfl) (by kernel_rfl) (by kernel_rfl) (by kernel_rfl) (by kernel_rfl) (fun _ _ _ h => h) (by kernel_rfl) (fun w' hw' => ?_) ?_
          rotate_left
          · go_simp; with_reducible rfl
          simp only [Act.put, List.setIfInBounds_toArray, List.set_cons_zero, List.set_cons_succ]
          refine wpR_take (i := 7) (v := ?_) (⟨fun _ => rfl, Eq.trans⟩) (some 60) rfl (by kernel_rfl) (by kernel_rfl) (by kernel_rfl) (by kernel_rfl) (by kernel_rfl) (fun _ _ _ h => h) (by kernel_rfl) (fun w' hw' => ?_) ?_
          rotate_left
          · subst hw'; go_simp; with_reducible rfl
          simp only [Act.put, List.setIfInBounds_toArray, List.set_cons_zero, List.set_cons_succ]
          refine wpR_take (i := 8) (v := ?_) (⟨fun _ => rfl, Eq.trans⟩) (some 6) rfl (by kernel_rfl) (by kernel_rfl) (by kernel_rfl) (by kernel_rfl) (by kernel_rfl) (fun _ _ _ h => h) (by kernel_rfl) (fun w' hw' => ?_) ?_
          rotate_left
          · go_simp; with_reducible rfl
          simp only [Act.put, List.setIfInBounds_toArray, List.set_cons_zero, List.set_cons_succ]
          refine wpR_take (i := 9) (v := ?_) (⟨fun _ => rfl, Eq.trans⟩) (some 7) rfl (by kernel_rfl) (by kernel_rfl) (by kernel_rfl) (by kernel_rfl) (by kernel_rfl) (fun _ _ _ h => h) (by kernel_rfl) (fun w' hw' => ?_) ?_
          rotate_left
          · go_simp; with_reducible rfl
          simp only [Act.put, List.setIfInBounds_toArray, List.set_cons_zero, List.set_cons_succ]
          refine wpR_done (by kernel_rfl) ?_ _
          go_wp2_with fail
          refine (turn_7 _ _).mono ?_
          rintro e w' ⟨rfl, rfl⟩
          go_wp2_with fail
          refine (turn_18 _ _).mono ?_
          rintro e w' ⟨rfl, rfl⟩
          go_wp2_with fail
          refine (turn_17 _ _).mono ?_
          rintro e w' ⟨rfl, rfl⟩
          go_wp2_with fail
          refine (turn_19 _ _).mono ?_
          rintro e w' ⟨rfl, rfl⟩
          go_wp2_with fail
          generalize hx0 : tn 7 (wd b p1) ^^^ tn 18 (wd b p1) ^^^ wd b p1 >>> 3 = s0
          generalize hy0 : tn 17 (wd b p2) ^^^ tn 19 (wd b p2) ^^^ wd b p2 >>> 10 = t0
          replace hx0 := Lib.hid hx0
          replace hy0 := Lib.hid hy0
          have hAe : Hid (Ar wr.drew.drew (w.heap.size + 1) 116 64 (wdTo b n)) := Lib.hid (hA5.out.other rfl)
          clear c1 c2 m1 m2 l1 l2
          obtain ⟨p3, f3⟩ : ∃ p, n - 16 = p := ⟨_, rfl⟩
          obtain ⟨p4, f4⟩ : ∃ p, n - 7 = p := ⟨_, rfl⟩
          have c1 := hAe.out.at (i := p3) (by omega)
          have c2 := hAe.out.at (i := p4) (by omega)
          rw [wdTo_at b (by omega)] at c1 c2
          have m1 : IntKind.i64.wrap ((n : Int) - 16) = (p3 : Int) := by rw [i64_wrap_id (by omega) (by omega)]; omega
          have m2 : IntKind.i64.wrap ((n : Int) - 7) = (p4 : Int) := by rw [i64_wrap_id (by omega) (by omega)]; omega
          have l1 : (p3 : Int) < 64 := by omega
          have l2 : (p4 : Int) < 64 := by omega
          replace f3 := Lib.hid f3
          replace f4 := Lib.hid f4
          have cw := hAe.out.at (i := n) (by omega)
          have fz : wr.frozen? ⟨w.heap.size + 1, n, none⟩ = false := by have := hA5.out; unfold Ar at this; simp [World.frozen?, this]
          refine wpR_region (Eq) 15 (by kernel_rfl) ?_
          refine wpR_take (i := 0) (v := ?_) (⟨fun _ => rfl, Eq.trans⟩) (some 77) rfl (by kernel_rfl) (by kernel_rfl) (by kernel_rfl) (by kernel_rfl) (by kernel_rfl) (fun _ _ _ h => h) (by kernel_rfl) (fun w' hw' => ?_) ?_
          rotate_left
          · go_simp; with_reducible rfl
          simp only [Act.put, List.setIfInBounds_toArray, List.set_cons_zero, List.set_cons_succ]
          refine wpR_take (i := 1) (v := ?_) (⟨fun _ => rfl, Eq.trans⟩) (some 78) rfl (by kernel_rfl) (by kernel_rfl) (by kernel_rfl) (by kernel_rfl) (by kernel_rfl) (fun _ _ _ h => h) (by kernel_rfl) (fun w' hw' => ?_) ?_
          rotate_left
          · go_simp; with_reducible rfl
          simp only [Act.put, List.setIfInBounds_toArray, List.set_cons_zero, List.set_cons_succ]
          refine wpR_take (i := 2) (v := ?_) (⟨fun _ => rfl, Eq.trans⟩) (some 79) rfl (by kernel_rfl) (by kernel_rfl) (by kernel_rfl) (by kernel_rfl) (by kernel_rfl) (fun _ _ _ h => h) (by kernel_rfl) (fun w' hw' => ?_) ?_
          rotate_left
          · go_simp; with_reducible rfl
          simp only [Act.put, List.setIfInBounds_toArray, List.set_cons_zero, List.set_cons_succ]
          refine wpR_take (i := 3) (v := ?_) (⟨fun _ => rfl, Eq.trans⟩) (some 80) rfl (by kernel_rfl) (by kernel_rfl) (by kernel_rfl) (by kernel_rfl) (by kernel_rfl) (fun _ _ _ h => h) (by kernel_rfl) (fun w' hw' => ?_) ?_
          rotate_left
          · go_simp; with_reducible rfl
          simp only [Act.put, List.setIfInBounds_toArray, List.set_cons_zero, List.set_cons_succ]
          refine wpR_take (i := 4) (v := ?_) (⟨fun _ => rfl, Eq.trans⟩) (some 81) rfl (by kernel_rfl) (by kernel_rfl) (by kernel_rfl) (by kernel_rfl) (by kernel_rfl) (fun _ _ _ h => h) (by kernel_rfl) (fun w' hw' => ?_) ?_
          rotate_left
          · subst hw'; go_simp; with_reducible rfl
          simp only [Act.put, List.setIfInBounds_toArray, List.set_cons_zero, List.set_cons_succ]
          refine wpR_take (i := 5) (v := ?_) (⟨fun _ => rfl, Eq.trans⟩) (some 82) rfl (by kernel_rfl) (by kernel_rfl) (by kernel_rfl) (by kernel_rfl) (by kernel_rfl) (fun _ _ _ h => h) (by kernel_rfl) (fun w' hw' => ?_) ?_
          rotate_left
          · go_simp; with_reducible rfl
          simp only [Act.put, List.setIfInBounds_toArray, List.set_cons_zero, List.set_cons_succ]
          refine wpR_take (i := 6) (v := ?_) (⟨fun _ => rfl, Eq.trans⟩) (some 83) rfl (by kernel_rfl) (by kernel_rfl) (by kernel_rfl) (by kernel_rfl) (by kernel_rfl) (fun _ _ _ h => h) (by kernel_rfl) (fun w' hw' => ?_) ?_
          rotate_left
          · go_simp; with_reducible rfl
          simp only [Act.put, List.setIfInBounds_toArray, List.set_cons_zero, List.set_cons_succ]
          refine wpR_take (i := 7) (v := ?_) (⟨fun _ => rfl, Eq.trans⟩) (some 84) rfl (by kernel_rfl) (by kernel_rfl) (by kernel_rfl) (by kernel_rfl) (by kernel_rfl) (fun _ _ _ h => h) (by kernel_rfl) (fun w' hw' => ?_) ?_
          rotate_left
          · go_simp; with_reducible rfl
          simp only [Act.put, List.setIfInBounds_toArray, List.set_cons_zero, List.set_cons_succ]
          refine wpR_take (i := 8) (v := ?_) (⟨fun _ => rfl, Eq.trans⟩) (some 85) rfl (by kernel_rfl) (by kernel_rfl) (by kernel_rfl) (by kernel_rfl) (by kernel_rfl) (fun _ _ _ h => h) (by kernel_rfl) (fun w' hw' => ?_) ?_
          rotate_left
          · subst hw'; go_simp; with_reducible rfl
          simp only [Act.put, List.setIfInBounds_toArray, List.set_cons_zero, List.set_cons_succ]
          refine wpR_take (i := 9) (v := ?_) (⟨fun _ => rfl, Eq.trans⟩) (some 86) rfl (by kernel_rfl) (by kernel_rfl) (by kernel_rfl) (by kernel_rfl) (by kernel_rfl) (fun _ _ _ h => h) (by kernel_rfl) (fun w' hw' => ?_) ?_
          rotate_left
          · go_simp; with_reducible rfl
          simp only [Act.put, List.setIfInBounds_toArray, List.set_cons_zero, List.set_cons_succ]
          refine wpR_take (i := 10) (v := ?_) (⟨fun _ => rfl, Eq.trans⟩) (some 87) rfl (by kernel_rfl) (by kernel_rfl) (by kernel_rfl) (by kernel_rfl) (by kernel_rfl) (fun _ _ _ h => h) (by kernel_rfl) (fun w' hw' => ?_) ?_
          rotate_left
          · go_simp; with_reducible rfl
          simp only [Act.put, List.setIfInBounds_toArray, List.set_cons_zero, List.set_cons_succ]
          refine wpR_take (i := 11) (v := ?_) (⟨fun _ => rfl, Eq.trans⟩) (some 88) rfl (by kernel_rfl) (by kernel_rfl) (by kernel_rfl) (by kernel_rfl) (by kernel_rfl) (fun _ _ _ h => h) (by kernel_rfl) (fun w' hw' => ?_) ?_
          rotate_left
          · go_simp; with_reducible rfl
          simp only [Act.put, List.setIfInBounds_toArray, List.set_cons_zero, List.set_cons_succ]
          refine wpR_take (i := 12) (v := ?_) (⟨fun _ => rfl, Eq.trans⟩) (some 89) rfl (by kernel_rfl) (by kernel_rfl) (by kernel_rfl) (by kernel_rfl) (by kernel_rfl) (fun _ _ _ h => h) (by kernel_rfl) (fun w' hw' => ?_) ?_
          rotate_left
          · go_simp; with_reducible rfl
          simp only [Act.put, List.setIfInBounds_toArray, List.set_cons_zero, List.set_cons_succ]
          refine wpR_take (i := 13) (v := ?_) (⟨fun _ => rfl, Eq.trans⟩) (some 90) rfl (by kernel_rfl) (by kernel_rfl) (by kernel_rfl) (by kernel_rfl) (by kernel_rfl) (fun _ _ _ h => h) (by kernel_rfl) (fun w' hw' => ?_) ?_
          rotate_left
          · go_simp; with_reducible rfl
          simp only [Act.put, List.setIfInBounds_toArray, List.set_cons_zero, List.set_cons_succ]
          refine wpR_take (i := 14) (v := ?_) (⟨fun _ => rfl, Eq.trans⟩) (some 91) rfl (by kernel_rfl) (by kernel_rfl) (by kernel_rfl) (by kernel_rfl) (by kernel_rfl) (fun _ _ _ h => h) (by kernel_rfl) (fun w' hw' => ?_) ?_
          rotate_left
          · go_simp; with_reducible rfl
          simp only [Act.put, List.setIfInBounds_toArray, List.set_cons_zero, List.set_cons_succ]
          refine wpR_one 15 rfl (by kernel_rfl) (by kernel_rfl) (fun K hK => ?_)
          go_simp
          refine hK _ _ (fun h => absurd h (by decide)) ?_
          clear hK K
          try simp only [Act.put, List.setIfInBounds_toArray, List.set_cons_zero, List.set_cons_succ]
          refine wpR_done (by kernel_rfl) ?_ _
          have hv : wd b p3 + wd b p4 + s0 + t0 = wd b n := by rw [wd_high b hn1]; unfold lowS lowT; rw [f1.out, f2.out, f3.out, f4.out, hx0.out, hy0.out]
          rw [hv]
          have hA' : Hid (Ar (wr.setCell ⟨w.heap.size + 1, n, none⟩ (.int .u32 (W (wd b n)))).drew.drew (w.heap.size + 1) 116 64 (wdTo b (n + 1))) := Lib.hid (by rw [wdTo_succ]; exact (hA5.out.set (by omega) _).other rfl)
          have hB' : Hid (Ar (wr.setCell ⟨w.heap.size + 1, n, none⟩ (.int .u32 (W (wd b n)))).drew.drew w.heap.size 116 64 (fun _ => 0)) := Lib.hid ((hB5.out.other (setCells_other (b := w.heap.size + 1) (by omega) [.int .u32 (W (wd b n))] n wr).1).other rfl)
          have hq' : Hid (Below w.heap.size w (wr.setCell ⟨w.heap.size + 1, n, none⟩ (.int .u32 (W (wd b n)))).drew.drew) := Lib.hid ((below_setCells (b := w.heap.size + 1) hq5.out (by omega) n [.int .u32 (W (wd b n))]).drew.drew)
          go_wp2_with fail
          go_roundw
          case rel => first | exact ⟨n + 1, by omega, by omega, by go_num, hA', hB', hq'⟩ | ((repeat apply Exists.intro); exact ⟨⟨n + 1, by omega, by omega, by go_num, hA', hB', hq'⟩, rfl⟩)
          case measure => simp [intOf]; omega
        · obtain rfl : n = 64 := by omega
          have i64' : decide (((64 : Nat) : Int) < 64) = false := by decide
          clear hlt
          go_upto_region 14 with (fail)
          have hAr : Ar wr (w.heap.size + 1) 116 64 (wd b) := hA5.out.congr (fun k hk => wdTo_at b hk)
          have ht := Lib.hid (there_of hB5.out (n := 64) (by simp [wcells_length]))
          have hA9 := Lib.hid (Ar.of_store (n := 64) (f := wd b) hB5.out (by simp [wcells_length]))
          have hq9 := Lib.hid (below_setCells (b := w.heap.size) hq5.out (Nat.le_refl _) 0 (wcells 64 (wd b)))
          have hrg := Lib.hid hAr.range
          have hu : Try.prog.underlying 116 = some (.array 64 113) := by kernel_rfl
          replace hu := Lib.hid hu
          clear hAr hA5 hB5 hq5
          have h1 : (wcells 64 (wd b)).toArray.all (·.oneCell') = true := all_oneCell_toArray (wcells_one 64 (wd b))
          have h2 : (wcells 64 (wd b)).toArray.size = 64 := by rw [List.size_toArray, wcells_length]
          have h3 : (wcells 64 (wd b)).toArray.toList = wcells 64 (wd b) := rfl
          refine wp_region_lit ?_
          refine wpList_load_mid rfl 116 (.tmp 3) rfl (w.heap.size + 1) 0 rfl (wcells 64 (wd b)) _ hrg.out hu.out rfl (by rw [wcells_length]; exact info_k) ?_
          generalize hcs : (wcells 64 (wd b)).toArray = cs at h1 h2 h3 ⊢
          refine wpList_store_mid rfl 116 (.tmp 2) (.tmp 92) rfl w.heap.size 0 cs rfl rfl (by rw [h2]; exact ht.out) (by rw [h2]; exact info_k) h1 ?_
          rw [h3]
          refine wpList_nil ?_
          simp only [Act.put, List.setIfInBounds_toArray, List.set_cons_zero, List.set_cons_succ]
          go_wp2
          have hl := run_loadVar_mid (P := Try.prog) _ w.heap.size 0 116 (wcells 64 (wd b)) _ hA9.out.range hu.out rfl (by rw [wcells_length]; exact info_k)
          rw [← hcs]
          exact bodyPost_ret (v := .agg (wcells 64 (wd b)).toArray) (results_cell rfl rfl hl) rfl ⟨rfl, hq9.out⟩
end Go.Proofs.Ytpeilgeloaogfaa
