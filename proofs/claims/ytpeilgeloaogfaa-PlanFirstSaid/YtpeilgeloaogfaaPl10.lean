/- plan: First and More are the reference's. -/
import Derived.Test.YtpeilgeloaogfaaPl9
import Derived.Test.YtpeilgeloaogfaaPl9b
namespace Go.Proofs.Ytpeilgeloaogfaa
set_option linter.unusedVariables false
set_option linter.unusedSimpArgs false
open Go Go.RowKit
theorem Ri.get {w : World} {A : Option Addr} {l : List Nat} (h : Ri w A l.length l) {k : Nat} (hk : k < l.length) : ∃ ad, A = some ad ∧ w.cell? (ad.add k) = some (.int .i64 (l[k] : Nat)) := by
  obtain ⟨ad, u, e, -, hu, hc⟩ := Reads.at_ h hk
  unfold icells at hu
  rw [List.getElem?_map, List.getElem?_eq_getElem hk] at hu
  injection hu with hu
  exact ⟨ad, e, by rw [hc, ← hu]⟩
set_option maxHeartbeats 8000000 in
set_option maxRecDepth 20000 in
theorem planFirst_any (e : En) (A : Option Addr) (n c : Nat) (hc : n ≤ c) (hcm : c ≤ 9223372036854775807) (A2 : Option Addr) (n2 c2 : Nat) (bad : List Bool) (z : Int) (w : World) (h : Hid (Bl w A2 n2 bad)) :
    Calls Try.prog 24 #[e.agg A n c, .slice A2 n2 c2, .int .i64 z] w fun r w' => r = .returned (.bool true) ∧ Below w.heap.size w w' := by
  unfold En.agg
  have x3 := Lib.hid (heap_alloc_new w (.cells #[.string (bs e.key), .int .i64 e.gen, .int .i64 e.size, .string (bs e.sum), .slice A n c] 79))
  have hr : Gr w (w.alloc (.cells #[.string (bs e.key), .int .i64 e.gen, .int .i64 e.size, .string (bs e.sum), .slice A n c] 79)) := (Below.refl _ _).alloc (Nat.le_refl _) _
  replace h := Bl.gr hr h
  have hqd : Hid (Below w.heap.size w (w.alloc (.cells #[.string (bs e.key), .int .i64 e.gen, .int .i64 e.size, .string (bs e.sum), .slice A n c] 79))) := Lib.hid hr
  clear hr
  go_enter Try.func24, Try.ntmps24
  have c0 := blk_cell (j := 0) x3.out rfl
  have c1 := blk_cell (j := 1) x3.out rfl
  have c2 := blk_cell (j := 2) x3.out rfl
  have c3 := blk_cell (j := 3) x3.out rfl
  have c4 := blk_cell (j := 4) x3.out rfl
  go_wp2_with fail
  clear c0 c1 c2 c3 c4
  refine (slots_any e A n c hc hcm _).mono ?_
  rintro r w3 ⟨rfl, hr⟩
  replace h := Bl.gr hr h
  replace hqd := Lib.hid (hqd.out.trans (Below.mono hr hqd.out.size))
  clear hr x3
  obtain ⟨m, hm⟩ : ∃ m, min n 60 = m := ⟨_, rfl⟩
  rw [hm]
  have hm60 : m ≤ 1000 := by omega
  replace hm := Lib.hid hm
  have x3 := heap_alloc_new w3 (.cells #[.string (bs e.key), .int .i64 e.gen, .int .i64 e.size, .string (bs e.sum), .slice A m c] 79)
  have hr : Gr w3 (w3.alloc (.cells #[.string (bs e.key), .int .i64 e.gen, .int .i64 e.size, .string (bs e.sum), .slice A m c] 79)) := (Below.refl _ _).alloc (Nat.le_refl _) _
  replace h := Bl.gr hr h
  replace hqd := Lib.hid (hqd.out.trans (Below.mono hr hqd.out.size))
  clear hr
  go_upto_region 2 with (fail)
  generalize hg3 : w3.heap.size = g3 at x3 ⊢
  generalize w3.alloc (.cells #[.string (bs e.key), .int .i64 e.gen, .int .i64 e.size, .string (bs e.sum), .slice A m c] 79) = w4 at x3 h hqd ⊢
  replace hg3 := Lib.hid hg3
  replace x3 := Lib.hid x3
  have c0 := blk_cell (j := 0) x3.out rfl
  have c1 := blk_cell (j := 1) x3.out rfl
  have c2 := blk_cell (j := 2) x3.out rfl
  have c3 := blk_cell (j := 3) x3.out rfl
  have c4 := blk_cell (j := 4) x3.out rfl
  go_wp2_with fail
  clear c0 c1 c2 c3 c4
  refine (first_any e A m c hm60 A2 n2 c2 bad _ h).mono ?_
  rintro r w5 hp
  obtain ⟨A5, c5, l, b, rfl, hv, hc5, hl1, hi5, hr⟩ := hp
  replace x3 := Lib.hid ((hr.block _ (Array.getElem?_eq_some_iff.mp x3.out).1).trans x3.out)
  replace h := Bl.gr hr h
  replace hqd := Lib.hid (hqd.out.trans (Below.mono hr hqd.out.size))
  clear hr
  have c0 := blk_cell (j := 0) x3.out rfl
  have c1 := blk_cell (j := 1) x3.out rfl
  have c2 := blk_cell (j := 2) x3.out rfl
  have c3 := blk_cell (j := 3) x3.out rfl
  have c4 := blk_cell (j := 4) x3.out rfl
  go_wp2_with fail
  clear c0 c1 c2 c3 c4
  refine (rfirst_any e A m c hm60 A2 n2 c2 bad _ h).mono ?_
  rintro r w6 hp
  obtain ⟨A6, c6, l6, b6, rfl, hv6, hc6, -, hi6, hr⟩ := hp
  have hee := hv.out.trans hv6.out.symm
  obtain ⟨rfl, rfl⟩ := Prod.mk.inj hee
  clear hee hv hv6
  replace hi5 : Hid (Ri w5 A5 l.length l) := hi5
  replace hi6 : Hid (Ri w6 A6 l.length l) := hi6
  replace hi5 := Ri.gr hr hi5
  replace x3 := Lib.hid ((hr.block _ (Array.getElem?_eq_some_iff.mp x3.out).1).trans x3.out)
  replace h := Bl.gr hr h
  replace hqd := Lib.hid (hqd.out.trans (Below.mono hr hqd.out.size))
  clear hr
  obtain ⟨N, hN⟩ : ∃ N, l.length = N := ⟨_, rfl⟩
  rw [hN] at hc5 hc6 hl1 ⊢
  replace hN := Lib.hid hN
  go_wp2_with fail
  go_loopw [12] (fun v wr => ∃ k : Nat, k ≤ N ∧ v = .int .i64 k ∧ Hid (Ri wr A5 l.length l) ∧ Hid (Ri wr A6 l.length l) ∧ Hid (wr.heap[g3]? = some (.cells #[.string (bs e.key), .int .i64 e.gen, .int .i64 e.size, .string (bs e.sum), .slice A m c] 79 (0, 0))) ∧ Hid (Bl wr A2 n2 bad) ∧ Hid (Below w.heap.size w wr)) (fun v _ => (N - intOf v).toNat)
  case atStart => exact ⟨0, Nat.zero_le _, rfl, hi5, hi6, x3, h, hqd⟩
  case round =>
    obtain ⟨k, hk, rfl, hi5, hi6, x3, h, hqd⟩ := hrel
    by_cases hkN : k < N
    · have i1 : (k : Int) < (N : Int) := by omega
      go_wp2_with fail
      obtain ⟨ad5, rfl, d5⟩ := (show Ri wr.drew A5 l.length l from hi5.out).get (k := k) (by rw [hN.out]; exact hkN)
      obtain ⟨ad6, rfl, d6⟩ := (show Ri wr.drew A6 l.length l from hi6.out).get (k := k) (by rw [hN.out]; exact hkN)
      generalize l[k]'(by rw [hN.out]; exact hkN) = y at d5 d6
      refine wpR_region (Eq) 9999 (by kernel_rfl) ?_
      refine wpR_take (i := 0) (v := ?_) (⟨fun _ => rfl, Eq.trans⟩) (some 47) rfl (by kernel_rfl) (by kernel_rfl) (by kernel_rfl) (by kernel_rfl) (by kernel_rfl) (fun _ _ _ h => h) (by kernel_rfl) (fun w' hw' => ?_) ?_
      rotate_left
      · go_simp; with_reducible rfl
      simp only [Act.put, List.setIfInBounds_toArray, List.set_cons_zero, List.set_cons_succ]
      refine wpR_take (i := 1) (v := ?_) (⟨fun _ => rfl, Eq.trans⟩) (some 48) rfl (by kernel_rfl) (by kernel_rfl) (by kernel_rfl) (by kernel_rfl) (by kernel_rfl) (fun _ _ _ h => h) (by kernel_rfl) (fun w' hw' => ?_) ?_
      rotate_left
      · go_simp; with_reducible rfl
      simp only [Act.put, List.setIfInBounds_toArray, List.set_cons_zero, List.set_cons_succ]
      refine wpR_take (i := 2) (v := ?_) (⟨fun _ => rfl, Eq.trans⟩) (some 49) rfl (by kernel_rfl) (by kernel_rfl) (by kernel_rfl) (by kernel_rfl) (by kernel_rfl) (fun _ _ _ h => h) (by kernel_rfl) (fun w' hw' => ?_) ?_
      rotate_left
      · go_simp; with_reducible rfl
      simp only [Act.put, List.setIfInBounds_toArray, List.set_cons_zero, List.set_cons_succ]
      refine wpR_take (i := 3) (v := ?_) (⟨fun _ => rfl, Eq.trans⟩) (some 50) rfl (by kernel_rfl) (by kernel_rfl) (by kernel_rfl) (by kernel_rfl) (by kernel_rfl) (fun _ _ _ h => h) (by kernel_rfl) (fun w' hw' => ?_) ?_
      rotate_left
      · subst hw'; go_simp; with_reducible rfl
      simp only [Act.put, List.setIfInBounds_toArray, List.set_cons_zero, List.set_cons_succ]
      refine wpR_take (i := 4) (v := ?_) (⟨fun _ => rfl, Eq.trans⟩) (some 51) rfl (by kernel_rfl) (by kernel_rfl) (by kernel_rfl) (by kernel_rfl) (by kernel_rfl) (fun _ _ _ h => h) (by kernel_rfl) (fun w' hw' => ?_) ?_
      rotate_left
      · go_simp; with_reducible rfl
      simp only [Act.put, List.setIfInBounds_toArray, List.set_cons_zero, List.set_cons_succ]
      refine wpR_take (i := 5) (v := ?_) (⟨fun _ => rfl, Eq.trans⟩) (some 52) rfl (by kernel_rfl) (by kernel_rfl) (by kernel_rfl) (by kernel_rfl) (by kernel_rfl) (fun _ _ _ h => h) (by kernel_rfl) (fun w' hw' => ?_) ?_
      rotate_left
      · go_simp; with_reducible rfl
      simp only [Act.put, List.setIfInBounds_toArray, List.set_cons_zero, List.set_cons_succ]
      refine wpR_take (i := 6) (v := ?_) (⟨fun _ => rfl, Eq.trans⟩) (some 53) rfl (by kernel_rfl) (by kernel_rfl) (by kernel_rfl) (by kernel_rfl) (by kernel_rfl) (fun _ _ _ h => h) (by kernel_rfl) (fun w' hw' => ?_) ?_
      rotate_left
      · go_simp; with_reducible rfl
      simp only [Act.put, List.setIfInBounds_toArray, List.set_cons_zero, List.set_cons_succ]
      refine wpR_take (i := 7) (v := ?_) (⟨fun _ => rfl, Eq.trans⟩) (some 54) rfl (by kernel_rfl) (by kernel_rfl) (by kernel_rfl) (by kernel_rfl) (by kernel_rfl) (fun _ _ _ h => h) (by kernel_rfl) (fun w' hw' => ?_) ?_
      rotate_left
      · subst hw'; go_simp; with_reducible rfl
      simp only [Act.put, List.setIfInBounds_toArray, List.set_cons_zero, List.set_cons_succ]
      refine wpR_take (i := 8) (v := ?_) (⟨fun _ => rfl, Eq.trans⟩) (some 55) rfl (by kernel_rfl) (by kernel_rfl) (by kernel_rfl) (by kernel_rfl) (by kernel_rfl) (fun _ _ _ h => h) (by kernel_rfl) (fun w' hw' => ?_) ?_
      rotate_left
      · go_simp; with_reducible rfl
      simp only [Act.put, List.setIfInBounds_toArray, List.set_cons_zero, List.set_cons_succ]
      refine wpR_done (by kernel_rfl) ?_ _
      clear d5 d6
      go_wp2_with fail
      go_roundw
      case rel => first | exact ⟨k + 1, by omega, by go_num, hi5, hi6, x3, h, Lib.hid (Below.drew hqd.out)⟩ | ((repeat apply Exists.intro); refine ⟨⟨k + 1, by omega, ?_, hi5, hi6, x3, h, Lib.hid (Below.drew hqd.out)⟩, rfl⟩; go_num)
      case measure => simp [intOf]; omega
    · obtain rfl : k = N := by omega
      have i1 : decide ((k : Int) < (k : Int)) = false := decide_eq_false (by omega)
      have i1' : ¬ ((k : Int) < (k : Int)) := by omega
      clear hkN hi5 hi6
      have c0 := blk_cell (j := 0) x3.out rfl
      have c1 := blk_cell (j := 1) x3.out rfl
      have c2 := blk_cell (j := 2) x3.out rfl
      have c3 := blk_cell (j := 3) x3.out rfl
      have c4 := blk_cell (j := 4) x3.out rfl
      go_wp2_with fail
      clear c0 c1 c2 c3 c4
      refine (more_any e A m c hm60 A2 n2 c2 bad z _ h).mono ?_
      rintro r w7 ⟨k7, b7, rfl, hv7, hr⟩
      replace x3 := Lib.hid ((hr.block _ (Array.getElem?_eq_some_iff.mp x3.out).1).trans x3.out)
      replace h := Bl.gr hr h
      replace hqd := Lib.hid (hqd.out.trans (Below.mono hr hqd.out.size))
      clear hr
      have c0 := blk_cell (j := 0) x3.out rfl
      have c1 := blk_cell (j := 1) x3.out rfl
      have c2 := blk_cell (j := 2) x3.out rfl
      have c3 := blk_cell (j := 3) x3.out rfl
      have c4 := blk_cell (j := 4) x3.out rfl
      go_wp2_with fail
      clear c0 c1 c2 c3 c4
      refine (rmore_any e A m c hm60 A2 n2 c2 bad z _ h).mono ?_
      rintro r w8 hp
      obtain ⟨k8, b8, rfl, hv8, hr⟩ := hp
      obtain ⟨rfl, rfl⟩ := MoreOf.one hv7.out hv8.out
      clear hv7 hv8
      replace x3 := Lib.hid ((hr.block _ (Array.getElem?_eq_some_iff.mp x3.out).1).trans x3.out)
      replace h := Bl.gr hr h
      replace hqd := Lib.hid (hqd.out.trans (Below.mono hr hqd.out.size))
      clear hr
      go_wp2_with fail
      refine (awake19_any _).mono ?_
      rintro r w9 ⟨rfl, hr⟩
      replace x3 := Lib.hid ((hr.block _ (Array.getElem?_eq_some_iff.mp x3.out).1).trans x3.out)
      replace h := Bl.gr hr h
      replace hqd := Lib.hid (hqd.out.trans (Below.mono hr hqd.out.size))
      clear hr
      go_wp2_with fail
      go_ret
      exact ⟨rfl, hqd.out⟩
end Go.Proofs.Ytpeilgeloaogfaa
