/- The reference of mat: Table, Same. -/
import Derived.Test.YtpeilgeloaogfaaMatInvert
import Derived.Test.YtpeilgeloaogfaaAt
import Derived.Test.YtpeilgeloaogfaaGfRef2
import Derived.LoopTactic
import Derived.Deep.QuietTactic
import Derived.BigQuiet
namespace Go.Proofs.Ytpeilgeloaogfaa
set_option linter.unusedVariables false
set_option linter.unusedSimpArgs false
open Go Go.RowKit
theorem belowN {B : Nat} {w w' : World} (h : Below B w w') (n : Nat) : Below B w (w'.drewN n) := ⟨h.os, h.tape, h.output, h.size, h.block⟩
set_option maxHeartbeats 4000000 in
set_option maxRecDepth 10000 in
theorem rtable_any (A : Option Addr) (n c : Nat) (L : List (List UInt8)) (hc : n ≤ c) (hm : n ≤ 9223372036854775807) (w : World) (h : RT w w.heap.size A n L) :
    Calls Try.prog 34 #[.slice A n c] w fun e w' => e = .returned (.bool (isTab L)) ∧ Below w.heap.size w w' := by
  have hl := h.1
  by_cases h1 : n < 1
  · have hres := Lib.hid (isTab_of hl rfl (by omega))
    have d1 : decide ((n : Int) < 1) = true := decide_eq_true (by omega)
    replace hl := Lib.hid hl
    replace h := Lib.hid h
    go_enter Try.func34, Try.ntmps34
    go_wp2
    go_ret
    exact ⟨by rw [hres.out]; rfl, Below.refl _ _⟩
  · have d1 : decide ((n : Int) < 1) = false := decide_eq_false (by omega)
    by_cases h2 : 32 < n
    · have hres := Lib.hid (isTab_of hl rfl (by omega))
      have d2 : decide ((32 : Int) < (n : Int)) = true := decide_eq_true (by omega)
      replace hl := Lib.hid hl
      replace h := Lib.hid h
      go_enter Try.func34, Try.ntmps34
      go_wp2
      go_ret
      exact ⟨by rw [hres.out]; rfl, Below.refl _ _⟩
    · have d2 : decide ((32 : Int) < (n : Int)) = false := decide_eq_false (by omega)
      obtain ⟨b, o, A', c', l0, rfl, hb, hl0, hcell, hlc, hcm, hrd⟩ := h.at_ (i := 0) (by omega)
      have hw := width_get hl0
      obtain ⟨m, hm0⟩ : ∃ m, l0.length = m := ⟨_, rfl⟩
      rw [hm0] at hw hcell
      rw [Nat.add_zero] at hcell
      have i0 : (0 : Int) < (n : Int) := by omega
      have hrows := Lib.hid h
      replace hl := Lib.hid hl
      replace hw := Lib.hid hw
      replace hm0 := Lib.hid hm0
      replace hl0 := Lib.hid hl0
      replace hcell := Lib.hid hcell
      clear h hrd
      go_enter Try.func34, Try.ntmps34
      go_wp2
      go_loopw [3] (fun i wr => ∃ k : Nat, k ≤ n ∧ i = .int .i64 k ∧ Hid (∀ i l, i < k → L[i]? = some l → 1 ≤ l.length ∧ l.length ≤ 32 ∧ l.length = m) ∧ Hid (Below w.heap.size w wr)) (fun i _ => n - (intOf i).toNat)
      case atStart => exact ⟨0, Nat.zero_le _, rfl, Lib.hid (fun i l hi => absurd hi (by omega)), Lib.hid (Below.refl _ _)⟩
      case round =>
        obtain ⟨k, hk, rfl, hall, hbw⟩ := hrel
        by_cases hlt : k < n
        · obtain ⟨b2, o2, A2, c2, l2, e2, -, hl2, hcell2, -, -, -⟩ := hrows.out.at_ (i := k) hlt
          injection e2 with e2
          injection e2 with e3 e4 _
          subst e3 e4
          obtain ⟨m2, hm2⟩ : ∃ m2, l2.length = m2 := ⟨_, rfl⟩
          rw [hm2] at hcell2
          have c2' := (hbw.out.cell (p := ⟨b, o + k, none⟩) hb).trans hcell2
          have c0' := (hbw.out.cell (p := ⟨b, o, none⟩) hb).trans hcell.out
          have ik : (k : Int) < (n : Int) := by omega
          have hbad : (¬ (1 ≤ m2 ∧ m2 ≤ 32 ∧ m2 = m)) → isTab L = false := fun hh => by
            cases ht : isTab L with
            | false => rfl
            | true =>
              have ht2 := isTab_iff.mp ht
              have h3 := ht2.2.2.2.2 l2 (List.mem_of_getElem? hl2)
              have h4 := hw.out
              exact absurd (by omega) hh
          replace hcell2 := Lib.hid hcell2
          by_cases q1 : m2 < 1
          · have e1 : decide ((m2 : Int) < 1) = true := decide_eq_true (by omega)
            have hres := Lib.hid (hbad (by omega))
            clear hbad
            replace hl2 := Lib.hid hl2
            replace hm2 := Lib.hid hm2
            go_wp2_with fail
            go_quiet (fail)
            go_wp2
            go_ret
            exact ⟨by rw [hres.out]; rfl, belowN hbw.out _⟩
          · have e1 : decide ((m2 : Int) < 1) = false := decide_eq_false (by omega)
            by_cases q2 : 32 < m2
            · have e2 : decide ((32 : Int) < (m2 : Int)) = true := decide_eq_true (by omega)
              have hres := Lib.hid (hbad (by omega))
              clear hbad
              replace hl2 := Lib.hid hl2
              replace hm2 := Lib.hid hm2
              go_wp2_with fail
              go_quiet (fail)
              go_wp2
              go_ret
              exact ⟨by rw [hres.out]; rfl, belowN hbw.out _⟩
            · have e2 : decide ((32 : Int) < (m2 : Int)) = false := decide_eq_false (by omega)
              by_cases hmm : m2 = m
              · have hne : ((m2 : Int) != (m : Int)) = false := by simp; omega
                have hall2 : Hid (∀ i l, i < k + 1 → L[i]? = some l → 1 ≤ l.length ∧ l.length ≤ 32 ∧ l.length = m) := Lib.hid (fun i l hi hgl => by
                  by_cases e : i = k
                  · subst e; rw [hl2] at hgl; injection hgl with hgl; rw [← hgl]; omega
                  · exact hall.out i l (by omega) hgl)
                clear hbad
                replace hl2 := Lib.hid hl2
                replace hm2 := Lib.hid hm2
                replace hmm := Lib.hid hmm
                go_wp2_with fail
                go_quiet (fail)
                go_wp2
                go_roundw
                case rel => exact ⟨k + 1, by omega, by go_num, hall2, Lib.hid (belowN hbw.out _)⟩
                case measure => simp [intOf]; omega
              · have hne : ((m2 : Int) != (m : Int)) = true := by simp; omega
                have hres := Lib.hid (hbad (by omega))
                clear hbad
                replace hl2 := Lib.hid hl2
                replace hm2 := Lib.hid hm2
                replace hmm := Lib.hid hmm
                go_wp2_with fail
                go_quiet (fail)
                go_wp2
                go_ret
                exact ⟨by rw [hres.out]; rfl, belowN hbw.out _⟩
        · have hres : Hid (isTab L = true) := Lib.hid (by
            have h0 := hall.out 0 l0 (by omega) hl0.out
            refine isTab_iff.mpr ⟨by rw [hl.out]; omega, by rw [hl.out]; omega, by rw [hw.out]; omega, by rw [hw.out]; omega, fun r hr => ?_⟩
            obtain ⟨i, hi⟩ := List.mem_iff_getElem?.mp hr
            have hi2 := (List.getElem?_eq_some_iff.mp hi).1
            rw [hl.out] at hi2
            rw [hw.out]
            exact (hall.out i r (by omega) hi).2.2)
          obtain rfl : k = n := by omega
          go_wp2
          go_ret
          exact ⟨by rw [hres.out]; rfl, hbw.out⟩
theorem beq_take_false {L1 L2 : List (List UInt8)} {k : Nat} {l1 l2 : List UInt8} (h1 : L1[k]? = some l1) (h2 : L2[k]? = some l2) (hne : l1 ≠ l2) : (L1 == L2) = false := by
  rw [beq_eq_false_iff_ne]
  intro e
  rw [e, h2] at h1
  injection h1 with h1
  exact hne h1.symm
set_option maxHeartbeats 4000000 in
set_option maxRecDepth 10000 in
theorem rsameT_any (A : Option Addr) (n c : Nat) (L : List (List UInt8)) (hm : n ≤ 9223372036854775807) (A2 : Option Addr) (n2 c2 : Nat) (L2 : List (List UInt8)) (hm2 : n2 ≤ 9223372036854775807) (w : World) (h : RT w w.heap.size A n L) (h2 : RT w w.heap.size A2 n2 L2) :
    Calls Try.prog 32 #[.slice A n c, .slice A2 n2 c2] w fun e w' => e = .returned (.bool (L == L2)) ∧ Below w.heap.size w w' := by
  have hl := h.1
  have hl2 := h2.1
  by_cases hn : n = n2
  · subst hn
    have hne : ((n : Int) != (n : Int)) = false := by simp
    have hr1 := Lib.hid h
    have hr2 := Lib.hid h2
    replace hl := Lib.hid hl
    replace hl2 := Lib.hid hl2
    clear h h2
    go_enter Try.func32, Try.ntmps32
    go_wp2
    go_loopw [5] (fun i wr => ∃ k : Nat, k ≤ n ∧ i = .int .i64 k ∧ Hid (∀ i, i < k → L[i]? = L2[i]?) ∧ Hid (Below w.heap.size w wr)) (fun i _ => n - (intOf i).toNat)
    case atStart => exact ⟨0, Nat.zero_le _, rfl, Lib.hid (fun i hi => absurd hi (by omega)), Lib.hid (Below.refl _ _)⟩
    case round =>
      obtain ⟨k, hk, rfl, hall, hbw⟩ := hrel
      by_cases hlt : k < n
      · obtain ⟨b1, o1, A3, c3, l1, rfl, hb1, hg1, hc1, -, -, hd1⟩ := hr1.out.at_ (i := k) hlt
        obtain ⟨b2, o2, A4, c4, l2, rfl, hb2, hg2, hc2, -, -, hd2⟩ := hr2.out.at_ (i := k) hlt
        have hres2 : l1 ≠ l2 → (L == L2) = false := fun hh => beq_take_false hg1 hg2 hh
        have hall2 : l1 = l2 → ∀ i, i < k + 1 → L[i]? = L2[i]? := fun hh i hi => by
          by_cases e : i = k
          · subst e; rw [hg1, hg2, hh]
          · exact hall.out i (by omega)
        have hcb1 := (hbw.out.cell (p := ⟨b1, o1 + k, none⟩) hb1).trans hc1
        have hcb2 := (hbw.out.cell (p := ⟨b2, o2 + k, none⟩) hb2).trans hc2
        obtain ⟨n1, hn1⟩ : ∃ n1, l1.length = n1 := ⟨_, rfl⟩
        obtain ⟨n3, hn3⟩ : ∃ n1, l2.length = n1 := ⟨_, rfl⟩
        rw [hn1] at hcb1
        rw [hn3] at hcb2
        have ik : (k : Int) < (n : Int) := by omega
        replace hc1 := Lib.hid hc1
        replace hc2 := Lib.hid hc2
        replace hg1 := Lib.hid hg1
        replace hg2 := Lib.hid hg2
        replace hd1 := Lib.hid hd1
        replace hd2 := Lib.hid hd2
        replace hn1 := Lib.hid hn1
        replace hn3 := Lib.hid hn3
        by_cases hll : l1 = l2
        · have hal := Lib.hid (hall2 hll)
          have hbb : (l1 == l2) = true := beq_iff_eq.mpr hll
          replace hll := Lib.hid hll
          clear hres2 hall2
          go_wp2_with fail
          obtain ⟨wd, hwd⟩ : ∃ wd, wd = wr.drew := ⟨_, rfl⟩
          have hbd : Hid (Below w.heap.size w wd) := Lib.hid (by rw [hwd]; exact hbw.out.drew)
          have hdd1 : Hid (Rd wd wd.heap.size A3 l1) := Lib.hid ((hd1.out.keep (fun p hp => hbd.out.cell hp)).more hbd.out.size)
          have hdd2 : Hid (Rd wd wd.heap.size A4 l2) := Lib.hid ((hd2.out.keep (fun p hp => hbd.out.cell hp)).more hbd.out.size)
          have hcd1 : wd.cell? ⟨b1, o1 + k, none⟩ = some (.slice A3 n1 c3) := by rw [hwd]; exact hcb1
          have hcd2 : wd.cell? ⟨b2, o2 + k, none⟩ = some (.slice A4 n3 c4) := by rw [hwd]; exact hcb2
          have hlt1 := Nat.lt_of_lt_of_le hb1 hbd.out.size
          have hlt2 := Nat.lt_of_lt_of_le hb2 hbd.out.size
          refine wpR_region (Upd (fun _ => False)) 9999 (by kernel_rfl) ?_
          (rw [← hwd]; replace hwd := Lib.hid hwd)
          refine wpR_take (i := 0) (v := ?_) (Upd.road _) (some 17) rfl (by kernel_rfl) (by kernel_rfl) (by kernel_rfl) (by kernel_rfl) (by kernel_rfl) (fun _ _ _ h => h) (by kernel_rfl) (fun w' hw' => ?_) ?_
          rotate_left
          · go_simp; with_reducible rfl
          simp only [Act.put, List.setIfInBounds_toArray, List.set_cons_zero, List.set_cons_succ]
          refine wpR_take (i := 1) (v := ?_) (Upd.road _) (some 18) rfl (by kernel_rfl) (by kernel_rfl) (by kernel_rfl) (by kernel_rfl) (by kernel_rfl) (fun _ _ _ h => h) (by kernel_rfl) (fun w' hw' => ?_) ?_
          rotate_left
          · go_simp; with_reducible rfl
          simp only [Act.put, List.setIfInBounds_toArray, List.set_cons_zero, List.set_cons_succ]
          refine wpR_take (i := 2) (v := ?_) (Upd.road _) (some 19) rfl (by kernel_rfl) (by kernel_rfl) (by kernel_rfl) (by kernel_rfl) (by kernel_rfl) (fun _ _ _ h => h) (by kernel_rfl) (fun w' hw' => ?_) ?_
          rotate_left
          · go_simp; with_reducible rfl
          simp only [Act.put, List.setIfInBounds_toArray, List.set_cons_zero, List.set_cons_succ]
          refine wpR_take (i := 3) (v := ?_) (Upd.road _) (some 20) rfl (by kernel_rfl) (by kernel_rfl) (by kernel_rfl) (by kernel_rfl) (by kernel_rfl) (fun _ _ _ h => h) (by kernel_rfl) (fun w' hw' => ?_) ?_
          rotate_left
          · have q := (hw'.cell (p := ⟨b1, o1 + k, none⟩) hlt1 (fun h => h)).trans hcd1; go_simp; with_reducible rfl
          simp only [Act.put, List.setIfInBounds_toArray, List.set_cons_zero, List.set_cons_succ]
          refine wpR_take (i := 4) (v := ?_) (Upd.road _) (some 21) rfl (by kernel_rfl) (by kernel_rfl) (by kernel_rfl) (by kernel_rfl) (by kernel_rfl) (fun _ _ _ h => h) (by kernel_rfl) (fun w' hw' => ?_) ?_
          rotate_left
          · have cv := run_str_at c3 (hdd1.out.upd (fun _ _ _ h => h) hw') hn1.out; go_simp; with_reducible rfl
          simp only [Act.put, List.setIfInBounds_toArray, List.set_cons_zero, List.set_cons_succ]
          refine wpR_take (i := 5) (v := ?_) (Upd.road _) (some 22) rfl (by kernel_rfl) (by kernel_rfl) (by kernel_rfl) (by kernel_rfl) (by kernel_rfl) (fun _ _ _ h => h) (by kernel_rfl) (fun w' hw' => ?_) ?_
          rotate_left
          · go_simp; with_reducible rfl
          simp only [Act.put, List.setIfInBounds_toArray, List.set_cons_zero, List.set_cons_succ]
          refine wpR_take (i := 6) (v := ?_) (Upd.road _) (some 23) rfl (by kernel_rfl) (by kernel_rfl) (by kernel_rfl) (by kernel_rfl) (by kernel_rfl) (fun _ _ _ h => h) (by kernel_rfl) (fun w' hw' => ?_) ?_
          rotate_left
          · go_simp; with_reducible rfl
          simp only [Act.put, List.setIfInBounds_toArray, List.set_cons_zero, List.set_cons_succ]
          refine wpR_take (i := 7) (v := ?_) (Upd.road _) (some 24) rfl (by kernel_rfl) (by kernel_rfl) (by kernel_rfl) (by kernel_rfl) (by kernel_rfl) (fun _ _ _ h => h) (by kernel_rfl) (fun w' hw' => ?_) ?_
          rotate_left
          · go_simp; with_reducible rfl
          simp only [Act.put, List.setIfInBounds_toArray, List.set_cons_zero, List.set_cons_succ]
          refine wpR_take (i := 8) (v := ?_) (Upd.road _) (some 25) rfl (by kernel_rfl) (by kernel_rfl) (by kernel_rfl) (by kernel_rfl) (by kernel_rfl) (fun _ _ _ h => h) (by kernel_rfl) (fun w' hw' => ?_) ?_
          rotate_left
          · have q := (hw'.cell (p := ⟨b2, o2 + k, none⟩) hlt2 (fun h => h)).trans hcd2; go_simp; with_reducible rfl
          simp only [Act.put, List.setIfInBounds_toArray, List.set_cons_zero, List.set_cons_succ]
          refine wpR_take (i := 9) (v := ?_) (Upd.road _) (some 26) rfl (by kernel_rfl) (by kernel_rfl) (by kernel_rfl) (by kernel_rfl) (by kernel_rfl) (fun _ _ _ h => h) (by kernel_rfl) (fun w' hw' => ?_) ?_
          rotate_left
          · have cv := run_str_at c4 (hdd2.out.upd (fun _ _ _ h => h) hw') hn3.out; go_simp; with_reducible rfl
          simp only [Act.put, List.setIfInBounds_toArray, List.set_cons_zero, List.set_cons_succ]
          refine wpR_take (i := 10) (v := ?_) (Upd.road _) (some 27) rfl (by kernel_rfl) (by kernel_rfl) (by kernel_rfl) (by kernel_rfl) (by kernel_rfl) (fun _ _ _ h => h) (by kernel_rfl) (fun w' hw' => ?_) ?_
          rotate_left
          · go_simp; with_reducible rfl
          simp only [Act.put, List.setIfInBounds_toArray, List.set_cons_zero, List.set_cons_succ]
          refine wpR_done (by kernel_rfl) ?_ _
          go_wp2
          go_roundw
          case rel => exact ⟨k + 1, by omega, by go_num, hal, hbd⟩
          case measure => simp [intOf]; omega
        · have hres := Lib.hid (hres2 hll)
          have hbb : (l1 == l2) = false := beq_eq_false_iff_ne.mpr hll
          replace hll := Lib.hid hll
          clear hres2 hall2
          go_wp2_with fail
          obtain ⟨wd, hwd⟩ : ∃ wd, wd = wr.drew := ⟨_, rfl⟩
          have hbd : Hid (Below w.heap.size w wd) := Lib.hid (by rw [hwd]; exact hbw.out.drew)
          have hdd1 : Hid (Rd wd wd.heap.size A3 l1) := Lib.hid ((hd1.out.keep (fun p hp => hbd.out.cell hp)).more hbd.out.size)
          have hdd2 : Hid (Rd wd wd.heap.size A4 l2) := Lib.hid ((hd2.out.keep (fun p hp => hbd.out.cell hp)).more hbd.out.size)
          have hcd1 : wd.cell? ⟨b1, o1 + k, none⟩ = some (.slice A3 n1 c3) := by rw [hwd]; exact hcb1
          have hcd2 : wd.cell? ⟨b2, o2 + k, none⟩ = some (.slice A4 n3 c4) := by rw [hwd]; exact hcb2
          have hlt1 := Nat.lt_of_lt_of_le hb1 hbd.out.size
          have hlt2 := Nat.lt_of_lt_of_le hb2 hbd.out.size
          refine wpR_region (Upd (fun _ => False)) 9999 (by kernel_rfl) ?_
          (rw [← hwd]; replace hwd := Lib.hid hwd)
          refine wpR_take (i := 0) (v := ?_) (Upd.road _) (some 17) rfl (by kernel_rfl) (by kernel_rfl) (by kernel_rfl) (by kernel_rfl) (by kernel_rfl) (fun _ _ _ h => h) (by kernel_rfl) (fun w' hw' => ?_) ?_
          rotate_left
          · go_simp; with_reducible rfl
          simp only [Act.put, List.setIfInBounds_toArray, List.set_cons_zero, List.set_cons_succ]
          refine wpR_take (i := 1) (v := ?_) (Upd.road _) (some 18) rfl (by kernel_rfl) (by kernel_rfl) (by kernel_rfl) (by kernel_rfl) (by kernel_rfl) (fun _ _ _ h => h) (by kernel_rfl) (fun w' hw' => ?_) ?_
          rotate_left
          · go_simp; with_reducible rfl
          simp only [Act.put, List.setIfInBounds_toArray, List.set_cons_zero, List.set_cons_succ]
          refine wpR_take (i := 2) (v := ?_) (Upd.road _) (some 19) rfl (by kernel_rfl) (by kernel_rfl) (by kernel_rfl) (by kernel_rfl) (by kernel_rfl) (fun _ _ _ h => h) (by kernel_rfl) (fun w' hw' => ?_) ?_
          rotate_left
          · go_simp; with_reducible rfl
          simp only [Act.put, List.setIfInBounds_toArray, List.set_cons_zero, List.set_cons_succ]
          refine wpR_take (i := 3) (v := ?_) (Upd.road _) (some 20) rfl (by kernel_rfl) (by kernel_rfl) (by kernel_rfl) (by kernel_rfl) (by kernel_rfl) (fun _ _ _ h => h) (by kernel_rfl) (fun w' hw' => ?_) ?_
          rotate_left
          · have q := (hw'.cell (p := ⟨b1, o1 + k, none⟩) hlt1 (fun h => h)).trans hcd1; go_simp; with_reducible rfl
          simp only [Act.put, List.setIfInBounds_toArray, List.set_cons_zero, List.set_cons_succ]
          refine wpR_take (i := 4) (v := ?_) (Upd.road _) (some 21) rfl (by kernel_rfl) (by kernel_rfl) (by kernel_rfl) (by kernel_rfl) (by kernel_rfl) (fun _ _ _ h => h) (by kernel_rfl) (fun w' hw' => ?_) ?_
          rotate_left
          · have cv := run_str_at c3 (hdd1.out.upd (fun _ _ _ h => h) hw') hn1.out; go_simp; with_reducible rfl
          simp only [Act.put, List.setIfInBounds_toArray, List.set_cons_zero, List.set_cons_succ]
          refine wpR_take (i := 5) (v := ?_) (Upd.road _) (some 22) rfl (by kernel_rfl) (by kernel_rfl) (by kernel_rfl) (by kernel_rfl) (by kernel_rfl) (fun _ _ _ h => h) (by kernel_rfl) (fun w' hw' => ?_) ?_
          rotate_left
          · go_simp; with_reducible rfl
          simp only [Act.put, List.setIfInBounds_toArray, List.set_cons_zero, List.set_cons_succ]
          refine wpR_take (i := 6) (v := ?_) (Upd.road _) (some 23) rfl (by kernel_rfl) (by kernel_rfl) (by kernel_rfl) (by kernel_rfl) (by kernel_rfl) (fun _ _ _ h => h) (by kernel_rfl) (fun w' hw' => ?_) ?_
          rotate_left
          · go_simp; with_reducible rfl
          simp only [Act.put, List.setIfInBounds_toArray, List.set_cons_zero, List.set_cons_succ]
          refine wpR_take (i := 7) (v := ?_) (Upd.road _) (some 24) rfl (by kernel_rfl) (by kernel_rfl) (by kernel_rfl) (by kernel_rfl) (by kernel_rfl) (fun _ _ _ h => h) (by kernel_rfl) (fun w' hw' => ?_) ?_
          rotate_left
          · go_simp; with_reducible rfl
          simp only [Act.put, List.setIfInBounds_toArray, List.set_cons_zero, List.set_cons_succ]
          refine wpR_take (i := 8) (v := ?_) (Upd.road _) (some 25) rfl (by kernel_rfl) (by kernel_rfl) (by kernel_rfl) (by kernel_rfl) (by kernel_rfl) (fun _ _ _ h => h) (by kernel_rfl) (fun w' hw' => ?_) ?_
          rotate_left
          · have q := (hw'.cell (p := ⟨b2, o2 + k, none⟩) hlt2 (fun h => h)).trans hcd2; go_simp; with_reducible rfl
          simp only [Act.put, List.setIfInBounds_toArray, List.set_cons_zero, List.set_cons_succ]
          refine wpR_take (i := 9) (v := ?_) (Upd.road _) (some 26) rfl (by kernel_rfl) (by kernel_rfl) (by kernel_rfl) (by kernel_rfl) (by kernel_rfl) (fun _ _ _ h => h) (by kernel_rfl) (fun w' hw' => ?_) ?_
          rotate_left
          · have cv := run_str_at c4 (hdd2.out.upd (fun _ _ _ h => h) hw') hn3.out; go_simp; with_reducible rfl
          simp only [Act.put, List.setIfInBounds_toArray, List.set_cons_zero, List.set_cons_succ]
          refine wpR_take (i := 10) (v := ?_) (Upd.road _) (some 27) rfl (by kernel_rfl) (by kernel_rfl) (by kernel_rfl) (by kernel_rfl) (by kernel_rfl) (fun _ _ _ h => h) (by kernel_rfl) (fun w' hw' => ?_) ?_
          rotate_left
          · go_simp; with_reducible rfl
          simp only [Act.put, List.setIfInBounds_toArray, List.set_cons_zero, List.set_cons_succ]
          refine wpR_done (by kernel_rfl) ?_ _
          go_wp2
          go_ret
          exact ⟨by rw [hres.out]; rfl, hbd.out⟩
      · have hres : Hid ((L == L2) = true) := Lib.hid (by
          rw [beq_iff_eq]
          refine List.ext_getElem? fun i => ?_
          by_cases hi : i < n
          · exact hall.out i (by omega)
          · rw [List.getElem?_eq_none (by rw [hl.out]; omega), List.getElem?_eq_none (by rw [hl2.out]; omega)])
        obtain rfl : k = n := by omega
        go_wp2
        go_ret
        exact ⟨by rw [hres.out]; rfl, hbw.out⟩
  · have hres : Hid ((L == L2) = false) := Lib.hid (by rw [beq_eq_false_iff_ne]; intro e; rw [e] at hl; omega)
    have hne : ((n : Int) != (n2 : Int)) = true := by simp; omega
    replace hl := Lib.hid hl
    replace hl2 := Lib.hid hl2
    replace hn := Lib.hid hn
    replace h := Lib.hid h
    replace h2 := Lib.hid h2
    go_enter Try.func32, Try.ntmps32
    go_wp2
    go_ret
    exact ⟨by rw [hres.out]; rfl, Below.refl _ _⟩
end Go.Proofs.Ytpeilgeloaogfaa
