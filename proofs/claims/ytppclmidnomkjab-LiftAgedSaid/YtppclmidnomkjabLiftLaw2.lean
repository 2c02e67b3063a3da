/- The laws of lift: LiftAged. -/
import Derived.Test.YtppclmidnomkjabLiftLaw
import Derived.Test.YtppclmidnomkjabRegRd
namespace Go.Proofs.Ytppclmidnomkjab
set_option linter.unusedVariables false
set_option linter.unusedSimpArgs false
open Go Go.RowKit

def oldI (F : Nat → Nat → Int) (k : Nat) : Int := if k = 0 then -1 else oldTo F k
theorem overD_aged (l a : Nat) (x : Int) : overD x (x + a + l) a = true := by unfold overD; simp; omega
set_option maxHeartbeats 4000000 in
set_option maxRecDepth 10000 in
theorem liftAged_any (A : Option Addr) (n c : Nat) (hc : n ≤ c) (hm : c ≤ maxLen) (F : Nat → Nat → Int) (A2 : Option Addr) (m c2 : Nat) (hc2 : m ≤ c2) (hm2 : c2 ≤ maxLen) (G : Nat → Nat → Int) (late age : Nat) (hlate : late ≤ 65535) (hage : age ≤ 65535) (w : World) (hr : Tab w w.heap.size 6 A n F) (hg : Tab w w.heap.size 2 A2 m G) :
    Calls Try.prog 9 #[.slice A n c, .slice A2 m c2, .int .u16 late, .int .u16 age] w fun e w' => e = .returned (.bool true) ∧ Below w.heap.size w w' := by
  replace hr := Lib.hid (hr.take (m := min n 60) (Nat.min_le_left _ _))
  replace hg := Lib.hid (hg.take (m := min m 20) (Nat.min_le_left _ _))
  have hn6 : min n 60 ≤ 60 := Nat.min_le_right _ _
  have hm6 : min m 20 ≤ 20 := Nat.min_le_right _ _
  have hf := Lib.hid (fun W => few_any A n c hc hm W)
  have hs := Lib.hid (fun W => some_any A2 m c2 hc2 hm2 W)
  clear hc hm hc2 hm2
  generalize min n 60 = N at *
  generalize min m 20 = M at *
  go_enter Try.func9, Try.ntmps9
  go_wp2_with fail
  refine (hf.out _).mono ?_
  rintro e w1 ⟨rfl, rfl⟩
  go_wp2_with fail
  go_loopw [10, 11] (fun old i wr => ∃ k : Nat, k ≤ N ∧ i = .int .i64 k ∧ old = .int .i64 (oldI F k) ∧ Hid (∀ j, j < k → 0 ≤ F j 5 ∧ F j 5 ≤ 1099511627776) ∧ Hid (Below w.heap.size w wr)) (fun _ i _ => N - (intOf i).toNat)
  case atStart => exact ⟨0, Nat.zero_le _, rfl, rfl, Lib.hid (fun j h => absurd h (by omega)), Lib.hid (Below.refl _ _)⟩
  case round =>
    obtain ⟨k, hk, rfl, rfl, hall, hbw⟩ := hrel
    by_cases hlt : k < N
    · obtain ⟨b, o, rfl, hb, hc⟩ := hr.out.1 (by omega)
      have hcw := Lib.hid (hc.below hb hbw.out)
      have h5 := hcw.out.one (i := k) (j := 5) hlt (by omega)
      replace hc := Lib.hid hc
      by_cases hneg : F k 5 < 0
      · have hd : decide (F k 5 < 0) = true := decide_eq_true hneg
        go_wp2_with fail
        refine (awake16_any _).mono ?_
        rintro e w3 ⟨rfl, hb2⟩
        go_wp2
        go_ret
        exact ⟨rfl, hbw.out.trans (hb2.mono hbw.out.size)⟩
      · have hd : decide (F k 5 < 0) = false := decide_eq_false hneg
        by_cases hbig : 1099511627776 < F k 5
        · have hd2 : decide (1099511627776 < F k 5) = true := decide_eq_true hbig
          go_wp2_with fail
          refine (awake16_any _).mono ?_
          rintro e w3 ⟨rfl, hb2⟩
          go_wp2
          go_ret
          exact ⟨rfl, hbw.out.trans (hb2.mono hbw.out.size)⟩
        · have hd2 : decide (1099511627776 < F k 5) = false := decide_eq_false hbig
          have hall2 : Hid (∀ j, j < k + 1 → 0 ≤ F j 5 ∧ F j 5 ≤ 1099511627776) := Lib.hid (fun j hj => by
            by_cases e : j = k
            · subst e; omega
            · exact hall.out j (by omega))
          by_cases hk0 : k = 0
          · subst hk0
            rw [show oldI F 0 = (-1 : Int) from rfl]
            have hfin : Hid (oldI F 1 = 0) := Lib.hid (by unfold oldI; rw [if_neg (by omega), oldTo_one]; rfl)
            go_wp2_with fail
            go_quiet (fail)
            go_wp2
            go_roundw
            case rel => exact ⟨1, by omega, by rfl, by rw [hfin.out], hall2, Lib.hid (below_drewN hbw.out _)⟩
            case measure => simp [intOf]; omega
          · have ho : oldI F k = (oldTo F k : Nat) := if_neg hk0
            rw [ho]
            have hol := oldTo_lt F (k := k) (by omega)
            have g5 := hcw.out.one (i := oldTo F k) (j := 5) (by omega) (by omega)
            have hfin : Hid (oldI F (k + 1) = if F k 5 < F (oldTo F k) 5 then (k : Int) else (oldTo F k : Nat)) := Lib.hid (by
              unfold oldI
              rw [if_neg (by omega), oldTo_succ]
              split <;> rfl)
            clear ho
            generalize oldTo F k = q at *
            have hq0 : decide ((q : Int) < 0) = false := decide_eq_false (by omega)
            have hqN : q < N := by omega
            go_wp2_with fail
            go_quiet (fail)
            go_wp2
            all_goals
              go_roundw
              case rel => exact ⟨k + 1, by omega, by go_num, by rw [hfin.out]; first | rw [if_pos ‹_›] | rw [if_neg (by omega)], hall2, Lib.hid (below_drewN hbw.out _)⟩
              case measure => simp [intOf]; omega
    · obtain rfl : k = N := by omega
      by_cases hk0 : k = 0
      · subst hk0
        rw [show oldI F 0 = (-1 : Int) from rfl]
        go_wp2_with fail
        refine (awake16_any _).mono ?_
        rintro e w3 ⟨rfl, hb2⟩
        go_wp2
        go_ret
        exact ⟨rfl, hbw.out.trans (hb2.mono hbw.out.size)⟩
      · have ho : oldI F k = (oldTo F k : Nat) := if_neg hk0
        rw [ho]
        have hqN := oldTo_lt F (k := k) (by omega)
        have hx := hall.out (oldTo F k) hqN
        have hnx : Hid (nextOf F k G M (F (oldTo F k) 5 + (age : Int) + (late : Int)) (age : Int) = (oldTo F k, true)) := Lib.hid (by
          unfold nextOf
          rw [if_neg hk0, if_pos (overD_aged _ _ _)])
          
        have hny : Hid (nextOf F k (fun _ _ => 0) 0 (F (oldTo F k) 5) (age : Int) = (oldTo F k, true)) := Lib.hid (by
          unfold nextOf
          rw [if_neg hk0]
          by_cases h : overD (F (oldTo F k) 5) (F (oldTo F k) 5) age = true
          · rw [if_pos h]
          · rw [if_neg h]; rfl)
        clear ho
        obtain ⟨b, o, rfl, hb, hc⟩ := hr.out.1 (by omega)
        have hcw := Lib.hid (hc.below hb hbw.out)
        replace hc := Lib.hid hc
        have hbs : b < wr.heap.size := by have := hbw.out.size; omega
        have hb1 := Lib.hid hbw.out.drew
        replace hr : Hid (Tab wr.drew wr.drew.heap.size 6 (some ⟨b, o, none⟩) k F) := Lib.hid ((hr.out.below hbw.out).more hbw.out.size)
        replace hg : Hid (Tab wr.drew wr.drew.heap.size 2 A2 M G) := Lib.hid ((hg.out.below hbw.out).more hbw.out.size)
        generalize oldTo F k = q at *
        have hq0 : decide ((q : Int) < 0) = false := decide_eq_false (by omega)
        have hw1 : IntKind.i64.wrap (age : Int) = age := by rw [IntKind.wrap_i64]; omega
        have hw2 : IntKind.i64.wrap (late : Int) = late := by rw [IntKind.wrap_i64]; omega
        have hw3 : IntKind.i64.wrap (F q 5 + (age : Int)) = F q 5 + age := by rw [IntKind.wrap_i64]; omega
        have hw4 : IntKind.i64.wrap (F q 5 + (age : Int) + (late : Int)) = F q 5 + age + late := by rw [IntKind.wrap_i64]; omega
        go_upto_region 12 with (fail)
        refine wpR_region (Upd (fun _ => False)) (by kernel_rfl) ?_
        refine wpR_take (i := 0) (v := ?_) (Upd.road _) rfl (by kernel_rfl) (by kernel_rfl) (by kernel_rfl) (fun _ _ _ h => h) (by kernel_rfl) (fun w' hw' => ?_) ?_
        rotate_left
        · go_simp; with_reducible rfl
        simp only [Act.put, List.setIfInBounds_toArray, List.set_cons_zero, List.set_cons_succ]
        refine wpR_take (i := 1) (v := ?_) (Upd.road _) rfl (by kernel_rfl) (by kernel_rfl) (by kernel_rfl) (fun _ _ _ h => h) (by kernel_rfl) (fun w' hw' => ?_) ?_
        rotate_left
        · go_simp; with_reducible rfl
        simp only [Act.put, List.setIfInBounds_toArray, List.set_cons_zero, List.set_cons_succ]
        refine wpR_call (i := 2) (v := .slice A2 M c2) (Upd.road _) rfl (by kernel_rfl) (by kernel_rfl) (by kernel_rfl) (fun _ _ _ h => h) (by kernel_rfl) (fun w' hw' => ?_) ?_
        · refine ⟨26, #[.slice A2 m c2], ?_, ?_⟩
          · go_simp
          · exact (hs.out _).mono fun _ _ ⟨h1, h2⟩ => ⟨h1, h2.symm⟩
        simp only [Act.put, List.setIfInBounds_toArray, List.set_cons_zero, List.set_cons_succ]
        refine wpR_take (i := 3) (v := ?_) (Upd.road _) rfl (by kernel_rfl) (by kernel_rfl) (by kernel_rfl) (fun _ _ _ h => h) (by kernel_rfl) (fun w' hw' => ?_) ?_
        rotate_left
        · go_simp; with_reducible rfl
        simp only [Act.put, List.setIfInBounds_toArray, List.set_cons_zero, List.set_cons_succ]
        refine wpR_take (i := 4) (v := ?_) (Upd.road _) rfl (by kernel_rfl) (by kernel_rfl) (by kernel_rfl) (fun _ _ _ h => h) (by kernel_rfl) (fun w' hw' => ?_) ?_
        rotate_left
        · go_simp; with_reducible rfl
        simp only [Act.put, List.setIfInBounds_toArray, List.set_cons_zero, List.set_cons_succ]
        refine wpR_take (i := 5) (v := ?_) (Upd.road _) rfl (by kernel_rfl) (by kernel_rfl) (by kernel_rfl) (fun _ _ _ h => h) (by kernel_rfl) (fun w' hw' => ?_) ?_
        rotate_left
        · go_simp; with_reducible rfl
        simp only [Act.put, List.setIfInBounds_toArray, List.set_cons_zero, List.set_cons_succ]
        refine wpR_take (i := 6) (v := ?_) (Upd.road _) rfl (by kernel_rfl) (by kernel_rfl) (by kernel_rfl) (fun _ _ _ h => h) (by kernel_rfl) (fun w' hw' => ?_) ?_
        rotate_left
        · go_simp; with_reducible rfl
        simp only [Act.put, List.setIfInBounds_toArray, List.set_cons_zero, List.set_cons_succ]
        refine wpR_take (i := 7) (v := ?_) (Upd.road _) rfl (by kernel_rfl) (by kernel_rfl) (by kernel_rfl) (fun _ _ _ h => h) (by kernel_rfl) (fun w' hw' => ?_) ?_
        rotate_left
        · have g5 := (hcw.out.keep (w' := w') (fun p hp => hw'.cell (by rw [hp]; exact hbs) (fun h => h))).one (i := q) (j := 5) hqN (by omega); go_simp; with_reducible rfl
        simp only [Act.put, List.setIfInBounds_toArray, List.set_cons_zero, List.set_cons_succ]
        refine wpR_take (i := 8) (v := ?_) (Upd.road _) rfl (by kernel_rfl) (by kernel_rfl) (by kernel_rfl) (fun _ _ _ h => h) (by kernel_rfl) (fun w' hw' => ?_) ?_
        rotate_left
        · go_simp; with_reducible rfl
        simp only [Act.put, List.setIfInBounds_toArray, List.set_cons_zero, List.set_cons_succ]
        refine wpR_take (i := 9) (v := ?_) (Upd.road _) rfl (by kernel_rfl) (by kernel_rfl) (by kernel_rfl) (fun _ _ _ h => h) (by kernel_rfl) (fun w' hw' => ?_) ?_
        rotate_left
        · go_simp; with_reducible rfl
        simp only [Act.put, List.setIfInBounds_toArray, List.set_cons_zero, List.set_cons_succ]
        refine wpR_take (i := 10) (v := ?_) (Upd.road _) rfl (by kernel_rfl) (by kernel_rfl) (by kernel_rfl) (fun _ _ _ h => h) (by kernel_rfl) (fun w' hw' => ?_) ?_
        rotate_left
        · go_simp; with_reducible rfl
        simp only [Act.put, List.setIfInBounds_toArray, List.set_cons_zero, List.set_cons_succ]
        refine wpR_take (i := 11) (v := ?_) (Upd.road _) rfl (by kernel_rfl) (by kernel_rfl) (by kernel_rfl) (fun _ _ _ h => h) (by kernel_rfl) (fun w' hw' => ?_) ?_
        rotate_left
        · go_simp; with_reducible rfl
        simp only [Act.put, List.setIfInBounds_toArray, List.set_cons_zero, List.set_cons_succ]
        refine wpR_take (i := 12) (v := ?_) (Upd.road _) rfl (by kernel_rfl) (by kernel_rfl) (by kernel_rfl) (fun _ _ _ h => h) (by kernel_rfl) (fun w' hw' => ?_) ?_
        rotate_left
        · go_simp; with_reducible rfl
        simp only [Act.put, List.setIfInBounds_toArray, List.set_cons_zero, List.set_cons_succ]
        refine wpR_take (i := 13) (v := ?_) (Upd.road _) rfl (by kernel_rfl) (by kernel_rfl) (by kernel_rfl) (fun _ _ _ h => h) (by kernel_rfl) (fun w' hw' => ?_) ?_
        rotate_left
        · go_simp; with_reducible rfl
        simp only [Act.put, List.setIfInBounds_toArray, List.set_cons_zero, List.set_cons_succ]
        refine wpR_take (i := 14) (v := ?_) (Upd.road _) rfl (by kernel_rfl) (by kernel_rfl) (by kernel_rfl) (fun _ _ _ h => h) (by kernel_rfl) (fun w' hw' => ?_) ?_
        rotate_left
        · go_simp; with_reducible rfl
        simp only [Act.put, List.setIfInBounds_toArray, List.set_cons_zero, List.set_cons_succ]
        refine wpR_take (i := 15) (v := ?_) (Upd.road _) rfl (by kernel_rfl) (by kernel_rfl) (by kernel_rfl) (fun _ _ _ h => h) (by kernel_rfl) (fun w' hw' => ?_) ?_
        rotate_left
        · go_simp; with_reducible rfl
        simp only [Act.put, List.setIfInBounds_toArray, List.set_cons_zero, List.set_cons_succ]
        refine wpR_one 16 rfl (by kernel_rfl) (by kernel_rfl) (fun K hK => ?_)
        go_simp
        refine (next_any _ k c F (by omega) A2 M c2 G (by omega) (F q 5 + (age : Int) + (late : Int)) (age : Int) (by unfold I64; omega) (by unfold I64; omega) _ hr.out hg.out).mono ?_
        rw [hnx.out]
        rintro e wb ⟨rfl, hbb⟩
        refine hK _ _ (Upd.of_below hbb) ?_
        clear hK K
        replace hr := Lib.hid (hr.out.up hbb)
        replace hg := Lib.hid (hg.out.up hbb)
        replace hb1 := Lib.hid (hb1.out.trans (hbb.mono hb1.out.size))
        clear hbb
        try simp only [Act.put, List.setIfInBounds_toArray, List.set_cons_zero, List.set_cons_succ]
        refine wpR_take (i := 17) (v := ?_) (Upd.road _) rfl (by kernel_rfl) (by kernel_rfl) (by kernel_rfl) (fun _ _ _ h => h) (by kernel_rfl) (fun w' hw' => ?_) ?_
        rotate_left
        · go_simp; with_reducible rfl
        simp only [Act.put, List.setIfInBounds_toArray, List.set_cons_zero, List.set_cons_succ]
        refine wpR_take (i := 18) (v := ?_) (Upd.road _) rfl (by kernel_rfl) (by kernel_rfl) (by kernel_rfl) (fun _ _ _ h => h) (by kernel_rfl) (fun w' hw' => ?_) ?_
        rotate_left
        · go_simp; with_reducible rfl
        simp only [Act.put, List.setIfInBounds_toArray, List.set_cons_zero, List.set_cons_succ]
        refine wpR_take (i := 19) (v := ?_) (Upd.road _) rfl (by kernel_rfl) (by kernel_rfl) (by kernel_rfl) (fun _ _ _ h => h) (by kernel_rfl) (fun w' hw' => ?_) ?_
        rotate_left
        · go_simp; with_reducible rfl
        simp only [Act.put, List.setIfInBounds_toArray, List.set_cons_zero, List.set_cons_succ]
        refine wpR_take (i := 20) (v := ?_) (Upd.road _) rfl (by kernel_rfl) (by kernel_rfl) (by kernel_rfl) (fun _ _ _ h => h) (by kernel_rfl) (fun w' hw' => ?_) ?_
        rotate_left
        · go_simp; with_reducible rfl
        simp only [Act.put, List.setIfInBounds_toArray, List.set_cons_zero, List.set_cons_succ]
        refine wpR_take (i := 21) (v := ?_) (Upd.road _) rfl (by kernel_rfl) (by kernel_rfl) (by kernel_rfl) (fun _ _ _ h => h) (by kernel_rfl) (fun w' hw' => ?_) ?_
        rotate_left
        · go_simp; with_reducible rfl
        simp only [Act.put, List.setIfInBounds_toArray, List.set_cons_zero, List.set_cons_succ]
        refine wpR_done (by kernel_rfl) ?_ _
        have g5 := (hc.out.below hb hb1.out).one (i := q) (j := 5) hqN (by omega)
        go_wp2_with fail
        refine (next_any _ k c F (by omega) none 0 0 (fun _ _ => 0) (by omega) (F q 5) (age : Int) (by unfold I64; omega) (by unfold I64; omega) _ hr.out (Tab.nil _ _ _ _ _)).mono ?_
        rw [hny.out]
        rintro e wd ⟨rfl, hbb⟩
        replace hb1 := Lib.hid (hb1.out.trans (hbb.mono hb1.out.size))
        clear hbb g5
        go_wp2_with fail
        refine (awake16_any _).mono ?_
        rintro e w3 ⟨rfl, hb2⟩
        go_wp2
        go_ret
        exact ⟨rfl, hb1.out.trans (hb2.mono hb1.out.size)⟩
end Go.Proofs.Ytppclmidnomkjab
