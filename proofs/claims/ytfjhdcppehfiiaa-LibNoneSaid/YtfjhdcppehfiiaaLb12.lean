/- lib: LibNone. -/
import Derived.Test.YtfjhdcppehfiiaaLb11
namespace Go.Proofs.Ytfjhdcppehfiiaa
set_option linter.unusedVariables false
set_option linter.unusedSimpArgs false
open Go Go.RowKit
set_option maxHeartbeats 4000000 in
set_option maxRecDepth 10000 in
theorem libNone_any (z p : Int) (A : Option Addr) (n c : Nat) (w : World) :
    Calls Try.prog 6 #[.int .i64 z, .int .i64 p, .slice A n c] w fun e w' => e = .returned (.bool true) ∧ Below w.heap.size w w' := by
  obtain ⟨lo, hlo⟩ : ∃ lo, w.heap.size = lo := ⟨_, rfl⟩
  have hnew : Hid (Calls Try.prog 23 #[.int .i64 3, .int .i64 3, .int .i64 2] w fun e w' => ∃ g vc vd C, e = .returned (.pointer (some ⟨g, 0, none⟩)) ∧ C.length = 3 ∧ Hid (Lb w' w.heap.size g vc vd C (newD 2) 0) ∧ Hid (Made w' w.heap.size C 3) ∧ Below w.heap.size w w') := Lib.hid (lnew_any 3 2 3 ⟨by decide, by decide⟩ (by decide) (by decide) w)
  rw [hlo] at hnew ⊢
  have hfin : Hid (∀ x y, Below lo w x → Below x.heap.size x y → Below lo w y) := Lib.hid (fun x y h g => h.trans (Below.mono g (by rw [← hlo] at h ⊢; exact h.size)))
  replace hlo := Lib.hid hlo
  have hnG := Lib.hid (fun z p w => go_nil z p w)
  have hnR := Lib.hid (fun z p w => read_nil z p w)
  have hnP := Lib.hid (fun z v w => append_nil z v w)
  have hnA := Lib.hid (fun z w => add_nil z w)
  have hnD := Lib.hid (fun z w => tell_nil z w)
  have hnB := Lib.hid (fun z w => break_nil z w)
  have hnM := Lib.hid (fun z w => mend_nil z w)
  have hnC := Lib.hid (fun z w => cart_nil z w)
  have hnc := Lib.hid (fun w => carts_nil w)
  have hnd := Lib.hid (fun w => drives_nil w)
  have hnw := Lib.hid (fun w => working_nil w)
  by_cases h1 : z < 0
  · have i1 : decide ((0 : Int) ≤ z) = false := decide_eq_false (by omega)
    have hz : Hid (z < 0 ∨ ((3 : Nat) : Int) ≤ z) := Lib.hid (.inl h1)
    have hz2 : Hid (z < 0 ∨ (((newD 2).length : Nat) : Int) ≤ z) := Lib.hid (.inl h1)
    go_enter Try.func6, Try.ntmps6
    go_upto_region 9 with (first
    | (go_at_call 13; go_must (refine (hnG.out _ _ _).mono ?_); rintro e w' ⟨rfl, hee⟩; rw [hee]; clear hee)
    | (go_at_call 15; go_must (refine (hnR.out _ _ _).mono ?_); rintro e w' ⟨rfl, hee⟩; rw [hee]; clear hee)
    | (go_at_call 21; go_must (refine (hnP.out _ _ _).mono ?_); rintro e w' ⟨rfl, hee⟩; rw [hee]; clear hee)
    | (go_at_call 22; go_must (refine (hnA.out _ _).mono ?_); rintro e w' ⟨rfl, hee⟩; rw [hee]; clear hee)
    | (go_at_call 17; go_must (refine (hnD.out _ _).mono ?_); rintro e w' ⟨rfl, hee⟩; rw [hee]; clear hee)
    | (go_at_call 19; go_must (refine (hnB.out _ _).mono ?_); rintro e w' ⟨rfl, hee⟩; rw [hee]; clear hee)
    | (go_at_call 20; go_must (refine (hnM.out _ _).mono ?_); rintro e w' ⟨rfl, hee⟩; rw [hee]; clear hee)
    | (go_at_call 11; go_must (refine (hnC.out _ _).mono ?_); rintro e w' ⟨rfl, hee⟩; rw [hee]; clear hee)
    | (go_at_call 8; go_must (refine (hnc.out _).mono ?_); rintro e w' ⟨rfl, hee⟩; rw [hee]; clear hee)
    | (go_at_call 16; go_must (refine (hnd.out _).mono ?_); rintro e w' ⟨rfl, hee⟩; rw [hee]; clear hee)
    | (go_at_call 9; go_must (refine (hnw.out _).mono ?_); rintro e w' ⟨rfl, hee⟩; rw [hee]; clear hee))
    go_wp2_with (first
    | (go_at_call 23; go_must (refine hnew.out.mono ?_); rintro e w1 ⟨g, vc, vd, C, rfl, hC, hl1, -, hb1⟩; replace hC := Lib.hid hC; replace hb1 := Lib.hid hb1; have haw := Lib.hid (awake08_any w1))
    | (go_at_call 10; go_must (refine haw.out.mono ?_); rintro e w2 ⟨rfl, hb2⟩; clear haw; have hl2 := Lb.gr hb2 hl1; replace hb2 := Lib.hid hb2)
    | (go_at_call 13; go_must (refine (go_no lo g vc vd C (newD 2) 0 _ hl1 z p (by rw [hC.out]; exact hz.out)).mono ?_); rintro e w' ⟨rfl, hee⟩; rw [hee]; clear hee)
    | (go_at_call 15; go_must (refine (lread_not g _ z p 1 (.inl rfl) (stand_no lo g vc vd C (newD 2) 0 _ hl1 z p (by rw [hC.out]; exact hz.out))).mono ?_); rintro e w' ⟨rfl, hee⟩; rw [hee]; clear hee)
    | (go_at_call 21; go_must (refine (lappend_none lo g vc vd C (newD 2) 0 _ hl1 z (by rw [hC.out]; exact hz.out) (.slice A n c)).mono ?_); rintro e w' ⟨rfl, hee⟩; rw [hee]; clear hee)
    | (go_at_call 11; go_must (refine (cart_no lo g vc vd C (newD 2) 0 _ hl2 z (by rw [hC.out]; exact hz.out)).mono ?_); rintro e w' ⟨rfl, hee⟩; rw [hee]; clear hee)
    | (go_at_call 19; go_must (refine (break_no lo g vc vd C (newD 2) 0 _ hl2 z (hz2.out)).mono ?_); rintro e w' ⟨rfl, hee⟩; rw [hee]; clear hee)
    | (go_at_call 20; go_must (refine (mend_no lo g vc vd C (newD 2) 0 _ hl2 z (hz2.out)).mono ?_); rintro e w' ⟨rfl, hee⟩; rw [hee]; clear hee))
    go_ret
    exact ⟨rfl, hfin.out _ _ hb1.out hb2.out⟩
  by_cases h2 : (3 : Int) ≤ z
  · have i1 : (0 : Int) ≤ z := by omega
    have i2 : decide (z < (3 : Int)) = false := decide_eq_false (by omega)
    have hz : Hid (z < 0 ∨ ((3 : Nat) : Int) ≤ z) := Lib.hid (.inr h2)
    have hz2 : Hid (z < 0 ∨ (((newD 2).length : Nat) : Int) ≤ z) := Lib.hid (.inr (by rw [newD_len]; omega))
    go_enter Try.func6, Try.ntmps6
    go_upto_region 9 with (first
    | (go_at_call 13; go_must (refine (hnG.out _ _ _).mono ?_); rintro e w' ⟨rfl, hee⟩; rw [hee]; clear hee)
    | (go_at_call 15; go_must (refine (hnR.out _ _ _).mono ?_); rintro e w' ⟨rfl, hee⟩; rw [hee]; clear hee)
    | (go_at_call 21; go_must (refine (hnP.out _ _ _).mono ?_); rintro e w' ⟨rfl, hee⟩; rw [hee]; clear hee)
    | (go_at_call 22; go_must (refine (hnA.out _ _).mono ?_); rintro e w' ⟨rfl, hee⟩; rw [hee]; clear hee)
    | (go_at_call 17; go_must (refine (hnD.out _ _).mono ?_); rintro e w' ⟨rfl, hee⟩; rw [hee]; clear hee)
    | (go_at_call 19; go_must (refine (hnB.out _ _).mono ?_); rintro e w' ⟨rfl, hee⟩; rw [hee]; clear hee)
    | (go_at_call 20; go_must (refine (hnM.out _ _).mono ?_); rintro e w' ⟨rfl, hee⟩; rw [hee]; clear hee)
    | (go_at_call 11; go_must (refine (hnC.out _ _).mono ?_); rintro e w' ⟨rfl, hee⟩; rw [hee]; clear hee)
    | (go_at_call 8; go_must (refine (hnc.out _).mono ?_); rintro e w' ⟨rfl, hee⟩; rw [hee]; clear hee)
    | (go_at_call 16; go_must (refine (hnd.out _).mono ?_); rintro e w' ⟨rfl, hee⟩; rw [hee]; clear hee)
    | (go_at_call 9; go_must (refine (hnw.out _).mono ?_); rintro e w' ⟨rfl, hee⟩; rw [hee]; clear hee))
    go_wp2_with (first
    | (go_at_call 23; go_must (refine hnew.out.mono ?_); rintro e w1 ⟨g, vc, vd, C, rfl, hC, hl1, -, hb1⟩; replace hC := Lib.hid hC; replace hb1 := Lib.hid hb1; have haw := Lib.hid (awake08_any w1))
    | (go_at_call 10; go_must (refine haw.out.mono ?_); rintro e w2 ⟨rfl, hb2⟩; clear haw; have hl2 := Lb.gr hb2 hl1; replace hb2 := Lib.hid hb2)
    | (go_at_call 13; go_must (refine (go_no lo g vc vd C (newD 2) 0 _ hl1 z p (by rw [hC.out]; exact hz.out)).mono ?_); rintro e w' ⟨rfl, hee⟩; rw [hee]; clear hee)
    | (go_at_call 15; go_must (refine (lread_not g _ z p 1 (.inl rfl) (stand_no lo g vc vd C (newD 2) 0 _ hl1 z p (by rw [hC.out]; exact hz.out))).mono ?_); rintro e w' ⟨rfl, hee⟩; rw [hee]; clear hee)
    | (go_at_call 21; go_must (refine (lappend_none lo g vc vd C (newD 2) 0 _ hl1 z (by rw [hC.out]; exact hz.out) (.slice A n c)).mono ?_); rintro e w' ⟨rfl, hee⟩; rw [hee]; clear hee)
    | (go_at_call 11; go_must (refine (cart_no lo g vc vd C (newD 2) 0 _ hl2 z (by rw [hC.out]; exact hz.out)).mono ?_); rintro e w' ⟨rfl, hee⟩; rw [hee]; clear hee)
    | (go_at_call 19; go_must (refine (break_no lo g vc vd C (newD 2) 0 _ hl2 z (hz2.out)).mono ?_); rintro e w' ⟨rfl, hee⟩; rw [hee]; clear hee)
    | (go_at_call 20; go_must (refine (mend_no lo g vc vd C (newD 2) 0 _ hl2 z (hz2.out)).mono ?_); rintro e w' ⟨rfl, hee⟩; rw [hee]; clear hee))
    go_ret
    exact ⟨rfl, hfin.out _ _ hb1.out hb2.out⟩
  · have i1 : (0 : Int) ≤ z := by omega
    have i2 : z < (3 : Int) := by omega
    obtain ⟨i, rfl⟩ : ∃ i : Nat, z = (i : Int) := ⟨z.toNat, by omega⟩
    have hi : Hid (i < 3) := Lib.hid (by omega)
    go_enter Try.func6, Try.ntmps6
    go_upto_region 9 with (first
    | (go_at_call 13; go_must (refine (hnG.out _ _ _).mono ?_); rintro e w' ⟨rfl, hee⟩; rw [hee]; clear hee)
    | (go_at_call 15; go_must (refine (hnR.out _ _ _).mono ?_); rintro e w' ⟨rfl, hee⟩; rw [hee]; clear hee)
    | (go_at_call 21; go_must (refine (hnP.out _ _ _).mono ?_); rintro e w' ⟨rfl, hee⟩; rw [hee]; clear hee)
    | (go_at_call 22; go_must (refine (hnA.out _ _).mono ?_); rintro e w' ⟨rfl, hee⟩; rw [hee]; clear hee)
    | (go_at_call 17; go_must (refine (hnD.out _ _).mono ?_); rintro e w' ⟨rfl, hee⟩; rw [hee]; clear hee)
    | (go_at_call 19; go_must (refine (hnB.out _ _).mono ?_); rintro e w' ⟨rfl, hee⟩; rw [hee]; clear hee)
    | (go_at_call 20; go_must (refine (hnM.out _ _).mono ?_); rintro e w' ⟨rfl, hee⟩; rw [hee]; clear hee)
    | (go_at_call 11; go_must (refine (hnC.out _ _).mono ?_); rintro e w' ⟨rfl, hee⟩; rw [hee]; clear hee)
    | (go_at_call 8; go_must (refine (hnc.out _).mono ?_); rintro e w' ⟨rfl, hee⟩; rw [hee]; clear hee)
    | (go_at_call 16; go_must (refine (hnd.out _).mono ?_); rintro e w' ⟨rfl, hee⟩; rw [hee]; clear hee)
    | (go_at_call 9; go_must (refine (hnw.out _).mono ?_); rintro e w' ⟨rfl, hee⟩; rw [hee]; clear hee))
    go_wp2_with (first
    | (go_at_call 23; go_must (refine hnew.out.mono ?_); rintro e w1 ⟨g, vc, vd, C, rfl, hC, hl1, -, hb1⟩; replace hC := Lib.hid hC; replace hb1 := Lib.hid hb1; have haw := Lib.hid (awake08_any w1))
    | (go_at_call 10; go_must (refine haw.out.mono ?_); rintro e w2 ⟨rfl, hb2⟩; clear haw; have hl2 := Lb.gr hb2 hl1; replace hb2 := Lib.hid hb2)
    | (go_at_call 11; go_must (refine (cart_yes lo g vc vd C (newD 2) 0 _ hl2 i _ (List.getElem?_eq_getElem (by rw [hC.out]; exact hi.out))).mono ?_); rintro e w' ⟨rfl, hee⟩; rw [hee]; clear hee))
    go_ret
    exact ⟨rfl, hfin.out _ _ hb1.out hb2.out⟩
end Go.Proofs.Ytfjhdcppehfiiaa
