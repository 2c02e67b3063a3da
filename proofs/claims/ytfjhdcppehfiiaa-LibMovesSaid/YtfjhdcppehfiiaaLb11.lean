/- lib: the fixed fact. -/
import Derived.Test.YtfjhdcppehfiiaaLb10
namespace Go.Proofs.Ytfjhdcppehfiiaa
set_option linter.unusedVariables false
set_option linter.unusedSimpArgs false
open Go Go.RowKit
abbrev ats : List TypeId := [57, 27, 59, 64, 66]
theorem str_lit8 (w : World) (cs : Array Value) (l : List UInt8) (h : cs.toList = l.map vb) (n c : Nat) (hn : l.length = n) : (convert 32 9 (.slice (some ⟨w.heap.size, 0, none⟩) n c)).run Try.prog (w.alloc (.cells cs 5)) = .ok (.string (bs l)) (w.alloc (.cells cs 5)) :=
  run_str_at c (Rd.lit w cs _ l h _ (Nat.lt_succ_self _)) hn
theorem hold_0 (z : Int) (d : Dr) (h : d.cart = z) : HoldIs [d] z 0 d := ⟨rfl, h, fun j' _ hj _ => absurd hj (Nat.not_lt_zero _)⟩
theorem nohold_1 (z : Int) (d : Dr) (h : d.cart ≠ z) : NoHold [d] z := fun e he => by rw [List.mem_singleton.1 he]; exact h
theorem app_aw : CS.append ⟨[], 9, false⟩ [97, 98] = (0, 0, ⟨[([97, 98], false)], 9, false⟩) := by rfl
set_option maxHeartbeats 4000000 in
set_option maxRecDepth 10000 in
theorem awake08_any (w : World) : Calls Try.prog 10 #[] w fun e w' => e = .returned (.bool true) ∧ Below w.heap.size w w' := by
  obtain ⟨lo, hlo⟩ : ∃ lo, w.heap.size = lo := ⟨_, rfl⟩
  have hnew : Hid (Calls Try.prog 23 #[.int .i64 2, .int .i64 9, .int .i64 1] w fun e w' => ∃ g vc vd C, e = .returned (.pointer (some ⟨g, 0, none⟩)) ∧ C.length = 2 ∧ Hid (Lb w' w.heap.size g vc vd C (newD 1) 0) ∧ Hid (Made w' w.heap.size C 9) ∧ Below w.heap.size w w') := Lib.hid (lnew_any 2 1 9 ⟨by decide, by decide⟩ (by decide) (by decide) w)
  rw [hlo] at hnew
  have hfin : Hid (∀ x, TChg lo ats w x → Below w.heap.size w x) := Lib.hid (fun x h => by have := h.below (by omega); rw [← hlo] at this; exact this)
  have hlow : Hid (∀ x, TChg lo ats w x → lo ≤ x.heap.size) := Lib.hid (fun x h => by have := h.size; omega)
  have hsub : Hid (∀ x y, TChg lo ats w x → TChg lo lts x y → TChg lo ats w y) := Lib.hid (fun x y h g => h.trans (g.mono (Nat.le_refl _) (ts' := ats) (by simp)))
  replace hlo := Lib.hid hlo
  go_enter Try.func10, Try.ntmps10
  go_upto_region 12 with (first
    | (go_at_call 23; go_loud (refine hnew.out.mono ?_; rintro e w1 ⟨g, vc, vd, C, rfl, hC, hl1, hm1, hb1⟩; clear hnew; obtain ⟨b0, b1, rfl⟩ : ∃ b0 b1, C = [b0, b1] := (match C, hC with | [b0, b1], _ => ⟨b0, b1, rfl⟩); obtain ⟨l, hi, hll, hc1⟩ := hm1.out b1 (by simp); have t1 : Hid (TChg lo ats w w1) := Lib.hid (TChg.of_below (by rw [hlo.out]; exact hb1)); replace hl1 : Hid (Lb w1 lo g vc vd [b0, b1] [⟨false, -1, 0, 0⟩] 0) := hl1; replace hc1 := Lib.hid hc1; replace hll := Lib.hid hll; clear hm1 hb1 hC))
    | (go_at_call 13; refine (go_load lo g vc vd [b0, b1] [⟨false, -1, 0, 0⟩] 0 _ hl1 1 b1 rfl 0 (by decide) (by decide) (by decide) (nohold_1 _ _ (by decide)) 0 (.inl ⟨_, rfl, rfl, rfl, fun j' _ hj _ => absurd hj (Nat.not_lt_zero _)⟩)).mono ?_; rintro e w2 ⟨rfl, hl2, t2⟩; have hc2 := Lib.hid (hc1.out.tchg t2 (by decide) (by decide) (by decide)); replace t2 := Lib.hid (hsub.out _ _ t1.out t2); replace hl2 : Hid (Lb w2 lo g vc vd [b0, b1] [⟨false, 1, 0, 1⟩] 1) := hl2; clear hl1 hc1 t1)
    | (go_at_call 13; refine (go_held lo g vc vd [b0, b1] [⟨false, 1, 0, 1⟩] 1 _ hl2 1 b1 rfl 0 (by decide) (by decide) (by decide) 0 _ (hold_0 _ _ rfl)).mono ?_; rintro e w3 ⟨rfl, hl3, t3⟩; have hc3 := Lib.hid (hc2.out.tchg t3 (by decide) (by decide) (by decide)); replace t3 := Lib.hid (hsub.out _ _ t2.out t3); replace hl3 : Hid (Lb w3 lo g vc vd [b0, b1] [⟨false, 1, 0, 2⟩] 2) := hl3; clear hl2 hc2 t2)
    | (go_at_call 21; refine (lappend_yes lo g vc vd [b0, b1] [⟨false, 1, 0, 2⟩] 2 _ (Lb.gr (alloc_gr w3 (.cells #[.int .u8 97, .int .u8 98] 5)) hl3) 1 b1 rfl 0 ⟨false, 1, 0, 2⟩ l hi ⟨[], 9, false⟩ (Lib.hid (hc3.out.tchg (lo' := 0) (ts := []) (TChg.of_below (alloc_gr w3 (.cells #[.int .u8 97, .int .u8 98] 5))) (by simp) (by simp) (by simp))) (hold_0 _ _ rfl) rfl (some ⟨w3.heap.size, 0, none⟩) 2 2 [97, 98] rfl (by decide) (Rd.lit w3 _ _ _ rfl _ (by simp))).mono ?_; rw [app_aw]; rintro e w5 ⟨rfl, hl5, hc5, wx, ta, tb⟩; have t5 : Hid (TChg lo ats w w5) := Lib.hid ((t3.out.trans ((TChg.of_below (alloc_gr w3 _)).trans (ta.out.mono hll.out (ts' := ats) (by simp)))).trans (tb.out.mono (Nat.le_refl _) (ts' := ats) (by simp))); replace hl5 : Hid (Lb w5 lo g vc vd [b0, b1] [⟨false, 1, 1, 2⟩] 2) := hl5; clear hl3 hc3 t3 ta tb)
    | (go_at_call 15; refine (lread_not g _ 1 0 8 (.inr rfl) (stand_busy lo g vc vd [b0, b1] [⟨false, 1, 1, 2⟩] 2 _ hl5 1 b1 rfl 0 0 _ (hold_0 _ _ rfl) (by decide))).mono ?_; rintro e w6 ⟨rfl, hee⟩; rw [hee]; clear hee)
    | (go_at_call 13; refine (go_held lo g vc vd [b0, b1] [⟨false, 1, 1, 2⟩] 2 _ hl5 1 b1 rfl 0 (by decide) (by decide) (by decide) 0 _ (hold_0 _ _ rfl)).mono ?_; rintro e w6 ⟨rfl, hl6, t6⟩; have hc6 := Lib.hid (hc5.out.tchg t6 (by decide) (by decide) (by decide)); replace t6 := Lib.hid (hsub.out _ _ t5.out t6); replace hl6 : Hid (Lb w6 lo g vc vd [b0, b1] [⟨false, 1, 0, 3⟩] 3) := hl6; clear hl5 hc5 t5)
    | (go_at_call 15; refine (lread_yes lo g vc vd [b0, b1] [⟨false, 1, 0, 3⟩] 3 _ hl6 1 b1 rfl 0 (by decide) (by decide) 0 _ (hold_0 _ _ rfl) rfl _ _ _ hc6).mono ?_; rintro e w7 ⟨v, rfl, ho7, hl7, t7⟩; replace ho7 : Hid (OB w7 w6.heap.size v [97, 98]) := ho7; obtain ⟨A7, c7, rfl, -, -, -, -⟩ := ho7.out.form; replace t7 := Lib.hid (hsub.out _ _ t6.out (t7.mono (Nat.le_refl _) (ts' := lts) (by simp))); replace hl7 : Hid (Lb w7 lo g vc vd [b0, b1] [⟨false, 1, 1, 3⟩] 3) := hl7; clear hl6 hc6 t6)
    | (go_at_call 13; refine (go_load lo g vc vd [b0, b1] [⟨false, 1, 1, 3⟩] 3 _ hl7 0 b0 rfl 0 (by decide) (by decide) (by decide) (nohold_1 _ _ (by decide)) 0 (.inr ⟨fun d hd => by rw [List.mem_singleton.1 hd]; exact .inr (by decide), rfl⟩)).mono ?_; rintro e w8 ⟨rfl, hl8, t8⟩; have ho8 := Lib.hid (row_tchg ho7.out t8 (by decide)); replace t8 := Lib.hid (hsub.out _ _ t7.out t8); replace hl8 : Hid (Lb w8 lo g vc vd [b0, b1] [⟨false, 0, 0, 4⟩] 4) := hl8; clear hl7 ho7 t7)
    | (go_at_call 17; refine (drive_reads lo g vc vd [b0, b1] [⟨false, 0, 0, 4⟩] 4 _ hl8 0 _ rfl rfl).mono ?_; rintro e w9 ⟨rfl, hb9⟩; have ho9 := Lib.hid (row_below ho8.out hb9); have hl9 := Lb.gr hb9 hl8; have t9 := Lib.hid (t8.out.trans (TChg.of_below (ts := ats) hb9)); clear hl8 ho8 t8 hb9)
    | (go_at_call 19; refine (break_yes lo g vc vd [b0, b1] [⟨false, 0, 0, 4⟩] 4 _ hl9 0 _ rfl rfl).mono ?_; rintro e wA ⟨rfl, hlA, tA⟩; have hoA := Lib.hid (row_tchg ho9.out tA (by decide)); replace tA := Lib.hid (hsub.out _ _ t9.out tA); replace hlA : Hid (Lb wA lo g vc vd [b0, b1] [⟨true, -1, 0, 0⟩] 4) := hlA; clear hl9 ho9 t9)
    | (go_at_call 13; refine (go_down lo g vc vd [b0, b1] [⟨true, -1, 0, 0⟩] 4 _ hlA 0 b0 rfl 0 (by decide) (by decide) (by decide) (nohold_1 _ _ (by decide)) ⟨fun d hd => by rw [List.mem_singleton.1 hd]; exact .inl rfl, rfl⟩).mono ?_; rintro e wB ⟨rfl, hlB, tB⟩; have hoB := Lib.hid (row_tchg hoA.out tB (by decide)); replace tB := Lib.hid (hsub.out _ _ tA.out tB); clear hlA hoA tA))
  have hoB' : OB wB w6.heap.size (.slice A7 2 c7) [97, 98] := hoB.out
  obtain ⟨A', c', hv', -, -, hrB, -⟩ := hoB'.form
  injection hv' with e1 e2 e3
  subst e1
  clear e2
  subst e3
  have hcv : (convert 32 9 (.slice A7 2 c7)).run Try.prog wB = .ok (.string ⟨#[97, 98]⟩) wB := run_str_at (n := 2) (l := [97, 98]) c7 hrB rfl
  have hlit : (convert 32 9 (.slice (some ⟨wB.heap.size, 0, none⟩) 2 2)).run Try.prog (wB.alloc (.cells #[.int .u8 97, .int .u8 98] 5)) = .ok (.string ⟨#[97, 98]⟩) (wB.alloc (.cells #[.int .u8 97, .int .u8 98] 5)) := str_lit8 wB _ [97, 98] rfl 2 2 rfl
  clear hoB' hrB hoB hlB
  go_wp2_with fail
  go_ret
  exact ⟨rfl, hfin.out _ (tB.out.trans (TChg.of_below (alloc_gr wB _)))⟩
end Go.Proofs.Ytfjhdcppehfiiaa
