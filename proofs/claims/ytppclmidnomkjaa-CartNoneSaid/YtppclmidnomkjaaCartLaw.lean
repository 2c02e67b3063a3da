/- The laws of cart: the fixed fact, and no cartridge. -/
import Derived.Test.YtppclmidnomkjaaCart4
namespace Go.Proofs.Ytppclmidnomkjaa
set_option linter.unusedVariables false
set_option linter.unusedSimpArgs false
open Go Go.RowKit
theorem Ct.lw {w : World} {lo hi g : Nat} {s : CS} (h : Ct w lo hi g s) : lo ≤ w.heap.size := by have := h.bounds; omega
theorem below_dn {B : Nat} {w w' : World} (h : Below B w w') (n : Nat) : Below B w (w'.drewN n) := ⟨h.os, h.tape, h.output, h.size, h.block⟩
set_option maxRecDepth 10000 in
theorem cappend_nil (A : Option Addr) (n c : Nat) (w : World) : Calls Try.prog 22 #[.pointer none, .slice A n c] w fun e w' => e = .returned (.tuple #[.int .i64 0, .int .i64 1]) ∧ w' = w := by
  go_enter Try.func22, Try.ntmps22
  go_wp2
  go_ret2
  exact ⟨rfl, rfl⟩
set_option maxRecDepth 10000 in
theorem cread_nil (p : Int) (w : World) : Calls Try.prog 19 #[.pointer none, .int .i64 p] w fun e w' => e = .returned (.tuple #[.slice none 0 0, .int .i64 1]) ∧ w' = w := by
  go_enter Try.func19, Try.ntmps19
  go_wp2
  go_ret2
  exact ⟨rfl, rfl⟩
set_option maxRecDepth 10000 in
theorem crot_nil (p : Int) (w : World) : Calls Try.prog 23 #[.pointer none, .int .i64 p] w fun e w' => e = .returned (.bool false) ∧ w' = w := by
  go_enter Try.func23, Try.ntmps23
  go_wp2
  go_ret
  exact ⟨rfl, rfl⟩
set_option maxRecDepth 10000 in
theorem ctear_nil (p : Int) (w : World) : Calls Try.prog 26 #[.pointer none, .int .i64 p] w fun e w' => e = .returned (.bool false) ∧ w' = w := by
  go_enter Try.func26, Try.ntmps26
  go_wp2
  go_ret
  exact ⟨rfl, rfl⟩
set_option maxRecDepth 10000 in
theorem close_nil (w : World) : Calls Try.prog 28 #[.pointer none] w fun e w' => e = .returned (.bool false) ∧ w' = w := by
  go_enter Try.func28, Try.ntmps28
  go_wp2
  go_ret
  exact ⟨rfl, rfl⟩
set_option maxRecDepth 10000 in
theorem clost_nil (w : World) : Calls Try.prog 27 #[.pointer none] w fun e w' => e = .returned (.bool false) ∧ w' = w := by
  go_enter Try.func27, Try.ntmps27
  go_wp2
  go_ret
  exact ⟨rfl, rfl⟩
set_option maxRecDepth 10000 in
theorem clen_nil (w : World) : Calls Try.prog 24 #[.pointer none] w fun e w' => e = .returned (.int .i64 0) ∧ w' = w := by
  go_enter Try.func24, Try.ntmps24
  go_wp2
  go_ret
  exact ⟨rfl, rfl⟩
set_option maxRecDepth 10000 in
theorem croom_nil (w : World) : Calls Try.prog 25 #[.pointer none] w fun e w' => e = .returned (.int .i64 0) ∧ w' = w := by
  go_enter Try.func25, Try.ntmps25
  go_wp2
  go_ret
  exact ⟨rfl, rfl⟩

theorem cs0 : (⟨[], (min (max 2 0) 1024 : Int).toNat, false⟩ : CS) = ⟨[], 2, false⟩ := rfl
theorem cs1 : CS.append ⟨[], 2, false⟩ [97, 98] = (0, 0, ⟨[([97, 98], false)], 2, false⟩) := rfl
theorem cs2 : CS.append ⟨[([97, 98], false)], 2, false⟩ [] = (0, 1, ⟨[([97, 98], false)], 2, false⟩) := rfl
theorem cs3 : CS.tear ⟨[([97, 98], false)], 2, false⟩ 1 = (true, ⟨[([97], false)], 2, false⟩) := rfl
theorem cs4 : CS.read ⟨[([97], false)], 2, false⟩ 0 = ([97], 0) := rfl
theorem cs5 : CS.append ⟨[([97], false)], 2, false⟩ [99] = (1, 0, ⟨[([97], false), ([99], false)], 2, false⟩) := rfl
theorem cs6 : CS.append ⟨[([97], false), ([99], false)], 2, false⟩ [100] = (0, 7, ⟨[([97], false), ([99], false)], 2, false⟩) := rfl
theorem cs7 : CS.rot ⟨[([97], false), ([99], false)], 2, false⟩ 1 = (true, ⟨[([97], false), ([99], true)], 2, false⟩) := rfl
theorem cs8 : CS.lose ⟨[([97], false), ([99], true)], 2, false⟩ = (true, ⟨[([97], false), ([99], true)], 2, true⟩) := rfl
set_option maxHeartbeats 2000000 in
set_option maxRecDepth 10000 in
theorem awake07_any (w : World) :
    Calls Try.prog 21 #[] w fun e w' => e = .returned (.bool true) ∧ Below w.heap.size w w' := by
  go_enter Try.func21, Try.ntmps21
  go_wp2_with fail
  refine (cnew_any 2 (by unfold I64; decide) w).mono ?_
  rw [cs0]
  rintro e w1 ⟨rfl, hd, hb⟩
  obtain ⟨lo, hlo⟩ : ∃ lo, lo = w.heap.size := ⟨_, rfl⟩
  rw [← hlo] at hd
  rw [← hlo]
  have hl : w.heap.size ≤ lo := by omega
  replace hlo := Lib.hid hlo
  replace hd := Lib.hid hd
  replace hb := Lib.hid hb
  go_wp2_with fail
  refine (cappend_any lo _ lo _ (some ⟨w1.heap.size, 0, none⟩) 2 2 [97, 98] rfl (by decide) _ (hd.out.below ((Below.refl _ _).alloc (Nat.le_refl _) _)) (Rd.lit w1 _ _ [97, 98] rfl _ (by simp))).mono ?_
  rw [cs1]
  rintro e w2 ⟨rfl, hd2, hch⟩
  have hb2 := Lib.hid (hch.from_ (hb.out.alloc hb.out.size _) hl (Nat.le_trans hd.out.lw (by simp)))
  replace hd2 := Lib.hid hd2
  clear hch hd hb
  go_wp2_with fail
  refine (cappend_any lo _ lo _ none 0 0 [] rfl (by decide) _ hd2.out Rd.nil_).mono ?_
  rw [cs2]
  rintro e w3 ⟨rfl, hd3, hch⟩
  have hb3 := Lib.hid (hch.from_ hb2.out hl hd2.out.lw)
  replace hd3 := Lib.hid hd3
  clear hch hd2 hb2
  go_wp2_with fail
  refine (ctear_any lo _ lo _ 1 (by unfold I64; decide) _ hd3.out).mono ?_
  rw [cs3]
  rintro e w4 ⟨rfl, hd4, hch⟩
  have hb4 := Lib.hid (hch.from_ hb3.out hl hd3.out.lw)
  replace hd4 := Lib.hid hd4
  clear hch hd3 hb3
  go_wp2_with fail
  refine (cread_any lo _ lo _ 0 (by unfold I64; decide) _ hd4.out).mono ?_
  rw [cs4]
  rintro e w5 ⟨v, rfl, ho, hbb⟩
  obtain ⟨A7, c7, rfl, -, -, hR7, -⟩ := ho.form
  have hR7' := Lib.hid hR7
  have hb5 := Lib.hid (hb4.out.trans (hbb.mono hb4.out.size))
  have hd5 := Lib.hid (hd4.out.below hbb)
  clear hbb hd4 hb4 hR7
  obtain ⟨B5, hB5⟩ : ∃ B5, w4.heap.size = B5 := ⟨_, rfl⟩
  rw [hB5] at ho
  have hlt := Lib.hid ho.lt
  replace ho := Lib.hid ho
  go_wp2_with fail
  refine (cappend_any lo _ lo _ (some ⟨w5.heap.size, 0, none⟩) 1 1 [99] rfl (by decide) _ (hd5.out.below ((Below.refl _ _).alloc (Nat.le_refl _) _)) (Rd.lit w5 _ _ [99] rfl _ (by simp))).mono ?_
  rw [cs5]
  rintro e w6 ⟨rfl, hd6, hch⟩
  have ho6 := Lib.hid ((ho.out.alloc (.cells #[.int .u8 99] 5)).tchg hch (by decide))
  have hb6 := Lib.hid (hch.from_ (hb5.out.alloc hb5.out.size _) hl (Nat.le_trans hd5.out.lw (by simp)))
  replace hd6 := Lib.hid hd6
  clear hch hd5 hb5 ho
  go_wp2_with fail
  refine (cappend_any lo _ lo _ (some ⟨w6.heap.size, 0, none⟩) 1 1 [100] rfl (by decide) _ (hd6.out.below ((Below.refl _ _).alloc (Nat.le_refl _) _)) (Rd.lit w6 _ _ [100] rfl _ (by simp))).mono ?_
  rw [cs6]
  rintro e w7 ⟨rfl, hd7, hch⟩
  have ho7 := Lib.hid ((ho6.out.alloc (.cells #[.int .u8 100] 5)).tchg hch (by decide))
  have hb7 := Lib.hid (hch.from_ (hb6.out.alloc hb6.out.size _) hl (Nat.le_trans hd6.out.lw (by simp)))
  replace hd7 := Lib.hid hd7
  clear hch hd6 hb6 ho6
  have hcv := run_str_at (n := 1) c7 (OB.rd ho7.out).1 rfl
  go_wp2_with fail
  refine (crot_any lo _ lo _ 1 (by unfold I64; decide) _ hd7.out).mono ?_
  rw [cs7]
  rintro e w8 ⟨rfl, hd8, hch⟩
  have hb8 := Lib.hid (hch.from_ hb7.out hl hd7.out.lw)
  replace hd8 := Lib.hid hd8
  clear hch hd7 hb7 hcv ho7 hR7' hlt hB5
  go_wp2_with fail
  refine (close_any lo _ lo _ _ hd8.out).mono ?_
  rw [cs8]
  rintro e w9 ⟨rfl, hd9, hch⟩
  have hb9 := Lib.hid (hch.from_ hb8.out hl hd8.out.lw)
  replace hd9 := Lib.hid hd9
  clear hch hd8 hb8
  go_wp2_with fail
  refine (clen_any lo _ lo _ _ hd9.out).mono ?_
  rintro e w10 ⟨rfl, rfl⟩
  go_wp2
  go_ret
  exact ⟨rfl, hb9.out⟩
set_option maxHeartbeats 1000000 in
set_option maxRecDepth 10000 in
theorem cartNone_any (n : Int) (A : Option Addr) (k c : Nat) (w : World) :
    Calls Try.prog 8 #[.int .i64 n, .slice A k c] w fun e w' => e = .returned (.bool true) ∧ Below w.heap.size w w' := by
  go_enter Try.func8, Try.ntmps8
  go_wp2_with (first
    | (go_at_call 22; refine (cappend_nil _ _ _ _).mono ?_; rintro e w1 ⟨rfl, rfl⟩)
    | (go_at_call 19; refine (cread_nil _ _).mono ?_; rintro e w1 ⟨rfl, rfl⟩)
    | (go_at_call 23; refine (crot_nil _ _).mono ?_; rintro e w1 ⟨rfl, rfl⟩)
    | (go_at_call 26; refine (ctear_nil _ _).mono ?_; rintro e w1 ⟨rfl, rfl⟩)
    | (go_at_call 28; refine (close_nil _).mono ?_; rintro e w1 ⟨rfl, rfl⟩)
    | (go_at_call 27; refine (clost_nil _).mono ?_; rintro e w1 ⟨rfl, rfl⟩)
    | (go_at_call 24; refine (clen_nil _).mono ?_; rintro e w1 ⟨rfl, rfl⟩)
    | (go_at_call 25; refine (croom_nil _).mono ?_; rintro e w1 ⟨rfl, rfl⟩)
    | (go_at_call 21; refine (awake07_any _).mono ?_; rintro e w1 ⟨rfl, hb⟩; replace hb := Lib.hid hb))
  go_ret
  exact ⟨rfl, hb.out⟩
end Go.Proofs.Ytppclmidnomkjaa
