/- The laws of dsk: the fixed fact, and no disk. -/
import Derived.Test.YtppclmidnomkjaaDskWalk
namespace Go.Proofs.Ytppclmidnomkjaa
set_option linter.unusedVariables false
set_option linter.unusedSimpArgs false
open Go Go.RowKit

theorem Chg.from_ {lo g : Nat} {w0 w w' : World} (h : Chg lo g w w') (hb : Below w0.heap.size w0 w) (hl : w0.heap.size ≤ lo) (hw : lo ≤ w.heap.size) : Below w0.heap.size w0 w' :=
  hb.trans ((h.below hw).mono hl)
theorem Dk.lw {w : World} {lo hi g : Nat} {s : DS} (h : Dk w lo hi g s) : lo ≤ w.heap.size := by have := h.bounds; omega
theorem below_dn {B : Nat} {w w' : World} (h : Below B w w') (n : Nat) : Below B w (w'.drewN n) := ⟨h.os, h.tape, h.output, h.size, h.block⟩
theorem ds1 : DS.wipe.append [97, 98] = (0, ⟨[97, 98], 0, false, 0⟩) := rfl
theorem ds2 : DS.sync ⟨[97, 98], 0, false, 0⟩ = (0, ⟨[97, 98], 2, false, 0⟩) := rfl
theorem ds3 : DS.append ⟨[97, 98], 2, false, 0⟩ [99, 100, 101] = (0, ⟨[97, 98, 99, 100, 101], 2, false, 0⟩) := rfl
theorem ds4 : DS.crash ⟨[97, 98, 99, 100, 101], 2, false, 0⟩ 1 = ⟨[97, 98, 99], 3, false, 0⟩ := rfl
theorem ds5 : DS.fuse ⟨[97, 98, 99], 3, false, 0⟩ 1 = ⟨[97, 98, 99], 3, true, 1⟩ := rfl
theorem ds6 : DS.append ⟨[97, 98, 99], 3, true, 1⟩ [100] = (0, ⟨[97, 98, 99, 100], 3, true, 0⟩) := rfl
theorem ds7 : DS.sync ⟨[97, 98, 99, 100], 3, true, 0⟩ = (11, ⟨[97, 98, 99, 100], 3, true, 0⟩) := rfl
set_option maxHeartbeats 2000000 in
set_option maxRecDepth 10000 in
theorem awake11_any (w : World) :
    Calls Try.prog 33 #[] w fun e w' => e = .returned (.bool true) ∧ Below w.heap.size w w' := by
  go_enter Try.func33, Try.ntmps33
  go_wp2_with fail
  refine (dnew_any w).mono ?_
  rintro e w1 ⟨rfl, hd, hb⟩
  obtain ⟨lo, hlo⟩ : ∃ lo, lo = w.heap.size := ⟨_, rfl⟩
  rw [← hlo] at hd
  rw [← hlo]
  have hl : w.heap.size ≤ lo := by omega
  replace hlo := Lib.hid hlo
  replace hd := Lib.hid hd
  replace hb := Lib.hid hb
  go_wp2_with fail
  refine (append_any lo _ lo _ (some ⟨w1.heap.size, 0, none⟩) 2 2 [97, 98] rfl (by decide) _ (hd.out.below ((Below.refl _ _).alloc (Nat.le_refl _) _)) (Rd.lit w1 _ _ [97, 98] rfl _ (by simp))).mono ?_
  rw [ds1]
  rintro e w2 ⟨rfl, hd2, hch⟩
  have hb2 := Lib.hid (hch.from_ (hb.out.alloc hb.out.size _) hl (Nat.le_trans hd.out.lw (by simp)))
  replace hd2 := Lib.hid hd2
  clear hch hd hb
  go_wp2_with fail
  refine (sync_any lo _ lo _ _ hd2.out).mono ?_
  rw [ds2]
  rintro e w3 ⟨rfl, hd3, hch⟩
  have hb3 := Lib.hid (hch.from_ hb2.out hl hd2.out.lw)
  replace hd3 := Lib.hid hd3
  clear hch hd2 hb2
  go_wp2_with fail
  refine (append_any lo _ lo _ (some ⟨w3.heap.size, 0, none⟩) 3 3 [99, 100, 101] rfl (by decide) _ (hd3.out.below ((Below.refl _ _).alloc (Nat.le_refl _) _)) (Rd.lit w3 _ _ [99, 100, 101] rfl _ (by simp))).mono ?_
  rw [ds3]
  rintro e w4 ⟨rfl, hd4, hch⟩
  have hb4 := Lib.hid (hch.from_ (hb3.out.alloc hb3.out.size _) hl (Nat.le_trans hd3.out.lw (by simp)))
  replace hd4 := Lib.hid hd4
  clear hch hd3 hb3
  go_wp2_with fail
  refine (loose_any lo _ lo _ _ hd4.out).mono ?_
  rintro e w5 ⟨rfl, n5, rfl⟩
  replace hd4 := Lib.hid (hd4.out.drewN n5)
  replace hb4 := Lib.hid (below_dn hb4.out n5)
  generalize w4.drewN n5 = w5 at *
  go_wp2_with fail
  refine (crash_any lo _ lo _ 1 (by decide) _ hd4.out).mono ?_
  rw [ds4]
  rintro e w6 ⟨rfl, hd6, hch⟩
  have hb6 := Lib.hid (hch.from_ hb4.out hl hd4.out.lw)
  replace hd6 := Lib.hid hd6
  clear hch hd4 hb4
  go_wp2_with fail
  refine (bytes_any lo _ lo _ _ hd6.out).mono ?_
  rintro e w7 ⟨v, rfl, ho, hbb⟩
  obtain ⟨A7, c7, rfl, -, -, hR7, -⟩ := ho.form
  have hcv := run_str_at (n := 3) c7 hR7 rfl
  replace hR7 := Lib.hid hR7
  have hb7 := Lib.hid (hb6.out.trans (hbb.mono hb6.out.size))
  have hd7 := Lib.hid (hd6.out.below hbb)
  clear ho hbb hd6 hb6
  go_wp2_with fail
  refine (fuse_any lo _ lo _ 1 (by decide) _ hd7.out).mono ?_
  rw [ds5]
  rintro e w8 ⟨rfl, hd8, hch⟩
  have hb8 := Lib.hid (hch.from_ hb7.out hl hd7.out.lw)
  replace hd8 := Lib.hid hd8
  clear hch hd7 hb7 hcv hR7
  go_wp2_with fail
  refine (append_any lo _ lo _ (some ⟨w8.heap.size, 0, none⟩) 1 1 [100] rfl (by decide) _ (hd8.out.below ((Below.refl _ _).alloc (Nat.le_refl _) _)) (Rd.lit w8 _ _ [100] rfl _ (by simp))).mono ?_
  rw [ds6]
  rintro e w9 ⟨rfl, hd9, hch⟩
  have hb9 := Lib.hid (hch.from_ (hb8.out.alloc hb8.out.size _) hl (Nat.le_trans hd8.out.lw (by simp)))
  replace hd9 := Lib.hid hd9
  clear hch hd8 hb8
  go_wp2_with fail
  refine (sync_any lo _ lo _ _ hd9.out).mono ?_
  rw [ds7]
  rintro e w10 ⟨rfl, hd10, hch⟩
  have hb10 := Lib.hid (hch.from_ hb9.out hl hd9.out.lw)
  replace hd10 := Lib.hid hd10
  clear hch hd9 hb9
  go_wp2_with fail
  refine (loose_any lo _ lo _ _ hd10.out).mono ?_
  rintro e w11 ⟨rfl, n11, rfl⟩
  replace hb10 := Lib.hid (below_dn hb10.out n11)
  go_wp2
  go_ret
  exact ⟨rfl, hb10.out⟩
set_option maxHeartbeats 1000000 in
set_option maxRecDepth 10000 in
theorem dskNone_any (n : Int) (A : Option Addr) (k c : Nat) (w : World) :
    Calls Try.prog 14 #[.int .i64 n, .slice A k c] w fun e w' => e = .returned (.bool true) ∧ Below w.heap.size w w' := by
  go_enter Try.func14, Try.ntmps14
  go_wp2_with (first
    | (go_at_call 39; refine (fuse_nil _ _).mono ?_; rintro e w1 ⟨rfl, rfl⟩)
    | (go_at_call 38; refine (crash_nil _ _).mono ?_; rintro e w1 ⟨rfl, rfl⟩)
    | (go_at_call 41; refine (wipe_nil _).mono ?_; rintro e w1 ⟨rfl, rfl⟩)
    | (go_at_call 33; refine (awake11_any _).mono ?_; rintro e w1 ⟨rfl, hb⟩; replace hb := Lib.hid hb)
    | (go_at_call 34; refine (append_nil _ _ _ _).mono ?_; rintro e w1 ⟨rfl, rfl⟩)
    | (go_at_call 35; refine (sync_nil _).mono ?_; rintro e w1 ⟨rfl, rfl⟩)
    | (go_at_call 40; refine (swap_nil _ _ _ _).mono ?_; rintro e w1 ⟨rfl, rfl⟩)
    | (go_at_call 37; refine (bytes_nil _).mono ?_; rintro e w1 ⟨rfl, rfl⟩)
    | (go_at_call 36; refine (loose_nil _).mono ?_; rintro e w1 ⟨rfl, rfl⟩))
  go_ret
  exact ⟨rfl, hb.out⟩
end Go.Proofs.Ytppclmidnomkjaa
