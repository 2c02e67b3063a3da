/- lib: the ways of Go, Break, Mend, Drive, Add that are left. -/
import Derived.Test.YtfjhdcppehfiiaaLb9O
import Derived.Test.YtfjhdcppehfiiaaLb11
namespace Go.Proofs.Ytfjhdcppehfiiaa
set_option linter.unusedVariables false
set_option linter.unusedSimpArgs false
open Go Go.RowKit
section
variable (lo g : Nat) (vc vd : Value) (C : List Nat) (D : List Dr) (calls : Nat) (w : World) (h : Hid (Lb w lo g vc vd C D calls))
include h
set_option maxHeartbeats 1000000 in
set_option maxRecDepth 10000 in
theorem go_badpos (i b : Nat) (hb : C[i]? = some b) (pos : Int) (hp : pos < 0 ∨ 1024 < pos) : Calls Try.prog 13 #[.pointer (some ⟨g, 0, none⟩), .int .i64 i, .int .i64 pos] w fun e w' => e = .returned (.tuple #[.bool false, .int .i64 1]) ∧ w' = w := by
  have hc := Lib.hid (cart_yes lo g vc vd C D calls w h i b hb)
  clear h hb
  by_cases h0 : pos < 0
  · clear hp
    go_enter Try.func13, Try.ntmps13
    go_wp2_with (go_at_call 11; go_must (refine hc.out.mono ?_); rintro e w' ⟨rfl, hee⟩; rw [hee]; clear hee)
    go_ret2
    exact ⟨rfl, rfl⟩
  · have h1 : 1024 < pos := by omega
    clear hp
    go_enter Try.func13, Try.ntmps13
    go_wp2_with (go_at_call 11; go_must (refine hc.out.mono ?_); rintro e w' ⟨rfl, hee⟩; rw [hee]; clear hee)
    go_ret2
    exact ⟨rfl, rfl⟩
set_option maxHeartbeats 1000000 in
set_option maxRecDepth 10000 in
theorem break_was (j : Nat) (d : Dr) (hd : D[j]? = some d) (hb : d.broken = true) : Calls Try.prog 19 #[.pointer (some ⟨g, 0, none⟩), .int .i64 j] w fun e w' => e = .returned (.bool false) ∧ w' = w := by
  have hc := Lib.hid (drive_yes lo g vc vd C D calls w h j (List.getElem?_eq_some_iff.1 hd).1)
  obtain ⟨bd, cd, hv, a0, -, -, -⟩ := drive_at lo g vc vd C D calls w h j d hd
  rw [hb] at a0
  clear h hd hb
  go_enter Try.func19, Try.ntmps19
  go_wp2_with (go_at_call 32; go_must (refine hc.out.mono ?_); rintro e w' ⟨⟨bd2, cd2, hq, rfl⟩, hee⟩; rw [hee]; clear hee; rw [hv] at hq; injection hq with hq _ _; injection hq with hq; injection hq with hq; subst hq; replace hv := Lib.hid hv)
  go_ret
  exact ⟨rfl, rfl⟩
set_option maxHeartbeats 1000000 in
set_option maxRecDepth 10000 in
theorem mend_was (j : Nat) (d : Dr) (hd : D[j]? = some d) (hb : d.broken = false) : Calls Try.prog 20 #[.pointer (some ⟨g, 0, none⟩), .int .i64 j] w fun e w' => e = .returned (.bool false) ∧ w' = w := by
  have hc := Lib.hid (drive_yes lo g vc vd C D calls w h j (List.getElem?_eq_some_iff.1 hd).1)
  obtain ⟨bd, cd, hv, a0, -, -, -⟩ := drive_at lo g vc vd C D calls w h j d hd
  rw [hb] at a0
  clear h hd hb
  go_enter Try.func20, Try.ntmps20
  go_wp2_with (go_at_call 32; go_must (refine hc.out.mono ?_); rintro e w' ⟨⟨bd2, cd2, hq, rfl⟩, hee⟩; rw [hee]; clear hee; rw [hv] at hq; injection hq with hq _ _; injection hq with hq; injection hq with hq; subst hq; replace hv := Lib.hid hv)
  go_ret
  exact ⟨rfl, rfl⟩
set_option maxHeartbeats 1000000 in
set_option maxRecDepth 10000 in
theorem mend_yes (j : Nat) (d : Dr) (hd : D[j]? = some d) (hb : d.broken = true) : Calls Try.prog 20 #[.pointer (some ⟨g, 0, none⟩), .int .i64 j] w fun e w' => e = .returned (.bool true) ∧ Hid (Lb w' lo g vc vd C (D.set j { d with broken := false }) calls) ∧ TChg lo lts w w' := by
  have hc := Lib.hid (drive_yes lo g vc vd C D calls w h j (List.getElem?_eq_some_iff.1 hd).1)
  obtain ⟨bd, cd, hv, a0, -, -, -⟩ := drive_at lo g vc vd C D calls w h j d hd
  rw [hb] at a0
  have h1 := h.out
  rw [hv] at h1
  obtain ⟨h4, t4, f4⟩ := h1.setD (k := 0) (u := .bool false) (d' := { d with broken := false }) hd (by decide) rfl
  simp only [Nat.add_zero] at h4 t4 f4
  rw [← hv] at h4
  replace h4 := Lib.hid h4
  replace t4 := Lib.hid t4
  clear h h1 hd hb
  go_enter Try.func20, Try.ntmps20
  go_wp2_with (go_at_call 32; go_must (refine hc.out.mono ?_); rintro e w' ⟨⟨bd2, cd2, hq, rfl⟩, hee⟩; rw [hee]; clear hee; rw [hv] at hq; injection hq with hq _ _; injection hq with hq; injection hq with hq; subst hq; replace hv := Lib.hid hv)
  go_ret
  exact ⟨rfl, h4, t4.out.mono (Nat.le_refl _) (by simp)⟩
set_option maxHeartbeats 1000000 in
set_option maxRecDepth 10000 in
theorem drive_out (z : Int) (hz : z < 0 ∨ (D.length : Int) ≤ z) : Calls Try.prog 17 #[.pointer (some ⟨g, 0, none⟩), .int .i64 z] w fun e w' => e = .returned (.tuple #[.int .i64 (-1), .int .i64 0, .bool false]) ∧ w' = w := by
  have hc := Lib.hid (drive_no lo g vc vd C D calls w h z hz)
  clear h hz
  go_enter Try.func17, Try.ntmps17
  go_wp2_with (go_at_call 32; go_must (refine hc.out.mono ?_); rintro e w' ⟨rfl, hee⟩; rw [hee]; clear hee)
  refine bodyPost_ret (v := .tuple #[.int .i64 (-1), .int .i64 0, .bool false]) (by simp [results, Try.results17, go_sem]) rfl ?_
  exact ⟨rfl, rfl⟩
set_option maxHeartbeats 1000000 in
set_option maxRecDepth 10000 in
theorem drive_broken (j : Nat) (d : Dr) (hd : D[j]? = some d) (hb : d.broken = true) : Calls Try.prog 17 #[.pointer (some ⟨g, 0, none⟩), .int .i64 j] w fun e w' => e = .returned (.tuple #[.int .i64 (-1), .int .i64 0, .bool false]) ∧ w' = w := by
  have hc := Lib.hid (drive_yes lo g vc vd C D calls w h j (List.getElem?_eq_some_iff.1 hd).1)
  obtain ⟨bd, cd, hv, a0, -, -, -⟩ := drive_at lo g vc vd C D calls w h j d hd
  rw [hb] at a0
  clear h hd hb
  go_enter Try.func17, Try.ntmps17
  go_wp2_with (go_at_call 32; go_must (refine hc.out.mono ?_); rintro e w' ⟨⟨bd2, cd2, hq, rfl⟩, hee⟩; rw [hee]; clear hee; rw [hv] at hq; injection hq with hq _ _; injection hq with hq; injection hq with hq; subst hq; replace hv := Lib.hid hv)
  refine bodyPost_ret (v := .tuple #[.int .i64 (-1), .int .i64 0, .bool false]) (by simp [results, Try.results17, go_sem]) rfl ?_
  exact ⟨rfl, rfl⟩
set_option maxHeartbeats 1000000 in
set_option maxRecDepth 10000 in
theorem add_full (z : Int) (hC : C.length = 32) : Calls Try.prog 22 #[.pointer (some ⟨g, 0, none⟩), .int .i64 z] w fun e w' => e = .returned (.tuple #[.int .i64 0, .bool false]) ∧ w' = w := by
  obtain ⟨Ac, cc, Ad, cd, e1, -⟩ := h.out.form
  rw [hC] at e1
  subst e1
  have c0 := blk_cell (j := 0) h.out.blk rfl
  clear h hC
  go_enter Try.func22, Try.ntmps22
  go_wp2_with fail
  go_ret2
  exact ⟨rfl, rfl⟩
end
/-- a cartridge is held, or it is not -/
theorem hold_or (D : List Dr) (z : Int) : NoHold D z ∨ ∃ j d, HoldIs D z j d := by
  induction D with
  | nil => exact .inl (fun d hd => by cases hd)
  | cons x l ih =>
    by_cases hx : x.cart = z
    · exact .inr ⟨0, x, rfl, hx, fun j' _ hj _ => absurd hj (Nat.not_lt_zero _)⟩
    · rcases ih with h | ⟨j, d, h1, h2, h3⟩
      · exact .inl (fun d hd => by
          rcases List.mem_cons.mp hd with rfl | hd
          · exact hx
          · exact h d hd)
      · refine .inr ⟨j + 1, d, h1, h2, fun j' d' hj hd => ?_⟩
        cases j' with
        | zero =>
          injection hd with hd
          rw [← hd]
          exact hx
        | succ j' => exact h3 j' d' (by omega) hd
end Go.Proofs.Ytfjhdcppehfiiaa
