/- lib: Go, Break, Mend, Drive, standing. -/
import Derived.Test.YtfjhdcppehfiiaaLb4
namespace Go.Proofs.Ytfjhdcppehfiiaa
set_option linter.unusedVariables false
set_option linter.unusedSimpArgs false
open Go Go.RowKit
/-- drive j is the first that holds cartridge z -/
def HoldIs (D : List Dr) (z : Int) (j : Nat) (d : Dr) : Prop := D[j]? = some d ∧ d.cart = z ∧ ∀ (j' : Nat) (d' : Dr), j' < j → D[j']? = some d' → d'.cart ≠ z
def NoHold (D : List Dr) (z : Int) : Prop := ∀ d ∈ D, d.cart ≠ z
section
variable (lo g : Nat) (vc vd : Value) (C : List Nat) (D : List Dr) (calls : Nat) (w : World) (h : Hid (Lb w lo g vc vd C D calls))
include h
theorem holder_none (z : Int) (hj : NoHold D z) : Calls Try.prog 27 #[.pointer (some ⟨g, 0, none⟩), .int .i64 z] w fun e w' => e = .returned (.pointer none) ∧ w' = w := by
  refine (holder_any lo g vc vd C D calls w h z).mono ?_
  rintro e w' ⟨⟨he, -⟩ | ⟨bd, cd, i, d, hv, he, hd, hz, -⟩, hw⟩
  · exact ⟨he, hw⟩
  · exact (hj d (List.mem_of_getElem? hd) hz).elim
theorem holder_some (z : Int) (j : Nat) (d : Dr) (hj : HoldIs D z j d) : Calls Try.prog 27 #[.pointer (some ⟨g, 0, none⟩), .int .i64 z] w fun e w' => (∃ bd cd, vd = .slice (some ⟨bd, 0, none⟩) D.length cd ∧ e = .returned (.pointer (some ⟨bd, j * 4, none⟩))) ∧ w' = w := by
  refine (holder_any lo g vc vd C D calls w h z).mono ?_
  rintro e w' ⟨⟨he, hno⟩ | ⟨bd, cd, i, d', hv, he, hd, hz, hno⟩, hw⟩
  · exact (hno d (List.mem_of_getElem? hj.1) hj.2.1).elim
  · have : i = j := by
      rcases Nat.lt_trichotomy i j with hlt | rfl | hlt
      · exact (hj.2.2 i d' hlt hd hz).elim
      · rfl
      · exact (hno j d hlt hj.1 hj.2.1).elim
    subst this
    exact ⟨⟨bd, cd, hv, he⟩, hw⟩
set_option maxHeartbeats 1000000 in
set_option maxRecDepth 10000 in
theorem go_no (z pos : Int) (hz : z < 0 ∨ (C.length : Int) ≤ z) : Calls Try.prog 13 #[.pointer (some ⟨g, 0, none⟩), .int .i64 z, .int .i64 pos] w fun e w' => e = .returned (.tuple #[.bool false, .int .i64 1]) ∧ w' = w := by
  have hc := Lib.hid (cart_no lo g vc vd C D calls w h z hz)
  clear h hz
  go_enter Try.func13, Try.ntmps13
  go_wp2_with (go_at_call 11; go_must (refine hc.out.mono ?_); rintro e w' ⟨rfl, hee⟩; rw [hee]; clear hee)
  go_ret2
  exact ⟨rfl, rfl⟩
set_option maxHeartbeats 1000000 in
set_option maxRecDepth 10000 in
theorem go_load (i b : Nat) (hb : C[i]? = some b) (pos : Int) (hp0 : 0 ≤ pos) (hp1 : pos ≤ 1024) (hcl : calls ≤ 1000000) (hn : NoHold D i) (j : Nat) (hj : NextIs D j) :
    Calls Try.prog 13 #[.pointer (some ⟨g, 0, none⟩), .int .i64 i, .int .i64 pos] w fun e w' => e = .returned (.tuple #[.bool false, .int .i64 0]) ∧ Hid (Lb w' lo g vc vd C (D.set j ⟨false, i, 0, ((calls + 1 : Nat) : Int)⟩) (calls + 1)) ∧ TChg lo lts w w' := by
  have hc := Lib.hid (cart_yes lo g vc vd C D calls w h i b hb)
  have i1 : decide (pos < 0) = false := decide_eq_false (by omega)
  have i2 : decide (1024 < pos) = false := decide_eq_false (by omega)
  obtain ⟨ht, tc⟩ := h.out.tick (calls + 1)
  have c2 := blk_cell (j := 2) h.out.blk rfl
  have f2 := blk_free h.out.blk 2
  have e1 : ((calls + 1 : Nat) : Int) = (calls : Int) + 1 := by omega
  have hw : IntKind.i64.wrap ((calls : Int) + 1) = (calls : Int) + 1 := by rw [IntKind.wrap_i64]; omega
  have hho := Lib.hid (holder_none lo g vc vd C D (calls + 1) _ (Lib.hid ht) (i : Int) hn)
  have hlo := Lib.hid (load_some lo g vc vd C D (calls + 1) _ (Lib.hid ht) (i : Int) j hj)
  rw [e1] at ht tc hho hlo
  have htc := Lib.hid tc
  replace e1 := Lib.hid e1
  clear ht tc h hb hn hj
  go_enter Try.func13, Try.ntmps13
  go_wp2_with (first
    | (go_at_call 11; go_must (refine hc.out.mono ?_); rintro e w' ⟨rfl, hee⟩; rw [hee]; clear hee)
    | (go_at_call 27; go_must (refine hho.out.mono ?_); rintro e w' ⟨rfl, hee⟩; rw [hee]; clear hee)
    | (go_at_call 28; go_must (refine hlo.out.mono ?_); rintro e w5 ⟨rfl, h5, t5⟩))
  go_ret2
  exact ⟨rfl, by rw [e1.out]; exact h5, (htc.out.mono (Nat.le_refl _) (by simp)).trans t5⟩
set_option maxHeartbeats 1000000 in
set_option maxRecDepth 10000 in
theorem go_down (i b : Nat) (hb : C[i]? = some b) (pos : Int) (hp0 : 0 ≤ pos) (hp1 : pos ≤ 1024) (hcl : calls ≤ 1000000) (hn : NoHold D i) (hj : NoNext D) :
    Calls Try.prog 13 #[.pointer (some ⟨g, 0, none⟩), .int .i64 i, .int .i64 pos] w fun e w' => e = .returned (.tuple #[.bool false, .int .i64 11]) ∧ Hid (Lb w' lo g vc vd C D (calls + 1)) ∧ TChg lo lts w w' := by
  have hc := Lib.hid (cart_yes lo g vc vd C D calls w h i b hb)
  have i1 : decide (pos < 0) = false := decide_eq_false (by omega)
  have i2 : decide (1024 < pos) = false := decide_eq_false (by omega)
  obtain ⟨ht, tc⟩ := h.out.tick (calls + 1)
  have c2 := blk_cell (j := 2) h.out.blk rfl
  have f2 := blk_free h.out.blk 2
  have e1 : ((calls + 1 : Nat) : Int) = (calls : Int) + 1 := by omega
  have hw : IntKind.i64.wrap ((calls : Int) + 1) = (calls : Int) + 1 := by rw [IntKind.wrap_i64]; omega
  have hho := Lib.hid (holder_none lo g vc vd C D (calls + 1) _ (Lib.hid ht) (i : Int) hn)
  have hlo := Lib.hid (load_none lo g vc vd C D (calls + 1) _ (Lib.hid ht) (i : Int) hj)
  rw [e1] at ht tc hho hlo
  have htc := Lib.hid tc
  have ht' := Lib.hid ht
  replace e1 := Lib.hid e1
  clear ht tc h hb hn hj
  go_enter Try.func13, Try.ntmps13
  go_wp2_with (first
    | (go_at_call 11; go_must (refine hc.out.mono ?_); rintro e w' ⟨rfl, hee⟩; rw [hee]; clear hee)
    | (go_at_call 27; go_must (refine hho.out.mono ?_); rintro e w' ⟨rfl, hee⟩; rw [hee]; clear hee)
    | (go_at_call 28; go_must (refine hlo.out.mono ?_); rintro e w5 ⟨rfl, t5⟩))
  go_ret2
  exact ⟨rfl, Lb.gr t5 ht', (htc.out.mono (Nat.le_refl _) (by simp)).trans (TChg.of_below t5)⟩
set_option maxHeartbeats 1000000 in
set_option maxRecDepth 10000 in
theorem go_held (i b : Nat) (hb : C[i]? = some b) (pos : Int) (hp0 : 0 ≤ pos) (hp1 : pos ≤ 1024) (hcl : calls ≤ 1000000) (j : Nat) (d : Dr) (hj : HoldIs D i j d) :
    Calls Try.prog 13 #[.pointer (some ⟨g, 0, none⟩), .int .i64 i, .int .i64 pos] w fun e w' => e = .returned (.tuple #[.bool (d.pos == pos), .int .i64 0]) ∧ Hid (Lb w' lo g vc vd C (D.set j { d with pos := pos, named := ((calls + 1 : Nat) : Int) }) (calls + 1)) ∧ TChg lo lts w w' := by
  have hc := Lib.hid (cart_yes lo g vc vd C D calls w h i b hb)
  have i1 : decide (pos < 0) = false := decide_eq_false (by omega)
  have i2 : decide (1024 < pos) = false := decide_eq_false (by omega)
  obtain ⟨ht, tc⟩ := h.out.tick (calls + 1)
  have c2 := blk_cell (j := 2) h.out.blk rfl
  have f2 := blk_free h.out.blk 2
  have e1 : ((calls + 1 : Nat) : Int) = (calls : Int) + 1 := by omega
  have hw : IntKind.i64.wrap ((calls : Int) + 1) = (calls : Int) + 1 := by rw [IntKind.wrap_i64]; omega
  have hho := Lib.hid (holder_some lo g vc vd C D (calls + 1) _ (Lib.hid ht) (i : Int) j d hj)
  have hl : j < D.length := (List.getElem?_eq_some_iff.1 hj.1).1
  have hD := hj.1
  clear h hb hj
  rw [e1] at ht tc hho
  generalize hW1 : w.setCell ⟨g, 2, none⟩ (.int .i64 ((calls : Int) + 1)) = W1 at ht tc hho
  obtain ⟨Ad, cd, hv⟩ : ∃ Ad cd, vd = .slice Ad D.length cd := by obtain ⟨Ac, cc, Ad, cd, -, hv⟩ := ht.form; exact ⟨Ad, cd, hv⟩
  subst hv
  obtain ⟨bd, rfl, -, -, hcell⟩ := ht.driveAt (by omega)
  obtain ⟨-, -, a2, a3⟩ := hcell j d hD
  have k2 := blk_cell (j := 2) ht.blk rfl
  obtain ⟨h3, t3, z3⟩ := ht.setD (k := 3) (u := .int .i64 ((calls : Int) + 1)) (d' := { d with named := (calls : Int) + 1 }) hD (by decide) rfl
  have hD1 : (D.set j { d with named := (calls : Int) + 1 })[j]? = some { d with named := (calls : Int) + 1 } := by rw [List.getElem?_set_self hl]
  obtain ⟨h4, t4, z4⟩ := h3.setD (k := 2) (u := .int .i64 pos) (d' := { d with pos := pos, named := (calls : Int) + 1 }) hD1 (by decide) rfl
  rw [List.set_set] at h4
  have hl2 := Lib.hid h3
  obtain ⟨bz, hbz, -, -, hcell2⟩ := h3.driveAt (by rw [List.length_set]; omega)
  injection hbz with hbz
  injection hbz with hbz
  subst hbz
  obtain ⟨-, -, a4, -⟩ := hcell2 j _ hD1
  replace a4 : (W1.setCell ⟨bd, j * 4 + 3, none⟩ (.int .i64 ((calls : Int) + 1))).cell? ⟨bd, j * 4 + 2, none⟩ = some (.int .i64 d.pos) := a4
  have hfin := Lib.hid h4
  have htt : Hid (TChg lo lts w ((W1.setCell ⟨bd, j * 4 + 3, none⟩ (.int .i64 ((calls : Int) + 1))).setCell ⟨bd, j * 4 + 2, none⟩ (.int .i64 pos))) := Lib.hid ((tc.mono (Nat.le_refl _) (by simp)).trans ((t3.trans t4).mono (Nat.le_refl _) (by simp)))
  obtain ⟨dp, hdp⟩ : ∃ dp, d.pos = dp := ⟨_, rfl⟩
  rw [hdp] at a2 a4 ⊢
  replace hdp := Lib.hid hdp
  replace hD := Lib.hid hD
  replace hD1 := Lib.hid hD1
  replace e1 := Lib.hid e1
  clear ht tc h3 t3 h4 t4 hcell hcell2
  go_enter Try.func13, Try.ntmps13
  go_wp2_with (first
    | (go_at_call 11; go_must (refine hc.out.mono ?_); rintro e w' ⟨rfl, hee⟩; rw [hee]; clear hee)
    | (go_at_call 27; (try rw [hW1]); go_must (refine hho.out.mono ?_); rintro e w' ⟨⟨bd2, cd2, hq, rfl⟩, hee⟩; rw [hee]; clear hee; injection hq with hq _ _; injection hq with hq; injection hq with hq; subst hq; clear hW1))
  go_ret2
  exact ⟨rfl, by rw [e1.out]; exact hfin, htt.out⟩
end
end Go.Proofs.Ytfjhdcppehfiiaa
