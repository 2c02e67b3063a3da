/- Add in general: the fuse may end it. -/
import Derived.Test.YtgdbbjijneidaaaJr24
namespace Go.Proofs.Ytgdbbjijneidaaa
set_option linter.unusedVariables false
set_option linter.unusedSimpArgs false
open Go Go.RowKit
/-- a disk behind one note added -/
def adS (s : DS) (Y : List UInt8) : Int × DS := if (s.append Y).1 = 0 then (s.append Y).2.sync else s.append Y
/-- the journal's size behind one note added -/
def adZ (s : DS) (Y : List UInt8) (z : Nat) : Nat := if (adS s Y).1 = 0 then z + Y.length else z
def jts : List TypeId := [5, 97, 99]
theorem Chg.tchg {lo hi g : Nat} {s : DS} {w w' : World} (hd : Dk w lo hi g s) (h : Chg lo g w w') : TChg lo jts w w' := by
  obtain ⟨v0, hh, -⟩ := hd
  refine ⟨h.1, h.2.1, h.2.2.1, h.2.2.2.1, fun k hk hn => h.2.2.2.2 k hk (fun hs => hn ⟨hs.1, ?_⟩)⟩
  rcases hs.2 with rfl | ⟨cs, e⟩
  · exact ⟨_, _, hh, by decide⟩
  · exact ⟨_, _, e, by decide⟩
theorem Upd.tchg {lo hi g : Nat} {s : DS} {w w' : World} (hd : Dk w lo hi g s) (h : Upd (· = g) w w') : TChg lo jts w w' := Chg.tchg hd (Chg.of_upd h hd.bounds.1)
theorem Jn.ne {w : World} {J g lo hi : Nat} {z : Int} {s : DS} (hJ : Jn w J g z) (h : Dk w lo hi g s) : J ≠ g := by
  rintro rfl
  obtain ⟨v0, hh, -⟩ := h
  rw [hJ] at hh
  injection hh with hh
  injection hh with _ hT _
  revert hT
  decide
set_option maxHeartbeats 4000000 in
set_option maxRecDepth 10000 in
theorem add_any (lo hi g J : Nat) (s : DS) (z : Nat) (n : Nt) (v : Value) (w : World) (h : Dk w lo hi g s) (hJ : Jn w J g z) (hJl : lo ≤ J) (hn : NtV n v w) (hgd : goodN n = true) (hz : z ≤ 262144) :
    Calls Try.prog 39 #[.pointer (some ⟨J, 0, none⟩), v] w fun e w' => e = .returned (.int .i64 (adS s (frameB (encN n))).1) ∧ Dk w' lo w'.heap.size g (adS s (frameB (encN n))).2 ∧ Jn w' J g (adZ s (frameB (encN n)) z : Nat) ∧ TChg lo jts w w' := by
  have hJg : J ≠ g := Jn.ne hJ h
  have hlw : lo ≤ w.heap.size := by have := h.bounds; omega
  have hok := h.ok
  have hv := hn
  obtain ⟨A, c, A2, c2, rfl, -, -⟩ := hn
  have hb := Gr.alloc w (.cells (n.cells A c A2 c2) 25)
  have hen := encode_ok n _ _ (NtV.gr hb (Lib.hid hv)).out hgd
  replace hen := Lib.hid hen
  have hD1 := Lib.hid (h.below hb)
  have hJ1 := Lib.hid (blk_below hJ hb)
  have hlen2 := encN_len ((good_iff n).1 hgd)
  have hl1 : Hid (TChg lo jts w (w.alloc (.cells (n.cells A c A2 c2) 25))) := Lib.hid (TChg.of_below hb)
  unfold Nt.cells at hen hD1 hJ1 hl1
  clear hb hv h hJ
  unfold Nt.agg at hen ⊢
  obtain ⟨X, hX⟩ : ∃ X, encN n = X := ⟨_, rfl⟩
  rw [hX] at hlen2 hen ⊢
  replace hX := Lib.hid hX
  obtain ⟨Y, hY⟩ : ∃ Y, frameB X = Y := ⟨_, rfl⟩
  have hYl := frameB_len X
  rw [hY] at hYl ⊢
  replace hYl := Lib.hid hYl
  replace hY := Lib.hid hY
  go_enter Try.func39, Try.ntmps39
  go_wp2_with fail
  refine hen.out.mono ?_
  rintro e w2 ⟨v2, rfl, ho2, hg2⟩
  replace hD1 := Lib.hid (hD1.out.below hg2)
  replace hJ1 := Lib.hid (blk_below hJ1.out hg2)
  replace hl1 := Lib.hid (hl1.out.trans (TChg.of_below hg2))
  have hfr := Lib.hid (frame_any X v2 (by omega) w2 (Byt.ob ho2))
  obtain ⟨A2', m2, c2', rfl⟩ := ho2.shape
  clear hen hg2 ho2
  go_wp2_with fail
  refine hfr.out.mono ?_
  rintro e w3 ⟨v3, rfl, ho3, hg3⟩
  rw [hY.out] at ho3
  replace hD1 := Lib.hid (hD1.out.below hg3)
  replace hJ1 := Lib.hid (blk_below hJ1.out hg3)
  replace hl1 := Lib.hid (hl1.out.trans (TChg.of_below hg3))
  obtain ⟨A3, c3, rfl, hc31, hc32, hR3, -⟩ := ho3.form
  obtain ⟨ny, hny⟩ : ∃ ny, Y.length = ny := ⟨_, rfl⟩
  have hYl := hYl.out
  rw [hny] at hc31 hYl ⊢
  have hny2 : ny ≤ 100000 := by omega
  replace hny := Lib.hid hny
  clear hYl
  have hap := append_any lo _ g s A3 ny c3 Y hny.out (by omega) w3 hD1.out hR3
  obtain ⟨R, hR⟩ : ∃ R, s.append Y = R := ⟨_, rfl⟩
  have hadS : Hid (adS s Y = if R.1 = 0 then R.2.sync else R) := Lib.hid (by unfold adS; rw [hR])
  rw [hR] at hap
  replace hap := Lib.hid hap
  replace hR := Lib.hid hR
  have x0 := blk_cell (j := 0) (v := .pointer (some ⟨g, 0, none⟩)) hJ1.out rfl
  clear hfr hg3 ho3 hR3
  go_wp2_with fail
  refine hap.out.mono ?_
  clear hap x0
  rintro e w4 ⟨rfl, hD4, hc4⟩
  replace hJ1 := Lib.hid (hc4.block hJ1.out hJg (by decide))
  replace hl1 := Lib.hid (hl1.out.trans (Chg.tchg hD1.out hc4))
  by_cases hz1 : R.1 = 0
  · have hsy := sync_any lo _ g _ w4 hD4
    obtain ⟨R2, hR2⟩ : ∃ R2, R.2.sync = R2 := ⟨_, rfl⟩
    have had2 : Hid (adS s Y = R2) := Lib.hid (by rw [hadS.out, if_pos hz1, hR2])
    rw [hR2] at hsy
    replace hsy := Lib.hid hsy
    replace hR2 := Lib.hid hR2
    have x0 := blk_cell (j := 0) (v := .pointer (some ⟨g, 0, none⟩)) hJ1.out rfl
    have hz2 : (R.1 == 0) = true := beq_iff_eq.mpr hz1
    have hD4' := Lib.hid hD4
    clear hD4 hc4 hD1
    go_wp2_with fail
    refine hsy.out.mono ?_
    clear hsy x0
    rintro e w5 ⟨rfl, hD5, hc5⟩
    replace hJ1 := Lib.hid (hc5.block hJ1.out hJg (by decide))
    replace hl1 := Lib.hid (hl1.out.trans (Chg.tchg hD4'.out hc5))
    by_cases hz3 : R2.1 = 0
    · have hz4 : (R2.1 == 0) = true := beq_iff_eq.mpr hz3
      have hD6 : Hid (Dk (w5.setCell ⟨J, 1, none⟩ (.int .i64 (z + ny : Nat))) lo (w5.setCell ⟨J, 1, none⟩ (.int .i64 (z + ny : Nat))).heap.size g R2.2) := Lib.hid (by
        obtain ⟨v0, hh, q1, q2, q3, q4, q5, q6⟩ := hD5
        have hz5 : (w5.setCell ⟨J, 1, none⟩ (.int .i64 (z + ny : Nat))).heap.size = w5.heap.size := by simp [World.setCell]
        exact ⟨v0, (blk_other (Ne.symm hJg) 1 _).trans hh, q1, by rw [hz5]; omega, Nat.le_refl _, OB.set_other q4 1 _ (OB.ne_blk q4 hJ1.out (by decide)), fun k hk => by have := q5 k hk; rw [hz5]; omega, q6⟩)
      have x1 := blk_cell (j := 1) (v := .int .i64 z) hJ1.out rfl
      have f1 := blk_free hJ1.out 1
      have hJ6 := Lib.hid (blk_set hJ1.out 1 (.int .i64 (z + ny : Nat)))
      have hl6 := Lib.hid (hl1.out.trans (TChg.of_set hJ1.out (by decide) hJl 1 (.int .i64 (z + ny : Nat))))
      have hw64 : IntKind.i64.wrap ((z : Int) + (ny : Int)) = ((z + ny : Nat) : Int) := by rw [IntKind.wrap_i64]; omega
      have hz3' := Lib.hid hz3
      clear hD5 hc5 hJ1 hl1
      go_wp2_with fail
      rw [had2.out]
      go_ret
      refine ⟨by first | rfl | (rw [hz3'.out]; rfl) | rw [hz3'.out], hD6.out, ?_, hl6.out⟩
      have ez : adZ s Y z = z + ny := by unfold adZ; rw [had2.out, if_pos hz3'.out, hny.out]
      rw [ez]
      exact hJ6.out
    · have hz4 : (R2.1 == 0) = false := beq_eq_false_iff_ne.mpr hz3
      have hz3' := Lib.hid hz3
      replace hD5 := Lib.hid hD5
      clear hc5
      go_wp2_with fail
      rw [had2.out]
      go_ret
      refine ⟨rfl, hD5.out.more (hD5.out.bounds).2.2 (Nat.le_refl _), ?_, hl1.out⟩
      have ez : adZ s Y z = z := by unfold adZ; rw [had2.out, if_neg hz3'.out]
      rw [ez]
      exact hJ1.out
  · have hz2 : (R.1 == 0) = false := beq_eq_false_iff_ne.mpr hz1
    have had2 : Hid (adS s Y = R) := Lib.hid (by rw [hadS.out, if_neg hz1])
    have hz3' := Lib.hid hz1
    replace hD4 := Lib.hid hD4
    clear hc4 hD1
    go_wp2_with fail
    rw [had2.out]
    go_ret
    refine ⟨rfl, hD4.out, ?_, hl1.out⟩
    have ez : adZ s Y z = z := by unfold adZ; rw [had2.out, if_neg hz3'.out]
    rw [ez]
    exact hJ1.out
end Go.Proofs.Ytgdbbjijneidaaa
