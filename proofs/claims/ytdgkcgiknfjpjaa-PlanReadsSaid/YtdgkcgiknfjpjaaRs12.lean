/- rs: the reference's Decode. -/
import Derived.Test.YtdgkcgiknfjpjaaRsC
import Derived.Deep.DeepCutAuto
namespace Go.Proofs.Ytdgkcgiknfjpjaa
set_option linter.unusedVariables false
set_option linter.unusedSimpArgs false
open Go Go.RowKit
def RRDec (L : List (List UInt8)) (D : Mx) (w : World) (e : Ending) (w' : World) : Prop := Gr w w' ∧
  ((shardsOk L ∧ 8 ≤ (pidx L 10).length ∧ ∃ A c, e = .returned (.tuple #[.slice A 128 c, .int .i64 0]) ∧ Hid (OB w' w.heap.size (.slice A 128 c) (flat 8 16 D))) ∨
   (shardsOk L ∧ (pidx L 10).length < 8 ∧ e = .returned (.tuple #[.slice none 0 0, .int .i64 9])) ∨
   (¬ shardsOk L ∧ e = .returned (.tuple #[.slice none 0 0, .int .i64 1])))
theorem upd_set {w : World} {g : Nat} (i : Nat) (v : Value) : Upd (fun q => q = g) w (w.setCell ⟨g, i, none⟩ v) :=
  ⟨rfl, rfl, rfl, by simp, fun k _ hs => blk_other (fun e => hs e) i v⟩
theorem facL_length (s : Nat) : (facL s).length = 8 := row_length _ _
theorem RT.cell_at {w : World} {B b o n : Nat} {L : List (List UInt8)} (h : RT w B (some ⟨b, o, none⟩) n L) {i : Nat} (hi : i < n) : ∃ A' c', w.cell? ⟨b, o + i, none⟩ = some (.slice A' (L.getD i []).length c') ∧ (L.getD i []).length ≤ c' ∧ Rd w B A' (L.getD i []) := by
  obtain ⟨b2, o2, A2, c2, l2, e2, -, hl2, hc2, h1, -, hrd2⟩ := h.at_ hi
  injection e2 with e2
  injection e2 with e21 e22
  subst e21 e22
  have e3 : L.getD i [] = l2 := by rw [List.getD_eq_getElem?_getD, hl2]; rfl
  rw [e3]
  exact ⟨A2, c2, hc2, h1, hrd2⟩
set_option maxHeartbeats 16000000 in
set_option maxRecDepth 20000 in
theorem rrdec_any {L : List (List UInt8)} {D : Mx} {b o c : Nat} (hL10 : Hid (L.length = 10)) (hc : 10 ≤ c) (hD : Hid (shardsOk L → 8 ≤ (pidx L 10).length → Solves L D)) (w : World) (hRT : Hid (RT w w.heap.size (some ⟨b, o, none⟩) 10 L)) : Calls Try.prog 58 #[.slice (some ⟨b, o, none⟩) 10 c] w (RRDec L D w) := by
  have hq0 : Hid (Gr w w) := Lib.hid (Below.refl _ _)
  have hb0 : Below w.heap.size w ((w.alloc (.cells #[] 3)).alloc (.cells #[] 3)) := ((Below.refl _ w).alloc (Nat.le_refl _) _).alloc (by simp) _
  have h5 := Lib.hid ((OI.empty w w.heap.size (Nat.le_refl _)).below ((Below.refl _ _).alloc (Nat.le_refl _) (.cells #[] 3)))
  have h6 := Lib.hid (OI.empty (w.alloc (.cells #[] 3)) w.heap.size (by simp))
  have hS : Hid (Sep (.slice (some ⟨w.heap.size, 0, none⟩) 0 0) (.slice (some ⟨w.heap.size + 1, 0, none⟩) 0 0)) := Lib.hid (fun q h1 h2 => by
    injection h1 with h1
    injection h2 with h2
    simp at h1 h2
    omega)
  have h6' : Hid (OI ((w.alloc (.cells #[] 3)).alloc (.cells #[] 3)) w.heap.size (.slice (some ⟨w.heap.size + 1, 0, none⟩) 0 0) []) := Lib.hid (by have := h6.out; rwa [World.size_alloc] at this)
  replace hb0 := Lib.hid hb0
  clear h6
  go_enter Try.func58, Try.ntmps58
  go_wp2_with fail
  obtain ⟨w3, hw3⟩ : ∃ x, (w.alloc (.cells #[] 3)).alloc (.cells #[] 3) = x := ⟨_, rfl⟩
  rw [hw3] at h5 h6' hb0 ⊢
  replace hw3 := Lib.hid hw3
  go_loopw [4, 5, 6, 7] (fun n v5 v6 i wr => ∃ (t cnt : Nat) (x5 x6 : Value), t ≤ 10 ∧ cnt ≤ t ∧ i = .int .i64 t ∧ n = .int .i64 cnt ∧ x5 = v5 ∧ x6 = v6 ∧ Hid (cnt = (pidx L t).length) ∧ Hid (OI wr w.heap.size x5 (lackL L t)) ∧ Hid (OI wr w.heap.size x6 (sumsL L t)) ∧ Hid (Sep x5 x6) ∧ Hid (∀ r, r < t → (L.getD r []).length = 0 ∨ (L.getD r []).length = 16) ∧ Hid (Below w.heap.size w wr)) (fun _ _ _ i _ => 10 - (intOf i).toNat)
  case atStart => exact ⟨0, 0, _, _, Nat.zero_le _, Nat.le_refl _, rfl, rfl, rfl, rfl, Lib.hid rfl, h5, h6', hS, Lib.hid (fun r h => absurd h (by omega)), hb0⟩
  case round =>
    obtain ⟨t, cnt, x5, x6, ht, hct, rfl, rfl, rfl, rfl, hcnt, h5, h6, hS, hv, hq1⟩ := hrel
    clear hb0 h6'
    obtain ⟨wo, hwo⟩ : ∃ wo, wo = wr := ⟨_, rfl⟩
    subst hwo
    by_cases hlt : t < 10
    · have it : (t : Int) < 10 := by omega
      obtain ⟨A', c', hcell, -, -⟩ := (hRT.out.up hq1.out).cell_at hlt
      rcases Nat.lt_or_ge 0 (L.getD t []).length with hpos | hzero
      · by_cases h16 : (L.getD t []).length = 16
        · have hln : (L.getD t []).length = 16 := h16
          rw [hln] at hcell
          have hc2 : Hid (cnt + 1 = (pidx L (t + 1)).length) := Lib.hid (by rw [pidx_yes hpos, List.length_append, ← hcnt.out]; rfl)
          have hv2 : Hid (∀ r, r < t + 1 → (L.getD r []).length = 0 ∨ (L.getD r []).length = 16) := Lib.hid (fun q hq => by
            by_cases e : q = t
            · rw [e]; exact .inr hln
            · exact hv.out q (by omega))
          clear h16 hpos
          by_cases h8 : t < 8
          · have i8 : (t : Int) < 8 := by omega
            have i8b : decide ((8 : Int) ≤ (t : Int)) = false := decide_eq_false (by omega)
            have hn5 : Hid (OI wo w.heap.size x5 (lackL L (t + 1))) := Lib.hid (by unfold lackL; rw [filter_no (by rw [decide_eq_false (show ¬ (L.getD t []).length = 0 by omega), Bool.and_false])]; exact h5.out)
            have hn6 : Hid (OI wo w.heap.size x6 (sumsL L (t + 1))) := Lib.hid (by unfold sumsL; rw [filter_no (by rw [decide_eq_false (show ¬ 8 ≤ t by omega)]; rfl)]; exact h6.out)
            replace hln := Lib.hid hln
            go_wp2_with fail
            go_roundw
            case rel => first | exact ⟨t + 1, cnt + 1, x5, x6, by omega, by omega, by go_num, by go_num, rfl, rfl, hc2, hn5, hn6, hS, hv2, hq1⟩ | ((repeat apply Exists.intro); exact ⟨⟨t + 1, cnt + 1, x5, x6, by omega, by omega, by go_num, by go_num, rfl, rfl, hc2, hn5, hn6, hS, hv2, hq1⟩, rfl⟩)
            case measure => simp [intOf]; omega
          · have i8 : decide ((t : Int) < 8) = false := decide_eq_false (by omega)
            have i8b : (8 : Int) ≤ (t : Int) := by omega
            have hyes : Hid (8 ≤ t ∧ 0 < (L.getD t []).length) := Lib.hid ⟨by omega, by omega⟩
            have hno : Hid (¬ (t < 8) ∨ ¬ ((L.getD t []).length = 0)) := Lib.hid (.inl (by omega))
            replace hln := Lib.hid hln
            have hbb : Below wo.heap.size wo (wo.alloc (.cells #[.int .i64 (t : Int)] 3)) := (Below.refl _ _).alloc (Nat.le_refl _) _
            have hlit := Lib.hid (reads_one wo 3 (.int .i64 (t : Int)))
            have ha5 := Lib.hid (h6.out.below hbb)
            have ha6 := Lib.hid (h5.out.below hbb)
            have hq4 := Lib.hid (hq1.out.trans (hbb.mono hq1.out.size))
            have hB5 : w.heap.size ≤ (wo.alloc (.cells #[.int .i64 (t : Int)] 3)).heap.size := by have := hq1.out.size; simp; omega
            have hpl : Hid ((sumsL L t).length ≤ 1000000) := Lib.hid (by
              unfold sumsL
              refine Nat.le_trans (List.length_filter_le _ _) ?_
              rw [List.length_range]; omega)
            clear hbb
            go_wp2_with (at_builtin; go_must (refine wpl_append_int rfl (.tmp 82) (.tmp 84) rfl w.heap.size x6 (sumsL L t) rfl ha5.out t _ _ 1 rfl hlit.out hpl.out hB5 ?_); intro v8 w8 ho8 hg8 hown8; replace ho8 := Lib.hid ho8; replace hg8 := Lib.hid hg8; replace hown8 := Lib.hid hown8)
            have hq8 : Hid (Below w.heap.size w w8) := Lib.hid (hq4.out.grown hg8.out hq4.out.size (fun q hq => (ha5.out.up q hq).1))
            have ho9 := ha6.out.grown hg8.out (fun q hq => hS.out.symm q hq)
            have hn9 : Hid (OI w8 w.heap.size v8 (sumsL L (t + 1))) := Lib.hid (by unfold sumsL; rw [filter_yes (by simp only [Bool.and_eq_true, decide_eq_true_eq]; exact hyes.out)]; exact ho8.out)
            have hm9 : Hid (OI w8 w.heap.size x5 (lackL L (t + 1))) := Lib.hid (by unfold lackL; rw [filter_no (by simp only [Bool.and_eq_false_iff, decide_eq_false_iff_not]; exact hno.out)]; exact ho9)
            have hs9 := Lib.hid (osep_new hS.out.symm hown8.out ha6.out)
            clear ho8 hg8 hown8 ho9 ha5 ha6 hq4 hlit hB5 hpl
            replace hs9 := Lib.hid hs9.out.symm
            go_roundw
            case rel => first | exact ⟨t + 1, cnt + 1, x5, v8, by omega, by omega, by go_num, by go_num, rfl, rfl, hc2, hm9, hn9, hs9, hv2, hq8⟩ | ((repeat apply Exists.intro); exact ⟨⟨t + 1, cnt + 1, x5, v8, by omega, by omega, by go_num, by go_num, rfl, rfl, hc2, hm9, hn9, hs9, hv2, hq8⟩, rfl⟩)
            case measure => simp [intOf]; omega
        · obtain ⟨ln, hln⟩ : ∃ ln, (L.getD t []).length = ln := ⟨_, rfl⟩
          rw [hln] at hcell hpos h16
          have d1 : ((ln : Int) != 0) = true := by simp; omega
          have d2 : ((ln : Int) != 16) = true := by simp; omega
          have hbad : Hid (¬ shardsOk L) := Lib.hid (fun hh => by
            rcases hh t hlt with h | h
            · rw [hln] at h; omega
            · rw [hln] at h; exact h16 h)
          replace h16 := Lib.hid h16
          replace hln := Lib.hid hln
          go_wp2_with fail
          go_ret2
          exact ⟨hq1.out, .inr (.inr ⟨hbad.out, rfl⟩)⟩
      · have hln : (L.getD t []).length = 0 := by omega
        rw [hln] at hcell
        have hc2 : Hid (cnt = (pidx L (t + 1)).length) := Lib.hid (by rw [pidx_no hln]; exact hcnt.out)
        have hv2 : Hid (∀ r, r < t + 1 → (L.getD r []).length = 0 ∨ (L.getD r []).length = 16) := Lib.hid (fun q hq => by
          by_cases e : q = t
          · rw [e]; exact .inl hln
          · exact hv.out q (by omega))
        clear hzero
        by_cases h8 : t < 8
        · have i8 : (t : Int) < 8 := by omega
          have i8b : decide ((8 : Int) ≤ (t : Int)) = false := decide_eq_false (by omega)
          have hyes : Hid (t < 8 ∧ (L.getD t []).length = 0) := Lib.hid ⟨h8, hln⟩
          have hno : Hid (¬ (8 ≤ t) ∨ ¬ (0 < (L.getD t []).length)) := Lib.hid (.inl (by omega))
          replace hln := Lib.hid hln
          have hbb : Below wo.heap.size wo (wo.alloc (.cells #[.int .i64 (t : Int)] 3)) := (Below.refl _ _).alloc (Nat.le_refl _) _
          have hlit := Lib.hid (reads_one wo 3 (.int .i64 (t : Int)))
          have ha5 := Lib.hid (h5.out.below hbb)
          have ha6 := Lib.hid (h6.out.below hbb)
          have hq4 := Lib.hid (hq1.out.trans (hbb.mono hq1.out.size))
          have hB5 : w.heap.size ≤ (wo.alloc (.cells #[.int .i64 (t : Int)] 3)).heap.size := by have := hq1.out.size; simp; omega
          have hpl : Hid ((lackL L t).length ≤ 1000000) := Lib.hid (by
            unfold lackL
            refine Nat.le_trans (List.length_filter_le _ _) ?_
            rw [List.length_range]; omega)
          clear hbb
          go_wp2_with (at_builtin; go_must (refine wpl_append_int rfl (.tmp 68) (.tmp 70) rfl w.heap.size x5 (lackL L t) rfl ha5.out t _ _ 1 rfl hlit.out hpl.out hB5 ?_); intro v8 w8 ho8 hg8 hown8; replace ho8 := Lib.hid ho8; replace hg8 := Lib.hid hg8; replace hown8 := Lib.hid hown8)
          have hq8 : Hid (Below w.heap.size w w8) := Lib.hid (hq4.out.grown hg8.out hq4.out.size (fun q hq => (ha5.out.up q hq).1))
          have ho9 := ha6.out.grown hg8.out (fun q hq => hS.out q hq)
          have hn9 : Hid (OI w8 w.heap.size v8 (lackL L (t + 1))) := Lib.hid (by unfold lackL; rw [filter_yes (by simp only [Bool.and_eq_true, decide_eq_true_eq]; exact hyes.out)]; exact ho8.out)
          have hm9 : Hid (OI w8 w.heap.size x6 (sumsL L (t + 1))) := Lib.hid (by unfold sumsL; rw [filter_no (by simp only [Bool.and_eq_false_iff, decide_eq_false_iff_not]; exact hno.out)]; exact ho9)
          have hs9 := Lib.hid (osep_new hS.out hown8.out ha6.out)
          clear ho8 hg8 hown8 ho9 ha5 ha6 hq4 hlit hB5 hpl
          go_roundw
          case rel => first | exact ⟨t + 1, cnt, v8, x6, by omega, by omega, by go_num, by go_num, rfl, rfl, hc2, hn9, hm9, hs9, hv2, hq8⟩ | ((repeat apply Exists.intro); exact ⟨⟨t + 1, cnt, v8, x6, by omega, by omega, by go_num, by go_num, rfl, rfl, hc2, hn9, hm9, hs9, hv2, hq8⟩, rfl⟩)
          case measure => simp [intOf]; omega
        · have i8 : decide ((t : Int) < 8) = false := decide_eq_false (by omega)
          have i8b : (8 : Int) ≤ (t : Int) := by omega
          have hn5 : Hid (OI wo w.heap.size x5 (lackL L (t + 1))) := Lib.hid (by unfold lackL; rw [filter_no (by rw [decide_eq_false (show ¬ t < 8 by omega)]; rfl)]; exact h5.out)
          have hn6 : Hid (OI wo w.heap.size x6 (sumsL L (t + 1))) := Lib.hid (by unfold sumsL; rw [filter_no (by rw [decide_eq_false (show ¬ 0 < (L.getD t []).length by omega), Bool.and_false])]; exact h6.out)
          replace hln := Lib.hid hln
          go_wp2_with fail
          go_roundw
          case rel => first | exact ⟨t + 1, cnt, x5, x6, by omega, by omega, by go_num, by go_num, rfl, rfl, hc2, hn5, hn6, hS, hv2, hq1⟩ | ((repeat apply Exists.intro); exact ⟨⟨t + 1, cnt, x5, x6, by omega, by omega, by go_num, by go_num, rfl, rfl, hc2, hn5, hn6, hS, hv2, hq1⟩, rfl⟩)
          case measure => simp [intOf]; omega
    · obtain rfl : t = 10 := by omega
      have it : decide (((10 : Nat) : Int) < 10) = false := by decide
      have hok : Hid (shardsOk L) := hv
      clear hv
      by_cases hfew : cnt < 8
      · have i8 : (cnt : Int) < 8 := by omega
        go_wp2_with fail
        go_ret2
        exact ⟨hq1.out, .inr (.inl ⟨hok.out, by rw [← hcnt.out]; exact hfew, rfl⟩)⟩
      · have i8 : decide ((cnt : Int) < 8) = false := decide_eq_false (by omega)
        have h8 : 8 ≤ (pidx L 10).length := by rw [← hcnt.out]; omega
        have hlc := Lib.hid (lack_case hok.out h8 (hD.out hok.out h8))
        replace h8 := Lib.hid h8
        have hwsz : w.heap.size ≤ wo.heap.size := hq1.out.size
        go_wp2_with (refine wpl_make rfl (.const (.int .i64 128)) (.const (.int .i64 128)) rfl wo.heap.size 128 rfl rfl (by omega) (Nat.le_refl _) ?_; intro w4 ho4 hb4; replace ho4 := Lib.hid ho4; replace hb4 := Lib.hid hb4)
        have hz0 : Hid (OB w4 wo.heap.size (.slice (some ⟨wo.heap.size, 0, none⟩) 128 128) (oF L (16 * 0))) := Lib.hid (by rw [Nat.mul_zero, oF_zero]; exact ho4.out)
        clear ho4
        go_loopw [9] (fun i wr => ∃ k : Nat, k ≤ 8 ∧ i = .int .i64 k ∧ Hid (OB wr wo.heap.size (.slice (some ⟨wo.heap.size, 0, none⟩) 128 128) (oF L (16 * k))) ∧ Hid (Below wo.heap.size wo wr)) (fun i _ => 8 - (intOf i).toNat)
        case atStart => exact ⟨0, Nat.zero_le _, rfl, hz0, hb4⟩
        case round =>
          obtain ⟨k, hk, rfl, hz, hb⟩ := hrel
          clear hz0 hb4
          obtain ⟨wp, hwp⟩ : ∃ wp, wp = wr := ⟨_, rfl⟩
          subst hwp
          by_cases hlk : k < 8
          · have ik : (k : Int) < 8 := by omega
            have ik10 : (k : Int) < 10 := by omega
            rcases hok.out k (by omega) with h0 | h16
            · obtain ⟨A', c', hcell, -, -⟩ := (hRT.out.up (hq1.out.trans (hb.out.mono hwsz))).cell_at (show k < 10 by omega)
              rw [h0] at hcell
              have hz3 : Hid (OB wp wo.heap.size (.slice (some ⟨wo.heap.size, 0, none⟩) 128 128) (oF L (16 * (k + 1)))) := Lib.hid (by rw [← oF_none h0, Nat.add_zero]; exact hz.out)
              replace h0 := Lib.hid h0
              go_wp2_with fail
              go_loopw [10] (fun i wr => i = .int .i64 0 ∧ wp = wr) (fun _ _ => 0)
              case atStart => exact ⟨rfl, rfl⟩
              case round =>
                obtain ⟨rfl, rfl⟩ := hrel
                go_wp2_with fail
                go_roundw
                case rel => first | exact ⟨k + 1, by omega, by go_num, hz3, hb⟩ | ((repeat apply Exists.intro); exact ⟨⟨k + 1, by omega, by go_num, hz3, hb⟩, rfl⟩)
                case measure => simp [intOf]; omega
            · go_wp2_with fail
              go_loopw [10] (fun i wr => ∃ j : Nat, j ≤ 16 ∧ i = .int .i64 j ∧ Hid (OB wr wo.heap.size (.slice (some ⟨wo.heap.size, 0, none⟩) 128 128) (oF L (16 * k + j))) ∧ Hid (Below wo.heap.size wo wr)) (fun i _ => 16 - (intOf i).toNat)
              case atStart => exact ⟨0, Nat.zero_le _, rfl, hz, hb⟩
              case round =>
                obtain ⟨j, hj, rfl, hz2, hb2⟩ := hrel
                clear hz hb
                obtain ⟨A', c', hcell, -, hrd⟩ := (hRT.out.up (hq1.out.trans (hb2.out.mono hwsz))).cell_at (show k < 10 by omega)
                by_cases hlj : j < 16
                · have ij : (j : Int) < 16 := by omega
                  obtain ⟨ad, rfl, -, hx⟩ := hrd.get (List.getElem?_eq_getElem (show j < (L.getD k []).length by omega))
                  have hv : ent L k j = (L.getD k [])[j]'(by omega) := by unfold ent; rw [List.getD_eq_getElem?_getD, List.getElem?_eq_getElem (by omega)]; rfl
                  rw [← hv] at hx
                  rw [h16] at hcell
                  obtain ⟨x, hxe⟩ : ∃ x, ent L k j = x := ⟨_, rfl⟩
                  have hset := oF_set (L := L) (i := k) hlj
                  rw [hxe] at hx hset
                  obtain ⟨s, hs⟩ : ∃ s, 16 * k = s := ⟨_, rfl⟩
                  rw [hs] at hz2 hset
                  have hs2 : (16 : Int) * (k : Int) = (s : Int) := by omega
                  obtain ⟨t, ht⟩ : ∃ t, s + j = t := ⟨_, rfl⟩
                  rw [ht] at hz2 hset
                  have ht2 : (s : Int) + (j : Int) = (t : Int) := by omega
                  have ht128 : t < 128 := by omega
                  have ht128i : (t : Int) < 128 := by omega
                  obtain ⟨g5, eg5, hg5, hg5', hc5, hf5, hst5⟩ := hz2.out.store (k := t) (by unfold oF; rw [row_length]; exact ht128)
                  injection eg5 with eg5
                  injection eg5 with eg5 _ _
                  subst eg5
                  have hz3 : Hid (OB (wr.setCell ⟨wo.heap.size, t, none⟩ (.int .u8 (U x))) wo.heap.size (.slice (some ⟨wo.heap.size, 0, none⟩) 128 128) (oF L (16 * k + (j + 1)))) := Lib.hid (by rw [hs, ← hset]; exact hst5 x)
                  have hb3 : Hid (Below wo.heap.size wo (wr.setCell ⟨wo.heap.size, t, none⟩ (.int .u8 (U x)))) := Lib.hid (hb2.out.setCell (p := ⟨wo.heap.size, t, none⟩) (Nat.le_refl _) _)
                  have h16' := Lib.hid h16
                  replace hxe := Lib.hid hxe
                  replace hs := Lib.hid hs
                  replace ht := Lib.hid ht
                  replace hset := Lib.hid hset
                  clear hst5 hv hrd h16
                  go_wp2_with fail
                  go_roundw
                  case rel => first | exact ⟨j + 1, by omega, by go_num, hz3, hb3⟩ | ((repeat apply Exists.intro); exact ⟨⟨j + 1, by omega, by go_num, hz3, hb3⟩, rfl⟩)
                  case measure => simp [intOf]; omega
                · obtain rfl : j = 16 := by omega
                  rw [h16] at hcell
                  have hz3 : Hid (OB wr wo.heap.size (.slice (some ⟨wo.heap.size, 0, none⟩) 128 128) (oF L (16 * (k + 1)))) := Lib.hid (by rw [Nat.mul_succ]; exact hz2.out)
                  have h16' := Lib.hid h16
                  clear hrd h16
                  go_wp2_with fail
                  go_roundw
                  case rel => first | exact ⟨k + 1, by omega, by go_num, hz3, hb2⟩ | ((repeat apply Exists.intro); exact ⟨⟨k + 1, by omega, by go_num, hz3, hb2⟩, rfl⟩)
                  case measure => simp [intOf]; omega
          · obtain rfl : k = 8 := by omega
            have ik : decide (((8 : Nat) : Int) < 8) = false := by decide
            have hzG : Hid (OB wp wo.heap.size (.slice (some ⟨wo.heap.size, 0, none⟩) 128 128) (oG L D 0)) := Lib.hid (by rw [← oG_zero]; exact hz.out)
            have h5q := Lib.hid (h5.out.below (hb.out))
            have h6q := Lib.hid (h6.out.below (hb.out))
            have hT := Lib.hid hlc.out.there
            have hzlt : wo.heap.size < wp.heap.size := (hzG.out.lt wo.heap.size rfl).2
            clear hz hS
            rcases hlc.out.cases with ⟨hla, hsu⟩ | ⟨a, s, ha8, hs8, hs10, hla, hsu, hs16, hsol⟩ | ⟨a, a2, ha8, ha28, hne, hla, hsu, hs8, hs9, hsol8, hsol9⟩
            · rcases hsu with hsu | hsu | hsu | hsu
              · as_aux_lemma =>
                  have hsu' := Lib.hid hsu
                  obtain ⟨A6, c6, e6⟩ := h6q.out.form
                  rw [hsu] at e6
                  rw [show ([] : List Nat).length = 0 from rfl] at e6
                  subst e6
                  obtain ⟨A5, c5, e5⟩ := h5q.out.form
                  rw [hla, show ([] : List Nat).length = 0 from rfl] at e5
                  subst e5
                  have hbb : Below wp.heap.size wp ((wp.alloc (.cells #[] 5)).alloc (.cells #[] 5)) := ((Below.refl _ _).alloc (Nat.le_refl _) _).alloc (by simp) _
                  have hz4 : Hid (OB ((wp.alloc (.cells #[] 5)).alloc (.cells #[] 5)) wo.heap.size (.slice (some ⟨wo.heap.size, 0, none⟩) 128 128) (oG L D 0)) := Lib.hid (hzG.out.below hbb)
                  have hq4 : Hid (Gr w ((wp.alloc (.cells #[] 5)).alloc (.cells #[] 5))) := Lib.hid ((hq1.out.trans (hb.out.mono hwsz)).trans (hbb.mono (by have := hb.out.size; omega)))
                  have hla' := Lib.hid hla
                  clear hla hsu hbb
                  go_wp2_with fail
                  obtain ⟨wz, hwz⟩ : ∃ x, ((wp.alloc (.cells #[] 5)).alloc (.cells #[] 5)) = x := ⟨_, rfl⟩
                  rw [hwz] at hz4 hq4 ⊢
                  replace hwz := Lib.hid hwz
                  go_loopw [13] (fun i wr => ∃ k : Nat, k ≤ 16 ∧ i = .int .i64 k ∧ wz = wr) (fun i _ => 16 - (intOf i).toNat)
                  case atStart => exact ⟨0, Nat.zero_le _, rfl, rfl⟩
                  case round =>
                    obtain ⟨j, hj, rfl, rfl⟩ := hrel
                    by_cases hlj : j < 16
                    · have ij : (j : Int) < 16 := by omega
                      go_wp2_with fail
                      go_roundw
                      case rel => first | exact ⟨j + 1, by omega, by go_num, by first | rfl | trivial⟩ | ((repeat apply Exists.intro); exact ⟨⟨j + 1, by omega, by go_num, by first | rfl | trivial⟩, rfl⟩)
                      case measure => simp [intOf]; omega
                    · obtain rfl : j = 16 := by omega
                      have ij : decide (((16 : Nat) : Int) < 16) = false := by decide
                      have hfin : Hid (OB wz w.heap.size (.slice (some ⟨wo.heap.size, 0, none⟩) 128 128) (flat 8 16 D)) := Lib.hid (by
                        rw [← oG_end L D, oG_none hT.out (fun i hi => by
                          rcases Nat.lt_or_ge 0 (L.getD i []).length with h | h
                          · exact h
                          · exact absurd ((lack_mem (L := L)).mpr ⟨hi, by omega⟩) (by rw [hla'.out]; simp)) 16]
                        exact hz4.out.more hwsz)
                      go_wp2_with fail
                      go_ret2
                      exact ⟨hq4.out, .inl ⟨hok.out, h8.out, _, _, rfl, hfin⟩⟩
              · as_aux_lemma =>
                  have hsu' := Lib.hid hsu
                  obtain ⟨g6, c6, e6, hg6, hc6⟩ := h6q.out.form0 (by rw [hsu]; decide)
                  rw [hsu] at e6 hc6
                  have y6 : wp.cell? ⟨g6, 0, none⟩ = some (.int .i64 8) := hc6 0 8 rfl
                  rw [show ([8] : List Nat).length = 1 from rfl] at e6
                  subst e6
                  obtain ⟨A5, c5, e5⟩ := h5q.out.form
                  rw [hla, show ([] : List Nat).length = 0 from rfl] at e5
                  subst e5
                  have hbb : Below wp.heap.size wp ((wp.alloc (.cells #[] 5)).alloc (.cells #[] 5)) := ((Below.refl _ _).alloc (Nat.le_refl _) _).alloc (by simp) _
                  have y6b : ((wp.alloc (.cells #[] 5)).alloc (.cells #[] 5)).cell? ⟨g6, 0, none⟩ = some (.int .i64 8) := (hbb.cell (p := ⟨g6, 0, none⟩) hg6).trans y6
                  clear y6 hc6
                  have hz4 : Hid (OB ((wp.alloc (.cells #[] 5)).alloc (.cells #[] 5)) wo.heap.size (.slice (some ⟨wo.heap.size, 0, none⟩) 128 128) (oG L D 0)) := Lib.hid (hzG.out.below hbb)
                  have hq4 : Hid (Gr w ((wp.alloc (.cells #[] 5)).alloc (.cells #[] 5))) := Lib.hid ((hq1.out.trans (hb.out.mono hwsz)).trans (hbb.mono (by have := hb.out.size; omega)))
                  have hla' := Lib.hid hla
                  clear hla hsu hbb
                  go_wp2_with fail
                  obtain ⟨wz, hwz⟩ : ∃ x, ((wp.alloc (.cells #[] 5)).alloc (.cells #[] 5)) = x := ⟨_, rfl⟩
                  rw [hwz] at hz4 hq4 ⊢
                  replace hwz := Lib.hid hwz
                  clear y6b
                  go_loopw [13] (fun i wr => ∃ k : Nat, k ≤ 16 ∧ i = .int .i64 k ∧ wz = wr) (fun i _ => 16 - (intOf i).toNat)
                  case atStart => exact ⟨0, Nat.zero_le _, rfl, rfl⟩
                  case round =>
                    obtain ⟨j, hj, rfl, rfl⟩ := hrel
                    by_cases hlj : j < 16
                    · have ij : (j : Int) < 16 := by omega
                      go_wp2_with fail
                      go_roundw
                      case rel => first | exact ⟨j + 1, by omega, by go_num, by first | rfl | trivial⟩ | ((repeat apply Exists.intro); exact ⟨⟨j + 1, by omega, by go_num, by first | rfl | trivial⟩, rfl⟩)
                      case measure => simp [intOf]; omega
                    · obtain rfl : j = 16 := by omega
                      have ij : decide (((16 : Nat) : Int) < 16) = false := by decide
                      have hfin : Hid (OB wz w.heap.size (.slice (some ⟨wo.heap.size, 0, none⟩) 128 128) (flat 8 16 D)) := Lib.hid (by
                        rw [← oG_end L D, oG_none hT.out (fun i hi => by
                          rcases Nat.lt_or_ge 0 (L.getD i []).length with h | h
                          · exact h
                          · exact absurd ((lack_mem (L := L)).mpr ⟨hi, by omega⟩) (by rw [hla'.out]; simp)) 16]
                        exact hz4.out.more hwsz)
                      go_wp2_with fail
                      go_ret2
                      exact ⟨hq4.out, .inl ⟨hok.out, h8.out, _, _, rfl, hfin⟩⟩
              · as_aux_lemma =>
                  have hsu' := Lib.hid hsu
                  obtain ⟨g6, c6, e6, hg6, hc6⟩ := h6q.out.form0 (by rw [hsu]; decide)
                  rw [hsu] at e6 hc6
                  have y6 : wp.cell? ⟨g6, 0, none⟩ = some (.int .i64 9) := hc6 0 9 rfl
                  rw [show ([9] : List Nat).length = 1 from rfl] at e6
                  subst e6
                  obtain ⟨A5, c5, e5⟩ := h5q.out.form
                  rw [hla, show ([] : List Nat).length = 0 from rfl] at e5
                  subst e5
                  have hbb : Below wp.heap.size wp ((wp.alloc (.cells #[] 5)).alloc (.cells #[] 5)) := ((Below.refl _ _).alloc (Nat.le_refl _) _).alloc (by simp) _
                  have y6b : ((wp.alloc (.cells #[] 5)).alloc (.cells #[] 5)).cell? ⟨g6, 0, none⟩ = some (.int .i64 9) := (hbb.cell (p := ⟨g6, 0, none⟩) hg6).trans y6
                  clear y6 hc6
                  have hz4 : Hid (OB ((wp.alloc (.cells #[] 5)).alloc (.cells #[] 5)) wo.heap.size (.slice (some ⟨wo.heap.size, 0, none⟩) 128 128) (oG L D 0)) := Lib.hid (hzG.out.below hbb)
                  have hq4 : Hid (Gr w ((wp.alloc (.cells #[] 5)).alloc (.cells #[] 5))) := Lib.hid ((hq1.out.trans (hb.out.mono hwsz)).trans (hbb.mono (by have := hb.out.size; omega)))
                  have hla' := Lib.hid hla
                  clear hla hsu hbb
                  go_wp2_with fail
                  obtain ⟨wz, hwz⟩ : ∃ x, ((wp.alloc (.cells #[] 5)).alloc (.cells #[] 5)) = x := ⟨_, rfl⟩
                  rw [hwz] at hz4 hq4 ⊢
                  replace hwz := Lib.hid hwz
                  clear y6b
                  go_loopw [13] (fun i wr => ∃ k : Nat, k ≤ 16 ∧ i = .int .i64 k ∧ wz = wr) (fun i _ => 16 - (intOf i).toNat)
                  case atStart => exact ⟨0, Nat.zero_le _, rfl, rfl⟩
                  case round =>
                    obtain ⟨j, hj, rfl, rfl⟩ := hrel
                    by_cases hlj : j < 16
                    · have ij : (j : Int) < 16 := by omega
                      go_wp2_with fail
                      go_roundw
                      case rel => first | exact ⟨j + 1, by omega, by go_num, by first | rfl | trivial⟩ | ((repeat apply Exists.intro); exact ⟨⟨j + 1, by omega, by go_num, by first | rfl | trivial⟩, rfl⟩)
                      case measure => simp [intOf]; omega
                    · obtain rfl : j = 16 := by omega
                      have ij : decide (((16 : Nat) : Int) < 16) = false := by decide
                      have hfin : Hid (OB wz w.heap.size (.slice (some ⟨wo.heap.size, 0, none⟩) 128 128) (flat 8 16 D)) := Lib.hid (by
                        rw [← oG_end L D, oG_none hT.out (fun i hi => by
                          rcases Nat.lt_or_ge 0 (L.getD i []).length with h | h
                          · exact h
                          · exact absurd ((lack_mem (L := L)).mpr ⟨hi, by omega⟩) (by rw [hla'.out]; simp)) 16]
                        exact hz4.out.more hwsz)
                      go_wp2_with fail
                      go_ret2
                      exact ⟨hq4.out, .inl ⟨hok.out, h8.out, _, _, rfl, hfin⟩⟩
              · as_aux_lemma =>
                  have hsu' := Lib.hid hsu
                  obtain ⟨g6, c6, e6, hg6, hc6⟩ := h6q.out.form0 (by rw [hsu]; decide)
                  rw [hsu] at e6 hc6
                  have y6 : wp.cell? ⟨g6, 0, none⟩ = some (.int .i64 8) := hc6 0 8 rfl
                  rw [show ([8, 9] : List Nat).length = 2 from rfl] at e6
                  subst e6
                  obtain ⟨A5, c5, e5⟩ := h5q.out.form
                  rw [hla, show ([] : List Nat).length = 0 from rfl] at e5
                  subst e5
                  have hbb : Below wp.heap.size wp ((wp.alloc (.cells #[] 5)).alloc (.cells #[] 5)) := ((Below.refl _ _).alloc (Nat.le_refl _) _).alloc (by simp) _
                  have y6b : ((wp.alloc (.cells #[] 5)).alloc (.cells #[] 5)).cell? ⟨g6, 0, none⟩ = some (.int .i64 8) := (hbb.cell (p := ⟨g6, 0, none⟩) hg6).trans y6
                  clear y6 hc6
                  have hz4 : Hid (OB ((wp.alloc (.cells #[] 5)).alloc (.cells #[] 5)) wo.heap.size (.slice (some ⟨wo.heap.size, 0, none⟩) 128 128) (oG L D 0)) := Lib.hid (hzG.out.below hbb)
                  have hq4 : Hid (Gr w ((wp.alloc (.cells #[] 5)).alloc (.cells #[] 5))) := Lib.hid ((hq1.out.trans (hb.out.mono hwsz)).trans (hbb.mono (by have := hb.out.size; omega)))
                  have hla' := Lib.hid hla
                  clear hla hsu hbb
                  go_wp2_with fail
                  obtain ⟨wz, hwz⟩ : ∃ x, ((wp.alloc (.cells #[] 5)).alloc (.cells #[] 5)) = x := ⟨_, rfl⟩
                  rw [hwz] at hz4 hq4 ⊢
                  replace hwz := Lib.hid hwz
                  clear y6b
                  go_loopw [13] (fun i wr => ∃ k : Nat, k ≤ 16 ∧ i = .int .i64 k ∧ wz = wr) (fun i _ => 16 - (intOf i).toNat)
                  case atStart => exact ⟨0, Nat.zero_le _, rfl, rfl⟩
                  case round =>
                    obtain ⟨j, hj, rfl, rfl⟩ := hrel
                    by_cases hlj : j < 16
                    · have ij : (j : Int) < 16 := by omega
                      go_wp2_with fail
                      go_roundw
                      case rel => first | exact ⟨j + 1, by omega, by go_num, by first | rfl | trivial⟩ | ((repeat apply Exists.intro); exact ⟨⟨j + 1, by omega, by go_num, by first | rfl | trivial⟩, rfl⟩)
                      case measure => simp [intOf]; omega
                    · obtain rfl : j = 16 := by omega
                      have ij : decide (((16 : Nat) : Int) < 16) = false := by decide
                      have hfin : Hid (OB wz w.heap.size (.slice (some ⟨wo.heap.size, 0, none⟩) 128 128) (flat 8 16 D)) := Lib.hid (by
                        rw [← oG_end L D, oG_none hT.out (fun i hi => by
                          rcases Nat.lt_or_ge 0 (L.getD i []).length with h | h
                          · exact h
                          · exact absurd ((lack_mem (L := L)).mpr ⟨hi, by omega⟩) (by rw [hla'.out]; simp)) 16]
                        exact hz4.out.more hwsz)
                      go_wp2_with fail
                      go_ret2
                      exact ⟨hq4.out, .inl ⟨hok.out, h8.out, _, _, rfl, hfin⟩⟩
            · rcases hsu with hsu | ⟨rfl, hsu⟩
              · rcases (by omega : s = 8 ∨ s = 9) with rfl | rfl
                · as_aux_lemma =>
                    have ha0 : (L.getD a []).length = 0 := (lack_mem.mp (show a ∈ lackL L 10 by rw [hla]; simp)).2
                    have h0 : ∀ i, i < 8 → i ≠ a → 0 < (L.getD i []).length := fun i hi hne => by
                      rcases Nat.lt_or_ge 0 (L.getD i []).length with h | h
                      · exact h
                      · exact absurd ((lack_mem (L := L)).mpr ⟨hi, by omega⟩) (by rw [hla]; simpa using hne)
                    have hs16' := Lib.hid hs16
                    have hsol' := Lib.hid hsol
                    replace ha0 := Lib.hid ha0
                    replace h0 := Lib.hid h0
                    clear hs16 hsol
                    obtain ⟨g5, c5, e5, hg5, hc5⟩ := h5.out.form0 (by rw [hla]; simp)
                    rw [hla] at e5 hc5
                    have y50 : wo.cell? ⟨g5, 0, none⟩ = some (.int .i64 (a : Int)) := hc5 0 a rfl
                    rw [show ([a] : List Nat).length = 1 from rfl] at e5
                    subst e5
                    obtain ⟨g6, c6, e6, hg6, hc6⟩ := h6.out.form0 (by rw [hsu]; simp)
                    rw [hsu] at e6 hc6
                    have y60 : wo.cell? ⟨g6, 0, none⟩ = some (.int .i64 8) := hc6 0 8 rfl
                    rw [show ([8] : List Nat).length = 1 from rfl] at e6
                    subst e6
                    clear hc5 hc6 h5q h6q h5 h6
                    have hbb : Below wp.heap.size wp ((wp.alloc (.cells #[] 5)).alloc (.cells #[] 5)) := ((Below.refl _ _).alloc (Nat.le_refl _) _).alloc (by simp) _
                    have hz4 := hzG.out.below hbb
                    have hb4 := hb.out.trans (hbb.mono hb.out.size)
                    have hW2 : wo.heap.size < ((wp.alloc (.cells #[] 5)).alloc (.cells #[] 5)).heap.size := by simp; omega
                    have hfa8 := Lib.hid (factors_any 8 (by decide) (by decide) ((wp.alloc (.cells #[] 5)).alloc (.cells #[] 5)))
                    have y6b : ((wp.alloc (.cells #[] 5)).alloc (.cells #[] 5)).cell? ⟨g6, 0, none⟩ = some (.int .i64 8) := (hb4.cell (p := ⟨g6, 0, none⟩) hg6).trans y60
                    have hz4' := Lib.hid hz4
                    have hb4' := Lib.hid hb4
                    replace hla := Lib.hid hla
                    replace hsu := Lib.hid hsu
                    clear hz4 hb4 hbb hzG hb y6b
                    go_wp2_with fail
                    refine hfa8.out.mono ?_
                    rintro e w5 ⟨A8, c8, rfl, hf8, hr8⟩
                    have hw5 : wo.heap.size < w5.heap.size := Nat.lt_of_lt_of_le hW2 hr8.size
                    have hfa9 := Lib.hid (factors_any 9 (by decide) (by decide) w5)
                    clear hfa8
                    go_wp2_with fail
                    refine hfa9.out.mono ?_
                    rintro e w6 ⟨A9, c9, rfl, hf9, hr9⟩
                    clear hfa9
                    have hz6 : Hid (OB w6 wo.heap.size (.slice (some ⟨wo.heap.size, 0, none⟩) 128 128) (oG L D 0)) := Lib.hid ((hz4'.out.below hr8).below hr9)
                    have hb6 : Hid (Below wo.heap.size wo w6) := Lib.hid ((hb4'.out.trans (Below.mono hr8 (by omega))).trans (Below.mono hr9 (by omega)))
                    have hf8' := hf8.out.below hr9
                    obtain ⟨A8', c8', e8', k8, -, hF8, hA8⟩ := hf8'.form
                    injection e8' with e81 e82 e83
                    rw [facL_length] at k8
                    subst e81 e83
                    obtain ⟨A9', c9', e9', k9, -, hF9, hA9⟩ := hf9.out.form
                    injection e9' with e91 e92 e93
                    rw [facL_length] at k9
                    subst e91 e93
                    obtain ⟨ad8, rfl, -⟩ := hF8.get (row_get (show 0 < 8 by decide) _)
                    obtain ⟨ad9, rfl, -⟩ := hF9.get (row_get (show 0 < 8 by decide) _)
                    have hd8 : Hid (ad8.block ≠ wo.heap.size) := Lib.hid (by have := hA8 ad8 rfl; omega)
                    have hd9 : Hid (ad9.block ≠ wo.heap.size) := Lib.hid (by have := hA9 ad9 rfl; omega)
                    replace hF8 := Lib.hid hF8
                    replace hF9 := Lib.hid hF9
                    clear hA8 hA9 hf8 hf9 hf8' e82 e92 hz4' hb4' hr8 hr9
                    have y6c : w6.cell? ⟨g6, 0, none⟩ = some (.int .i64 8) := (hb6.out.cell (p := ⟨g6, 0, none⟩) hg6).trans y60
                    go_wp2_with fail
                    clear y6c
                    go_loopw [13] (fun i wr => ∃ k : Nat, k ≤ 16 ∧ i = .int .i64 k ∧ Hid (OB wr wo.heap.size (.slice (some ⟨wo.heap.size, 0, none⟩) 128 128) (oG L D k)) ∧ Hid (Upd (fun q => q = wo.heap.size) w6 wr) ∧ Hid (Below wo.heap.size wo wr)) (fun i _ => 16 - (intOf i).toNat)
                    case atStart => exact ⟨0, Nat.zero_le _, rfl, hz6, Lib.hid (Upd.refl _ _), hb6⟩
                    case round =>
                      obtain ⟨j, hj, rfl, hz, hu, hb⟩ := hrel
                      clear hz6 hb6
                      by_cases hlj : j < 16
                      · have ij : (j : Int) < 16 := by omega
                        obtain ⟨cc, hcc⟩ : ∃ cc, ginv (fx 8 a) = cc := ⟨_, rfl⟩
                        obtain ⟨dd, hdd⟩ : ∃ dd, D a j = dd := ⟨_, rfl⟩
                        have hcn : cc ≠ 0 := by rw [← hcc]; exact fx_inv_ne (by decide) (by decide) ha8
                        have hlv : Hid (leftV L 8 j 8 = gmul cc dd) := Lib.hid (by rw [left_one hT.out (by decide) hlj (hsol'.out j hlj) ha8 ha0.out h0.out, hcc, hdd])
                        have hdv : Hid (∀ W, Calls Try.prog 89 #[.int .u8 (U (gmul cc dd)), .int .u8 (U cc)] W fun e w' => e = .returned (.tuple #[.int .u8 (U dd), .bool true]) ∧ W = w') := Lib.hid (fun W => by
                          have h9 := rdiv_any (gmul cc dd) cc W
                          rw [if_neg hcn, div_one hcn] at h9
                          exact h9)
                        have hset := oG_one hT.out ha8 hlj h0.out
                        rw [hdd] at hset
                        obtain ⟨p, hp⟩ : ∃ p, 16 * a = p := ⟨_, rfl⟩
                        rw [hp] at hset
                        have hp2 : (16 : Int) * (a : Int) = (p : Int) := by omega
                        obtain ⟨t, ht⟩ : ∃ t, p + j = t := ⟨_, rfl⟩
                        rw [ht] at hset
                        have ht2 : (p : Int) + (j : Int) = (t : Int) := by omega
                        have ht128 : t < 128 := by omega
                        have ht128i : (t : Int) < 128 := by omega
                        have ia8 : (a : Int) < 8 := by omega
                        have hs10 : 8 < 10 := by decide
                        have hcc' := Lib.hid hcc
                        replace hdd := Lib.hid hdd
                        replace hcn := Lib.hid hcn
                        replace hset := Lib.hid hset
                        replace hp := Lib.hid hp
                        replace ht := Lib.hid ht
                        go_wp2_with fail
                        obtain ⟨wd, hwd⟩ : ∃ wd, wd = wr.drew := ⟨_, rfl⟩
                        have hzd : Hid (OB wd wo.heap.size (.slice (some ⟨wo.heap.size, 0, none⟩) 128 128) (oG L D j)) := Lib.hid (by rw [hwd]; exact hz.out.drew)
                        have hud : Hid (Upd (fun q => q = wo.heap.size) w6 wd) := Lib.hid (by rw [hwd]; exact hu.out)
                        have hbd : Hid (Below wo.heap.size wo wd) := Lib.hid (by rw [hwd]; exact hb.out.drew)
                        have hRTw : Hid (RT wd wd.heap.size (some ⟨b, o, none⟩) 10 L) := Lib.hid (hRT.out.up (hq1.out.trans (hbd.out.mono hwsz)))
                        have hFw : Hid (Rd wd wd.heap.size (some ad8) (facL 8)) := Lib.hid (hF8.out.upd (fun ad e _ hh => by injection e with e; subst e; exact hd8.out hh) hud.out)
                        have hrd : Hid (∀ W, Gr wd W → W.cell? ⟨g6, 0, none⟩ = some (.int .i64 8) ∧ W.cell? ⟨g5, 0, none⟩ = some (.int .i64 (a : Int)) ∧ W.cell? (ad8.add a) = some (.int .u8 (U cc))) := Lib.hid (fun W hW => by
                          have hh : Below wo.heap.size wo W := hbd.out.trans (Below.mono hW hbd.out.size)
                          obtain ⟨ad, e, -, hx⟩ := (hFw.out.up hW).get (row_get ha8 _)
                          injection e with e
                          subst e
                          rw [hcc] at hx
                          exact ⟨(hh.cell (p := ⟨g6, 0, none⟩) hg6).trans y60, (hh.cell (p := ⟨g5, 0, none⟩) hg5).trans y50, hx⟩)
                        have hce : 8 ≤ c8 := k8
                        clear hcc
                        refine wpR_region (Gr) 9999 (by kernel_rfl) ?_
                        (rw [← hwd]; replace hwd := Lib.hid hwd)
                        refine wpR_take (i := 0) (v := ?_) (Gr.road) (some 140) rfl (by kernel_rfl) (by kernel_rfl) (by kernel_rfl) (by kernel_rfl) (by kernel_rfl) (fun _ _ _ h => h) (by kernel_rfl) (fun w' hw' => ?_) ?_
                        rotate_left
                        · go_simp; with_reducible rfl
                        simp only [Act.put, List.setIfInBounds_toArray, List.set_cons_zero, List.set_cons_succ]
                        refine wpR_take (i := 1) (v := ?_) (Gr.road) (some 141) rfl (by kernel_rfl) (by kernel_rfl) (by kernel_rfl) (by kernel_rfl) (by kernel_rfl) (fun _ _ _ h => h) (by kernel_rfl) (fun w' hw' => ?_) ?_
                        rotate_left
                        · go_simp; with_reducible rfl
                        simp only [Act.put, List.setIfInBounds_toArray, List.set_cons_zero, List.set_cons_succ]
                        refine wpR_take (i := 2) (v := ?_) (Gr.road) (some 142) rfl (by kernel_rfl) (by kernel_rfl) (by kernel_rfl) (by kernel_rfl) (by kernel_rfl) (fun _ _ _ h => h) (by kernel_rfl) (fun w' hw' => ?_) ?_
                        rotate_left
                        · go_simp; with_reducible rfl
                        simp only [Act.put, List.setIfInBounds_toArray, List.set_cons_zero, List.set_cons_succ]
                        refine wpR_take (i := 3) (v := ?_) (Gr.road) (some 143) rfl (by kernel_rfl) (by kernel_rfl) (by kernel_rfl) (by kernel_rfl) (by kernel_rfl) (fun _ _ _ h => h) (by kernel_rfl) (fun w' hw' => ?_) ?_
                        rotate_left
                        · have q := (hrd.out w' hw').1; go_simp; with_reducible rfl
                        simp only [Act.put, List.setIfInBounds_toArray, List.set_cons_zero, List.set_cons_succ]
                        refine wpR_take (i := 4) (v := ?_) (Gr.road) (some 144) rfl (by kernel_rfl) (by kernel_rfl) (by kernel_rfl) (by kernel_rfl) (by kernel_rfl) (fun _ _ _ h => h) (by kernel_rfl) (fun w' hw' => ?_) ?_
                        rotate_left
                        · go_simp; with_reducible rfl
                        simp only [Act.put, List.setIfInBounds_toArray, List.set_cons_zero, List.set_cons_succ]
                        refine wpR_take (i := 5) (v := ?_) (Gr.road) (some 145) rfl (by kernel_rfl) (by kernel_rfl) (by kernel_rfl) (by kernel_rfl) (by kernel_rfl) (fun _ _ _ h => h) (by kernel_rfl) (fun w' hw' => ?_) ?_
                        rotate_left
                        · go_simp; with_reducible rfl
                        simp only [Act.put, List.setIfInBounds_toArray, List.set_cons_zero, List.set_cons_succ]
                        refine wpR_take (i := 7) (v := ?_) (Gr.road) (some 147) rfl (by kernel_rfl) (by kernel_rfl) (by kernel_rfl) (by kernel_rfl) (by kernel_rfl) (fun _ _ _ h => h) (by kernel_rfl) (fun w' hw' => ?_) ?_
                        rotate_left
                        · go_simp; with_reducible rfl
                        simp only [Act.put, List.setIfInBounds_toArray, List.set_cons_zero, List.set_cons_succ]
                        refine wpR_take (i := 8) (v := ?_) (Gr.road) (some 148) rfl (by kernel_rfl) (by kernel_rfl) (by kernel_rfl) (by kernel_rfl) (by kernel_rfl) (fun _ _ _ h => h) (by kernel_rfl) (fun w' hw' => ?_) ?_
                        rotate_left
                        · go_simp; with_reducible rfl
                        simp only [Act.put, List.setIfInBounds_toArray, List.set_cons_zero, List.set_cons_succ]
                        refine wpR_take (i := 9) (v := ?_) (Gr.road) (some 149) rfl (by kernel_rfl) (by kernel_rfl) (by kernel_rfl) (by kernel_rfl) (by kernel_rfl) (fun _ _ _ h => h) (by kernel_rfl) (fun w' hw' => ?_) ?_
                        rotate_left
                        · go_simp; with_reducible rfl
                        simp only [Act.put, List.setIfInBounds_toArray, List.set_cons_zero, List.set_cons_succ]
                        refine wpR_take (i := 10) (v := ?_) (Gr.road) (some 150) rfl (by kernel_rfl) (by kernel_rfl) (by kernel_rfl) (by kernel_rfl) (by kernel_rfl) (fun _ _ _ h => h) (by kernel_rfl) (fun w' hw' => ?_) ?_
                        rotate_left
                        · have q := (hrd.out w' hw').2.1; go_simp; with_reducible rfl
                        simp only [Act.put, List.setIfInBounds_toArray, List.set_cons_zero, List.set_cons_succ]
                        refine wpR_take (i := 11) (v := ?_) (Gr.road) (some 151) rfl (by kernel_rfl) (by kernel_rfl) (by kernel_rfl) (by kernel_rfl) (by kernel_rfl) (fun _ _ _ h => h) (by kernel_rfl) (fun w' hw' => ?_) ?_
                        rotate_left
                        · go_simp; with_reducible rfl
                        simp only [Act.put, List.setIfInBounds_toArray, List.set_cons_zero, List.set_cons_succ]
                        refine wpR_take (i := 12) (v := ?_) (Gr.road) (some 152) rfl (by kernel_rfl) (by kernel_rfl) (by kernel_rfl) (by kernel_rfl) (by kernel_rfl) (fun _ _ _ h => h) (by kernel_rfl) (fun w' hw' => ?_) ?_
                        rotate_left
                        · have q := (hrd.out w' hw').2.2; go_simp; with_reducible rfl
                        simp only [Act.put, List.setIfInBounds_toArray, List.set_cons_zero, List.set_cons_succ]
                        refine wpR_one 6 rfl (by kernel_rfl) (by kernel_rfl) (fun K hK => ?_)
                        go_simp
                        refine (left_any hok hL10 hs10 hs16' hlj hc hce _ hRTw hFw).mono ?_
                        rintro e wl ⟨rfl, hr6⟩
                        refine hK _ _ (fun _ => hr6) ?_
                        clear hK K
                        rw [hlv.out]
                        try simp only [Act.put, List.setIfInBounds_toArray, List.set_cons_zero, List.set_cons_succ]
                        refine wpR_one 13 rfl (by kernel_rfl) (by kernel_rfl) (fun K hK => ?_)
                        go_simp
                        refine (hdv.out _).mono ?_
                        rintro e w' ⟨rfl, rfl⟩
                        refine hK _ _ (fun _ => Below.refl _ _) ?_
                        clear hK K
                        try simp only [Act.put, List.setIfInBounds_toArray, List.set_cons_zero, List.set_cons_succ]
                        refine wpR_take (i := 14) (v := ?_) (Gr.road) (some 139) rfl (by kernel_rfl) (by kernel_rfl) (by kernel_rfl) (by kernel_rfl) (by kernel_rfl) (fun _ _ _ h => h) (by kernel_rfl) (fun w' hw' => ?_) ?_
                        rotate_left
                        · go_simp; with_reducible rfl
                        simp only [Act.put, List.setIfInBounds_toArray, List.set_cons_zero, List.set_cons_succ]
                        refine wpR_take (i := 15) (v := ?_) (Gr.road) (some 154) rfl (by kernel_rfl) (by kernel_rfl) (by kernel_rfl) (by kernel_rfl) (by kernel_rfl) (fun _ _ _ h => h) (by kernel_rfl) (fun w' hw' => ?_) ?_
                        rotate_left
                        · go_simp; with_reducible rfl
                        simp only [Act.put, List.setIfInBounds_toArray, List.set_cons_zero, List.set_cons_succ]
                        refine wpR_take (i := 16) (v := ?_) (Gr.road) (some 155) rfl (by kernel_rfl) (by kernel_rfl) (by kernel_rfl) (by kernel_rfl) (by kernel_rfl) (fun _ _ _ h => h) (by kernel_rfl) (fun w' hw' => ?_) ?_
                        rotate_left
                        · go_simp; with_reducible rfl
                        simp only [Act.put, List.setIfInBounds_toArray, List.set_cons_zero, List.set_cons_succ]
                        refine wpR_take (i := 17) (v := ?_) (Gr.road) (some 14) rfl (by kernel_rfl) (by kernel_rfl) (by kernel_rfl) (by kernel_rfl) (by kernel_rfl) (fun _ _ _ h => h) (by kernel_rfl) (fun w' hw' => ?_) ?_
                        rotate_left
                        · go_simp; with_reducible rfl
                        simp only [Act.put, List.setIfInBounds_toArray, List.set_cons_zero, List.set_cons_succ]
                        refine wpR_take (i := 18) (v := ?_) (Gr.road) (some 15) rfl (by kernel_rfl) (by kernel_rfl) (by kernel_rfl) (by kernel_rfl) (by kernel_rfl) (fun _ _ _ h => h) (by kernel_rfl) (fun w' hw' => ?_) ?_
                        rotate_left
                        · go_simp; with_reducible rfl
                        simp only [Act.put, List.setIfInBounds_toArray, List.set_cons_zero, List.set_cons_succ]
                        refine wpR_done (by kernel_rfl) ?_ _
                        have hrw := hrd.out wl hr6
                        have q5 : wl.cell? ⟨g5, 0, none⟩ = some (.int .i64 (a : Int)) := hrw.2.1
                        have hzl := hzd.out.below hr6
                        obtain ⟨gq, eg5, hgq, hgq', hcq, hfq, hst5⟩ := hzl.store (k := t) (by unfold oG; rw [row_length]; exact ht128)
                        injection eg5 with eg5
                        injection eg5 with eg5 _ _
                        subst eg5
                        have hz9 : Hid (OB (wl.setCell ⟨wo.heap.size, t, none⟩ (.int .u8 (U dd))) wo.heap.size (.slice (some ⟨wo.heap.size, 0, none⟩) 128 128) (oG L D (j + 1))) := Lib.hid (by rw [← hset.out]; exact hst5 dd)
                        have hu9 : Hid (Upd (fun q => q = wo.heap.size) w6 (wl.setCell ⟨wo.heap.size, t, none⟩ (.int .u8 (U dd)))) := Lib.hid ((hud.out.trans (Upd.of_below hr6)).trans (upd_set t _))
                        have hb9 : Hid (Below wo.heap.size wo (wl.setCell ⟨wo.heap.size, t, none⟩ (.int .u8 (U dd)))) := Lib.hid ((hbd.out.trans (Below.mono hr6 hbd.out.size)).setCell (p := ⟨wo.heap.size, t, none⟩) (Nat.le_refl _) _)
                        clear hst5 hzl hrw hr6 hrd hRTw hFw hzd hud hbd hz hu hb
                        go_wp2_with fail
                        go_roundw
                        case rel => first | exact ⟨j + 1, by omega, by go_num, hz9, hu9, hb9⟩ | ((repeat apply Exists.intro); exact ⟨⟨j + 1, by omega, by go_num, hz9, hu9, hb9⟩, rfl⟩)
                        case measure => simp [intOf]; omega
                      · obtain rfl : j = 16 := by omega
                        have ij : decide (((16 : Nat) : Int) < 16) = false := by decide
                        have hfin : Hid (OB wr w.heap.size (.slice (some ⟨wo.heap.size, 0, none⟩) 128 128) (flat 8 16 D)) := Lib.hid (by rw [← oG_end L D]; exact hz.out.more hwsz)
                        have hqf : Hid (Gr w wr) := Lib.hid (hq1.out.trans (hb.out.mono hwsz))
                        go_wp2_with fail
                        go_ret2
                        exact ⟨hqf.out, .inl ⟨hok.out, h8.out, _, _, rfl, hfin⟩⟩
                · as_aux_lemma =>
                    have ha0 : (L.getD a []).length = 0 := (lack_mem.mp (show a ∈ lackL L 10 by rw [hla]; simp)).2
                    have h0 : ∀ i, i < 8 → i ≠ a → 0 < (L.getD i []).length := fun i hi hne => by
                      rcases Nat.lt_or_ge 0 (L.getD i []).length with h | h
                      · exact h
                      · exact absurd ((lack_mem (L := L)).mpr ⟨hi, by omega⟩) (by rw [hla]; simpa using hne)
                    have hs16' := Lib.hid hs16
                    have hsol' := Lib.hid hsol
                    replace ha0 := Lib.hid ha0
                    replace h0 := Lib.hid h0
                    clear hs16 hsol
                    obtain ⟨g5, c5, e5, hg5, hc5⟩ := h5.out.form0 (by rw [hla]; simp)
                    rw [hla] at e5 hc5
                    have y50 : wo.cell? ⟨g5, 0, none⟩ = some (.int .i64 (a : Int)) := hc5 0 a rfl
                    rw [show ([a] : List Nat).length = 1 from rfl] at e5
                    subst e5
                    obtain ⟨g6, c6, e6, hg6, hc6⟩ := h6.out.form0 (by rw [hsu]; simp)
                    rw [hsu] at e6 hc6
                    have y60 : wo.cell? ⟨g6, 0, none⟩ = some (.int .i64 9) := hc6 0 9 rfl
                    rw [show ([9] : List Nat).length = 1 from rfl] at e6
                    subst e6
                    clear hc5 hc6 h5q h6q h5 h6
                    have hbb : Below wp.heap.size wp ((wp.alloc (.cells #[] 5)).alloc (.cells #[] 5)) := ((Below.refl _ _).alloc (Nat.le_refl _) _).alloc (by simp) _
                    have hz4 := hzG.out.below hbb
                    have hb4 := hb.out.trans (hbb.mono hb.out.size)
                    have hW2 : wo.heap.size < ((wp.alloc (.cells #[] 5)).alloc (.cells #[] 5)).heap.size := by simp; omega
                    have hfa8 := Lib.hid (factors_any 8 (by decide) (by decide) ((wp.alloc (.cells #[] 5)).alloc (.cells #[] 5)))
                    have y6b : ((wp.alloc (.cells #[] 5)).alloc (.cells #[] 5)).cell? ⟨g6, 0, none⟩ = some (.int .i64 9) := (hb4.cell (p := ⟨g6, 0, none⟩) hg6).trans y60
                    have hz4' := Lib.hid hz4
                    have hb4' := Lib.hid hb4
                    replace hla := Lib.hid hla
                    replace hsu := Lib.hid hsu
                    clear hz4 hb4 hbb hzG hb y6b
                    go_wp2_with fail
                    refine hfa8.out.mono ?_
                    rintro e w5 ⟨A8, c8, rfl, hf8, hr8⟩
                    have hw5 : wo.heap.size < w5.heap.size := Nat.lt_of_lt_of_le hW2 hr8.size
                    have hfa9 := Lib.hid (factors_any 9 (by decide) (by decide) w5)
                    clear hfa8
                    go_wp2_with fail
                    refine hfa9.out.mono ?_
                    rintro e w6 ⟨A9, c9, rfl, hf9, hr9⟩
                    clear hfa9
                    have hz6 : Hid (OB w6 wo.heap.size (.slice (some ⟨wo.heap.size, 0, none⟩) 128 128) (oG L D 0)) := Lib.hid ((hz4'.out.below hr8).below hr9)
                    have hb6 : Hid (Below wo.heap.size wo w6) := Lib.hid ((hb4'.out.trans (Below.mono hr8 (by omega))).trans (Below.mono hr9 (by omega)))
                    have hf8' := hf8.out.below hr9
                    obtain ⟨A8', c8', e8', k8, -, hF8, hA8⟩ := hf8'.form
                    injection e8' with e81 e82 e83
                    rw [facL_length] at k8
                    subst e81 e83
                    obtain ⟨A9', c9', e9', k9, -, hF9, hA9⟩ := hf9.out.form
                    injection e9' with e91 e92 e93
                    rw [facL_length] at k9
                    subst e91 e93
                    obtain ⟨ad8, rfl, -⟩ := hF8.get (row_get (show 0 < 8 by decide) _)
                    obtain ⟨ad9, rfl, -⟩ := hF9.get (row_get (show 0 < 8 by decide) _)
                    have hd8 : Hid (ad8.block ≠ wo.heap.size) := Lib.hid (by have := hA8 ad8 rfl; omega)
                    have hd9 : Hid (ad9.block ≠ wo.heap.size) := Lib.hid (by have := hA9 ad9 rfl; omega)
                    replace hF8 := Lib.hid hF8
                    replace hF9 := Lib.hid hF9
                    clear hA8 hA9 hf8 hf9 hf8' e82 e92 hz4' hb4' hr8 hr9
                    have y6c : w6.cell? ⟨g6, 0, none⟩ = some (.int .i64 9) := (hb6.out.cell (p := ⟨g6, 0, none⟩) hg6).trans y60
                    go_wp2_with fail
                    clear y6c
                    go_loopw [13] (fun i wr => ∃ k : Nat, k ≤ 16 ∧ i = .int .i64 k ∧ Hid (OB wr wo.heap.size (.slice (some ⟨wo.heap.size, 0, none⟩) 128 128) (oG L D k)) ∧ Hid (Upd (fun q => q = wo.heap.size) w6 wr) ∧ Hid (Below wo.heap.size wo wr)) (fun i _ => 16 - (intOf i).toNat)
                    case atStart => exact ⟨0, Nat.zero_le _, rfl, hz6, Lib.hid (Upd.refl _ _), hb6⟩
                    case round =>
                      obtain ⟨j, hj, rfl, hz, hu, hb⟩ := hrel
                      clear hz6 hb6
                      by_cases hlj : j < 16
                      · have ij : (j : Int) < 16 := by omega
                        obtain ⟨cc, hcc⟩ : ∃ cc, ginv (fx 9 a) = cc := ⟨_, rfl⟩
                        obtain ⟨dd, hdd⟩ : ∃ dd, D a j = dd := ⟨_, rfl⟩
                        have hcn : cc ≠ 0 := by rw [← hcc]; exact fx_inv_ne (by decide) (by decide) ha8
                        have hlv : Hid (leftV L 9 j 8 = gmul cc dd) := Lib.hid (by rw [left_one hT.out (by decide) hlj (hsol'.out j hlj) ha8 ha0.out h0.out, hcc, hdd])
                        have hdv : Hid (∀ W, Calls Try.prog 89 #[.int .u8 (U (gmul cc dd)), .int .u8 (U cc)] W fun e w' => e = .returned (.tuple #[.int .u8 (U dd), .bool true]) ∧ W = w') := Lib.hid (fun W => by
                          have h9 := rdiv_any (gmul cc dd) cc W
                          rw [if_neg hcn, div_one hcn] at h9
                          exact h9)
                        have hset := oG_one hT.out ha8 hlj h0.out
                        rw [hdd] at hset
                        obtain ⟨p, hp⟩ : ∃ p, 16 * a = p := ⟨_, rfl⟩
                        rw [hp] at hset
                        have hp2 : (16 : Int) * (a : Int) = (p : Int) := by omega
                        obtain ⟨t, ht⟩ : ∃ t, p + j = t := ⟨_, rfl⟩
                        rw [ht] at hset
                        have ht2 : (p : Int) + (j : Int) = (t : Int) := by omega
                        have ht128 : t < 128 := by omega
                        have ht128i : (t : Int) < 128 := by omega
                        have ia8 : (a : Int) < 8 := by omega
                        have hs10 : 9 < 10 := by decide
                        have hcc' := Lib.hid hcc
                        replace hdd := Lib.hid hdd
                        replace hcn := Lib.hid hcn
                        replace hset := Lib.hid hset
                        replace hp := Lib.hid hp
                        replace ht := Lib.hid ht
                        go_wp2_with fail
                        obtain ⟨wd, hwd⟩ : ∃ wd, wd = wr.drew := ⟨_, rfl⟩
                        have hzd : Hid (OB wd wo.heap.size (.slice (some ⟨wo.heap.size, 0, none⟩) 128 128) (oG L D j)) := Lib.hid (by rw [hwd]; exact hz.out.drew)
                        have hud : Hid (Upd (fun q => q = wo.heap.size) w6 wd) := Lib.hid (by rw [hwd]; exact hu.out)
                        have hbd : Hid (Below wo.heap.size wo wd) := Lib.hid (by rw [hwd]; exact hb.out.drew)
                        have hRTw : Hid (RT wd wd.heap.size (some ⟨b, o, none⟩) 10 L) := Lib.hid (hRT.out.up (hq1.out.trans (hbd.out.mono hwsz)))
                        have hFw : Hid (Rd wd wd.heap.size (some ad9) (facL 9)) := Lib.hid (hF9.out.upd (fun ad e _ hh => by injection e with e; subst e; exact hd9.out hh) hud.out)
                        have hrd : Hid (∀ W, Gr wd W → W.cell? ⟨g6, 0, none⟩ = some (.int .i64 9) ∧ W.cell? ⟨g5, 0, none⟩ = some (.int .i64 (a : Int)) ∧ W.cell? (ad9.add a) = some (.int .u8 (U cc))) := Lib.hid (fun W hW => by
                          have hh : Below wo.heap.size wo W := hbd.out.trans (Below.mono hW hbd.out.size)
                          obtain ⟨ad, e, -, hx⟩ := (hFw.out.up hW).get (row_get ha8 _)
                          injection e with e
                          subst e
                          rw [hcc] at hx
                          exact ⟨(hh.cell (p := ⟨g6, 0, none⟩) hg6).trans y60, (hh.cell (p := ⟨g5, 0, none⟩) hg5).trans y50, hx⟩)
                        have hce : 8 ≤ c9 := k9
                        clear hcc
                        refine wpR_region (Gr) 9999 (by kernel_rfl) ?_
                        (rw [← hwd]; replace hwd := Lib.hid hwd)
                        refine wpR_take (i := 0) (v := ?_) (Gr.road) (some 140) rfl (by kernel_rfl) (by kernel_rfl) (by kernel_rfl) (by kernel_rfl) (by kernel_rfl) (fun _ _ _ h => h) (by kernel_rfl) (fun w' hw' => ?_) ?_
                        rotate_left
                        · go_simp; with_reducible rfl
                        simp only [Act.put, List.setIfInBounds_toArray, List.set_cons_zero, List.set_cons_succ]
                        refine wpR_take (i := 1) (v := ?_) (Gr.road) (some 141) rfl (by kernel_rfl) (by kernel_rfl) (by kernel_rfl) (by kernel_rfl) (by kernel_rfl) (fun _ _ _ h => h) (by kernel_rfl) (fun w' hw' => ?_) ?_
                        rotate_left
                        · go_simp; with_reducible rfl
                        simp only [Act.put, List.setIfInBounds_toArray, List.set_cons_zero, List.set_cons_succ]
                        refine wpR_take (i := 2) (v := ?_) (Gr.road) (some 142) rfl (by kernel_rfl) (by kernel_rfl) (by kernel_rfl) (by kernel_rfl) (by kernel_rfl) (fun _ _ _ h => h) (by kernel_rfl) (fun w' hw' => ?_) ?_
                        rotate_left
                        · go_simp; with_reducible rfl
                        simp only [Act.put, List.setIfInBounds_toArray, List.set_cons_zero, List.set_cons_succ]
                        refine wpR_take (i := 3) (v := ?_) (Gr.road) (some 143) rfl (by kernel_rfl) (by kernel_rfl) (by kernel_rfl) (by kernel_rfl) (by kernel_rfl) (fun _ _ _ h => h) (by kernel_rfl) (fun w' hw' => ?_) ?_
                        rotate_left
                        · have q := (hrd.out w' hw').1; go_simp; with_reducible rfl
                        simp only [Act.put, List.setIfInBounds_toArray, List.set_cons_zero, List.set_cons_succ]
                        refine wpR_take (i := 4) (v := ?_) (Gr.road) (some 144) rfl (by kernel_rfl) (by kernel_rfl) (by kernel_rfl) (by kernel_rfl) (by kernel_rfl) (fun _ _ _ h => h) (by kernel_rfl) (fun w' hw' => ?_) ?_
                        rotate_left
                        · go_simp; with_reducible rfl
                        simp only [Act.put, List.setIfInBounds_toArray, List.set_cons_zero, List.set_cons_succ]
                        refine wpR_take (i := 5) (v := ?_) (Gr.road) (some 145) rfl (by kernel_rfl) (by kernel_rfl) (by kernel_rfl) (by kernel_rfl) (by kernel_rfl) (fun _ _ _ h => h) (by kernel_rfl) (fun w' hw' => ?_) ?_
                        rotate_left
                        · go_simp; with_reducible rfl
                        simp only [Act.put, List.setIfInBounds_toArray, List.set_cons_zero, List.set_cons_succ]
                        refine wpR_take (i := 7) (v := ?_) (Gr.road) (some 147) rfl (by kernel_rfl) (by kernel_rfl) (by kernel_rfl) (by kernel_rfl) (by kernel_rfl) (fun _ _ _ h => h) (by kernel_rfl) (fun w' hw' => ?_) ?_
                        rotate_left
                        · go_simp; with_reducible rfl
                        simp only [Act.put, List.setIfInBounds_toArray, List.set_cons_zero, List.set_cons_succ]
                        refine wpR_take (i := 8) (v := ?_) (Gr.road) (some 148) rfl (by kernel_rfl) (by kernel_rfl) (by kernel_rfl) (by kernel_rfl) (by kernel_rfl) (fun _ _ _ h => h) (by kernel_rfl) (fun w' hw' => ?_) ?_
                        rotate_left
                        · go_simp; with_reducible rfl
                        simp only [Act.put, List.setIfInBounds_toArray, List.set_cons_zero, List.set_cons_succ]
                        refine wpR_take (i := 9) (v := ?_) (Gr.road) (some 149) rfl (by kernel_rfl) (by kernel_rfl) (by kernel_rfl) (by kernel_rfl) (by kernel_rfl) (fun _ _ _ h => h) (by kernel_rfl) (fun w' hw' => ?_) ?_
                        rotate_left
                        · go_simp; with_reducible rfl
                        simp only [Act.put, List.setIfInBounds_toArray, List.set_cons_zero, List.set_cons_succ]
                        refine wpR_take (i := 10) (v := ?_) (Gr.road) (some 150) rfl (by kernel_rfl) (by kernel_rfl) (by kernel_rfl) (by kernel_rfl) (by kernel_rfl) (fun _ _ _ h => h) (by kernel_rfl) (fun w' hw' => ?_) ?_
                        rotate_left
                        · have q := (hrd.out w' hw').2.1; go_simp; with_reducible rfl
                        simp only [Act.put, List.setIfInBounds_toArray, List.set_cons_zero, List.set_cons_succ]
                        refine wpR_take (i := 11) (v := ?_) (Gr.road) (some 151) rfl (by kernel_rfl) (by kernel_rfl) (by kernel_rfl) (by kernel_rfl) (by kernel_rfl) (fun _ _ _ h => h) (by kernel_rfl) (fun w' hw' => ?_) ?_
                        rotate_left
                        · go_simp; with_reducible rfl
                        simp only [Act.put, List.setIfInBounds_toArray, List.set_cons_zero, List.set_cons_succ]
                        refine wpR_take (i := 12) (v := ?_) (Gr.road) (some 152) rfl (by kernel_rfl) (by kernel_rfl) (by kernel_rfl) (by kernel_rfl) (by kernel_rfl) (fun _ _ _ h => h) (by kernel_rfl) (fun w' hw' => ?_) ?_
                        rotate_left
                        · have q := (hrd.out w' hw').2.2; go_simp; with_reducible rfl
                        simp only [Act.put, List.setIfInBounds_toArray, List.set_cons_zero, List.set_cons_succ]
                        refine wpR_one 6 rfl (by kernel_rfl) (by kernel_rfl) (fun K hK => ?_)
                        go_simp
                        refine (left_any hok hL10 hs10 hs16' hlj hc hce _ hRTw hFw).mono ?_
                        rintro e wl ⟨rfl, hr6⟩
                        refine hK _ _ (fun _ => hr6) ?_
                        clear hK K
                        rw [hlv.out]
                        try simp only [Act.put, List.setIfInBounds_toArray, List.set_cons_zero, List.set_cons_succ]
                        refine wpR_one 13 rfl (by kernel_rfl) (by kernel_rfl) (fun K hK => ?_)
                        go_simp
                        refine (hdv.out _).mono ?_
                        rintro e w' ⟨rfl, rfl⟩
                        refine hK _ _ (fun _ => Below.refl _ _) ?_
                        clear hK K
                        try simp only [Act.put, List.setIfInBounds_toArray, List.set_cons_zero, List.set_cons_succ]
                        refine wpR_take (i := 14) (v := ?_) (Gr.road) (some 139) rfl (by kernel_rfl) (by kernel_rfl) (by kernel_rfl) (by kernel_rfl) (by kernel_rfl) (fun _ _ _ h => h) (by kernel_rfl) (fun w' hw' => ?_) ?_
                        rotate_left
                        · go_simp; with_reducible rfl
                        simp only [Act.put, List.setIfInBounds_toArray, List.set_cons_zero, List.set_cons_succ]
                        refine wpR_take (i := 15) (v := ?_) (Gr.road) (some 154) rfl (by kernel_rfl) (by kernel_rfl) (by kernel_rfl) (by kernel_rfl) (by kernel_rfl) (fun _ _ _ h => h) (by kernel_rfl) (fun w' hw' => ?_) ?_
                        rotate_left
                        · go_simp; with_reducible rfl
                        simp only [Act.put, List.setIfInBounds_toArray, List.set_cons_zero, List.set_cons_succ]
                        refine wpR_take (i := 16) (v := ?_) (Gr.road) (some 155) rfl (by kernel_rfl) (by kernel_rfl) (by kernel_rfl) (by kernel_rfl) (by kernel_rfl) (fun _ _ _ h => h) (by kernel_rfl) (fun w' hw' => ?_) ?_
                        rotate_left
                        · go_simp; with_reducible rfl
                        simp only [Act.put, List.setIfInBounds_toArray, List.set_cons_zero, List.set_cons_succ]
                        refine wpR_take (i := 17) (v := ?_) (Gr.road) (some 14) rfl (by kernel_rfl) (by kernel_rfl) (by kernel_rfl) (by kernel_rfl) (by kernel_rfl) (fun _ _ _ h => h) (by kernel_rfl) (fun w' hw' => ?_) ?_
                        rotate_left
                        · go_simp; with_reducible rfl
                        simp only [Act.put, List.setIfInBounds_toArray, List.set_cons_zero, List.set_cons_succ]
                        refine wpR_take (i := 18) (v := ?_) (Gr.road) (some 15) rfl (by kernel_rfl) (by kernel_rfl) (by kernel_rfl) (by kernel_rfl) (by kernel_rfl) (fun _ _ _ h => h) (by kernel_rfl) (fun w' hw' => ?_) ?_
                        rotate_left
                        · go_simp; with_reducible rfl
                        simp only [Act.put, List.setIfInBounds_toArray, List.set_cons_zero, List.set_cons_succ]
                        refine wpR_done (by kernel_rfl) ?_ _
                        have hrw := hrd.out wl hr6
                        have q5 : wl.cell? ⟨g5, 0, none⟩ = some (.int .i64 (a : Int)) := hrw.2.1
                        have hzl := hzd.out.below hr6
                        obtain ⟨gq, eg5, hgq, hgq', hcq, hfq, hst5⟩ := hzl.store (k := t) (by unfold oG; rw [row_length]; exact ht128)
                        injection eg5 with eg5
                        injection eg5 with eg5 _ _
                        subst eg5
                        have hz9 : Hid (OB (wl.setCell ⟨wo.heap.size, t, none⟩ (.int .u8 (U dd))) wo.heap.size (.slice (some ⟨wo.heap.size, 0, none⟩) 128 128) (oG L D (j + 1))) := Lib.hid (by rw [← hset.out]; exact hst5 dd)
                        have hu9 : Hid (Upd (fun q => q = wo.heap.size) w6 (wl.setCell ⟨wo.heap.size, t, none⟩ (.int .u8 (U dd)))) := Lib.hid ((hud.out.trans (Upd.of_below hr6)).trans (upd_set t _))
                        have hb9 : Hid (Below wo.heap.size wo (wl.setCell ⟨wo.heap.size, t, none⟩ (.int .u8 (U dd)))) := Lib.hid ((hbd.out.trans (Below.mono hr6 hbd.out.size)).setCell (p := ⟨wo.heap.size, t, none⟩) (Nat.le_refl _) _)
                        clear hst5 hzl hrw hr6 hrd hRTw hFw hzd hud hbd hz hu hb
                        go_wp2_with fail
                        go_roundw
                        case rel => first | exact ⟨j + 1, by omega, by go_num, hz9, hu9, hb9⟩ | ((repeat apply Exists.intro); exact ⟨⟨j + 1, by omega, by go_num, hz9, hu9, hb9⟩, rfl⟩)
                        case measure => simp [intOf]; omega
                      · obtain rfl : j = 16 := by omega
                        have ij : decide (((16 : Nat) : Int) < 16) = false := by decide
                        have hfin : Hid (OB wr w.heap.size (.slice (some ⟨wo.heap.size, 0, none⟩) 128 128) (flat 8 16 D)) := Lib.hid (by rw [← oG_end L D]; exact hz.out.more hwsz)
                        have hqf : Hid (Gr w wr) := Lib.hid (hq1.out.trans (hb.out.mono hwsz))
                        go_wp2_with fail
                        go_ret2
                        exact ⟨hqf.out, .inl ⟨hok.out, h8.out, _, _, rfl, hfin⟩⟩
              · as_aux_lemma =>
                  have ha0 : (L.getD a []).length = 0 := (lack_mem.mp (show a ∈ lackL L 10 by rw [hla]; simp)).2
                  have h0 : ∀ i, i < 8 → i ≠ a → 0 < (L.getD i []).length := fun i hi hne => by
                    rcases Nat.lt_or_ge 0 (L.getD i []).length with h | h
                    · exact h
                    · exact absurd ((lack_mem (L := L)).mpr ⟨hi, by omega⟩) (by rw [hla]; simpa using hne)
                  have hs16' := Lib.hid hs16
                  have hsol' := Lib.hid hsol
                  replace ha0 := Lib.hid ha0
                  replace h0 := Lib.hid h0
                  clear hs16 hsol
                  obtain ⟨g5, c5, e5, hg5, hc5⟩ := h5.out.form0 (by rw [hla]; simp)
                  rw [hla] at e5 hc5
                  have y50 : wo.cell? ⟨g5, 0, none⟩ = some (.int .i64 (a : Int)) := hc5 0 a rfl
                  rw [show ([a] : List Nat).length = 1 from rfl] at e5
                  subst e5
                  obtain ⟨g6, c6, e6, hg6, hc6⟩ := h6.out.form0 (by rw [hsu]; simp)
                  rw [hsu] at e6 hc6
                  have y60 : wo.cell? ⟨g6, 0, none⟩ = some (.int .i64 8) := hc6 0 8 rfl
                  rw [show ([8, 9] : List Nat).length = 2 from rfl] at e6
                  subst e6
                  clear hc5 hc6 h5q h6q h5 h6
                  have hbb : Below wp.heap.size wp ((wp.alloc (.cells #[] 5)).alloc (.cells #[] 5)) := ((Below.refl _ _).alloc (Nat.le_refl _) _).alloc (by simp) _
                  have hz4 := hzG.out.below hbb
                  have hb4 := hb.out.trans (hbb.mono hb.out.size)
                  have hW2 : wo.heap.size < ((wp.alloc (.cells #[] 5)).alloc (.cells #[] 5)).heap.size := by simp; omega
                  have hfa8 := Lib.hid (factors_any 8 (by decide) (by decide) ((wp.alloc (.cells #[] 5)).alloc (.cells #[] 5)))
                  have y6b : ((wp.alloc (.cells #[] 5)).alloc (.cells #[] 5)).cell? ⟨g6, 0, none⟩ = some (.int .i64 8) := (hb4.cell (p := ⟨g6, 0, none⟩) hg6).trans y60
                  have hz4' := Lib.hid hz4
                  have hb4' := Lib.hid hb4
                  replace hla := Lib.hid hla
                  replace hsu := Lib.hid hsu
                  clear hz4 hb4 hbb hzG hb y6b
                  go_wp2_with fail
                  refine hfa8.out.mono ?_
                  rintro e w5 ⟨A8, c8, rfl, hf8, hr8⟩
                  have hw5 : wo.heap.size < w5.heap.size := Nat.lt_of_lt_of_le hW2 hr8.size
                  have hfa9 := Lib.hid (factors_any 9 (by decide) (by decide) w5)
                  clear hfa8
                  go_wp2_with fail
                  refine hfa9.out.mono ?_
                  rintro e w6 ⟨A9, c9, rfl, hf9, hr9⟩
                  clear hfa9
                  have hz6 : Hid (OB w6 wo.heap.size (.slice (some ⟨wo.heap.size, 0, none⟩) 128 128) (oG L D 0)) := Lib.hid ((hz4'.out.below hr8).below hr9)
                  have hb6 : Hid (Below wo.heap.size wo w6) := Lib.hid ((hb4'.out.trans (Below.mono hr8 (by omega))).trans (Below.mono hr9 (by omega)))
                  have hf8' := hf8.out.below hr9
                  obtain ⟨A8', c8', e8', k8, -, hF8, hA8⟩ := hf8'.form
                  injection e8' with e81 e82 e83
                  rw [facL_length] at k8
                  subst e81 e83
                  obtain ⟨A9', c9', e9', k9, -, hF9, hA9⟩ := hf9.out.form
                  injection e9' with e91 e92 e93
                  rw [facL_length] at k9
                  subst e91 e93
                  obtain ⟨ad8, rfl, -⟩ := hF8.get (row_get (show 0 < 8 by decide) _)
                  obtain ⟨ad9, rfl, -⟩ := hF9.get (row_get (show 0 < 8 by decide) _)
                  have hd8 : Hid (ad8.block ≠ wo.heap.size) := Lib.hid (by have := hA8 ad8 rfl; omega)
                  have hd9 : Hid (ad9.block ≠ wo.heap.size) := Lib.hid (by have := hA9 ad9 rfl; omega)
                  replace hF8 := Lib.hid hF8
                  replace hF9 := Lib.hid hF9
                  clear hA8 hA9 hf8 hf9 hf8' e82 e92 hz4' hb4' hr8 hr9
                  have y6c : w6.cell? ⟨g6, 0, none⟩ = some (.int .i64 8) := (hb6.out.cell (p := ⟨g6, 0, none⟩) hg6).trans y60
                  go_wp2_with fail
                  clear y6c
                  go_loopw [13] (fun i wr => ∃ k : Nat, k ≤ 16 ∧ i = .int .i64 k ∧ Hid (OB wr wo.heap.size (.slice (some ⟨wo.heap.size, 0, none⟩) 128 128) (oG L D k)) ∧ Hid (Upd (fun q => q = wo.heap.size) w6 wr) ∧ Hid (Below wo.heap.size wo wr)) (fun i _ => 16 - (intOf i).toNat)
                  case atStart => exact ⟨0, Nat.zero_le _, rfl, hz6, Lib.hid (Upd.refl _ _), hb6⟩
                  case round =>
                    obtain ⟨j, hj, rfl, hz, hu, hb⟩ := hrel
                    clear hz6 hb6
                    by_cases hlj : j < 16
                    · have ij : (j : Int) < 16 := by omega
                      obtain ⟨cc, hcc⟩ : ∃ cc, ginv (fx 8 a) = cc := ⟨_, rfl⟩
                      obtain ⟨dd, hdd⟩ : ∃ dd, D a j = dd := ⟨_, rfl⟩
                      have hcn : cc ≠ 0 := by rw [← hcc]; exact fx_inv_ne (by decide) (by decide) ha8
                      have hlv : Hid (leftV L 8 j 8 = gmul cc dd) := Lib.hid (by rw [left_one hT.out (by decide) hlj (hsol'.out j hlj) ha8 ha0.out h0.out, hcc, hdd])
                      have hdv : Hid (∀ W, Calls Try.prog 89 #[.int .u8 (U (gmul cc dd)), .int .u8 (U cc)] W fun e w' => e = .returned (.tuple #[.int .u8 (U dd), .bool true]) ∧ W = w') := Lib.hid (fun W => by
                        have h9 := rdiv_any (gmul cc dd) cc W
                        rw [if_neg hcn, div_one hcn] at h9
                        exact h9)
                      have hset := oG_one hT.out ha8 hlj h0.out
                      rw [hdd] at hset
                      obtain ⟨p, hp⟩ : ∃ p, 16 * a = p := ⟨_, rfl⟩
                      rw [hp] at hset
                      have hp2 : (16 : Int) * (a : Int) = (p : Int) := by omega
                      obtain ⟨t, ht⟩ : ∃ t, p + j = t := ⟨_, rfl⟩
                      rw [ht] at hset
                      have ht2 : (p : Int) + (j : Int) = (t : Int) := by omega
                      have ht128 : t < 128 := by omega
                      have ht128i : (t : Int) < 128 := by omega
                      have ia8 : (a : Int) < 8 := by omega
                      have hs10 : 8 < 10 := by decide
                      have hcc' := Lib.hid hcc
                      replace hdd := Lib.hid hdd
                      replace hcn := Lib.hid hcn
                      replace hset := Lib.hid hset
                      replace hp := Lib.hid hp
                      replace ht := Lib.hid ht
                      go_wp2_with fail
                      obtain ⟨wd, hwd⟩ : ∃ wd, wd = wr.drew := ⟨_, rfl⟩
                      have hzd : Hid (OB wd wo.heap.size (.slice (some ⟨wo.heap.size, 0, none⟩) 128 128) (oG L D j)) := Lib.hid (by rw [hwd]; exact hz.out.drew)
                      have hud : Hid (Upd (fun q => q = wo.heap.size) w6 wd) := Lib.hid (by rw [hwd]; exact hu.out)
                      have hbd : Hid (Below wo.heap.size wo wd) := Lib.hid (by rw [hwd]; exact hb.out.drew)
                      have hRTw : Hid (RT wd wd.heap.size (some ⟨b, o, none⟩) 10 L) := Lib.hid (hRT.out.up (hq1.out.trans (hbd.out.mono hwsz)))
                      have hFw : Hid (Rd wd wd.heap.size (some ad8) (facL 8)) := Lib.hid (hF8.out.upd (fun ad e _ hh => by injection e with e; subst e; exact hd8.out hh) hud.out)
                      have hrd : Hid (∀ W, Gr wd W → W.cell? ⟨g6, 0, none⟩ = some (.int .i64 8) ∧ W.cell? ⟨g5, 0, none⟩ = some (.int .i64 (a : Int)) ∧ W.cell? (ad8.add a) = some (.int .u8 (U cc))) := Lib.hid (fun W hW => by
                        have hh : Below wo.heap.size wo W := hbd.out.trans (Below.mono hW hbd.out.size)
                        obtain ⟨ad, e, -, hx⟩ := (hFw.out.up hW).get (row_get ha8 _)
                        injection e with e
                        subst e
                        rw [hcc] at hx
                        exact ⟨(hh.cell (p := ⟨g6, 0, none⟩) hg6).trans y60, (hh.cell (p := ⟨g5, 0, none⟩) hg5).trans y50, hx⟩)
                      have hce : 8 ≤ c8 := k8
                      clear hcc
                      refine wpR_region (Gr) 9999 (by kernel_rfl) ?_
                      (rw [← hwd]; replace hwd := Lib.hid hwd)
                      refine wpR_take (i := 0) (v := ?_) (Gr.road) (some 140) rfl (by kernel_rfl) (by kernel_rfl) (by kernel_rfl) (by kernel_rfl) (by kernel_rfl) (fun _ _ _ h => h) (by kernel_rfl) (fun w' hw' => ?_) ?_
                      rotate_left
                      · go_simp; with_reducible rfl
                      simp only [Act.put, List.setIfInBounds_toArray, List.set_cons_zero, List.set_cons_succ]
                      refine wpR_take (i := 1) (v := ?_) (Gr.road) (some 141) rfl (by kernel_rfl) (by kernel_rfl) (by kernel_rfl) (by kernel_rfl) (by kernel_rfl) (fun _ _ _ h => h) (by kernel_rfl) (fun w' hw' => ?_) ?_
                      rotate_left
                      · go_simp; with_reducible rfl
                      simp only [Act.put, List.setIfInBounds_toArray, List.set_cons_zero, List.set_cons_succ]
                      refine wpR_take (i := 2) (v := ?_) (Gr.road) (some 142) rfl (by kernel_rfl) (by kernel_rfl) (by kernel_rfl) (by kernel_rfl) (by kernel_rfl) (fun _ _ _ h => h) (by kernel_rfl) (fun w' hw' => ?_) ?_
                      rotate_left
                      · go_simp; with_reducible rfl
                      simp only [Act.put, List.setIfInBounds_toArray, List.set_cons_zero, List.set_cons_succ]
                      refine wpR_take (i := 3) (v := ?_) (Gr.road) (some 143) rfl (by kernel_rfl) (by kernel_rfl) (by kernel_rfl) (by kernel_rfl) (by kernel_rfl) (fun _ _ _ h => h) (by kernel_rfl) (fun w' hw' => ?_) ?_
                      rotate_left
                      · have q := (hrd.out w' hw').1; go_simp; with_reducible rfl
                      simp only [Act.put, List.setIfInBounds_toArray, List.set_cons_zero, List.set_cons_succ]
                      refine wpR_take (i := 4) (v := ?_) (Gr.road) (some 144) rfl (by kernel_rfl) (by kernel_rfl) (by kernel_rfl) (by kernel_rfl) (by kernel_rfl) (fun _ _ _ h => h) (by kernel_rfl) (fun w' hw' => ?_) ?_
                      rotate_left
                      · go_simp; with_reducible rfl
                      simp only [Act.put, List.setIfInBounds_toArray, List.set_cons_zero, List.set_cons_succ]
                      refine wpR_take (i := 5) (v := ?_) (Gr.road) (some 145) rfl (by kernel_rfl) (by kernel_rfl) (by kernel_rfl) (by kernel_rfl) (by kernel_rfl) (fun _ _ _ h => h) (by kernel_rfl) (fun w' hw' => ?_) ?_
                      rotate_left
                      · go_simp; with_reducible rfl
                      simp only [Act.put, List.setIfInBounds_toArray, List.set_cons_zero, List.set_cons_succ]
                      refine wpR_take (i := 7) (v := ?_) (Gr.road) (some 147) rfl (by kernel_rfl) (by kernel_rfl) (by kernel_rfl) (by kernel_rfl) (by kernel_rfl) (fun _ _ _ h => h) (by kernel_rfl) (fun w' hw' => ?_) ?_
                      rotate_left
                      · go_simp; with_reducible rfl
                      simp only [Act.put, List.setIfInBounds_toArray, List.set_cons_zero, List.set_cons_succ]
                      refine wpR_take (i := 8) (v := ?_) (Gr.road) (some 148) rfl (by kernel_rfl) (by kernel_rfl) (by kernel_rfl) (by kernel_rfl) (by kernel_rfl) (fun _ _ _ h => h) (by kernel_rfl) (fun w' hw' => ?_) ?_
                      rotate_left
                      · go_simp; with_reducible rfl
                      simp only [Act.put, List.setIfInBounds_toArray, List.set_cons_zero, List.set_cons_succ]
                      refine wpR_take (i := 9) (v := ?_) (Gr.road) (some 149) rfl (by kernel_rfl) (by kernel_rfl) (by kernel_rfl) (by kernel_rfl) (by kernel_rfl) (fun _ _ _ h => h) (by kernel_rfl) (fun w' hw' => ?_) ?_
                      rotate_left
                      · go_simp; with_reducible rfl
                      simp only [Act.put, List.setIfInBounds_toArray, List.set_cons_zero, List.set_cons_succ]
                      refine wpR_take (i := 10) (v := ?_) (Gr.road) (some 150) rfl (by kernel_rfl) (by kernel_rfl) (by kernel_rfl) (by kernel_rfl) (by kernel_rfl) (fun _ _ _ h => h) (by kernel_rfl) (fun w' hw' => ?_) ?_
                      rotate_left
                      · have q := (hrd.out w' hw').2.1; go_simp; with_reducible rfl
                      simp only [Act.put, List.setIfInBounds_toArray, List.set_cons_zero, List.set_cons_succ]
                      refine wpR_take (i := 11) (v := ?_) (Gr.road) (some 151) rfl (by kernel_rfl) (by kernel_rfl) (by kernel_rfl) (by kernel_rfl) (by kernel_rfl) (fun _ _ _ h => h) (by kernel_rfl) (fun w' hw' => ?_) ?_
                      rotate_left
                      · go_simp; with_reducible rfl
                      simp only [Act.put, List.setIfInBounds_toArray, List.set_cons_zero, List.set_cons_succ]
                      refine wpR_take (i := 12) (v := ?_) (Gr.road) (some 152) rfl (by kernel_rfl) (by kernel_rfl) (by kernel_rfl) (by kernel_rfl) (by kernel_rfl) (fun _ _ _ h => h) (by kernel_rfl) (fun w' hw' => ?_) ?_
                      rotate_left
                      · have q := (hrd.out w' hw').2.2; go_simp; with_reducible rfl
                      simp only [Act.put, List.setIfInBounds_toArray, List.set_cons_zero, List.set_cons_succ]
                      refine wpR_one 6 rfl (by kernel_rfl) (by kernel_rfl) (fun K hK => ?_)
                      go_simp
                      refine (left_any hok hL10 hs10 hs16' hlj hc hce _ hRTw hFw).mono ?_
                      rintro e wl ⟨rfl, hr6⟩
                      refine hK _ _ (fun _ => hr6) ?_
                      clear hK K
                      rw [hlv.out]
                      try simp only [Act.put, List.setIfInBounds_toArray, List.set_cons_zero, List.set_cons_succ]
                      refine wpR_one 13 rfl (by kernel_rfl) (by kernel_rfl) (fun K hK => ?_)
                      go_simp
                      refine (hdv.out _).mono ?_
                      rintro e w' ⟨rfl, rfl⟩
                      refine hK _ _ (fun _ => Below.refl _ _) ?_
                      clear hK K
                      try simp only [Act.put, List.setIfInBounds_toArray, List.set_cons_zero, List.set_cons_succ]
                      refine wpR_take (i := 14) (v := ?_) (Gr.road) (some 139) rfl (by kernel_rfl) (by kernel_rfl) (by kernel_rfl) (by kernel_rfl) (by kernel_rfl) (fun _ _ _ h => h) (by kernel_rfl) (fun w' hw' => ?_) ?_
                      rotate_left
                      · go_simp; with_reducible rfl
                      simp only [Act.put, List.setIfInBounds_toArray, List.set_cons_zero, List.set_cons_succ]
                      refine wpR_take (i := 15) (v := ?_) (Gr.road) (some 154) rfl (by kernel_rfl) (by kernel_rfl) (by kernel_rfl) (by kernel_rfl) (by kernel_rfl) (fun _ _ _ h => h) (by kernel_rfl) (fun w' hw' => ?_) ?_
                      rotate_left
                      · go_simp; with_reducible rfl
                      simp only [Act.put, List.setIfInBounds_toArray, List.set_cons_zero, List.set_cons_succ]
                      refine wpR_take (i := 16) (v := ?_) (Gr.road) (some 155) rfl (by kernel_rfl) (by kernel_rfl) (by kernel_rfl) (by kernel_rfl) (by kernel_rfl) (fun _ _ _ h => h) (by kernel_rfl) (fun w' hw' => ?_) ?_
                      rotate_left
                      · go_simp; with_reducible rfl
                      simp only [Act.put, List.setIfInBounds_toArray, List.set_cons_zero, List.set_cons_succ]
                      refine wpR_take (i := 17) (v := ?_) (Gr.road) (some 14) rfl (by kernel_rfl) (by kernel_rfl) (by kernel_rfl) (by kernel_rfl) (by kernel_rfl) (fun _ _ _ h => h) (by kernel_rfl) (fun w' hw' => ?_) ?_
                      rotate_left
                      · go_simp; with_reducible rfl
                      simp only [Act.put, List.setIfInBounds_toArray, List.set_cons_zero, List.set_cons_succ]
                      refine wpR_take (i := 18) (v := ?_) (Gr.road) (some 15) rfl (by kernel_rfl) (by kernel_rfl) (by kernel_rfl) (by kernel_rfl) (by kernel_rfl) (fun _ _ _ h => h) (by kernel_rfl) (fun w' hw' => ?_) ?_
                      rotate_left
                      · go_simp; with_reducible rfl
                      simp only [Act.put, List.setIfInBounds_toArray, List.set_cons_zero, List.set_cons_succ]
                      refine wpR_done (by kernel_rfl) ?_ _
                      have hrw := hrd.out wl hr6
                      have q5 : wl.cell? ⟨g5, 0, none⟩ = some (.int .i64 (a : Int)) := hrw.2.1
                      have hzl := hzd.out.below hr6
                      obtain ⟨gq, eg5, hgq, hgq', hcq, hfq, hst5⟩ := hzl.store (k := t) (by unfold oG; rw [row_length]; exact ht128)
                      injection eg5 with eg5
                      injection eg5 with eg5 _ _
                      subst eg5
                      have hz9 : Hid (OB (wl.setCell ⟨wo.heap.size, t, none⟩ (.int .u8 (U dd))) wo.heap.size (.slice (some ⟨wo.heap.size, 0, none⟩) 128 128) (oG L D (j + 1))) := Lib.hid (by rw [← hset.out]; exact hst5 dd)
                      have hu9 : Hid (Upd (fun q => q = wo.heap.size) w6 (wl.setCell ⟨wo.heap.size, t, none⟩ (.int .u8 (U dd)))) := Lib.hid ((hud.out.trans (Upd.of_below hr6)).trans (upd_set t _))
                      have hb9 : Hid (Below wo.heap.size wo (wl.setCell ⟨wo.heap.size, t, none⟩ (.int .u8 (U dd)))) := Lib.hid ((hbd.out.trans (Below.mono hr6 hbd.out.size)).setCell (p := ⟨wo.heap.size, t, none⟩) (Nat.le_refl _) _)
                      clear hst5 hzl hrw hr6 hrd hRTw hFw hzd hud hbd hz hu hb
                      go_wp2_with fail
                      go_roundw
                      case rel => first | exact ⟨j + 1, by omega, by go_num, hz9, hu9, hb9⟩ | ((repeat apply Exists.intro); exact ⟨⟨j + 1, by omega, by go_num, hz9, hu9, hb9⟩, rfl⟩)
                      case measure => simp [intOf]; omega
                    · obtain rfl : j = 16 := by omega
                      have ij : decide (((16 : Nat) : Int) < 16) = false := by decide
                      have hfin : Hid (OB wr w.heap.size (.slice (some ⟨wo.heap.size, 0, none⟩) 128 128) (flat 8 16 D)) := Lib.hid (by rw [← oG_end L D]; exact hz.out.more hwsz)
                      have hqf : Hid (Gr w wr) := Lib.hid (hq1.out.trans (hb.out.mono hwsz))
                      go_wp2_with fail
                      go_ret2
                      exact ⟨hqf.out, .inl ⟨hok.out, h8.out, _, _, rfl, hfin⟩⟩
            · as_aux_lemma =>
                have hmem : ∀ i, i ∈ lackL L 10 → (L.getD i []).length = 0 := fun i hi => (lack_mem.mp hi).2
                have ha0 : (L.getD a []).length = 0 := hmem a (by rw [hla]; simp)
                have ha20 : (L.getD a2 []).length = 0 := hmem a2 (by rw [hla]; simp)
                have h0 : ∀ i, i < 8 → i ≠ a → i ≠ a2 → 0 < (L.getD i []).length := fun i hi hne hne2 => by
                  rcases Nat.lt_or_ge 0 (L.getD i []).length with h | h
                  · exact h
                  · exact absurd ((lack_mem (L := L)).mpr ⟨hi, by omega⟩) (by rw [hla]; simp [hne, hne2])
                have hs8' := Lib.hid hs8
                have hs9' := Lib.hid hs9
                have hsol8' := Lib.hid hsol8
                have hsol9' := Lib.hid hsol9
                replace ha0 := Lib.hid ha0
                replace ha20 := Lib.hid ha20
                replace h0 := Lib.hid h0
                replace hne := Lib.hid hne
                clear hs8 hs9 hsol8 hsol9 hmem
                obtain ⟨g5, c5, e5, hg5, hc5⟩ := h5.out.form0 (by rw [hla]; simp)
                rw [hla] at e5 hc5
                have y50 : wo.cell? ⟨g5, 0, none⟩ = some (.int .i64 (a : Int)) := hc5 0 a rfl
                have y51 : wo.cell? ⟨g5, 1, none⟩ = some (.int .i64 (a2 : Int)) := hc5 1 a2 rfl
                rw [show ([a, a2] : List Nat).length = 2 from rfl] at e5
                subst e5
                obtain ⟨g6, c6, e6, hg6, hc6⟩ := h6.out.form0 (by rw [hsu]; simp)
                rw [hsu] at e6 hc6
                have y60 : wo.cell? ⟨g6, 0, none⟩ = some (.int .i64 8) := hc6 0 8 rfl
                rw [show ([8, 9] : List Nat).length = 2 from rfl] at e6
                subst e6
                clear hc5 hc6 h5q h6q h5 h6
                have hbb : Below wp.heap.size wp ((wp.alloc (.cells #[] 5)).alloc (.cells #[] 5)) := ((Below.refl _ _).alloc (Nat.le_refl _) _).alloc (by simp) _
                have hz4 := hzG.out.below hbb
                have hb4 := hb.out.trans (hbb.mono hb.out.size)
                have hW2 : wo.heap.size < ((wp.alloc (.cells #[] 5)).alloc (.cells #[] 5)).heap.size := by simp; omega
                have hfa8 := Lib.hid (factors_any 8 (by decide) (by decide) ((wp.alloc (.cells #[] 5)).alloc (.cells #[] 5)))
                have y6b : ((wp.alloc (.cells #[] 5)).alloc (.cells #[] 5)).cell? ⟨g6, 0, none⟩ = some (.int .i64 8) := (hb4.cell (p := ⟨g6, 0, none⟩) hg6).trans y60
                have hz4' := Lib.hid hz4
                have hb4' := Lib.hid hb4
                replace hla := Lib.hid hla
                replace hsu := Lib.hid hsu
                clear hz4 hb4 hbb hzG hb y6b
                go_wp2_with fail
                refine hfa8.out.mono ?_
                rintro e w5 ⟨A8, c8, rfl, hf8, hr8⟩
                have hw5 : wo.heap.size < w5.heap.size := Nat.lt_of_lt_of_le hW2 hr8.size
                have hfa9 := Lib.hid (factors_any 9 (by decide) (by decide) w5)
                clear hfa8
                go_wp2_with fail
                refine hfa9.out.mono ?_
                rintro e w6 ⟨A9, c9, rfl, hf9, hr9⟩
                clear hfa9
                have hz6 : Hid (OB w6 wo.heap.size (.slice (some ⟨wo.heap.size, 0, none⟩) 128 128) (oG L D 0)) := Lib.hid ((hz4'.out.below hr8).below hr9)
                have hb6 : Hid (Below wo.heap.size wo w6) := Lib.hid ((hb4'.out.trans (Below.mono hr8 (by omega))).trans (Below.mono hr9 (by omega)))
                have hf8' := hf8.out.below hr9
                obtain ⟨A8', c8', e8', k8, -, hF8, hA8⟩ := hf8'.form
                injection e8' with e81 e82 e83
                rw [facL_length] at k8
                subst e81 e83
                obtain ⟨A9', c9', e9', k9, -, hF9, hA9⟩ := hf9.out.form
                injection e9' with e91 e92 e93
                rw [facL_length] at k9
                subst e91 e93
                obtain ⟨ad8, rfl, -⟩ := hF8.get (row_get (show 0 < 8 by decide) _)
                obtain ⟨ad9, rfl, -⟩ := hF9.get (row_get (show 0 < 8 by decide) _)
                have hd8 : Hid (ad8.block ≠ wo.heap.size) := Lib.hid (by have := hA8 ad8 rfl; omega)
                have hd9 : Hid (ad9.block ≠ wo.heap.size) := Lib.hid (by have := hA9 ad9 rfl; omega)
                replace hF8 := Lib.hid hF8
                replace hF9 := Lib.hid hF9
                clear hA8 hA9 hf8 hf9 hf8' e82 e92 hz4' hb4' hr8 hr9
                have y6c : w6.cell? ⟨g6, 0, none⟩ = some (.int .i64 8) := (hb6.out.cell (p := ⟨g6, 0, none⟩) hg6).trans y60
                go_wp2_with fail
                clear y6c
                go_loopw [13] (fun i wr => ∃ k : Nat, k ≤ 16 ∧ i = .int .i64 k ∧ Hid (OB wr wo.heap.size (.slice (some ⟨wo.heap.size, 0, none⟩) 128 128) (oG L D k)) ∧ Hid (Upd (fun q => q = wo.heap.size) w6 wr) ∧ Hid (Below wo.heap.size wo wr)) (fun i _ => 16 - (intOf i).toNat)
                case atStart => exact ⟨0, Nat.zero_le _, rfl, hz6, Lib.hid (Upd.refl _ _), hb6⟩
                case round =>
                  obtain ⟨j, hj, rfl, hz, hu, hb⟩ := hrel
                  clear hz6 hb6
                  by_cases hlj : j < 16
                  · have ij : (j : Int) < 16 := by omega
                    obtain ⟨p, hp⟩ : ∃ p, ginv (fx 8 a) = p := ⟨_, rfl⟩
                    obtain ⟨q, hq⟩ : ∃ q, ginv (fx 8 a2) = q := ⟨_, rfl⟩
                    obtain ⟨r, hr⟩ : ∃ r, ginv (fx 9 a) = r := ⟨_, rfl⟩
                    obtain ⟨s, hs⟩ : ∃ s, ginv (fx 9 a2) = s := ⟨_, rfl⟩
                    obtain ⟨x, hx⟩ : ∃ x, D a j = x := ⟨_, rfl⟩
                    obtain ⟨y, hy⟩ : ∃ y, D a2 j = y := ⟨_, rfl⟩
                    have hdet : gmul p s ^^^ gmul q r ≠ 0 := by rw [← hp, ← hq, ← hr, ← hs]; exact det_ne ha8 ha28 hne.out
                    have hu8 : Hid (leftV L 8 j 8 = gmul p x ^^^ gmul q y) := Lib.hid (by rw [left_two hT.out (by decide) hlj (hsol8'.out j hlj) ha8 ha28 hne.out ha0.out ha20.out h0.out, hp, hq, hx, hy])
                    have hv9 : Hid (leftV L 9 j 8 = gmul r x ^^^ gmul s y) := Lib.hid (by rw [left_two hT.out (by decide) hlj (hsol9'.out j hlj) ha8 ha28 hne.out ha0.out ha20.out h0.out, hr, hs, hx, hy])
                    obtain ⟨u, hud'⟩ : ∃ u, gmul p x ^^^ gmul q y = u := ⟨_, rfl⟩
                    obtain ⟨v, hvd'⟩ : ∃ v, gmul r x ^^^ gmul s y = v := ⟨_, rfl⟩
                    have hdx : Hid (∀ W, Calls Try.prog 89 #[.int .u8 (U (gmul u s ^^^ gmul q v)), .int .u8 (U (gmul p s ^^^ gmul q r))] W fun e w' => e = .returned (.tuple #[.int .u8 (U x), .bool true]) ∧ W = w') := Lib.hid (fun W => by
                      have h9 := rdiv_any (gmul u s ^^^ gmul q v) (gmul p s ^^^ gmul q r) W
                      rw [if_neg hdet, ← hud', ← hvd', cramer_x, div_one hdet] at h9
                      rw [← hud', ← hvd', cramer_x]
                      exact h9)
                    have hdy : Hid (∀ W, Calls Try.prog 89 #[.int .u8 (U (gmul p v ^^^ gmul u r)), .int .u8 (U (gmul p s ^^^ gmul q r))] W fun e w' => e = .returned (.tuple #[.int .u8 (U y), .bool true]) ∧ W = w') := Lib.hid (fun W => by
                      have h9 := rdiv_any (gmul p v ^^^ gmul u r) (gmul p s ^^^ gmul q r) W
                      rw [if_neg hdet, ← hud', ← hvd', cramer_y, div_one hdet] at h9
                      rw [← hud', ← hvd', cramer_y]
                      exact h9)
                    rw [hud'] at hu8
                    rw [hvd'] at hv9
                    have hset := oG_two hT.out ha8 ha28 hlj h0.out
                    rw [hx, hy] at hset
                    obtain ⟨m1, hm1⟩ : ∃ m1, 16 * a = m1 := ⟨_, rfl⟩
                    obtain ⟨m2, hm2⟩ : ∃ m2, 16 * a2 = m2 := ⟨_, rfl⟩
                    rw [hm1, hm2] at hset
                    have hw1 : IntKind.i64.wrap (16 * (a : Int)) = (m1 : Int) := by rw [IntKind.wrap_i64]; omega
                    have hw2 : IntKind.i64.wrap (16 * (a2 : Int)) = (m2 : Int) := by rw [IntKind.wrap_i64]; omega
                    obtain ⟨t1, ht1⟩ : ∃ t1, m1 + j = t1 := ⟨_, rfl⟩
                    obtain ⟨t2, ht2⟩ : ∃ t2, m2 + j = t2 := ⟨_, rfl⟩
                    rw [ht1, ht2] at hset
                    have hw3 : IntKind.i64.wrap ((m1 : Int) + (j : Int)) = (t1 : Int) := by rw [IntKind.wrap_i64]; omega
                    have hw4 : IntKind.i64.wrap ((m2 : Int) + (j : Int)) = (t2 : Int) := by rw [IntKind.wrap_i64]; omega
                    have ht128 : t1 < 128 := by omega
                    have ht128i : (t1 : Int) < 128 := by omega
                    have ht228 : t2 < 128 := by omega
                    have ht228i : (t2 : Int) < 128 := by omega
                    have ia8 : (a : Int) < 8 := by omega
                    have ia28 : (a2 : Int) < 8 := by omega
                    have hp' := Lib.hid hp
                    have hq' := Lib.hid hq
                    have hr' := Lib.hid hr
                    have hs' := Lib.hid hs
                    replace hx := Lib.hid hx
                    replace hy := Lib.hid hy
                    replace hud' := Lib.hid hud'
                    replace hvd' := Lib.hid hvd'
                    replace hdet := Lib.hid hdet
                    replace hset := Lib.hid hset
                    replace hm1 := Lib.hid hm1
                    replace hm2 := Lib.hid hm2
                    replace ht1 := Lib.hid ht1
                    replace ht2 := Lib.hid ht2
                    clear hp hq hr hs
                    go_wp2_with fail
                    obtain ⟨wd, hwd⟩ : ∃ wd, wd = wr.drew := ⟨_, rfl⟩
                    have hzd : Hid (OB wd wo.heap.size (.slice (some ⟨wo.heap.size, 0, none⟩) 128 128) (oG L D j)) := Lib.hid (by rw [hwd]; exact hz.out.drew)
                    have hud : Hid (Upd (fun q => q = wo.heap.size) w6 wd) := Lib.hid (by rw [hwd]; exact hu.out)
                    have hbd : Hid (Below wo.heap.size wo wd) := Lib.hid (by rw [hwd]; exact hb.out.drew)
                    have hRTw : Hid (RT wd wd.heap.size (some ⟨b, o, none⟩) 10 L) := Lib.hid (hRT.out.up (hq1.out.trans (hbd.out.mono hwsz)))
                    have hFw8 : Hid (Rd wd wd.heap.size (some ad8) (facL 8)) := Lib.hid (hF8.out.upd (fun ad e _ hh => by injection e with e; subst e; exact hd8.out hh) hud.out)
                    have hFw9 : Hid (Rd wd wd.heap.size (some ad9) (facL 9)) := Lib.hid (hF9.out.upd (fun ad e _ hh => by injection e with e; subst e; exact hd9.out hh) hud.out)
                    have hrd : Hid (∀ W, Gr wd W → W.cell? ⟨g5, 0, none⟩ = some (.int .i64 (a : Int)) ∧ W.cell? ⟨g5, 1, none⟩ = some (.int .i64 (a2 : Int)) ∧ W.cell? (ad8.add a) = some (.int .u8 (U p)) ∧ W.cell? (ad8.add a2) = some (.int .u8 (U q)) ∧ W.cell? (ad9.add a) = some (.int .u8 (U r)) ∧ W.cell? (ad9.add a2) = some (.int .u8 (U s))) := Lib.hid (fun W hW => by
                      have hh : Below wo.heap.size wo W := hbd.out.trans (Below.mono hW hbd.out.size)
                      obtain ⟨ad, e, -, x1⟩ := (hFw8.out.up hW).get (row_get ha8 _)
                      injection e with e
                      subst e
                      obtain ⟨ad, e, -, x2⟩ := (hFw8.out.up hW).get (row_get ha28 _)
                      injection e with e
                      subst e
                      obtain ⟨ad, e, -, x3⟩ := (hFw9.out.up hW).get (row_get ha8 _)
                      injection e with e
                      subst e
                      obtain ⟨ad, e, -, x4⟩ := (hFw9.out.up hW).get (row_get ha28 _)
                      injection e with e
                      subst e
                      rw [hp'.out] at x1
                      rw [hq'.out] at x2
                      rw [hr'.out] at x3
                      rw [hs'.out] at x4
                      exact ⟨(hh.cell (p := ⟨g5, 0, none⟩) hg5).trans y50, (hh.cell (p := ⟨g5, 1, none⟩) hg5).trans y51, x1, x2, x3, x4⟩)
                    refine wpR_region (Gr) 9999 (by kernel_rfl) ?_
                    (rw [← hwd]; replace hwd := Lib.hid hwd)
                    refine wpR_take (i := 0) (v := ?_) (Gr.road) (some 168) rfl (by kernel_rfl) (by kernel_rfl) (by kernel_rfl) (by kernel_rfl) (by kernel_rfl) (fun _ _ _ h => h) (by kernel_rfl) (fun w' hw' => ?_) ?_
                    rotate_left
                    · go_simp; with_reducible rfl
                    simp only [Act.put, List.setIfInBounds_toArray, List.set_cons_zero, List.set_cons_succ]
                    refine wpR_take (i := 1) (v := ?_) (Gr.road) (some 169) rfl (by kernel_rfl) (by kernel_rfl) (by kernel_rfl) (by kernel_rfl) (by kernel_rfl) (fun _ _ _ h => h) (by kernel_rfl) (fun w' hw' => ?_) ?_
                    rotate_left
                    · go_simp; with_reducible rfl
                    simp only [Act.put, List.setIfInBounds_toArray, List.set_cons_zero, List.set_cons_succ]
                    refine wpR_take (i := 2) (v := ?_) (Gr.road) (some 170) rfl (by kernel_rfl) (by kernel_rfl) (by kernel_rfl) (by kernel_rfl) (by kernel_rfl) (fun _ _ _ h => h) (by kernel_rfl) (fun w' hw' => ?_) ?_
                    rotate_left
                    · go_simp; with_reducible rfl
                    simp only [Act.put, List.setIfInBounds_toArray, List.set_cons_zero, List.set_cons_succ]
                    refine wpR_take (i := 3) (v := ?_) (Gr.road) (some 171) rfl (by kernel_rfl) (by kernel_rfl) (by kernel_rfl) (by kernel_rfl) (by kernel_rfl) (fun _ _ _ h => h) (by kernel_rfl) (fun w' hw' => ?_) ?_
                    rotate_left
                    · have q := (hrd.out w' hw').1; go_simp; with_reducible rfl
                    simp only [Act.put, List.setIfInBounds_toArray, List.set_cons_zero, List.set_cons_succ]
                    refine wpR_take (i := 4) (v := ?_) (Gr.road) (some 172) rfl (by kernel_rfl) (by kernel_rfl) (by kernel_rfl) (by kernel_rfl) (by kernel_rfl) (fun _ _ _ h => h) (by kernel_rfl) (fun w' hw' => ?_) ?_
                    rotate_left
                    · go_simp; with_reducible rfl
                    simp only [Act.put, List.setIfInBounds_toArray, List.set_cons_zero, List.set_cons_succ]
                    refine wpR_take (i := 5) (v := ?_) (Gr.road) (some 173) rfl (by kernel_rfl) (by kernel_rfl) (by kernel_rfl) (by kernel_rfl) (by kernel_rfl) (fun _ _ _ h => h) (by kernel_rfl) (fun w' hw' => ?_) ?_
                    rotate_left
                    · have q := (hrd.out w' hw').2.2.1; go_simp; with_reducible rfl
                    simp only [Act.put, List.setIfInBounds_toArray, List.set_cons_zero, List.set_cons_succ]
                    refine wpR_take (i := 6) (v := ?_) (Gr.road) (some 174) rfl (by kernel_rfl) (by kernel_rfl) (by kernel_rfl) (by kernel_rfl) (by kernel_rfl) (fun _ _ _ h => h) (by kernel_rfl) (fun w' hw' => ?_) ?_
                    rotate_left
                    · go_simp; with_reducible rfl
                    simp only [Act.put, List.setIfInBounds_toArray, List.set_cons_zero, List.set_cons_succ]
                    refine wpR_take (i := 7) (v := ?_) (Gr.road) (some 175) rfl (by kernel_rfl) (by kernel_rfl) (by kernel_rfl) (by kernel_rfl) (by kernel_rfl) (fun _ _ _ h => h) (by kernel_rfl) (fun w' hw' => ?_) ?_
                    rotate_left
                    · go_simp; with_reducible rfl
                    simp only [Act.put, List.setIfInBounds_toArray, List.set_cons_zero, List.set_cons_succ]
                    refine wpR_take (i := 8) (v := ?_) (Gr.road) (some 176) rfl (by kernel_rfl) (by kernel_rfl) (by kernel_rfl) (by kernel_rfl) (by kernel_rfl) (fun _ _ _ h => h) (by kernel_rfl) (fun w' hw' => ?_) ?_
                    rotate_left
                    · go_simp; with_reducible rfl
                    simp only [Act.put, List.setIfInBounds_toArray, List.set_cons_zero, List.set_cons_succ]
                    refine wpR_take (i := 9) (v := ?_) (Gr.road) (some 177) rfl (by kernel_rfl) (by kernel_rfl) (by kernel_rfl) (by kernel_rfl) (by kernel_rfl) (fun _ _ _ h => h) (by kernel_rfl) (fun w' hw' => ?_) ?_
                    rotate_left
                    · have q := (hrd.out w' hw').2.1; go_simp; with_reducible rfl
                    simp only [Act.put, List.setIfInBounds_toArray, List.set_cons_zero, List.set_cons_succ]
                    refine wpR_take (i := 10) (v := ?_) (Gr.road) (some 178) rfl (by kernel_rfl) (by kernel_rfl) (by kernel_rfl) (by kernel_rfl) (by kernel_rfl) (fun _ _ _ h => h) (by kernel_rfl) (fun w' hw' => ?_) ?_
                    rotate_left
                    · go_simp; with_reducible rfl
                    simp only [Act.put, List.setIfInBounds_toArray, List.set_cons_zero, List.set_cons_succ]
                    refine wpR_take (i := 11) (v := ?_) (Gr.road) (some 179) rfl (by kernel_rfl) (by kernel_rfl) (by kernel_rfl) (by kernel_rfl) (by kernel_rfl) (fun _ _ _ h => h) (by kernel_rfl) (fun w' hw' => ?_) ?_
                    rotate_left
                    · have q := (hrd.out w' hw').2.2.2.1; go_simp; with_reducible rfl
                    simp only [Act.put, List.setIfInBounds_toArray, List.set_cons_zero, List.set_cons_succ]
                    refine wpR_take (i := 12) (v := ?_) (Gr.road) (some 180) rfl (by kernel_rfl) (by kernel_rfl) (by kernel_rfl) (by kernel_rfl) (by kernel_rfl) (fun _ _ _ h => h) (by kernel_rfl) (fun w' hw' => ?_) ?_
                    rotate_left
                    · go_simp; with_reducible rfl
                    simp only [Act.put, List.setIfInBounds_toArray, List.set_cons_zero, List.set_cons_succ]
                    refine wpR_take (i := 13) (v := ?_) (Gr.road) (some 181) rfl (by kernel_rfl) (by kernel_rfl) (by kernel_rfl) (by kernel_rfl) (by kernel_rfl) (fun _ _ _ h => h) (by kernel_rfl) (fun w' hw' => ?_) ?_
                    rotate_left
                    · go_simp; with_reducible rfl
                    simp only [Act.put, List.setIfInBounds_toArray, List.set_cons_zero, List.set_cons_succ]
                    refine wpR_take (i := 14) (v := ?_) (Gr.road) (some 182) rfl (by kernel_rfl) (by kernel_rfl) (by kernel_rfl) (by kernel_rfl) (by kernel_rfl) (fun _ _ _ h => h) (by kernel_rfl) (fun w' hw' => ?_) ?_
                    rotate_left
                    · go_simp; with_reducible rfl
                    simp only [Act.put, List.setIfInBounds_toArray, List.set_cons_zero, List.set_cons_succ]
                    refine wpR_take (i := 15) (v := ?_) (Gr.road) (some 183) rfl (by kernel_rfl) (by kernel_rfl) (by kernel_rfl) (by kernel_rfl) (by kernel_rfl) (fun _ _ _ h => h) (by kernel_rfl) (fun w' hw' => ?_) ?_
                    rotate_left
                    · have q := (hrd.out w' hw').1; go_simp; with_reducible rfl
                    simp only [Act.put, List.setIfInBounds_toArray, List.set_cons_zero, List.set_cons_succ]
                    refine wpR_take (i := 16) (v := ?_) (Gr.road) (some 184) rfl (by kernel_rfl) (by kernel_rfl) (by kernel_rfl) (by kernel_rfl) (by kernel_rfl) (fun _ _ _ h => h) (by kernel_rfl) (fun w' hw' => ?_) ?_
                    rotate_left
                    · go_simp; with_reducible rfl
                    simp only [Act.put, List.setIfInBounds_toArray, List.set_cons_zero, List.set_cons_succ]
                    refine wpR_take (i := 17) (v := ?_) (Gr.road) (some 185) rfl (by kernel_rfl) (by kernel_rfl) (by kernel_rfl) (by kernel_rfl) (by kernel_rfl) (fun _ _ _ h => h) (by kernel_rfl) (fun w' hw' => ?_) ?_
                    rotate_left
                    · have q := (hrd.out w' hw').2.2.2.2.1; go_simp; with_reducible rfl
                    simp only [Act.put, List.setIfInBounds_toArray, List.set_cons_zero, List.set_cons_succ]
                    refine wpR_take (i := 18) (v := ?_) (Gr.road) (some 186) rfl (by kernel_rfl) (by kernel_rfl) (by kernel_rfl) (by kernel_rfl) (by kernel_rfl) (fun _ _ _ h => h) (by kernel_rfl) (fun w' hw' => ?_) ?_
                    rotate_left
                    · go_simp; with_reducible rfl
                    simp only [Act.put, List.setIfInBounds_toArray, List.set_cons_zero, List.set_cons_succ]
                    refine wpR_take (i := 19) (v := ?_) (Gr.road) (some 187) rfl (by kernel_rfl) (by kernel_rfl) (by kernel_rfl) (by kernel_rfl) (by kernel_rfl) (fun _ _ _ h => h) (by kernel_rfl) (fun w' hw' => ?_) ?_
                    rotate_left
                    · go_simp; with_reducible rfl
                    simp only [Act.put, List.setIfInBounds_toArray, List.set_cons_zero, List.set_cons_succ]
                    refine wpR_take (i := 20) (v := ?_) (Gr.road) (some 188) rfl (by kernel_rfl) (by kernel_rfl) (by kernel_rfl) (by kernel_rfl) (by kernel_rfl) (fun _ _ _ h => h) (by kernel_rfl) (fun w' hw' => ?_) ?_
                    rotate_left
                    · go_simp; with_reducible rfl
                    simp only [Act.put, List.setIfInBounds_toArray, List.set_cons_zero, List.set_cons_succ]
                    refine wpR_take (i := 21) (v := ?_) (Gr.road) (some 189) rfl (by kernel_rfl) (by kernel_rfl) (by kernel_rfl) (by kernel_rfl) (by kernel_rfl) (fun _ _ _ h => h) (by kernel_rfl) (fun w' hw' => ?_) ?_
                    rotate_left
                    · have q := (hrd.out w' hw').2.1; go_simp; with_reducible rfl
                    simp only [Act.put, List.setIfInBounds_toArray, List.set_cons_zero, List.set_cons_succ]
                    refine wpR_take (i := 22) (v := ?_) (Gr.road) (some 190) rfl (by kernel_rfl) (by kernel_rfl) (by kernel_rfl) (by kernel_rfl) (by kernel_rfl) (fun _ _ _ h => h) (by kernel_rfl) (fun w' hw' => ?_) ?_
                    rotate_left
                    · go_simp; with_reducible rfl
                    simp only [Act.put, List.setIfInBounds_toArray, List.set_cons_zero, List.set_cons_succ]
                    refine wpR_take (i := 23) (v := ?_) (Gr.road) (some 191) rfl (by kernel_rfl) (by kernel_rfl) (by kernel_rfl) (by kernel_rfl) (by kernel_rfl) (fun _ _ _ h => h) (by kernel_rfl) (fun w' hw' => ?_) ?_
                    rotate_left
                    · have q := (hrd.out w' hw').2.2.2.2.2; go_simp; with_reducible rfl
                    simp only [Act.put, List.setIfInBounds_toArray, List.set_cons_zero, List.set_cons_succ]
                    refine wpR_take (i := 24) (v := ?_) (Gr.road) (some 16) rfl (by kernel_rfl) (by kernel_rfl) (by kernel_rfl) (by kernel_rfl) (by kernel_rfl) (fun _ _ _ h => h) (by kernel_rfl) (fun w' hw' => ?_) ?_
                    rotate_left
                    · go_simp; with_reducible rfl
                    simp only [Act.put, List.setIfInBounds_toArray, List.set_cons_zero, List.set_cons_succ]
                    refine wpR_take (i := 25) (v := ?_) (Gr.road) (some 17) rfl (by kernel_rfl) (by kernel_rfl) (by kernel_rfl) (by kernel_rfl) (by kernel_rfl) (fun _ _ _ h => h) (by kernel_rfl) (fun w' hw' => ?_) ?_
                    rotate_left
                    · go_simp; with_reducible rfl
                    simp only [Act.put, List.setIfInBounds_toArray, List.set_cons_zero, List.set_cons_succ]
                    refine wpR_take (i := 26) (v := ?_) (Gr.road) (some 18) rfl (by kernel_rfl) (by kernel_rfl) (by kernel_rfl) (by kernel_rfl) (by kernel_rfl) (fun _ _ _ h => h) (by kernel_rfl) (fun w' hw' => ?_) ?_
                    rotate_left
                    · go_simp; with_reducible rfl
                    simp only [Act.put, List.setIfInBounds_toArray, List.set_cons_zero, List.set_cons_succ]
                    refine wpR_take (i := 27) (v := ?_) (Gr.road) (some 19) rfl (by kernel_rfl) (by kernel_rfl) (by kernel_rfl) (by kernel_rfl) (by kernel_rfl) (fun _ _ _ h => h) (by kernel_rfl) (fun w' hw' => ?_) ?_
                    rotate_left
                    · go_simp; with_reducible rfl
                    simp only [Act.put, List.setIfInBounds_toArray, List.set_cons_zero, List.set_cons_succ]
                    refine wpR_done (by kernel_rfl) ?_ _
                    go_wp2_with fail
                    refine (left_any hok hL10 (by decide) hs8' hlj hc k8 _ hRTw hFw8).mono ?_
                    rintro e wl ⟨rfl, hr6⟩
                    rw [hu8.out]
                    have hRTl := Lib.hid (hRTw.out.up hr6)
                    have hFl9 := Lib.hid (hFw9.out.up hr6)
                    have hr6' := Lib.hid hr6
                    clear hr6
                    go_wp2_with fail
                    refine (left_any hok hL10 (by decide) hs9' hlj hc k9 _ hRTl hFl9).mono ?_
                    rintro e wm ⟨rfl, hr7⟩
                    rw [hv9.out]
                    have hgm : Hid (Gr wd wm) := Lib.hid (hr6'.out.trans hr7)
                    clear hr7 hr6' hRTl hFl9
                    go_wp2_with fail
                    refine (rmul_any _ _ _).mono ?_
                    rintro e w' ⟨rfl, rfl⟩
                    go_wp2_with fail
                    refine (rmul_any _ _ _).mono ?_
                    rintro e w' ⟨rfl, rfl⟩
                    go_wp2_with fail
                    refine (rmul_any _ _ _).mono ?_
                    rintro e w' ⟨rfl, rfl⟩
                    go_wp2_with fail
                    refine (rmul_any _ _ _).mono ?_
                    rintro e w' ⟨rfl, rfl⟩
                    go_wp2_with fail
                    refine (hdx.out _).mono ?_
                    rintro e w' ⟨rfl, rfl⟩
                    go_wp2_with fail
                    refine (rmul_any _ _ _).mono ?_
                    rintro e w' ⟨rfl, rfl⟩
                    go_wp2_with fail
                    refine (rmul_any _ _ _).mono ?_
                    rintro e w' ⟨rfl, rfl⟩
                    go_wp2_with fail
                    refine (hdy.out _).mono ?_
                    rintro e w' ⟨rfl, rfl⟩
                    go_wp2_with fail
                    obtain ⟨we, hwe⟩ : ∃ we, we = wm.drew := ⟨_, rfl⟩
                    have hge : Gr wd we := by rw [hwe]; exact hgm.out.drew
                    have hrw := hrd.out we hge
                    have q50 : we.cell? ⟨g5, 0, none⟩ = some (.int .i64 (a : Int)) := hrw.1
                    have q51 : we.cell? ⟨g5, 1, none⟩ = some (.int .i64 (a2 : Int)) := hrw.2.1
                    have hzl := hzd.out.below hge
                    obtain ⟨gq, eg5, hgq, hgq', hcq, hfq, hst5⟩ := hzl.store (k := t1) (by unfold oG; rw [row_length]; exact ht128)
                    injection eg5 with eg5
                    injection eg5 with eg5 _ _
                    subst eg5
                    have hz8 := hst5 x
                    obtain ⟨gq, eg5, hgq2, hgq2', hcq2, hfq2, hst6⟩ := hz8.store (k := t2) (by rw [List.length_set]; unfold oG; rw [row_length]; exact ht228)
                    injection eg5 with eg5
                    injection eg5 with eg5 _ _
                    subst eg5
                    have hz9 : Hid (OB ((we.setCell ⟨wo.heap.size, t1, none⟩ (.int .u8 (U x))).setCell ⟨wo.heap.size, t2, none⟩ (.int .u8 (U y))) wo.heap.size (.slice (some ⟨wo.heap.size, 0, none⟩) 128 128) (oG L D (j + 1))) := Lib.hid (by rw [← hset.out]; exact hst6 y)
                    have hu9 : Hid (Upd (fun q => q = wo.heap.size) w6 ((we.setCell ⟨wo.heap.size, t1, none⟩ (.int .u8 (U x))).setCell ⟨wo.heap.size, t2, none⟩ (.int .u8 (U y)))) := Lib.hid (((hud.out.trans (Upd.of_below hge)).trans (upd_set t1 _)).trans (upd_set t2 _))
                    have hb9 : Hid (Below wo.heap.size wo ((we.setCell ⟨wo.heap.size, t1, none⟩ (.int .u8 (U x))).setCell ⟨wo.heap.size, t2, none⟩ (.int .u8 (U y)))) := Lib.hid (((hbd.out.trans (Below.mono hge hbd.out.size)).setCell (p := ⟨wo.heap.size, t1, none⟩) (Nat.le_refl _) _).setCell (p := ⟨wo.heap.size, t2, none⟩) (Nat.le_refl _) _)
                    clear hst5 hst6 hz8 hzl hrw hge hrd hRTw hFw8 hFw9 hzd hud hbd hz hu hb hgm
                    refine wpR_region (Eq) 17 (by kernel_rfl) ?_
                    (rw [← hwe]; replace hwe := Lib.hid hwe)
                    refine wpR_take (i := 0) (v := ?_) (⟨fun _ => rfl, Eq.trans⟩) (some 231) rfl (by kernel_rfl) (by kernel_rfl) (by kernel_rfl) (by kernel_rfl) (by kernel_rfl) (fun _ _ _ h => h) (by kernel_rfl) (fun w' hw' => ?_) ?_
                    rotate_left
                    · go_simp; with_reducible rfl
                    simp only [Act.put, List.setIfInBounds_toArray, List.set_cons_zero, List.set_cons_succ]
                    refine wpR_take (i := 1) (v := ?_) (⟨fun _ => rfl, Eq.trans⟩) (some 232) rfl (by kernel_rfl) (by kernel_rfl) (by kernel_rfl) (by kernel_rfl) (by kernel_rfl) (fun _ _ _ h => h) (by kernel_rfl) (fun w' hw' => ?_) ?_
                    rotate_left
                    · go_simp; with_reducible rfl
                    simp only [Act.put, List.setIfInBounds_toArray, List.set_cons_zero, List.set_cons_succ]
                    refine wpR_take (i := 2) (v := ?_) (⟨fun _ => rfl, Eq.trans⟩) (some 233) rfl (by kernel_rfl) (by kernel_rfl) (by kernel_rfl) (by kernel_rfl) (by kernel_rfl) (fun _ _ _ h => h) (by kernel_rfl) (fun w' hw' => ?_) ?_
                    rotate_left
                    · go_simp; with_reducible rfl
                    simp only [Act.put, List.setIfInBounds_toArray, List.set_cons_zero, List.set_cons_succ]
                    refine wpR_take (i := 3) (v := ?_) (⟨fun _ => rfl, Eq.trans⟩) (some 234) rfl (by kernel_rfl) (by kernel_rfl) (by kernel_rfl) (by kernel_rfl) (by kernel_rfl) (fun _ _ _ h => h) (by kernel_rfl) (fun w' hw' => ?_) ?_
                    rotate_left
                    · subst hw'; go_simp; with_reducible rfl
                    simp only [Act.put, List.setIfInBounds_toArray, List.set_cons_zero, List.set_cons_succ]
                    refine wpR_take (i := 4) (v := ?_) (⟨fun _ => rfl, Eq.trans⟩) (some 235) rfl (by kernel_rfl) (by kernel_rfl) (by kernel_rfl) (by kernel_rfl) (by kernel_rfl) (fun _ _ _ h => h) (by kernel_rfl) (fun w' hw' => ?_) ?_
                    rotate_left
                    · go_simp; with_reducible rfl
                    simp only [Act.put, List.setIfInBounds_toArray, List.set_cons_zero, List.set_cons_succ]
                    refine wpR_take (i := 5) (v := ?_) (⟨fun _ => rfl, Eq.trans⟩) (some 236) rfl (by kernel_rfl) (by kernel_rfl) (by kernel_rfl) (by kernel_rfl) (by kernel_rfl) (fun _ _ _ h => h) (by kernel_rfl) (fun w' hw' => ?_) ?_
                    rotate_left
                    · go_simp; with_reducible rfl
                    simp only [Act.put, List.setIfInBounds_toArray, List.set_cons_zero, List.set_cons_succ]
                    refine wpR_take (i := 6) (v := ?_) (⟨fun _ => rfl, Eq.trans⟩) (some 237) rfl (by kernel_rfl) (by kernel_rfl) (by kernel_rfl) (by kernel_rfl) (by kernel_rfl) (fun _ _ _ h => h) (by kernel_rfl) (fun w' hw' => ?_) ?_
                    rotate_left
                    · go_simp; with_reducible rfl
                    simp only [Act.put, List.setIfInBounds_toArray, List.set_cons_zero, List.set_cons_succ]
                    refine wpR_takeU (i := 7) (v := ?_) (⟨fun _ => rfl, Eq.trans⟩) (some 238) rfl (by kernel_rfl) (by kernel_rfl) (by kernel_rfl) (by kernel_rfl) (fun _ _ _ h => h) (by kernel_rfl) (fun w' => ?_) ?_
                    rotate_left
                    · go_simp; with_reducible rfl
                    simp only [Act.put, List.setIfInBounds_toArray, List.set_cons_zero, List.set_cons_succ]
                    refine wpR_takeU (i := 8) (v := ?_) (⟨fun _ => rfl, Eq.trans⟩) (some 239) rfl (by kernel_rfl) (by kernel_rfl) (by kernel_rfl) (by kernel_rfl) (fun _ _ _ h => h) (by kernel_rfl) (fun w' => ?_) ?_
                    rotate_left
                    · go_simp; with_reducible rfl
                    simp only [Act.put, List.setIfInBounds_toArray, List.set_cons_zero, List.set_cons_succ]
                    refine wpR_takeU (i := 9) (v := ?_) (⟨fun _ => rfl, Eq.trans⟩) (some 240) rfl (by kernel_rfl) (by kernel_rfl) (by kernel_rfl) (by kernel_rfl) (fun _ _ _ h => h) (by kernel_rfl) (fun w' => ?_) ?_
                    rotate_left
                    · go_simp; with_reducible rfl
                    simp only [Act.put, List.setIfInBounds_toArray, List.set_cons_zero, List.set_cons_succ]
                    refine wpR_take (i := 10) (v := ?_) (⟨fun _ => rfl, Eq.trans⟩) (some 241) rfl (by kernel_rfl) (by kernel_rfl) (by kernel_rfl) (by kernel_rfl) (by kernel_rfl) (fun _ _ _ h => h) (by kernel_rfl) (fun w' hw' => ?_) ?_
                    rotate_left
                    · subst hw'; go_simp; with_reducible rfl
                    simp only [Act.put, List.setIfInBounds_toArray, List.set_cons_zero, List.set_cons_succ]
                    refine wpR_takeU (i := 11) (v := ?_) (⟨fun _ => rfl, Eq.trans⟩) (some 242) rfl (by kernel_rfl) (by kernel_rfl) (by kernel_rfl) (by kernel_rfl) (fun _ _ _ h => h) (by kernel_rfl) (fun w' => ?_) ?_
                    rotate_left
                    · go_simp; with_reducible rfl
                    simp only [Act.put, List.setIfInBounds_toArray, List.set_cons_zero, List.set_cons_succ]
                    refine wpR_takeU (i := 12) (v := ?_) (⟨fun _ => rfl, Eq.trans⟩) (some 243) rfl (by kernel_rfl) (by kernel_rfl) (by kernel_rfl) (by kernel_rfl) (fun _ _ _ h => h) (by kernel_rfl) (fun w' => ?_) ?_
                    rotate_left
                    · go_simp; with_reducible rfl
                    simp only [Act.put, List.setIfInBounds_toArray, List.set_cons_zero, List.set_cons_succ]
                    refine wpR_takeU (i := 13) (v := ?_) (⟨fun _ => rfl, Eq.trans⟩) (some 244) rfl (by kernel_rfl) (by kernel_rfl) (by kernel_rfl) (by kernel_rfl) (fun _ _ _ h => h) (by kernel_rfl) (fun w' => ?_) ?_
                    rotate_left
                    · go_simp; with_reducible rfl
                    simp only [Act.put, List.setIfInBounds_toArray, List.set_cons_zero, List.set_cons_succ]
                    refine wpR_take (i := 14) (v := ?_) (⟨fun _ => rfl, Eq.trans⟩) (some 245) rfl (by kernel_rfl) (by kernel_rfl) (by kernel_rfl) (by kernel_rfl) (by kernel_rfl) (fun _ _ _ h => h) (by kernel_rfl) (fun w' hw' => ?_) ?_
                    rotate_left
                    · go_simp; with_reducible rfl
                    simp only [Act.put, List.setIfInBounds_toArray, List.set_cons_zero, List.set_cons_succ]
                    refine wpR_takeU (i := 15) (v := ?_) (⟨fun _ => rfl, Eq.trans⟩) (some 246) rfl (by kernel_rfl) (by kernel_rfl) (by kernel_rfl) (by kernel_rfl) (fun _ _ _ h => h) (by kernel_rfl) (fun w' => ?_) ?_
                    rotate_left
                    · go_simp; with_reducible rfl
                    simp only [Act.put, List.setIfInBounds_toArray, List.set_cons_zero, List.set_cons_succ]
                    refine wpR_take (i := 16) (v := ?_) (⟨fun _ => rfl, Eq.trans⟩) (some 247) rfl (by kernel_rfl) (by kernel_rfl) (by kernel_rfl) (by kernel_rfl) (by kernel_rfl) (fun _ _ _ h => h) (by kernel_rfl) (fun w' hw' => ?_) ?_
                    rotate_left
                    · go_simp; with_reducible rfl
                    simp only [Act.put, List.setIfInBounds_toArray, List.set_cons_zero, List.set_cons_succ]
                    refine wpR_one 17 rfl (by kernel_rfl) (by kernel_rfl) (fun K hK => ?_)
                    go_simp
                    refine hK _ _ (fun h => absurd h (by decide)) ?_
                    clear hK K
                    try simp only [Act.put, List.setIfInBounds_toArray, List.set_cons_zero, List.set_cons_succ]
                    refine wpR_take (i := 18) (v := ?_) (⟨fun _ => rfl, Eq.trans⟩) (some 248) rfl (by kernel_rfl) (by kernel_rfl) (by kernel_rfl) (by kernel_rfl) (by kernel_rfl) (fun _ _ _ h => h) (by kernel_rfl) (fun w' hw' => ?_) ?_
                    rotate_left
                    · go_simp; with_reducible rfl
                    simp only [Act.put, List.setIfInBounds_toArray, List.set_cons_zero, List.set_cons_succ]
                    refine wpR_one 19 rfl (by kernel_rfl) (by kernel_rfl) (fun K hK => ?_)
                    go_simp
                    refine hK _ _ (fun h => absurd h (by decide)) ?_
                    clear hK K
                    try simp only [Act.put, List.setIfInBounds_toArray, List.set_cons_zero, List.set_cons_succ]
                    refine wpR_done (by kernel_rfl) ?_ _
                    go_wp2_with fail
                    go_roundw
                    case rel => first | exact ⟨j + 1, by omega, by go_num, hz9, hu9, hb9⟩ | ((repeat apply Exists.intro); exact ⟨⟨j + 1, by omega, by go_num, hz9, hu9, hb9⟩, rfl⟩)
                    case measure => simp [intOf]; omega
                  · obtain rfl : j = 16 := by omega
                    have ij : decide (((16 : Nat) : Int) < 16) = false := by decide
                    have hfin : Hid (OB wr w.heap.size (.slice (some ⟨wo.heap.size, 0, none⟩) 128 128) (flat 8 16 D)) := Lib.hid (by rw [← oG_end L D]; exact hz.out.more hwsz)
                    have hqf : Hid (Gr w wr) := Lib.hid (hq1.out.trans (hb.out.mono hwsz))
                    go_wp2_with fail
                    go_ret2
                    exact ⟨hqf.out, .inl ⟨hok.out, h8.out, _, _, rfl, hfin⟩⟩
end Go.Proofs.Ytdgkcgiknfjpjaa
