/- The reference's Split; the law of blob: the groups of any bytes. -/
import Derived.Test.YtdgkcgiknfjpjaaBl6
namespace Go.Proofs.Ytdgkcgiknfjpjaa
set_option linter.unusedVariables false
set_option linter.unusedSimpArgs false
open Go Go.RowKit
theorem fill_set (i : Nat) (hi : i < 128) (f : Nat → UInt8) : (row i f ++ List.replicate (128 - i) 0).set i (f i) = row (i + 1) f ++ List.replicate (128 - (i + 1)) 0 := by
  rw [List.set_append_right _ _ (by rw [row_length]; exact Nat.le_refl _), row_length, Nat.sub_self, show 128 - i = (127 - i) + 1 from by omega, List.replicate_succ, List.set_cons_zero, show 128 - (i + 1) = 127 - i from by omega]
  have : row (i + 1) f = row i f ++ [f i] := by unfold row; rw [List.range_succ, List.map_append]; rfl
  rw [this, List.append_assoc]
  rfl
theorem padD_lt {l : List UInt8} {q j : Nat} (h : j < l.length) : (padD l q).getD j 0 = l[j] := by
  unfold padD
  rw [List.getD_eq_getElem?_getD, List.getElem?_append_left h, List.getElem?_eq_getElem h]
  rfl
theorem padD_ge {l : List UInt8} {q j : Nat} (h : l.length ≤ j) : (padD l q).getD j 0 = 0 := by
  unfold padD
  rw [List.getD_eq_getElem?_getD, List.getElem?_append_right h, List.getElem?_replicate]
  split <;> rfl
theorem fill_no (i : Nat) (hi : i < 128) (f : Nat → UInt8) (h0 : f i = 0) : row i f ++ List.replicate (128 - i) 0 = row (i + 1) f ++ List.replicate (128 - (i + 1)) 0 := by
  have : row (i + 1) f = row i f ++ [f i] := by unfold row; rw [List.range_succ, List.map_append]; rfl
  rw [this, h0, List.append_assoc, show 128 - i = (127 - i) + 1 from by omega, List.replicate_succ, show 128 - (i + 1) = 127 - i from by omega]
  rfl
set_option maxHeartbeats 4000000 in
set_option maxRecDepth 20000 in
theorem rsplit_any (A : Option Addr) (n c : Nat) (l : List UInt8) (hn : l.length = n) (hnc : n ≤ c) (hn5 : n ≤ 512) (w : World) (hr : Rd w w.heap.size A l) :
    Calls Try.prog 18 #[.slice A n c] w fun e w' => ∃ u, e = .returned u ∧ Tbl (splD l) u w' ∧ Gr w w' := by
  obtain ⟨hg, hq1, hq4, hqn⟩ := ngrp_spec hn5
  obtain ⟨q, hq⟩ : ∃ q, ngrp n = q := ⟨_, rfl⟩
  rw [hq] at hg hq1 hq4 hqn
  have hrg : ∀ w' : World, Calls Try.prog 15 #[.int .i64 n] w' fun e w'' => e = .returned (.int .i64 q) ∧ w'' = w' := fun w' => by
    have h := r18groups_any (n : Int) ⟨by omega, by omega⟩ w'
    rw [hg] at h
    exact h
  obtain ⟨M, hM⟩ : ∃ M, partM 128 (padD l q) = M := ⟨_, rfl⟩
  have hsp : splD l = tabM q 128 M := by unfold splD; rw [hn, hq, hM]
  have hMlt : ∀ k i (h : k * 128 + i < l.length), M k i = l[k * 128 + i] := fun k i h => by rw [← hM]; exact padD_lt h
  have hMge : ∀ k i, l.length ≤ k * 128 + i → M k i = 0 := fun k i h => by rw [← hM]; exact padD_ge h
  have hat := Lib.hid (AT.empty w w.heap.size (Nat.le_refl _))
  have hq0 := Lib.hid (alloc_grB w (.cells #[] 22))
  have d1 : ¬ ((512 : Int) < (n : Int)) := by omega
  replace hr := Lib.hid hr
  replace hrg := Lib.hid hrg
  replace hn := Lib.hid hn
  replace hM := Lib.hid hM
  replace hsp := Lib.hid hsp
  replace hMlt := Lib.hid hMlt
  replace hMge := Lib.hid hMge
  replace hq := Lib.hid hq
  clear hg
  go_enter Try.func18, Try.ntmps18
  go_wp2_with fail
  obtain ⟨w3, hw3⟩ : ∃ w3, w.alloc (.cells #[] 22) = w3 := ⟨_, rfl⟩
  rw [hw3] at hat hq0 ⊢
  replace hw3 := Lib.hid hw3
  go_loopw [3, 4] (fun v i wr => ∃ (k : Nat) (A1 : Option Addr) (c1 : Nat), k ≤ q ∧ i = .int .i64 k ∧ v = .slice A1 k c1 ∧ Hid (AT wr w.heap.size (.slice A1 k c1) (tabM k 128 M)) ∧ Hid (Gr w wr)) (fun _ i _ => q - (intOf i).toNat)
  case atStart => exact ⟨0, _, _, Nat.zero_le _, rfl, rfl, hat, hq0⟩
  case round =>
    clear hat hq0
    obtain ⟨k, A1, c1, hk, rfl, rfl, hat1, hgr1⟩ := hrel
    obtain ⟨wo, hwo⟩ : ∃ wo, wo = wr := ⟨_, rfl⟩
    subst hwo
    go_wp2_with fail
    refine (hrg.out _).mono ?_
    rintro e wx ⟨rfl, hwx⟩
    rw [hwx]
    clear hwx
    by_cases hlt : k < q
    · have ik : (k : Int) < (q : Int) := by omega
      have hws := hgr1.out.size
      go_wp2_with (refine wpl_make rfl (.const (.int .i64 128)) (.const (.int .i64 128)) rfl wo.heap.size 128 rfl rfl (by decide) (Nat.le_refl _) ?_; intro w5 ho5 hb5; replace ho5 := Lib.hid ho5; replace hb5 := Lib.hid hb5)
      obtain ⟨N, hN⟩ : ∃ N, wo.heap.size = N := ⟨_, rfl⟩
      rw [hN] at ho5 hb5 hws ⊢
      replace hN := Lib.hid hN
      go_loopw [6] (fun iv wr => ∃ i : Nat, iv = .int .i64 i ∧ i ≤ 128 ∧ Hid (OB wr N (.slice (some ⟨N, 0, none⟩) 128 128) (row i (M k) ++ List.replicate (128 - i) 0)) ∧ Hid (Below N wo wr)) (fun i _ => 128 - (intOf i).toNat)
      case atStart => exact ⟨0, rfl, Nat.zero_le _, ho5, hb5⟩
      case round =>
        clear ho5 hb5
        obtain ⟨i, rfl, hi, ho, hb⟩ := hrel
        by_cases hi8 : i < 128
        · have i8 : (i : Int) < 128 := by omega
          obtain ⟨s0, hs0⟩ : ∃ s0, 128 * k = s0 := ⟨_, rfl⟩
          have hw1 : IntKind.i64.wrap (128 * (k : Int)) = (s0 : Int) := by rw [IntKind.wrap_i64]; omega
          have hw2 : IntKind.i64.wrap ((s0 : Int) + (i : Int)) = ((s0 + i : Nat) : Int) := by rw [IntKind.wrap_i64]; omega
          obtain ⟨t, ht⟩ : ∃ t, s0 + i = t := ⟨_, rfl⟩
          rw [ht] at hw2
          by_cases htn : t < n
          · have i1 : (t : Int) < (n : Int) := by omega
            have i2 : (0 : Int) ≤ (t : Int) := by omega
            have i3 : t < n := htn
            have hpos : 0 < l.length := by rw [hn.out]; omega
            obtain ⟨b, o, rfl, hbl, hcl⟩ := rd_flat hr.out hpos
            have hti : k * 128 + i < l.length := by rw [hn.out]; omega
            have hMi := hMlt.out k i hti
            have hgw : Gr w wr := hgr1.out.trans (by unfold Gr; rw [hN.out]; exact hb.out)
            have hcx := (Below.cell hgw (p := ⟨b, o + t, none⟩) hbl).trans (hcl t (M k i) (by rw [hMi, show t = k * 128 + i from by omega]; exact List.getElem?_eq_getElem hti))
            obtain ⟨g5, e5, hg5, hg5', hc5, hf5, hst5⟩ := ho.out.store (k := i) (by rw [List.length_append, row_length, List.length_replicate]; omega)
            injection e5 with e5
            injection e5 with e5 _ _
            subst e5
            have hnew := hst5 (M k i)
            rw [fill_set i hi8] at hnew
            have hb6 := hb.out.setCell (p := ⟨N, i, none⟩) (Nat.le_refl N) (.int .u8 (U (M k i)))
            replace hnew := Lib.hid hnew
            replace hb6 := Lib.hid hb6
            replace hs0 := Lib.hid hs0
            replace ht := Lib.hid ht
            clear hst5 hMi hti hgw hpos hcl hbl ho hb
            go_wp2_with fail
            go_roundw
            case rel => exact ⟨i + 1, by go_num, by omega, hnew, hb6⟩
            case measure => simp [intOf]; omega
          · have i1 : ¬ ((t : Int) < (n : Int)) := by omega
            have hMi := hMge.out k i (by rw [hn.out]; omega)
            have hnew : Hid (OB wr N (.slice (some ⟨N, 0, none⟩) 128 128) (row (i + 1) (M k) ++ List.replicate (128 - (i + 1)) 0)) := Lib.hid (by rw [← fill_no i hi8 _ hMi]; exact ho.out)
            replace hs0 := Lib.hid hs0
            replace ht := Lib.hid ht
            replace hMi := Lib.hid hMi
            go_wp2_with fail
            go_roundw
            case rel => exact ⟨i + 1, by go_num, by omega, hnew, hb⟩
            case measure => simp [intOf]; omega
        · obtain rfl : i = 128 := by omega
          have i8 : ¬ (((128 : Nat) : Int) < 128) := by omega
          have hrow : OB wr N (.slice (some ⟨N, 0, none⟩) 128 128) (row 128 (M k)) := by have h := ho.out; rw [Nat.sub_self, List.replicate_zero, List.append_nil] at h; exact h
          have hgi : Gr wo wr := by unfold Gr; rw [hN.out]; exact hb.out
          have hgw := hgr1.out.trans hgi
          have hat2 := hat1.out.below hgi hgr1.out.size
          have hrok : RowOk wr w.heap.size (some ⟨N, 0, none⟩) 128 (row 128 (M k)) := .inl (by rw [row_length]; exact hrow.more hws)
          have hbb := alloc_grB wr (.cells #[.slice (some ⟨N, 0, none⟩) 128 128] 22)
          have hat3 := Lib.hid (hat2.below hbb hgw.size)
          have hrok2 := Lib.hid (hrok.below hbb hgw.size)
          have hg9 := hgw.trans hbb
          have hrd9 : Hid (Reads (wr.alloc (.cells #[.slice (some ⟨N, 0, none⟩) 128 128] 22)) (wr.alloc (.cells #[.slice (some ⟨N, 0, none⟩) 128 128] 22)).heap.size 1 (some ⟨wr.heap.size, 0, none⟩) 1 [.slice (some ⟨N, 0, none⟩) (row 128 (M k)).length 128]) := Lib.hid (by rw [row_length]; exact reads_one wr 22 (.slice (some ⟨N, 0, none⟩) 128 128))
          replace hg9 := Lib.hid hg9
          clear hrow hgi hgw hat2 hrok hbb ho hb
          go_wp2_with (at_builtin; go_must (refine wpl_append_row rfl (.tmp 41) (.tmp 43) rfl w.heap.size (.slice A1 k c1) (tabM k 128 M) rfl hat3.out (some ⟨N, 0, none⟩) 128 (row 128 (M k)) hrok2.out _ _ 1 rfl hrd9.out (by rw [tabM_length]; omega) hg9.out.size ?_); intro v8 w8 hat8 hg8; have hq8 := Lib.hid (show Gr w w8 from hg9.out.grown hg8 hg9.out.size hat3.out.up); rw [tabM_snoc] at hat8; obtain ⟨A8, c8, rfl, -, -, -⟩ := hat8.form hq8.out.size; rw [tabM_length] at hat8 ⊢; replace hat8 := Lib.hid hat8; clear hg8)
          go_roundw
          case rel => exact ⟨k + 1, A8, c8, by omega, by go_num, rfl, hat8, hq8⟩
          case measure => simp [intOf]; omega
    · obtain rfl : k = q := by omega
      have ik : ¬ ((k : Int) < (k : Int)) := by omega
      obtain ⟨A8, c8, e8, h8, h9, h10⟩ := hat1.out.form hgr1.out.size
      have hT : Tbl (tabM k 128 M) (.slice A1 k c1) wo := ⟨A8, c8, e8, h8, h9, h10⟩
      replace hT := Lib.hid hT
      clear e8 h8 h9 h10 hat1
      go_wp2_with fail
      go_ret
      exact ⟨_, rfl, by rw [hsp.out]; exact hT.out, hgr1.out⟩
theorem rsplit_big (A : Option Addr) (n c : Nat) (hn5 : 512 < n) (w : World) :
    Calls Try.prog 18 #[.slice A n c] w fun e w' => ∃ u, e = .returned u ∧ Tbl [] u w' ∧ Gr w w' := by
  have hga := Lib.hid (alloc_grB w (.cells #[] 22))
  have d1 : (512 : Int) < (n : Int) := by omega
  clear hn5
  go_enter Try.func18, Try.ntmps18
  go_wp2_with fail
  go_ret
  exact ⟨_, rfl, ⟨_, 0, rfl, Nat.le_refl _, Nat.zero_le _, rfl, fun hn => absurd hn (by simp)⟩, hga.out⟩
end Go.Proofs.Ytdgkcgiknfjpjaa
