/- rs: the reference's factors and what is left of a sum. -/
import Derived.Test.YtpeilgeloaogfaaRs8
namespace Go.Proofs.Ytpeilgeloaogfaa
set_option linter.unusedVariables false
set_option linter.unusedSimpArgs false
open Go Go.RowKit
def facL (s : Nat) : List UInt8 := row 8 (fun i => ginv (fx s i))
set_option maxHeartbeats 16000000 in
set_option maxRecDepth 20000 in
theorem factors_any (s : Nat) (h8 : 8 ≤ s) (hs : s < 256) (w : World) :
    Calls Try.prog 92 #[.int .i64 s] w fun e w' => ∃ A c, e = .returned (.slice A 8 c) ∧ Hid (OB w' w.heap.size (.slice A 8 c) (facL s)) ∧ Gr w w' := by
  have hrow := Lib.hid (OB.empty w w.heap.size (Nat.le_refl _))
  have hq := Lib.hid ((Below.refl w.heap.size w).alloc (Nat.le_refl _) (.cells #[] 5))
  go_enter Try.func92, Try.ntmps92
  go_wp2_with fail
  obtain ⟨w4, hw4⟩ : ∃ w4, w.alloc (.cells #[] 5) = w4 := ⟨_, rfl⟩
  rw [hw4] at hrow hq ⊢
  replace hw4 := Lib.hid hw4
  go_loopw [3, 4] (fun v i wr => ∃ (k : Nat) (A4 : Option Addr) (c4 : Nat), k ≤ 8 ∧ i = .int .i64 k ∧ v = .slice A4 k c4 ∧ Hid (OB wr w.heap.size (.slice A4 k c4) (row k (fun i => ginv (fx s i)))) ∧ Hid (Below w.heap.size w wr)) (fun _ i _ => 8 - (intOf i).toNat)
  case atStart => exact ⟨0, _, _, Nat.zero_le _, rfl, rfl, hrow, hq⟩
  case round =>
    obtain ⟨k, A4, c4, hk, rfl, rfl, hrow2, hq2⟩ := hrel
    clear hrow hq
    obtain ⟨wo, hwo⟩ : ∃ wo, wo = wr := ⟨_, rfl⟩
    subst hwo
    by_cases hlt : k < 8
    · have ik : (k : Int) < 8 := by omega
      have hfa := Lib.hid (factor_any s k hs (by omega) (by omega) wo)
      obtain ⟨f, hf⟩ : ∃ f, ginv (fx s k) = f := ⟨_, rfl⟩
      rw [hf] at hfa
      have hlit := Lib.hid (Rd.lit wo #[.int .u8 (U f)] 5 [f] rfl ((wo.alloc (.cells #[.int .u8 (U f)] 5)).heap.size) (by simp))
      have ho7 := Lib.hid (hrow2.out.alloc (.cells #[.int .u8 (U f)] 5))
      have hb7 := Lib.hid (hq2.out.alloc hq2.out.size (.cells #[.int .u8 (U f)] 5))
      replace hf := Lib.hid hf
      go_wp2_with fail
      refine hfa.out.mono ?_
      rintro e w' ⟨rfl, rfl⟩
      clear hfa
      go_wp2_with (at_builtin; go_must (refine wpl_append rfl (.tmp 10) (.tmp 14) rfl w.heap.size (.slice A4 k c4) (row k (fun i => ginv (fx s i))) rfl ho7.out _ _ 1 [f] rfl hlit.out (by rw [row_length]; simp; omega) hb7.out.size ?_); intro v8 w8 ho8 hg8 _; have hb8 := Lib.hid (below_row ho7.out hb7.out hb7.out.size hg8); rw [← hf.out, row_snoc k (fun i => ginv (fx s i))] at ho8; obtain ⟨A8, c8, rfl, -, -, -, -⟩ := ho8.form; rw [row_length] at ho8 ⊢; replace ho8 := Lib.hid ho8; clear hg8)
      go_roundw
      case rel => first | exact ⟨k + 1, A8, c8, by omega, by go_num, rfl, ho8, hb8⟩ | ((repeat apply Exists.intro); exact ⟨⟨k + 1, A8, c8, by omega, by go_num, rfl, ho8, hb8⟩, rfl⟩)
      case measure => simp [intOf]; omega
    · obtain rfl : k = 8 := by omega
      have ik : decide (((8 : Nat) : Int) < 8) = false := by decide
      go_wp2_with fail
      go_ret
      exact ⟨A4, c4, rfl, hrow2, hq2.out⟩
def leftV (L : List (List UInt8)) (s b k : Nat) : UInt8 := ent L s b ^^^ gsum k (fun i => gmul (ginv (fx s i)) (ent L i b))
theorem ent_none {L : List (List UInt8)} {i b : Nat} (h : (L.getD i []).length = 0) : ent L i b = 0 := by
  unfold ent
  rw [List.length_eq_zero_iff.mp h]
  rfl
theorem leftV_no {L : List (List UInt8)} {s b k : Nat} (h : (L.getD k []).length = 0) : leftV L s b (k + 1) = leftV L s b k := by
  unfold leftV
  rw [gsum_succ, ent_none h, gmul_zero_r, x0]
theorem leftV_yes {L : List (List UInt8)} {s b k : Nat} : leftV L s b k ^^^ gmul (ginv (fx s k)) (ent L k b) = leftV L s b (k + 1) := by
  unfold leftV
  rw [gsum_succ, xa]
set_option maxHeartbeats 16000000 in
set_option maxRecDepth 20000 in
theorem left_any {L : List (List UInt8)} {bb o c s j : Nat} {A8 : Option Addr} {c8 : Nat} (hok : Hid (shardsOk L)) (hL10 : Hid (L.length = 10)) (hs : s < 10) (hs16 : Hid ((L.getD s []).length = 16)) (hj : j < 16) (hc : 10 ≤ c) (hc8 : 8 ≤ c8) (w : World) (h : Hid (RT w w.heap.size (some ⟨bb, o, none⟩) 10 L)) (hf : Hid (Rd w w.heap.size A8 (facL s))) :
    Calls Try.prog 93 #[.slice (some ⟨bb, o, none⟩) 10 c, .int .i64 s, .int .i64 j, .slice A8 8 c8] w fun e w' => e = .returned (.int .u8 (U (leftV L s j 8))) ∧ Gr w w' := by
  have is : (s : Int) < 10 := by omega
  have ij : (j : Int) < 16 := by omega
  have hbyte : Hid (∀ (W : World), Gr w W → ∀ i, i < 10 → (L.getD i []).length = 16 → ∃ A' c', W.cell? ⟨bb, o + i, none⟩ = some (.slice (some A') 16 c') ∧ W.cell? (A'.add j) = some (.int .u8 (U (ent L i j)))) := Lib.hid (fun W hW i hi hl => by
    obtain ⟨b2, o2, A2, c2, l2, e2, -, hl2, hc2, -, -, hrd2⟩ := (h.out.up hW).at_ hi
    injection e2 with e2
    injection e2 with e21 e22
    subst e21 e22
    have e3 : L.getD i [] = l2 := by rw [List.getD_eq_getElem?_getD, hl2]; rfl
    rw [e3] at hl
    obtain ⟨ad, rfl, -, hx⟩ := hrd2.get (List.getElem?_eq_getElem (show j < l2.length by omega))
    refine ⟨ad, c2, by rw [hl] at hc2; exact hc2, ?_⟩
    rw [hx, ent_get hl2 (List.getElem?_eq_getElem (show j < l2.length by omega))])
  have hnone : Hid (∀ (W : World), Gr w W → ∀ i, i < 10 → (L.getD i []).length = 0 → ∃ A' c', W.cell? ⟨bb, o + i, none⟩ = some (.slice A' 0 c')) := Lib.hid (fun W hW i hi hl => by
    obtain ⟨b2, o2, A2, c2, l2, e2, -, hl2, hc2, -, -, hrd2⟩ := (h.out.up hW).at_ hi
    injection e2 with e2
    injection e2 with e21 e22
    subst e21 e22
    have e3 : L.getD i [] = l2 := by rw [List.getD_eq_getElem?_getD, hl2]; rfl
    rw [e3] at hl
    exact ⟨A2, c2, by rw [hl] at hc2; exact hc2⟩)
  have hfb : Hid (∀ (W : World), Gr w W → ∀ i, i < 8 → ∃ ad, A8 = some ad ∧ W.cell? (ad.add i) = some (.int .u8 (U (ginv (fx s i))))) := Lib.hid (fun W hW i hi => by
    obtain ⟨ad, e, -, hx⟩ := (hf.out.up hW).get (row_get hi _)
    exact ⟨ad, e, hx⟩)
  obtain ⟨ad8, rfl, -⟩ := hfb.out w (Below.refl _ _) 0 (by decide)
  obtain ⟨A', c', hc1, hx1⟩ := hbyte.out w (Below.refl _ _) s hs hs16.out
  have hst : Hid (leftV L s j 0 = ent L s j) := Lib.hid (by unfold leftV; exact x0 _)
  rw [← hst.out] at hx1
  clear h hf
  go_enter Try.func93, Try.ntmps93
  go_wp2_with fail
  clear hc1 hx1
  go_loopw [9, 10] (fun x i wr => ∃ k : Nat, k ≤ 8 ∧ i = .int .i64 k ∧ x = .int .u8 (U (leftV L s j k)) ∧ Hid (Gr w wr)) (fun _ i _ => 8 - (intOf i).toNat)
  case atStart => exact ⟨0, Nat.zero_le _, rfl, rfl, Lib.hid (Below.refl _ _)⟩
  case round =>
    obtain ⟨k, hk, rfl, rfl, hg⟩ := hrel
    by_cases hlt : k < 8
    · have ik : (k : Int) < 8 := by omega
      have ik10 : (k : Int) < 10 := by omega
      rcases hok.out k (by omega) with h0 | h16
      · obtain ⟨A', c', hc1⟩ := hnone.out wr hg.out k (by omega) h0
        have hn := leftV_no (s := s) (b := j) h0
        rw [← hn]
        replace hn := Lib.hid hn
        replace h0 := Lib.hid h0
        go_wp2_with fail
        go_roundw
        case rel => first | exact ⟨k + 1, by omega, by go_num, rfl, hg⟩ | ((repeat apply Exists.intro); exact ⟨⟨k + 1, by omega, by go_num, rfl, hg⟩, rfl⟩)
        case measure => simp [intOf]; omega
      · obtain ⟨A', c', hc1, hx1⟩ := hbyte.out wr hg.out k (by omega) h16
        obtain ⟨ad9, e9, hx2⟩ := hfb.out wr hg.out k hlt
        injection e9 with e9
        subst e9
        have hy := leftV_yes (L := L) (s := s) (b := j) (k := k)
        obtain ⟨a1, ha1⟩ : ∃ a1, leftV L s j k = a1 := ⟨_, rfl⟩
        obtain ⟨a2, ha2⟩ : ∃ a2, ginv (fx s k) = a2 := ⟨_, rfl⟩
        obtain ⟨a3, ha3⟩ : ∃ a3, ent L k j = a3 := ⟨_, rfl⟩
        rw [ha1, ha2, ha3] at hy
        rw [ha1]
        rw [ha2] at hx2
        rw [ha3] at hx1
        replace ha1 := Lib.hid ha1
        replace ha2 := Lib.hid ha2
        replace ha3 := Lib.hid ha3
        replace h16 := Lib.hid h16
        replace hy := Lib.hid hy
        go_wp2_with fail
        obtain ⟨wd, hwd⟩ : ∃ wd, wd = wr.drew := ⟨_, rfl⟩
        have hgd : Hid (Gr w wd) := Lib.hid (by rw [hwd]; exact hg.out.drew)
        have y1 : wd.cell? ⟨bb, o + k, none⟩ = some (.slice (some A') 16 c') := by rw [hwd]; exact hc1
        have y2 : wd.cell? (A'.add j) = some (.int .u8 (U a3)) := by rw [hwd]; exact hx1
        have y3 : wd.cell? (ad8.add k) = some (.int .u8 (U a2)) := by rw [hwd]; exact hx2
        clear hc1 hx1 hx2
        refine wpR_region (Eq) 9999 (by kernel_rfl) ?_
        (rw [← hwd]; replace hwd := Lib.hid hwd)
        refine wpR_take (i := 0) (v := ?_) (⟨fun _ => rfl, Eq.trans⟩) (some 28) rfl (by kernel_rfl) (by kernel_rfl) (by kernel_rfl) (by kernel_rfl) (by kernel_rfl) (fun _ _ _ h => h) (by kernel_rfl) (fun w' hw' => ?_) ?_
        rotate_left
        · go_simp; with_reducible rfl
        simp only [Act.put, List.setIfInBounds_toArray, List.set_cons_zero, List.set_cons_succ]
        refine wpR_take (i := 1) (v := ?_) (⟨fun _ => rfl, Eq.trans⟩) (some 29) rfl (by kernel_rfl) (by kernel_rfl) (by kernel_rfl) (by kernel_rfl) (by kernel_rfl) (fun _ _ _ h => h) (by kernel_rfl) (fun w' hw' => ?_) ?_
        rotate_left
        · go_simp; with_reducible rfl
        simp only [Act.put, List.setIfInBounds_toArray, List.set_cons_zero, List.set_cons_succ]
        refine wpR_take (i := 2) (v := ?_) (⟨fun _ => rfl, Eq.trans⟩) (some 30) rfl (by kernel_rfl) (by kernel_rfl) (by kernel_rfl) (by kernel_rfl) (by kernel_rfl) (fun _ _ _ h => h) (by kernel_rfl) (fun w' hw' => ?_) ?_
        rotate_left
        · go_simp; with_reducible rfl
        simp only [Act.put, List.setIfInBounds_toArray, List.set_cons_zero, List.set_cons_succ]
        refine wpR_take (i := 3) (v := ?_) (⟨fun _ => rfl, Eq.trans⟩) (some 31) rfl (by kernel_rfl) (by kernel_rfl) (by kernel_rfl) (by kernel_rfl) (by kernel_rfl) (fun _ _ _ h => h) (by kernel_rfl) (fun w' hw' => ?_) ?_
        rotate_left
        · go_simp; with_reducible rfl
        simp only [Act.put, List.setIfInBounds_toArray, List.set_cons_zero, List.set_cons_succ]
        refine wpR_take (i := 4) (v := ?_) (⟨fun _ => rfl, Eq.trans⟩) (some 32) rfl (by kernel_rfl) (by kernel_rfl) (by kernel_rfl) (by kernel_rfl) (by kernel_rfl) (fun _ _ _ h => h) (by kernel_rfl) (fun w' hw' => ?_) ?_
        rotate_left
        · subst hw'; go_simp; with_reducible rfl
        simp only [Act.put, List.setIfInBounds_toArray, List.set_cons_zero, List.set_cons_succ]
        refine wpR_take (i := 5) (v := ?_) (⟨fun _ => rfl, Eq.trans⟩) (some 33) rfl (by kernel_rfl) (by kernel_rfl) (by kernel_rfl) (by kernel_rfl) (by kernel_rfl) (fun _ _ _ h => h) (by kernel_rfl) (fun w' hw' => ?_) ?_
        rotate_left
        · go_simp; with_reducible rfl
        simp only [Act.put, List.setIfInBounds_toArray, List.set_cons_zero, List.set_cons_succ]
        refine wpR_take (i := 6) (v := ?_) (⟨fun _ => rfl, Eq.trans⟩) (some 34) rfl (by kernel_rfl) (by kernel_rfl) (by kernel_rfl) (by kernel_rfl) (by kernel_rfl) (fun _ _ _ h => h) (by kernel_rfl) (fun w' hw' => ?_) ?_
        rotate_left
        · go_simp; with_reducible rfl
        simp only [Act.put, List.setIfInBounds_toArray, List.set_cons_zero, List.set_cons_succ]
        refine wpR_take (i := 7) (v := ?_) (⟨fun _ => rfl, Eq.trans⟩) (some 35) rfl (by kernel_rfl) (by kernel_rfl) (by kernel_rfl) (by kernel_rfl) (by kernel_rfl) (fun _ _ _ h => h) (by kernel_rfl) (fun w' hw' => ?_) ?_
        rotate_left
        · go_simp; with_reducible rfl
        simp only [Act.put, List.setIfInBounds_toArray, List.set_cons_zero, List.set_cons_succ]
        refine wpR_take (i := 8) (v := ?_) (⟨fun _ => rfl, Eq.trans⟩) (some 36) rfl (by kernel_rfl) (by kernel_rfl) (by kernel_rfl) (by kernel_rfl) (by kernel_rfl) (fun _ _ _ h => h) (by kernel_rfl) (fun w' hw' => ?_) ?_
        rotate_left
        · subst hw'; go_simp; with_reducible rfl
        simp only [Act.put, List.setIfInBounds_toArray, List.set_cons_zero, List.set_cons_succ]
        refine wpR_take (i := 9) (v := ?_) (⟨fun _ => rfl, Eq.trans⟩) (some 37) rfl (by kernel_rfl) (by kernel_rfl) (by kernel_rfl) (by kernel_rfl) (by kernel_rfl) (fun _ _ _ h => h) (by kernel_rfl) (fun w' hw' => ?_) ?_
        rotate_left
        · go_simp; with_reducible rfl
        simp only [Act.put, List.setIfInBounds_toArray, List.set_cons_zero, List.set_cons_succ]
        refine wpR_take (i := 10) (v := ?_) (⟨fun _ => rfl, Eq.trans⟩) (some 38) rfl (by kernel_rfl) (by kernel_rfl) (by kernel_rfl) (by kernel_rfl) (by kernel_rfl) (fun _ _ _ h => h) (by kernel_rfl) (fun w' hw' => ?_) ?_
        rotate_left
        · go_simp; with_reducible rfl
        simp only [Act.put, List.setIfInBounds_toArray, List.set_cons_zero, List.set_cons_succ]
        refine wpR_take (i := 11) (v := ?_) (⟨fun _ => rfl, Eq.trans⟩) (some 39) rfl (by kernel_rfl) (by kernel_rfl) (by kernel_rfl) (by kernel_rfl) (by kernel_rfl) (fun _ _ _ h => h) (by kernel_rfl) (fun w' hw' => ?_) ?_
        rotate_left
        · subst hw'; go_simp; with_reducible rfl
        simp only [Act.put, List.setIfInBounds_toArray, List.set_cons_zero, List.set_cons_succ]
        refine wpR_one 12 rfl (by kernel_rfl) (by kernel_rfl) (fun K hK => ?_)
        go_simp
        refine (rmul_any _ _ _).mono ?_
        rintro e w' ⟨rfl, rfl⟩
        refine hK _ _ (fun _ => rfl) ?_
        clear hK K
        try simp only [Act.put, List.setIfInBounds_toArray, List.set_cons_zero, List.set_cons_succ]
        refine wpR_take (i := 13) (v := ?_) (⟨fun _ => rfl, Eq.trans⟩) (some 41) rfl (by kernel_rfl) (by kernel_rfl) (by kernel_rfl) (by kernel_rfl) (by kernel_rfl) (fun _ _ _ h => h) (by kernel_rfl) (fun w' hw' => ?_) ?_
        rotate_left
        · go_simp; with_reducible rfl
        simp only [Act.put, List.setIfInBounds_toArray, List.set_cons_zero, List.set_cons_succ]
        refine wpR_take (i := 14) (v := ?_) (⟨fun _ => rfl, Eq.trans⟩) (some 9) rfl (by kernel_rfl) (by kernel_rfl) (by kernel_rfl) (by kernel_rfl) (by kernel_rfl) (fun _ _ _ h => h) (by kernel_rfl) (fun w' hw' => ?_) ?_
        rotate_left
        · go_simp; with_reducible rfl
        simp only [Act.put, List.setIfInBounds_toArray, List.set_cons_zero, List.set_cons_succ]
        refine wpR_done (by kernel_rfl) ?_ _
        go_wp2_with fail
        go_roundw
        case rel => first | exact ⟨k + 1, by omega, by go_num, by rw [← hy.out], hgd⟩ | ((repeat apply Exists.intro); exact ⟨⟨k + 1, by omega, by go_num, by rw [← hy.out], hgd⟩, rfl⟩)
        case measure => simp [intOf]; omega
    · obtain rfl : k = 8 := by omega
      have ik : decide (((8 : Nat) : Int) < 8) = false := by decide
      go_wp2_with fail
      go_ret
      exact ⟨rfl, hg.out⟩
end Go.Proofs.Ytpeilgeloaogfaa
