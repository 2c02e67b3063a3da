/- rs: the reference's factors and what is left of a sum. -/
import Derived.Test.YtdgkcgiknfjpjaaRsB
namespace Go.Proofs.Ytdgkcgiknfjpjaa
set_option linter.unusedVariables false
set_option linter.unusedSimpArgs false
open Go Go.RowKit
def facL (s : Nat) : List UInt8 := row 8 (fun i => ginv (fx s i))
set_option maxHeartbeats 16000000 in
set_option maxRecDepth 20000 in
theorem factors_any (s : Nat) (h8 : 8 ≤ s) (hs : s < 256) (w : World) :
    Calls Try.prog 88 #[.int .i64 s] w fun e w' => ∃ A c, e = .returned (.slice A 8 c) ∧ Hid (OB w' w.heap.size (.slice A 8 c) (facL s)) ∧ Gr w w' := by
  have hrow := Lib.hid (OB.empty w w.heap.size (Nat.le_refl _))
  have hq := Lib.hid ((Below.refl w.heap.size w).alloc (Nat.le_refl _) (.cells #[] 5))
  go_enter Try.func88, Try.ntmps88
  go_wp2_with fail
  obtain ⟨w4, hw4⟩ : ∃ w4, w.alloc (.cells #[] 5) = w4 := ⟨_, rfl⟩
  rw [hw4] at hrow hq ⊢
  replace hw4 := Lib.hid hw4
  go_loopw [3, 4] (fun v i wr => ∃ (k : Nat) (A4 : Option Addr) (c4 : Nat), k ≤ 8 ∧ i = .int .i64 k ∧ v = .slice A4 k c4 ∧ Hid (OB wr w.heap.size (.slice A4 k c4) (row k (fun i => ginv (fx s i)))) ∧ Hid (Below w.heap.size w wr)) (fun _ i _ => 8 - (intOf i).toNat)
  case atStart => exact ⟨0, _, _, Nat.zero_le _, rfl, rfl, hrow, hq⟩
  case round =>
    obtain ⟨k, A4, c4, hk, rfl, rfl, hrow2, hq2⟩ := hrel
    clear hrow hq
    obtain ⟨wo, hwo⟩ : ∃ wo, wo = wr := ⟨_, rfl⟩
    subst hwo
    by_cases hlt : k < 8
    · have ik : (k : Int) < 8 := by omega
      have hfa := Lib.hid (factor_any s k hs (by omega) (by omega) wo)
      obtain ⟨f, hf⟩ : ∃ f, ginv (fx s k) = f := ⟨_, rfl⟩
      rw [hf] at hfa
      have hlit := Lib.hid (Rd.lit wo #[.int .u8 (U f)] 5 [f] rfl ((wo.alloc (.cells #[.int .u8 (U f)] 5)).heap.size) (by simp))
      have ho7 := Lib.hid (hrow2.out.alloc (.cells #[.int .u8 (U f)] 5))
      have hb7 := Lib.hid (hq2.out.alloc hq2.out.size (.cells #[.int .u8 (U f)] 5))
      replace hf := Lib.hid hf
      go_wp2_with fail
      refine hfa.out.mono ?_
      rintro e w' ⟨rfl, rfl⟩
      clear hfa
      go_wp2_with (at_builtin; go_must (refine wpl_append rfl (.tmp 10) (.tmp 14) rfl w.heap.size (.slice A4 k c4) (row k (fun i => ginv (fx s i))) rfl ho7.out _ _ 1 [f] rfl hlit.out (by rw [row_length]; simp; omega) hb7.out.size ?_); intro v8 w8 ho8 hg8 _; have hb8 := Lib.hid (below_row ho7.out hb7.out hb7.out.size hg8); rw [← hf.out, row_snoc k (fun i => ginv (fx s i))] at ho8; obtain ⟨A8, c8, rfl, -, -, -, -⟩ := ho8.form; rw [row_length] at ho8 ⊢; replace ho8 := Lib.hid ho8; clear hg8)
      go_roundw
      case rel => first | exact ⟨k + 1, A8, c8, by omega, by go_num, rfl, ho8, hb8⟩ | ((repeat apply Exists.intro); exact ⟨⟨k + 1, A8, c8, by omega, by go_num, rfl, ho8, hb8⟩, rfl⟩)
      case measure => simp [intOf]; omega
    · obtain rfl : k = 8 := by omega
      have ik : decide (((8 : Nat) : Int) < 8) = false := by decide
      go_wp2_with fail
      go_ret
      exact ⟨A4, c4, rfl, hrow2, hq2.out⟩
def leftV (L : List (List UInt8)) (s b k : Nat) : UInt8 := ent L s b ^^^ gsum k (fun i => gmul (ginv (fx s i)) (ent L i b))
theorem ent_none {L : List (List UInt8)} {i b : Nat} (h : (L.getD i []).length = 0) : ent L i b = 0 := by
  unfold ent
  rw [List.length_eq_zero_iff.mp h]
  rfl
theorem leftV_no {L : List (List UInt8)} {s b k : Nat} (h : (L.getD k []).length = 0) : leftV L s b (k + 1) = leftV L s b k := by
  unfold leftV
  rw [gsum_succ, ent_none h, gmul_zero_r, x0]
theorem leftV_yes {L : List (List UInt8)} {s b k : Nat} : leftV L s b k ^^^ gmul (ginv (fx s k)) (ent L k b) = leftV L s b (k + 1) := by
  unfold leftV
  rw [gsum_succ, xa]
set_option maxHeartbeats 16000000 in
set_option maxRecDepth 20000 in
theorem left_any {L : List (List UInt8)} {bb o c s j : Nat} {A8 : Option Addr} {c8 : Nat} (hok : Hid (shardsOk L)) (hL10 : Hid (L.length = 10)) (hs : s < 10) (hs16 : Hid ((L.getD s []).length = 16)) (hj : j < 16) (hc : 10 ≤ c) (hc8 : 8 ≤ c8) (w : World) (h : Hid (RT w w.heap.size (some ⟨bb, o, none⟩) 10 L)) (hf : Hid (Rd w w.heap.size A8 (facL s))) :
    Calls Try.prog 90 #[.slice (some ⟨bb, o, none⟩) 10 c, .int .i64 s, .int .i64 j, .slice A8 8 c8] w fun e w' => e = .returned (.int .u8 (U (leftV L s j 8))) ∧ Gr w w' := by
  have is : (s : Int) < 10 := by omega
  have ij : (j : Int) < 16 := by omega
  have hbyte : Hid (∀ (W : World), Gr w W → ∀ i, i < 10 → (L.getD i []).length = 16 → ∃ A' c', W.cell? ⟨bb, o + i, none⟩ = some (.slice (some A') 16 c') ∧ W.cell? (A'.add j) = some (.int .u8 (U (ent L i j)))) := Lib.hid (fun W hW i hi hl => by
    obtain ⟨b2, o2, A2, c2, l2, e2, -, hl2, hc2, -, -, hrd2⟩ := (h.out.up hW).at_ hi
    injection e2 with e2
    injection e2 with e21 e22
    subst e21 e22
    have e3 : L.getD i [] = l2 := by rw [List.getD_eq_getElem?_getD, hl2]; rfl
    rw [e3] at hl
    obtain ⟨ad, rfl, -, hx⟩ := hrd2.get (List.getElem?_eq_getElem (show j < l2.length by omega))
    refine ⟨ad, c2, by rw [hl] at hc2; exact hc2, ?_⟩
    rw [hx, ent_get hl2 (List.getElem?_eq_getElem (show j < l2.length by omega))])
  have hnone : Hid (∀ (W : World), Gr w W → ∀ i, i < 10 → (L.getD i []).length = 0 → ∃ A' c', W.cell? ⟨bb, o + i, none⟩ = some (.slice A' 0 c')) := Lib.hid (fun W hW i hi hl => by
    obtain ⟨b2, o2, A2, c2, l2, e2, -, hl2, hc2, -, -, hrd2⟩ := (h.out.up hW).at_ hi
    injection e2 with e2
    injection e2 with e21 e22
    subst e21 e22
    have e3 : L.getD i [] = l2 := by rw [List.getD_eq_getElem?_getD, hl2]; rfl
    rw [e3] at hl
    exact ⟨A2, c2, by rw [hl] at hc2; exact hc2⟩)
  have hfb : Hid (∀ (W : World), Gr w W → ∀ i, i < 8 → ∃ ad, A8 = some ad ∧ W.cell? (ad.add i) = some (.int .u8 (U (ginv (fx s i))))) := Lib.hid (fun W hW i hi => by
    obtain ⟨ad, e, -, hx⟩ := (hf.out.up hW).get (row_get hi _)
    exact ⟨ad, e, hx⟩)
  obtain ⟨ad8, rfl, -⟩ := hfb.out w (Below.refl _ _) 0 (by decide)
  obtain ⟨A', c', hc1, hx1⟩ := hbyte.out w (Below.refl _ _) s hs hs16.out
  have hst : Hid (leftV L s j 0 = ent L s j) := Lib.hid (by unfold leftV; exact x0 _)
  rw [← hst.out] at hx1
  clear h hf
  go_enter Try.func90, Try.ntmps90
  go_wp2_with fail
  clear hc1 hx1
  go_loopw [9, 10] (fun x i wr => ∃ k : Nat, k ≤ 8 ∧ i = .int .i64 k ∧ x = .int .u8 (U (leftV L s j k)) ∧ Hid (Gr w wr)) (fun _ i _ => 8 - (intOf i).toNat)
  case atStart => exact ⟨0, Nat.zero_le _, rfl, rfl, Lib.hid (Below.refl _ _)⟩
  case round =>
    obtain ⟨k, hk, rfl, rfl, hg⟩ := hrel
    by_cases hlt : k < 8
    · have ik : (k : Int) < 8 := by omega
      have ik10 : (k : Int) < 10 := by omega
      rcases hok.out k (by omega) with h0 | h16
      · obtain ⟨A', c', hc1⟩ := hnone.out wr hg.out k (by omega) h0
        have hn := leftV_no (s := s) (b := j) h0
        rw [← hn]
        replace hn := Lib.hid hn
        replace h0 := Lib.hid h0
        go_wp2_with fail
        go_roundw
        case rel => first | exact ⟨k + 1, by omega, by go_num, rfl, hg⟩ | ((repeat apply Exists.intro); exact ⟨⟨k + 1, by omega, by go_num, rfl, hg⟩, rfl⟩)
        case measure => simp [intOf]; omega
      · obtain ⟨A', c', hc1, hx1⟩ := hbyte.out wr hg.out k (by omega) h16
        obtain ⟨ad9, e9, hx2⟩ := hfb.out wr hg.out k hlt
        injection e9 with e9
        subst e9
        have hy := leftV_yes (L := L) (s := s) (b := j) (k := k)
        obtain ⟨a1, ha1⟩ : ∃ a1, leftV L s j k = a1 := ⟨_, rfl⟩
        obtain ⟨a2, ha2⟩ : ∃ a2, ginv (fx s k) = a2 := ⟨_, rfl⟩
        obtain ⟨a3, ha3⟩ : ∃ a3, ent L k j = a3 := ⟨_, rfl⟩
        rw [ha1, ha2, ha3] at hy
        rw [ha1]
        rw [ha2] at hx2
        rw [ha3] at hx1
        replace ha1 := Lib.hid ha1
        replace ha2 := Lib.hid ha2
        replace ha3 := Lib.hid ha3
        replace h16 := Lib.hid h16
        replace hy := Lib.hid hy
        go_wp2_with fail
        obtain ⟨wd, hwd⟩ : ∃ wd, wd = wr.drew := ⟨_, rfl⟩
        have hgd : Hid (Gr w wd) := Lib.hid (by rw [hwd]; exact hg.out.drew)
        have y1 : wd.cell? ⟨bb, o + k, none⟩ = some (.slice (some A') 16 c') := by rw [hwd]; exact hc1
        have y2 : wd.cell? (A'.add j) = some (.int .u8 (U a3)) := by rw [hwd]; exact hx1
        have y3 : wd.cell? (ad8.add k) = some (.int .u8 (U a2)) := by rw [hwd]; exact hx2
        clear hc1 hx1 hx2
        refine wpR_region (Eq) 9999 (by kernel_rfl) ?_
        (rw [← hwd]; replace hwd := Lib.hid hwd)
        refine wpR_take (i := 0) (v := ?_) (⟨fun _ => rfl, Eq.trans⟩) (some 28) rfl (by kernel_rfl) (by kernel_rfl) (by kernel_rfl) (by kernel_rfl) (by kernel_rfl) (fun _ _ _ h => h) (by kernel_rfl) (fun w' hw' => ?_) ?_
        rotate_left
        · go_simp; with_reducible rfl
        simp only [Act.put, List.setIfInBounds_toArray, List.set_cons_zero, List.set_cons_succ]
        refine wpR_take (i := 1) (v := ?_) (⟨fun _ => rfl, Eq.trans⟩) (some 29) rfl (by kernel_rfl) (by kernel_rfl) (by kernel_rfl) (by kernel_rfl) (by kernel_rfl) (fun _ _ _ h => h) (by kernel_rfl) (fun w' hw' => ?_) ?_
        rotate_left
        · go_simp; with_reducible rfl
        simp only [Act.put, List.setIfInBounds_toArray, List.set_cons_zero, List.set_cons_succ]
        refine wpR_take (i := 2) (v := ?_) (⟨fun _ => rfl, Eq.trans⟩) (some 30) rfl (by kernel_rfl) (by kernel_rfl) (by kernel_rfl) (by kernel_rfl) (by kernel_rfl) (fun _ _ _ h => h) (by kernel_rfl) (fun w' hw' => ?_) ?_
        rotate_left
        · go_simp; with_reducible rfl
        simp only [Act.put, List.setIfInBounds_toArray, List.set_cons_zero, List.set_cons_succ]
        refine wpR_take (i := 3) (v := ?_) (⟨fun _ => rfl, Eq.trans⟩) (some 31) rfl (by kernel_rfl) (by kernel_rfl) (by kernel_rfl) (by kernel_rfl) (by kernel_rfl) (fun _ _ _ h => h) (by kernel_rfl) (fun w' hw' => ?_) ?_
        rotate_left
        · go_simp; with_reducible rfl
        simp only [Act.put, List.setIfInBounds_toArray, List.set_cons_zero, List.set_cons_succ]
        refine wpR_take (i := 4) (v := ?_) (⟨fun _ => rfl, Eq.trans⟩) (some 32) rfl (by kernel_rfl) (by kernel_rfl) (by kernel_rfl) (by kernel_rfl) (by kernel_rfl) (fun _ _ _ h => h) (by kernel_rfl) (fun w' hw' => ?_) ?_
        rotate_left
        · subst hw'; go_simp; with_reducible rfl
        simp only [Act.put, List.setIfInBounds_toArray, List.set_cons_zero, List.set_cons_succ]
        refine wpR_take (i := 5) (v := ?_) (⟨fun _ => rfl, Eq.trans⟩) (some 33) rfl (by kernel_rfl) (by kernel_rfl) (by kernel_rfl) (by kernel_rfl) (by kernel_rfl) (fun _ _ _ h => h) (by kernel_rfl) (fun w' hw' => ?_) ?_
        rotate_left
        · go_simp; with_reducible rfl
        simp only [Act.put, List.setIfInBounds_toArray, List.set_cons_zero, List.set_cons_succ]
        refine wpR_take (i := 6) (v := ?_) (⟨fun _ => rfl, Eq.trans⟩) (some 34) rfl (by kernel_rfl) (by kernel_rfl) (by kernel_rfl) (by kernel_rfl) (by kernel_rfl) (fun _ _ _ h => h) (by kernel_rfl) (fun w' hw' => ?_) ?_
        rotate_left
        · go_simp; with_reducible rfl
        simp only [Act.put, List.setIfInBounds_toArray, List.set_cons_zero, List.set_cons_succ]
        refine wpR_take (i := 7) (v := ?_) (⟨fun _ => rfl, Eq.trans⟩) (some 35) rfl (by kernel_rfl) (by kernel_rfl) (by kernel_rfl) (by kernel_rfl) (by kernel_rfl) (fun _ _ _ h => h) (by kernel_rfl) (fun w' hw' => ?_) ?_
        rotate_left
        · go_simp; with_reducible rfl
        simp only [Act.put, List.setIfInBounds_toArray, List.set_cons_zero, List.set_cons_succ]
        refine wpR_take (i := 8) (v := ?_) (⟨fun _ => rfl, Eq.trans⟩) (some 36) rfl (by kernel_rfl) (by kernel_rfl) (by kernel_rfl) (by kernel_rfl) (by kernel_rfl) (fun _ _ _ h => h) (by kernel_rfl) (fun w' hw' => ?_) ?_
        rotate_left
        · subst hw'; go_simp; with_reducible rfl
        simp only [Act.put, List.setIfInBounds_toArray, List.set_cons_zero, List.set_cons_succ]
        refine wpR_take (i := 9) (v := ?_) (⟨fun _ => rfl, Eq.trans⟩) (some 37) rfl (by kernel_rfl) (by kernel_rfl) (by kernel_rfl) (by kernel_rfl) (by kernel_rfl) (fun _ _ _ h => h) (by kernel_rfl) (fun w' hw' => ?_) ?_
        rotate_left
        · go_simp; with_reducible rfl
        simp only [Act.put, List.setIfInBounds_toArray, List.set_cons_zero, List.set_cons_succ]
        refine wpR_take (i := 10) (v := ?_) (⟨fun _ => rfl, Eq.trans⟩) (some 38) rfl (by kernel_rfl) (by kernel_rfl) (by kernel_rfl) (by kernel_rfl) (by kernel_rfl) (fun _ _ _ h => h) (by kernel_rfl) (fun w' hw' => ?_) ?_
        rotate_left
        · go_simp; with_reducible rfl
        simp only [Act.put, List.setIfInBounds_toArray, List.set_cons_zero, List.set_cons_succ]
        refine wpR_take (i := 11) (v := ?_) (⟨fun _ => rfl, Eq.trans⟩) (some 39) rfl (by kernel_rfl) (by kernel_rfl) (by kernel_rfl) (by kernel_rfl) (by kernel_rfl) (fun _ _ _ h => h) (by kernel_rfl) (fun w' hw' => ?_) ?_
        rotate_left
        · subst hw'; go_simp; with_reducible rfl
        simp only [Act.put, List.setIfInBounds_toArray, List.set_cons_zero, List.set_cons_succ]
        refine wpR_one 12 rfl (by kernel_rfl) (by kernel_rfl) (fun K hK => ?_)
        go_simp
        refine (rmul_any _ _ _).mono ?_
        rintro e w' ⟨rfl, rfl⟩
        refine hK _ _ (fun _ => rfl) ?_
        clear hK K
        try simp only [Act.put, List.setIfInBounds_toArray, List.set_cons_zero, List.set_cons_succ]
        refine wpR_take (i := 13) (v := ?_) (⟨fun _ => rfl, Eq.trans⟩) (some 41) rfl (by kernel_rfl) (by kernel_rfl) (by kernel_rfl) (by kernel_rfl) (by kernel_rfl) (fun _ _ _ h => h) (by kernel_rfl) (fun w' hw' => ?_) ?_
        rotate_left
        · go_simp; with_reducible rfl
        simp only [Act.put, List.setIfInBounds_toArray, List.set_cons_zero, List.set_cons_succ]
        refine wpR_take (i := 14) (v := ?_) (⟨fun _ => rfl, Eq.trans⟩) (some 9) rfl (by kernel_rfl) (by kernel_rfl) (by kernel_rfl) (by kernel_rfl) (by kernel_rfl) (fun _ _ _ h => h) (by kernel_rfl) (fun w' hw' => ?_) ?_
        rotate_left
        · go_simp; with_reducible rfl
        simp only [Act.put, List.setIfInBounds_toArray, List.set_cons_zero, List.set_cons_succ]
        refine wpR_done (by kernel_rfl) ?_ _
        go_wp2_with fail
        go_roundw
        case rel => first | exact ⟨k + 1, by omega, by go_num, by rw [← hy.out], hgd⟩ | ((repeat apply Exists.intro); exact ⟨⟨k + 1, by omega, by go_num, by rw [← hy.out], hgd⟩, rfl⟩)
        case measure => simp [intOf]; omega
    · obtain rfl : k = 8 := by omega
      have ik : decide (((8 : Nat) : Int) < 8) = false := by decide
      go_wp2_with fail
      go_ret
      exact ⟨rfl, hg.out⟩
end Go.Proofs.Ytdgkcgiknfjpjaa
/- rs: the reference's Decode: facts. -/
namespace Go.Proofs.Ytdgkcgiknfjpjaa
set_option linter.unusedVariables false
set_option linter.unusedSimpArgs false
open Go Go.RowKit
def lackL (L : List (List UInt8)) (t : Nat) : List Nat := (List.range t).filter (fun r => decide (r < 8) && decide ((L.getD r []).length = 0))
def sumsL (L : List (List UInt8)) (t : Nat) : List Nat := (List.range t).filter (fun r => decide (8 ≤ r) && decide (0 < (L.getD r []).length))
theorem filter_yes {p : Nat → Bool} {t : Nat} (h : p t = true) : (List.range (t + 1)).filter p = (List.range t).filter p ++ [t] := by
  rw [List.range_succ, List.filter_append, List.filter_cons_of_pos h]; rfl
theorem filter_no {p : Nat → Bool} {t : Nat} (h : p t = false) : (List.range (t + 1)).filter p = (List.range t).filter p := by
  rw [List.range_succ, List.filter_append, List.filter_cons_of_neg (by rw [h]; decide), List.filter_nil, List.append_nil]
/-- integers of the call's own -/
def OI (w : World) (B : Nat) (v : Value) (l : List Nat) : Prop := w.ownsRow B 3 1 v l.length (l.map (fun (k : Nat) => Value.int .i64 (k : Int)))
section
variable {w w' : World} {B : Nat} {v : Value} {l : List Nat}
theorem OI.empty (w : World) (B : Nat) (hb : B ≤ w.heap.size) : OI (w.alloc (.cells #[] 3)) B (.slice (some ⟨w.heap.size, 0, none⟩) 0 0) [] := World.ownsRow_made w #[] 0 hb (by simp [maxLen]) rfl
theorem OI.below (h : OI w B v l) (hb : Below w.heap.size w w') : OI w' B v l := row_below h hb
theorem OI.up (h : OI w B v l) : ∀ k, v.ownBlock = some k → B ≤ k ∧ k < w.heap.size := h.lt
theorem OI.grown (h : OI w B v l) {row : Option Nat} (hg : w.grownBy w' row) (hr : ∀ k, row = some k → v.ownBlock ≠ some k) : OI w' B v l :=
  row_keep h (fun k hk => hg.block k (h.up k hk).2 (fun e => hr k e.symm hk))
theorem OI.form (h : OI w B v l) : ∃ A c, v = .slice A l.length c := by
  obtain ⟨A, c, e, -⟩ := row_form h
  exact ⟨A, c, e⟩
theorem OI.form0 (h : OI w B v l) (hn : 0 < l.length) : ∃ g c, v = .slice (some ⟨g, 0, none⟩) l.length c ∧ g < w.heap.size ∧ ∀ (i k : Nat), l[i]? = some k → w.cell? ⟨g, i, none⟩ = some (.int .i64 (k : Int)) := by
  obtain ⟨g, c, e, -, -, -, hg, -, -, h8, -⟩ := row_at h hn
  exact ⟨g, c, e, hg, fun i k hk => h8 i _ (by rw [List.getElem?_map, hk]; rfl)⟩
end
theorem infoI : (Try.prog.info? 3).map (fun i => (i.zero, i.size, i.bytes)) = some (some (.int .i64 0), 1, 8) := by kernel_rfl
theorem wpl_append_int {w : World} {ops : Array Oper} {rest : List Oper} {o : Oper} {a : Act} {Q : Exit → Act → World → Prop} (hgd : o.guard = none) (s x : Operand)
    (ho : o.op = .call { callee := .builtin .append, args := #[s, x], argTypes := #[67, 67] })
    (B : Nat) (v : Value) (l : List Nat) (hs : a.eval s = v) (hat : OI w B v l) (k : Nat)
    (Bx : Nat) (Ax : Option Addr) (cx : Nat) (hx : a.eval x = .slice Ax 1 cx) (hr : Reads w Bx 1 Ax 1 [.int .i64 (k : Int)])
    (hlen : l.length ≤ 1000000) (hbase : B ≤ w.heap.size)
    (h : ∀ v' w', OI w' B v' (l ++ [k]) → w.grownBy w' v.ownBlock → (v'.ownBlock = v.ownBlock ∨ v'.ownBlock = some w.heap.size) → wpList Try.prog ops Q rest (a.put o.dst v') w') : wpList Try.prog ops Q (o :: rest) a w := by
  obtain ⟨i0, hi, hz0, hz1, hz2⟩ := info_parts infoI
  refine wpList_plain hgd fun _ hK => wp_append_any w s x 67 ho B 3 i0 _ 1 8 Try.underlying67 hi hz0 hz1 hz2 rfl (by omega) v l.length _ hs hat Bx Ax 1 cx [.int .i64 (k : Int)] hx hr (fun u hu => by simp at hu; subst hu; rfl)
    (by simp only [maxLen]; omega) (by omega) hbase fun v' w' q1 q2 q3 => hK _ _ (h v' w' ?_ q2 q3)
  unfold OI
  rw [List.length_append, List.map_append]
  exact q1
theorem osep_new {w5 : World} {B : Nat} {x x' y : Value} {l : List Nat} (hs : Sep x y) (hown : x'.ownBlock = x.ownBlock ∨ x'.ownBlock = some w5.heap.size) (hy : OI w5 B y l) : Sep x' y := fun q hq h2 => by
  rcases hown with h | h
  · rw [h] at hq; exact hs q hq h2
  · rw [h] at hq
    injection hq with hq
    have := (hy.up q h2).2
    omega
/-! ### what is out so far -/
def oF (L : List (List UInt8)) (t : Nat) : List UInt8 := row 128 (fun j => if j < t then ent L (j / 16) (j % 16) else 0)
theorem oF_zero (L : List (List UInt8)) : oF L 0 = List.replicate 128 0 := by
  unfold oF
  rw [← row_zero]
  exact row_congr (fun j _ => if_neg (by omega))
theorem oF_set {L : List (List UInt8)} {i b : Nat} (hb : b < 16) : (oF L (16 * i + b)).set (16 * i + b) (ent L i b) = oF L (16 * i + (b + 1)) := by
  unfold oF
  rw [row_set]
  refine row_congr (fun j _ => ?_)
  by_cases e : j = 16 * i + b
  · subst e
    rw [if_pos rfl, if_pos (by omega), show (16 * i + b) / 16 = i from by omega, show (16 * i + b) % 16 = b from by omega]
  · by_cases e2 : j < 16 * i + b
    · rw [if_neg e, if_pos e2, if_pos (by omega)]
    · rw [if_neg e, if_neg e2, if_neg (by omega)]
theorem oF_none {L : List (List UInt8)} {i : Nat} (h : (L.getD i []).length = 0) : oF L (16 * i + 0) = oF L (16 * (i + 1)) := by
  unfold oF
  refine row_congr (fun j _ => ?_)
  by_cases e : j < 16 * i
  · rw [if_pos (by omega), if_pos (by omega)]
  · by_cases e2 : j < 16 * (i + 1)
    · rw [if_neg (by omega), if_pos e2, show j / 16 = i from by omega, ent_none h]
    · rw [if_neg (by omega), if_neg e2]
def oG (L : List (List UInt8)) (D : Mx) (k : Nat) : List UInt8 := row 128 (fun j => if j % 16 < k then D (j / 16) (j % 16) else ent L (j / 16) (j % 16))
theorem oG_zero (L : List (List UInt8)) (D : Mx) : oF L 128 = oG L D 0 := by
  unfold oF oG
  exact row_congr (fun j hj => by rw [if_pos hj, if_neg (by omega)])
theorem oG_end (L : List (List UInt8)) (D : Mx) : oG L D 16 = flat 8 16 D := by
  refine List.ext_getElem? fun k => ?_
  by_cases hk : k < 128
  · have h1 := flat_get (n := 8) (D := D) (i := k / 16) (j := k % 16) (m := 16) (by omega) (by omega)
    rw [show k / 16 * 16 + k % 16 = k from by omega] at h1
    rw [h1]
    unfold oG
    rw [row_get hk, if_pos (by omega)]
  · rw [List.getElem?_eq_none (by unfold oG; rw [row_length]; omega), List.getElem?_eq_none (by rw [flat_length]; omega)]
/-- the parts that are there are their own -/
def There (L : List (List UInt8)) (D : Mx) : Prop := ∀ i j, i < 8 → j < 16 → 0 < (L.getD i []).length → D i j = ent L i j
theorem oG_none {L : List (List UInt8)} {D : Mx} (hT : There L D) (h0 : ∀ i, i < 8 → 0 < (L.getD i []).length) (k : Nat) : oG L D k = oG L D 0 := by
  unfold oG
  refine row_congr (fun j hj => ?_)
  by_cases e : j % 16 < k
  · rw [if_pos e, if_neg (by omega), hT (j / 16) (j % 16) (by omega) (by omega) (h0 _ (by omega))]
  · rw [if_neg e, if_neg (by omega)]
theorem oG_one {L : List (List UInt8)} {D : Mx} (hT : There L D) {a b : Nat} (ha : a < 8) (hb : b < 16) (h0 : ∀ i, i < 8 → i ≠ a → 0 < (L.getD i []).length) : (oG L D b).set (16 * a + b) (D a b) = oG L D (b + 1) := by
  unfold oG
  rw [row_set]
  refine row_congr (fun j hj => ?_)
  by_cases e : j = 16 * a + b
  · subst e
    rw [if_pos rfl, if_pos (by omega), show (16 * a + b) / 16 = a from by omega, show (16 * a + b) % 16 = b from by omega]
  · rw [if_neg e]
    by_cases e2 : j % 16 < b
    · rw [if_pos e2, if_pos (by omega)]
    · rw [if_neg e2]
      by_cases e3 : j % 16 < b + 1
      · rw [if_pos e3, hT (j / 16) (j % 16) (by omega) (by omega) (h0 _ (by omega) (by omega))]
      · rw [if_neg e3]
theorem oG_two {L : List (List UInt8)} {D : Mx} (hT : There L D) {a a2 b : Nat} (ha : a < 8) (ha2 : a2 < 8) (hb : b < 16) (h0 : ∀ i, i < 8 → i ≠ a → i ≠ a2 → 0 < (L.getD i []).length) : ((oG L D b).set (16 * a + b) (D a b)).set (16 * a2 + b) (D a2 b) = oG L D (b + 1) := by
  unfold oG
  rw [row_set, row_set]
  refine row_congr (fun j hj => ?_)
  by_cases e : j = 16 * a2 + b
  · subst e
    rw [if_pos rfl, if_pos (by omega), show (16 * a2 + b) / 16 = a2 from by omega, show (16 * a2 + b) % 16 = b from by omega]
  · rw [if_neg e]
    by_cases e1 : j = 16 * a + b
    · subst e1
      rw [if_pos rfl, if_pos (by omega), show (16 * a + b) / 16 = a from by omega, show (16 * a + b) % 16 = b from by omega]
    · rw [if_neg e1]
      by_cases e2 : j % 16 < b
      · rw [if_pos e2, if_pos (by omega)]
      · rw [if_neg e2]
        by_cases e3 : j % 16 < b + 1
        · rw [if_pos e3, hT (j / 16) (j % 16) (by omega) (by omega) (h0 _ (by omega) (by omega) (by omega))]
        · rw [if_neg e3]
/-! ### the sums -/
theorem left_sum {L : List (List UInt8)} {D : Mx} (hT : There L D) {s j : Nat} (h8 : 8 ≤ s) (hj : j < 16) (hs : encD D s j = ent L s j) (p : Nat → Bool) (hp : ∀ i, i < 8 → p i = false → 0 < (L.getD i []).length) (hp2 : ∀ i, i < 8 → p i = true → (L.getD i []).length = 0) :
    leftV L s j 8 = gsum 8 (fun i => if p i = true then gmul (ginv (fx s i)) (D i j) else 0) := by
  unfold leftV
  rw [← hs]
  unfold encD mm
  rw [← gsum_xor]
  refine gsum_congr (fun i hi => ?_)
  have hc : codeE 8 s i = ginv (fx s i) := by unfold codeE; rw [if_pos h8]
  rw [hc]
  cases h : p i with
  | true => rw [ent_none (hp2 i hi h), gmul_zero_r, x0, if_pos rfl]
  | false => rw [hT i j hi hj (hp i hi h), xx, if_neg (by decide)]
theorem left_one {L : List (List UInt8)} {D : Mx} (hT : There L D) {s j a : Nat} (h8 : 8 ≤ s) (hj : j < 16) (hs : encD D s j = ent L s j) (ha : a < 8) (ha0 : (L.getD a []).length = 0) (h0 : ∀ i, i < 8 → i ≠ a → 0 < (L.getD i []).length) :
    leftV L s j 8 = gmul (ginv (fx s a)) (D a j) := by
  rw [left_sum hT h8 hj hs (fun i => i == a) (fun i hi h => h0 i hi (by simpa using h)) (fun i hi h => by rw [show i = a from by simpa using h]; exact ha0)]
  rw [gsum_one ha _ (fun k hk hne => if_neg (by simpa using hne)), if_pos (by simp)]
theorem left_two {L : List (List UInt8)} {D : Mx} (hT : There L D) {s j a b : Nat} (h8 : 8 ≤ s) (hj : j < 16) (hs : encD D s j = ent L s j) (ha : a < 8) (hb : b < 8) (hab : a ≠ b) (ha0 : (L.getD a []).length = 0) (hb0 : (L.getD b []).length = 0) (h0 : ∀ i, i < 8 → i ≠ a → i ≠ b → 0 < (L.getD i []).length) :
    leftV L s j 8 = gmul (ginv (fx s a)) (D a j) ^^^ gmul (ginv (fx s b)) (D b j) := by
  rw [left_sum hT h8 hj hs (fun i => i == a || i == b) (fun i hi h => by
    simp only [Bool.or_eq_false_iff, beq_eq_false_iff_ne] at h
    exact h0 i hi h.1 h.2) (fun i hi h => by
    simp only [Bool.or_eq_true, beq_iff_eq] at h
    rcases h with h | h
    · rw [h]; exact ha0
    · rw [h]; exact hb0)]
  have e : ∀ i, i < 8 → (if (i == a || i == b) = true then gmul (ginv (fx s i)) (D i j) else 0) = (if (i == a) = true then gmul (ginv (fx s i)) (D i j) else 0) ^^^ (if (i == b) = true then gmul (ginv (fx s i)) (D i j) else 0) := fun i hi => by
    by_cases e1 : i = a
    · subst e1
      rw [if_pos (by simp), if_pos (by simp), if_neg (by simpa using hab), x0]
    · by_cases e2 : i = b
      · subst e2
        rw [if_pos (by simp), if_neg (by simpa using e1), if_pos (by simp), zx]
      · rw [if_neg (by simp [e1, e2]), if_neg (by simpa using e1), if_neg (by simpa using e2), xx]
  rw [gsum_congr e, gsum_xor, gsum_one ha _ (fun k hk hne => if_neg (by simpa using hne)), gsum_one hb _ (fun k hk hne => if_neg (by simpa using hne)), if_pos (by simp), if_pos (by simp)]
theorem fx_inv_ne {s a : Nat} (hs : 8 ≤ s) (hs2 : s < 10) (ha : a < 8) : ginv (fx s a) ≠ 0 := ginv_ne (fx_ne (by omega) (by omega) (by omega))
theorem div_one {c d : UInt8} (hc : c ≠ 0) : gmul (gmul c d) (gpow c 254) = d := by
  rw [gmul_comm c d, gmul_assoc]
  have : gmul c (gpow c 254) = 1 := gmul_inv_r c hc
  rw [this, gmul_one_r]
theorem det_ne {a b : Nat} (ha : a < 8) (hb : b < 8) (hab : a ≠ b) : gmul (ginv (fx 8 a)) (ginv (fx 9 b)) ^^^ gmul (ginv (fx 8 b)) (ginv (fx 9 a)) ≠ 0 := by
  have h : ∀ a : Fin 8, ∀ b : Fin 8, a.1 ≠ b.1 → gmul (ginv (fx 8 a.1)) (ginv (fx 9 b.1)) ^^^ gmul (ginv (fx 8 b.1)) (ginv (fx 9 a.1)) ≠ 0 := by decide +kernel
  exact h ⟨a, ha⟩ ⟨b, hb⟩ hab
theorem cramer_x (p q r s x y : UInt8) : gmul (gmul p x ^^^ gmul q y) s ^^^ gmul q (gmul r x ^^^ gmul s y) = gmul (gmul p s ^^^ gmul q r) x := by
  rw [gmul_xor_l, gmul_xor_r, gmul_xor_l]
  have e1 : gmul (gmul p x) s = gmul (gmul p s) x := by rw [gmul_assoc, gmul_comm x s, ← gmul_assoc]
  have e2 : gmul (gmul q y) s = gmul q (gmul s y) := by rw [gmul_assoc, gmul_comm y s]
  have e3 : gmul q (gmul r x) = gmul (gmul q r) x := (gmul_assoc _ _ _).symm
  rw [e1, e2, e3, xa, ← xa (gmul q (gmul s y)), xc (gmul q (gmul s y)) (gmul (gmul q r) x), xa, xx, x0]
theorem cramer_y (p q r s x y : UInt8) : gmul p (gmul r x ^^^ gmul s y) ^^^ gmul (gmul p x ^^^ gmul q y) r = gmul (gmul p s ^^^ gmul q r) y := by
  rw [gmul_xor_r, gmul_xor_l, gmul_xor_l]
  have e1 : gmul (gmul p x) r = gmul p (gmul r x) := by rw [gmul_assoc, gmul_comm x r]
  have e2 : gmul p (gmul s y) = gmul (gmul p s) y := (gmul_assoc _ _ _).symm
  have e3 : gmul (gmul q y) r = gmul (gmul q r) y := by rw [gmul_assoc, gmul_comm y r, ← gmul_assoc]
  rw [e1, e2, e3, xc (gmul p (gmul r x)) (gmul (gmul p s) y), xa, ← xa (gmul p (gmul r x)), xx, zx]
theorem solves_at {L : List (List UInt8)} {D : Mx} (h8 : 8 ≤ (pidx L 10).length) (hS : Solves L D) {i : Nat} (hi : i ∈ (pidx L 10).take 8) {j : Nat} (hj : j < 16) : encD D i j = ent L i j := by
  obtain ⟨h1, h2, h3⟩ := pidx8 h8
  obtain ⟨t, ht, e⟩ := List.getElem_of_mem hi
  have h := hS t j (by omega) hj
  have e2 : ((pidx L 10).take 8).getD t 0 = i := by rw [List.getD_eq_getElem?_getD, List.getElem?_eq_getElem ht, e]; rfl
  rw [e2] at h
  exact h
def ofB (l : List Bool) (r : Nat) : Bool := l.getD r false
def lackB (l : List Bool) : List Nat := (List.range 10).filter (fun r => decide (r < 8) && !(ofB l r))
def sumsB (l : List Bool) : List Nat := (List.range 10).filter (fun r => decide (8 ≤ r) && ofB l r)
def thereB (l : List Bool) : List Nat := (List.range 10).filter (fun r => ofB l r)
def checkB (l : List Bool) : Bool := decide ((thereB l).length < 8) || ((List.range 8).all (fun i => !(ofB l i) || ((thereB l).take 8).contains i) &&
  ((lackB l == [] && (sumsB l == [] || sumsB l == [8] || sumsB l == [9] || sumsB l == [8, 9])) || (decide ((lackB l).length = 1) && ((sumsB l == [8]) || (sumsB l == [9]) || (sumsB l == [8, 9])) && ((thereB l).take 8).contains ((sumsB l).headD 0)) ||
   (decide ((lackB l).length = 2) && (sumsB l == [8, 9]) && ((thereB l).take 8).contains 8 && ((thereB l).take 8).contains 9)))
set_option maxRecDepth 100000 in
theorem checkB_all : ∀ b0 b1 b2 b3 b4 b5 b6 b7 b8 b9 : Bool, checkB [b0, b1, b2, b3, b4, b5, b6, b7, b8, b9] = true := by decide +kernel
structure LackCase (L : List (List UInt8)) (D : Mx) : Prop where
  there : There L D
  cases : (lackL L 10 = [] ∧ (sumsL L 10 = [] ∨ sumsL L 10 = [8] ∨ sumsL L 10 = [9] ∨ sumsL L 10 = [8, 9])) ∨
    (∃ a s, a < 8 ∧ 8 ≤ s ∧ s < 10 ∧ lackL L 10 = [a] ∧ (sumsL L 10 = [s] ∨ (s = 8 ∧ sumsL L 10 = [8, 9])) ∧ (L.getD s []).length = 16 ∧ ∀ j, j < 16 → encD D s j = ent L s j) ∨
    (∃ a b, a < 8 ∧ b < 8 ∧ a ≠ b ∧ lackL L 10 = [a, b] ∧ sumsL L 10 = [8, 9] ∧ (L.getD 8 []).length = 16 ∧ (L.getD 9 []).length = 16 ∧ (∀ j, j < 16 → encD D 8 j = ent L 8 j) ∧ ∀ j, j < 16 → encD D 9 j = ent L 9 j)
theorem lack_mem {L : List (List UInt8)} {i : Nat} : i ∈ lackL L 10 ↔ i < 8 ∧ (L.getD i []).length = 0 := by
  unfold lackL
  rw [List.mem_filter, List.mem_range]
  simp only [Bool.and_eq_true, decide_eq_true_eq]
  exact ⟨fun h => h.2, fun h => ⟨by omega, h⟩⟩
theorem sums_mem {L : List (List UInt8)} {i : Nat} : i ∈ sumsL L 10 ↔ (i < 10 ∧ 8 ≤ i ∧ 0 < (L.getD i []).length) := by
  unfold sumsL
  rw [List.mem_filter, List.mem_range]
  simp only [Bool.and_eq_true, decide_eq_true_eq]
theorem lack_case {L : List (List UInt8)} {D : Mx} (hok : shardsOk L) (h8 : 8 ≤ (pidx L 10).length) (hS : Solves L D) : LackCase L D := by
  obtain ⟨l, hl⟩ : ∃ l, (List.range 10).map (fun r => decide (0 < (L.getD r []).length)) = l := ⟨_, rfl⟩
  have hof : ∀ r, r < 10 → ofB l r = decide (0 < (L.getD r []).length) := fun r hr => by
    rw [← hl]
    unfold ofB
    rw [List.getD_eq_getElem?_getD, List.getElem?_map, List.getElem?_range hr]
    rfl
  have hc : checkB l = true := by
    rw [← hl]
    exact checkB_all _ _ _ _ _ _ _ _ _ _
  have e1 : thereB l = pidx L 10 := List.filter_congr (fun r hr => by rw [hof r (List.mem_range.mp hr)])
  have e2 : lackB l = lackL L 10 := List.filter_congr (fun r hr => by
    rw [hof r (List.mem_range.mp hr)]
    congr 1
    by_cases h : (L.getD r []).length = 0
    · rw [decide_eq_true h, decide_eq_false (by omega)]; rfl
    · rw [decide_eq_false h, decide_eq_true (by omega)]; rfl)
  have e3 : sumsB l = sumsL L 10 := List.filter_congr (fun r hr => by rw [hof r (List.mem_range.mp hr)])
  unfold checkB at hc
  rw [e1, e2, e3] at hc
  simp only [Bool.or_eq_true, Bool.and_eq_true, decide_eq_true_eq, beq_iff_eq] at hc
  rcases hc with hc | ⟨hc1, hc2⟩
  · omega
  have hT : There L D := fun i j hi hj hp => by
    have h1 := List.all_eq_true.mp hc1 i (List.mem_range.mpr hi)
    rw [hof i (by omega), decide_eq_true hp] at h1
    have h2 : i ∈ (pidx L 10).take 8 := by simpa using h1
    rw [← solves_at h8 hS h2 hj, encD_low hi]
  have hs16 : ∀ s, s ∈ sumsL L 10 → (L.getD s []).length = 16 := fun s hs => by
    obtain ⟨s1, s2, s3⟩ := sums_mem.mp hs
    rcases hok s s1 with h | h
    · omega
    · exact h
  refine ⟨hT, ?_⟩
  rcases hc2 with (⟨hc2, hc3⟩ | ⟨⟨ha, hb⟩, hd⟩) | ⟨⟨⟨ha, hb⟩, hd⟩, hd2⟩
  · refine .inl ⟨hc2, ?_⟩
    rcases hc3 with ((h | h) | h) | h
    · exact .inl h
    · exact .inr (.inl h)
    · exact .inr (.inr (.inl h))
    · exact .inr (.inr (.inr h))
  · obtain ⟨a, hla⟩ := List.length_eq_one_iff.mp ha
    have ham := lack_mem.mp (show a ∈ lackL L 10 by rw [hla]; simp)
    rcases hb with (hb | hb) | hb
    · rw [hb] at hd
      exact .inr (.inl ⟨a, 8, ham.1, by decide, by decide, hla, .inl hb, hs16 8 (by rw [hb]; simp), fun j hj => solves_at h8 hS (by simpa using hd) hj⟩)
    · rw [hb] at hd
      exact .inr (.inl ⟨a, 9, ham.1, by decide, by decide, hla, .inl hb, hs16 9 (by rw [hb]; simp), fun j hj => solves_at h8 hS (by simpa using hd) hj⟩)
    · rw [hb] at hd
      exact .inr (.inl ⟨a, 8, ham.1, by decide, by decide, hla, .inr ⟨rfl, hb⟩, hs16 8 (by rw [hb]; simp), fun j hj => solves_at h8 hS (by simpa using hd) hj⟩)
  · obtain ⟨a, b, hla⟩ : ∃ a b, lackL L 10 = [a, b] := by
      cases h : lackL L 10 with
      | nil => rw [h] at ha; cases ha
      | cons a t =>
        rw [h] at ha
        cases t with
        | nil => cases ha
        | cons b t =>
          cases t with
          | nil => exact ⟨a, b, rfl⟩
          | cons c t => simp at ha
    have ham := lack_mem.mp (show a ∈ lackL L 10 by rw [hla]; simp)
    have hbm := lack_mem.mp (show b ∈ lackL L 10 by rw [hla]; simp)
    have hnd : (lackL L 10).Nodup := List.nodup_range.sublist List.filter_sublist
    rw [hla] at hnd
    exact .inr (.inr ⟨a, b, ham.1, hbm.1, by simpa using hnd, hla, hb, hs16 8 (by rw [hb]; simp), hs16 9 (by rw [hb]; simp), fun j hj => solves_at h8 hS (by simpa using hd) hj, fun j hj => solves_at h8 hS (by simpa using hd2) hj⟩)
end Go.Proofs.Ytdgkcgiknfjpjaa
