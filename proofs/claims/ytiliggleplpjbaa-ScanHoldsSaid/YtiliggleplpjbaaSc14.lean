/- scan: cmp.Or of ints; compare. -/
import Derived.Test.YtiliggleplpjbaaSc13
import Derived.Test.YtiliggleplpjbaaReg2
namespace Go.Proofs.Ytiliggleplpjbaa
set_option linter.unusedVariables false
set_option linter.unusedSimpArgs false
open Go Go.RowKit Go.Maps Go.Proofs
def orI : List Int → Int
  | [] => 0
  | z :: l => if z ≠ 0 then z else orI l
theorem orI_cons (z : Int) (l : List Int) : orI (z :: l) = if z ≠ 0 then z else orI l := rfl
theorem or_any (l : List Int) (b : Nat) (n : Nat) (hn : l.length = n) (hn4 : n ≤ 100) (w : World) (hc : ∀ i z, l[i]? = some z → w.cell? ⟨b, i, none⟩ = some (.int .i64 z)) : Calls Try.prog 44 #[.slice (some ⟨b, 0, none⟩) n n] w fun e w' => e = .returned (.int .i64 (orI l)) ∧ w' = w := by
  replace hc := Lib.hid hc
  go_enter Try.func44, Try.ntmps44
  go_wp2_with fail
  go_loopw [8] (fun u wr => ∃ i : Nat, i ≤ n ∧ u = .int .i64 i ∧ Hid (orI l = orI (l.drop i)) ∧ wr = w) (fun u _ => (n - intOf u).toNat)
  case atStart => exact ⟨0, Nat.zero_le _, rfl, Lib.hid rfl, rfl⟩
  case round =>
    obtain ⟨i, hi, rfl, ho, rfl⟩ := hrel
    by_cases hlt : i < n
    · have ii : (i : Int) < (n : Int) := by omega
      obtain ⟨z, hz⟩ : ∃ z, l[i]? = some z := ⟨_, List.getElem?_eq_getElem (by omega)⟩
      have q0 := hc.out i z hz
      have hd : l.drop i = z :: l.drop (i + 1) := by
        obtain ⟨h1, h2⟩ := List.getElem?_eq_some_iff.mp hz
        rw [List.drop_eq_getElem_cons h1, h2]
      have ho2 := ho.out
      rw [hd, orI_cons] at ho2
      replace hd := Lib.hid hd
      replace hz := Lib.hid hz
      by_cases hz0 : z = 0
      · subst hz0
        have ho3 : Hid (orI l = orI (l.drop (i + 1))) := Lib.hid (by rw [ho2, if_neg (by simp)])
        clear ho2
        go_wp2_with fail
        go_roundw
        case rel => exact ⟨i + 1, by omega, by go_num, ho3, by first | trivial | rfl⟩
        case measure => simp [intOf]; omega
      · have ho3 : Hid (orI l = z) := Lib.hid (by rw [ho2, if_pos hz0])
        clear ho2
        go_wp2_with fail
        go_ret
        exact ⟨by rw [ho3.out]; rfl, rfl⟩
    · obtain rfl : n = i := by omega
      have ho3 : Hid (orI l = 0) := Lib.hid (by rw [ho.out, List.drop_eq_nil_of_le (by omega)]; rfl)
      go_wp2_with fail
      go_ret
      exact ⟨by rw [ho3.out]; rfl, rfl⟩
/-- what compare answers -/
def cmpE (a b : EnP) : Int := orI [cmpI (fewestL b.places : Nat) (fewestL a.places : Nat), cmpI b.gen a.gen, cmpI a.size b.size, cmpB a.sum b.sum]
theorem cmpI_lt (x y : Int) : cmpI x y < 0 ↔ x < y := by
  unfold cmpI
  split
  · omega
  · split <;> omega
theorem cmpI_zero (x y : Int) : cmpI x y = 0 ↔ x = y := by
  unfold cmpI
  split
  · constructor
    · intro h; cases h
    · intro h; omega
  · split
    · constructor
      · intro h; cases h
      · intro h; omega
    · simp; omega
theorem cmpE_lt (a b : EnP) : decide (cmpE a b < 0) = aheadB a b := by
  unfold cmpE aheadB
  rw [orI_cons]
  by_cases h1 : fewestL a.places = fewestL b.places
  · rw [if_neg (by rw [ne_eq, Decidable.not_not, cmpI_zero]; omega), if_neg (by simp [h1]), orI_cons]
    by_cases h2 : a.gen = b.gen
    · rw [if_neg (by rw [ne_eq, Decidable.not_not, cmpI_zero]; omega), if_neg (by simp [h2]), orI_cons]
      by_cases h3 : a.size = b.size
      · rw [if_neg (by rw [ne_eq, Decidable.not_not, cmpI_zero]; omega), if_neg (by simp [h3]), orI_cons]
        by_cases h4 : cmpB a.sum b.sum = 0
        · rw [if_neg (by simp [h4])]
          rw [(cmpB_iff _ _).2] at h4
          rw [h4, Bool.eq_iff_iff, decide_eq_true_iff, decide_eq_true_iff]
          constructor
          · intro h; exact absurd h (by decide)
          · intro h; exact absurd h (bl_irrefl _)
        · rw [if_pos h4, Bool.eq_iff_iff, decide_eq_true_iff, decide_eq_true_iff, (cmpB_iff _ _).1]
      · rw [if_pos (by rw [ne_eq, cmpI_zero]; exact h3), if_pos h3, Bool.eq_iff_iff, decide_eq_true_iff, decide_eq_true_iff, cmpI_lt]
    · rw [if_pos (by rw [ne_eq, cmpI_zero]; omega), if_pos h2, Bool.eq_iff_iff, decide_eq_true_iff, decide_eq_true_iff, cmpI_lt]
  · rw [if_pos (by rw [ne_eq, cmpI_zero]; omega), if_pos h1, Bool.eq_iff_iff, decide_eq_true_iff, decide_eq_true_iff, cmpI_lt]
    omega
set_option maxRecDepth 10000 in
set_option maxHeartbeats 4000000 in
theorem compare_any (a b : EnP) (A B : Option Addr) (c d G H : Nat) (hG1 : 1 ≤ G) (hG4 : G ≤ 4) (hH1 : 1 ≤ H) (hH4 : H ≤ 4) (hla : a.places.length = 10 * G) (hlb : b.places.length = 10 * H) (w : World) (hpa : Pls a.places (.slice A (10 * G) c) w) (hpb : Pls b.places (.slice B (10 * H) d) w) :
    Calls Try.prog 21 #[.agg #[.string (bs a.key), .int .i64 a.gen, .int .i64 a.size, .string (bs a.sum), .slice A (10 * G) c], .agg #[.string (bs b.key), .int .i64 b.gen, .int .i64 b.size, .string (bs b.sum), .slice B (10 * H) d]] w fun e w' => e = .returned (.int .i64 (cmpE a b)) ∧ Gr w w' := by
  obtain ⟨ak, ag, az, au, ap⟩ := a
  obtain ⟨bk, bg, bz, bu, bp⟩ := b
  simp only at hla hlb hpa hpb ⊢
  obtain ⟨Q, hQ⟩ : ∃ Q, 10 * G = Q := ⟨_, rfl⟩
  obtain ⟨R, hR⟩ : ∃ R, 10 * H = R := ⟨_, rfl⟩
  have hfa : Hid (∀ q, Gr w q → Calls Try.prog 20 #[.agg #[.string (bs ak), .int .i64 ag, .int .i64 az, .string (bs au), .slice A Q c]] q fun e w' => e = .returned (.int .i64 (fewestL ap)) ∧ Gr q w') := Lib.hid (fun q hq => by rw [← hQ]; exact fewest_any ak ag az au ap A c G hG1 hG4 hla q (Pls.gr hq (Lib.hid hpa)).out)
  have hfb : Hid (∀ q, Gr w q → Calls Try.prog 20 #[.agg #[.string (bs bk), .int .i64 bg, .int .i64 bz, .string (bs bu), .slice B R d]] q fun e w' => e = .returned (.int .i64 (fewestL bp)) ∧ Gr q w') := Lib.hid (fun q hq => by rw [← hR]; exact fewest_any bk bg bz bu bp B d H hH1 hH4 hlb q (Pls.gr hq (Lib.hid hpb)).out)
  have hce : Hid (cmpE ⟨ak, ag, az, au, ap⟩ ⟨bk, bg, bz, bu, bp⟩ = orI [cmpI (fewestL bp : Nat) (fewestL ap : Nat), cmpI bg ag, cmpI az bz, cmpB au bu]) := Lib.hid rfl
  rw [hQ, hR, hce.out]
  generalize fewestL ap = fa at hfa ⊢
  generalize fewestL bp = fb at hfb ⊢
  obtain ⟨W, hW⟩ : ∃ W, (w.alloc (.cells #[.string (bs ak), .int .i64 ag, .int .i64 az, .string (bs au), .slice A Q c] 32)).alloc (.cells #[.string (bs bk), .int .i64 bg, .int .i64 bz, .string (bs bu), .slice B R d] 32) = W := ⟨_, rfl⟩
  have hg1 : Gr w W := by rw [← hW]; exact (Gr.alloc _ _).trans (Gr.alloc _ _)
  have hb1 : W.heap[w.heap.size]? = some (.cells #[.string (bs ak), .int .i64 ag, .int .i64 az, .string (bs au), .slice A Q c] 32 (0, 0)) := by rw [← hW]; exact blk_below (heap_alloc_new w _) (Gr.alloc _ _)
  have hb2 : W.heap[w.heap.size + 1]? = some (.cells #[.string (bs bk), .int .i64 bg, .int .i64 bz, .string (bs bu), .slice B R d] 32 (0, 0)) := by
    rw [← hW]
    have := heap_alloc_new (w.alloc (.cells #[.string (bs ak), .int .i64 ag, .int .i64 az, .string (bs au), .slice A Q c] 32)) (.cells #[.string (bs bk), .int .i64 bg, .int .i64 bz, .string (bs bu), .slice B R d] 32)
    rwa [World.size_alloc] at this
  obtain ⟨we, hwe⟩ : ∃ we, we = W.drew := ⟨_, rfl⟩
  have hgd : Gr W we := by rw [hwe]; exact (Below.refl _ _).drew
  have hba := Lib.hid (blk_below hb1 hgd)
  have hbb := Lib.hid (blk_below hb2 hgd)
  have hge := Lib.hid (hg1.trans hgd)
  obtain ⟨b0, hb0⟩ : ∃ b, w.heap.size = b := ⟨_, rfl⟩
  rw [hb0] at hba hbb
  have hb0' := hb0
  clear hb1 hb2 hg1 hgd hpa hpb hla hlb hQ hR
  replace hce := Lib.hid hce
  go_enter Try.func21, Try.ntmps21
  go_upto_region 1 with (fail)
  replace hW := Lib.hid hW
  replace hb0' := Lib.hid hb0'
  refine wpR_region (Gr) 9999 (by kernel_rfl) ?_
  (rw [← hwe]; replace hwe := Lib.hid hwe)
  refine wpR_take (i := 0) (v := ?_) (Gr.road) (some 5) rfl (by kernel_rfl) (by kernel_rfl) (by kernel_rfl) (by kernel_rfl) (by kernel_rfl) (fun _ _ _ h => h) (by kernel_rfl) (fun w' hw' => ?_) ?_
  rotate_left
  · have z0 := blk_cell (j := 0) (blk_below hbb.out hw') rfl; have z1 := blk_cell (j := 1) (blk_below hbb.out hw') rfl; have z2 := blk_cell (j := 2) (blk_below hbb.out hw') rfl; have z3 := blk_cell (j := 3) (blk_below hbb.out hw') rfl; have z4 := blk_cell (j := 4) (blk_below hbb.out hw') rfl; go_simp; with_reducible rfl
  simp only [Act.put, List.setIfInBounds_toArray, List.set_cons_zero, List.set_cons_succ]
  refine wpR_take (i := 2) (v := ?_) (Gr.road) (some 7) rfl (by kernel_rfl) (by kernel_rfl) (by kernel_rfl) (by kernel_rfl) (by kernel_rfl) (fun _ _ _ h => h) (by kernel_rfl) (fun w' hw' => ?_) ?_
  rotate_left
  · have z0 := blk_cell (j := 0) (blk_below hba.out hw') rfl; have z1 := blk_cell (j := 1) (blk_below hba.out hw') rfl; have z2 := blk_cell (j := 2) (blk_below hba.out hw') rfl; have z3 := blk_cell (j := 3) (blk_below hba.out hw') rfl; have z4 := blk_cell (j := 4) (blk_below hba.out hw') rfl; go_simp; with_reducible rfl
  simp only [Act.put, List.setIfInBounds_toArray, List.set_cons_zero, List.set_cons_succ]
  refine wpR_take (i := 5) (v := ?_) (Gr.road) (some 10) rfl (by kernel_rfl) (by kernel_rfl) (by kernel_rfl) (by kernel_rfl) (by kernel_rfl) (fun _ _ _ h => h) (by kernel_rfl) (fun w' hw' => ?_) ?_
  rotate_left
  · go_simp; with_reducible rfl
  simp only [Act.put, List.setIfInBounds_toArray, List.set_cons_zero, List.set_cons_succ]
  refine wpR_take (i := 6) (v := ?_) (Gr.road) (some 11) rfl (by kernel_rfl) (by kernel_rfl) (by kernel_rfl) (by kernel_rfl) (by kernel_rfl) (fun _ _ _ h => h) (by kernel_rfl) (fun w' hw' => ?_) ?_
  rotate_left
  · have z0 := blk_cell (j := 0) (blk_below hbb.out hw') rfl; have z1 := blk_cell (j := 1) (blk_below hbb.out hw') rfl; have z2 := blk_cell (j := 2) (blk_below hbb.out hw') rfl; have z3 := blk_cell (j := 3) (blk_below hbb.out hw') rfl; have z4 := blk_cell (j := 4) (blk_below hbb.out hw') rfl; go_simp; with_reducible rfl
  simp only [Act.put, List.setIfInBounds_toArray, List.set_cons_zero, List.set_cons_succ]
  refine wpR_take (i := 7) (v := ?_) (Gr.road) (some 12) rfl (by kernel_rfl) (by kernel_rfl) (by kernel_rfl) (by kernel_rfl) (by kernel_rfl) (fun _ _ _ h => h) (by kernel_rfl) (fun w' hw' => ?_) ?_
  rotate_left
  · go_simp; with_reducible rfl
  simp only [Act.put, List.setIfInBounds_toArray, List.set_cons_zero, List.set_cons_succ]
  refine wpR_take (i := 8) (v := ?_) (Gr.road) (some 13) rfl (by kernel_rfl) (by kernel_rfl) (by kernel_rfl) (by kernel_rfl) (by kernel_rfl) (fun _ _ _ h => h) (by kernel_rfl) (fun w' hw' => ?_) ?_
  rotate_left
  · have z0 := blk_cell (j := 0) (blk_below hba.out hw') rfl; have z1 := blk_cell (j := 1) (blk_below hba.out hw') rfl; have z2 := blk_cell (j := 2) (blk_below hba.out hw') rfl; have z3 := blk_cell (j := 3) (blk_below hba.out hw') rfl; have z4 := blk_cell (j := 4) (blk_below hba.out hw') rfl; go_simp; with_reducible rfl
  simp only [Act.put, List.setIfInBounds_toArray, List.set_cons_zero, List.set_cons_succ]
  refine wpR_take (i := 10) (v := ?_) (Gr.road) (some 15) rfl (by kernel_rfl) (by kernel_rfl) (by kernel_rfl) (by kernel_rfl) (by kernel_rfl) (fun _ _ _ h => h) (by kernel_rfl) (fun w' hw' => ?_) ?_
  rotate_left
  · go_simp; with_reducible rfl
  simp only [Act.put, List.setIfInBounds_toArray, List.set_cons_zero, List.set_cons_succ]
  refine wpR_take (i := 11) (v := ?_) (Gr.road) (some 16) rfl (by kernel_rfl) (by kernel_rfl) (by kernel_rfl) (by kernel_rfl) (by kernel_rfl) (fun _ _ _ h => h) (by kernel_rfl) (fun w' hw' => ?_) ?_
  rotate_left
  · have z0 := blk_cell (j := 0) (blk_below hba.out hw') rfl; have z1 := blk_cell (j := 1) (blk_below hba.out hw') rfl; have z2 := blk_cell (j := 2) (blk_below hba.out hw') rfl; have z3 := blk_cell (j := 3) (blk_below hba.out hw') rfl; have z4 := blk_cell (j := 4) (blk_below hba.out hw') rfl; go_simp; with_reducible rfl
  simp only [Act.put, List.setIfInBounds_toArray, List.set_cons_zero, List.set_cons_succ]
  refine wpR_take (i := 12) (v := ?_) (Gr.road) (some 17) rfl (by kernel_rfl) (by kernel_rfl) (by kernel_rfl) (by kernel_rfl) (by kernel_rfl) (fun _ _ _ h => h) (by kernel_rfl) (fun w' hw' => ?_) ?_
  rotate_left
  · go_simp; with_reducible rfl
  simp only [Act.put, List.setIfInBounds_toArray, List.set_cons_zero, List.set_cons_succ]
  refine wpR_take (i := 13) (v := ?_) (Gr.road) (some 18) rfl (by kernel_rfl) (by kernel_rfl) (by kernel_rfl) (by kernel_rfl) (by kernel_rfl) (fun _ _ _ h => h) (by kernel_rfl) (fun w' hw' => ?_) ?_
  rotate_left
  · have z0 := blk_cell (j := 0) (blk_below hbb.out hw') rfl; have z1 := blk_cell (j := 1) (blk_below hbb.out hw') rfl; have z2 := blk_cell (j := 2) (blk_below hbb.out hw') rfl; have z3 := blk_cell (j := 3) (blk_below hbb.out hw') rfl; have z4 := blk_cell (j := 4) (blk_below hbb.out hw') rfl; go_simp; with_reducible rfl
  simp only [Act.put, List.setIfInBounds_toArray, List.set_cons_zero, List.set_cons_succ]
  refine wpR_take (i := 15) (v := ?_) (Gr.road) (some 20) rfl (by kernel_rfl) (by kernel_rfl) (by kernel_rfl) (by kernel_rfl) (by kernel_rfl) (fun _ _ _ h => h) (by kernel_rfl) (fun w' hw' => ?_) ?_
  rotate_left
  · go_simp; with_reducible rfl
  simp only [Act.put, List.setIfInBounds_toArray, List.set_cons_zero, List.set_cons_succ]
  refine wpR_take (i := 16) (v := ?_) (Gr.road) (some 21) rfl (by kernel_rfl) (by kernel_rfl) (by kernel_rfl) (by kernel_rfl) (by kernel_rfl) (fun _ _ _ h => h) (by kernel_rfl) (fun w' hw' => ?_) ?_
  rotate_left
  · have z0 := blk_cell (j := 0) (blk_below hba.out hw') rfl; have z1 := blk_cell (j := 1) (blk_below hba.out hw') rfl; have z2 := blk_cell (j := 2) (blk_below hba.out hw') rfl; have z3 := blk_cell (j := 3) (blk_below hba.out hw') rfl; have z4 := blk_cell (j := 4) (blk_below hba.out hw') rfl; go_simp; with_reducible rfl
  simp only [Act.put, List.setIfInBounds_toArray, List.set_cons_zero, List.set_cons_succ]
  refine wpR_take (i := 17) (v := ?_) (Gr.road) (some 22) rfl (by kernel_rfl) (by kernel_rfl) (by kernel_rfl) (by kernel_rfl) (by kernel_rfl) (fun _ _ _ h => h) (by kernel_rfl) (fun w' hw' => ?_) ?_
  rotate_left
  · go_simp; with_reducible rfl
  simp only [Act.put, List.setIfInBounds_toArray, List.set_cons_zero, List.set_cons_succ]
  refine wpR_take (i := 18) (v := ?_) (Gr.road) (some 23) rfl (by kernel_rfl) (by kernel_rfl) (by kernel_rfl) (by kernel_rfl) (by kernel_rfl) (fun _ _ _ h => h) (by kernel_rfl) (fun w' hw' => ?_) ?_
  rotate_left
  · have z0 := blk_cell (j := 0) (blk_below hbb.out hw') rfl; have z1 := blk_cell (j := 1) (blk_below hbb.out hw') rfl; have z2 := blk_cell (j := 2) (blk_below hbb.out hw') rfl; have z3 := blk_cell (j := 3) (blk_below hbb.out hw') rfl; have z4 := blk_cell (j := 4) (blk_below hbb.out hw') rfl; go_simp; with_reducible rfl
  simp only [Act.put, List.setIfInBounds_toArray, List.set_cons_zero, List.set_cons_succ]
  refine wpR_one 1 rfl (by kernel_rfl) (by kernel_rfl) (fun K hK => ?_)
  go_simp
  refine (hfb.out _ hge.out).mono ?_
  rintro e w1 ⟨rfl, h1⟩
  refine hK _ _ (fun _ => h1) ?_
  clear hK K
  replace h1 := Lib.hid h1
  try simp only [Act.put, List.setIfInBounds_toArray, List.set_cons_zero, List.set_cons_succ]
  refine wpR_one 3 rfl (by kernel_rfl) (by kernel_rfl) (fun K hK => ?_)
  go_simp
  refine (hfa.out _ (hge.out.trans h1.out)).mono ?_
  rintro e w3 ⟨rfl, h3⟩
  refine hK _ _ (fun _ => h3) ?_
  clear hK K
  replace h3 := Lib.hid h3
  try simp only [Act.put, List.setIfInBounds_toArray, List.set_cons_zero, List.set_cons_succ]
  refine wpR_one 4 rfl (by kernel_rfl) (by kernel_rfl) (fun K hK => ?_)
  go_simp
  refine (cmp_any _ _ _).mono ?_
  rintro e x4 ⟨rfl, hww⟩
  rw [hww]
  clear hww x4
  refine hK _ _ (fun _ => Gr.refl _) ?_
  clear hK K
  try simp only [Act.put, List.setIfInBounds_toArray, List.set_cons_zero, List.set_cons_succ]
  refine wpR_one 9 rfl (by kernel_rfl) (by kernel_rfl) (fun K hK => ?_)
  go_simp
  refine (cmp_any _ _ _).mono ?_
  rintro e x4 ⟨rfl, hww⟩
  rw [hww]
  clear hww x4
  refine hK _ _ (fun _ => Gr.refl _) ?_
  clear hK K
  try simp only [Act.put, List.setIfInBounds_toArray, List.set_cons_zero, List.set_cons_succ]
  refine wpR_one 14 rfl (by kernel_rfl) (by kernel_rfl) (fun K hK => ?_)
  go_simp
  refine (cmp_any _ _ _).mono ?_
  rintro e x4 ⟨rfl, hww⟩
  rw [hww]
  clear hww x4
  refine hK _ _ (fun _ => Gr.refl _) ?_
  clear hK K
  try simp only [Act.put, List.setIfInBounds_toArray, List.set_cons_zero, List.set_cons_succ]
  refine wpR_one 19 rfl (by kernel_rfl) (by kernel_rfl) (fun K hK => ?_)
  go_simp
  refine (strCmp_any _ _ _).mono ?_
  rintro e x4 ⟨rfl, hww⟩
  rw [hww]
  clear hww x4
  refine hK _ _ (fun _ => Gr.refl _) ?_
  clear hK K
  try simp only [Act.put, List.setIfInBounds_toArray, List.set_cons_zero, List.set_cons_succ]
  refine wpR_one 20 rfl (by kernel_rfl) (by kernel_rfl) (fun K hK => ?_)
  go_simp
  obtain ⟨w20, hw20⟩ : ∃ x, w3.alloc (.cells #[.int .i64 (cmpI (fb : Nat) (fa : Nat)), .int .i64 (cmpI bg ag), .int .i64 (cmpI az bz), .int .i64 (cmpB au bu)] 3) = x := ⟨_, rfl⟩
  have h20 : Gr w3 w20 := by rw [← hw20]; exact Gr.alloc _ _
  have hbo : w20.heap[w3.heap.size]? = some (.cells #[.int .i64 (cmpI (fb : Nat) (fa : Nat)), .int .i64 (cmpI bg ag), .int .i64 (cmpI az bz), .int .i64 (cmpB au bu)] 3 (0, 0)) := by rw [← hw20]; exact heap_alloc_new w3 _
  rw [hw20]
  refine hK _ _ (fun _ => h20) ?_
  clear hK K
  replace hw20 := Lib.hid hw20
  replace h20 := Lib.hid h20
  have hor := Lib.hid (or_any [cmpI (fb : Nat) (fa : Nat), cmpI bg ag, cmpI az bz, cmpB au bu] w3.heap.size 4 rfl (by omega) w20 (fun i z hz => by have hi := (List.getElem?_eq_some_iff.mp hz).1; exact blk_cell hbo (by match i, hi, hz with | 0, _, hz => injection hz with hz; rw [← hz]; rfl | 1, _, hz => injection hz with hz; rw [← hz]; rfl | 2, _, hz => injection hz with hz; rw [← hz]; rfl | 3, _, hz => injection hz with hz; rw [← hz]; rfl)))
  clear hbo
  try simp only [Act.put, List.setIfInBounds_toArray, List.set_cons_zero, List.set_cons_succ]
  refine wpR_one 21 rfl (by kernel_rfl) (by kernel_rfl) (fun K hK => ?_)
  go_simp
  refine hor.out.mono ?_
  rintro e x4 ⟨rfl, hww⟩
  rw [hww]
  clear hww x4
  refine hK _ _ (fun _ => Gr.refl _) ?_
  clear hK K
  clear hor
  try simp only [Act.put, List.setIfInBounds_toArray, List.set_cons_zero, List.set_cons_succ]
  refine wpR_take (i := 22) (v := ?_) (Gr.road) (some 4) rfl (by kernel_rfl) (by kernel_rfl) (by kernel_rfl) (by kernel_rfl) (by kernel_rfl) (fun _ _ _ h => h) (by kernel_rfl) (fun w' hw' => ?_) ?_
  rotate_left
  · go_simp; with_reducible rfl
  simp only [Act.put, List.setIfInBounds_toArray, List.set_cons_zero, List.set_cons_succ]
  refine wpR_done (by kernel_rfl) ?_ _
  go_wp2_with fail
  go_ret
  exact ⟨rfl, hge.out.trans (h1.out.trans (h3.out.trans (h20.out)))⟩
end Go.Proofs.Ytiliggleplpjbaa
