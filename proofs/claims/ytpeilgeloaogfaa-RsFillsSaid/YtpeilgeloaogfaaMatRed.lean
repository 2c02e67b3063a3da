/- Walks of mat: reduce. -/
import Derived.Test.YtpeilgeloaogfaaMatInv
namespace Go.Proofs.Ytpeilgeloaogfaa
set_option linter.unusedVariables false
set_option linter.unusedSimpArgs false
open Go Go.RowKit
theorem TB.at_ {w : World} {base g n m : Nat} {G C : Nat → Nat} {M : Mx} (h : TB w base g n m G C M) {i j : Nat} (hi : i < n) (hj : j < m) : w.cell? ⟨G i, j, none⟩ = some (.int .u8 (U (M i j))) := by
  obtain ⟨h1, -, -⟩ := h.rd hi
  obtain ⟨ad, e, -, hc⟩ := h1.get (row_get hj (M i))
  injection e with e
  subst e
  unfold Addr.add at hc
  split at hc
  · rename_i h0; subst h0; exact hc
  · simpa using hc
theorem TB.sub {w : World} {base g n m : Nat} {G C : Nat → Nat} {M : Mx} (h : TB w base g n m G C M) {i : Nat} (hi : i < n) {b : Nat} (hb : b = G i) : base ≤ b := by rw [hb]; exact (h.glt hi).1
theorem Rd.at_row {w : World} {base g n m : Nat} {G C : Nat → Nat} {M : Mx} (h : TB w base g n m G C M) {i : Nat} (hi : i < n) : Rd w w.heap.size (some ⟨G i, 0, none⟩) (row m (M i)) := (h.rd hi).1
set_option maxHeartbeats 16000000 in
set_option maxRecDepth 20000 in
theorem reduce_no (base n gl gr : Nat) (Gl Cl Gr Cr : Nat → Nat) (L R : Mx) (c : Nat) (hc : c < n) (hn : n ≤ 32) (h0 : ∀ p, c ≤ p → p < n → L p c = 0) (w : World) (hL : TB w base gl n n Gl Cl L) :
    Calls Try.prog 84 #[.slice (some ⟨gl, 0, none⟩) n n, .slice (some ⟨gr, 0, none⟩) n n, .int .i64 c] w fun e w' => e = .returned (.bool false) ∧ w' = w := by
  replace hL := Lib.hid hL
  replace h0 := Lib.hid h0
  have hcn : (c : Int) < (n : Int) := by omega
  go_enter Try.func84, Try.ntmps84
  go_wp2
  go_loop [7] (fun i => ∃ k : Nat, c ≤ k ∧ k ≤ n ∧ i = .int .i64 k) (fun i => n - (intOf i).toNat)
  case atStart => exact ⟨c, Nat.le_refl _, by omega, rfl⟩
  case round =>
    obtain ⟨k, hk1, hk2, rfl⟩ := hrel
    by_cases hlt : k < n
    · have hck := hL.out.cell hlt
      have hcx := hL.out.at_ hlt hc
      rw [h0.out k hk1 hlt] at hcx
      have hz : ((0 : UInt8) == 0) = true := rfl
      have hz2 : (U 0 == 0) = true := rfl
      have d : decide ((k : Int) < (n : Int)) = true := decide_eq_true (by omega)
      go_wp2
      all_goals
        go_round
        case rel => exact ⟨k + 1, by omega, by omega, by go_num⟩
        case measure => simp [intOf]; omega
    · obtain rfl : k = n := by omega
      have d : decide ((k : Int) < (k : Int)) = false := decide_eq_false (by omega)
      go_wp2
      go_ret
      exact ⟨rfl, rfl⟩
set_option maxHeartbeats 16000000 in
set_option maxRecDepth 20000 in
theorem reduce_yes (base n gl gr : Nat) (Gl Cl Gr Cr : Nat → Nat) (L R : Mx) (c : Nat) (hc : c < n) (hn : n ≤ 32) (hd : gl ≠ gr) (hD : ∀ i j, i < n → j < n → Gl i ≠ Gr j) (p : Nat) (hcp0 : c ≤ p) (hp : p < n) (hne : L p c ≠ 0) (h0 : ∀ r, c ≤ r → r < p → L r c = 0) (w : World) (hL : TB w base gl n n Gl Cl L) (hR : TB w base gr n n Gr Cr R) :
    Calls Try.prog 84 #[.slice (some ⟨gl, 0, none⟩) n n, .slice (some ⟨gr, 0, none⟩) n n, .int .i64 c] w fun e w' => (∃ Gl' Cl' Gr' Cr' L' R', e = .returned (.bool true) ∧ TB w' base gl n n Gl' Cl' L' ∧ TB w' base gr n n Gr' Cr' R' ∧ (∀ i j, i < n → j < n → Gl' i ≠ Gr' j) ∧ (∀ A, Inv n A L R → Inv n A L' R') ∧ (Cols n c L → Cols n (c + 1) L')) ∧ Below base w w' := by
  have hb := Lib.hid (Below.refl base w)
  have hbz : base ≤ w.heap.size := Nat.le_trans hL.low (Nat.le_of_lt hL.lt)
  replace hL := Lib.hid hL
  replace hR := Lib.hid hR
  replace h0 := Lib.hid h0
  replace hD := Lib.hid hD
  have hcn : (c : Int) < (n : Int) := by omega
  go_enter Try.func84, Try.ntmps84
  go_wp2
  go_loop [7] (fun i => ∃ k : Nat, c ≤ k ∧ k ≤ p ∧ i = .int .i64 k) (fun i => p - (intOf i).toNat)
  case atStart => exact ⟨c, Nat.le_refl _, hcp0, rfl⟩
  case round =>
    obtain ⟨k, hk1, hk2, rfl⟩ := hrel
    have hlt : k < n := by omega
    have d : decide ((k : Int) < (n : Int)) = true := decide_eq_true (by omega)
    by_cases hkp : k < p
    · have hck := hL.out.cell hlt
      have hcx := hL.out.at_ hlt hc
      rw [h0.out k hk1 hkp] at hcx
      have hz : ((0 : UInt8) == 0) = true := rfl
      have hz2 : (U 0 == 0) = true := rfl
      replace hne := Lib.hid hne
      go_wp2
      all_goals
        go_round
        case rel => exact ⟨k + 1, by omega, by omega, by go_num⟩
        case measure => simp [intOf]; omega
    · obtain rfl : p = k := by omega
      have hck := hL.out.cell hlt
      have hcx := hL.out.at_ hlt hc
      obtain ⟨x0, hx0⟩ : ∃ x, L p c = x := ⟨_, rfl⟩
      have hxz : (x0 == 0) = false := by rw [beq_eq_false_iff_ne, ← hx0]; exact hne
      rw [hx0] at hcx
      replace hx0 := Lib.hid hx0
      replace hne := Lib.hid hne
      have hkn : ((p : Int) == (n : Int)) = false := by rw [beq_eq_false_iff_ne]; omega
      go_wp2_with fail
      clear hck hcx hxz d
      replace hne := hne.out
      obtain ⟨wd1, hwd⟩ : ∃ wd, wd = w.drew := ⟨_, rfl⟩
      have hbb : Below w.heap.size w wd1 := by rw [hwd]; exact (Below.refl _ _).drew
      replace hL := Lib.hid (hL.out.below hbb)
      replace hR := Lib.hid (hR.out.below hbb)
      replace hb := Lib.hid (hb.out.trans (hbb.mono (Nat.le_trans hbz hb.out.size)))
      have hcc := hL.out.cell hc
      have hcp := hL.out.cell hp
      have hfc := hL.out.free c
      have hglt := hL.out.lt
      clear hbb
      refine wpR_region (Upd (fun _ => False)) 13 (by kernel_rfl) ?_
      (rw [← hwd]; replace hwd := Lib.hid hwd)
      refine wpR_take (i := 0) (v := ?_) (Upd.road _) (some 32) rfl (by kernel_rfl) (by kernel_rfl) (by kernel_rfl) (by kernel_rfl) (by kernel_rfl) (fun _ _ _ h => h) (by kernel_rfl) (fun w' hw' => ?_) ?_
      rotate_left
      · go_simp; with_reducible rfl
      simp only [Act.put, List.setIfInBounds_toArray, List.set_cons_zero, List.set_cons_succ]
      refine wpR_take (i := 1) (v := ?_) (Upd.road _) (some 33) rfl (by kernel_rfl) (by kernel_rfl) (by kernel_rfl) (by kernel_rfl) (by kernel_rfl) (fun _ _ _ h => h) (by kernel_rfl) (fun w' hw' => ?_) ?_
      rotate_left
      · go_simp; with_reducible rfl
      simp only [Act.put, List.setIfInBounds_toArray, List.set_cons_zero, List.set_cons_succ]
      refine wpR_takeU (i := 2) (v := ?_) (Upd.road _) (some 34) rfl (by kernel_rfl) (by kernel_rfl) (by kernel_rfl) (by kernel_rfl) (fun _ _ _ h => h) (by kernel_rfl) (fun w' => ?_) ?_
      rotate_left
      · go_simp; with_reducible rfl
      simp only [Act.put, List.setIfInBounds_toArray, List.set_cons_zero, List.set_cons_succ]
      refine wpR_takeU (i := 3) (v := ?_) (Upd.road _) (some 35) rfl (by kernel_rfl) (by kernel_rfl) (by kernel_rfl) (by kernel_rfl) (fun _ _ _ h => h) (by kernel_rfl) (fun w' => ?_) ?_
      rotate_left
      · go_simp; with_reducible rfl
      simp only [Act.put, List.setIfInBounds_toArray, List.set_cons_zero, List.set_cons_succ]
      refine wpR_take (i := 4) (v := ?_) (Upd.road _) (some 36) rfl (by kernel_rfl) (by kernel_rfl) (by kernel_rfl) (by kernel_rfl) (by kernel_rfl) (fun _ _ _ h => h) (by kernel_rfl) (fun w' hw' => ?_) ?_
      rotate_left
      · go_simp; with_reducible rfl
      simp only [Act.put, List.setIfInBounds_toArray, List.set_cons_zero, List.set_cons_succ]
      refine wpR_take (i := 5) (v := ?_) (Upd.road _) (some 37) rfl (by kernel_rfl) (by kernel_rfl) (by kernel_rfl) (by kernel_rfl) (by kernel_rfl) (fun _ _ _ h => h) (by kernel_rfl) (fun w' hw' => ?_) ?_
      rotate_left
      · go_simp; with_reducible rfl
      simp only [Act.put, List.setIfInBounds_toArray, List.set_cons_zero, List.set_cons_succ]
      refine wpR_take (i := 6) (v := ?_) (Upd.road _) (some 38) rfl (by kernel_rfl) (by kernel_rfl) (by kernel_rfl) (by kernel_rfl) (by kernel_rfl) (fun _ _ _ h => h) (by kernel_rfl) (fun w' hw' => ?_) ?_
      rotate_left
      · go_simp; with_reducible rfl
      simp only [Act.put, List.setIfInBounds_toArray, List.set_cons_zero, List.set_cons_succ]
      refine wpR_take (i := 7) (v := ?_) (Upd.road _) (some 39) rfl (by kernel_rfl) (by kernel_rfl) (by kernel_rfl) (by kernel_rfl) (by kernel_rfl) (fun _ _ _ h => h) (by kernel_rfl) (fun w' hw' => ?_) ?_
      rotate_left
      · have q := (hw'.cell (p := ⟨gl, p, none⟩) hglt (fun h => h)).trans hcp; go_simp; with_reducible rfl
      simp only [Act.put, List.setIfInBounds_toArray, List.set_cons_zero, List.set_cons_succ]
      refine wpR_takeU (i := 8) (v := ?_) (Upd.road _) (some 40) rfl (by kernel_rfl) (by kernel_rfl) (by kernel_rfl) (by kernel_rfl) (fun _ _ _ h => h) (by kernel_rfl) (fun w' => ?_) ?_
      rotate_left
      · go_simp; with_reducible rfl
      simp only [Act.put, List.setIfInBounds_toArray, List.set_cons_zero, List.set_cons_succ]
      refine wpR_takeU (i := 9) (v := ?_) (Upd.road _) (some 41) rfl (by kernel_rfl) (by kernel_rfl) (by kernel_rfl) (by kernel_rfl) (fun _ _ _ h => h) (by kernel_rfl) (fun w' => ?_) ?_
      rotate_left
      · go_simp; with_reducible rfl
      simp only [Act.put, List.setIfInBounds_toArray, List.set_cons_zero, List.set_cons_succ]
      refine wpR_takeU (i := 10) (v := ?_) (Upd.road _) (some 42) rfl (by kernel_rfl) (by kernel_rfl) (by kernel_rfl) (by kernel_rfl) (fun _ _ _ h => h) (by kernel_rfl) (fun w' => ?_) ?_
      rotate_left
      · go_simp; with_reducible rfl
      simp only [Act.put, List.setIfInBounds_toArray, List.set_cons_zero, List.set_cons_succ]
      refine wpR_take (i := 11) (v := ?_) (Upd.road _) (some 43) rfl (by kernel_rfl) (by kernel_rfl) (by kernel_rfl) (by kernel_rfl) (by kernel_rfl) (fun _ _ _ h => h) (by kernel_rfl) (fun w' hw' => ?_) ?_
      rotate_left
      · have q := (hw'.cell (p := ⟨gl, c, none⟩) hglt (fun h => h)).trans hcc; go_simp; with_reducible rfl
      simp only [Act.put, List.setIfInBounds_toArray, List.set_cons_zero, List.set_cons_succ]
      refine wpR_take (i := 12) (v := ?_) (Upd.road _) (some 44) rfl (by kernel_rfl) (by kernel_rfl) (by kernel_rfl) (by kernel_rfl) (by kernel_rfl) (fun _ _ _ h => h) (by kernel_rfl) (fun w' hw' => ?_) ?_
      rotate_left
      · go_simp; with_reducible rfl
      simp only [Act.put, List.setIfInBounds_toArray, List.set_cons_zero, List.set_cons_succ]
      refine wpR_one 13 rfl (by kernel_rfl) (by kernel_rfl) (fun K hK => ?_)
      go_simp
      refine hK _ _ (fun h => absurd h (by decide)) ?_
      clear hK K
      obtain ⟨v', hcp2⟩ : ∃ v', (wd1.setCell ⟨gl, c, none⟩ (.slice (some ⟨Gl p, 0, none⟩) n (Cl p))).cell? ⟨gl, p, none⟩ = some v' := by
        obtain ⟨N, hN1, hN2⟩ := hL.out.sp
        exact (hN2.set c _).cell (by omega)
      have hfp2 : (wd1.setCell ⟨gl, c, none⟩ (.slice (some ⟨Gl p, 0, none⟩) n (Cl p))).frozen? ⟨gl, p, none⟩ = false := by
        obtain ⟨N, hN1, hN2⟩ := hL.out.sp
        exact (hN2.set c _).free p
      clear hcc hcp hfc
      try simp only [Act.put, List.setIfInBounds_toArray, List.set_cons_zero, List.set_cons_succ]
      refine wpR_take (i := 14) (v := ?_) (Upd.road _) (some 45) rfl (by kernel_rfl) (by kernel_rfl) (by kernel_rfl) (by kernel_rfl) (by kernel_rfl) (fun _ _ _ h => h) (by kernel_rfl) (fun w' hw' => ?_) ?_
      rotate_left
      · go_simp; with_reducible rfl
      simp only [Act.put, List.setIfInBounds_toArray, List.set_cons_zero, List.set_cons_succ]
      refine wpR_one 15 rfl (by kernel_rfl) (by kernel_rfl) (fun K hK => ?_)
      go_simp
      refine hK _ _ (fun h => absurd h (by decide)) ?_
      clear hK K
      clear hcp2 hfp2 hglt
      have hsw := hL.out.swap hc hp
      have hug : Upd (fun k => k = gl) wd1 ((wd1.setCell ⟨gl, c, none⟩ (.slice (some ⟨Gl p, 0, none⟩) n (Cl p))).setCell ⟨gl, p, none⟩ (.slice (some ⟨Gl c, 0, none⟩) n (Cl c))) := (Upd.road (fun k => k = gl)).2 (Upd.of_grown (blk_grown _ _ _ _) rfl) (Upd.of_grown (blk_grown _ _ _ _) rfl)
      obtain ⟨W1, hW1⟩ : ∃ x, (wd1.setCell ⟨gl, c, none⟩ (.slice (some ⟨Gl p, 0, none⟩) n (Cl p))).setCell ⟨gl, p, none⟩ (.slice (some ⟨Gl c, 0, none⟩) n (Cl c)) = x := ⟨_, rfl⟩
      rw [hW1] at hsw hug ⊢
      replace hW1 := Lib.hid hW1
      replace hb := Lib.hid (Upd.to_below hb.out hug (Nat.le_trans hbz hb.out.size) (fun k hk => by rw [hk]; exact hL.out.low))
      replace hR := Lib.hid (hR.out.upd hug (fun e => hd e.symm) (fun i hi => hL.out.sep hR.out hi))
      replace hL := Lib.hid hsw
      clear hug hsw
      try simp only [Act.put, List.setIfInBounds_toArray, List.set_cons_zero, List.set_cons_succ]
      refine wpR_done (by kernel_rfl) ?_ _
      go_wp2_with fail
      obtain ⟨wd2, hwd⟩ : ∃ wd, wd = W1.drew := ⟨_, rfl⟩
      have hbb : Below W1.heap.size W1 wd2 := by rw [hwd]; exact (Below.refl _ _).drew
      replace hL := Lib.hid (hL.out.below hbb)
      replace hR := Lib.hid (hR.out.below hbb)
      replace hb := Lib.hid (hb.out.trans (hbb.mono (Nat.le_trans hbz hb.out.size)))
      have hcc := hR.out.cell hc
      have hcp := hR.out.cell hp
      have hfc := hR.out.free c
      have hglt := hR.out.lt
      clear hbb
      refine wpR_region (Upd (fun _ => False)) 13 (by kernel_rfl) ?_
      (rw [← hwd]; replace hwd := Lib.hid hwd)
      refine wpR_take (i := 0) (v := ?_) (Upd.road _) (some 46) rfl (by kernel_rfl) (by kernel_rfl) (by kernel_rfl) (by kernel_rfl) (by kernel_rfl) (fun _ _ _ h => h) (by kernel_rfl) (fun w' hw' => ?_) ?_
      rotate_left
      · go_simp; with_reducible rfl
      simp only [Act.put, List.setIfInBounds_toArray, List.set_cons_zero, List.set_cons_succ]
      refine wpR_take (i := 1) (v := ?_) (Upd.road _) (some 47) rfl (by kernel_rfl) (by kernel_rfl) (by kernel_rfl) (by kernel_rfl) (by kernel_rfl) (fun _ _ _ h => h) (by kernel_rfl) (fun w' hw' => ?_) ?_
      rotate_left
      · go_simp; with_reducible rfl
      simp only [Act.put, List.setIfInBounds_toArray, List.set_cons_zero, List.set_cons_succ]
      refine wpR_takeU (i := 2) (v := ?_) (Upd.road _) (some 48) rfl (by kernel_rfl) (by kernel_rfl) (by kernel_rfl) (by kernel_rfl) (fun _ _ _ h => h) (by kernel_rfl) (fun w' => ?_) ?_
      rotate_left
      · go_simp; with_reducible rfl
      simp only [Act.put, List.setIfInBounds_toArray, List.set_cons_zero, List.set_cons_succ]
      refine wpR_takeU (i := 3) (v := ?_) (Upd.road _) (some 49) rfl (by kernel_rfl) (by kernel_rfl) (by kernel_rfl) (by kernel_rfl) (fun _ _ _ h => h) (by kernel_rfl) (fun w' => ?_) ?_
      rotate_left
      · go_simp; with_reducible rfl
      simp only [Act.put, List.setIfInBounds_toArray, List.set_cons_zero, List.set_cons_succ]
      refine wpR_take (i := 4) (v := ?_) (Upd.road _) (some 50) rfl (by kernel_rfl) (by kernel_rfl) (by kernel_rfl) (by kernel_rfl) (by kernel_rfl) (fun _ _ _ h => h) (by kernel_rfl) (fun w' hw' => ?_) ?_
      rotate_left
      · go_simp; with_reducible rfl
      simp only [Act.put, List.setIfInBounds_toArray, List.set_cons_zero, List.set_cons_succ]
      refine wpR_take (i := 5) (v := ?_) (Upd.road _) (some 51) rfl (by kernel_rfl) (by kernel_rfl) (by kernel_rfl) (by kernel_rfl) (by kernel_rfl) (fun _ _ _ h => h) (by kernel_rfl) (fun w' hw' => ?_) ?_
      rotate_left
      · go_simp; with_reducible rfl
      simp only [Act.put, List.setIfInBounds_toArray, List.set_cons_zero, List.set_cons_succ]
      refine wpR_take (i := 6) (v := ?_) (Upd.road _) (some 52) rfl (by kernel_rfl) (by kernel_rfl) (by kernel_rfl) (by kernel_rfl) (by kernel_rfl) (fun _ _ _ h => h) (by kernel_rfl) (fun w' hw' => ?_) ?_
      rotate_left
      · go_simp; with_reducible rfl
      simp only [Act.put, List.setIfInBounds_toArray, List.set_cons_zero, List.set_cons_succ]
      refine wpR_take (i := 7) (v := ?_) (Upd.road _) (some 53) rfl (by kernel_rfl) (by kernel_rfl) (by kernel_rfl) (by kernel_rfl) (by kernel_rfl) (fun _ _ _ h => h) (by kernel_rfl) (fun w' hw' => ?_) ?_
      rotate_left
      · have q := (hw'.cell (p := ⟨gr, p, none⟩) hglt (fun h => h)).trans hcp; go_simp; with_reducible rfl
      simp only [Act.put, List.setIfInBounds_toArray, List.set_cons_zero, List.set_cons_succ]
      refine wpR_takeU (i := 8) (v := ?_) (Upd.road _) (some 54) rfl (by kernel_rfl) (by kernel_rfl) (by kernel_rfl) (by kernel_rfl) (fun _ _ _ h => h) (by kernel_rfl) (fun w' => ?_) ?_
      rotate_left
      · go_simp; with_reducible rfl
      simp only [Act.put, List.setIfInBounds_toArray, List.set_cons_zero, List.set_cons_succ]
      refine wpR_takeU (i := 9) (v := ?_) (Upd.road _) (some 55) rfl (by kernel_rfl) (by kernel_rfl) (by kernel_rfl) (by kernel_rfl) (fun _ _ _ h => h) (by kernel_rfl) (fun w' => ?_) ?_
      rotate_left
      · go_simp; with_reducible rfl
      simp only [Act.put, List.setIfInBounds_toArray, List.set_cons_zero, List.set_cons_succ]
      refine wpR_takeU (i := 10) (v := ?_) (Upd.road _) (some 56) rfl (by kernel_rfl) (by kernel_rfl) (by kernel_rfl) (by kernel_rfl) (fun _ _ _ h => h) (by kernel_rfl) (fun w' => ?_) ?_
      rotate_left
      · go_simp; with_reducible rfl
      simp only [Act.put, List.setIfInBounds_toArray, List.set_cons_zero, List.set_cons_succ]
      refine wpR_take (i := 11) (v := ?_) (Upd.road _) (some 57) rfl (by kernel_rfl) (by kernel_rfl) (by kernel_rfl) (by kernel_rfl) (by kernel_rfl) (fun _ _ _ h => h) (by kernel_rfl) (fun w' hw' => ?_) ?_
      rotate_left
      · have q := (hw'.cell (p := ⟨gr, c, none⟩) hglt (fun h => h)).trans hcc; go_simp; with_reducible rfl
      simp only [Act.put, List.setIfInBounds_toArray, List.set_cons_zero, List.set_cons_succ]
      refine wpR_take (i := 12) (v := ?_) (Upd.road _) (some 58) rfl (by kernel_rfl) (by kernel_rfl) (by kernel_rfl) (by kernel_rfl) (by kernel_rfl) (fun _ _ _ h => h) (by kernel_rfl) (fun w' hw' => ?_) ?_
      rotate_left
      · go_simp; with_reducible rfl
      simp only [Act.put, List.setIfInBounds_toArray, List.set_cons_zero, List.set_cons_succ]
      refine wpR_one 13 rfl (by kernel_rfl) (by kernel_rfl) (fun K hK => ?_)
      go_simp
      refine hK _ _ (fun h => absurd h (by decide)) ?_
      clear hK K
      obtain ⟨v', hcp2⟩ : ∃ v', (wd2.setCell ⟨gr, c, none⟩ (.slice (some ⟨Gr p, 0, none⟩) n (Cr p))).cell? ⟨gr, p, none⟩ = some v' := by
        obtain ⟨N, hN1, hN2⟩ := hR.out.sp
        exact (hN2.set c _).cell (by omega)
      have hfp2 : (wd2.setCell ⟨gr, c, none⟩ (.slice (some ⟨Gr p, 0, none⟩) n (Cr p))).frozen? ⟨gr, p, none⟩ = false := by
        obtain ⟨N, hN1, hN2⟩ := hR.out.sp
        exact (hN2.set c _).free p
      clear hcc hcp hfc
      try simp only [Act.put, List.setIfInBounds_toArray, List.set_cons_zero, List.set_cons_succ]
      refine wpR_take (i := 14) (v := ?_) (Upd.road _) (some 59) rfl (by kernel_rfl) (by kernel_rfl) (by kernel_rfl) (by kernel_rfl) (by kernel_rfl) (fun _ _ _ h => h) (by kernel_rfl) (fun w' hw' => ?_) ?_
      rotate_left
      · go_simp; with_reducible rfl
      simp only [Act.put, List.setIfInBounds_toArray, List.set_cons_zero, List.set_cons_succ]
      refine wpR_one 15 rfl (by kernel_rfl) (by kernel_rfl) (fun K hK => ?_)
      go_simp
      refine hK _ _ (fun h => absurd h (by decide)) ?_
      clear hK K
      clear hcp2 hfp2 hglt
      have hsw := hR.out.swap hc hp
      have hug : Upd (fun k => k = gr) wd2 ((wd2.setCell ⟨gr, c, none⟩ (.slice (some ⟨Gr p, 0, none⟩) n (Cr p))).setCell ⟨gr, p, none⟩ (.slice (some ⟨Gr c, 0, none⟩) n (Cr c))) := (Upd.road (fun k => k = gr)).2 (Upd.of_grown (blk_grown _ _ _ _) rfl) (Upd.of_grown (blk_grown _ _ _ _) rfl)
      obtain ⟨W2, hW2⟩ : ∃ x, (wd2.setCell ⟨gr, c, none⟩ (.slice (some ⟨Gr p, 0, none⟩) n (Cr p))).setCell ⟨gr, p, none⟩ (.slice (some ⟨Gr c, 0, none⟩) n (Cr c)) = x := ⟨_, rfl⟩
      rw [hW2] at hsw hug ⊢
      replace hW2 := Lib.hid hW2
      replace hb := Lib.hid (Upd.to_below hb.out hug (Nat.le_trans hbz hb.out.size) (fun k hk => by rw [hk]; exact hR.out.low))
      replace hL := Lib.hid (hL.out.upd hug (fun e => hd e) (fun i hi => hR.out.sep hL.out hi))
      replace hR := Lib.hid hsw
      clear hug hsw
      try simp only [Act.put, List.setIfInBounds_toArray, List.set_cons_zero, List.set_cons_succ]
      refine wpR_done (by kernel_rfl) ?_ _
      have hD2 : Hid (∀ i j, i < n → j < n → swapf c p Gl i ≠ swapf c p Gr j) := Lib.hid (fun i j hi hj => by
        obtain ⟨i', hi', ei⟩ := swapf_in hc hp Gl hi
        obtain ⟨j', hj', ej⟩ := swapf_in hc hp Gr hj
        rw [ei, ej]
        exact hD.out i' j' hi' hj')
      have hI1 : Hid (∀ A, Inv n A L R → Inv n A (swapR c p L) (swapR c p R)) := Lib.hid (fun A h => h.swap hc hp)
      have hC1 : Hid (Cols n c L → Cols n c (swapR c p L)) := Lib.hid (fun h => h.swap hcp0 hp)
      have hx1 : swapR c p L c c = L p c := by unfold swapR; rw [if_pos rfl]
      obtain ⟨G1, hG1⟩ : ∃ x, swapf c p Gl = x := ⟨_, rfl⟩
      obtain ⟨D1, hD1⟩ : ∃ x, swapf c p Cl = x := ⟨_, rfl⟩
      obtain ⟨G2, hG2⟩ : ∃ x, swapf c p Gr = x := ⟨_, rfl⟩
      obtain ⟨D2, hD2'⟩ : ∃ x, swapf c p Cr = x := ⟨_, rfl⟩
      obtain ⟨L1, hL1⟩ : ∃ x, swapR c p L = x := ⟨_, rfl⟩
      obtain ⟨R1, hR1⟩ : ∃ x, swapR c p R = x := ⟨_, rfl⟩
      rw [hG1, hD1, hL1] at hL
      rw [hG2, hD2', hR1] at hR
      rw [hG1, hG2] at hD2
      rw [hL1, hR1] at hI1
      rw [hL1] at hC1 hx1
      obtain ⟨x, hx⟩ : ∃ x, L p c = x := ⟨_, rfl⟩
      rw [hx] at hx1 hne
      replace hG1 := Lib.hid hG1
      replace hD1 := Lib.hid hD1
      replace hG2 := Lib.hid hG2
      replace hD2' := Lib.hid hD2'
      replace hL1 := Lib.hid hL1
      replace hR1 := Lib.hid hR1
      replace hx := Lib.hid hx
      have hck := hL.out.cell hc
      have hcx := hL.out.at_ hc hc
      rw [hx1] at hcx
      have hrk := hR.out.cell hc
      have hdiv := div_any 1 x W2
      rw [if_neg hne] at hdiv
      replace hdiv := Lib.hid hdiv
      replace hx1 := Lib.hid hx1
      obtain ⟨f, hf⟩ : ∃ f, gmul 1 (gpow x 254) = f := ⟨_, rfl⟩
      have hfx : gmul f x = 1 := by rw [← hf, gmul_one_l]; exact gmul_inv x hne
      have hf0 : f ≠ 0 := fun e => by rw [e, gmul_zero_l] at hfx; exact absurd hfx (by decide)
      rw [hf] at hdiv
      replace hf := Lib.hid hf
      replace hne := Lib.hid hne
      replace hfx := Lib.hid hfx
      replace hf0 := Lib.hid hf0
      go_wp2_with fail
      refine hdiv.out.mono ?_
      rintro e w3 ⟨rfl, rfl⟩
      go_wp2_with fail
      refine (scale_any base (G1 c) n (D1 c) (L1 c) (by omega) f _ (hL.out.own c hc)).mono ?_
      rintro e W3 ⟨rfl, ho3, hu3, hz3⟩
      replace hb := Lib.hid (Upd.to_below hb.out hu3 (Nat.le_trans hbz hb.out.size) (fun k hk => hL.out.sub hc hk))
      replace hR := Lib.hid (hR.out.upd hu3 (fun e => hR.out.sep hL.out hc e.symm) (fun i hi e => hD2.out c i hc hi e.symm))
      have hL3 := (hL.out.put hc ho3 hu3).congr (M' := scaleR c f L1) (fun i j _ _ => by unfold scaleR; by_cases e : i = c <;> simp only [e, if_true, if_false, eq_self])
      replace hL := Lib.hid hL3
      clear ho3 hu3 hz3 hL3 hck hcx hrk hdiv
      have hrk := hR.out.cell hc
      go_wp2_with fail
      refine (scale_any base (G2 c) n (D2 c) (R1 c) (by omega) f _ (hR.out.own c hc)).mono ?_
      rintro e W4 ⟨rfl, ho3, hu3, hz3⟩
      replace hb := Lib.hid (Upd.to_below hb.out hu3 (Nat.le_trans hbz hb.out.size) (fun k hk => hR.out.sub hc hk))
      replace hL := Lib.hid (hL.out.upd hu3 (fun e => hL.out.sep hR.out hc e.symm) (fun i hi e => hD2.out i c hi hc e))
      have hR3 := (hR.out.put hc ho3 hu3).congr (M' := scaleR c f R1) (fun i j _ _ => by unfold scaleR; by_cases e : i = c <;> simp only [e, if_true, if_false, eq_self])
      replace hR := Lib.hid hR3
      clear ho3 hu3 hz3 hR3 hrk
      have hP0 : Hid ((∀ A, Inv n A L R → Inv n A (scaleR c f L1) (scaleR c f R1)) ∧ (Cols n c L → Cols n c (scaleR c f L1)) ∧ scaleR c f L1 c c = 1 ∧ ∀ i, i < 0 → i ≠ c → scaleR c f L1 i c = 0) := Lib.hid ⟨fun A h => (hI1.out A h).scale hc hf0.out, fun h => (hC1.out h).scale hc f, by unfold scaleR; rw [if_pos rfl, hx1.out]; exact hfx.out, fun i hi => by omega⟩
      go_wp2_with fail
      go_loopw [85] (fun i wr => ∃ (k : Nat) (Lk Rk : Mx), k ≤ n ∧ i = .int .i64 k ∧ Hid (TB wr base gl n n G1 D1 Lk) ∧ Hid (TB wr base gr n n G2 D2 Rk) ∧ Hid (Below base w wr) ∧ Hid ((∀ A, Inv n A L R → Inv n A Lk Rk) ∧ (Cols n c L → Cols n c Lk) ∧ Lk c c = 1 ∧ ∀ i, i < k → i ≠ c → Lk i c = 0)) (fun i _ => n - (intOf i).toNat)
      case atStart => exact ⟨0, _, _, Nat.zero_le _, rfl, hL, hR, hb, hP0⟩
      case round =>
        obtain ⟨k, Lk, Rk, hk, rfl, hL2, hR2, hb2, hP⟩ := hrel
        clear hL hR hb hP0
        by_cases hlt : k < n
        · by_cases hkc : k = c
          · have hd1 : ((k : Int) != (c : Int)) = false := by simp; omega
            have hP2 : Hid ((∀ A, Inv n A L R → Inv n A Lk Rk) ∧ (Cols n c L → Cols n c Lk) ∧ Lk c c = 1 ∧ ∀ i, i < k + 1 → i ≠ c → Lk i c = 0) := Lib.hid ⟨hP.out.1, hP.out.2.1, hP.out.2.2.1, fun i hi hic => hP.out.2.2.2 i (by omega) hic⟩
            replace hkc := Lib.hid hkc
            go_wp2_with fail
            go_roundw
            case rel => exact ⟨k + 1, Lk, Rk, by omega, by go_num, hL2, hR2, hb2, hP2⟩
            case measure => simp [intOf]; omega
          · have hd1 : ((k : Int) != (c : Int)) = true := by simp; omega
            obtain ⟨y, hy⟩ : ∃ y, Lk k c = y := ⟨_, rfl⟩
            have hP2 : Hid ((∀ A, Inv n A L R → Inv n A (addR k c y Lk) (addR k c y Rk)) ∧ (Cols n c L → Cols n c (addR k c y Lk)) ∧ addR k c y Lk c c = 1 ∧ ∀ i, i < k + 1 → i ≠ c → addR k c y Lk i c = 0) := Lib.hid ⟨fun A h => (hP.out.1 A h).add y hlt hc hkc, fun h => (hP.out.2.1 h).add hc y, by unfold addR; rw [if_neg (by omega)]; exact hP.out.2.2.1, fun i hi hic => by
              unfold addR
              by_cases e : i = k
              · subst e; rw [if_pos rfl, hP.out.2.2.1, gmul_one_r, hy, xx]
              · rw [if_neg e]; exact hP.out.2.2.2 i (by omega) hic⟩
            have hck := hL2.out.cell hlt
            have hcx := hL2.out.at_ hlt hc
            rw [hy] at hcx
            replace hkc := Lib.hid hkc
            go_wp2_with fail
            clear hck hcx
            obtain ⟨wd3, hwd⟩ : ∃ wd, wd = wr.drew := ⟨_, rfl⟩
            have hbb : Below wr.heap.size wr wd3 := by rw [hwd]; exact (Below.refl _ _).drew
            replace hL2 := Lib.hid (hL2.out.below hbb)
            replace hR2 := Lib.hid (hR2.out.below hbb)
            replace hb2 := Lib.hid (hb2.out.trans (hbb.mono (Nat.le_trans hbz hb2.out.size)))
            have hck := hL2.out.cell hlt
            have hcc := hL2.out.cell hc
            have hglt := hL2.out.lt
            have hg1 : gl ≠ G1 k := fun e => hL2.out.gne hlt e.symm
            have hap : Hid (∀ ad, some (⟨G1 c, 0, none⟩ : Addr) = some ad → ad.block ≠ G1 k) := Lib.hid (fun ad e => by injection e with e; subst e; exact hL2.out.apart c k hc hlt (fun e => hkc.out e.symm))
            clear hbb
            refine wpR_region (Upd (fun b => b = G1 k)) 9999 (by kernel_rfl) ?_
            (rw [← hwd]; replace hwd := Lib.hid hwd)
            refine wpR_take (i := 0) (v := ?_) (Upd.road _) (some 98) rfl (by kernel_rfl) (by kernel_rfl) (by kernel_rfl) (by kernel_rfl) (by kernel_rfl) (fun _ _ _ h => h) (by kernel_rfl) (fun w' hw' => ?_) ?_
            rotate_left
            · go_simp; with_reducible rfl
            simp only [Act.put, List.setIfInBounds_toArray, List.set_cons_zero, List.set_cons_succ]
            refine wpR_take (i := 1) (v := ?_) (Upd.road _) (some 99) rfl (by kernel_rfl) (by kernel_rfl) (by kernel_rfl) (by kernel_rfl) (by kernel_rfl) (fun _ _ _ h => h) (by kernel_rfl) (fun w' hw' => ?_) ?_
            rotate_left
            · go_simp; with_reducible rfl
            simp only [Act.put, List.setIfInBounds_toArray, List.set_cons_zero, List.set_cons_succ]
            refine wpR_take (i := 2) (v := ?_) (Upd.road _) (some 100) rfl (by kernel_rfl) (by kernel_rfl) (by kernel_rfl) (by kernel_rfl) (by kernel_rfl) (fun _ _ _ h => h) (by kernel_rfl) (fun w' hw' => ?_) ?_
            rotate_left
            · go_simp; with_reducible rfl
            simp only [Act.put, List.setIfInBounds_toArray, List.set_cons_zero, List.set_cons_succ]
            refine wpR_take (i := 3) (v := ?_) (Upd.road _) (some 101) rfl (by kernel_rfl) (by kernel_rfl) (by kernel_rfl) (by kernel_rfl) (by kernel_rfl) (fun _ _ _ h => h) (by kernel_rfl) (fun w' hw' => ?_) ?_
            rotate_left
            · have q := (hw'.cell (p := ⟨gl, k, none⟩) hglt hg1).trans hck; go_simp; with_reducible rfl
            simp only [Act.put, List.setIfInBounds_toArray, List.set_cons_zero, List.set_cons_succ]
            refine wpR_take (i := 4) (v := ?_) (Upd.road _) (some 102) rfl (by kernel_rfl) (by kernel_rfl) (by kernel_rfl) (by kernel_rfl) (by kernel_rfl) (fun _ _ _ h => h) (by kernel_rfl) (fun w' hw' => ?_) ?_
            rotate_left
            · go_simp; with_reducible rfl
            simp only [Act.put, List.setIfInBounds_toArray, List.set_cons_zero, List.set_cons_succ]
            refine wpR_take (i := 5) (v := ?_) (Upd.road _) (some 103) rfl (by kernel_rfl) (by kernel_rfl) (by kernel_rfl) (by kernel_rfl) (by kernel_rfl) (fun _ _ _ h => h) (by kernel_rfl) (fun w' hw' => ?_) ?_
            rotate_left
            · go_simp; with_reducible rfl
            simp only [Act.put, List.setIfInBounds_toArray, List.set_cons_zero, List.set_cons_succ]
            refine wpR_take (i := 6) (v := ?_) (Upd.road _) (some 104) rfl (by kernel_rfl) (by kernel_rfl) (by kernel_rfl) (by kernel_rfl) (by kernel_rfl) (fun _ _ _ h => h) (by kernel_rfl) (fun w' hw' => ?_) ?_
            rotate_left
            · go_simp; with_reducible rfl
            simp only [Act.put, List.setIfInBounds_toArray, List.set_cons_zero, List.set_cons_succ]
            refine wpR_take (i := 7) (v := ?_) (Upd.road _) (some 105) rfl (by kernel_rfl) (by kernel_rfl) (by kernel_rfl) (by kernel_rfl) (by kernel_rfl) (fun _ _ _ h => h) (by kernel_rfl) (fun w' hw' => ?_) ?_
            rotate_left
            · have q := (hw'.cell (p := ⟨gl, c, none⟩) hglt hg1).trans hcc; go_simp; with_reducible rfl
            simp only [Act.put, List.setIfInBounds_toArray, List.set_cons_zero, List.set_cons_succ]
            refine wpR_take (i := 8) (v := ?_) (Upd.road _) (some 106) rfl (by kernel_rfl) (by kernel_rfl) (by kernel_rfl) (by kernel_rfl) (by kernel_rfl) (fun _ _ _ h => h) (by kernel_rfl) (fun w' hw' => ?_) ?_
            rotate_left
            · go_simp; with_reducible rfl
            simp only [Act.put, List.setIfInBounds_toArray, List.set_cons_zero, List.set_cons_succ]
            refine wpR_one 9 rfl (by kernel_rfl) (by kernel_rfl) (fun K hK => ?_)
            go_simp
            refine (addMultiple_any base (G1 k) n (D1 k) (Lk k) (some ⟨G1 c, 0, none⟩) (D1 c) (row n (Lk c)) (row_length _ _) (by omega) y _ (hL2.out.own k hlt) (Rd.at_row hL2.out hc) hap.out).mono ?_
            rintro e W5 ⟨rfl, ho6, hu6, hz6⟩
            refine hK _ _ (fun _ => hu6) ?_
            clear hK K
            have hnw := (hL2.out.put hlt ho6 hu6).congr (M' := addR k c y Lk) (fun i j hi hj => by
              unfold addR
              by_cases e : i = k
              · simp only [if_pos e]; rw [row_getD hj]
              · simp only [if_neg e])
            replace hb2 := Lib.hid (Upd.to_below hb2.out hu6 (Nat.le_trans hbz hb2.out.size) (fun b hb' => hL2.out.sub hlt hb'))
            replace hR2 := Lib.hid (hR2.out.upd hu6 (fun e => hR2.out.sep hL2.out hlt e.symm) (fun i hi e => hD2.out k i hlt hi e.symm))
            replace hL2 := Lib.hid hnw
            clear hnw ho6 hu6 hz6 hck hcc hglt hg1 hap
            try simp only [Act.put, List.setIfInBounds_toArray, List.set_cons_zero, List.set_cons_succ]
            refine wpR_done (by kernel_rfl) ?_ _
            go_wp2_with fail
            obtain ⟨wd4, hwd⟩ : ∃ wd, wd = W5.drew := ⟨_, rfl⟩
            have hbb : Below W5.heap.size W5 wd4 := by rw [hwd]; exact (Below.refl _ _).drew
            replace hL2 := Lib.hid (hL2.out.below hbb)
            replace hR2 := Lib.hid (hR2.out.below hbb)
            replace hb2 := Lib.hid (hb2.out.trans (hbb.mono (Nat.le_trans hbz hb2.out.size)))
            have hck := hR2.out.cell hlt
            have hcc := hR2.out.cell hc
            have hglt := hR2.out.lt
            have hg1 : gr ≠ G2 k := fun e => hR2.out.gne hlt e.symm
            have hap : Hid (∀ ad, some (⟨G2 c, 0, none⟩ : Addr) = some ad → ad.block ≠ G2 k) := Lib.hid (fun ad e => by injection e with e; subst e; exact hR2.out.apart c k hc hlt (fun e => hkc.out e.symm))
            clear hbb
            refine wpR_region (Upd (fun b => b = G2 k)) 9999 (by kernel_rfl) ?_
            (rw [← hwd]; replace hwd := Lib.hid hwd)
            refine wpR_take (i := 0) (v := ?_) (Upd.road _) (some 108) rfl (by kernel_rfl) (by kernel_rfl) (by kernel_rfl) (by kernel_rfl) (by kernel_rfl) (fun _ _ _ h => h) (by kernel_rfl) (fun w' hw' => ?_) ?_
            rotate_left
            · go_simp; with_reducible rfl
            simp only [Act.put, List.setIfInBounds_toArray, List.set_cons_zero, List.set_cons_succ]
            refine wpR_take (i := 1) (v := ?_) (Upd.road _) (some 109) rfl (by kernel_rfl) (by kernel_rfl) (by kernel_rfl) (by kernel_rfl) (by kernel_rfl) (fun _ _ _ h => h) (by kernel_rfl) (fun w' hw' => ?_) ?_
            rotate_left
            · go_simp; with_reducible rfl
            simp only [Act.put, List.setIfInBounds_toArray, List.set_cons_zero, List.set_cons_succ]
            refine wpR_take (i := 2) (v := ?_) (Upd.road _) (some 110) rfl (by kernel_rfl) (by kernel_rfl) (by kernel_rfl) (by kernel_rfl) (by kernel_rfl) (fun _ _ _ h => h) (by kernel_rfl) (fun w' hw' => ?_) ?_
            rotate_left
            · go_simp; with_reducible rfl
            simp only [Act.put, List.setIfInBounds_toArray, List.set_cons_zero, List.set_cons_succ]
            refine wpR_take (i := 3) (v := ?_) (Upd.road _) (some 111) rfl (by kernel_rfl) (by kernel_rfl) (by kernel_rfl) (by kernel_rfl) (by kernel_rfl) (fun _ _ _ h => h) (by kernel_rfl) (fun w' hw' => ?_) ?_
            rotate_left
            · have q := (hw'.cell (p := ⟨gr, k, none⟩) hglt hg1).trans hck; go_simp; with_reducible rfl
            simp only [Act.put, List.setIfInBounds_toArray, List.set_cons_zero, List.set_cons_succ]
            refine wpR_take (i := 4) (v := ?_) (Upd.road _) (some 112) rfl (by kernel_rfl) (by kernel_rfl) (by kernel_rfl) (by kernel_rfl) (by kernel_rfl) (fun _ _ _ h => h) (by kernel_rfl) (fun w' hw' => ?_) ?_
            rotate_left
            · go_simp; with_reducible rfl
            simp only [Act.put, List.setIfInBounds_toArray, List.set_cons_zero, List.set_cons_succ]
            refine wpR_take (i := 5) (v := ?_) (Upd.road _) (some 113) rfl (by kernel_rfl) (by kernel_rfl) (by kernel_rfl) (by kernel_rfl) (by kernel_rfl) (fun _ _ _ h => h) (by kernel_rfl) (fun w' hw' => ?_) ?_
            rotate_left
            · go_simp; with_reducible rfl
            simp only [Act.put, List.setIfInBounds_toArray, List.set_cons_zero, List.set_cons_succ]
            refine wpR_take (i := 6) (v := ?_) (Upd.road _) (some 114) rfl (by kernel_rfl) (by kernel_rfl) (by kernel_rfl) (by kernel_rfl) (by kernel_rfl) (fun _ _ _ h => h) (by kernel_rfl) (fun w' hw' => ?_) ?_
            rotate_left
            · go_simp; with_reducible rfl
            simp only [Act.put, List.setIfInBounds_toArray, List.set_cons_zero, List.set_cons_succ]
            refine wpR_take (i := 7) (v := ?_) (Upd.road _) (some 115) rfl (by kernel_rfl) (by kernel_rfl) (by kernel_rfl) (by kernel_rfl) (by kernel_rfl) (fun _ _ _ h => h) (by kernel_rfl) (fun w' hw' => ?_) ?_
            rotate_left
            · have q := (hw'.cell (p := ⟨gr, c, none⟩) hglt hg1).trans hcc; go_simp; with_reducible rfl
            simp only [Act.put, List.setIfInBounds_toArray, List.set_cons_zero, List.set_cons_succ]
            refine wpR_take (i := 8) (v := ?_) (Upd.road _) (some 116) rfl (by kernel_rfl) (by kernel_rfl) (by kernel_rfl) (by kernel_rfl) (by kernel_rfl) (fun _ _ _ h => h) (by kernel_rfl) (fun w' hw' => ?_) ?_
            rotate_left
            · go_simp; with_reducible rfl
            simp only [Act.put, List.setIfInBounds_toArray, List.set_cons_zero, List.set_cons_succ]
            refine wpR_one 9 rfl (by kernel_rfl) (by kernel_rfl) (fun K hK => ?_)
            go_simp
            refine (addMultiple_any base (G2 k) n (D2 k) (Rk k) (some ⟨G2 c, 0, none⟩) (D2 c) (row n (Rk c)) (row_length _ _) (by omega) y _ (hR2.out.own k hlt) (Rd.at_row hR2.out hc) hap.out).mono ?_
            rintro e W6 ⟨rfl, ho6, hu6, hz6⟩
            refine hK _ _ (fun _ => hu6) ?_
            clear hK K
            have hnw := (hR2.out.put hlt ho6 hu6).congr (M' := addR k c y Rk) (fun i j hi hj => by
              unfold addR
              by_cases e : i = k
              · simp only [if_pos e]; rw [row_getD hj]
              · simp only [if_neg e])
            replace hb2 := Lib.hid (Upd.to_below hb2.out hu6 (Nat.le_trans hbz hb2.out.size) (fun b hb' => hR2.out.sub hlt hb'))
            replace hL2 := Lib.hid (hL2.out.upd hu6 (fun e => hL2.out.sep hR2.out hlt e.symm) (fun i hi e => hD2.out i k hi hlt e))
            replace hR2 := Lib.hid hnw
            clear hnw ho6 hu6 hz6 hck hcc hglt hg1 hap
            try simp only [Act.put, List.setIfInBounds_toArray, List.set_cons_zero, List.set_cons_succ]
            refine wpR_done (by kernel_rfl) ?_ _
            go_wp2_with fail
            go_roundw
            case rel => exact ⟨k + 1, _, _, by omega, by go_num, hL2, hR2, hb2, hP2⟩
            case measure => simp [intOf]; omega
        · obtain rfl : k = n := by omega
          go_wp2_with fail
          go_ret
          exact ⟨⟨G1, D1, G2, D2, Lk, Rk, rfl, hL2.out, hR2.out, hD2.out, hP.out.1, fun h => (hP.out.2.1 h).next hP.out.2.2.1 (fun i hi hic => hP.out.2.2.2 i hi hic)⟩, hb2.out⟩
end Go.Proofs.Ytpeilgeloaogfaa
