/- cat: the reference's Apply: placed. -/
import Derived.Test.YthboeoidgglcgaaGreatCpC
namespace Go.Proofs.YthboeoidgglcgaaGreat
set_option linter.unusedVariables false
set_option linter.unusedSimpArgs false
set_option linter.unusedSectionVars false
open Go Go.RowKit Go.Maps Go.Sort Go.Shelf Go.Proofs
set_option maxRecDepth 10000 in
set_option maxHeartbeats 4000000 in
theorem rap2_any (lo g : Nat) (y : RcX) (c : CtP) (w : World) (h : Hid (Rc w lo g y c)) (hf : c.Few 999) (hok : c.Ok) (n : Nt) (v : Value) (hk : n.key.length ≤ maxLen) (w0 : World) (hv : NtV n v w0) (h0 : w0.heap.size ≤ lo) (hg0 : Gr w0 w) (hI : I64 n.cart) (hk1 : n.kind = 2) :
    Calls Tryz.prog 6 #[.pointer (some ⟨g, 0, none⟩), v] w (RPost lo g y w (c.placed n)) := by
  obtain ⟨A, ca, A2, c2, rfl, hdt, hpl⟩ := hv
  obtain ⟨N, hN⟩ : ∃ N, w.heap.size = N := ⟨_, rfl⟩
  obtain ⟨rc, hrc⟩ : ∃ rc, c.placed n = rc := ⟨_, rfl⟩
  rw [hrc]
  unfold CtP.placed at hrc
  obtain ⟨nk, ny, ng, nc, nd, nu, ns, np⟩ := n
  unfold Nt.agg
  simp only at hk1 hk hrc hdt hpl hI ⊢
  subst hk1
  obtain ⟨ld, hld⟩ : ∃ ld, nd.length = ld := ⟨_, rfl⟩
  obtain ⟨lp, hlp⟩ : ∃ lp, np.length = lp := ⟨_, rfl⟩
  rw [hld] at hdt ⊢
  rw [hlp] at hpl ⊢
  obtain ⟨W, hW⟩ : ∃ W, w.alloc (.cells #[.int .i64 2, .string (bs ny), .int .i64 ng, .int .i64 nc, .slice A ld ca, .string (bs nu), .int .i64 ns, .slice A2 lp c2] 37) = W := ⟨_, rfl⟩
  have hgW : Gr w W := by rw [← hW]; exact Gr.alloc _ _
  have hbW : W.heap[N]? = some (.cells #[.int .i64 2, .string (bs ny), .int .i64 ng, .int .i64 nc, .slice A ld ca, .string (bs nu), .int .i64 ns, .slice A2 lp c2] 37 (0, 0)) := by rw [← hW, ← hN]; exact heap_alloc_new w _
  have z0 := blk_cell (j := 0) hbW rfl
  have z1 := blk_cell (j := 1) hbW rfl
  have z2 := blk_cell (j := 2) hbW rfl
  have z4 := blk_cell (j := 4) hbW rfl
  have z6 := blk_cell (j := 6) hbW rfl
  have hcW := Lib.hid (h.out.gr hgW)
  have hfr : Hid (∀ {c' w'}, RcAct lo g y W c' w' → RcAct lo g y w c' w') := Lib.hid (fun h1 => RcAct.from_ hgW h1)
  have hsame : Hid (∀ w', Gr W w' → RcAct lo g y w c w') := Lib.hid (fun w' h1 => RcAct.gr h (hgW.trans h1))
  have hnm := Lib.hid (rnamed_any ny hk)
  obtain ⟨wd, hwd⟩ : ∃ wd, wd = W.drew := ⟨_, rfl⟩
  have hgd : Gr W wd := by rw [hwd]; exact (Below.refl _ _).drew
  have hcd := Lib.hid (hcW.out.gr hgd)
  have hbd := blk_below hbW hgd
  have d1 := blk_cell (j := 1) hbd rfl
  have d2 := blk_cell (j := 2) hbd rfl
  have d6 := blk_cell (j := 6) hbd rfl
  have d7 := blk_cell (j := 7) hbd rfl
  have d5 := blk_cell (j := 5) hcd.out.blk rfl
  obtain ⟨G, hG⟩ : ∃ z, c.G = z := ⟨_, rfl⟩
  rw [hG] at d5
  replace hbd := Lib.hid hbd
  have hsm2 := Lib.hid (hsame.out _ hgd)
  have hnd : ∀ b : Bool, keyOk ny = b → (c.named ny ng = true ↔ b = true ∧ 1 ≤ ng ∧ ng ≤ G) := fun b e => by rw [← e, ← hG]; exact named_iff c ny ng
  replace hnd := Lib.hid hnd
  replace hG := Lib.hid hG
  replace hgW := Lib.hid hgW
  replace hbW := Lib.hid hbW
  replace hld := Lib.hid hld
  replace hlp := Lib.hid hlp
  replace hdt := Lib.hid hdt
  replace hpl := Lib.hid hpl
  replace hgd := Lib.hid hgd
  cases hko : keyOk ny with
  | false =>
    rw [hko] at hnm
    obtain rfl : rc = (12, c) := by rw [← hrc, if_pos (.inl (by have := (hnd.out _ hko); cases hx : c.named ny ng with | false => rfl | true => exact absurd (this.mp hx).1 (by decide)))]
    go_enter Tryz.func6, Tryz.ntmps6
    go_upto_region 9 with (fail)
    clear z0 z1 z2 z4 z6
    refine wpR_region (Eq) 9999 (by kernel_rfl) ?_
    (rw [← hwd]; replace hwd := Lib.hid hwd)
    refine wT (i := 0) (v := ?_) (⟨fun _ => rfl, Eq.trans⟩) (some 43) rfl (fun w' hw' => ?_) ?_
    rotate_left
    · go_simp; with_reducible rfl
    simp only [Act.put, List.setIfInBounds_toArray, List.set_cons_zero, List.set_cons_succ]
    refine wT (i := 1) (v := ?_) (⟨fun _ => rfl, Eq.trans⟩) (some 44) rfl (fun w' hw' => ?_) ?_
    rotate_left
    · subst hw'; go_simp; with_reducible rfl
    simp only [Act.put, List.setIfInBounds_toArray, List.set_cons_zero, List.set_cons_succ]
    refine wpR_one 2 rfl (by kernel_rfl) (by kernel_rfl) (fun K hK => ?_)
    go_simp
    refine (hnm.out _).mono ?_
    rintro e w' ⟨rfl, hww⟩
    rw [hww]
    clear hww w'
    refine hK _ _ (fun _ => rfl) ?_
    clear hK K
    clear hnm
    try simp only [Act.put, List.setIfInBounds_toArray, List.set_cons_zero, List.set_cons_succ]
    refine wT (i := 3) (v := ?_) (⟨fun _ => rfl, Eq.trans⟩) (some 46) rfl (fun w' hw' => ?_) ?_
    rotate_left
    · go_simp; with_reducible rfl
    simp only [Act.put, List.setIfInBounds_toArray, List.set_cons_zero, List.set_cons_succ]
    refine wT (i := 4) (v := ?_) (⟨fun _ => rfl, Eq.trans⟩) (some 47) rfl (fun w' hw' => ?_) ?_
    rotate_left
    · go_simp; with_reducible rfl
    simp only [Act.put, List.setIfInBounds_toArray, List.set_cons_zero, List.set_cons_succ]
    refine wpR_skip (i := 5) (⟨fun _ => rfl, Eq.trans⟩) (some 48) rfl (by kernel_rfl) (by kernel_rfl) (by kernel_rfl) (by kernel_rfl) (by kernel_rfl) (fun _ _ _ h => h) (by kernel_rfl) ?_
    simp only [Act.put, List.setIfInBounds_toArray, List.set_cons_zero, List.set_cons_succ]
    refine wpR_skip (i := 6) (⟨fun _ => rfl, Eq.trans⟩) (some 49) rfl (by kernel_rfl) (by kernel_rfl) (by kernel_rfl) (by kernel_rfl) (by kernel_rfl) (fun _ _ _ h => h) (by kernel_rfl) ?_
    simp only [Act.put, List.setIfInBounds_toArray, List.set_cons_zero, List.set_cons_succ]
    refine wpR_skip (i := 7) (⟨fun _ => rfl, Eq.trans⟩) (some 50) rfl (by kernel_rfl) (by kernel_rfl) (by kernel_rfl) (by kernel_rfl) (by kernel_rfl) (fun _ _ _ h => h) (by kernel_rfl) ?_
    simp only [Act.put, List.setIfInBounds_toArray, List.set_cons_zero, List.set_cons_succ]
    refine wT (i := 8) (v := ?_) (⟨fun _ => rfl, Eq.trans⟩) (some 51) rfl (fun w' hw' => ?_) ?_
    rotate_left
    · go_simp; with_reducible rfl
    simp only [Act.put, List.setIfInBounds_toArray, List.set_cons_zero, List.set_cons_succ]
    refine wT (i := 9) (v := ?_) (⟨fun _ => rfl, Eq.trans⟩) (some 52) rfl (fun w' hw' => ?_) ?_
    rotate_left
    · go_simp; with_reducible rfl
    simp only [Act.put, List.setIfInBounds_toArray, List.set_cons_zero, List.set_cons_succ]
    refine wpR_skip (i := 10) (⟨fun _ => rfl, Eq.trans⟩) (some 53) rfl (by kernel_rfl) (by kernel_rfl) (by kernel_rfl) (by kernel_rfl) (by kernel_rfl) (fun _ _ _ h => h) (by kernel_rfl) ?_
    simp only [Act.put, List.setIfInBounds_toArray, List.set_cons_zero, List.set_cons_succ]
    refine wpR_skip (i := 11) (⟨fun _ => rfl, Eq.trans⟩) (some 54) rfl (by kernel_rfl) (by kernel_rfl) (by kernel_rfl) (by kernel_rfl) (by kernel_rfl) (fun _ _ _ h => h) (by kernel_rfl) ?_
    simp only [Act.put, List.setIfInBounds_toArray, List.set_cons_zero, List.set_cons_succ]
    refine wpR_skip (i := 12) (⟨fun _ => rfl, Eq.trans⟩) (some 55) rfl (by kernel_rfl) (by kernel_rfl) (by kernel_rfl) (by kernel_rfl) (by kernel_rfl) (fun _ _ _ h => h) (by kernel_rfl) ?_
    simp only [Act.put, List.setIfInBounds_toArray, List.set_cons_zero, List.set_cons_succ]
    refine wpR_skip (i := 13) (⟨fun _ => rfl, Eq.trans⟩) (some 56) rfl (by kernel_rfl) (by kernel_rfl) (by kernel_rfl) (by kernel_rfl) (by kernel_rfl) (fun _ _ _ h => h) (by kernel_rfl) ?_
    simp only [Act.put, List.setIfInBounds_toArray, List.set_cons_zero, List.set_cons_succ]
    refine wpR_skip (i := 14) (⟨fun _ => rfl, Eq.trans⟩) (some 57) rfl (by kernel_rfl) (by kernel_rfl) (by kernel_rfl) (by kernel_rfl) (by kernel_rfl) (fun _ _ _ h => h) (by kernel_rfl) ?_
    simp only [Act.put, List.setIfInBounds_toArray, List.set_cons_zero, List.set_cons_succ]
    refine wpR_skip (i := 15) (⟨fun _ => rfl, Eq.trans⟩) (some 58) rfl (by kernel_rfl) (by kernel_rfl) (by kernel_rfl) (by kernel_rfl) (by kernel_rfl) (fun _ _ _ h => h) (by kernel_rfl) ?_
    simp only [Act.put, List.setIfInBounds_toArray, List.set_cons_zero, List.set_cons_succ]
    refine wpR_skip (i := 16) (⟨fun _ => rfl, Eq.trans⟩) (some 59) rfl (by kernel_rfl) (by kernel_rfl) (by kernel_rfl) (by kernel_rfl) (by kernel_rfl) (fun _ _ _ h => h) (by kernel_rfl) ?_
    simp only [Act.put, List.setIfInBounds_toArray, List.set_cons_zero, List.set_cons_succ]
    refine wT (i := 17) (v := ?_) (⟨fun _ => rfl, Eq.trans⟩) (some 60) rfl (fun w' hw' => ?_) ?_
    rotate_left
    · go_simp; with_reducible rfl
    simp only [Act.put, List.setIfInBounds_toArray, List.set_cons_zero, List.set_cons_succ]
    refine wT (i := 18) (v := ?_) (⟨fun _ => rfl, Eq.trans⟩) (some 61) rfl (fun w' hw' => ?_) ?_
    rotate_left
    · go_simp; with_reducible rfl
    simp only [Act.put, List.setIfInBounds_toArray, List.set_cons_zero, List.set_cons_succ]
    refine wpR_skip (i := 19) (⟨fun _ => rfl, Eq.trans⟩) (some 62) rfl (by kernel_rfl) (by kernel_rfl) (by kernel_rfl) (by kernel_rfl) (by kernel_rfl) (fun _ _ _ h => h) (by kernel_rfl) ?_
    simp only [Act.put, List.setIfInBounds_toArray, List.set_cons_zero, List.set_cons_succ]
    refine wpR_skip (i := 20) (⟨fun _ => rfl, Eq.trans⟩) (some 63) rfl (by kernel_rfl) (by kernel_rfl) (by kernel_rfl) (by kernel_rfl) (by kernel_rfl) (fun _ _ _ h => h) (by kernel_rfl) ?_
    simp only [Act.put, List.setIfInBounds_toArray, List.set_cons_zero, List.set_cons_succ]
    refine wpR_skip (i := 21) (⟨fun _ => rfl, Eq.trans⟩) (some 64) rfl (by kernel_rfl) (by kernel_rfl) (by kernel_rfl) (by kernel_rfl) (by kernel_rfl) (fun _ _ _ h => h) (by kernel_rfl) ?_
    simp only [Act.put, List.setIfInBounds_toArray, List.set_cons_zero, List.set_cons_succ]
    refine wT (i := 22) (v := ?_) (⟨fun _ => rfl, Eq.trans⟩) (some 65) rfl (fun w' hw' => ?_) ?_
    rotate_left
    · go_simp; with_reducible rfl
    simp only [Act.put, List.setIfInBounds_toArray, List.set_cons_zero, List.set_cons_succ]
    refine wT (i := 23) (v := ?_) (⟨fun _ => rfl, Eq.trans⟩) (some 66) rfl (fun w' hw' => ?_) ?_
    rotate_left
    · go_simp; with_reducible rfl
    simp only [Act.put, List.setIfInBounds_toArray, List.set_cons_zero, List.set_cons_succ]
    refine wpR_skip (i := 24) (⟨fun _ => rfl, Eq.trans⟩) (some 67) rfl (by kernel_rfl) (by kernel_rfl) (by kernel_rfl) (by kernel_rfl) (by kernel_rfl) (fun _ _ _ h => h) (by kernel_rfl) ?_
    simp only [Act.put, List.setIfInBounds_toArray, List.set_cons_zero, List.set_cons_succ]
    refine wpR_skip (i := 25) (⟨fun _ => rfl, Eq.trans⟩) (some 68) rfl (by kernel_rfl) (by kernel_rfl) (by kernel_rfl) (by kernel_rfl) (by kernel_rfl) (fun _ _ _ h => h) (by kernel_rfl) ?_
    simp only [Act.put, List.setIfInBounds_toArray, List.set_cons_zero, List.set_cons_succ]
    refine wpR_skip (i := 26) (⟨fun _ => rfl, Eq.trans⟩) (some 69) rfl (by kernel_rfl) (by kernel_rfl) (by kernel_rfl) (by kernel_rfl) (by kernel_rfl) (fun _ _ _ h => h) (by kernel_rfl) ?_
    simp only [Act.put, List.setIfInBounds_toArray, List.set_cons_zero, List.set_cons_succ]
    refine wT (i := 27) (v := ?_) (⟨fun _ => rfl, Eq.trans⟩) (some 70) rfl (fun w' hw' => ?_) ?_
    rotate_left
    · go_simp; with_reducible rfl
    simp only [Act.put, List.setIfInBounds_toArray, List.set_cons_zero, List.set_cons_succ]
    refine wT (i := 28) (v := ?_) (⟨fun _ => rfl, Eq.trans⟩) (some 71) rfl (fun w' hw' => ?_) ?_
    rotate_left
    · go_simp; with_reducible rfl
    simp only [Act.put, List.setIfInBounds_toArray, List.set_cons_zero, List.set_cons_succ]
    refine wpR_skip (i := 29) (⟨fun _ => rfl, Eq.trans⟩) (some 72) rfl (by kernel_rfl) (by kernel_rfl) (by kernel_rfl) (by kernel_rfl) (by kernel_rfl) (fun _ _ _ h => h) (by kernel_rfl) ?_
    simp only [Act.put, List.setIfInBounds_toArray, List.set_cons_zero, List.set_cons_succ]
    refine wpR_skip (i := 30) (⟨fun _ => rfl, Eq.trans⟩) (some 73) rfl (by kernel_rfl) (by kernel_rfl) (by kernel_rfl) (by kernel_rfl) (by kernel_rfl) (fun _ _ _ h => h) (by kernel_rfl) ?_
    simp only [Act.put, List.setIfInBounds_toArray, List.set_cons_zero, List.set_cons_succ]
    refine wpR_skip (i := 31) (⟨fun _ => rfl, Eq.trans⟩) (some 74) rfl (by kernel_rfl) (by kernel_rfl) (by kernel_rfl) (by kernel_rfl) (by kernel_rfl) (fun _ _ _ h => h) (by kernel_rfl) ?_
    simp only [Act.put, List.setIfInBounds_toArray, List.set_cons_zero, List.set_cons_succ]
    refine wpR_skip (i := 32) (⟨fun _ => rfl, Eq.trans⟩) (some 75) rfl (by kernel_rfl) (by kernel_rfl) (by kernel_rfl) (by kernel_rfl) (by kernel_rfl) (fun _ _ _ h => h) (by kernel_rfl) ?_
    simp only [Act.put, List.setIfInBounds_toArray, List.set_cons_zero, List.set_cons_succ]
    refine wpR_skip (i := 33) (⟨fun _ => rfl, Eq.trans⟩) (some 76) rfl (by kernel_rfl) (by kernel_rfl) (by kernel_rfl) (by kernel_rfl) (by kernel_rfl) (fun _ _ _ h => h) (by kernel_rfl) ?_
    simp only [Act.put, List.setIfInBounds_toArray, List.set_cons_zero, List.set_cons_succ]
    refine wpR_skip (i := 34) (⟨fun _ => rfl, Eq.trans⟩) (some 77) rfl (by kernel_rfl) (by kernel_rfl) (by kernel_rfl) (by kernel_rfl) (by kernel_rfl) (fun _ _ _ h => h) (by kernel_rfl) ?_
    simp only [Act.put, List.setIfInBounds_toArray, List.set_cons_zero, List.set_cons_succ]
    refine wpR_skip (i := 35) (⟨fun _ => rfl, Eq.trans⟩) (some 78) rfl (by kernel_rfl) (by kernel_rfl) (by kernel_rfl) (by kernel_rfl) (by kernel_rfl) (fun _ _ _ h => h) (by kernel_rfl) ?_
    simp only [Act.put, List.setIfInBounds_toArray, List.set_cons_zero, List.set_cons_succ]
    refine wpR_skip (i := 36) (⟨fun _ => rfl, Eq.trans⟩) (some 79) rfl (by kernel_rfl) (by kernel_rfl) (by kernel_rfl) (by kernel_rfl) (by kernel_rfl) (fun _ _ _ h => h) (by kernel_rfl) ?_
    simp only [Act.put, List.setIfInBounds_toArray, List.set_cons_zero, List.set_cons_succ]
    refine wT (i := 37) (v := ?_) (⟨fun _ => rfl, Eq.trans⟩) (some 80) rfl (fun w' hw' => ?_) ?_
    rotate_left
    · go_simp; with_reducible rfl
    simp only [Act.put, List.setIfInBounds_toArray, List.set_cons_zero, List.set_cons_succ]
    refine wpR_done (by kernel_rfl) ?_ _
    clear hrc
    go_wp2_with fail
    go_ret
    exact ⟨rfl, hsm2.out⟩
  | true =>
    rw [hko] at hnm
    by_cases ig1 : ng < 1
    · skip
      obtain rfl : rc = (12, c) := by rw [← hrc, if_pos (.inl (by have := (hnd.out _ hko); cases hx : c.named ny ng with | false => rfl | true => exact absurd (this.mp hx).2.1 (by omega)))]
      go_enter Tryz.func6, Tryz.ntmps6
      go_upto_region 9 with (fail)
      clear z0 z1 z2 z4 z6
      refine wpR_region (Eq) 9999 (by kernel_rfl) ?_
      (rw [← hwd]; replace hwd := Lib.hid hwd)
      refine wT (i := 0) (v := ?_) (⟨fun _ => rfl, Eq.trans⟩) (some 43) rfl (fun w' hw' => ?_) ?_
      rotate_left
      · go_simp; with_reducible rfl
      simp only [Act.put, List.setIfInBounds_toArray, List.set_cons_zero, List.set_cons_succ]
      refine wT (i := 1) (v := ?_) (⟨fun _ => rfl, Eq.trans⟩) (some 44) rfl (fun w' hw' => ?_) ?_
      rotate_left
      · subst hw'; go_simp; with_reducible rfl
      simp only [Act.put, List.setIfInBounds_toArray, List.set_cons_zero, List.set_cons_succ]
      refine wpR_one 2 rfl (by kernel_rfl) (by kernel_rfl) (fun K hK => ?_)
      go_simp
      refine (hnm.out _).mono ?_
      rintro e w' ⟨rfl, hww⟩
      rw [hww]
      clear hww w'
      refine hK _ _ (fun _ => rfl) ?_
      clear hK K
      clear hnm
      try simp only [Act.put, List.setIfInBounds_toArray, List.set_cons_zero, List.set_cons_succ]
      refine wT (i := 3) (v := ?_) (⟨fun _ => rfl, Eq.trans⟩) (some 46) rfl (fun w' hw' => ?_) ?_
      rotate_left
      · go_simp; with_reducible rfl
      simp only [Act.put, List.setIfInBounds_toArray, List.set_cons_zero, List.set_cons_succ]
      refine wT (i := 4) (v := ?_) (⟨fun _ => rfl, Eq.trans⟩) (some 47) rfl (fun w' hw' => ?_) ?_
      rotate_left
      · go_simp; with_reducible rfl
      simp only [Act.put, List.setIfInBounds_toArray, List.set_cons_zero, List.set_cons_succ]
      refine wT (i := 5) (v := ?_) (⟨fun _ => rfl, Eq.trans⟩) (some 48) rfl (fun w' hw' => ?_) ?_
      rotate_left
      · go_simp; with_reducible rfl
      simp only [Act.put, List.setIfInBounds_toArray, List.set_cons_zero, List.set_cons_succ]
      refine wT (i := 6) (v := ?_) (⟨fun _ => rfl, Eq.trans⟩) (some 49) rfl (fun w' hw' => ?_) ?_
      rotate_left
      · subst hw'; go_simp; with_reducible rfl
      simp only [Act.put, List.setIfInBounds_toArray, List.set_cons_zero, List.set_cons_succ]
      refine wT (i := 7) (v := ?_) (⟨fun _ => rfl, Eq.trans⟩) (some 50) rfl (fun w' hw' => ?_) ?_
      rotate_left
      · go_simp; with_reducible rfl
      simp only [Act.put, List.setIfInBounds_toArray, List.set_cons_zero, List.set_cons_succ]
      refine wT (i := 8) (v := ?_) (⟨fun _ => rfl, Eq.trans⟩) (some 51) rfl (fun w' hw' => ?_) ?_
      rotate_left
      · go_simp; with_reducible rfl
      simp only [Act.put, List.setIfInBounds_toArray, List.set_cons_zero, List.set_cons_succ]
      refine wT (i := 9) (v := ?_) (⟨fun _ => rfl, Eq.trans⟩) (some 52) rfl (fun w' hw' => ?_) ?_
      rotate_left
      · go_simp; with_reducible rfl
      simp only [Act.put, List.setIfInBounds_toArray, List.set_cons_zero, List.set_cons_succ]
      refine wpR_skip (i := 10) (⟨fun _ => rfl, Eq.trans⟩) (some 53) rfl (by kernel_rfl) (by kernel_rfl) (by kernel_rfl) (by kernel_rfl) (by kernel_rfl) (fun _ _ _ h => h) (by kernel_rfl) ?_
      simp only [Act.put, List.setIfInBounds_toArray, List.set_cons_zero, List.set_cons_succ]
      refine wpR_skip (i := 11) (⟨fun _ => rfl, Eq.trans⟩) (some 54) rfl (by kernel_rfl) (by kernel_rfl) (by kernel_rfl) (by kernel_rfl) (by kernel_rfl) (fun _ _ _ h => h) (by kernel_rfl) ?_
      simp only [Act.put, List.setIfInBounds_toArray, List.set_cons_zero, List.set_cons_succ]
      refine wpR_skip (i := 12) (⟨fun _ => rfl, Eq.trans⟩) (some 55) rfl (by kernel_rfl) (by kernel_rfl) (by kernel_rfl) (by kernel_rfl) (by kernel_rfl) (fun _ _ _ h => h) (by kernel_rfl) ?_
      simp only [Act.put, List.setIfInBounds_toArray, List.set_cons_zero, List.set_cons_succ]
      refine wpR_skip (i := 13) (⟨fun _ => rfl, Eq.trans⟩) (some 56) rfl (by kernel_rfl) (by kernel_rfl) (by kernel_rfl) (by kernel_rfl) (by kernel_rfl) (fun _ _ _ h => h) (by kernel_rfl) ?_
      simp only [Act.put, List.setIfInBounds_toArray, List.set_cons_zero, List.set_cons_succ]
      refine wpR_skip (i := 14) (⟨fun _ => rfl, Eq.trans⟩) (some 57) rfl (by kernel_rfl) (by kernel_rfl) (by kernel_rfl) (by kernel_rfl) (by kernel_rfl) (fun _ _ _ h => h) (by kernel_rfl) ?_
      simp only [Act.put, List.setIfInBounds_toArray, List.set_cons_zero, List.set_cons_succ]
      refine wpR_skip (i := 15) (⟨fun _ => rfl, Eq.trans⟩) (some 58) rfl (by kernel_rfl) (by kernel_rfl) (by kernel_rfl) (by kernel_rfl) (by kernel_rfl) (fun _ _ _ h => h) (by kernel_rfl) ?_
      simp only [Act.put, List.setIfInBounds_toArray, List.set_cons_zero, List.set_cons_succ]
      refine wpR_skip (i := 16) (⟨fun _ => rfl, Eq.trans⟩) (some 59) rfl (by kernel_rfl) (by kernel_rfl) (by kernel_rfl) (by kernel_rfl) (by kernel_rfl) (fun _ _ _ h => h) (by kernel_rfl) ?_
      simp only [Act.put, List.setIfInBounds_toArray, List.set_cons_zero, List.set_cons_succ]
      refine wT (i := 17) (v := ?_) (⟨fun _ => rfl, Eq.trans⟩) (some 60) rfl (fun w' hw' => ?_) ?_
      rotate_left
      · go_simp; with_reducible rfl
      simp only [Act.put, List.setIfInBounds_toArray, List.set_cons_zero, List.set_cons_succ]
      refine wT (i := 18) (v := ?_) (⟨fun _ => rfl, Eq.trans⟩) (some 61) rfl (fun w' hw' => ?_) ?_
      rotate_left
      · go_simp; with_reducible rfl
      simp only [Act.put, List.setIfInBounds_toArray, List.set_cons_zero, List.set_cons_succ]
      refine wpR_skip (i := 19) (⟨fun _ => rfl, Eq.trans⟩) (some 62) rfl (by kernel_rfl) (by kernel_rfl) (by kernel_rfl) (by kernel_rfl) (by kernel_rfl) (fun _ _ _ h => h) (by kernel_rfl) ?_
      simp only [Act.put, List.setIfInBounds_toArray, List.set_cons_zero, List.set_cons_succ]
      refine wpR_skip (i := 20) (⟨fun _ => rfl, Eq.trans⟩) (some 63) rfl (by kernel_rfl) (by kernel_rfl) (by kernel_rfl) (by kernel_rfl) (by kernel_rfl) (fun _ _ _ h => h) (by kernel_rfl) ?_
      simp only [Act.put, List.setIfInBounds_toArray, List.set_cons_zero, List.set_cons_succ]
      refine wpR_skip (i := 21) (⟨fun _ => rfl, Eq.trans⟩) (some 64) rfl (by kernel_rfl) (by kernel_rfl) (by kernel_rfl) (by kernel_rfl) (by kernel_rfl) (fun _ _ _ h => h) (by kernel_rfl) ?_
      simp only [Act.put, List.setIfInBounds_toArray, List.set_cons_zero, List.set_cons_succ]
      refine wT (i := 22) (v := ?_) (⟨fun _ => rfl, Eq.trans⟩) (some 65) rfl (fun w' hw' => ?_) ?_
      rotate_left
      · go_simp; with_reducible rfl
      simp only [Act.put, List.setIfInBounds_toArray, List.set_cons_zero, List.set_cons_succ]
      refine wT (i := 23) (v := ?_) (⟨fun _ => rfl, Eq.trans⟩) (some 66) rfl (fun w' hw' => ?_) ?_
      rotate_left
      · go_simp; with_reducible rfl
      simp only [Act.put, List.setIfInBounds_toArray, List.set_cons_zero, List.set_cons_succ]
      refine wpR_skip (i := 24) (⟨fun _ => rfl, Eq.trans⟩) (some 67) rfl (by kernel_rfl) (by kernel_rfl) (by kernel_rfl) (by kernel_rfl) (by kernel_rfl) (fun _ _ _ h => h) (by kernel_rfl) ?_
      simp only [Act.put, List.setIfInBounds_toArray, List.set_cons_zero, List.set_cons_succ]
      refine wpR_skip (i := 25) (⟨fun _ => rfl, Eq.trans⟩) (some 68) rfl (by kernel_rfl) (by kernel_rfl) (by kernel_rfl) (by kernel_rfl) (by kernel_rfl) (fun _ _ _ h => h) (by kernel_rfl) ?_
      simp only [Act.put, List.setIfInBounds_toArray, List.set_cons_zero, List.set_cons_succ]
      refine wpR_skip (i := 26) (⟨fun _ => rfl, Eq.trans⟩) (some 69) rfl (by kernel_rfl) (by kernel_rfl) (by kernel_rfl) (by kernel_rfl) (by kernel_rfl) (fun _ _ _ h => h) (by kernel_rfl) ?_
      simp only [Act.put, List.setIfInBounds_toArray, List.set_cons_zero, List.set_cons_succ]
      refine wT (i := 27) (v := ?_) (⟨fun _ => rfl, Eq.trans⟩) (some 70) rfl (fun w' hw' => ?_) ?_
      rotate_left
      · go_simp; with_reducible rfl
      simp only [Act.put, List.setIfInBounds_toArray, List.set_cons_zero, List.set_cons_succ]
      refine wT (i := 28) (v := ?_) (⟨fun _ => rfl, Eq.trans⟩) (some 71) rfl (fun w' hw' => ?_) ?_
      rotate_left
      · go_simp; with_reducible rfl
      simp only [Act.put, List.setIfInBounds_toArray, List.set_cons_zero, List.set_cons_succ]
      refine wpR_skip (i := 29) (⟨fun _ => rfl, Eq.trans⟩) (some 72) rfl (by kernel_rfl) (by kernel_rfl) (by kernel_rfl) (by kernel_rfl) (by kernel_rfl) (fun _ _ _ h => h) (by kernel_rfl) ?_
      simp only [Act.put, List.setIfInBounds_toArray, List.set_cons_zero, List.set_cons_succ]
      refine wpR_skip (i := 30) (⟨fun _ => rfl, Eq.trans⟩) (some 73) rfl (by kernel_rfl) (by kernel_rfl) (by kernel_rfl) (by kernel_rfl) (by kernel_rfl) (fun _ _ _ h => h) (by kernel_rfl) ?_
      simp only [Act.put, List.setIfInBounds_toArray, List.set_cons_zero, List.set_cons_succ]
      refine wpR_skip (i := 31) (⟨fun _ => rfl, Eq.trans⟩) (some 74) rfl (by kernel_rfl) (by kernel_rfl) (by kernel_rfl) (by kernel_rfl) (by kernel_rfl) (fun _ _ _ h => h) (by kernel_rfl) ?_
      simp only [Act.put, List.setIfInBounds_toArray, List.set_cons_zero, List.set_cons_succ]
      refine wpR_skip (i := 32) (⟨fun _ => rfl, Eq.trans⟩) (some 75) rfl (by kernel_rfl) (by kernel_rfl) (by kernel_rfl) (by kernel_rfl) (by kernel_rfl) (fun _ _ _ h => h) (by kernel_rfl) ?_
      simp only [Act.put, List.setIfInBounds_toArray, List.set_cons_zero, List.set_cons_succ]
      refine wpR_skip (i := 33) (⟨fun _ => rfl, Eq.trans⟩) (some 76) rfl (by kernel_rfl) (by kernel_rfl) (by kernel_rfl) (by kernel_rfl) (by kernel_rfl) (fun _ _ _ h => h) (by kernel_rfl) ?_
      simp only [Act.put, List.setIfInBounds_toArray, List.set_cons_zero, List.set_cons_succ]
      refine wpR_skip (i := 34) (⟨fun _ => rfl, Eq.trans⟩) (some 77) rfl (by kernel_rfl) (by kernel_rfl) (by kernel_rfl) (by kernel_rfl) (by kernel_rfl) (fun _ _ _ h => h) (by kernel_rfl) ?_
      simp only [Act.put, List.setIfInBounds_toArray, List.set_cons_zero, List.set_cons_succ]
      refine wpR_skip (i := 35) (⟨fun _ => rfl, Eq.trans⟩) (some 78) rfl (by kernel_rfl) (by kernel_rfl) (by kernel_rfl) (by kernel_rfl) (by kernel_rfl) (fun _ _ _ h => h) (by kernel_rfl) ?_
      simp only [Act.put, List.setIfInBounds_toArray, List.set_cons_zero, List.set_cons_succ]
      refine wpR_skip (i := 36) (⟨fun _ => rfl, Eq.trans⟩) (some 79) rfl (by kernel_rfl) (by kernel_rfl) (by kernel_rfl) (by kernel_rfl) (by kernel_rfl) (fun _ _ _ h => h) (by kernel_rfl) ?_
      simp only [Act.put, List.setIfInBounds_toArray, List.set_cons_zero, List.set_cons_succ]
      refine wT (i := 37) (v := ?_) (⟨fun _ => rfl, Eq.trans⟩) (some 80) rfl (fun w' hw' => ?_) ?_
      rotate_left
      · go_simp; with_reducible rfl
      simp only [Act.put, List.setIfInBounds_toArray, List.set_cons_zero, List.set_cons_succ]
      refine wpR_done (by kernel_rfl) ?_ _
      clear hrc
      go_wp2_with fail
      go_ret
      exact ⟨rfl, hsm2.out⟩
    by_cases ig2 : G < ng
    · skip
      obtain rfl : rc = (12, c) := by rw [← hrc, if_pos (.inl (by have := (hnd.out _ hko); cases hx : c.named ny ng with | false => rfl | true => exact absurd (this.mp hx).2.2 (by omega)))]
      go_enter Tryz.func6, Tryz.ntmps6
      go_upto_region 9 with (fail)
      clear z0 z1 z2 z4 z6
      refine wpR_region (Eq) 9999 (by kernel_rfl) ?_
      (rw [← hwd]; replace hwd := Lib.hid hwd)
      refine wT (i := 0) (v := ?_) (⟨fun _ => rfl, Eq.trans⟩) (some 43) rfl (fun w' hw' => ?_) ?_
      rotate_left
      · go_simp; with_reducible rfl
      simp only [Act.put, List.setIfInBounds_toArray, List.set_cons_zero, List.set_cons_succ]
      refine wT (i := 1) (v := ?_) (⟨fun _ => rfl, Eq.trans⟩) (some 44) rfl (fun w' hw' => ?_) ?_
      rotate_left
      · subst hw'; go_simp; with_reducible rfl
      simp only [Act.put, List.setIfInBounds_toArray, List.set_cons_zero, List.set_cons_succ]
      refine wpR_one 2 rfl (by kernel_rfl) (by kernel_rfl) (fun K hK => ?_)
      go_simp
      refine (hnm.out _).mono ?_
      rintro e w' ⟨rfl, hww⟩
      rw [hww]
      clear hww w'
      refine hK _ _ (fun _ => rfl) ?_
      clear hK K
      clear hnm
      try simp only [Act.put, List.setIfInBounds_toArray, List.set_cons_zero, List.set_cons_succ]
      refine wT (i := 3) (v := ?_) (⟨fun _ => rfl, Eq.trans⟩) (some 46) rfl (fun w' hw' => ?_) ?_
      rotate_left
      · go_simp; with_reducible rfl
      simp only [Act.put, List.setIfInBounds_toArray, List.set_cons_zero, List.set_cons_succ]
      refine wT (i := 4) (v := ?_) (⟨fun _ => rfl, Eq.trans⟩) (some 47) rfl (fun w' hw' => ?_) ?_
      rotate_left
      · go_simp; with_reducible rfl
      simp only [Act.put, List.setIfInBounds_toArray, List.set_cons_zero, List.set_cons_succ]
      refine wT (i := 5) (v := ?_) (⟨fun _ => rfl, Eq.trans⟩) (some 48) rfl (fun w' hw' => ?_) ?_
      rotate_left
      · go_simp; with_reducible rfl
      simp only [Act.put, List.setIfInBounds_toArray, List.set_cons_zero, List.set_cons_succ]
      refine wT (i := 6) (v := ?_) (⟨fun _ => rfl, Eq.trans⟩) (some 49) rfl (fun w' hw' => ?_) ?_
      rotate_left
      · subst hw'; go_simp; with_reducible rfl
      simp only [Act.put, List.setIfInBounds_toArray, List.set_cons_zero, List.set_cons_succ]
      refine wT (i := 7) (v := ?_) (⟨fun _ => rfl, Eq.trans⟩) (some 50) rfl (fun w' hw' => ?_) ?_
      rotate_left
      · go_simp; with_reducible rfl
      simp only [Act.put, List.setIfInBounds_toArray, List.set_cons_zero, List.set_cons_succ]
      refine wT (i := 8) (v := ?_) (⟨fun _ => rfl, Eq.trans⟩) (some 51) rfl (fun w' hw' => ?_) ?_
      rotate_left
      · go_simp; with_reducible rfl
      simp only [Act.put, List.setIfInBounds_toArray, List.set_cons_zero, List.set_cons_succ]
      refine wT (i := 9) (v := ?_) (⟨fun _ => rfl, Eq.trans⟩) (some 52) rfl (fun w' hw' => ?_) ?_
      rotate_left
      · go_simp; with_reducible rfl
      simp only [Act.put, List.setIfInBounds_toArray, List.set_cons_zero, List.set_cons_succ]
      refine wT (i := 10) (v := ?_) (⟨fun _ => rfl, Eq.trans⟩) (some 53) rfl (fun w' hw' => ?_) ?_
      rotate_left
      · go_simp; with_reducible rfl
      simp only [Act.put, List.setIfInBounds_toArray, List.set_cons_zero, List.set_cons_succ]
      refine wT (i := 11) (v := ?_) (⟨fun _ => rfl, Eq.trans⟩) (some 54) rfl (fun w' hw' => ?_) ?_
      rotate_left
      · subst hw'; go_simp; with_reducible rfl
      simp only [Act.put, List.setIfInBounds_toArray, List.set_cons_zero, List.set_cons_succ]
      refine wT (i := 12) (v := ?_) (⟨fun _ => rfl, Eq.trans⟩) (some 55) rfl (fun w' hw' => ?_) ?_
      rotate_left
      · go_simp; with_reducible rfl
      simp only [Act.put, List.setIfInBounds_toArray, List.set_cons_zero, List.set_cons_succ]
      refine wT (i := 13) (v := ?_) (⟨fun _ => rfl, Eq.trans⟩) (some 56) rfl (fun w' hw' => ?_) ?_
      rotate_left
      · go_simp; with_reducible rfl
      simp only [Act.put, List.setIfInBounds_toArray, List.set_cons_zero, List.set_cons_succ]
      refine wT (i := 14) (v := ?_) (⟨fun _ => rfl, Eq.trans⟩) (some 57) rfl (fun w' hw' => ?_) ?_
      rotate_left
      · go_simp; with_reducible rfl
      simp only [Act.put, List.setIfInBounds_toArray, List.set_cons_zero, List.set_cons_succ]
      refine wT (i := 15) (v := ?_) (⟨fun _ => rfl, Eq.trans⟩) (some 58) rfl (fun w' hw' => ?_) ?_
      rotate_left
      · subst hw'; go_simp; with_reducible rfl
      simp only [Act.put, List.setIfInBounds_toArray, List.set_cons_zero, List.set_cons_succ]
      refine wT (i := 16) (v := ?_) (⟨fun _ => rfl, Eq.trans⟩) (some 59) rfl (fun w' hw' => ?_) ?_
      rotate_left
      · go_simp; with_reducible rfl
      simp only [Act.put, List.setIfInBounds_toArray, List.set_cons_zero, List.set_cons_succ]
      refine wT (i := 17) (v := ?_) (⟨fun _ => rfl, Eq.trans⟩) (some 60) rfl (fun w' hw' => ?_) ?_
      rotate_left
      · go_simp; with_reducible rfl
      simp only [Act.put, List.setIfInBounds_toArray, List.set_cons_zero, List.set_cons_succ]
      refine wT (i := 18) (v := ?_) (⟨fun _ => rfl, Eq.trans⟩) (some 61) rfl (fun w' hw' => ?_) ?_
      rotate_left
      · go_simp; with_reducible rfl
      simp only [Act.put, List.setIfInBounds_toArray, List.set_cons_zero, List.set_cons_succ]
      refine wpR_skip (i := 19) (⟨fun _ => rfl, Eq.trans⟩) (some 62) rfl (by kernel_rfl) (by kernel_rfl) (by kernel_rfl) (by kernel_rfl) (by kernel_rfl) (fun _ _ _ h => h) (by kernel_rfl) ?_
      simp only [Act.put, List.setIfInBounds_toArray, List.set_cons_zero, List.set_cons_succ]
      refine wpR_skip (i := 20) (⟨fun _ => rfl, Eq.trans⟩) (some 63) rfl (by kernel_rfl) (by kernel_rfl) (by kernel_rfl) (by kernel_rfl) (by kernel_rfl) (fun _ _ _ h => h) (by kernel_rfl) ?_
      simp only [Act.put, List.setIfInBounds_toArray, List.set_cons_zero, List.set_cons_succ]
      refine wpR_skip (i := 21) (⟨fun _ => rfl, Eq.trans⟩) (some 64) rfl (by kernel_rfl) (by kernel_rfl) (by kernel_rfl) (by kernel_rfl) (by kernel_rfl) (fun _ _ _ h => h) (by kernel_rfl) ?_
      simp only [Act.put, List.setIfInBounds_toArray, List.set_cons_zero, List.set_cons_succ]
      refine wT (i := 22) (v := ?_) (⟨fun _ => rfl, Eq.trans⟩) (some 65) rfl (fun w' hw' => ?_) ?_
      rotate_left
      · go_simp; with_reducible rfl
      simp only [Act.put, List.setIfInBounds_toArray, List.set_cons_zero, List.set_cons_succ]
      refine wT (i := 23) (v := ?_) (⟨fun _ => rfl, Eq.trans⟩) (some 66) rfl (fun w' hw' => ?_) ?_
      rotate_left
      · go_simp; with_reducible rfl
      simp only [Act.put, List.setIfInBounds_toArray, List.set_cons_zero, List.set_cons_succ]
      refine wpR_skip (i := 24) (⟨fun _ => rfl, Eq.trans⟩) (some 67) rfl (by kernel_rfl) (by kernel_rfl) (by kernel_rfl) (by kernel_rfl) (by kernel_rfl) (fun _ _ _ h => h) (by kernel_rfl) ?_
      simp only [Act.put, List.setIfInBounds_toArray, List.set_cons_zero, List.set_cons_succ]
      refine wpR_skip (i := 25) (⟨fun _ => rfl, Eq.trans⟩) (some 68) rfl (by kernel_rfl) (by kernel_rfl) (by kernel_rfl) (by kernel_rfl) (by kernel_rfl) (fun _ _ _ h => h) (by kernel_rfl) ?_
      simp only [Act.put, List.setIfInBounds_toArray, List.set_cons_zero, List.set_cons_succ]
      refine wpR_skip (i := 26) (⟨fun _ => rfl, Eq.trans⟩) (some 69) rfl (by kernel_rfl) (by kernel_rfl) (by kernel_rfl) (by kernel_rfl) (by kernel_rfl) (fun _ _ _ h => h) (by kernel_rfl) ?_
      simp only [Act.put, List.setIfInBounds_toArray, List.set_cons_zero, List.set_cons_succ]
      refine wT (i := 27) (v := ?_) (⟨fun _ => rfl, Eq.trans⟩) (some 70) rfl (fun w' hw' => ?_) ?_
      rotate_left
      · go_simp; with_reducible rfl
      simp only [Act.put, List.setIfInBounds_toArray, List.set_cons_zero, List.set_cons_succ]
      refine wT (i := 28) (v := ?_) (⟨fun _ => rfl, Eq.trans⟩) (some 71) rfl (fun w' hw' => ?_) ?_
      rotate_left
      · go_simp; with_reducible rfl
      simp only [Act.put, List.setIfInBounds_toArray, List.set_cons_zero, List.set_cons_succ]
      refine wpR_skip (i := 29) (⟨fun _ => rfl, Eq.trans⟩) (some 72) rfl (by kernel_rfl) (by kernel_rfl) (by kernel_rfl) (by kernel_rfl) (by kernel_rfl) (fun _ _ _ h => h) (by kernel_rfl) ?_
      simp only [Act.put, List.setIfInBounds_toArray, List.set_cons_zero, List.set_cons_succ]
      refine wpR_skip (i := 30) (⟨fun _ => rfl, Eq.trans⟩) (some 73) rfl (by kernel_rfl) (by kernel_rfl) (by kernel_rfl) (by kernel_rfl) (by kernel_rfl) (fun _ _ _ h => h) (by kernel_rfl) ?_
      simp only [Act.put, List.setIfInBounds_toArray, List.set_cons_zero, List.set_cons_succ]
      refine wpR_skip (i := 31) (⟨fun _ => rfl, Eq.trans⟩) (some 74) rfl (by kernel_rfl) (by kernel_rfl) (by kernel_rfl) (by kernel_rfl) (by kernel_rfl) (fun _ _ _ h => h) (by kernel_rfl) ?_
      simp only [Act.put, List.setIfInBounds_toArray, List.set_cons_zero, List.set_cons_succ]
      refine wpR_skip (i := 32) (⟨fun _ => rfl, Eq.trans⟩) (some 75) rfl (by kernel_rfl) (by kernel_rfl) (by kernel_rfl) (by kernel_rfl) (by kernel_rfl) (fun _ _ _ h => h) (by kernel_rfl) ?_
      simp only [Act.put, List.setIfInBounds_toArray, List.set_cons_zero, List.set_cons_succ]
      refine wpR_skip (i := 33) (⟨fun _ => rfl, Eq.trans⟩) (some 76) rfl (by kernel_rfl) (by kernel_rfl) (by kernel_rfl) (by kernel_rfl) (by kernel_rfl) (fun _ _ _ h => h) (by kernel_rfl) ?_
      simp only [Act.put, List.setIfInBounds_toArray, List.set_cons_zero, List.set_cons_succ]
      refine wpR_skip (i := 34) (⟨fun _ => rfl, Eq.trans⟩) (some 77) rfl (by kernel_rfl) (by kernel_rfl) (by kernel_rfl) (by kernel_rfl) (by kernel_rfl) (fun _ _ _ h => h) (by kernel_rfl) ?_
      simp only [Act.put, List.setIfInBounds_toArray, List.set_cons_zero, List.set_cons_succ]
      refine wpR_skip (i := 35) (⟨fun _ => rfl, Eq.trans⟩) (some 78) rfl (by kernel_rfl) (by kernel_rfl) (by kernel_rfl) (by kernel_rfl) (by kernel_rfl) (fun _ _ _ h => h) (by kernel_rfl) ?_
      simp only [Act.put, List.setIfInBounds_toArray, List.set_cons_zero, List.set_cons_succ]
      refine wpR_skip (i := 36) (⟨fun _ => rfl, Eq.trans⟩) (some 79) rfl (by kernel_rfl) (by kernel_rfl) (by kernel_rfl) (by kernel_rfl) (by kernel_rfl) (fun _ _ _ h => h) (by kernel_rfl) ?_
      simp only [Act.put, List.setIfInBounds_toArray, List.set_cons_zero, List.set_cons_succ]
      refine wT (i := 37) (v := ?_) (⟨fun _ => rfl, Eq.trans⟩) (some 80) rfl (fun w' hw' => ?_) ?_
      rotate_left
      · go_simp; with_reducible rfl
      simp only [Act.put, List.setIfInBounds_toArray, List.set_cons_zero, List.set_cons_succ]
      refine wpR_done (by kernel_rfl) ?_ _
      clear hrc
      go_wp2_with fail
      go_ret
      exact ⟨rfl, hsm2.out⟩
    by_cases is1 : ns < 0
    · skip
      obtain rfl : rc = (12, c) := by rw [← hrc, if_pos (.inr (.inl (by unfold grp; rw [if_pos (.inl is1)])))]
      go_enter Tryz.func6, Tryz.ntmps6
      go_upto_region 9 with (fail)
      clear z0 z1 z2 z4 z6
      refine wpR_region (Eq) 9999 (by kernel_rfl) ?_
      (rw [← hwd]; replace hwd := Lib.hid hwd)
      refine wT (i := 0) (v := ?_) (⟨fun _ => rfl, Eq.trans⟩) (some 43) rfl (fun w' hw' => ?_) ?_
      rotate_left
      · go_simp; with_reducible rfl
      simp only [Act.put, List.setIfInBounds_toArray, List.set_cons_zero, List.set_cons_succ]
      refine wT (i := 1) (v := ?_) (⟨fun _ => rfl, Eq.trans⟩) (some 44) rfl (fun w' hw' => ?_) ?_
      rotate_left
      · subst hw'; go_simp; with_reducible rfl
      simp only [Act.put, List.setIfInBounds_toArray, List.set_cons_zero, List.set_cons_succ]
      refine wpR_one 2 rfl (by kernel_rfl) (by kernel_rfl) (fun K hK => ?_)
      go_simp
      refine (hnm.out _).mono ?_
      rintro e w' ⟨rfl, hww⟩
      rw [hww]
      clear hww w'
      refine hK _ _ (fun _ => rfl) ?_
      clear hK K
      clear hnm
      try simp only [Act.put, List.setIfInBounds_toArray, List.set_cons_zero, List.set_cons_succ]
      refine wT (i := 3) (v := ?_) (⟨fun _ => rfl, Eq.trans⟩) (some 46) rfl (fun w' hw' => ?_) ?_
      rotate_left
      · go_simp; with_reducible rfl
      simp only [Act.put, List.setIfInBounds_toArray, List.set_cons_zero, List.set_cons_succ]
      refine wT (i := 4) (v := ?_) (⟨fun _ => rfl, Eq.trans⟩) (some 47) rfl (fun w' hw' => ?_) ?_
      rotate_left
      · go_simp; with_reducible rfl
      simp only [Act.put, List.setIfInBounds_toArray, List.set_cons_zero, List.set_cons_succ]
      refine wT (i := 5) (v := ?_) (⟨fun _ => rfl, Eq.trans⟩) (some 48) rfl (fun w' hw' => ?_) ?_
      rotate_left
      · go_simp; with_reducible rfl
      simp only [Act.put, List.setIfInBounds_toArray, List.set_cons_zero, List.set_cons_succ]
      refine wT (i := 6) (v := ?_) (⟨fun _ => rfl, Eq.trans⟩) (some 49) rfl (fun w' hw' => ?_) ?_
      rotate_left
      · subst hw'; go_simp; with_reducible rfl
      simp only [Act.put, List.setIfInBounds_toArray, List.set_cons_zero, List.set_cons_succ]
      refine wT (i := 7) (v := ?_) (⟨fun _ => rfl, Eq.trans⟩) (some 50) rfl (fun w' hw' => ?_) ?_
      rotate_left
      · go_simp; with_reducible rfl
      simp only [Act.put, List.setIfInBounds_toArray, List.set_cons_zero, List.set_cons_succ]
      refine wT (i := 8) (v := ?_) (⟨fun _ => rfl, Eq.trans⟩) (some 51) rfl (fun w' hw' => ?_) ?_
      rotate_left
      · go_simp; with_reducible rfl
      simp only [Act.put, List.setIfInBounds_toArray, List.set_cons_zero, List.set_cons_succ]
      refine wT (i := 9) (v := ?_) (⟨fun _ => rfl, Eq.trans⟩) (some 52) rfl (fun w' hw' => ?_) ?_
      rotate_left
      · go_simp; with_reducible rfl
      simp only [Act.put, List.setIfInBounds_toArray, List.set_cons_zero, List.set_cons_succ]
      refine wT (i := 10) (v := ?_) (⟨fun _ => rfl, Eq.trans⟩) (some 53) rfl (fun w' hw' => ?_) ?_
      rotate_left
      · go_simp; with_reducible rfl
      simp only [Act.put, List.setIfInBounds_toArray, List.set_cons_zero, List.set_cons_succ]
      refine wT (i := 11) (v := ?_) (⟨fun _ => rfl, Eq.trans⟩) (some 54) rfl (fun w' hw' => ?_) ?_
      rotate_left
      · subst hw'; go_simp; with_reducible rfl
      simp only [Act.put, List.setIfInBounds_toArray, List.set_cons_zero, List.set_cons_succ]
      refine wT (i := 12) (v := ?_) (⟨fun _ => rfl, Eq.trans⟩) (some 55) rfl (fun w' hw' => ?_) ?_
      rotate_left
      · go_simp; with_reducible rfl
      simp only [Act.put, List.setIfInBounds_toArray, List.set_cons_zero, List.set_cons_succ]
      refine wT (i := 13) (v := ?_) (⟨fun _ => rfl, Eq.trans⟩) (some 56) rfl (fun w' hw' => ?_) ?_
      rotate_left
      · go_simp; with_reducible rfl
      simp only [Act.put, List.setIfInBounds_toArray, List.set_cons_zero, List.set_cons_succ]
      refine wT (i := 14) (v := ?_) (⟨fun _ => rfl, Eq.trans⟩) (some 57) rfl (fun w' hw' => ?_) ?_
      rotate_left
      · go_simp; with_reducible rfl
      simp only [Act.put, List.setIfInBounds_toArray, List.set_cons_zero, List.set_cons_succ]
      refine wT (i := 15) (v := ?_) (⟨fun _ => rfl, Eq.trans⟩) (some 58) rfl (fun w' hw' => ?_) ?_
      rotate_left
      · subst hw'; go_simp; with_reducible rfl
      simp only [Act.put, List.setIfInBounds_toArray, List.set_cons_zero, List.set_cons_succ]
      refine wT (i := 16) (v := ?_) (⟨fun _ => rfl, Eq.trans⟩) (some 59) rfl (fun w' hw' => ?_) ?_
      rotate_left
      · go_simp; with_reducible rfl
      simp only [Act.put, List.setIfInBounds_toArray, List.set_cons_zero, List.set_cons_succ]
      refine wT (i := 17) (v := ?_) (⟨fun _ => rfl, Eq.trans⟩) (some 60) rfl (fun w' hw' => ?_) ?_
      rotate_left
      · go_simp; with_reducible rfl
      simp only [Act.put, List.setIfInBounds_toArray, List.set_cons_zero, List.set_cons_succ]
      refine wT (i := 18) (v := ?_) (⟨fun _ => rfl, Eq.trans⟩) (some 61) rfl (fun w' hw' => ?_) ?_
      rotate_left
      · go_simp; with_reducible rfl
      simp only [Act.put, List.setIfInBounds_toArray, List.set_cons_zero, List.set_cons_succ]
      refine wT (i := 19) (v := ?_) (⟨fun _ => rfl, Eq.trans⟩) (some 62) rfl (fun w' hw' => ?_) ?_
      rotate_left
      · go_simp; with_reducible rfl
      simp only [Act.put, List.setIfInBounds_toArray, List.set_cons_zero, List.set_cons_succ]
      refine wT (i := 20) (v := ?_) (⟨fun _ => rfl, Eq.trans⟩) (some 63) rfl (fun w' hw' => ?_) ?_
      rotate_left
      · subst hw'; go_simp; with_reducible rfl
      simp only [Act.put, List.setIfInBounds_toArray, List.set_cons_zero, List.set_cons_succ]
      refine wT (i := 21) (v := ?_) (⟨fun _ => rfl, Eq.trans⟩) (some 64) rfl (fun w' hw' => ?_) ?_
      rotate_left
      · go_simp; with_reducible rfl
      simp only [Act.put, List.setIfInBounds_toArray, List.set_cons_zero, List.set_cons_succ]
      refine wT (i := 22) (v := ?_) (⟨fun _ => rfl, Eq.trans⟩) (some 65) rfl (fun w' hw' => ?_) ?_
      rotate_left
      · go_simp; with_reducible rfl
      simp only [Act.put, List.setIfInBounds_toArray, List.set_cons_zero, List.set_cons_succ]
      refine wT (i := 23) (v := ?_) (⟨fun _ => rfl, Eq.trans⟩) (some 66) rfl (fun w' hw' => ?_) ?_
      rotate_left
      · go_simp; with_reducible rfl
      simp only [Act.put, List.setIfInBounds_toArray, List.set_cons_zero, List.set_cons_succ]
      refine wpR_skip (i := 24) (⟨fun _ => rfl, Eq.trans⟩) (some 67) rfl (by kernel_rfl) (by kernel_rfl) (by kernel_rfl) (by kernel_rfl) (by kernel_rfl) (fun _ _ _ h => h) (by kernel_rfl) ?_
      simp only [Act.put, List.setIfInBounds_toArray, List.set_cons_zero, List.set_cons_succ]
      refine wpR_skip (i := 25) (⟨fun _ => rfl, Eq.trans⟩) (some 68) rfl (by kernel_rfl) (by kernel_rfl) (by kernel_rfl) (by kernel_rfl) (by kernel_rfl) (fun _ _ _ h => h) (by kernel_rfl) ?_
      simp only [Act.put, List.setIfInBounds_toArray, List.set_cons_zero, List.set_cons_succ]
      refine wpR_skip (i := 26) (⟨fun _ => rfl, Eq.trans⟩) (some 69) rfl (by kernel_rfl) (by kernel_rfl) (by kernel_rfl) (by kernel_rfl) (by kernel_rfl) (fun _ _ _ h => h) (by kernel_rfl) ?_
      simp only [Act.put, List.setIfInBounds_toArray, List.set_cons_zero, List.set_cons_succ]
      refine wT (i := 27) (v := ?_) (⟨fun _ => rfl, Eq.trans⟩) (some 70) rfl (fun w' hw' => ?_) ?_
      rotate_left
      · go_simp; with_reducible rfl
      simp only [Act.put, List.setIfInBounds_toArray, List.set_cons_zero, List.set_cons_succ]
      refine wT (i := 28) (v := ?_) (⟨fun _ => rfl, Eq.trans⟩) (some 71) rfl (fun w' hw' => ?_) ?_
      rotate_left
      · go_simp; with_reducible rfl
      simp only [Act.put, List.setIfInBounds_toArray, List.set_cons_zero, List.set_cons_succ]
      refine wpR_skip (i := 29) (⟨fun _ => rfl, Eq.trans⟩) (some 72) rfl (by kernel_rfl) (by kernel_rfl) (by kernel_rfl) (by kernel_rfl) (by kernel_rfl) (fun _ _ _ h => h) (by kernel_rfl) ?_
      simp only [Act.put, List.setIfInBounds_toArray, List.set_cons_zero, List.set_cons_succ]
      refine wpR_skip (i := 30) (⟨fun _ => rfl, Eq.trans⟩) (some 73) rfl (by kernel_rfl) (by kernel_rfl) (by kernel_rfl) (by kernel_rfl) (by kernel_rfl) (fun _ _ _ h => h) (by kernel_rfl) ?_
      simp only [Act.put, List.setIfInBounds_toArray, List.set_cons_zero, List.set_cons_succ]
      refine wpR_skip (i := 31) (⟨fun _ => rfl, Eq.trans⟩) (some 74) rfl (by kernel_rfl) (by kernel_rfl) (by kernel_rfl) (by kernel_rfl) (by kernel_rfl) (fun _ _ _ h => h) (by kernel_rfl) ?_
      simp only [Act.put, List.setIfInBounds_toArray, List.set_cons_zero, List.set_cons_succ]
      refine wpR_skip (i := 32) (⟨fun _ => rfl, Eq.trans⟩) (some 75) rfl (by kernel_rfl) (by kernel_rfl) (by kernel_rfl) (by kernel_rfl) (by kernel_rfl) (fun _ _ _ h => h) (by kernel_rfl) ?_
      simp only [Act.put, List.setIfInBounds_toArray, List.set_cons_zero, List.set_cons_succ]
      refine wpR_skip (i := 33) (⟨fun _ => rfl, Eq.trans⟩) (some 76) rfl (by kernel_rfl) (by kernel_rfl) (by kernel_rfl) (by kernel_rfl) (by kernel_rfl) (fun _ _ _ h => h) (by kernel_rfl) ?_
      simp only [Act.put, List.setIfInBounds_toArray, List.set_cons_zero, List.set_cons_succ]
      refine wpR_skip (i := 34) (⟨fun _ => rfl, Eq.trans⟩) (some 77) rfl (by kernel_rfl) (by kernel_rfl) (by kernel_rfl) (by kernel_rfl) (by kernel_rfl) (fun _ _ _ h => h) (by kernel_rfl) ?_
      simp only [Act.put, List.setIfInBounds_toArray, List.set_cons_zero, List.set_cons_succ]
      refine wpR_skip (i := 35) (⟨fun _ => rfl, Eq.trans⟩) (some 78) rfl (by kernel_rfl) (by kernel_rfl) (by kernel_rfl) (by kernel_rfl) (by kernel_rfl) (fun _ _ _ h => h) (by kernel_rfl) ?_
      simp only [Act.put, List.setIfInBounds_toArray, List.set_cons_zero, List.set_cons_succ]
      refine wpR_skip (i := 36) (⟨fun _ => rfl, Eq.trans⟩) (some 79) rfl (by kernel_rfl) (by kernel_rfl) (by kernel_rfl) (by kernel_rfl) (by kernel_rfl) (fun _ _ _ h => h) (by kernel_rfl) ?_
      simp only [Act.put, List.setIfInBounds_toArray, List.set_cons_zero, List.set_cons_succ]
      refine wT (i := 37) (v := ?_) (⟨fun _ => rfl, Eq.trans⟩) (some 80) rfl (fun w' hw' => ?_) ?_
      rotate_left
      · go_simp; with_reducible rfl
      simp only [Act.put, List.setIfInBounds_toArray, List.set_cons_zero, List.set_cons_succ]
      refine wpR_done (by kernel_rfl) ?_ _
      clear hrc
      go_wp2_with fail
      go_ret
      exact ⟨rfl, hsm2.out⟩
    by_cases is2 : 512 < ns
    · skip
      obtain rfl : rc = (12, c) := by rw [← hrc, if_pos (.inr (.inl (by unfold grp; rw [if_pos (.inr is2)])))]
      go_enter Tryz.func6, Tryz.ntmps6
      go_upto_region 9 with (fail)
      clear z0 z1 z2 z4 z6
      refine wpR_region (Eq) 9999 (by kernel_rfl) ?_
      (rw [← hwd]; replace hwd := Lib.hid hwd)
      refine wT (i := 0) (v := ?_) (⟨fun _ => rfl, Eq.trans⟩) (some 43) rfl (fun w' hw' => ?_) ?_
      rotate_left
      · go_simp; with_reducible rfl
      simp only [Act.put, List.setIfInBounds_toArray, List.set_cons_zero, List.set_cons_succ]
      refine wT (i := 1) (v := ?_) (⟨fun _ => rfl, Eq.trans⟩) (some 44) rfl (fun w' hw' => ?_) ?_
      rotate_left
      · subst hw'; go_simp; with_reducible rfl
      simp only [Act.put, List.setIfInBounds_toArray, List.set_cons_zero, List.set_cons_succ]
      refine wpR_one 2 rfl (by kernel_rfl) (by kernel_rfl) (fun K hK => ?_)
      go_simp
      refine (hnm.out _).mono ?_
      rintro e w' ⟨rfl, hww⟩
      rw [hww]
      clear hww w'
      refine hK _ _ (fun _ => rfl) ?_
      clear hK K
      clear hnm
      try simp only [Act.put, List.setIfInBounds_toArray, List.set_cons_zero, List.set_cons_succ]
      refine wT (i := 3) (v := ?_) (⟨fun _ => rfl, Eq.trans⟩) (some 46) rfl (fun w' hw' => ?_) ?_
      rotate_left
      · go_simp; with_reducible rfl
      simp only [Act.put, List.setIfInBounds_toArray, List.set_cons_zero, List.set_cons_succ]
      refine wT (i := 4) (v := ?_) (⟨fun _ => rfl, Eq.trans⟩) (some 47) rfl (fun w' hw' => ?_) ?_
      rotate_left
      · go_simp; with_reducible rfl
      simp only [Act.put, List.setIfInBounds_toArray, List.set_cons_zero, List.set_cons_succ]
      refine wT (i := 5) (v := ?_) (⟨fun _ => rfl, Eq.trans⟩) (some 48) rfl (fun w' hw' => ?_) ?_
      rotate_left
      · go_simp; with_reducible rfl
      simp only [Act.put, List.setIfInBounds_toArray, List.set_cons_zero, List.set_cons_succ]
      refine wT (i := 6) (v := ?_) (⟨fun _ => rfl, Eq.trans⟩) (some 49) rfl (fun w' hw' => ?_) ?_
      rotate_left
      · subst hw'; go_simp; with_reducible rfl
      simp only [Act.put, List.setIfInBounds_toArray, List.set_cons_zero, List.set_cons_succ]
      refine wT (i := 7) (v := ?_) (⟨fun _ => rfl, Eq.trans⟩) (some 50) rfl (fun w' hw' => ?_) ?_
      rotate_left
      · go_simp; with_reducible rfl
      simp only [Act.put, List.setIfInBounds_toArray, List.set_cons_zero, List.set_cons_succ]
      refine wT (i := 8) (v := ?_) (⟨fun _ => rfl, Eq.trans⟩) (some 51) rfl (fun w' hw' => ?_) ?_
      rotate_left
      · go_simp; with_reducible rfl
      simp only [Act.put, List.setIfInBounds_toArray, List.set_cons_zero, List.set_cons_succ]
      refine wT (i := 9) (v := ?_) (⟨fun _ => rfl, Eq.trans⟩) (some 52) rfl (fun w' hw' => ?_) ?_
      rotate_left
      · go_simp; with_reducible rfl
      simp only [Act.put, List.setIfInBounds_toArray, List.set_cons_zero, List.set_cons_succ]
      refine wT (i := 10) (v := ?_) (⟨fun _ => rfl, Eq.trans⟩) (some 53) rfl (fun w' hw' => ?_) ?_
      rotate_left
      · go_simp; with_reducible rfl
      simp only [Act.put, List.setIfInBounds_toArray, List.set_cons_zero, List.set_cons_succ]
      refine wT (i := 11) (v := ?_) (⟨fun _ => rfl, Eq.trans⟩) (some 54) rfl (fun w' hw' => ?_) ?_
      rotate_left
      · subst hw'; go_simp; with_reducible rfl
      simp only [Act.put, List.setIfInBounds_toArray, List.set_cons_zero, List.set_cons_succ]
      refine wT (i := 12) (v := ?_) (⟨fun _ => rfl, Eq.trans⟩) (some 55) rfl (fun w' hw' => ?_) ?_
      rotate_left
      · go_simp; with_reducible rfl
      simp only [Act.put, List.setIfInBounds_toArray, List.set_cons_zero, List.set_cons_succ]
      refine wT (i := 13) (v := ?_) (⟨fun _ => rfl, Eq.trans⟩) (some 56) rfl (fun w' hw' => ?_) ?_
      rotate_left
      · go_simp; with_reducible rfl
      simp only [Act.put, List.setIfInBounds_toArray, List.set_cons_zero, List.set_cons_succ]
      refine wT (i := 14) (v := ?_) (⟨fun _ => rfl, Eq.trans⟩) (some 57) rfl (fun w' hw' => ?_) ?_
      rotate_left
      · go_simp; with_reducible rfl
      simp only [Act.put, List.setIfInBounds_toArray, List.set_cons_zero, List.set_cons_succ]
      refine wT (i := 15) (v := ?_) (⟨fun _ => rfl, Eq.trans⟩) (some 58) rfl (fun w' hw' => ?_) ?_
      rotate_left
      · subst hw'; go_simp; with_reducible rfl
      simp only [Act.put, List.setIfInBounds_toArray, List.set_cons_zero, List.set_cons_succ]
      refine wT (i := 16) (v := ?_) (⟨fun _ => rfl, Eq.trans⟩) (some 59) rfl (fun w' hw' => ?_) ?_
      rotate_left
      · go_simp; with_reducible rfl
      simp only [Act.put, List.setIfInBounds_toArray, List.set_cons_zero, List.set_cons_succ]
      refine wT (i := 17) (v := ?_) (⟨fun _ => rfl, Eq.trans⟩) (some 60) rfl (fun w' hw' => ?_) ?_
      rotate_left
      · go_simp; with_reducible rfl
      simp only [Act.put, List.setIfInBounds_toArray, List.set_cons_zero, List.set_cons_succ]
      refine wT (i := 18) (v := ?_) (⟨fun _ => rfl, Eq.trans⟩) (some 61) rfl (fun w' hw' => ?_) ?_
      rotate_left
      · go_simp; with_reducible rfl
      simp only [Act.put, List.setIfInBounds_toArray, List.set_cons_zero, List.set_cons_succ]
      refine wT (i := 19) (v := ?_) (⟨fun _ => rfl, Eq.trans⟩) (some 62) rfl (fun w' hw' => ?_) ?_
      rotate_left
      · go_simp; with_reducible rfl
      simp only [Act.put, List.setIfInBounds_toArray, List.set_cons_zero, List.set_cons_succ]
      refine wT (i := 20) (v := ?_) (⟨fun _ => rfl, Eq.trans⟩) (some 63) rfl (fun w' hw' => ?_) ?_
      rotate_left
      · subst hw'; go_simp; with_reducible rfl
      simp only [Act.put, List.setIfInBounds_toArray, List.set_cons_zero, List.set_cons_succ]
      refine wT (i := 21) (v := ?_) (⟨fun _ => rfl, Eq.trans⟩) (some 64) rfl (fun w' hw' => ?_) ?_
      rotate_left
      · go_simp; with_reducible rfl
      simp only [Act.put, List.setIfInBounds_toArray, List.set_cons_zero, List.set_cons_succ]
      refine wT (i := 22) (v := ?_) (⟨fun _ => rfl, Eq.trans⟩) (some 65) rfl (fun w' hw' => ?_) ?_
      rotate_left
      · go_simp; with_reducible rfl
      simp only [Act.put, List.setIfInBounds_toArray, List.set_cons_zero, List.set_cons_succ]
      refine wT (i := 23) (v := ?_) (⟨fun _ => rfl, Eq.trans⟩) (some 66) rfl (fun w' hw' => ?_) ?_
      rotate_left
      · go_simp; with_reducible rfl
      simp only [Act.put, List.setIfInBounds_toArray, List.set_cons_zero, List.set_cons_succ]
      refine wT (i := 24) (v := ?_) (⟨fun _ => rfl, Eq.trans⟩) (some 67) rfl (fun w' hw' => ?_) ?_
      rotate_left
      · go_simp; with_reducible rfl
      simp only [Act.put, List.setIfInBounds_toArray, List.set_cons_zero, List.set_cons_succ]
      refine wT (i := 25) (v := ?_) (⟨fun _ => rfl, Eq.trans⟩) (some 68) rfl (fun w' hw' => ?_) ?_
      rotate_left
      · subst hw'; go_simp; with_reducible rfl
      simp only [Act.put, List.setIfInBounds_toArray, List.set_cons_zero, List.set_cons_succ]
      refine wT (i := 26) (v := ?_) (⟨fun _ => rfl, Eq.trans⟩) (some 69) rfl (fun w' hw' => ?_) ?_
      rotate_left
      · go_simp; with_reducible rfl
      simp only [Act.put, List.setIfInBounds_toArray, List.set_cons_zero, List.set_cons_succ]
      refine wT (i := 27) (v := ?_) (⟨fun _ => rfl, Eq.trans⟩) (some 70) rfl (fun w' hw' => ?_) ?_
      rotate_left
      · go_simp; with_reducible rfl
      simp only [Act.put, List.setIfInBounds_toArray, List.set_cons_zero, List.set_cons_succ]
      refine wT (i := 28) (v := ?_) (⟨fun _ => rfl, Eq.trans⟩) (some 71) rfl (fun w' hw' => ?_) ?_
      rotate_left
      · go_simp; with_reducible rfl
      simp only [Act.put, List.setIfInBounds_toArray, List.set_cons_zero, List.set_cons_succ]
      refine wpR_skip (i := 29) (⟨fun _ => rfl, Eq.trans⟩) (some 72) rfl (by kernel_rfl) (by kernel_rfl) (by kernel_rfl) (by kernel_rfl) (by kernel_rfl) (fun _ _ _ h => h) (by kernel_rfl) ?_
      simp only [Act.put, List.setIfInBounds_toArray, List.set_cons_zero, List.set_cons_succ]
      refine wpR_skip (i := 30) (⟨fun _ => rfl, Eq.trans⟩) (some 73) rfl (by kernel_rfl) (by kernel_rfl) (by kernel_rfl) (by kernel_rfl) (by kernel_rfl) (fun _ _ _ h => h) (by kernel_rfl) ?_
      simp only [Act.put, List.setIfInBounds_toArray, List.set_cons_zero, List.set_cons_succ]
      refine wpR_skip (i := 31) (⟨fun _ => rfl, Eq.trans⟩) (some 74) rfl (by kernel_rfl) (by kernel_rfl) (by kernel_rfl) (by kernel_rfl) (by kernel_rfl) (fun _ _ _ h => h) (by kernel_rfl) ?_
      simp only [Act.put, List.setIfInBounds_toArray, List.set_cons_zero, List.set_cons_succ]
      refine wpR_skip (i := 32) (⟨fun _ => rfl, Eq.trans⟩) (some 75) rfl (by kernel_rfl) (by kernel_rfl) (by kernel_rfl) (by kernel_rfl) (by kernel_rfl) (fun _ _ _ h => h) (by kernel_rfl) ?_
      simp only [Act.put, List.setIfInBounds_toArray, List.set_cons_zero, List.set_cons_succ]
      refine wpR_skip (i := 33) (⟨fun _ => rfl, Eq.trans⟩) (some 76) rfl (by kernel_rfl) (by kernel_rfl) (by kernel_rfl) (by kernel_rfl) (by kernel_rfl) (fun _ _ _ h => h) (by kernel_rfl) ?_
      simp only [Act.put, List.setIfInBounds_toArray, List.set_cons_zero, List.set_cons_succ]
      refine wpR_skip (i := 34) (⟨fun _ => rfl, Eq.trans⟩) (some 77) rfl (by kernel_rfl) (by kernel_rfl) (by kernel_rfl) (by kernel_rfl) (by kernel_rfl) (fun _ _ _ h => h) (by kernel_rfl) ?_
      simp only [Act.put, List.setIfInBounds_toArray, List.set_cons_zero, List.set_cons_succ]
      refine wpR_skip (i := 35) (⟨fun _ => rfl, Eq.trans⟩) (some 78) rfl (by kernel_rfl) (by kernel_rfl) (by kernel_rfl) (by kernel_rfl) (by kernel_rfl) (fun _ _ _ h => h) (by kernel_rfl) ?_
      simp only [Act.put, List.setIfInBounds_toArray, List.set_cons_zero, List.set_cons_succ]
      refine wpR_skip (i := 36) (⟨fun _ => rfl, Eq.trans⟩) (some 79) rfl (by kernel_rfl) (by kernel_rfl) (by kernel_rfl) (by kernel_rfl) (by kernel_rfl) (fun _ _ _ h => h) (by kernel_rfl) ?_
      simp only [Act.put, List.setIfInBounds_toArray, List.set_cons_zero, List.set_cons_succ]
      refine wT (i := 37) (v := ?_) (⟨fun _ => rfl, Eq.trans⟩) (some 80) rfl (fun w' hw' => ?_) ?_
      rotate_left
      · go_simp; with_reducible rfl
      simp only [Act.put, List.setIfInBounds_toArray, List.set_cons_zero, List.set_cons_succ]
      refine wpR_done (by kernel_rfl) ?_ _
      clear hrc
      go_wp2_with fail
      go_ret
      exact ⟨rfl, hsm2.out⟩
    obtain ⟨z, rfl⟩ := Int.eq_ofNat_of_zero_le (show 0 ≤ ns by omega)
    have hz5 : z ≤ 512 := by omega
    obtain ⟨r, hr⟩ : ∃ r, max 1 ((z + 127) / 128) = r := ⟨_, rfl⟩
    have hgz : grp (z : Int) = r := by unfold grp; rw [if_neg (by omega)]; exact hr
    have hr5 : 1 ≤ r ∧ r ≤ 4 := by omega
    have hgrp : Hid (∀ y, Calls Tryz.prog 22 #[.int .i64 z] y fun e w' => e = .returned (.int .i64 r) ∧ w' = y) := Lib.hid (fun y => by have := cgroups_nat z hz5 y; rw [hr] at this; exact this)
    obtain ⟨q, hq⟩ : ∃ q, 10 * r = q := ⟨_, rfl⟩
    have hmul : IntKind.i64.wrap (10 * (r : Int)) = (q : Int) := by rw [i64_wrap_id (by omega) (by omega)]; omega
    have hnn : Hid (c.named ny ng = true) := Lib.hid ((hnd.out _ hko).mpr ⟨rfl, by omega, by omega⟩)
    replace hgz := Lib.hid hgz
    replace hr := Lib.hid hr
    have hq5 : q ≤ 40 := by omega
    replace hq := Lib.hid hq
    by_cases hlq : lp = q
    · rw [if_neg (by rw [hnn.out, hgz.out, hlp.out]; rintro (e | e | e); · cases e
                     · omega
                     · exact e (by rw [hlq, hq.out]))] at hrc
      subst hlq
      go_enter Tryz.func6, Tryz.ntmps6
      go_upto_region 9 with (fail)
      clear z0 z1 z2 z4 z6
      refine wpR_region (Eq) 9999 (by kernel_rfl) ?_
      (rw [← hwd]; replace hwd := Lib.hid hwd)
      refine wT (i := 0) (v := ?_) (⟨fun _ => rfl, Eq.trans⟩) (some 43) rfl (fun w' hw' => ?_) ?_
      rotate_left
      · go_simp; with_reducible rfl
      simp only [Act.put, List.setIfInBounds_toArray, List.set_cons_zero, List.set_cons_succ]
      refine wT (i := 1) (v := ?_) (⟨fun _ => rfl, Eq.trans⟩) (some 44) rfl (fun w' hw' => ?_) ?_
      rotate_left
      · subst hw'; go_simp; with_reducible rfl
      simp only [Act.put, List.setIfInBounds_toArray, List.set_cons_zero, List.set_cons_succ]
      refine wpR_one 2 rfl (by kernel_rfl) (by kernel_rfl) (fun K hK => ?_)
      go_simp
      refine (hnm.out _).mono ?_
      rintro e w' ⟨rfl, hww⟩
      rw [hww]
      clear hww w'
      refine hK _ _ (fun _ => rfl) ?_
      clear hK K
      clear hnm
      try simp only [Act.put, List.setIfInBounds_toArray, List.set_cons_zero, List.set_cons_succ]
      refine wT (i := 3) (v := ?_) (⟨fun _ => rfl, Eq.trans⟩) (some 46) rfl (fun w' hw' => ?_) ?_
      rotate_left
      · go_simp; with_reducible rfl
      simp only [Act.put, List.setIfInBounds_toArray, List.set_cons_zero, List.set_cons_succ]
      refine wT (i := 4) (v := ?_) (⟨fun _ => rfl, Eq.trans⟩) (some 47) rfl (fun w' hw' => ?_) ?_
      rotate_left
      · go_simp; with_reducible rfl
      simp only [Act.put, List.setIfInBounds_toArray, List.set_cons_zero, List.set_cons_succ]
      refine wT (i := 5) (v := ?_) (⟨fun _ => rfl, Eq.trans⟩) (some 48) rfl (fun w' hw' => ?_) ?_
      rotate_left
      · go_simp; with_reducible rfl
      simp only [Act.put, List.setIfInBounds_toArray, List.set_cons_zero, List.set_cons_succ]
      refine wT (i := 6) (v := ?_) (⟨fun _ => rfl, Eq.trans⟩) (some 49) rfl (fun w' hw' => ?_) ?_
      rotate_left
      · subst hw'; go_simp; with_reducible rfl
      simp only [Act.put, List.setIfInBounds_toArray, List.set_cons_zero, List.set_cons_succ]
      refine wT (i := 7) (v := ?_) (⟨fun _ => rfl, Eq.trans⟩) (some 50) rfl (fun w' hw' => ?_) ?_
      rotate_left
      · go_simp; with_reducible rfl
      simp only [Act.put, List.setIfInBounds_toArray, List.set_cons_zero, List.set_cons_succ]
      refine wT (i := 8) (v := ?_) (⟨fun _ => rfl, Eq.trans⟩) (some 51) rfl (fun w' hw' => ?_) ?_
      rotate_left
      · go_simp; with_reducible rfl
      simp only [Act.put, List.setIfInBounds_toArray, List.set_cons_zero, List.set_cons_succ]
      refine wT (i := 9) (v := ?_) (⟨fun _ => rfl, Eq.trans⟩) (some 52) rfl (fun w' hw' => ?_) ?_
      rotate_left
      · go_simp; with_reducible rfl
      simp only [Act.put, List.setIfInBounds_toArray, List.set_cons_zero, List.set_cons_succ]
      refine wT (i := 10) (v := ?_) (⟨fun _ => rfl, Eq.trans⟩) (some 53) rfl (fun w' hw' => ?_) ?_
      rotate_left
      · go_simp; with_reducible rfl
      simp only [Act.put, List.setIfInBounds_toArray, List.set_cons_zero, List.set_cons_succ]
      refine wT (i := 11) (v := ?_) (⟨fun _ => rfl, Eq.trans⟩) (some 54) rfl (fun w' hw' => ?_) ?_
      rotate_left
      · subst hw'; go_simp; with_reducible rfl
      simp only [Act.put, List.setIfInBounds_toArray, List.set_cons_zero, List.set_cons_succ]
      refine wT (i := 12) (v := ?_) (⟨fun _ => rfl, Eq.trans⟩) (some 55) rfl (fun w' hw' => ?_) ?_
      rotate_left
      · go_simp; with_reducible rfl
      simp only [Act.put, List.setIfInBounds_toArray, List.set_cons_zero, List.set_cons_succ]
      refine wT (i := 13) (v := ?_) (⟨fun _ => rfl, Eq.trans⟩) (some 56) rfl (fun w' hw' => ?_) ?_
      rotate_left
      · go_simp; with_reducible rfl
      simp only [Act.put, List.setIfInBounds_toArray, List.set_cons_zero, List.set_cons_succ]
      refine wT (i := 14) (v := ?_) (⟨fun _ => rfl, Eq.trans⟩) (some 57) rfl (fun w' hw' => ?_) ?_
      rotate_left
      · go_simp; with_reducible rfl
      simp only [Act.put, List.setIfInBounds_toArray, List.set_cons_zero, List.set_cons_succ]
      refine wT (i := 15) (v := ?_) (⟨fun _ => rfl, Eq.trans⟩) (some 58) rfl (fun w' hw' => ?_) ?_
      rotate_left
      · subst hw'; go_simp; with_reducible rfl
      simp only [Act.put, List.setIfInBounds_toArray, List.set_cons_zero, List.set_cons_succ]
      refine wT (i := 16) (v := ?_) (⟨fun _ => rfl, Eq.trans⟩) (some 59) rfl (fun w' hw' => ?_) ?_
      rotate_left
      · go_simp; with_reducible rfl
      simp only [Act.put, List.setIfInBounds_toArray, List.set_cons_zero, List.set_cons_succ]
      refine wT (i := 17) (v := ?_) (⟨fun _ => rfl, Eq.trans⟩) (some 60) rfl (fun w' hw' => ?_) ?_
      rotate_left
      · go_simp; with_reducible rfl
      simp only [Act.put, List.setIfInBounds_toArray, List.set_cons_zero, List.set_cons_succ]
      refine wT (i := 18) (v := ?_) (⟨fun _ => rfl, Eq.trans⟩) (some 61) rfl (fun w' hw' => ?_) ?_
      rotate_left
      · go_simp; with_reducible rfl
      simp only [Act.put, List.setIfInBounds_toArray, List.set_cons_zero, List.set_cons_succ]
      refine wT (i := 19) (v := ?_) (⟨fun _ => rfl, Eq.trans⟩) (some 62) rfl (fun w' hw' => ?_) ?_
      rotate_left
      · go_simp; with_reducible rfl
      simp only [Act.put, List.setIfInBounds_toArray, List.set_cons_zero, List.set_cons_succ]
      refine wT (i := 20) (v := ?_) (⟨fun _ => rfl, Eq.trans⟩) (some 63) rfl (fun w' hw' => ?_) ?_
      rotate_left
      · subst hw'; go_simp; with_reducible rfl
      simp only [Act.put, List.setIfInBounds_toArray, List.set_cons_zero, List.set_cons_succ]
      refine wT (i := 21) (v := ?_) (⟨fun _ => rfl, Eq.trans⟩) (some 64) rfl (fun w' hw' => ?_) ?_
      rotate_left
      · go_simp; with_reducible rfl
      simp only [Act.put, List.setIfInBounds_toArray, List.set_cons_zero, List.set_cons_succ]
      refine wT (i := 22) (v := ?_) (⟨fun _ => rfl, Eq.trans⟩) (some 65) rfl (fun w' hw' => ?_) ?_
      rotate_left
      · go_simp; with_reducible rfl
      simp only [Act.put, List.setIfInBounds_toArray, List.set_cons_zero, List.set_cons_succ]
      refine wT (i := 23) (v := ?_) (⟨fun _ => rfl, Eq.trans⟩) (some 66) rfl (fun w' hw' => ?_) ?_
      rotate_left
      · go_simp; with_reducible rfl
      simp only [Act.put, List.setIfInBounds_toArray, List.set_cons_zero, List.set_cons_succ]
      refine wT (i := 24) (v := ?_) (⟨fun _ => rfl, Eq.trans⟩) (some 67) rfl (fun w' hw' => ?_) ?_
      rotate_left
      · go_simp; with_reducible rfl
      simp only [Act.put, List.setIfInBounds_toArray, List.set_cons_zero, List.set_cons_succ]
      refine wT (i := 25) (v := ?_) (⟨fun _ => rfl, Eq.trans⟩) (some 68) rfl (fun w' hw' => ?_) ?_
      rotate_left
      · subst hw'; go_simp; with_reducible rfl
      simp only [Act.put, List.setIfInBounds_toArray, List.set_cons_zero, List.set_cons_succ]
      refine wT (i := 26) (v := ?_) (⟨fun _ => rfl, Eq.trans⟩) (some 69) rfl (fun w' hw' => ?_) ?_
      rotate_left
      · go_simp; with_reducible rfl
      simp only [Act.put, List.setIfInBounds_toArray, List.set_cons_zero, List.set_cons_succ]
      refine wT (i := 27) (v := ?_) (⟨fun _ => rfl, Eq.trans⟩) (some 70) rfl (fun w' hw' => ?_) ?_
      rotate_left
      · go_simp; with_reducible rfl
      simp only [Act.put, List.setIfInBounds_toArray, List.set_cons_zero, List.set_cons_succ]
      refine wT (i := 28) (v := ?_) (⟨fun _ => rfl, Eq.trans⟩) (some 71) rfl (fun w' hw' => ?_) ?_
      rotate_left
      · go_simp; with_reducible rfl
      simp only [Act.put, List.setIfInBounds_toArray, List.set_cons_zero, List.set_cons_succ]
      refine wT (i := 29) (v := ?_) (⟨fun _ => rfl, Eq.trans⟩) (some 72) rfl (fun w' hw' => ?_) ?_
      rotate_left
      · go_simp; with_reducible rfl
      simp only [Act.put, List.setIfInBounds_toArray, List.set_cons_zero, List.set_cons_succ]
      refine wT (i := 30) (v := ?_) (⟨fun _ => rfl, Eq.trans⟩) (some 73) rfl (fun w' hw' => ?_) ?_
      rotate_left
      · subst hw'; go_simp; with_reducible rfl
      simp only [Act.put, List.setIfInBounds_toArray, List.set_cons_zero, List.set_cons_succ]
      refine wT (i := 31) (v := ?_) (⟨fun _ => rfl, Eq.trans⟩) (some 74) rfl (fun w' hw' => ?_) ?_
      rotate_left
      · go_simp; with_reducible rfl
      simp only [Act.put, List.setIfInBounds_toArray, List.set_cons_zero, List.set_cons_succ]
      refine wT (i := 32) (v := ?_) (⟨fun _ => rfl, Eq.trans⟩) (some 75) rfl (fun w' hw' => ?_) ?_
      rotate_left
      · go_simp; with_reducible rfl
      simp only [Act.put, List.setIfInBounds_toArray, List.set_cons_zero, List.set_cons_succ]
      refine wT (i := 33) (v := ?_) (⟨fun _ => rfl, Eq.trans⟩) (some 76) rfl (fun w' hw' => ?_) ?_
      rotate_left
      · subst hw'; go_simp; with_reducible rfl
      simp only [Act.put, List.setIfInBounds_toArray, List.set_cons_zero, List.set_cons_succ]
      refine wpR_one 34 rfl (by kernel_rfl) (by kernel_rfl) (fun K hK => ?_)
      go_simp
      refine (hgrp.out _).mono ?_
      rintro e w' ⟨rfl, hww⟩
      rw [hww]
      clear hww w'
      refine hK _ _ (fun _ => rfl) ?_
      clear hK K
      clear hgrp
      try simp only [Act.put, List.setIfInBounds_toArray, List.set_cons_zero, List.set_cons_succ]
      refine wT (i := 35) (v := ?_) (⟨fun _ => rfl, Eq.trans⟩) (some 78) rfl (fun w' hw' => ?_) ?_
      rotate_left
      · go_simp; with_reducible rfl
      simp only [Act.put, List.setIfInBounds_toArray, List.set_cons_zero, List.set_cons_succ]
      refine wT (i := 36) (v := ?_) (⟨fun _ => rfl, Eq.trans⟩) (some 79) rfl (fun w' hw' => ?_) ?_
      rotate_left
      · go_simp; with_reducible rfl
      simp only [Act.put, List.setIfInBounds_toArray, List.set_cons_zero, List.set_cons_succ]
      refine wT (i := 37) (v := ?_) (⟨fun _ => rfl, Eq.trans⟩) (some 80) rfl (fun w' hw' => ?_) ?_
      rotate_left
      · go_simp; with_reducible rfl
      simp only [Act.put, List.setIfInBounds_toArray, List.set_cons_zero, List.set_cons_succ]
      refine wpR_done (by kernel_rfl) ?_ _
      have hdr := Lib.hid (rdrop_any lo g y c wd hcd (few1 hf) hok ny)
      replace hko := Lib.hid hko
      go_upto_region 12 with (go_at_call 23; go_must (refine hdr.out.mono ?_); clear hdr; rintro e w1 ⟨rfl, y1, hc1, hu1, hS1⟩)
      obtain ⟨c1, hc1e⟩ : ∃ c1, ({ c with W := delP c.W ny, E := delP c.E ny } : CtP) = c1 := ⟨_, rfl⟩
      rw [hc1e] at hc1
      have hb1 := hcd.out.other hu1 hbd.out (by decide) (by decide)
      have hlo1 : lo ≤ wd.heap.size := by have h1 := hcd.out.lg; have h2 := blk_lt hcd.out.blk; omega
      have hbe1 : Below lo wd w1 := Upd.to_below (Below.refl lo wd) hu1 hlo1 (fun q hq => (hcd.out.lt q hq).2)
      have hg01 : Gr w0 w1 := Below.trans (show Below w0.heap.size w0 wd from (hg0.trans hgW.out).trans hgd.out) (Below.mono hbe1 h0)
      have hlw1 : lo ≤ w1.heap.size := Nat.le_trans hlo1 (Below.size hbe1)
      have hpl1 := (Pls.gr hg01 (Lib.hid (show Pls np (.slice A2 np.length c2) w0 from by rw [hlp.out]; exact hpl.out))).out
      replace hc1e := Lib.hid hc1e
      replace hlo1 := Lib.hid hlo1
      replace hbe1 := Lib.hid hbe1
      replace hg01 := Lib.hid hg01
      replace hb1 := Lib.hid hb1
      replace hpl1 := Lib.hid hpl1
      replace hu1 := Lib.hid hu1
      replace hS1 := Lib.hid hS1
      clear d1 d2 d5 d6 d7 hmul
      go_cut [5] (fun v5 wq => ∃ (eb : Nat) (A5 : Option Addr) (c5 : Nat), v5 = .pointer (some ⟨eb, 0, none⟩) ∧ Hid (wq.heap[eb]? = some (.cells #[.string (bs ny), .int .i64 ng, .int .i64 z, .string (bs nu), .slice A5 lp c5] 43 (0, 0))) ∧ Hid (OP np (.slice A5 lp c5) lo wq) ∧ Hid (Gr w1 wq))
      case first =>
        obtain ⟨we, hwe⟩ : ∃ we, we = w1.drew := ⟨_, rfl⟩
        have hge : Gr w1 we := by rw [hwe]; exact (Below.refl _ _).drew
        have hbe := Lib.hid (blk_below hb1.out hge)
        obtain ⟨B1, hB1⟩ : ∃ b, we.heap.size = b := ⟨_, rfl⟩
        have hple := (Pls.gr hge hpl1).out
        obtain ⟨Ap, cp, ep, hrp⟩ := hple.reads
        injection ep with ep1 ep3 ep2
        subst ep1 ep2
        clear ep3
        obtain ⟨-, -, -, -, -, -, hpl5⟩ := hple
        rw [hlp.out, hB1] at hrp
        replace hrp := Lib.hid hrp
        replace hpl5 := Lib.hid hpl5
        have hqe : Hid (Below B1 we we) := Lib.hid (Below.refl _ _)
        have hze : Hid (B1 ≤ we.heap.size) := Lib.hid (by rw [hB1]; exact Nat.le_refl _)
        have hlB : Hid (lo ≤ B1) := Lib.hid (by rw [← hB1]; exact Nat.le_trans hlw1 (Below.size hge))
        have hgB : Hid (∀ y, Below B1 we y → Gr w1 y) := Lib.hid (fun y h1 => Gr.trans hge (by unfold Gr; rw [hB1]; exact h1))
        replace hB1 := Lib.hid hB1
        replace hge := Lib.hid hge
        refine wpR_region (Below B1) 9999 (by kernel_rfl) ?_
        (rw [← hwe]; replace hwe := Lib.hid hwe)
        refine wT (i := 0) (v := ?_) (⟨fun x => Below.refl _ x, fun h1 h2 => h1.trans h2⟩) (some 85) rfl (fun w' hw' => ?_) ?_
        rotate_left
        · go_simp; with_reducible rfl
        simp only [Act.put, List.setIfInBounds_toArray, List.set_cons_zero, List.set_cons_succ]
        refine wT (i := 1) (v := ?_) (⟨fun x => Below.refl _ x, fun h1 h2 => h1.trans h2⟩) (some 86) rfl (fun w' hw' => ?_) ?_
        rotate_left
        · have q := blk_cell (j := 1) ((hw'.block N (by rw [← hB1.out]; exact blk_lt hbe.out)).trans hbe.out) rfl; go_simp; with_reducible rfl
        simp only [Act.put, List.setIfInBounds_toArray, List.set_cons_zero, List.set_cons_succ]
        refine wT (i := 2) (v := ?_) (⟨fun x => Below.refl _ x, fun h1 h2 => h1.trans h2⟩) (some 87) rfl (fun w' hw' => ?_) ?_
        rotate_left
        · go_simp; with_reducible rfl
        simp only [Act.put, List.setIfInBounds_toArray, List.set_cons_zero, List.set_cons_succ]
        refine wT (i := 3) (v := ?_) (⟨fun x => Below.refl _ x, fun h1 h2 => h1.trans h2⟩) (some 88) rfl (fun w' hw' => ?_) ?_
        rotate_left
        · have q := blk_cell (j := 2) ((hw'.block N (by rw [← hB1.out]; exact blk_lt hbe.out)).trans hbe.out) rfl; go_simp; with_reducible rfl
        simp only [Act.put, List.setIfInBounds_toArray, List.set_cons_zero, List.set_cons_succ]
        refine wT (i := 4) (v := ?_) (⟨fun x => Below.refl _ x, fun h1 h2 => h1.trans h2⟩) (some 89) rfl (fun w' hw' => ?_) ?_
        rotate_left
        · go_simp; with_reducible rfl
        simp only [Act.put, List.setIfInBounds_toArray, List.set_cons_zero, List.set_cons_succ]
        refine wT (i := 5) (v := ?_) (⟨fun x => Below.refl _ x, fun h1 h2 => h1.trans h2⟩) (some 90) rfl (fun w' hw' => ?_) ?_
        rotate_left
        · have q := blk_cell (j := 6) ((hw'.block N (by rw [← hB1.out]; exact blk_lt hbe.out)).trans hbe.out) rfl; go_simp; with_reducible rfl
        simp only [Act.put, List.setIfInBounds_toArray, List.set_cons_zero, List.set_cons_succ]
        refine wT (i := 6) (v := ?_) (⟨fun x => Below.refl _ x, fun h1 h2 => h1.trans h2⟩) (some 91) rfl (fun w' hw' => ?_) ?_
        rotate_left
        · go_simp; with_reducible rfl
        simp only [Act.put, List.setIfInBounds_toArray, List.set_cons_zero, List.set_cons_succ]
        refine wT (i := 7) (v := ?_) (⟨fun x => Below.refl _ x, fun h1 h2 => h1.trans h2⟩) (some 92) rfl (fun w' hw' => ?_) ?_
        rotate_left
        · have q := blk_cell (j := 5) ((hw'.block N (by rw [← hB1.out]; exact blk_lt hbe.out)).trans hbe.out) rfl; go_simp; with_reducible rfl
        simp only [Act.put, List.setIfInBounds_toArray, List.set_cons_zero, List.set_cons_succ]
        refine wT (i := 9) (v := ?_) (⟨fun x => Below.refl _ x, fun h1 h2 => h1.trans h2⟩) (some 94) rfl (fun w' hw' => ?_) ?_
        rotate_left
        · go_simp; with_reducible rfl
        simp only [Act.put, List.setIfInBounds_toArray, List.set_cons_zero, List.set_cons_succ]
        refine wT (i := 10) (v := ?_) (⟨fun x => Below.refl _ x, fun h1 h2 => h1.trans h2⟩) (some 95) rfl (fun w' hw' => ?_) ?_
        rotate_left
        · have q := blk_cell (j := 7) ((hw'.block N (by rw [← hB1.out]; exact blk_lt hbe.out)).trans hbe.out) rfl; go_simp; with_reducible rfl
        simp only [Act.put, List.setIfInBounds_toArray, List.set_cons_zero, List.set_cons_succ]
        refine wpR_two 8 13 rfl rfl (by kernel_rfl) (by kernel_rfl) (by kernel_rfl) (fun K hK => ?_) (fun K hK => ?_)
        · go_simp
          obtain ⟨g8, hg8⟩ : ∃ g8, we.heap.size = g8 := ⟨_, rfl⟩
          obtain ⟨W8, hW8⟩ : ∃ W, W = we.alloc (.cells #[] 79) := ⟨_, rfl⟩
          have hr8 : Below B1 we W8 := by rw [hW8]; exact (Below.refl _ _).alloc hze.out _
          have ho8 : Hid (OP [] (.slice (some ⟨g8, 0, none⟩) 0 0) B1 W8) := Lib.hid (by rw [hW8, ← hg8]; exact OP.empty _ _ hze.out)
          have hq8 : Hid (Below B1 we W8) := Lib.hid (hqe.out.trans hr8)
          have hz8 : Hid (B1 ≤ W8.heap.size) := Lib.hid (Nat.le_trans hze.out hr8.size)
          rw [← hW8, hg8]
          replace hW8 := Lib.hid hW8
          replace hg8 := Lib.hid hg8
          refine hK _ _ (fun _ => hr8) ?_
          clear hK K
          try simp only [Act.put, List.setIfInBounds_toArray, List.set_cons_zero, List.set_cons_succ]
          refine wpR_two 11 13 rfl rfl (by kernel_rfl) (by kernel_rfl) (by kernel_rfl) (fun K hK => ?_) (fun K hK => ?_)
          · refine wp_appPl (.tmp 93) (.tmp 95) rfl B1 _ [] rfl ho8.out _ _ np rfl ((hrp.out.below hq8.out).more (Nat.le_refl _)) hpl5.out (by rw [hlp.out]; simp; omega) hz8.out ?_
            intro v11 W11 ho11 hgr11
            rw [List.nil_append] at ho11
            obtain ⟨A11, c11, rfl, -, -⟩ := OP.form ho11
            rw [hlp.out] at ho11 ⊢
            have hr11 : Below B1 W8 W11 := (Below.refl _ _).grown hgr11 hz8.out (fun j hj => (World.ownsRow.lt ho8.out.1 j hj).1)
            replace ho11 := Lib.hid ho11
            have hq11 : Hid (Below B1 we W11) := Lib.hid (hq8.out.trans hr11)
            have hz11 : Hid (B1 ≤ W11.heap.size) := Lib.hid (Nat.le_trans hz8.out hr11.size)
            refine hK _ _ (fun _ => hr11) ?_
            clear hK K
            clear hgr11 hr11
            try simp only [Act.put, List.setIfInBounds_toArray, List.set_cons_zero, List.set_cons_succ]
            refine wT (i := 12) (v := ?_) (⟨fun x => Below.refl _ x, fun h1 h2 => h1.trans h2⟩) (some 97) rfl (fun w' hw' => ?_) ?_
            rotate_left
            · go_simp; with_reducible rfl
            simp only [Act.put, List.setIfInBounds_toArray, List.set_cons_zero, List.set_cons_succ]
            refine wpR_one 13 rfl (by kernel_rfl) (by kernel_rfl) (fun K hK => ?_)
            go_simp
            obtain ⟨eb, heb⟩ : ∃ g, W11.heap.size = g := ⟨_, rfl⟩
            obtain ⟨W13, hW13⟩ : ∃ W, W = W11.alloc (.cells #[.string ⟨#[]⟩, .int .i64 0, .int .i64 0, .string ⟨#[]⟩, .slice none 0 0] 43) := ⟨_, rfl⟩
            have hr13 : Below B1 W11 W13 := by rw [hW13]; exact (Below.refl _ _).alloc hz11.out _
            have hb13 : Hid (W13.heap[eb]? = some (.cells #[.string ⟨#[]⟩, .int .i64 0, .int .i64 0, .string ⟨#[]⟩, .slice none 0 0] 43 (0, 0))) := Lib.hid (by rw [hW13, ← heb]; exact heap_alloc_new _ _)
            have heB : Hid (B1 ≤ eb) := Lib.hid (by rw [← heb]; exact hz11.out)
            have hq13 : Hid (Below B1 we W13) := Lib.hid (hq11.out.trans hr13)
            have hz13 : Hid (B1 ≤ W13.heap.size) := Lib.hid (Nat.le_trans hz11.out hr13.size)
            replace ho11 := Lib.hid (OP.gr (show Gr W11 W13 by rw [hW13]; exact Gr.alloc _ _) ho11).out
            rw [← hW13, heb]
            replace hW13 := Lib.hid hW13
            replace heb := Lib.hid heb
            refine hK _ _ (fun _ => hr13) ?_
            clear hK K
            try simp only [Act.put, List.setIfInBounds_toArray, List.set_cons_zero, List.set_cons_succ]
            refine wpR_one 14 rfl (by kernel_rfl) (by kernel_rfl) (fun K hK => ?_)
            have e0 := blk_cell (j := 0) hb13.out rfl
            have e1 := blk_cell (j := 1) hb13.out rfl
            have e2 := blk_cell (j := 2) hb13.out rfl
            have e3 := blk_cell (j := 3) hb13.out rfl
            have e4 := blk_cell (j := 4) hb13.out rfl
            have f0 := blk_free hb13.out 0
            have f1 := blk_free hb13.out 1
            have f2 := blk_free hb13.out 2
            have f3 := blk_free hb13.out 3
            have f4 := blk_free hb13.out 4
            go_simp
            refine hK _ _ (fun _ => Below.setCell (Below.setCell (Below.setCell (Below.setCell (Below.setCell (Below.refl B1 W13) (show B1 ≤ eb from heB.out) _) (show B1 ≤ eb from heB.out) _) (show B1 ≤ eb from heB.out) _) (show B1 ≤ eb from heB.out) _) (show B1 ≤ eb from heB.out) _) ?_
            clear hK K
            clear e0 e1 e2 e3 e4 f0 f1 f2 f3 f4
            obtain ⟨WZ, hWZ⟩ : ∃ W, W = (((((W13.setCell ⟨eb, 0, none⟩ (.string (bs ny))).setCell ⟨eb, 1, none⟩ (.int .i64 ng)).setCell ⟨eb, 2, none⟩ (.int .i64 z)).setCell ⟨eb, 3, none⟩ (.string (bs nu))).setCell ⟨eb, 4, none⟩ (.slice A11 lp c11)) := ⟨_, rfl⟩
            rw [← hWZ]
            have hbZ : Hid (WZ.heap[eb]? = some (.cells #[.string (bs ny), .int .i64 ng, .int .i64 z, .string (bs nu), .slice A11 lp c11] 43 (0, 0))) := Lib.hid (by rw [hWZ]; exact blk_set (blk_set (blk_set (blk_set (blk_set hb13.out 0 _) 1 _) 2 _) 3 _) 4 _)
            have hqZ : Hid (Below B1 we WZ) := Lib.hid (by rw [hWZ]; exact hq13.out.trans (Below.setCell (Below.setCell (Below.setCell (Below.setCell (Below.setCell (Below.refl B1 W13) (show B1 ≤ eb from heB.out) _) (show B1 ≤ eb from heB.out) _) (show B1 ≤ eb from heB.out) _) (show B1 ≤ eb from heB.out) _) (show B1 ≤ eb from heB.out) _))
            have hoZ : Hid (OP np (.slice A11 lp c11) lo WZ) := Lib.hid (by rw [hWZ]; exact ⟨row_more (row_set_other (row_set_other (row_set_other (row_set_other (row_set_other ho11.out.1 eb 0 _ (row_ne ho11.out.1 hb13.out (by decide))) eb 1 _ (row_ne ho11.out.1 hb13.out (by decide))) eb 2 _ (row_ne ho11.out.1 hb13.out (by decide))) eb 3 _ (row_ne ho11.out.1 hb13.out (by decide))) eb 4 _ (row_ne ho11.out.1 hb13.out (by decide))) hlB.out, ho11.out.2⟩)
            replace hWZ := Lib.hid hWZ
            try simp only [Act.put, List.setIfInBounds_toArray, List.set_cons_zero, List.set_cons_succ]
            refine wpR_done (by kernel_rfl) ?_ _
            go_wp2_with fail
            go_meet
            exact ⟨eb, A11, c11, rfl, hbZ, hoZ, Lib.hid (hgB.out _ hqZ.out)⟩
          · go_simp
            obtain ⟨eb, heb⟩ : ∃ g, W8.heap.size = g := ⟨_, rfl⟩
            obtain ⟨W13, hW13⟩ : ∃ W, W = W8.alloc (.cells #[.string ⟨#[]⟩, .int .i64 0, .int .i64 0, .string ⟨#[]⟩, .slice none 0 0] 43) := ⟨_, rfl⟩
            have hr13 : Below B1 W8 W13 := by rw [hW13]; exact (Below.refl _ _).alloc hz8.out _
            have hb13 : Hid (W13.heap[eb]? = some (.cells #[.string ⟨#[]⟩, .int .i64 0, .int .i64 0, .string ⟨#[]⟩, .slice none 0 0] 43 (0, 0))) := Lib.hid (by rw [hW13, ← heb]; exact heap_alloc_new _ _)
            have heB : Hid (B1 ≤ eb) := Lib.hid (by rw [← heb]; exact hz8.out)
            have hq13 : Hid (Below B1 we W13) := Lib.hid (hq8.out.trans hr13)
            have hz13 : Hid (B1 ≤ W13.heap.size) := Lib.hid (Nat.le_trans hz8.out hr13.size)
            replace ho8 := Lib.hid (OP.gr (show Gr W8 W13 by rw [hW13]; exact Gr.alloc _ _) ho8).out
            rw [← hW13, heb]
            replace hW13 := Lib.hid hW13
            replace heb := Lib.hid heb
            refine hK _ _ (fun _ => hr13) ?_
            clear hK K
            try simp only [Act.put, List.setIfInBounds_toArray, List.set_cons_zero, List.set_cons_succ]
            refine wpR_one 11 rfl (by kernel_rfl) (by kernel_rfl) (fun K hK => ?_)
            refine wp_appPl (.tmp 93) (.tmp 95) rfl B1 _ [] rfl ho8.out _ _ np rfl ((hrp.out.below hq13.out).more (Nat.le_refl _)) hpl5.out (by rw [hlp.out]; simp; omega) hz13.out ?_
            intro v11 W11 ho11 hgr11
            rw [List.nil_append] at ho11
            obtain ⟨A11, c11, rfl, -, -⟩ := OP.form ho11
            rw [hlp.out] at ho11 ⊢
            have hr11 : Below B1 W13 W11 := (Below.refl _ _).grown hgr11 hz13.out (fun j hj => (World.ownsRow.lt ho8.out.1 j hj).1)
            replace hb13 := Lib.hid ((hgr11.block eb (blk_lt hb13.out) (fun e => row_ne ho8.out.1 hb13.out (by decide) e.symm)).trans hb13.out)
            replace ho11 := Lib.hid ho11
            have hq11 : Hid (Below B1 we W11) := Lib.hid (hq13.out.trans hr11)
            have hz11 : Hid (B1 ≤ W11.heap.size) := Lib.hid (Nat.le_trans hz13.out hr11.size)
            refine hK _ _ (fun _ => hr11) ?_
            clear hK K
            clear hgr11 hr11
            try simp only [Act.put, List.setIfInBounds_toArray, List.set_cons_zero, List.set_cons_succ]
            refine wT (i := 12) (v := ?_) (⟨fun x => Below.refl _ x, fun h1 h2 => h1.trans h2⟩) (some 97) rfl (fun w' hw' => ?_) ?_
            rotate_left
            · go_simp; with_reducible rfl
            simp only [Act.put, List.setIfInBounds_toArray, List.set_cons_zero, List.set_cons_succ]
            refine wpR_one 14 rfl (by kernel_rfl) (by kernel_rfl) (fun K hK => ?_)
            have e0 := blk_cell (j := 0) hb13.out rfl
            have e1 := blk_cell (j := 1) hb13.out rfl
            have e2 := blk_cell (j := 2) hb13.out rfl
            have e3 := blk_cell (j := 3) hb13.out rfl
            have e4 := blk_cell (j := 4) hb13.out rfl
            have f0 := blk_free hb13.out 0
            have f1 := blk_free hb13.out 1
            have f2 := blk_free hb13.out 2
            have f3 := blk_free hb13.out 3
            have f4 := blk_free hb13.out 4
            go_simp
            refine hK _ _ (fun _ => Below.setCell (Below.setCell (Below.setCell (Below.setCell (Below.setCell (Below.refl B1 W11) (show B1 ≤ eb from heB.out) _) (show B1 ≤ eb from heB.out) _) (show B1 ≤ eb from heB.out) _) (show B1 ≤ eb from heB.out) _) (show B1 ≤ eb from heB.out) _) ?_
            clear hK K
            clear e0 e1 e2 e3 e4 f0 f1 f2 f3 f4
            obtain ⟨WZ, hWZ⟩ : ∃ W, W = (((((W11.setCell ⟨eb, 0, none⟩ (.string (bs ny))).setCell ⟨eb, 1, none⟩ (.int .i64 ng)).setCell ⟨eb, 2, none⟩ (.int .i64 z)).setCell ⟨eb, 3, none⟩ (.string (bs nu))).setCell ⟨eb, 4, none⟩ (.slice A11 lp c11)) := ⟨_, rfl⟩
            rw [← hWZ]
            have hbZ : Hid (WZ.heap[eb]? = some (.cells #[.string (bs ny), .int .i64 ng, .int .i64 z, .string (bs nu), .slice A11 lp c11] 43 (0, 0))) := Lib.hid (by rw [hWZ]; exact blk_set (blk_set (blk_set (blk_set (blk_set hb13.out 0 _) 1 _) 2 _) 3 _) 4 _)
            have hqZ : Hid (Below B1 we WZ) := Lib.hid (by rw [hWZ]; exact hq11.out.trans (Below.setCell (Below.setCell (Below.setCell (Below.setCell (Below.setCell (Below.refl B1 W11) (show B1 ≤ eb from heB.out) _) (show B1 ≤ eb from heB.out) _) (show B1 ≤ eb from heB.out) _) (show B1 ≤ eb from heB.out) _) (show B1 ≤ eb from heB.out) _))
            have hoZ : Hid (OP np (.slice A11 lp c11) lo WZ) := Lib.hid (by rw [hWZ]; exact ⟨row_more (row_set_other (row_set_other (row_set_other (row_set_other (row_set_other ho11.out.1 eb 0 _ (row_ne ho11.out.1 hb13.out (by decide))) eb 1 _ (row_ne ho11.out.1 hb13.out (by decide))) eb 2 _ (row_ne ho11.out.1 hb13.out (by decide))) eb 3 _ (row_ne ho11.out.1 hb13.out (by decide))) eb 4 _ (row_ne ho11.out.1 hb13.out (by decide))) hlB.out, ho11.out.2⟩)
            replace hWZ := Lib.hid hWZ
            try simp only [Act.put, List.setIfInBounds_toArray, List.set_cons_zero, List.set_cons_succ]
            refine wpR_done (by kernel_rfl) ?_ _
            go_wp2_with fail
            go_meet
            exact ⟨eb, A11, c11, rfl, hbZ, hoZ, Lib.hid (hgB.out _ hqZ.out)⟩
        · go_simp
          obtain ⟨eb, heb⟩ : ∃ g, we.heap.size = g := ⟨_, rfl⟩
          obtain ⟨W13, hW13⟩ : ∃ W, W = we.alloc (.cells #[.string ⟨#[]⟩, .int .i64 0, .int .i64 0, .string ⟨#[]⟩, .slice none 0 0] 43) := ⟨_, rfl⟩
          have hr13 : Below B1 we W13 := by rw [hW13]; exact (Below.refl _ _).alloc hze.out _
          have hb13 : Hid (W13.heap[eb]? = some (.cells #[.string ⟨#[]⟩, .int .i64 0, .int .i64 0, .string ⟨#[]⟩, .slice none 0 0] 43 (0, 0))) := Lib.hid (by rw [hW13, ← heb]; exact heap_alloc_new _ _)
          have heB : Hid (B1 ≤ eb) := Lib.hid (by rw [← heb]; exact hze.out)
          have hq13 : Hid (Below B1 we W13) := Lib.hid (hqe.out.trans hr13)
          have hz13 : Hid (B1 ≤ W13.heap.size) := Lib.hid (Nat.le_trans hze.out hr13.size)
          rw [← hW13, heb]
          replace hW13 := Lib.hid hW13
          replace heb := Lib.hid heb
          refine hK _ _ (fun _ => hr13) ?_
          clear hK K
          try simp only [Act.put, List.setIfInBounds_toArray, List.set_cons_zero, List.set_cons_succ]
          refine wpR_one 8 rfl (by kernel_rfl) (by kernel_rfl) (fun K hK => ?_)
          go_simp
          obtain ⟨g8, hg8⟩ : ∃ g8, W13.heap.size = g8 := ⟨_, rfl⟩
          obtain ⟨W8, hW8⟩ : ∃ W, W = W13.alloc (.cells #[] 79) := ⟨_, rfl⟩
          have hr8 : Below B1 W13 W8 := by rw [hW8]; exact (Below.refl _ _).alloc hz13.out _
          have ho8 : Hid (OP [] (.slice (some ⟨g8, 0, none⟩) 0 0) B1 W8) := Lib.hid (by rw [hW8, ← hg8]; exact OP.empty _ _ hz13.out)
          have hq8 : Hid (Below B1 we W8) := Lib.hid (hq13.out.trans hr8)
          have hz8 : Hid (B1 ≤ W8.heap.size) := Lib.hid (Nat.le_trans hz13.out hr8.size)
          replace hb13 := Lib.hid (blk_below hb13.out (show Below W13.heap.size W13 W8 by rw [hW8]; exact Gr.alloc _ _))
          rw [← hW8, hg8]
          replace hW8 := Lib.hid hW8
          replace hg8 := Lib.hid hg8
          refine hK _ _ (fun _ => hr8) ?_
          clear hK K
          try simp only [Act.put, List.setIfInBounds_toArray, List.set_cons_zero, List.set_cons_succ]
          refine wpR_one 11 rfl (by kernel_rfl) (by kernel_rfl) (fun K hK => ?_)
          refine wp_appPl (.tmp 93) (.tmp 95) rfl B1 _ [] rfl ho8.out _ _ np rfl ((hrp.out.below hq8.out).more (Nat.le_refl _)) hpl5.out (by rw [hlp.out]; simp; omega) hz8.out ?_
          intro v11 W11 ho11 hgr11
          rw [List.nil_append] at ho11
          obtain ⟨A11, c11, rfl, -, -⟩ := OP.form ho11
          rw [hlp.out] at ho11 ⊢
          have hr11 : Below B1 W8 W11 := (Below.refl _ _).grown hgr11 hz8.out (fun j hj => (World.ownsRow.lt ho8.out.1 j hj).1)
          replace hb13 := Lib.hid ((hgr11.block eb (blk_lt hb13.out) (fun e => row_ne ho8.out.1 hb13.out (by decide) e.symm)).trans hb13.out)
          replace ho11 := Lib.hid ho11
          have hq11 : Hid (Below B1 we W11) := Lib.hid (hq8.out.trans hr11)
          have hz11 : Hid (B1 ≤ W11.heap.size) := Lib.hid (Nat.le_trans hz8.out hr11.size)
          refine hK _ _ (fun _ => hr11) ?_
          clear hK K
          clear hgr11 hr11
          try simp only [Act.put, List.setIfInBounds_toArray, List.set_cons_zero, List.set_cons_succ]
          refine wT (i := 12) (v := ?_) (⟨fun x => Below.refl _ x, fun h1 h2 => h1.trans h2⟩) (some 97) rfl (fun w' hw' => ?_) ?_
          rotate_left
          · go_simp; with_reducible rfl
          simp only [Act.put, List.setIfInBounds_toArray, List.set_cons_zero, List.set_cons_succ]
          refine wpR_one 14 rfl (by kernel_rfl) (by kernel_rfl) (fun K hK => ?_)
          have e0 := blk_cell (j := 0) hb13.out rfl
          have e1 := blk_cell (j := 1) hb13.out rfl
          have e2 := blk_cell (j := 2) hb13.out rfl
          have e3 := blk_cell (j := 3) hb13.out rfl
          have e4 := blk_cell (j := 4) hb13.out rfl
          have f0 := blk_free hb13.out 0
          have f1 := blk_free hb13.out 1
          have f2 := blk_free hb13.out 2
          have f3 := blk_free hb13.out 3
          have f4 := blk_free hb13.out 4
          go_simp
          refine hK _ _ (fun _ => Below.setCell (Below.setCell (Below.setCell (Below.setCell (Below.setCell (Below.refl B1 W11) (show B1 ≤ eb from heB.out) _) (show B1 ≤ eb from heB.out) _) (show B1 ≤ eb from heB.out) _) (show B1 ≤ eb from heB.out) _) (show B1 ≤ eb from heB.out) _) ?_
          clear hK K
          clear e0 e1 e2 e3 e4 f0 f1 f2 f3 f4
          obtain ⟨WZ, hWZ⟩ : ∃ W, W = (((((W11.setCell ⟨eb, 0, none⟩ (.string (bs ny))).setCell ⟨eb, 1, none⟩ (.int .i64 ng)).setCell ⟨eb, 2, none⟩ (.int .i64 z)).setCell ⟨eb, 3, none⟩ (.string (bs nu))).setCell ⟨eb, 4, none⟩ (.slice A11 lp c11)) := ⟨_, rfl⟩
          rw [← hWZ]
          have hbZ : Hid (WZ.heap[eb]? = some (.cells #[.string (bs ny), .int .i64 ng, .int .i64 z, .string (bs nu), .slice A11 lp c11] 43 (0, 0))) := Lib.hid (by rw [hWZ]; exact blk_set (blk_set (blk_set (blk_set (blk_set hb13.out 0 _) 1 _) 2 _) 3 _) 4 _)
          have hqZ : Hid (Below B1 we WZ) := Lib.hid (by rw [hWZ]; exact hq11.out.trans (Below.setCell (Below.setCell (Below.setCell (Below.setCell (Below.setCell (Below.refl B1 W11) (show B1 ≤ eb from heB.out) _) (show B1 ≤ eb from heB.out) _) (show B1 ≤ eb from heB.out) _) (show B1 ≤ eb from heB.out) _) (show B1 ≤ eb from heB.out) _))
          have hoZ : Hid (OP np (.slice A11 lp c11) lo WZ) := Lib.hid (by rw [hWZ]; exact ⟨row_more (row_set_other (row_set_other (row_set_other (row_set_other (row_set_other ho11.out.1 eb 0 _ (row_ne ho11.out.1 hb13.out (by decide))) eb 1 _ (row_ne ho11.out.1 hb13.out (by decide))) eb 2 _ (row_ne ho11.out.1 hb13.out (by decide))) eb 3 _ (row_ne ho11.out.1 hb13.out (by decide))) eb 4 _ (row_ne ho11.out.1 hb13.out (by decide))) hlB.out, ho11.out.2⟩)
          replace hWZ := Lib.hid hWZ
          try simp only [Act.put, List.setIfInBounds_toArray, List.set_cons_zero, List.set_cons_succ]
          refine wpR_done (by kernel_rfl) ?_ _
          go_wp2_with fail
          go_meet
          exact ⟨eb, A11, c11, rfl, hbZ, hoZ, Lib.hid (hgB.out _ hqZ.out)⟩
      case rest =>
        obtain ⟨eb, A5, c5, rfl, hbE, hoE, hgE⟩ := hcut
        rename World => wE
        obtain ⟨n1, hn1⟩ : ∃ m, c1.E.length = m := ⟨_, rfl⟩
        obtain ⟨pos, hpos⟩ : ∃ m, (c1.E.takeWhile (fun e => decide (e.1 < ny))).length = m := ⟨_, rfl⟩
        have hpn : pos ≤ n1 := by rw [← hpos, ← hn1]; exact (List.takeWhile_sublist _).length_le
        have hn1l : n1 ≤ 999 := by rw [← hn1, ← hc1e.out]; exact Nat.le_trans (delP_le _ _) hf.2.1
        have hkE1 : Hid (∀ e ∈ c1.E, e.2.key = e.1) := Lib.hid (fun e he => by rw [← hc1e.out] at he; exact (hok.okE e (mem_delP.mp he).1).1)
        have hlen1 : Hid (y1.E.length = n1) := Lib.hid (hc1.out.len.trans hn1)
        obtain ⟨AH, cH, hvH, hcH, -⟩ := row_form hc1.out.hs.1
        rw [hlen1.out] at hvH hcH
        have hcT : Hid (∀ q, Gr w1 q → Rc q lo g y1 c1) := Lib.hid (fun q hq => hc1.out.gr hq)
        have hkey : Hid (∀ j x, c1.E[j]? = some x → ∃ bH, AH = some ⟨bH, 0, none⟩ ∧ ∀ q, Gr w1 q → q.cell? ⟨bH, j * 5, none⟩ = some (.string (bs x.1))) := Lib.hid (fun j x hx => by
          have hj := (List.getElem?_eq_some_iff.mp hx).1
          have hrow := hc1.out.hs.1
          obtain ⟨bH, cH', e, -, -, -, hb, -, -, hcell, -⟩ := row_at hrow (by rw [hlen1.out]; omega)
          rw [hvH] at e
          injection e with e1 _ _
          obtain ⟨xe, hxe⟩ : ∃ xe, y1.E[j]? = some xe := ⟨_, List.getElem?_eq_getElem (by rw [hlen1.out]; omega)⟩
          have hk5 : xe.e.key = x.1 := by
            have h1 := congrArg (fun l => l[j]?) hc1.out.he
            simp only [List.getElem?_map, hxe, hx, Option.map_some] at h1
            injection h1 with h1
            rw [h1]
            exact hkE1.out x (List.mem_of_getElem? hx)
          refine ⟨bH, e1, fun q hq => (cellGr hq (a := ⟨bH, j * 5, none⟩) hb).trans ?_⟩
          have := hcell _ (.string (bs xe.e.key)) ((flatE_at hxe 0 (by omega)).trans rfl)
          rw [hk5, Nat.add_zero] at this
          exact this)
        replace hvH := Lib.hid hvH
        replace hn1 := Lib.hid hn1
        replace hpos := Lib.hid hpos
        go_upto_block 0 with (fail)
        go_cut [6] (fun v6 wq => v6 = .int .i64 pos ∧ Hid (Gr wE wq))
        case first =>
          go_wp2_with fail
          go_loopw [6] (fun u wr => ∃ j : Nat, j ≤ pos ∧ u = .int .i64 j ∧ Hid (Gr wE wr)) (fun u _ => (pos - intOf u).toNat)
          case atStart => exact ⟨0, Nat.zero_le _, rfl, Lib.hid (Gr.refl _)⟩
          case round =>
            obtain ⟨j, hj, rfl, hgj⟩ := hrel
            obtain ⟨we, hwe⟩ : ∃ we, we = wr.drew := ⟨_, rfl⟩
            have hgwe : Gr wr we := by rw [hwe]; exact (Below.refl _ _).drew
            have hgEe := Lib.hid (hgj.out.trans hgwe)
            have hg1e := Lib.hid (hgE.out.trans hgEe.out)
            have d1 := blk_cell (j := 1) (hcT.out we hg1e.out).blk rfl
            rw [hvH.out] at d1
            have d2 := blk_cell (j := 1) (blk_below hb1.out hg1e.out) rfl
            replace hgwe := Lib.hid hgwe
            by_cases hjn : j < n1
            · have ii : (j : Int) < (n1 : Int) := by omega
              obtain ⟨x, hx⟩ : ∃ x, c1.E[j]? = some x := ⟨_, List.getElem?_eq_getElem (by rw [hn1.out]; exact hjn)⟩
              obtain ⟨bH, rfl, hkx⟩ := hkey.out j x hx
              have d3 := hkx we hg1e.out
              clear hkx
              by_cases hjp : j < pos
              · have hless : Op.bytesLess x.1 ny = true := by rw [bytesLess_eq]; exact decide_eq_true (tw_lt (by rw [hpos.out]; exact hjp) hx)
                replace hx := Lib.hid hx
                go_upto_region 14 with (fail)
                refine wpR_region (Eq) 9999 (by kernel_rfl) ?_
                (rw [← hwe]; replace hwe := Lib.hid hwe)
                refine wT (i := 0) (v := ?_) (⟨fun _ => rfl, Eq.trans⟩) (some 98) rfl (fun w' hw' => ?_) ?_
                rotate_left
                · go_simp; with_reducible rfl
                simp only [Act.put, List.setIfInBounds_toArray, List.set_cons_zero, List.set_cons_succ]
                refine wT (i := 1) (v := ?_) (⟨fun _ => rfl, Eq.trans⟩) (some 99) rfl (fun w' hw' => ?_) ?_
                rotate_left
                · go_simp; with_reducible rfl
                simp only [Act.put, List.setIfInBounds_toArray, List.set_cons_zero, List.set_cons_succ]
                refine wT (i := 2) (v := ?_) (⟨fun _ => rfl, Eq.trans⟩) (some 100) rfl (fun w' hw' => ?_) ?_
                rotate_left
                · go_simp; with_reducible rfl
                simp only [Act.put, List.setIfInBounds_toArray, List.set_cons_zero, List.set_cons_succ]
                refine wT (i := 3) (v := ?_) (⟨fun _ => rfl, Eq.trans⟩) (some 101) rfl (fun w' hw' => ?_) ?_
                rotate_left
                · go_simp; with_reducible rfl
                simp only [Act.put, List.setIfInBounds_toArray, List.set_cons_zero, List.set_cons_succ]
                refine wT (i := 4) (v := ?_) (⟨fun _ => rfl, Eq.trans⟩) (some 102) rfl (fun w' hw' => ?_) ?_
                rotate_left
                · subst hw'; go_simp; with_reducible rfl
                simp only [Act.put, List.setIfInBounds_toArray, List.set_cons_zero, List.set_cons_succ]
                refine wT (i := 5) (v := ?_) (⟨fun _ => rfl, Eq.trans⟩) (some 103) rfl (fun w' hw' => ?_) ?_
                rotate_left
                · go_simp; with_reducible rfl
                simp only [Act.put, List.setIfInBounds_toArray, List.set_cons_zero, List.set_cons_succ]
                refine wT (i := 6) (v := ?_) (⟨fun _ => rfl, Eq.trans⟩) (some 104) rfl (fun w' hw' => ?_) ?_
                rotate_left
                · go_simp; with_reducible rfl
                simp only [Act.put, List.setIfInBounds_toArray, List.set_cons_zero, List.set_cons_succ]
                refine wT (i := 7) (v := ?_) (⟨fun _ => rfl, Eq.trans⟩) (some 105) rfl (fun w' hw' => ?_) ?_
                rotate_left
                · go_simp; with_reducible rfl
                simp only [Act.put, List.setIfInBounds_toArray, List.set_cons_zero, List.set_cons_succ]
                refine wT (i := 8) (v := ?_) (⟨fun _ => rfl, Eq.trans⟩) (some 106) rfl (fun w' hw' => ?_) ?_
                rotate_left
                · go_simp; with_reducible rfl
                simp only [Act.put, List.setIfInBounds_toArray, List.set_cons_zero, List.set_cons_succ]
                refine wT (i := 9) (v := ?_) (⟨fun _ => rfl, Eq.trans⟩) (some 107) rfl (fun w' hw' => ?_) ?_
                rotate_left
                · go_simp; with_reducible rfl
                simp only [Act.put, List.setIfInBounds_toArray, List.set_cons_zero, List.set_cons_succ]
                refine wT (i := 10) (v := ?_) (⟨fun _ => rfl, Eq.trans⟩) (some 108) rfl (fun w' hw' => ?_) ?_
                rotate_left
                · go_simp; with_reducible rfl
                simp only [Act.put, List.setIfInBounds_toArray, List.set_cons_zero, List.set_cons_succ]
                refine wT (i := 11) (v := ?_) (⟨fun _ => rfl, Eq.trans⟩) (some 109) rfl (fun w' hw' => ?_) ?_
                rotate_left
                · subst hw'; go_simp; with_reducible rfl
                simp only [Act.put, List.setIfInBounds_toArray, List.set_cons_zero, List.set_cons_succ]
                refine wT (i := 12) (v := ?_) (⟨fun _ => rfl, Eq.trans⟩) (some 110) rfl (fun w' hw' => ?_) ?_
                rotate_left
                · go_simp; with_reducible rfl
                simp only [Act.put, List.setIfInBounds_toArray, List.set_cons_zero, List.set_cons_succ]
                refine wT (i := 13) (v := ?_) (⟨fun _ => rfl, Eq.trans⟩) (some 111) rfl (fun w' hw' => ?_) ?_
                rotate_left
                · go_simp; with_reducible rfl
                simp only [Act.put, List.setIfInBounds_toArray, List.set_cons_zero, List.set_cons_succ]
                refine wT (i := 14) (v := ?_) (⟨fun _ => rfl, Eq.trans⟩) (some 112) rfl (fun w' hw' => ?_) ?_
                rotate_left
                · go_simp; with_reducible rfl
                simp only [Act.put, List.setIfInBounds_toArray, List.set_cons_zero, List.set_cons_succ]
                refine wT (i := 15) (v := ?_) (⟨fun _ => rfl, Eq.trans⟩) (some 113) rfl (fun w' hw' => ?_) ?_
                rotate_left
                · subst hw'; go_simp; with_reducible rfl
                simp only [Act.put, List.setIfInBounds_toArray, List.set_cons_zero, List.set_cons_succ]
                refine wT (i := 16) (v := ?_) (⟨fun _ => rfl, Eq.trans⟩) (some 114) rfl (fun w' hw' => ?_) ?_
                rotate_left
                · go_simp; with_reducible rfl
                simp only [Act.put, List.setIfInBounds_toArray, List.set_cons_zero, List.set_cons_succ]
                refine wT (i := 17) (v := ?_) (⟨fun _ => rfl, Eq.trans⟩) (some 115) rfl (fun w' hw' => ?_) ?_
                rotate_left
                · subst hw'; go_simp; with_reducible rfl
                simp only [Act.put, List.setIfInBounds_toArray, List.set_cons_zero, List.set_cons_succ]
                refine wT (i := 18) (v := ?_) (⟨fun _ => rfl, Eq.trans⟩) (some 116) rfl (fun w' hw' => ?_) ?_
                rotate_left
                · go_simp; with_reducible rfl
                simp only [Act.put, List.setIfInBounds_toArray, List.set_cons_zero, List.set_cons_succ]
                refine wT (i := 19) (v := ?_) (⟨fun _ => rfl, Eq.trans⟩) (some 117) rfl (fun w' hw' => ?_) ?_
                rotate_left
                · go_simp; with_reducible rfl
                simp only [Act.put, List.setIfInBounds_toArray, List.set_cons_zero, List.set_cons_succ]
                refine wpR_done (by kernel_rfl) ?_ _
                go_wp2_with fail
                go_roundw
                case rel => exact ⟨j + 1, by omega, by go_num, hgEe⟩
                case measure => simp [intOf]; omega
              · obtain rfl : pos = j := by omega
                have hless : Op.bytesLess x.1 ny = false := by rw [bytesLess_eq]; exact decide_eq_false (tw_not (by rw [hpos.out]; exact hx))
                replace hx := Lib.hid hx
                go_upto_region 14 with (fail)
                refine wpR_region (Eq) 9999 (by kernel_rfl) ?_
                (rw [← hwe]; replace hwe := Lib.hid hwe)
                refine wT (i := 0) (v := ?_) (⟨fun _ => rfl, Eq.trans⟩) (some 98) rfl (fun w' hw' => ?_) ?_
                rotate_left
                · go_simp; with_reducible rfl
                simp only [Act.put, List.setIfInBounds_toArray, List.set_cons_zero, List.set_cons_succ]
                refine wT (i := 1) (v := ?_) (⟨fun _ => rfl, Eq.trans⟩) (some 99) rfl (fun w' hw' => ?_) ?_
                rotate_left
                · go_simp; with_reducible rfl
                simp only [Act.put, List.setIfInBounds_toArray, List.set_cons_zero, List.set_cons_succ]
                refine wT (i := 2) (v := ?_) (⟨fun _ => rfl, Eq.trans⟩) (some 100) rfl (fun w' hw' => ?_) ?_
                rotate_left
                · go_simp; with_reducible rfl
                simp only [Act.put, List.setIfInBounds_toArray, List.set_cons_zero, List.set_cons_succ]
                refine wT (i := 3) (v := ?_) (⟨fun _ => rfl, Eq.trans⟩) (some 101) rfl (fun w' hw' => ?_) ?_
                rotate_left
                · go_simp; with_reducible rfl
                simp only [Act.put, List.setIfInBounds_toArray, List.set_cons_zero, List.set_cons_succ]
                refine wT (i := 4) (v := ?_) (⟨fun _ => rfl, Eq.trans⟩) (some 102) rfl (fun w' hw' => ?_) ?_
                rotate_left
                · subst hw'; go_simp; with_reducible rfl
                simp only [Act.put, List.setIfInBounds_toArray, List.set_cons_zero, List.set_cons_succ]
                refine wT (i := 5) (v := ?_) (⟨fun _ => rfl, Eq.trans⟩) (some 103) rfl (fun w' hw' => ?_) ?_
                rotate_left
                · go_simp; with_reducible rfl
                simp only [Act.put, List.setIfInBounds_toArray, List.set_cons_zero, List.set_cons_succ]
                refine wT (i := 6) (v := ?_) (⟨fun _ => rfl, Eq.trans⟩) (some 104) rfl (fun w' hw' => ?_) ?_
                rotate_left
                · go_simp; with_reducible rfl
                simp only [Act.put, List.setIfInBounds_toArray, List.set_cons_zero, List.set_cons_succ]
                refine wT (i := 7) (v := ?_) (⟨fun _ => rfl, Eq.trans⟩) (some 105) rfl (fun w' hw' => ?_) ?_
                rotate_left
                · go_simp; with_reducible rfl
                simp only [Act.put, List.setIfInBounds_toArray, List.set_cons_zero, List.set_cons_succ]
                refine wT (i := 8) (v := ?_) (⟨fun _ => rfl, Eq.trans⟩) (some 106) rfl (fun w' hw' => ?_) ?_
                rotate_left
                · go_simp; with_reducible rfl
                simp only [Act.put, List.setIfInBounds_toArray, List.set_cons_zero, List.set_cons_succ]
                refine wT (i := 9) (v := ?_) (⟨fun _ => rfl, Eq.trans⟩) (some 107) rfl (fun w' hw' => ?_) ?_
                rotate_left
                · go_simp; with_reducible rfl
                simp only [Act.put, List.setIfInBounds_toArray, List.set_cons_zero, List.set_cons_succ]
                refine wT (i := 10) (v := ?_) (⟨fun _ => rfl, Eq.trans⟩) (some 108) rfl (fun w' hw' => ?_) ?_
                rotate_left
                · go_simp; with_reducible rfl
                simp only [Act.put, List.setIfInBounds_toArray, List.set_cons_zero, List.set_cons_succ]
                refine wT (i := 11) (v := ?_) (⟨fun _ => rfl, Eq.trans⟩) (some 109) rfl (fun w' hw' => ?_) ?_
                rotate_left
                · subst hw'; go_simp; with_reducible rfl
                simp only [Act.put, List.setIfInBounds_toArray, List.set_cons_zero, List.set_cons_succ]
                refine wT (i := 12) (v := ?_) (⟨fun _ => rfl, Eq.trans⟩) (some 110) rfl (fun w' hw' => ?_) ?_
                rotate_left
                · go_simp; with_reducible rfl
                simp only [Act.put, List.setIfInBounds_toArray, List.set_cons_zero, List.set_cons_succ]
                refine wT (i := 13) (v := ?_) (⟨fun _ => rfl, Eq.trans⟩) (some 111) rfl (fun w' hw' => ?_) ?_
                rotate_left
                · go_simp; with_reducible rfl
                simp only [Act.put, List.setIfInBounds_toArray, List.set_cons_zero, List.set_cons_succ]
                refine wT (i := 14) (v := ?_) (⟨fun _ => rfl, Eq.trans⟩) (some 112) rfl (fun w' hw' => ?_) ?_
                rotate_left
                · go_simp; with_reducible rfl
                simp only [Act.put, List.setIfInBounds_toArray, List.set_cons_zero, List.set_cons_succ]
                refine wT (i := 15) (v := ?_) (⟨fun _ => rfl, Eq.trans⟩) (some 113) rfl (fun w' hw' => ?_) ?_
                rotate_left
                · subst hw'; go_simp; with_reducible rfl
                simp only [Act.put, List.setIfInBounds_toArray, List.set_cons_zero, List.set_cons_succ]
                refine wT (i := 16) (v := ?_) (⟨fun _ => rfl, Eq.trans⟩) (some 114) rfl (fun w' hw' => ?_) ?_
                rotate_left
                · go_simp; with_reducible rfl
                simp only [Act.put, List.setIfInBounds_toArray, List.set_cons_zero, List.set_cons_succ]
                refine wT (i := 17) (v := ?_) (⟨fun _ => rfl, Eq.trans⟩) (some 115) rfl (fun w' hw' => ?_) ?_
                rotate_left
                · subst hw'; go_simp; with_reducible rfl
                simp only [Act.put, List.setIfInBounds_toArray, List.set_cons_zero, List.set_cons_succ]
                refine wT (i := 18) (v := ?_) (⟨fun _ => rfl, Eq.trans⟩) (some 116) rfl (fun w' hw' => ?_) ?_
                rotate_left
                · go_simp; with_reducible rfl
                simp only [Act.put, List.setIfInBounds_toArray, List.set_cons_zero, List.set_cons_succ]
                refine wT (i := 19) (v := ?_) (⟨fun _ => rfl, Eq.trans⟩) (some 117) rfl (fun w' hw' => ?_) ?_
                rotate_left
                · go_simp; with_reducible rfl
                simp only [Act.put, List.setIfInBounds_toArray, List.set_cons_zero, List.set_cons_succ]
                refine wpR_done (by kernel_rfl) ?_ _
                go_wp2_with fail
                go_meet
                exact ⟨rfl, hgEe⟩
            · obtain rfl : pos = j := by omega
              obtain rfl : n1 = pos := by omega
              go_upto_region 14 with (fail)
              refine wpR_region (Eq) 9999 (by kernel_rfl) ?_
              (rw [← hwe]; replace hwe := Lib.hid hwe)
              refine wT (i := 0) (v := ?_) (⟨fun _ => rfl, Eq.trans⟩) (some 98) rfl (fun w' hw' => ?_) ?_
              rotate_left
              · go_simp; with_reducible rfl
              simp only [Act.put, List.setIfInBounds_toArray, List.set_cons_zero, List.set_cons_succ]
              refine wT (i := 1) (v := ?_) (⟨fun _ => rfl, Eq.trans⟩) (some 99) rfl (fun w' hw' => ?_) ?_
              rotate_left
              · go_simp; with_reducible rfl
              simp only [Act.put, List.setIfInBounds_toArray, List.set_cons_zero, List.set_cons_succ]
              refine wT (i := 2) (v := ?_) (⟨fun _ => rfl, Eq.trans⟩) (some 100) rfl (fun w' hw' => ?_) ?_
              rotate_left
              · go_simp; with_reducible rfl
              simp only [Act.put, List.setIfInBounds_toArray, List.set_cons_zero, List.set_cons_succ]
              refine wT (i := 3) (v := ?_) (⟨fun _ => rfl, Eq.trans⟩) (some 101) rfl (fun w' hw' => ?_) ?_
              rotate_left
              · go_simp; with_reducible rfl
              simp only [Act.put, List.setIfInBounds_toArray, List.set_cons_zero, List.set_cons_succ]
              refine wT (i := 4) (v := ?_) (⟨fun _ => rfl, Eq.trans⟩) (some 102) rfl (fun w' hw' => ?_) ?_
              rotate_left
              · subst hw'; go_simp; with_reducible rfl
              simp only [Act.put, List.setIfInBounds_toArray, List.set_cons_zero, List.set_cons_succ]
              refine wT (i := 5) (v := ?_) (⟨fun _ => rfl, Eq.trans⟩) (some 103) rfl (fun w' hw' => ?_) ?_
              rotate_left
              · go_simp; with_reducible rfl
              simp only [Act.put, List.setIfInBounds_toArray, List.set_cons_zero, List.set_cons_succ]
              refine wT (i := 6) (v := ?_) (⟨fun _ => rfl, Eq.trans⟩) (some 104) rfl (fun w' hw' => ?_) ?_
              rotate_left
              · go_simp; with_reducible rfl
              simp only [Act.put, List.setIfInBounds_toArray, List.set_cons_zero, List.set_cons_succ]
              refine wT (i := 7) (v := ?_) (⟨fun _ => rfl, Eq.trans⟩) (some 105) rfl (fun w' hw' => ?_) ?_
              rotate_left
              · go_simp; with_reducible rfl
              simp only [Act.put, List.setIfInBounds_toArray, List.set_cons_zero, List.set_cons_succ]
              refine wpR_skip (i := 8) (⟨fun _ => rfl, Eq.trans⟩) (some 106) rfl (by kernel_rfl) (by kernel_rfl) (by kernel_rfl) (by kernel_rfl) (by kernel_rfl) (fun _ _ _ h => h) (by kernel_rfl) ?_
              simp only [Act.put, List.setIfInBounds_toArray, List.set_cons_zero, List.set_cons_succ]
              refine wpR_skip (i := 9) (⟨fun _ => rfl, Eq.trans⟩) (some 107) rfl (by kernel_rfl) (by kernel_rfl) (by kernel_rfl) (by kernel_rfl) (by kernel_rfl) (fun _ _ _ h => h) (by kernel_rfl) ?_
              simp only [Act.put, List.setIfInBounds_toArray, List.set_cons_zero, List.set_cons_succ]
              refine wpR_skip (i := 10) (⟨fun _ => rfl, Eq.trans⟩) (some 108) rfl (by kernel_rfl) (by kernel_rfl) (by kernel_rfl) (by kernel_rfl) (by kernel_rfl) (fun _ _ _ h => h) (by kernel_rfl) ?_
              simp only [Act.put, List.setIfInBounds_toArray, List.set_cons_zero, List.set_cons_succ]
              refine wpR_skip (i := 11) (⟨fun _ => rfl, Eq.trans⟩) (some 109) rfl (by kernel_rfl) (by kernel_rfl) (by kernel_rfl) (by kernel_rfl) (by kernel_rfl) (fun _ _ _ h => h) (by kernel_rfl) ?_
              simp only [Act.put, List.setIfInBounds_toArray, List.set_cons_zero, List.set_cons_succ]
              refine wpR_skip (i := 12) (⟨fun _ => rfl, Eq.trans⟩) (some 110) rfl (by kernel_rfl) (by kernel_rfl) (by kernel_rfl) (by kernel_rfl) (by kernel_rfl) (fun _ _ _ h => h) (by kernel_rfl) ?_
              simp only [Act.put, List.setIfInBounds_toArray, List.set_cons_zero, List.set_cons_succ]
              refine wpR_skip (i := 13) (⟨fun _ => rfl, Eq.trans⟩) (some 111) rfl (by kernel_rfl) (by kernel_rfl) (by kernel_rfl) (by kernel_rfl) (by kernel_rfl) (fun _ _ _ h => h) (by kernel_rfl) ?_
              simp only [Act.put, List.setIfInBounds_toArray, List.set_cons_zero, List.set_cons_succ]
              refine wpR_skip (i := 14) (⟨fun _ => rfl, Eq.trans⟩) (some 112) rfl (by kernel_rfl) (by kernel_rfl) (by kernel_rfl) (by kernel_rfl) (by kernel_rfl) (fun _ _ _ h => h) (by kernel_rfl) ?_
              simp only [Act.put, List.setIfInBounds_toArray, List.set_cons_zero, List.set_cons_succ]
              refine wpR_skip (i := 15) (⟨fun _ => rfl, Eq.trans⟩) (some 113) rfl (by kernel_rfl) (by kernel_rfl) (by kernel_rfl) (by kernel_rfl) (by kernel_rfl) (fun _ _ _ h => h) (by kernel_rfl) ?_
              simp only [Act.put, List.setIfInBounds_toArray, List.set_cons_zero, List.set_cons_succ]
              refine wpR_skip (i := 16) (⟨fun _ => rfl, Eq.trans⟩) (some 114) rfl (by kernel_rfl) (by kernel_rfl) (by kernel_rfl) (by kernel_rfl) (by kernel_rfl) (fun _ _ _ h => h) (by kernel_rfl) ?_
              simp only [Act.put, List.setIfInBounds_toArray, List.set_cons_zero, List.set_cons_succ]
              refine wpR_skip (i := 17) (⟨fun _ => rfl, Eq.trans⟩) (some 115) rfl (by kernel_rfl) (by kernel_rfl) (by kernel_rfl) (by kernel_rfl) (by kernel_rfl) (fun _ _ _ h => h) (by kernel_rfl) ?_
              simp only [Act.put, List.setIfInBounds_toArray, List.set_cons_zero, List.set_cons_succ]
              refine wpR_skip (i := 18) (⟨fun _ => rfl, Eq.trans⟩) (some 116) rfl (by kernel_rfl) (by kernel_rfl) (by kernel_rfl) (by kernel_rfl) (by kernel_rfl) (fun _ _ _ h => h) (by kernel_rfl) ?_
              simp only [Act.put, List.setIfInBounds_toArray, List.set_cons_zero, List.set_cons_succ]
              refine wT (i := 19) (v := ?_) (⟨fun _ => rfl, Eq.trans⟩) (some 117) rfl (fun w' hw' => ?_) ?_
              rotate_left
              · go_simp; with_reducible rfl
              simp only [Act.put, List.setIfInBounds_toArray, List.set_cons_zero, List.set_cons_succ]
              refine wpR_done (by kernel_rfl) ?_ _
              go_wp2_with fail
              go_meet
              exact ⟨rfl, hgEe⟩
        case rest =>
          obtain ⟨rfl, hgF⟩ := hcut
          rename World => wF
          have hg1F := Lib.hid (hgE.out.trans hgF.out)
          have ipn : (pos : Int) ≤ (n1 : Int) := by omega
          have ipc : (pos : Int) ≤ (cH : Int) := by omega
          have hinc : (n1 : Int) ≤ (cH : Int) := by omega
          obtain ⟨qE, hqE⟩ : ∃ q : Et, q = ⟨⟨ny, ng, z, nu, np⟩, A5, c5⟩ := ⟨_, rfl⟩
          have hqv : Hid (qE.v = .slice A5 lp c5) := Lib.hid (by rw [hqE]; unfold Et.v; simp only; rw [hlp.out])
          have hqc : Hid (qE.cells = [.string (bs ny), .int .i64 ng, .int .i64 z, .string (bs nu), .slice A5 lp c5]) := Lib.hid (by unfold Et.cells; rw [hqv.out, hqE])
          have hqo : Hid (∀ q, Gr wE q → OP qE.e.places qE.v lo q) := Lib.hid (fun q hq => by rw [hqv.out, hqE]; exact (OP.gr hq hoE).out)
          have hqe' : Hid (qE.e = ⟨ny, ng, z, nu, np⟩) := Lib.hid (by rw [hqE])
          replace hqE := Lib.hid hqE
          go_upto_region 16 with (fail)
          go_cut [7] (fun v7 wq => ∃ (A7 : Option Addr) (m7 c7 : Nat), v7 = .slice A7 m7 c7 ∧ Hid (OE (y1.E.take pos ++ [qE]) (.slice A7 m7 c7) lo wq) ∧ Hid (∀ k, (Value.slice A7 m7 c7).ownBlock = some k → wF.heap.size ≤ k) ∧ Hid (Gr wF wq))
          case first =>
            obtain ⟨we, hwe⟩ : ∃ we, we = wF.drew := ⟨_, rfl⟩
            have hge : Gr wF we := by rw [hwe]; exact (Below.refl _ _).drew
            have hg1e : Gr w1 we := hg1F.out.trans hge
            obtain ⟨B2, hB2⟩ : ∃ b, we.heap.size = b := ⟨_, rfl⟩
            have hce := Lib.hid (hcT.out we hg1e)
            have hbEe := Lib.hid (blk_below hbE.out (hgF.out.trans hge))
            have hrowH := hce.out.hs.1
            rw [hvH.out, hlen1.out] at hrowH
            have hRt := ((Reads.of_own hrowH).part hcH hpn).1
            rw [flatE_take _ (by rw [hlen1.out]; exact hpn), hB2] at hRt
            have hRtl : Hid ((y1.E.take pos).length = pos) := Lib.hid (by rw [List.length_take, hlen1.out]; omega)
            have hPl : Hid (∀ q ∈ y1.E.take pos, OP q.e.places q.v lo we) := Lib.hid (fun q hq => hce.out.hs.2 q (List.mem_of_mem_take hq))
            have hqe : Hid (Below B2 we we) := Lib.hid (Below.refl _ _)
            have hze : Hid (B2 ≤ we.heap.size) := Lib.hid (by rw [hB2]; exact Nat.le_refl _)
            have hlB : Hid (lo ≤ B2) := Lib.hid (by rw [← hB2]; exact Nat.le_trans hlw1 (Below.size hg1e))
            have hgB : Hid (∀ q, Below B2 we q → Gr wF q) := Lib.hid (fun q h1 => Gr.trans hge (by unfold Gr; rw [hB2]; exact h1))
            have hFB : Hid (wF.heap.size ≤ B2) := Lib.hid (by rw [← hB2]; exact Below.size hge)
            have hqoe : Hid (OP qE.e.places qE.v lo we) := Lib.hid (hqo.out we (hgF.out.trans hge))
            replace hRt := Lib.hid hRt
            replace hrowH := Lib.hid hrowH
            replace hge := Lib.hid hge
            replace hg1e := Lib.hid hg1e
            replace hB2 := Lib.hid hB2
            refine wpR_region (Below B2) 9999 (by kernel_rfl) ?_
            (rw [← hwe]; replace hwe := Lib.hid hwe)
            refine wT (i := 1) (v := ?_) (⟨fun x => Below.refl _ x, fun h1 h2 => h1.trans h2⟩) (some 121) rfl (fun w' hw' => ?_) ?_
            rotate_left
            · go_simp; with_reducible rfl
            simp only [Act.put, List.setIfInBounds_toArray, List.set_cons_zero, List.set_cons_succ]
            refine wT (i := 2) (v := ?_) (⟨fun x => Below.refl _ x, fun h1 h2 => h1.trans h2⟩) (some 122) rfl (fun w' hw' => ?_) ?_
            rotate_left
            · go_simp; with_reducible rfl
            simp only [Act.put, List.setIfInBounds_toArray, List.set_cons_zero, List.set_cons_succ]
            refine wT (i := 3) (v := ?_) (⟨fun x => Below.refl _ x, fun h1 h2 => h1.trans h2⟩) (some 123) rfl (fun w' hw' => ?_) ?_
            rotate_left
            · go_simp; with_reducible rfl
            simp only [Act.put, List.setIfInBounds_toArray, List.set_cons_zero, List.set_cons_succ]
            refine wT (i := 4) (v := ?_) (⟨fun x => Below.refl _ x, fun h1 h2 => h1.trans h2⟩) (some 124) rfl (fun w' hw' => ?_) ?_
            rotate_left
            · have q := blk_cell (j := 1) ((hw'.block g (by rw [← hB2.out]; exact blk_lt hce.out.blk)).trans hce.out.blk) rfl; rw [hvH.out] at q; go_simp; with_reducible rfl
            simp only [Act.put, List.setIfInBounds_toArray, List.set_cons_zero, List.set_cons_succ]
            refine wT (i := 5) (v := ?_) (⟨fun x => Below.refl _ x, fun h1 h2 => h1.trans h2⟩) (some 125) rfl (fun w' hw' => ?_) ?_
            rotate_left
            · go_simp; with_reducible rfl
            simp only [Act.put, List.setIfInBounds_toArray, List.set_cons_zero, List.set_cons_succ]
            refine wT (i := 6) (v := ?_) (⟨fun x => Below.refl _ x, fun h1 h2 => h1.trans h2⟩) (some 126) rfl (fun w' hw' => ?_) ?_
            rotate_left
            · go_simp; with_reducible rfl
            simp only [Act.put, List.setIfInBounds_toArray, List.set_cons_zero, List.set_cons_succ]
            refine wT (i := 8) (v := ?_) (⟨fun x => Below.refl _ x, fun h1 h2 => h1.trans h2⟩) (some 128) rfl (fun w' hw' => ?_) ?_
            rotate_left
            · have q0 := blk_cell (j := 0) ((hw'.block eb (by rw [← hB2.out]; exact blk_lt hbEe.out)).trans hbEe.out) rfl; have q1 := blk_cell (j := 1) ((hw'.block eb (by rw [← hB2.out]; exact blk_lt hbEe.out)).trans hbEe.out) rfl; have q2 := blk_cell (j := 2) ((hw'.block eb (by rw [← hB2.out]; exact blk_lt hbEe.out)).trans hbEe.out) rfl; have q3 := blk_cell (j := 3) ((hw'.block eb (by rw [← hB2.out]; exact blk_lt hbEe.out)).trans hbEe.out) rfl; have q4 := blk_cell (j := 4) ((hw'.block eb (by rw [← hB2.out]; exact blk_lt hbEe.out)).trans hbEe.out) rfl; go_simp; with_reducible rfl
            simp only [Act.put, List.setIfInBounds_toArray, List.set_cons_zero, List.set_cons_succ]
            refine wpR_two 0 9 rfl rfl (by kernel_rfl) (by kernel_rfl) (by kernel_rfl) (fun K hK => ?_) (fun K hK => ?_)
            · go_simp
              obtain ⟨g0, hg0e⟩ : ∃ g0, we.heap.size = g0 := ⟨_, rfl⟩
              obtain ⟨V0, hV0⟩ : ∃ W, W = we.alloc (.cells #[] 43) := ⟨_, rfl⟩
              have hr0 : Below B2 we V0 := by rw [hV0]; exact (Below.refl _ _).alloc hze.out _
              have ho0 : Hid (OE [] (.slice (some ⟨g0, 0, none⟩) 0 0) lo V0) := Lib.hid (by rw [hV0, ← hg0e]; exact ⟨World.ownsRow_made _ #[] 0 (Nat.le_trans hlB.out hze.out) (by simp [maxLen]) rfl, fun x hx => by cases hx⟩)
              have hgB0 : Hid (B2 ≤ g0) := Lib.hid (by rw [← hg0e]; exact hze.out)
              have hq0 : Hid (Below B2 we V0) := Lib.hid (hqe.out.trans hr0)
              have hz0 : Hid (B2 ≤ V0.heap.size) := Lib.hid (Nat.le_trans hze.out hr0.size)
              rw [← hV0, hg0e]
              replace hV0 := Lib.hid hV0
              replace hg0e := Lib.hid hg0e
              refine hK _ _ (fun _ => hr0) ?_
              clear hK K
              try simp only [Act.put, List.setIfInBounds_toArray, List.set_cons_zero, List.set_cons_succ]
              refine wpR_two 7 9 rfl rfl (by kernel_rfl) (by kernel_rfl) (by kernel_rfl) (fun K hK => ?_) (fun K hK => ?_)
              · refine wp_appEs (.tmp 120) (.tmp 126) rfl lo _ [] (y1.E.take pos) rfl ho0.out _ _ rfl ((hRt.out.below hq0.out).more (Nat.le_refl _)) (fun q hq => ⟨row_keep (hPl.out q hq).1 (fun j hj => hq0.out.block j (by rw [← hB2.out]; exact ((hPl.out q hq).1.lt j hj).2)), (hPl.out q hq).2⟩) (by rw [hRtl.out]; simp; omega) (Nat.le_trans hlB.out hz0.out) ?_
                intro v7 V7 ho7 hgr7 hlc7
                rw [List.nil_append] at ho7
                have hr7 : Below B2 V0 V7 := (Below.refl _ _).grown hgr7 hz0.out (fun j hj => by injection hj with hj; have hj : g0 = j := hj; rw [← hj]; exact hgB0.out)
                have hown7 : Hid (∀ j, v7.ownBlock = some j → B2 ≤ j) := Lib.hid (fun j hj => by rcases hlc7 with e | e; (· have e2 := e.symm.trans hj; injection e2 with e2; have e2 : g0 = j := e2; rw [← e2]; exact hgB0.out); (· have e2 := e.symm.trans hj; injection e2 with e2; rw [← e2]; exact hz0.out))
                obtain ⟨A7, k7, rfl, -, -⟩ := ho7.form
                rw [hRtl.out] at ho7 hown7 ⊢
                replace ho7 := Lib.hid ho7
                have hq7 : Hid (Below B2 we V7) := Lib.hid (hq0.out.trans hr7)
                have hz7 : Hid (B2 ≤ V7.heap.size) := Lib.hid (Nat.le_trans hz0.out hr7.size)
                refine hK _ _ (fun _ => hr7) ?_
                clear hK K
                clear hgr7 hr7 hlc7
                try simp only [Act.put, List.setIfInBounds_toArray, List.set_cons_zero, List.set_cons_succ]
                refine wpR_one 9 rfl (by kernel_rfl) (by kernel_rfl) (fun K hK => ?_)
                go_simp
                obtain ⟨g9, hg9e⟩ : ∃ g9, V7.heap.size = g9 := ⟨_, rfl⟩
                obtain ⟨V9, hV9⟩ : ∃ W, W = V7.alloc (.cells #[.string (bs ny), .int .i64 ng, .int .i64 z, .string (bs nu), .slice A5 lp c5] 43) := ⟨_, rfl⟩
                have hr9 : Below B2 V7 V9 := by rw [hV9]; exact (Below.refl _ _).alloc hz7.out _
                have hl9 : Hid (V9.heap[g9]? = some (.cells #[.string (bs ny), .int .i64 ng, .int .i64 z, .string (bs nu), .slice A5 lp c5] 43 (0, 0))) := Lib.hid (by rw [hV9, ← hg9e]; exact heap_alloc_new _ _)
                have hq9 : Hid (Below B2 we V9) := Lib.hid (hq7.out.trans hr9)
                have hz9 : Hid (B2 ≤ V9.heap.size) := Lib.hid (Nat.le_trans hz7.out hr9.size)
                replace ho7 := Lib.hid (ho7.out.gr (show Gr V7 V9 by rw [hV9]; exact Gr.alloc _ _))
                rw [← hV9, hg9e]
                replace hV9 := Lib.hid hV9
                replace hg9e := Lib.hid hg9e
                refine hK _ _ (fun _ => hr9) ?_
                clear hK K
                try simp only [Act.put, List.setIfInBounds_toArray, List.set_cons_zero, List.set_cons_succ]
                refine wpR_one 10 rfl (by kernel_rfl) (by kernel_rfl) (fun K hK => ?_)
                refine wp_appEs (.tmp 127) (.tmp 129) rfl lo _ (y1.E.take pos) [qE] rfl ho7.out _ _ rfl (by have := Reads.blk5 hl9.out; rw [← hqc.out] at this; simpa [flatE] using this) (fun q hq => by rw [List.mem_singleton] at hq; subst hq; exact ⟨row_keep hqoe.out.1 (fun j hj => hq9.out.block j (by rw [← hB2.out]; exact (hqoe.out.1.lt j hj).2)), hqoe.out.2⟩) (by rw [hRtl.out]; simp; omega) (Nat.le_trans hlB.out hz9.out) ?_
                intro v8 V10 ho10 hgr10 hlc10
                have hr10 : Below B2 V9 V10 := (Below.refl _ _).grown hgr10 hz9.out hown7.out
                have hown10 : Hid (∀ j, v8.ownBlock = some j → wF.heap.size ≤ j) := Lib.hid (fun j hj => Nat.le_trans hFB.out (by rcases hlc10 with e | e; (· exact hown7.out j (e.symm.trans hj)); (· have e2 := e.symm.trans hj; injection e2 with e2; rw [← e2]; exact hz9.out)))
                obtain ⟨A10, k10, rfl, -, -⟩ := ho10.form
                obtain ⟨m10, hm10⟩ : ∃ m, (y1.E.take pos ++ [qE]).length = m := ⟨_, rfl⟩
                rw [hm10] at ho10 hown10 ⊢
                replace hm10 := Lib.hid hm10
                replace ho10 := Lib.hid ho10
                have hq10 : Hid (Below B2 we V10) := Lib.hid (hq9.out.trans hr10)
                refine hK _ _ (fun _ => hr10) ?_
                clear hK K
                clear hgr10 hr10 hlc10
                simp only [List.getElem_toArray, List.getElem_cons_succ, List.getElem_cons_zero, Act.put, List.setIfInBounds_toArray, List.set_cons_zero, List.set_cons_succ]
                try simp only [Act.put, List.setIfInBounds_toArray, List.set_cons_zero, List.set_cons_succ]
                refine wT (i := 11) (v := ?_) (⟨fun x => Below.refl _ x, fun h1 h2 => h1.trans h2⟩) (some 7) rfl (fun w' hw' => ?_) ?_
                rotate_left
                · go_simp; with_reducible rfl
                simp only [Act.put, List.setIfInBounds_toArray, List.set_cons_zero, List.set_cons_succ]
                refine wpR_done (by kernel_rfl) ?_ _
                go_wp2_with fail
                go_meet
                exact ⟨A10, m10, k10, rfl, ho10, hown10, Lib.hid (hgB.out _ hq10.out)⟩
              · go_simp
                obtain ⟨g9, hg9e⟩ : ∃ g9, V0.heap.size = g9 := ⟨_, rfl⟩
                obtain ⟨V9, hV9⟩ : ∃ W, W = V0.alloc (.cells #[.string (bs ny), .int .i64 ng, .int .i64 z, .string (bs nu), .slice A5 lp c5] 43) := ⟨_, rfl⟩
                have hr9 : Below B2 V0 V9 := by rw [hV9]; exact (Below.refl _ _).alloc hz0.out _
                have hl9 : Hid (V9.heap[g9]? = some (.cells #[.string (bs ny), .int .i64 ng, .int .i64 z, .string (bs nu), .slice A5 lp c5] 43 (0, 0))) := Lib.hid (by rw [hV9, ← hg9e]; exact heap_alloc_new _ _)
                have hq9 : Hid (Below B2 we V9) := Lib.hid (hq0.out.trans hr9)
                have hz9 : Hid (B2 ≤ V9.heap.size) := Lib.hid (Nat.le_trans hz0.out hr9.size)
                have hne : Hid (g9 ≠ g0) := Lib.hid (by have := (World.ownsRow.lt ho0.out.1 g0 rfl).2; omega)
                replace ho0 := Lib.hid (ho0.out.gr (show Gr V0 V9 by rw [hV9]; exact Gr.alloc _ _))
                rw [← hV9, hg9e]
                replace hV9 := Lib.hid hV9
                replace hg9e := Lib.hid hg9e
                refine hK _ _ (fun _ => hr9) ?_
                clear hK K
                try simp only [Act.put, List.setIfInBounds_toArray, List.set_cons_zero, List.set_cons_succ]
                refine wpR_one 7 rfl (by kernel_rfl) (by kernel_rfl) (fun K hK => ?_)
                refine wp_appEs (.tmp 120) (.tmp 126) rfl lo _ [] (y1.E.take pos) rfl ho0.out _ _ rfl ((hRt.out.below hq9.out).more (Nat.le_refl _)) (fun q hq => ⟨row_keep (hPl.out q hq).1 (fun j hj => hq9.out.block j (by rw [← hB2.out]; exact ((hPl.out q hq).1.lt j hj).2)), (hPl.out q hq).2⟩) (by rw [hRtl.out]; simp; omega) (Nat.le_trans hlB.out hz9.out) ?_
                intro v7 V7 ho7 hgr7 hlc7
                rw [List.nil_append] at ho7
                have hr7 : Below B2 V9 V7 := (Below.refl _ _).grown hgr7 hz9.out (fun j hj => by injection hj with hj; have hj : g0 = j := hj; rw [← hj]; exact hgB0.out)
                have hown7 : Hid (∀ j, v7.ownBlock = some j → B2 ≤ j) := Lib.hid (fun j hj => by rcases hlc7 with e | e; (· have e2 := e.symm.trans hj; injection e2 with e2; have e2 : g0 = j := e2; rw [← e2]; exact hgB0.out); (· have e2 := e.symm.trans hj; injection e2 with e2; rw [← e2]; exact hz9.out))
                replace hl9 := Lib.hid ((hgr7.block g9 (blk_lt hl9.out) (fun e => hne.out (by injection e))).trans hl9.out)
                obtain ⟨A7, k7, rfl, -, -⟩ := ho7.form
                rw [hRtl.out] at ho7 hown7 ⊢
                replace ho7 := Lib.hid ho7
                have hq7 : Hid (Below B2 we V7) := Lib.hid (hq9.out.trans hr7)
                have hz7 : Hid (B2 ≤ V7.heap.size) := Lib.hid (Nat.le_trans hz9.out hr7.size)
                refine hK _ _ (fun _ => hr7) ?_
                clear hK K
                clear hgr7 hr7 hlc7
                try simp only [Act.put, List.setIfInBounds_toArray, List.set_cons_zero, List.set_cons_succ]
                refine wpR_one 10 rfl (by kernel_rfl) (by kernel_rfl) (fun K hK => ?_)
                refine wp_appEs (.tmp 127) (.tmp 129) rfl lo _ (y1.E.take pos) [qE] rfl ho7.out _ _ rfl (by have := Reads.blk5 hl9.out; rw [← hqc.out] at this; simpa [flatE] using this) (fun q hq => by rw [List.mem_singleton] at hq; subst hq; exact ⟨row_keep hqoe.out.1 (fun j hj => hq7.out.block j (by rw [← hB2.out]; exact (hqoe.out.1.lt j hj).2)), hqoe.out.2⟩) (by rw [hRtl.out]; simp; omega) (Nat.le_trans hlB.out hz7.out) ?_
                intro v8 V10 ho10 hgr10 hlc10
                have hr10 : Below B2 V7 V10 := (Below.refl _ _).grown hgr10 hz7.out hown7.out
                have hown10 : Hid (∀ j, v8.ownBlock = some j → wF.heap.size ≤ j) := Lib.hid (fun j hj => Nat.le_trans hFB.out (by rcases hlc10 with e | e; (· exact hown7.out j (e.symm.trans hj)); (· have e2 := e.symm.trans hj; injection e2 with e2; rw [← e2]; exact hz7.out)))
                obtain ⟨A10, k10, rfl, -, -⟩ := ho10.form
                obtain ⟨m10, hm10⟩ : ∃ m, (y1.E.take pos ++ [qE]).length = m := ⟨_, rfl⟩
                rw [hm10] at ho10 hown10 ⊢
                replace hm10 := Lib.hid hm10
                replace ho10 := Lib.hid ho10
                have hq10 : Hid (Below B2 we V10) := Lib.hid (hq7.out.trans hr10)
                refine hK _ _ (fun _ => hr10) ?_
                clear hK K
                clear hgr10 hr10 hlc10
                simp only [List.getElem_toArray, List.getElem_cons_succ, List.getElem_cons_zero, Act.put, List.setIfInBounds_toArray, List.set_cons_zero, List.set_cons_succ]
                try simp only [Act.put, List.setIfInBounds_toArray, List.set_cons_zero, List.set_cons_succ]
                refine wT (i := 11) (v := ?_) (⟨fun x => Below.refl _ x, fun h1 h2 => h1.trans h2⟩) (some 7) rfl (fun w' hw' => ?_) ?_
                rotate_left
                · go_simp; with_reducible rfl
                simp only [Act.put, List.setIfInBounds_toArray, List.set_cons_zero, List.set_cons_succ]
                refine wpR_done (by kernel_rfl) ?_ _
                go_wp2_with fail
                go_meet
                exact ⟨A10, m10, k10, rfl, ho10, hown10, Lib.hid (hgB.out _ hq10.out)⟩
            · go_simp
              obtain ⟨g9, hg9e⟩ : ∃ g9, we.heap.size = g9 := ⟨_, rfl⟩
              obtain ⟨V9, hV9⟩ : ∃ W, W = we.alloc (.cells #[.string (bs ny), .int .i64 ng, .int .i64 z, .string (bs nu), .slice A5 lp c5] 43) := ⟨_, rfl⟩
              have hr9 : Below B2 we V9 := by rw [hV9]; exact (Below.refl _ _).alloc hze.out _
              have hl9 : Hid (V9.heap[g9]? = some (.cells #[.string (bs ny), .int .i64 ng, .int .i64 z, .string (bs nu), .slice A5 lp c5] 43 (0, 0))) := Lib.hid (by rw [hV9, ← hg9e]; exact heap_alloc_new _ _)
              have hq9 : Hid (Below B2 we V9) := Lib.hid (hqe.out.trans hr9)
              have hz9 : Hid (B2 ≤ V9.heap.size) := Lib.hid (Nat.le_trans hze.out hr9.size)
              rw [← hV9, hg9e]
              replace hV9 := Lib.hid hV9
              replace hg9e := Lib.hid hg9e
              refine hK _ _ (fun _ => hr9) ?_
              clear hK K
              try simp only [Act.put, List.setIfInBounds_toArray, List.set_cons_zero, List.set_cons_succ]
              refine wpR_one 0 rfl (by kernel_rfl) (by kernel_rfl) (fun K hK => ?_)
              go_simp
              obtain ⟨g0, hg0e⟩ : ∃ g0, V9.heap.size = g0 := ⟨_, rfl⟩
              obtain ⟨V0, hV0⟩ : ∃ W, W = V9.alloc (.cells #[] 43) := ⟨_, rfl⟩
              have hr0 : Below B2 V9 V0 := by rw [hV0]; exact (Below.refl _ _).alloc hz9.out _
              have ho0 : Hid (OE [] (.slice (some ⟨g0, 0, none⟩) 0 0) lo V0) := Lib.hid (by rw [hV0, ← hg0e]; exact ⟨World.ownsRow_made _ #[] 0 (Nat.le_trans hlB.out hz9.out) (by simp [maxLen]) rfl, fun x hx => by cases hx⟩)
              have hgB0 : Hid (B2 ≤ g0) := Lib.hid (by rw [← hg0e]; exact hz9.out)
              have hq0 : Hid (Below B2 we V0) := Lib.hid (hq9.out.trans hr0)
              have hz0 : Hid (B2 ≤ V0.heap.size) := Lib.hid (Nat.le_trans hz9.out hr0.size)
              have hne : Hid (g9 ≠ g0) := Lib.hid (by have := blk_lt hl9.out; omega)
              replace hl9 := Lib.hid (blk_below hl9.out (show Below V9.heap.size V9 V0 by rw [hV0]; exact Gr.alloc _ _))
              rw [← hV0, hg0e]
              replace hV0 := Lib.hid hV0
              replace hg0e := Lib.hid hg0e
              refine hK _ _ (fun _ => hr0) ?_
              clear hK K
              try simp only [Act.put, List.setIfInBounds_toArray, List.set_cons_zero, List.set_cons_succ]
              refine wpR_one 7 rfl (by kernel_rfl) (by kernel_rfl) (fun K hK => ?_)
              refine wp_appEs (.tmp 120) (.tmp 126) rfl lo _ [] (y1.E.take pos) rfl ho0.out _ _ rfl ((hRt.out.below hq0.out).more (Nat.le_refl _)) (fun q hq => ⟨row_keep (hPl.out q hq).1 (fun j hj => hq0.out.block j (by rw [← hB2.out]; exact ((hPl.out q hq).1.lt j hj).2)), (hPl.out q hq).2⟩) (by rw [hRtl.out]; simp; omega) (Nat.le_trans hlB.out hz0.out) ?_
              intro v7 V7 ho7 hgr7 hlc7
              rw [List.nil_append] at ho7
              have hr7 : Below B2 V0 V7 := (Below.refl _ _).grown hgr7 hz0.out (fun j hj => by injection hj with hj; have hj : g0 = j := hj; rw [← hj]; exact hgB0.out)
              have hown7 : Hid (∀ j, v7.ownBlock = some j → B2 ≤ j) := Lib.hid (fun j hj => by rcases hlc7 with e | e; (· have e2 := e.symm.trans hj; injection e2 with e2; have e2 : g0 = j := e2; rw [← e2]; exact hgB0.out); (· have e2 := e.symm.trans hj; injection e2 with e2; rw [← e2]; exact hz0.out))
              replace hl9 := Lib.hid ((hgr7.block g9 (blk_lt hl9.out) (fun e => hne.out (by injection e))).trans hl9.out)
              obtain ⟨A7, k7, rfl, -, -⟩ := ho7.form
              rw [hRtl.out] at ho7 hown7 ⊢
              replace ho7 := Lib.hid ho7
              have hq7 : Hid (Below B2 we V7) := Lib.hid (hq0.out.trans hr7)
              have hz7 : Hid (B2 ≤ V7.heap.size) := Lib.hid (Nat.le_trans hz0.out hr7.size)
              refine hK _ _ (fun _ => hr7) ?_
              clear hK K
              clear hgr7 hr7 hlc7
              try simp only [Act.put, List.setIfInBounds_toArray, List.set_cons_zero, List.set_cons_succ]
              refine wpR_one 10 rfl (by kernel_rfl) (by kernel_rfl) (fun K hK => ?_)
              refine wp_appEs (.tmp 127) (.tmp 129) rfl lo _ (y1.E.take pos) [qE] rfl ho7.out _ _ rfl (by have := Reads.blk5 hl9.out; rw [← hqc.out] at this; simpa [flatE] using this) (fun q hq => by rw [List.mem_singleton] at hq; subst hq; exact ⟨row_keep hqoe.out.1 (fun j hj => hq7.out.block j (by rw [← hB2.out]; exact (hqoe.out.1.lt j hj).2)), hqoe.out.2⟩) (by rw [hRtl.out]; simp; omega) (Nat.le_trans hlB.out hz7.out) ?_
              intro v8 V10 ho10 hgr10 hlc10
              have hr10 : Below B2 V7 V10 := (Below.refl _ _).grown hgr10 hz7.out hown7.out
              have hown10 : Hid (∀ j, v8.ownBlock = some j → wF.heap.size ≤ j) := Lib.hid (fun j hj => Nat.le_trans hFB.out (by rcases hlc10 with e | e; (· exact hown7.out j (e.symm.trans hj)); (· have e2 := e.symm.trans hj; injection e2 with e2; rw [← e2]; exact hz7.out)))
              obtain ⟨A10, k10, rfl, -, -⟩ := ho10.form
              obtain ⟨m10, hm10⟩ : ∃ m, (y1.E.take pos ++ [qE]).length = m := ⟨_, rfl⟩
              rw [hm10] at ho10 hown10 ⊢
              replace hm10 := Lib.hid hm10
              replace ho10 := Lib.hid ho10
              have hq10 : Hid (Below B2 we V10) := Lib.hid (hq7.out.trans hr10)
              refine hK _ _ (fun _ => hr10) ?_
              clear hK K
              clear hgr10 hr10 hlc10
              simp only [List.getElem_toArray, List.getElem_cons_succ, List.getElem_cons_zero, Act.put, List.setIfInBounds_toArray, List.set_cons_zero, List.set_cons_succ]
              try simp only [Act.put, List.setIfInBounds_toArray, List.set_cons_zero, List.set_cons_succ]
              refine wT (i := 11) (v := ?_) (⟨fun x => Below.refl _ x, fun h1 h2 => h1.trans h2⟩) (some 7) rfl (fun w' hw' => ?_) ?_
              rotate_left
              · go_simp; with_reducible rfl
              simp only [Act.put, List.setIfInBounds_toArray, List.set_cons_zero, List.set_cons_succ]
              refine wpR_done (by kernel_rfl) ?_ _
              go_wp2_with fail
              go_meet
              exact ⟨A10, m10, k10, rfl, ho10, hown10, Lib.hid (hgB.out _ hq10.out)⟩
          case rest =>
            obtain ⟨A7, m7, c7, rfl, ho7, hown7, hg7⟩ := hcut
            rename World => wG
            have hg1G : Gr w1 wG := hg1F.out.trans hg7.out
            have hcG := hcT.out wG hg1G
            have hrowG := hcG.hs.1
            rw [hvH.out, hlen1.out] at hrowG
            have hRd := ((Reads.of_own hrowG).part hcH hpn).2
            rw [flatE_drop _ (by rw [hlen1.out]; exact hpn)] at hRd
            have hPd : Hid (∀ q ∈ y1.E.drop pos, OP q.e.places q.v lo wG) := Lib.hid (fun q hq => hcG.hs.2 q (List.mem_of_mem_drop hq))
            have hl7 : Hid ((y1.E.take pos ++ [qE]).length + (y1.E.drop pos).length ≤ 1000000) := Lib.hid (by rw [List.length_append, List.length_take, List.length_drop, hlen1.out]; simp; omega)
            have g1 := blk_cell (j := 1) hcG.blk rfl
            rw [hvH.out] at g1
            have hgl : g < w1.heap.size := blk_lt hc1.out.blk
            have hloG : lo ≤ wG.heap.size := Nat.le_trans hlw1 (Below.size hg1G)
            have hbG := Lib.hid hcG.blk
            have hF1 : w1.heap.size ≤ wF.heap.size := Below.size hg1F.out
            replace hRd := Lib.hid hRd
            replace hrowG := Lib.hid hrowG
            replace hg1G := Lib.hid hg1G
            replace hcG := Lib.hid hcG
            go_wp2_with (at_builtin; go_must (refine wpl_appEs rfl (.tmp 132) (.tmp 138) rfl lo _ (y1.E.take pos ++ [qE]) (y1.E.drop pos) rfl ho7.out _ _ rfl hRd.out hPd.out hl7.out hloG ?_); intro v9 W9 ho9 hg9 hloc9; obtain ⟨A9, c9, rfl, -, -⟩ := ho9.form; generalize hm9 : (y1.E.take pos ++ [qE] ++ y1.E.drop pos).length = m9 at *; have hb9 := (hg9.block g (by have := Below.size hg1G.out; omega) (fun e => by have := hown7.out g e.symm; omega)).trans hbG.out; have e9 := blk_cell (j := 1) hb9 rfl; have f9 := blk_free hb9 1; have hg19 : Hid (Gr w1 W9) := Lib.hid (Below.grown hg1G.out hg9 (by exact Below.size hg1G.out) (fun k hk => Nat.le_trans hF1 (hown7.out k hk))); replace hb9 := Lib.hid hb9; replace ho9 := Lib.hid ho9; replace hg9 := Lib.hid hg9; replace hm9 := Lib.hid hm9; replace hloc9 := Lib.hid hloc9)
            all_goals (
              have hfin := (hcT.out W9 hg19.out).setE (E' := insP c1.E ny ⟨ny, ng, z, nu, np⟩) (E2 := y1.E.take pos ++ [qE] ++ y1.E.drop pos) ho9.out (by
                rw [insP_at, hpos.out]
                simp only [List.map_append, List.map_cons, List.map_nil, List.map_take, List.map_drop, hc1.out.he, hqe'.out]
                simp)
              have hact : Hid (RcAct lo g y w { c1 with E := insP c1.E ny ⟨ny, ng, z, nu, np⟩ } (W9.setCell ⟨g, 1, none⟩ (.slice A9 m9 c9))) := Lib.hid (hfr.out (RcAct.from_ hgd.out (RcAct.two hu1.out hS1.out ⟨_, Lib.hid hfin, Upd.gr_set hg19.out (.inl rfl), fun q hq => .inl hq⟩)))
              replace hfin := Lib.hid hfin
              go_ret
              exact ⟨by subst hrc; rfl, by subst hrc; rw [← hc1e.out] at hact; exact hact.out⟩)
    · have hne : ((lp : Int) == (q : Int)) = false := beq_eq_false_iff_ne.mpr (by omega)
      obtain rfl : rc = (12, c) := by rw [← hrc, if_pos (.inr (.inr (by rw [hgz.out, hlp.out]; intro e; exact hlq (e.trans hq.out))))]
      go_enter Tryz.func6, Tryz.ntmps6
      go_upto_region 9 with (fail)
      clear z0 z1 z2 z4 z6
      refine wpR_region (Eq) 9999 (by kernel_rfl) ?_
      (rw [← hwd]; replace hwd := Lib.hid hwd)
      refine wT (i := 0) (v := ?_) (⟨fun _ => rfl, Eq.trans⟩) (some 43) rfl (fun w' hw' => ?_) ?_
      rotate_left
      · go_simp; with_reducible rfl
      simp only [Act.put, List.setIfInBounds_toArray, List.set_cons_zero, List.set_cons_succ]
      refine wT (i := 1) (v := ?_) (⟨fun _ => rfl, Eq.trans⟩) (some 44) rfl (fun w' hw' => ?_) ?_
      rotate_left
      · subst hw'; go_simp; with_reducible rfl
      simp only [Act.put, List.setIfInBounds_toArray, List.set_cons_zero, List.set_cons_succ]
      refine wpR_one 2 rfl (by kernel_rfl) (by kernel_rfl) (fun K hK => ?_)
      go_simp
      refine (hnm.out _).mono ?_
      rintro e w' ⟨rfl, hww⟩
      rw [hww]
      clear hww w'
      refine hK _ _ (fun _ => rfl) ?_
      clear hK K
      clear hnm
      try simp only [Act.put, List.setIfInBounds_toArray, List.set_cons_zero, List.set_cons_succ]
      refine wT (i := 3) (v := ?_) (⟨fun _ => rfl, Eq.trans⟩) (some 46) rfl (fun w' hw' => ?_) ?_
      rotate_left
      · go_simp; with_reducible rfl
      simp only [Act.put, List.setIfInBounds_toArray, List.set_cons_zero, List.set_cons_succ]
      refine wT (i := 4) (v := ?_) (⟨fun _ => rfl, Eq.trans⟩) (some 47) rfl (fun w' hw' => ?_) ?_
      rotate_left
      · go_simp; with_reducible rfl
      simp only [Act.put, List.setIfInBounds_toArray, List.set_cons_zero, List.set_cons_succ]
      refine wT (i := 5) (v := ?_) (⟨fun _ => rfl, Eq.trans⟩) (some 48) rfl (fun w' hw' => ?_) ?_
      rotate_left
      · go_simp; with_reducible rfl
      simp only [Act.put, List.setIfInBounds_toArray, List.set_cons_zero, List.set_cons_succ]
      refine wT (i := 6) (v := ?_) (⟨fun _ => rfl, Eq.trans⟩) (some 49) rfl (fun w' hw' => ?_) ?_
      rotate_left
      · subst hw'; go_simp; with_reducible rfl
      simp only [Act.put, List.setIfInBounds_toArray, List.set_cons_zero, List.set_cons_succ]
      refine wT (i := 7) (v := ?_) (⟨fun _ => rfl, Eq.trans⟩) (some 50) rfl (fun w' hw' => ?_) ?_
      rotate_left
      · go_simp; with_reducible rfl
      simp only [Act.put, List.setIfInBounds_toArray, List.set_cons_zero, List.set_cons_succ]
      refine wT (i := 8) (v := ?_) (⟨fun _ => rfl, Eq.trans⟩) (some 51) rfl (fun w' hw' => ?_) ?_
      rotate_left
      · go_simp; with_reducible rfl
      simp only [Act.put, List.setIfInBounds_toArray, List.set_cons_zero, List.set_cons_succ]
      refine wT (i := 9) (v := ?_) (⟨fun _ => rfl, Eq.trans⟩) (some 52) rfl (fun w' hw' => ?_) ?_
      rotate_left
      · go_simp; with_reducible rfl
      simp only [Act.put, List.setIfInBounds_toArray, List.set_cons_zero, List.set_cons_succ]
      refine wT (i := 10) (v := ?_) (⟨fun _ => rfl, Eq.trans⟩) (some 53) rfl (fun w' hw' => ?_) ?_
      rotate_left
      · go_simp; with_reducible rfl
      simp only [Act.put, List.setIfInBounds_toArray, List.set_cons_zero, List.set_cons_succ]
      refine wT (i := 11) (v := ?_) (⟨fun _ => rfl, Eq.trans⟩) (some 54) rfl (fun w' hw' => ?_) ?_
      rotate_left
      · subst hw'; go_simp; with_reducible rfl
      simp only [Act.put, List.setIfInBounds_toArray, List.set_cons_zero, List.set_cons_succ]
      refine wT (i := 12) (v := ?_) (⟨fun _ => rfl, Eq.trans⟩) (some 55) rfl (fun w' hw' => ?_) ?_
      rotate_left
      · go_simp; with_reducible rfl
      simp only [Act.put, List.setIfInBounds_toArray, List.set_cons_zero, List.set_cons_succ]
      refine wT (i := 13) (v := ?_) (⟨fun _ => rfl, Eq.trans⟩) (some 56) rfl (fun w' hw' => ?_) ?_
      rotate_left
      · go_simp; with_reducible rfl
      simp only [Act.put, List.setIfInBounds_toArray, List.set_cons_zero, List.set_cons_succ]
      refine wT (i := 14) (v := ?_) (⟨fun _ => rfl, Eq.trans⟩) (some 57) rfl (fun w' hw' => ?_) ?_
      rotate_left
      · go_simp; with_reducible rfl
      simp only [Act.put, List.setIfInBounds_toArray, List.set_cons_zero, List.set_cons_succ]
      refine wT (i := 15) (v := ?_) (⟨fun _ => rfl, Eq.trans⟩) (some 58) rfl (fun w' hw' => ?_) ?_
      rotate_left
      · subst hw'; go_simp; with_reducible rfl
      simp only [Act.put, List.setIfInBounds_toArray, List.set_cons_zero, List.set_cons_succ]
      refine wT (i := 16) (v := ?_) (⟨fun _ => rfl, Eq.trans⟩) (some 59) rfl (fun w' hw' => ?_) ?_
      rotate_left
      · go_simp; with_reducible rfl
      simp only [Act.put, List.setIfInBounds_toArray, List.set_cons_zero, List.set_cons_succ]
      refine wT (i := 17) (v := ?_) (⟨fun _ => rfl, Eq.trans⟩) (some 60) rfl (fun w' hw' => ?_) ?_
      rotate_left
      · go_simp; with_reducible rfl
      simp only [Act.put, List.setIfInBounds_toArray, List.set_cons_zero, List.set_cons_succ]
      refine wT (i := 18) (v := ?_) (⟨fun _ => rfl, Eq.trans⟩) (some 61) rfl (fun w' hw' => ?_) ?_
      rotate_left
      · go_simp; with_reducible rfl
      simp only [Act.put, List.setIfInBounds_toArray, List.set_cons_zero, List.set_cons_succ]
      refine wT (i := 19) (v := ?_) (⟨fun _ => rfl, Eq.trans⟩) (some 62) rfl (fun w' hw' => ?_) ?_
      rotate_left
      · go_simp; with_reducible rfl
      simp only [Act.put, List.setIfInBounds_toArray, List.set_cons_zero, List.set_cons_succ]
      refine wT (i := 20) (v := ?_) (⟨fun _ => rfl, Eq.trans⟩) (some 63) rfl (fun w' hw' => ?_) ?_
      rotate_left
      · subst hw'; go_simp; with_reducible rfl
      simp only [Act.put, List.setIfInBounds_toArray, List.set_cons_zero, List.set_cons_succ]
      refine wT (i := 21) (v := ?_) (⟨fun _ => rfl, Eq.trans⟩) (some 64) rfl (fun w' hw' => ?_) ?_
      rotate_left
      · go_simp; with_reducible rfl
      simp only [Act.put, List.setIfInBounds_toArray, List.set_cons_zero, List.set_cons_succ]
      refine wT (i := 22) (v := ?_) (⟨fun _ => rfl, Eq.trans⟩) (some 65) rfl (fun w' hw' => ?_) ?_
      rotate_left
      · go_simp; with_reducible rfl
      simp only [Act.put, List.setIfInBounds_toArray, List.set_cons_zero, List.set_cons_succ]
      refine wT (i := 23) (v := ?_) (⟨fun _ => rfl, Eq.trans⟩) (some 66) rfl (fun w' hw' => ?_) ?_
      rotate_left
      · go_simp; with_reducible rfl
      simp only [Act.put, List.setIfInBounds_toArray, List.set_cons_zero, List.set_cons_succ]
      refine wT (i := 24) (v := ?_) (⟨fun _ => rfl, Eq.trans⟩) (some 67) rfl (fun w' hw' => ?_) ?_
      rotate_left
      · go_simp; with_reducible rfl
      simp only [Act.put, List.setIfInBounds_toArray, List.set_cons_zero, List.set_cons_succ]
      refine wT (i := 25) (v := ?_) (⟨fun _ => rfl, Eq.trans⟩) (some 68) rfl (fun w' hw' => ?_) ?_
      rotate_left
      · subst hw'; go_simp; with_reducible rfl
      simp only [Act.put, List.setIfInBounds_toArray, List.set_cons_zero, List.set_cons_succ]
      refine wT (i := 26) (v := ?_) (⟨fun _ => rfl, Eq.trans⟩) (some 69) rfl (fun w' hw' => ?_) ?_
      rotate_left
      · go_simp; with_reducible rfl
      simp only [Act.put, List.setIfInBounds_toArray, List.set_cons_zero, List.set_cons_succ]
      refine wT (i := 27) (v := ?_) (⟨fun _ => rfl, Eq.trans⟩) (some 70) rfl (fun w' hw' => ?_) ?_
      rotate_left
      · go_simp; with_reducible rfl
      simp only [Act.put, List.setIfInBounds_toArray, List.set_cons_zero, List.set_cons_succ]
      refine wT (i := 28) (v := ?_) (⟨fun _ => rfl, Eq.trans⟩) (some 71) rfl (fun w' hw' => ?_) ?_
      rotate_left
      · go_simp; with_reducible rfl
      simp only [Act.put, List.setIfInBounds_toArray, List.set_cons_zero, List.set_cons_succ]
      refine wT (i := 29) (v := ?_) (⟨fun _ => rfl, Eq.trans⟩) (some 72) rfl (fun w' hw' => ?_) ?_
      rotate_left
      · go_simp; with_reducible rfl
      simp only [Act.put, List.setIfInBounds_toArray, List.set_cons_zero, List.set_cons_succ]
      refine wT (i := 30) (v := ?_) (⟨fun _ => rfl, Eq.trans⟩) (some 73) rfl (fun w' hw' => ?_) ?_
      rotate_left
      · subst hw'; go_simp; with_reducible rfl
      simp only [Act.put, List.setIfInBounds_toArray, List.set_cons_zero, List.set_cons_succ]
      refine wT (i := 31) (v := ?_) (⟨fun _ => rfl, Eq.trans⟩) (some 74) rfl (fun w' hw' => ?_) ?_
      rotate_left
      · go_simp; with_reducible rfl
      simp only [Act.put, List.setIfInBounds_toArray, List.set_cons_zero, List.set_cons_succ]
      refine wT (i := 32) (v := ?_) (⟨fun _ => rfl, Eq.trans⟩) (some 75) rfl (fun w' hw' => ?_) ?_
      rotate_left
      · go_simp; with_reducible rfl
      simp only [Act.put, List.setIfInBounds_toArray, List.set_cons_zero, List.set_cons_succ]
      refine wT (i := 33) (v := ?_) (⟨fun _ => rfl, Eq.trans⟩) (some 76) rfl (fun w' hw' => ?_) ?_
      rotate_left
      · subst hw'; go_simp; with_reducible rfl
      simp only [Act.put, List.setIfInBounds_toArray, List.set_cons_zero, List.set_cons_succ]
      refine wpR_one 34 rfl (by kernel_rfl) (by kernel_rfl) (fun K hK => ?_)
      go_simp
      refine (hgrp.out _).mono ?_
      rintro e w' ⟨rfl, hww⟩
      rw [hww]
      clear hww w'
      refine hK _ _ (fun _ => rfl) ?_
      clear hK K
      clear hgrp
      try simp only [Act.put, List.setIfInBounds_toArray, List.set_cons_zero, List.set_cons_succ]
      refine wT (i := 35) (v := ?_) (⟨fun _ => rfl, Eq.trans⟩) (some 78) rfl (fun w' hw' => ?_) ?_
      rotate_left
      · go_simp; with_reducible rfl
      simp only [Act.put, List.setIfInBounds_toArray, List.set_cons_zero, List.set_cons_succ]
      refine wT (i := 36) (v := ?_) (⟨fun _ => rfl, Eq.trans⟩) (some 79) rfl (fun w' hw' => ?_) ?_
      rotate_left
      · go_simp; with_reducible rfl
      simp only [Act.put, List.setIfInBounds_toArray, List.set_cons_zero, List.set_cons_succ]
      refine wT (i := 37) (v := ?_) (⟨fun _ => rfl, Eq.trans⟩) (some 80) rfl (fun w' hw' => ?_) ?_
      rotate_left
      · go_simp; with_reducible rfl
      simp only [Act.put, List.setIfInBounds_toArray, List.set_cons_zero, List.set_cons_succ]
      refine wpR_done (by kernel_rfl) ?_ _
      clear hrc
      go_wp2_with fail
      go_ret
      exact ⟨rfl, hsm2.out⟩
end Go.Proofs.YthboeoidgglcgaaGreat
