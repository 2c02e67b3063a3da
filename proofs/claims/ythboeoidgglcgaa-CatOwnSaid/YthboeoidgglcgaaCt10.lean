/- cat: New; a key that may be named; a blob that is not staged any more. -/
import Derived.Test.YthboeoidgglcgaaCt9
import Derived.Test.YthboeoidgglcgaaReg2
namespace Go.Proofs.Ythboeoidgglcgaa
set_option linter.unusedVariables false
set_option linter.unusedSimpArgs false
open Go Go.RowKit Go.Maps
set_option maxRecDepth 10000 in
theorem cnew_any (w : World) : Calls Try.prog 10 #[] w fun e w' => ∃ g x, e = .returned (.pointer (some ⟨g, 0, none⟩)) ∧ Ca w' w.heap.size g x CtP.none_ 0 ∧ Gr w w' := by
  have hmm := @run_makeMap Try.prog
  go_enter Try.func10, Try.ntmps10
  go_wp2_with fail
  go_ret
  refine ⟨_, ⟨.slice none 0 0, .slice none 0 0, w.heap.size, w.heap.size + 1, w.heap.size + 2, [], []⟩, rfl, ?_, ((Gr.alloc _ _).trans (Gr.alloc _ _)).trans ((Gr.alloc _ _).trans (Gr.alloc _ _))⟩
  have m0 : MapB (((w.alloc (.map #[] 0)).alloc (.map #[] 0)).alloc (.map #[] 0)) 9 KS w.heap.size 0 ([] : List (By × Value)) := ⟨0, _, Nat.le_refl _, World.ownsMap.alloc (World.ownsMap.alloc (World.ownsMap_made w _ _ _) _) _, MpR.nil_ _⟩
  have m1 : MapB (((w.alloc (.map #[] 0)).alloc (.map #[] 0)).alloc (.map #[] 0)) 9 KS (w.heap.size + 1) 0 ([] : List (By × Value)) := ⟨0, _, Nat.le_refl _, by have := World.ownsMap.alloc (World.ownsMap_made (w.alloc (.map #[] 0)) Try.prog 9 RV) (.map #[] 0); simpa using this, MpR.nil_ _⟩
  have m2 : MapB (((w.alloc (.map #[] 0)).alloc (.map #[] 0)).alloc (.map #[] 0)) 3 KI (w.heap.size + 2) 0 ([] : List (Int × Value)) := ⟨0, _, Nat.le_refl _, by have := World.ownsMap_made ((w.alloc (.map #[] 0)).alloc (.map #[] 0)) Try.prog 3 RV; simpa using this, MpR.nil_ _⟩
  obtain ⟨w3, hw3⟩ : ∃ w3, ((w.alloc (.map #[] 0)).alloc (.map #[] 0)).alloc (.map #[] 0) = w3 := ⟨_, rfl⟩
  have hs3 : w3.heap.size = w.heap.size + 3 := by rw [← hw3]; simp
  rw [hw3] at m0 m1 m2
  refine Cr.ca (c := CtP.none_) ⟨?_, by omega, ⟨Nat.le_refl _, by show w.heap.size ≤ w.heap.size + 1; omega, by show w.heap.size ≤ w.heap.size + 2; omega⟩, ⟨by show w.heap.size ≠ w.heap.size + 1; omega, by show w.heap.size ≠ w.heap.size + 2; omega, by show w.heap.size + 1 ≠ w.heap.size + 2; omega⟩, World.ownsRow_nil _ _ _ 2, fun e he => (by cases he), ?_, fun e he => (by cases he), ?_, World.ownsRow_nil _ _ _ 2, ?_⟩ rfl rfl CtP.none_ok ⟨Nat.le_refl _, Nat.le_refl _, Nat.le_refl _, Nat.le_refl _, Nat.le_refl _⟩
  · have := heap_alloc_new w3 (.cells #[.slice none 0 0, .map (some w.heap.size), .map (some (w.heap.size + 1)), .slice none 0 0, .map (some (w.heap.size + 2)), .int .i64 0] 65)
    rw [hs3] at this
    rw [hw3]
    exact this
  · rw [hw3]; exact m0.keep (Below.heap_alloc _ _ _ (by rw [hs3]; show w.heap.size < _; omega))
  · rw [hw3]; exact m1.keep (Below.heap_alloc _ _ _ (by rw [hs3]; show w.heap.size + 1 < _; omega))
  · rw [hw3]; exact m2.keep (Below.heap_alloc _ _ _ (by rw [hs3]; show w.heap.size + 2 < _; omega))
section
variable (lo g t : Nat) (x : CtX) (c : CtP) (w : World) (h : Hid (Ca w lo g x c t))
include h
set_option maxRecDepth 10000 in
set_option maxHeartbeats 1000000 in
theorem named_any (n : Nt) (v : Value) (hk : n.key.length ≤ maxLen) (hv : NtV n v w) : Calls Try.prog 53 #[.pointer (some ⟨g, 0, none⟩), v] w fun e w' => e = .returned (.bool (c.named n.key n.gen)) ∧ Gr w w' := by
  obtain ⟨A, ca, A2, c2, rfl, -, -⟩ := hv
  obtain ⟨N, hN⟩ : ∃ N, w.heap.size = N := ⟨_, rfl⟩
  obtain ⟨nk, ny, ng, nc, nd, nu, ns, np⟩ := n
  unfold Nt.agg
  simp only at hk ⊢
  generalize nd.length = ld
  generalize np.length = lp
  obtain ⟨W, hW⟩ : ∃ W, w.alloc (.cells #[.int .i64 nk, .string (bs ny), .int .i64 ng, .int .i64 nc, .slice A ld ca, .string (bs nu), .int .i64 ns, .slice A2 lp c2] 32) = W := ⟨_, rfl⟩
  have hgW : Gr w W := by rw [← hW]; exact Gr.alloc _ _
  have hbW : W.heap[N]? = some (.cells #[.int .i64 nk, .string (bs ny), .int .i64 ng, .int .i64 nc, .slice A ld ca, .string (bs nu), .int .i64 ns, .slice A2 lp c2] 32 (0, 0)) := by rw [← hW, ← hN]; exact heap_alloc_new w _
  obtain ⟨wd, hwd⟩ : ∃ wd, wd = W.drew := ⟨_, rfl⟩
  have hgd : Gr w wd := by rw [hwd]; exact hgW.trans ((Below.refl _ _).drew)
  have y1 : wd.cell? ⟨N, 1, none⟩ = some (.string (bs ny)) := by rw [hwd]; exact blk_cell (j := 1) hbW rfl
  have y2 : wd.cell? ⟨N, 2, none⟩ = some (.int .i64 ng) := by rw [hwd]; exact blk_cell (j := 2) hbW rfl
  have c5 := blk_cell (j := 5) (h.out.gr hgd).blk rfl
  have hkc := Lib.hid (fitKey_any ny hk wd)
  have hin := in_any ng 1 c.G wd
  have hnm : c.named ny ng = (keyOk ny && inB ng 1 c.G) := rfl
  rw [hnm]
  generalize c.G = G at c5 hin
  replace hin := Lib.hid hin
  replace hgd := Lib.hid hgd
  replace hgW := Lib.hid hgW
  replace hbW := Lib.hid hbW
  clear h hnm
  go_enter Try.func53, Try.ntmps53
  go_upto_region 1 with (fail)
  replace hW := Lib.hid hW
  replace hN := Lib.hid hN
  cases hko : keyOk ny with
  | true =>
    rw [hko] at hkc
    replace hko := Lib.hid hko
    refine wpR_region (Eq) 9999 (by kernel_rfl) ?_
    (rw [← hwd]; replace hwd := Lib.hid hwd)
    refine wpR_take (i := 0) (v := ?_) (⟨fun _ => rfl, Eq.trans⟩) (some 5) rfl (by kernel_rfl) (by kernel_rfl) (by kernel_rfl) (by kernel_rfl) (by kernel_rfl) (fun _ _ _ h => h) (by kernel_rfl) (fun w' hw' => ?_) ?_
    rotate_left
    · go_simp; with_reducible rfl
    simp only [Act.put, List.setIfInBounds_toArray, List.set_cons_zero, List.set_cons_succ]
    refine wpR_take (i := 1) (v := ?_) (⟨fun _ => rfl, Eq.trans⟩) (some 6) rfl (by kernel_rfl) (by kernel_rfl) (by kernel_rfl) (by kernel_rfl) (by kernel_rfl) (fun _ _ _ h => h) (by kernel_rfl) (fun w' hw' => ?_) ?_
    rotate_left
    · subst hw'; go_simp; with_reducible rfl
    simp only [Act.put, List.setIfInBounds_toArray, List.set_cons_zero, List.set_cons_succ]
    refine wpR_one 2 rfl (by kernel_rfl) (by kernel_rfl) (fun K hK => ?_)
    go_simp
    refine hkc.out.mono ?_
    rintro e w' ⟨rfl, hee⟩
    rw [hee]
    clear hee
    refine hK _ _ (fun _ => rfl) ?_
    clear hK K
    try simp only [Act.put, List.setIfInBounds_toArray, List.set_cons_zero, List.set_cons_succ]
    refine wpR_take (i := 3) (v := ?_) (⟨fun _ => rfl, Eq.trans⟩) (some 8) rfl (by kernel_rfl) (by kernel_rfl) (by kernel_rfl) (by kernel_rfl) (by kernel_rfl) (fun _ _ _ h => h) (by kernel_rfl) (fun w' hw' => ?_) ?_
    rotate_left
    · go_simp; with_reducible rfl
    simp only [Act.put, List.setIfInBounds_toArray, List.set_cons_zero, List.set_cons_succ]
    refine wpR_take (i := 4) (v := ?_) (⟨fun _ => rfl, Eq.trans⟩) (some 9) rfl (by kernel_rfl) (by kernel_rfl) (by kernel_rfl) (by kernel_rfl) (by kernel_rfl) (fun _ _ _ h => h) (by kernel_rfl) (fun w' hw' => ?_) ?_
    rotate_left
    · go_simp; with_reducible rfl
    simp only [Act.put, List.setIfInBounds_toArray, List.set_cons_zero, List.set_cons_succ]
    refine wpR_take (i := 5) (v := ?_) (⟨fun _ => rfl, Eq.trans⟩) (some 10) rfl (by kernel_rfl) (by kernel_rfl) (by kernel_rfl) (by kernel_rfl) (by kernel_rfl) (fun _ _ _ h => h) (by kernel_rfl) (fun w' hw' => ?_) ?_
    rotate_left
    · subst hw'; go_simp; with_reducible rfl
    simp only [Act.put, List.setIfInBounds_toArray, List.set_cons_zero, List.set_cons_succ]
    refine wpR_take (i := 6) (v := ?_) (⟨fun _ => rfl, Eq.trans⟩) (some 11) rfl (by kernel_rfl) (by kernel_rfl) (by kernel_rfl) (by kernel_rfl) (by kernel_rfl) (fun _ _ _ h => h) (by kernel_rfl) (fun w' hw' => ?_) ?_
    rotate_left
    · go_simp; with_reducible rfl
    simp only [Act.put, List.setIfInBounds_toArray, List.set_cons_zero, List.set_cons_succ]
    refine wpR_take (i := 7) (v := ?_) (⟨fun _ => rfl, Eq.trans⟩) (some 12) rfl (by kernel_rfl) (by kernel_rfl) (by kernel_rfl) (by kernel_rfl) (by kernel_rfl) (fun _ _ _ h => h) (by kernel_rfl) (fun w' hw' => ?_) ?_
    rotate_left
    · go_simp; with_reducible rfl
    simp only [Act.put, List.setIfInBounds_toArray, List.set_cons_zero, List.set_cons_succ]
    refine wpR_take (i := 8) (v := ?_) (⟨fun _ => rfl, Eq.trans⟩) (some 13) rfl (by kernel_rfl) (by kernel_rfl) (by kernel_rfl) (by kernel_rfl) (by kernel_rfl) (fun _ _ _ h => h) (by kernel_rfl) (fun w' hw' => ?_) ?_
    rotate_left
    · go_simp; with_reducible rfl
    simp only [Act.put, List.setIfInBounds_toArray, List.set_cons_zero, List.set_cons_succ]
    refine wpR_take (i := 9) (v := ?_) (⟨fun _ => rfl, Eq.trans⟩) (some 14) rfl (by kernel_rfl) (by kernel_rfl) (by kernel_rfl) (by kernel_rfl) (by kernel_rfl) (fun _ _ _ h => h) (by kernel_rfl) (fun w' hw' => ?_) ?_
    rotate_left
    · subst hw'; go_simp; with_reducible rfl
    simp only [Act.put, List.setIfInBounds_toArray, List.set_cons_zero, List.set_cons_succ]
    refine wpR_one 10 rfl (by kernel_rfl) (by kernel_rfl) (fun K hK => ?_)
    go_simp
    refine hin.out.mono ?_
    rintro e w' ⟨rfl, hee⟩
    rw [hee]
    clear hee
    refine hK _ _ (fun _ => rfl) ?_
    clear hK K
    try simp only [Act.put, List.setIfInBounds_toArray, List.set_cons_zero, List.set_cons_succ]
    refine wpR_take (i := 11) (v := ?_) (⟨fun _ => rfl, Eq.trans⟩) (some 16) rfl (by kernel_rfl) (by kernel_rfl) (by kernel_rfl) (by kernel_rfl) (by kernel_rfl) (fun _ _ _ h => h) (by kernel_rfl) (fun w' hw' => ?_) ?_
    rotate_left
    · go_simp; with_reducible rfl
    simp only [Act.put, List.setIfInBounds_toArray, List.set_cons_zero, List.set_cons_succ]
    refine wpR_take (i := 12) (v := ?_) (⟨fun _ => rfl, Eq.trans⟩) (some 4) rfl (by kernel_rfl) (by kernel_rfl) (by kernel_rfl) (by kernel_rfl) (by kernel_rfl) (fun _ _ _ h => h) (by kernel_rfl) (fun w' hw' => ?_) ?_
    rotate_left
    · go_simp; with_reducible rfl
    simp only [Act.put, List.setIfInBounds_toArray, List.set_cons_zero, List.set_cons_succ]
    refine wpR_done (by kernel_rfl) ?_ _
    go_wp2_with fail
    go_ret
    exact ⟨by simp [hko.out], hgd.out⟩
  | false =>
    rw [hko] at hkc
    replace hko := Lib.hid hko
    refine wpR_region (Eq) 9999 (by kernel_rfl) ?_
    (rw [← hwd]; replace hwd := Lib.hid hwd)
    refine wpR_take (i := 0) (v := ?_) (⟨fun _ => rfl, Eq.trans⟩) (some 5) rfl (by kernel_rfl) (by kernel_rfl) (by kernel_rfl) (by kernel_rfl) (by kernel_rfl) (fun _ _ _ h => h) (by kernel_rfl) (fun w' hw' => ?_) ?_
    rotate_left
    · go_simp; with_reducible rfl
    simp only [Act.put, List.setIfInBounds_toArray, List.set_cons_zero, List.set_cons_succ]
    refine wpR_take (i := 1) (v := ?_) (⟨fun _ => rfl, Eq.trans⟩) (some 6) rfl (by kernel_rfl) (by kernel_rfl) (by kernel_rfl) (by kernel_rfl) (by kernel_rfl) (fun _ _ _ h => h) (by kernel_rfl) (fun w' hw' => ?_) ?_
    rotate_left
    · subst hw'; go_simp; with_reducible rfl
    simp only [Act.put, List.setIfInBounds_toArray, List.set_cons_zero, List.set_cons_succ]
    refine wpR_one 2 rfl (by kernel_rfl) (by kernel_rfl) (fun K hK => ?_)
    go_simp
    refine hkc.out.mono ?_
    rintro e w' ⟨rfl, hee⟩
    rw [hee]
    clear hee
    refine hK _ _ (fun _ => rfl) ?_
    clear hK K
    try simp only [Act.put, List.setIfInBounds_toArray, List.set_cons_zero, List.set_cons_succ]
    refine wpR_take (i := 3) (v := ?_) (⟨fun _ => rfl, Eq.trans⟩) (some 8) rfl (by kernel_rfl) (by kernel_rfl) (by kernel_rfl) (by kernel_rfl) (by kernel_rfl) (fun _ _ _ h => h) (by kernel_rfl) (fun w' hw' => ?_) ?_
    rotate_left
    · go_simp; with_reducible rfl
    simp only [Act.put, List.setIfInBounds_toArray, List.set_cons_zero, List.set_cons_succ]
    refine wpR_skip (i := 4) (⟨fun _ => rfl, Eq.trans⟩) (some 9) rfl (by kernel_rfl) (by kernel_rfl) (by kernel_rfl) (by kernel_rfl) (by kernel_rfl) (fun _ _ _ h => h) (by kernel_rfl) ?_
    simp only [Act.put, List.setIfInBounds_toArray, List.set_cons_zero, List.set_cons_succ]
    refine wpR_skip (i := 5) (⟨fun _ => rfl, Eq.trans⟩) (some 10) rfl (by kernel_rfl) (by kernel_rfl) (by kernel_rfl) (by kernel_rfl) (by kernel_rfl) (fun _ _ _ h => h) (by kernel_rfl) ?_
    simp only [Act.put, List.setIfInBounds_toArray, List.set_cons_zero, List.set_cons_succ]
    refine wpR_skip (i := 6) (⟨fun _ => rfl, Eq.trans⟩) (some 11) rfl (by kernel_rfl) (by kernel_rfl) (by kernel_rfl) (by kernel_rfl) (by kernel_rfl) (fun _ _ _ h => h) (by kernel_rfl) ?_
    simp only [Act.put, List.setIfInBounds_toArray, List.set_cons_zero, List.set_cons_succ]
    refine wpR_skip (i := 7) (⟨fun _ => rfl, Eq.trans⟩) (some 12) rfl (by kernel_rfl) (by kernel_rfl) (by kernel_rfl) (by kernel_rfl) (by kernel_rfl) (fun _ _ _ h => h) (by kernel_rfl) ?_
    simp only [Act.put, List.setIfInBounds_toArray, List.set_cons_zero, List.set_cons_succ]
    refine wpR_skip (i := 8) (⟨fun _ => rfl, Eq.trans⟩) (some 13) rfl (by kernel_rfl) (by kernel_rfl) (by kernel_rfl) (by kernel_rfl) (by kernel_rfl) (fun _ _ _ h => h) (by kernel_rfl) ?_
    simp only [Act.put, List.setIfInBounds_toArray, List.set_cons_zero, List.set_cons_succ]
    refine wpR_skip (i := 9) (⟨fun _ => rfl, Eq.trans⟩) (some 14) rfl (by kernel_rfl) (by kernel_rfl) (by kernel_rfl) (by kernel_rfl) (by kernel_rfl) (fun _ _ _ h => h) (by kernel_rfl) ?_
    simp only [Act.put, List.setIfInBounds_toArray, List.set_cons_zero, List.set_cons_succ]
    refine wpR_skip (i := 10) (⟨fun _ => rfl, Eq.trans⟩) (some 15) rfl (by kernel_rfl) (by kernel_rfl) (by kernel_rfl) (by kernel_rfl) (by kernel_rfl) (fun _ _ _ h => h) (by kernel_rfl) ?_
    simp only [Act.put, List.setIfInBounds_toArray, List.set_cons_zero, List.set_cons_succ]
    refine wpR_take (i := 11) (v := ?_) (⟨fun _ => rfl, Eq.trans⟩) (some 16) rfl (by kernel_rfl) (by kernel_rfl) (by kernel_rfl) (by kernel_rfl) (by kernel_rfl) (fun _ _ _ h => h) (by kernel_rfl) (fun w' hw' => ?_) ?_
    rotate_left
    · go_simp; with_reducible rfl
    simp only [Act.put, List.setIfInBounds_toArray, List.set_cons_zero, List.set_cons_succ]
    refine wpR_take (i := 12) (v := ?_) (⟨fun _ => rfl, Eq.trans⟩) (some 4) rfl (by kernel_rfl) (by kernel_rfl) (by kernel_rfl) (by kernel_rfl) (by kernel_rfl) (fun _ _ _ h => h) (by kernel_rfl) (fun w' hw' => ?_) ?_
    rotate_left
    · go_simp; with_reducible rfl
    simp only [Act.put, List.setIfInBounds_toArray, List.set_cons_zero, List.set_cons_succ]
    refine wpR_done (by kernel_rfl) ?_ _
    go_wp2_with fail
    go_ret
    exact ⟨by simp [hko.out], hgd.out⟩
end
end Go.Proofs.Ythboeoidgglcgaa
