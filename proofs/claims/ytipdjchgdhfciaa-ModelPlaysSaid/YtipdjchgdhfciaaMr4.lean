/- model: the reference's Text. -/
import Derived.Test.YtipdjchgdhfciaaMr3
import Derived.Test.YtipdjchgdhfciaaWordRefM
namespace Go.Proofs.Ytipdjchgdhfciaa
set_option linter.unusedVariables false
set_option linter.unusedSimpArgs false
open Go Go.RowKit Go.Maps Go.Sort
theorem flatT_app (R : List Pr) (x : Pr) : flatT (R ++ [x]) = addT (addT (flatT R) x.1) x.2 := by
  induction R with
  | nil => simp [flatT, addT]
  | cons p R ih => simp only [List.cons_append, flatT, ih, addT, List.append_assoc]
theorem flatT_len {R : List Pr} (h : Short R) : (flatT R).length ≤ 1200 * R.length := by
  induction R with
  | nil => simp [flatT]
  | cons p R ih =>
    obtain ⟨h1, h2⟩ := h p (by simp)
    have h3 := ih (fun x hx => h x (by simp [hx]))
    have h4 := (enc_length p.1.length (by omega)).2
    have h5 := (enc_length p.2.length (by omega)).2
    simp only [flatT, List.length_append, List.length_cons]
    omega
set_option maxHeartbeats 4000000 in
set_option maxRecDepth 10000 in
theorem rtext22_any (lo g : Nat) (v : Value) (R : List Pr) (hR : R.length ≤ 1000) (hsh : Short R) (w : World) (h : Hid (Rm w lo g v R)) :
    Calls Try.prog 17 #[.pointer (some ⟨g, 0, none⟩)] w fun e w' => e = .returned (.string (bs (flatT R))) ∧ GrM w w' := by
  obtain ⟨A, c, rfl, hc, hm⟩ := row_form h.out.row
  obtain ⟨n, hn⟩ : ∃ n, R.length = n := ⟨_, rfl⟩
  rw [hn] at h hc hR
  obtain ⟨B, hB⟩ : ∃ B, w.heap.size = B := ⟨_, rfl⟩
  obtain ⟨w1, hw1⟩ : ∃ w1, w1 = w.alloc (.cells #[] 5) := ⟨_, rfl⟩
  have ho0 : Hid (OB w1 B (.slice (some ⟨B, 0, none⟩) 0 0) (flatT (R.take 0))) := Lib.hid (by rw [hw1, ← hB]; exact OB.empty w _ (Nat.le_refl _))
  have hg1 : Hid (GrM w w1) := Lib.hid (by rw [hw1]; exact GrM.alloc _ _)
  have hBz : Hid (∀ x, GrM w x → B ≤ x.heap.size) := Lib.hid (fun x h => by rw [← hB]; exact h.size)
  replace hn := Lib.hid hn
  replace hsh := Lib.hid hsh
  go_enter Try.func17, Try.ntmps17
  go_upto_region 2 with (fail)
  rw [← hw1]
  try rw [hB]
  replace hw1 := Lib.hid hw1
  replace hB := Lib.hid hB
  go_wp2_with fail
  go_loopw [3, 4] (fun u z wr => ∃ (j m : Nat) (A3 : Option Addr) (c3 : Nat), j ≤ n ∧ z = .int .i64 j ∧ u = .slice A3 m c3 ∧ Hid ((flatT (R.take j)).length = m) ∧ Hid (OB wr B (.slice A3 m c3) (flatT (R.take j))) ∧ Hid (GrM w wr)) (fun _ z _ => (n - intOf z).toNat)
  case atStart => exact ⟨0, 0, some ⟨B, 0, none⟩, 0, Nat.zero_le _, rfl, rfl, Lib.hid rfl, ho0, hg1⟩
  case round =>
    obtain ⟨j, m, A3, c3, hj, rfl, rfl, hlen, ho, hgr⟩ := hrel
    clear ho0 hg1
    have hrm := (Rm.gr hgr.out h).out
    have cg := blk_cell (j := 0) (v := .slice A n c) hrm.blk rfl
    have hm12 : m ≤ 1200 * 1000 := by
      rw [← hlen.out]
      have := flatT_len (R := R.take j) (fun x hx => hsh.out x (List.mem_of_mem_take hx))
      rw [List.length_take] at this
      omega
    by_cases hjn : j < n
    · have ij : (j : Int) < (n : Int) := by omega
      obtain ⟨b, rfl, -⟩ := hrm.cells (by omega)
      obtain ⟨x, hx⟩ : ∃ x, R[j]? = some x := ⟨_, List.getElem?_eq_getElem (by rw [hn.out]; exact hjn)⟩
      obtain ⟨wd, hwd⟩ : ∃ wd, wd = wr.drew := ⟨_, rfl⟩
      have hrd : GrM wr wd := by rw [hwd]; exact (Below.refl _ _).drew
      have hgd : Hid (GrM w wd) := Lib.hid (GrM.trans hgr.out hrd)
      have hcd : Hid (∀ w', GrM wd w' → w'.cell? ⟨g, 0, none⟩ = some (.slice (some ⟨b, 0, none⟩) n c) ∧ w'.cell? ⟨b, j * 2, none⟩ = some (.string (bs x.1)) ∧ w'.cell? ⟨b, j * 2 + 1, none⟩ = some (.string (bs x.2))) := Lib.hid (fun w' hg => by
        have h' := (Rm.gr (GrM.trans hgd.out hg) h).out
        obtain ⟨b', e, hc⟩ := h'.cells (by omega)
        injection e with e; injection e with e; subst e
        exact ⟨blk_cell (j := 0) (v := .slice (some ⟨b, 0, none⟩) n c) h'.blk rfl, (hc j x hx).1, (hc j x hx).2⟩)
      obtain ⟨hx16, hx512⟩ := hsh.out x (List.mem_of_getElem? hx)
      have hnx : Hid (flatT (R.take (j + 1)) = addT (addT (flatT (R.take j)) x.1) x.2) := Lib.hid (by rw [List.take_add_one, hx]; exact flatT_app _ _)
      obtain ⟨acc, hacc⟩ : ∃ acc, flatT (R.take j) = acc := ⟨_, rfl⟩
      rw [hacc] at hlen ho hnx
      obtain ⟨k, d⟩ := x
      simp only at hcd hx16 hx512 hnx
      have hod := Lib.hid (OB.below ho.out hrd)
      obtain ⟨m5, hm5⟩ : ∃ m5, ((acc ++ enc k.length) ++ k).length = m5 := ⟨_, rfl⟩
      obtain ⟨m6, hm6⟩ : ∃ m6, ((((acc ++ enc k.length) ++ k) ++ enc d.length) ++ d).length = m6 := ⟨_, rfl⟩
      have e5 : m5 ≤ m + 600 := by have := addT_len acc k (by omega); unfold addT at this; rw [hlen.out, hm5] at this; exact this
      have hx1 := Lib.hid (rtextput_any A3 m c3 acc hlen.out k (by omega) wd (OB.rd hod.out).1)
      have hx2' : Hid (∀ w' A' c', Rd w' w'.heap.size A' ((acc ++ enc k.length) ++ k) → Calls Try.prog 32 #[.slice A' m5 c', .string (bs d)] w' fun e w'' => ∃ v', e = .returned v' ∧ OB w'' w'.heap.size v' ((((acc ++ enc k.length) ++ k) ++ enc d.length) ++ d) ∧ Below w'.heap.size w' w'') := Lib.hid (fun w' A' c' hr => rtextput_any A' m5 c' _ hm5 d (by omega) w' hr)
      replace hx := Lib.hid hx
      replace hm5 := Lib.hid hm5
      replace hm6 := Lib.hid hm6
      replace hacc := Lib.hid hacc
      clear hrd hgr ho hrm cg
      have cg := (hcd.out wd (GrM.refl _)).1
      have cgr : wr.cell? ⟨g, 0, none⟩ = some (.slice (some ⟨b, 0, none⟩) n c) := by rw [← cg, hwd]; rfl
      go_wp2_with fail
      refine wpR_region (GrM) 9999 (by kernel_rfl) ?_
      (rw [← hwd]; replace hwd := Lib.hid hwd)
      refine wpR_take (i := 0) (v := ?_) (GrM.road) (some 15) rfl (by kernel_rfl) (by kernel_rfl) (by kernel_rfl) (by kernel_rfl) (by kernel_rfl) (fun _ _ _ h => h) (by kernel_rfl) (fun w' hw' => ?_) ?_
      rotate_left
      · go_simp; with_reducible rfl
      simp only [Act.put, List.setIfInBounds_toArray, List.set_cons_zero, List.set_cons_succ]
      refine wpR_take (i := 1) (v := ?_) (GrM.road) (some 16) rfl (by kernel_rfl) (by kernel_rfl) (by kernel_rfl) (by kernel_rfl) (by kernel_rfl) (fun _ _ _ h => h) (by kernel_rfl) (fun w' hw' => ?_) ?_
      rotate_left
      · go_simp; with_reducible rfl
      simp only [Act.put, List.setIfInBounds_toArray, List.set_cons_zero, List.set_cons_succ]
      refine wpR_take (i := 2) (v := ?_) (GrM.road) (some 17) rfl (by kernel_rfl) (by kernel_rfl) (by kernel_rfl) (by kernel_rfl) (by kernel_rfl) (fun _ _ _ h => h) (by kernel_rfl) (fun w' hw' => ?_) ?_
      rotate_left
      · go_simp; with_reducible rfl
      simp only [Act.put, List.setIfInBounds_toArray, List.set_cons_zero, List.set_cons_succ]
      refine wpR_take (i := 3) (v := ?_) (GrM.road) (some 18) rfl (by kernel_rfl) (by kernel_rfl) (by kernel_rfl) (by kernel_rfl) (by kernel_rfl) (fun _ _ _ h => h) (by kernel_rfl) (fun w' hw' => ?_) ?_
      rotate_left
      · go_simp; with_reducible rfl
      simp only [Act.put, List.setIfInBounds_toArray, List.set_cons_zero, List.set_cons_succ]
      refine wpR_take (i := 4) (v := ?_) (GrM.road) (some 19) rfl (by kernel_rfl) (by kernel_rfl) (by kernel_rfl) (by kernel_rfl) (by kernel_rfl) (fun _ _ _ h => h) (by kernel_rfl) (fun w' hw' => ?_) ?_
      rotate_left
      · have qb := hcd.out w' hw'; obtain ⟨q1, q2, q3⟩ := qb; go_simp; with_reducible rfl
      simp only [Act.put, List.setIfInBounds_toArray, List.set_cons_zero, List.set_cons_succ]
      refine wpR_take (i := 5) (v := ?_) (GrM.road) (some 20) rfl (by kernel_rfl) (by kernel_rfl) (by kernel_rfl) (by kernel_rfl) (by kernel_rfl) (fun _ _ _ h => h) (by kernel_rfl) (fun w' hw' => ?_) ?_
      rotate_left
      · go_simp; with_reducible rfl
      simp only [Act.put, List.setIfInBounds_toArray, List.set_cons_zero, List.set_cons_succ]
      refine wpR_take (i := 6) (v := ?_) (GrM.road) (some 21) rfl (by kernel_rfl) (by kernel_rfl) (by kernel_rfl) (by kernel_rfl) (by kernel_rfl) (fun _ _ _ h => h) (by kernel_rfl) (fun w' hw' => ?_) ?_
      rotate_left
      · go_simp; with_reducible rfl
      simp only [Act.put, List.setIfInBounds_toArray, List.set_cons_zero, List.set_cons_succ]
      refine wpR_take (i := 7) (v := ?_) (GrM.road) (some 22) rfl (by kernel_rfl) (by kernel_rfl) (by kernel_rfl) (by kernel_rfl) (by kernel_rfl) (fun _ _ _ h => h) (by kernel_rfl) (fun w' hw' => ?_) ?_
      rotate_left
      · go_simp; with_reducible rfl
      simp only [Act.put, List.setIfInBounds_toArray, List.set_cons_zero, List.set_cons_succ]
      refine wpR_take (i := 8) (v := ?_) (GrM.road) (some 23) rfl (by kernel_rfl) (by kernel_rfl) (by kernel_rfl) (by kernel_rfl) (by kernel_rfl) (fun _ _ _ h => h) (by kernel_rfl) (fun w' hw' => ?_) ?_
      rotate_left
      · have qb := hcd.out w' hw'; obtain ⟨q1, q2, q3⟩ := qb; go_simp; with_reducible rfl
      simp only [Act.put, List.setIfInBounds_toArray, List.set_cons_zero, List.set_cons_succ]
      refine wpR_take (i := 10) (v := ?_) (GrM.road) (some 25) rfl (by kernel_rfl) (by kernel_rfl) (by kernel_rfl) (by kernel_rfl) (by kernel_rfl) (fun _ _ _ h => h) (by kernel_rfl) (fun w' hw' => ?_) ?_
      rotate_left
      · go_simp; with_reducible rfl
      simp only [Act.put, List.setIfInBounds_toArray, List.set_cons_zero, List.set_cons_succ]
      refine wpR_take (i := 11) (v := ?_) (GrM.road) (some 26) rfl (by kernel_rfl) (by kernel_rfl) (by kernel_rfl) (by kernel_rfl) (by kernel_rfl) (fun _ _ _ h => h) (by kernel_rfl) (fun w' hw' => ?_) ?_
      rotate_left
      · go_simp; with_reducible rfl
      simp only [Act.put, List.setIfInBounds_toArray, List.set_cons_zero, List.set_cons_succ]
      refine wpR_take (i := 12) (v := ?_) (GrM.road) (some 27) rfl (by kernel_rfl) (by kernel_rfl) (by kernel_rfl) (by kernel_rfl) (by kernel_rfl) (fun _ _ _ h => h) (by kernel_rfl) (fun w' hw' => ?_) ?_
      rotate_left
      · go_simp; with_reducible rfl
      simp only [Act.put, List.setIfInBounds_toArray, List.set_cons_zero, List.set_cons_succ]
      refine wpR_take (i := 13) (v := ?_) (GrM.road) (some 28) rfl (by kernel_rfl) (by kernel_rfl) (by kernel_rfl) (by kernel_rfl) (by kernel_rfl) (fun _ _ _ h => h) (by kernel_rfl) (fun w' hw' => ?_) ?_
      rotate_left
      · have qb := hcd.out w' hw'; obtain ⟨q1, q2, q3⟩ := qb; go_simp; with_reducible rfl
      simp only [Act.put, List.setIfInBounds_toArray, List.set_cons_zero, List.set_cons_succ]
      refine wpR_take (i := 14) (v := ?_) (GrM.road) (some 29) rfl (by kernel_rfl) (by kernel_rfl) (by kernel_rfl) (by kernel_rfl) (by kernel_rfl) (fun _ _ _ h => h) (by kernel_rfl) (fun w' hw' => ?_) ?_
      rotate_left
      · go_simp; with_reducible rfl
      simp only [Act.put, List.setIfInBounds_toArray, List.set_cons_zero, List.set_cons_succ]
      refine wpR_take (i := 15) (v := ?_) (GrM.road) (some 30) rfl (by kernel_rfl) (by kernel_rfl) (by kernel_rfl) (by kernel_rfl) (by kernel_rfl) (fun _ _ _ h => h) (by kernel_rfl) (fun w' hw' => ?_) ?_
      rotate_left
      · go_simp; with_reducible rfl
      simp only [Act.put, List.setIfInBounds_toArray, List.set_cons_zero, List.set_cons_succ]
      refine wpR_take (i := 16) (v := ?_) (GrM.road) (some 31) rfl (by kernel_rfl) (by kernel_rfl) (by kernel_rfl) (by kernel_rfl) (by kernel_rfl) (fun _ _ _ h => h) (by kernel_rfl) (fun w' hw' => ?_) ?_
      rotate_left
      · go_simp; with_reducible rfl
      simp only [Act.put, List.setIfInBounds_toArray, List.set_cons_zero, List.set_cons_succ]
      refine wpR_take (i := 17) (v := ?_) (GrM.road) (some 32) rfl (by kernel_rfl) (by kernel_rfl) (by kernel_rfl) (by kernel_rfl) (by kernel_rfl) (fun _ _ _ h => h) (by kernel_rfl) (fun w' hw' => ?_) ?_
      rotate_left
      · have qb := hcd.out w' hw'; obtain ⟨q1, q2, q3⟩ := qb; go_simp; with_reducible rfl
      simp only [Act.put, List.setIfInBounds_toArray, List.set_cons_zero, List.set_cons_succ]
      refine wpR_one 9 rfl (by kernel_rfl) (by kernel_rfl) (fun K hK => ?_)
      go_simp
      refine hx1.out.mono ?_
      rintro e w5 ⟨v5, rfl, hv5, hb5⟩
      obtain ⟨A5, c5, rfl, -, -, hr5, -⟩ := OB.form hv5
      rw [hm5.out]
      refine hK _ _ (fun _ => hb5) ?_
      clear hK K
      have hx2 := Lib.hid (hx2'.out w5 A5 c5 hr5)
      replace hv5 := Lib.hid hv5
      have hg5 : Hid (GrM wd w5) := Lib.hid hb5
      clear hr5 hb5 hx1 hx2'
      try simp only [Act.put, List.setIfInBounds_toArray, List.set_cons_zero, List.set_cons_succ]
      refine wpR_one 18 rfl (by kernel_rfl) (by kernel_rfl) (fun K hK => ?_)
      go_simp
      refine hx2.out.mono ?_
      rintro e w6 ⟨v6, rfl, hv6, hb6⟩
      obtain ⟨A6, c6, rfl, -, -⟩ := OB.form hv6
      rw [hm6.out]
      refine hK _ _ (fun _ => hb6) ?_
      clear hK K
      have hg6 : Hid (GrM wd w6) := Lib.hid (GrM.trans hg5.out hb6)
      rw [hm6.out] at hv6
      replace hv6 := Lib.hid hv6
      have hs6 : Hid (w5.heap.size ≥ wd.heap.size) := Lib.hid (RowKit.Below.size hg5.out)
      try simp only [Act.put, List.setIfInBounds_toArray, List.set_cons_zero, List.set_cons_succ]
      refine wpR_take (i := 19) (v := ?_) (GrM.road) (some 3) rfl (by kernel_rfl) (by kernel_rfl) (by kernel_rfl) (by kernel_rfl) (by kernel_rfl) (fun _ _ _ h => h) (by kernel_rfl) (fun w' hw' => ?_) ?_
      rotate_left
      · go_simp; with_reducible rfl
      simp only [Act.put, List.setIfInBounds_toArray, List.set_cons_zero, List.set_cons_succ]
      refine wpR_done (by kernel_rfl) ?_ _
      have hlz := hBz.out _ hgd.out
      have ho6 : Hid (OB w6 B (.slice A6 m6 c6) (flatT (R.take (j + 1)))) := Lib.hid (by rw [hnx.out]; exact hv6.out.more (by have := hs6.out; omega))
      have hl6 : Hid ((flatT (R.take (j + 1))).length = m6) := Lib.hid (by rw [hnx.out]; exact hm6.out)
      have hgw6 : Hid (GrM w w6) := Lib.hid (GrM.trans hgd.out hg6.out)
      go_wp2_with fail
      go_roundw
      case rel => exact ⟨j + 1, m6, A6, c6, by omega, by go_num, by first | rfl | trivial, hl6, ho6, hgw6⟩
      case measure => simp [intOf]; omega
    · obtain rfl : j = n := by omega
      have ij : decide ((j : Int) < (j : Int)) = false := decide_eq_false (by omega)
      clear hjn hrm
      have hall : R.take j = R := List.take_of_length_le (by rw [hn.out]; exact Nat.le_refl _)
      rw [hall] at ho hlen
      have hconv := run_str_at (n := m) c3 (OB.rd ho.out).1 hlen.out
      go_wp2_with fail
      go_ret
      exact ⟨rfl, hgr.out⟩
end Go.Proofs.Ytipdjchgdhfciaa
