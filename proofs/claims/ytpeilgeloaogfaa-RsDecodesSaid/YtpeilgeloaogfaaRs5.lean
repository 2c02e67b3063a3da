/- rs: unlike groups have three unlike shards. -/
import Derived.Test.YtpeilgeloaogfaaRs4
namespace Go.Proofs.Ytpeilgeloaogfaa
set_option linter.unusedVariables false
set_option linter.unusedSimpArgs false
open Go Go.RowKit
theorem filt_len (p : Nat → Bool) : ∀ l : List Nat, (l.filter p).length + (l.filter (fun x => !(p x))).length = l.length
  | [] => rfl
  | a :: l => by
    have := filt_len p l
    cases h : p a with
    | true => rw [List.filter_cons_of_pos h, List.filter_cons_of_neg (by rw [h]; decide), List.length_cons, List.length_cons]; omega
    | false => rw [List.filter_cons_of_neg (by rw [h]; decide), List.filter_cons_of_pos (by rw [h]; rfl), List.length_cons, List.length_cons]; omega
def dif (l1 l2 : List UInt8) (r : Nat) : Bool := !(row 16 (encM l1 r) == row 16 (encM l2 r))
theorem wrong_three {l1 l2 : List UInt8} (h1 : l1.length = 128) (h2 : l2.length = 128) (hne : l1 ≠ l2) : 3 ≤ ((List.range 10).filter (dif l1 l2)).length := by
  refine Nat.le_of_not_lt (fun hlt => hne ?_)
  have hf := filt_len (dif l1 l2) (List.range 10)
  rw [List.length_range] at hf
  have hE := solve_one (is := ((List.range 10).filter (fun x => !(dif l1 l2 x))).take 8) (m := 16) (D := partM 16 l1) (D' := partM 16 l2) ((List.nodup_range.sublist List.filter_sublist).sublist (List.take_sublist _ _)) (by rw [List.length_take]; omega)
    (fun r hr => List.mem_range.mp (List.mem_filter.mp (List.mem_of_mem_take hr)).1) (fun i j hi hj => by
      have hm : (((List.range 10).filter (fun x => !(dif l1 l2 x))).take 8).getD i 0 ∈ ((List.range 10).filter (fun x => !(dif l1 l2 x))).take 8 := by
        rw [List.getD_eq_getElem?_getD, List.getElem?_eq_getElem (by rw [List.length_take]; omega)]
        exact List.getElem_mem _
      have h3 := (List.mem_filter.mp (List.mem_of_mem_take hm)).2
      unfold dif at h3
      rw [Bool.not_not, beq_iff_eq] at h3
      exact row_eq h3 j hj)
  rw [← flat_part (n := 8) (m := 16) (by decide) h1, ← flat_part (n := 8) (m := 16) (by decide) h2]
  exact flat_congr hE
theorem wrong_none {l1 : List UInt8} : ((List.range 10).filter (dif l1 l1)).length = 0 := by
  have : (List.range 10).filter (dif l1 l1) = [] := List.filter_eq_nil_iff.mpr (fun r _ => by unfold dif; simp)
  rw [this]; rfl
theorem dif_succ (l1 l2 : List UInt8) (k : Nat) : ((List.range (k + 1)).filter (dif l1 l2)).length = ((List.range k).filter (dif l1 l2)).length + (if dif l1 l2 k = true then 1 else 0) := by
  rw [List.range_succ, List.filter_append, List.length_append]
  congr 1
  by_cases h : dif l1 l2 k = true
  · rw [List.filter_cons_of_pos h, if_pos h]; rfl
  · rw [List.filter_cons_of_neg h, if_neg h]; rfl
theorem OB.gr {w w' : World} {base : Nat} {v : Value} {l : List UInt8} (hr : Gr w w') (h : Hid (OB w base v l)) : Hid (OB w' base v l) := Lib.hid (h.out.below hr)
theorem TB.gr {w w' : World} {base g n m : Nat} {G C : Nat → Nat} {M : Mx} (hr : Gr w w') (h : Hid (TB w base g n m G C M)) : Hid (TB w' base g n m G C M) := Lib.hid (h.out.below hr)
/-- group, Encode, as facts -/
theorem group_p (A : Option Addr) (n c : Nat) (l : List UInt8) (hl : Hid (l.length = n)) (hc : n ≤ c) (hcm : c ≤ 9223372036854775807) (w0 w : World) (h0 : Hid (Gr w0 w)) (h : Hid (Rd w0 w0.heap.size A l)) :
    Calls Try.prog 42 #[.slice A n c] w fun e w' => ∃ A' c', e = .returned (.slice A' 128 c') ∧ Hid (OB w' w0.heap.size (.slice A' 128 c') (grp l)) ∧ Gr w w' := by
  refine (group_any A n c l hl.out hc hcm w (h.out.up h0.out)).mono ?_
  rintro e w' ⟨A', c', rfl, h1, h2⟩
  exact ⟨A', c', rfl, Lib.hid (h1.out.more h0.out.size), h2⟩
theorem enc_p {A : Option Addr} {c : Nat} {l : List UInt8} (w0 w : World) (h0 : Hid (Gr w0 w)) (hl : Hid (l.length = 128)) (h : Hid (OB w w0.heap.size (.slice A 128 c) l)) :
    Calls Try.prog 40 #[.slice A 128 c] w fun e w' => ∃ g G C, e = .returned (.tuple #[.slice (some ⟨g, 0, none⟩) 10 10, .int .i64 0]) ∧ Hid (TB w' w0.heap.size g 10 16 G C (encM l)) ∧ Gr w w' := by
  have hrd := OB.rd h.out
  obtain ⟨A2, c2, e2, k1, k2, -⟩ := h.out.form
  injection e2 with e21 e22 e23
  subst e23
  rw [hl.out] at k1
  refine (rsenc_ok A c l k1 k2 hl.out w hrd.1).mono ?_
  rintro e w' ⟨g, G, C, rfl, h1, h2⟩
  exact ⟨g, G, C, rfl, Lib.hid (h1.more h0.out.size), h2⟩
theorem awake3_p (w : World) : Calls Try.prog 43 #[] w fun e w' => e = .returned (.bool true) ∧ Gr w w' := awake03_any w
theorem TB.row_at {w : World} {base g n m : Nat} {G C : Nat → Nat} {M : Mx} (h : TB w base g n m G C M) {i : Nat} (hi : i < n) : w.cell? ⟨g, i, none⟩ = some (.slice (some ⟨G i, 0, none⟩) m (C i)) ∧ Rd w w.heap.size (some ⟨G i, 0, none⟩) (row m (M i)) := ⟨h.cell hi, (h.rd hi).1⟩
set_option maxHeartbeats 16000000 in
set_option maxRecDepth 20000 in
theorem rsWrong_any (A : Option Addr) (n c : Nat) (l : List UInt8) (hn : Hid (l.length = n)) (hc : n ≤ c) (hcm : c ≤ 9223372036854775807) (A2 : Option Addr) (n2 c2 : Nat) (l2 : List UInt8) (hn2 : Hid (l2.length = n2)) (hc2 : n2 ≤ c2) (hcm2 : c2 ≤ 9223372036854775807) (w : World) (h : Hid (Rd w w.heap.size A l)) (h2 : Hid (Rd w w.heap.size A2 l2)) : Calls Try.prog 14 #[.slice A n c, .slice A2 n2 c2] w fun e w' => e = .returned (.bool true) ∧ Below w.heap.size w w' := by
  have hq : Hid (Gr w w) := Lib.hid (Below.refl _ _)
  go_enter Try.func14, Try.ntmps14
  go_wp2_with fail
  refine (group_p A n c l hn hc hcm w _ hq h).mono ?_
  rintro e w1 ⟨AX, cX, rfl, hX, hr⟩
  replace hq := Gr.go hq hr
  clear hr
  go_wp2_with fail
  refine (group_p A2 n2 c2 l2 hn2 hc2 hcm2 w _ hq h2).mono ?_
  rintro e w2 ⟨AY, cY, rfl, hY, hr⟩
  replace hX := OB.gr hr hX
  replace hq := Gr.go hq hr
  clear hr
  have hlx : Hid ((grp l).length = 128) := Lib.hid (grp_length l)
  have hly : Hid ((grp l2).length = 128) := Lib.hid (grp_length l2)
  generalize grp l = lx at *
  generalize grp l2 = ly at *
  go_wp2_with fail
  refine (enc_p w _ hq hlx hX).mono ?_
  rintro e w3 ⟨g1, G1, C1, rfl, hP, hr⟩
  replace hX := OB.gr hr hX
  replace hY := OB.gr hr hY
  replace hq := Gr.go hq hr
  clear hr
  go_wp2_with fail
  refine (enc_p w _ hq hly hY).mono ?_
  rintro e w4 ⟨g2, G2, C2, rfl, hS, hr⟩
  replace hX := OB.gr hr hX
  replace hY := OB.gr hr hY
  replace hP := TB.gr hr hP
  replace hq := Gr.go hq hr
  clear hr
  go_wp2_with fail
  go_loopw [11, 12] (fun nv i wr => ∃ (k cnt : Nat), k ≤ 10 ∧ cnt ≤ k ∧ i = .int .i64 k ∧ nv = .int .i64 cnt ∧ Hid (cnt = ((List.range k).filter (dif lx ly)).length) ∧ Hid (Gr w4 wr)) (fun _ i _ => 10 - (intOf i).toNat)
  case atStart => exact ⟨0, 0, Nat.zero_le _, Nat.le_refl _, rfl, rfl, Lib.hid rfl, Lib.hid (Below.refl _ _)⟩
  case round =>
    obtain ⟨k, cnt, hk, hck, rfl, rfl, hcnt, hg⟩ := hrel
    by_cases hlt : k < 10
    · have i10 : (k : Int) < 10 := by omega
      have hsucc := dif_succ lx ly k
      obtain ⟨p1, d1⟩ := (TB.gr hg.out hP).out.row_at hlt
      obtain ⟨p2, d2⟩ := (TB.gr hg.out hS).out.row_at hlt
      obtain ⟨r1, hr1⟩ : ∃ r1, row 16 (encM lx k) = r1 := ⟨_, rfl⟩
      obtain ⟨r2, hr2⟩ : ∃ r2, row 16 (encM ly k) = r2 := ⟨_, rfl⟩
      have hdef : dif lx ly k = !(r1 == r2) := by rw [← hr1, ← hr2]; rfl
      have n1 : Hid (r1.length = 16) := Lib.hid (by rw [← hr1, row_length])
      have n2 : Hid (r2.length = 16) := Lib.hid (by rw [← hr2, row_length])
      rw [hr1] at d1
      rw [hr2] at d2
      replace d1 := Lib.hid d1
      replace d2 := Lib.hid d2
      replace hr1 := Lib.hid hr1
      replace hr2 := Lib.hid hr2
      cases hbb : (r1 == r2) with
      | true =>
        have hcnt2 : Hid (cnt = ((List.range (k + 1)).filter (dif lx ly)).length) := Lib.hid (by rw [hsucc, hdef, hbb, if_neg (by decide), Nat.add_zero]; exact hcnt.out)
        replace hsucc := Lib.hid hsucc
        replace hdef := Lib.hid hdef
        go_wp2_with fail
        obtain ⟨wd, hwd⟩ : ∃ wd, wd = wr.drew := ⟨_, rfl⟩
        have hgd : Hid (Gr w4 wd) := Lib.hid (by rw [hwd]; exact hg.out.drew)
        have q1 : wd.cell? ⟨g1, k, none⟩ = some (.slice (some ⟨G1 k, 0, none⟩) 16 (C1 k)) := by rw [hwd]; exact p1
        have q2 : wd.cell? ⟨g2, k, none⟩ = some (.slice (some ⟨G2 k, 0, none⟩) 16 (C2 k)) := by rw [hwd]; exact p2
        have dd1 : Hid (Rd wd wd.heap.size (some ⟨G1 k, 0, none⟩) r1) := Lib.hid (by rw [hwd]; exact d1.out)
        have dd2 : Hid (Rd wd wd.heap.size (some ⟨G2 k, 0, none⟩) r2) := Lib.hid (by rw [hwd]; exact d2.out)
        refine wpR_region (Eq) 9999 (by kernel_rfl) ?_
        (rw [← hwd]; replace hwd := Lib.hid hwd)
        refine wpR_take (i := 0) (v := ?_) (⟨fun _ => rfl, Eq.trans⟩) (some 47) rfl (by kernel_rfl) (by kernel_rfl) (by kernel_rfl) (by kernel_rfl) (by kernel_rfl) (fun _ _ _ h => h) (by kernel_rfl) (fun w' hw' => ?_) ?_
        rotate_left
        · go_simp; with_reducible rfl
        simp only [Act.put, List.setIfInBounds_toArray, List.set_cons_zero, List.set_cons_succ]
        refine wpR_take (i := 1) (v := ?_) (⟨fun _ => rfl, Eq.trans⟩) (some 48) rfl (by kernel_rfl) (by kernel_rfl) (by kernel_rfl) (by kernel_rfl) (by kernel_rfl) (fun _ _ _ h => h) (by kernel_rfl) (fun w' hw' => ?_) ?_
        rotate_left
        · go_simp; with_reducible rfl
        simp only [Act.put, List.setIfInBounds_toArray, List.set_cons_zero, List.set_cons_succ]
        refine wpR_take (i := 2) (v := ?_) (⟨fun _ => rfl, Eq.trans⟩) (some 49) rfl (by kernel_rfl) (by kernel_rfl) (by kernel_rfl) (by kernel_rfl) (by kernel_rfl) (fun _ _ _ h => h) (by kernel_rfl) (fun w' hw' => ?_) ?_
        rotate_left
        · go_simp; with_reducible rfl
        simp only [Act.put, List.setIfInBounds_toArray, List.set_cons_zero, List.set_cons_succ]
        refine wpR_take (i := 3) (v := ?_) (⟨fun _ => rfl, Eq.trans⟩) (some 50) rfl (by kernel_rfl) (by kernel_rfl) (by kernel_rfl) (by kernel_rfl) (by kernel_rfl) (fun _ _ _ h => h) (by kernel_rfl) (fun w' hw' => ?_) ?_
        rotate_left
        · subst hw'; go_simp; with_reducible rfl
        simp only [Act.put, List.setIfInBounds_toArray, List.set_cons_zero, List.set_cons_succ]
        refine wpR_take (i := 4) (v := ?_) (⟨fun _ => rfl, Eq.trans⟩) (some 51) rfl (by kernel_rfl) (by kernel_rfl) (by kernel_rfl) (by kernel_rfl) (by kernel_rfl) (fun _ _ _ h => h) (by kernel_rfl) (fun w' hw' => ?_) ?_
        rotate_left
        · subst hw'; have cv := run_str_at (C1 k) dd1.out n1.out; go_simp; with_reducible rfl
        simp only [Act.put, List.setIfInBounds_toArray, List.set_cons_zero, List.set_cons_succ]
        refine wpR_take (i := 5) (v := ?_) (⟨fun _ => rfl, Eq.trans⟩) (some 52) rfl (by kernel_rfl) (by kernel_rfl) (by kernel_rfl) (by kernel_rfl) (by kernel_rfl) (fun _ _ _ h => h) (by kernel_rfl) (fun w' hw' => ?_) ?_
        rotate_left
        · go_simp; with_reducible rfl
        simp only [Act.put, List.setIfInBounds_toArray, List.set_cons_zero, List.set_cons_succ]
        refine wpR_take (i := 6) (v := ?_) (⟨fun _ => rfl, Eq.trans⟩) (some 53) rfl (by kernel_rfl) (by kernel_rfl) (by kernel_rfl) (by kernel_rfl) (by kernel_rfl) (fun _ _ _ h => h) (by kernel_rfl) (fun w' hw' => ?_) ?_
        rotate_left
        · go_simp; with_reducible rfl
        simp only [Act.put, List.setIfInBounds_toArray, List.set_cons_zero, List.set_cons_succ]
        refine wpR_take (i := 7) (v := ?_) (⟨fun _ => rfl, Eq.trans⟩) (some 54) rfl (by kernel_rfl) (by kernel_rfl) (by kernel_rfl) (by kernel_rfl) (by kernel_rfl) (fun _ _ _ h => h) (by kernel_rfl) (fun w' hw' => ?_) ?_
        rotate_left
        · go_simp; with_reducible rfl
        simp only [Act.put, List.setIfInBounds_toArray, List.set_cons_zero, List.set_cons_succ]
        refine wpR_take (i := 8) (v := ?_) (⟨fun _ => rfl, Eq.trans⟩) (some 55) rfl (by kernel_rfl) (by kernel_rfl) (by kernel_rfl) (by kernel_rfl) (by kernel_rfl) (fun _ _ _ h => h) (by kernel_rfl) (fun w' hw' => ?_) ?_
        rotate_left
        · subst hw'; go_simp; with_reducible rfl
        simp only [Act.put, List.setIfInBounds_toArray, List.set_cons_zero, List.set_cons_succ]
        refine wpR_take (i := 9) (v := ?_) (⟨fun _ => rfl, Eq.trans⟩) (some 56) rfl (by kernel_rfl) (by kernel_rfl) (by kernel_rfl) (by kernel_rfl) (by kernel_rfl) (fun _ _ _ h => h) (by kernel_rfl) (fun w' hw' => ?_) ?_
        rotate_left
        · subst hw'; have cv := run_str_at (C2 k) dd2.out n2.out; go_simp; with_reducible rfl
        simp only [Act.put, List.setIfInBounds_toArray, List.set_cons_zero, List.set_cons_succ]
        refine wpR_take (i := 10) (v := ?_) (⟨fun _ => rfl, Eq.trans⟩) (some 57) rfl (by kernel_rfl) (by kernel_rfl) (by kernel_rfl) (by kernel_rfl) (by kernel_rfl) (fun _ _ _ h => h) (by kernel_rfl) (fun w' hw' => ?_) ?_
        rotate_left
        · go_simp; with_reducible rfl
        simp only [Act.put, List.setIfInBounds_toArray, List.set_cons_zero, List.set_cons_succ]
        refine wpR_done (by kernel_rfl) ?_ _
        go_wp2_with fail
        go_roundw
        case rel => first | exact ⟨k + 1, cnt, by omega, by omega, by go_num, rfl, hcnt2, hgd⟩ | ((repeat apply Exists.intro); exact ⟨⟨k + 1, cnt, by omega, by omega, by go_num, rfl, hcnt2, hgd⟩, rfl⟩)
        case measure => simp [intOf]; omega
      | false =>
        have hcnt2 : Hid (cnt + 1 = ((List.range (k + 1)).filter (dif lx ly)).length) := Lib.hid (by rw [hsucc, hdef, hbb, if_pos (by decide), ← hcnt.out])
        replace hsucc := Lib.hid hsucc
        replace hdef := Lib.hid hdef
        go_wp2_with fail
        obtain ⟨wd, hwd⟩ : ∃ wd, wd = wr.drew := ⟨_, rfl⟩
        have hgd : Hid (Gr w4 wd) := Lib.hid (by rw [hwd]; exact hg.out.drew)
        have q1 : wd.cell? ⟨g1, k, none⟩ = some (.slice (some ⟨G1 k, 0, none⟩) 16 (C1 k)) := by rw [hwd]; exact p1
        have q2 : wd.cell? ⟨g2, k, none⟩ = some (.slice (some ⟨G2 k, 0, none⟩) 16 (C2 k)) := by rw [hwd]; exact p2
        have dd1 : Hid (Rd wd wd.heap.size (some ⟨G1 k, 0, none⟩) r1) := Lib.hid (by rw [hwd]; exact d1.out)
        have dd2 : Hid (Rd wd wd.heap.size (some ⟨G2 k, 0, none⟩) r2) := Lib.hid (by rw [hwd]; exact d2.out)
        refine wpR_region (Eq) 9999 (by kernel_rfl) ?_
        (rw [← hwd]; replace hwd := Lib.hid hwd)
        refine wpR_take (i := 0) (v := ?_) (⟨fun _ => rfl, Eq.trans⟩) (some 47) rfl (by kernel_rfl) (by kernel_rfl) (by kernel_rfl) (by kernel_rfl) (by kernel_rfl) (fun _ _ _ h => h) (by kernel_rfl) (fun w' hw' => ?_) ?_
        rotate_left
        · go_simp; with_reducible rfl
        simp only [Act.put, List.setIfInBounds_toArray, List.set_cons_zero, List.set_cons_succ]
        refine wpR_take (i := 1) (v := ?_) (⟨fun _ => rfl, Eq.trans⟩) (some 48) rfl (by kernel_rfl) (by kernel_rfl) (by kernel_rfl) (by kernel_rfl) (by kernel_rfl) (fun _ _ _ h => h) (by kernel_rfl) (fun w' hw' => ?_) ?_
        rotate_left
        · go_simp; with_reducible rfl
        simp only [Act.put, List.setIfInBounds_toArray, List.set_cons_zero, List.set_cons_succ]
        refine wpR_take (i := 2) (v := ?_) (⟨fun _ => rfl, Eq.trans⟩) (some 49) rfl (by kernel_rfl) (by kernel_rfl) (by kernel_rfl) (by kernel_rfl) (by kernel_rfl) (fun _ _ _ h => h) (by kernel_rfl) (fun w' hw' => ?_) ?_
        rotate_left
        · go_simp; with_reducible rfl
        simp only [Act.put, List.setIfInBounds_toArray, List.set_cons_zero, List.set_cons_succ]
        refine wpR_take (i := 3) (v := ?_) (⟨fun _ => rfl, Eq.trans⟩) (some 50) rfl (by kernel_rfl) (by kernel_rfl) (by kernel_rfl) (by kernel_rfl) (by kernel_rfl) (fun _ _ _ h => h) (by kernel_rfl) (fun w' hw' => ?_) ?_
        rotate_left
        · subst hw'; go_simp; with_reducible rfl
        simp only [Act.put, List.setIfInBounds_toArray, List.set_cons_zero, List.set_cons_succ]
        refine wpR_take (i := 4) (v := ?_) (⟨fun _ => rfl, Eq.trans⟩) (some 51) rfl (by kernel_rfl) (by kernel_rfl) (by kernel_rfl) (by kernel_rfl) (by kernel_rfl) (fun _ _ _ h => h) (by kernel_rfl) (fun w' hw' => ?_) ?_
        rotate_left
        · subst hw'; have cv := run_str_at (C1 k) dd1.out n1.out; go_simp; with_reducible rfl
        simp only [Act.put, List.setIfInBounds_toArray, List.set_cons_zero, List.set_cons_succ]
        refine wpR_take (i := 5) (v := ?_) (⟨fun _ => rfl, Eq.trans⟩) (some 52) rfl (by kernel_rfl) (by kernel_rfl) (by kernel_rfl) (by kernel_rfl) (by kernel_rfl) (fun _ _ _ h => h) (by kernel_rfl) (fun w' hw' => ?_) ?_
        rotate_left
        · go_simp; with_reducible rfl
        simp only [Act.put, List.setIfInBounds_toArray, List.set_cons_zero, List.set_cons_succ]
        refine wpR_take (i := 6) (v := ?_) (⟨fun _ => rfl, Eq.trans⟩) (some 53) rfl (by kernel_rfl) (by kernel_rfl) (by kernel_rfl) (by kernel_rfl) (by kernel_rfl) (fun _ _ _ h => h) (by kernel_rfl) (fun w' hw' => ?_) ?_
        rotate_left
        · go_simp; with_reducible rfl
        simp only [Act.put, List.setIfInBounds_toArray, List.set_cons_zero, List.set_cons_succ]
        refine wpR_take (i := 7) (v := ?_) (⟨fun _ => rfl, Eq.trans⟩) (some 54) rfl (by kernel_rfl) (by kernel_rfl) (by kernel_rfl) (by kernel_rfl) (by kernel_rfl) (fun _ _ _ h => h) (by kernel_rfl) (fun w' hw' => ?_) ?_
        rotate_left
        · go_simp; with_reducible rfl
        simp only [Act.put, List.setIfInBounds_toArray, List.set_cons_zero, List.set_cons_succ]
        refine wpR_take (i := 8) (v := ?_) (⟨fun _ => rfl, Eq.trans⟩) (some 55) rfl (by kernel_rfl) (by kernel_rfl) (by kernel_rfl) (by kernel_rfl) (by kernel_rfl) (fun _ _ _ h => h) (by kernel_rfl) (fun w' hw' => ?_) ?_
        rotate_left
        · subst hw'; go_simp; with_reducible rfl
        simp only [Act.put, List.setIfInBounds_toArray, List.set_cons_zero, List.set_cons_succ]
        refine wpR_take (i := 9) (v := ?_) (⟨fun _ => rfl, Eq.trans⟩) (some 56) rfl (by kernel_rfl) (by kernel_rfl) (by kernel_rfl) (by kernel_rfl) (by kernel_rfl) (fun _ _ _ h => h) (by kernel_rfl) (fun w' hw' => ?_) ?_
        rotate_left
        · subst hw'; have cv := run_str_at (C2 k) dd2.out n2.out; go_simp; with_reducible rfl
        simp only [Act.put, List.setIfInBounds_toArray, List.set_cons_zero, List.set_cons_succ]
        refine wpR_take (i := 10) (v := ?_) (⟨fun _ => rfl, Eq.trans⟩) (some 57) rfl (by kernel_rfl) (by kernel_rfl) (by kernel_rfl) (by kernel_rfl) (by kernel_rfl) (fun _ _ _ h => h) (by kernel_rfl) (fun w' hw' => ?_) ?_
        rotate_left
        · go_simp; with_reducible rfl
        simp only [Act.put, List.setIfInBounds_toArray, List.set_cons_zero, List.set_cons_succ]
        refine wpR_done (by kernel_rfl) ?_ _
        go_wp2_with fail
        go_roundw
        case rel => first | exact ⟨k + 1, cnt + 1, by omega, by omega, by go_num, by go_num, hcnt2, hgd⟩ | ((repeat apply Exists.intro); exact ⟨⟨k + 1, cnt + 1, by omega, by omega, by go_num, by go_num, hcnt2, hgd⟩, rfl⟩)
        case measure => simp [intOf]; omega
    · obtain rfl : k = 10 := by omega
      have i10 : decide (((10 : Nat) : Int) < 10) = false := by decide
      replace hq := Gr.go hq hg.out
      replace hX := OB.gr hg.out hX
      replace hY := OB.gr hg.out hY
      clear hP hS hg
      go_wp2_with fail
      refine (awake3_p _).mono ?_
      rintro e w5 ⟨rfl, hr⟩
      replace hX := OB.gr hr hX
      replace hY := OB.gr hr hY
      replace hq := Gr.go hq hr
      clear hr
      have cv1 := run_str_at (n := 128) cX (OB.rd hX.out).1 hlx.out
      have cv2 := run_str_at (n := 128) cY (OB.rd hY.out).1 hly.out
      by_cases hxy : lx = ly
      · have hbb : (lx == ly) = true := beq_iff_eq.mpr hxy
        have hc0 : cnt = 0 := by rw [hcnt.out, hxy]; exact wrong_none
        subst hc0
        replace hxy := Lib.hid hxy
        go_wp2_with fail
        go_ret
        exact ⟨rfl, hq.out⟩
      · have hbb : (lx == ly) = false := beq_eq_false_iff_ne.mpr hxy
        have hc3 : 3 ≤ cnt := by rw [hcnt.out]; exact wrong_three hlx.out hly.out hxy
        have z1 : ((cnt : Int) == 0) = false := by simp; omega
        have z2 : decide (3 ≤ (cnt : Int)) = true := decide_eq_true (by omega)
        have z3 : (3 : Int) ≤ (cnt : Int) := by omega
        replace hxy := Lib.hid hxy
        go_wp2_with fail
        go_ret
        exact ⟨rfl, hq.out⟩
end Go.Proofs.Ytpeilgeloaogfaa
