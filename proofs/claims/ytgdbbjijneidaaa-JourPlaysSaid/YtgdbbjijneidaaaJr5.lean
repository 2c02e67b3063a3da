/- Whether two notes are one. -/
import Derived.Test.YtgdbbjijneidaaaJr2
namespace Go.Proofs.Ytgdbbjijneidaaa
set_option linter.unusedVariables false
set_option linter.unusedSimpArgs false
open Go Go.RowKit
def sameN (a b : Nt) : Bool := decide (a = b)
theorem sameN_eq (a b : Nt) : sameN a b = ((a.kind == b.kind) && (a.key == b.key) && (a.gen == b.gen) && (a.cart == b.cart) && (a.data == b.data) && (a.sum == b.sum) && (a.size == b.size) && (a.places == b.places)) := by
  unfold sameN
  rw [Bool.eq_iff_iff, decide_eq_true_iff]
  cases a; cases b
  simp [and_assoc]
theorem equal_b (l m : List UInt8) (v u : Value) (w : World) (h : Byt l v w) (h2 : Byt m u w) :
    Calls Try.prog 55 #[v, u] w fun e w' => e = .returned (.bool (l == m)) ∧ w' = w := by
  obtain ⟨A, c, rfl, -, -, hR⟩ := h
  obtain ⟨A2, c2, rfl, -, -, hR2⟩ := h2
  obtain ⟨n, hn⟩ : ∃ n, l.length = n := ⟨_, rfl⟩
  obtain ⟨n2, hn2⟩ : ∃ n, m.length = n := ⟨_, rfl⟩
  rw [hn, hn2]
  have c1 := run_str_at c hR hn
  have c2' := run_str_at c2 hR2 hn2
  have hbq := bs_beq l m
  clear hR hR2
  go_enter Try.func55, Try.ntmps55
  go_wp2
  go_ret
  exact ⟨by first | rfl | simp [hbq], rfl⟩
set_option maxHeartbeats 2000000 in
set_option maxRecDepth 10000 in
theorem eqPl_any (l m : List (Int × Int)) (v u : Value) (w : World) (h : Pls l v w) (h2 : Pls m u w) :
    Calls Try.prog 56 #[v, u] w fun e w' => e = .returned (.bool (l == m)) ∧ Gr w w' := by
  obtain ⟨A, c, rfl, hc1, hc2, hp, -⟩ := h
  obtain ⟨A2, c2, rfl, hd1, hd2, hp2, -⟩ := h2
  obtain ⟨n, hn⟩ : ∃ n, l.length = n := ⟨_, rfl⟩
  obtain ⟨n2, hn2⟩ : ∃ n, m.length = n := ⟨_, rfl⟩
  rw [hn] at hc1 hp ⊢
  rw [hn2] at hd1 hp2 ⊢
  have hnm : n ≤ 9223372036854775807 := by simp only [maxLen] at hc2; omega
  replace hp := Lib.hid hp
  replace hp2 := Lib.hid hp2
  obtain ⟨k, hk⟩ : ∃ k, (l == m) = k := ⟨_, rfl⟩
  rw [hk]
  replace hk := Lib.hid hk
  clear hc1 hc2 hd1 hd2
  by_cases hne : n = n2
  · subst hne
    replace hn := Lib.hid hn
    replace hn2 := Lib.hid hn2
    go_enter Try.func56, Try.ntmps56
    go_wp2_with fail
    go_loopw [13] (fun i wr => ∃ j : Nat, i = .int .i64 j ∧ j ≤ n ∧ Hid (∀ t, t < j → l[t]? = m[t]?) ∧ Hid (Gr w wr)) (fun i _ => n - (intOf i).toNat)
    case atStart => exact ⟨0, rfl, Nat.zero_le _, Lib.hid (fun t ht => absurd ht (by omega)), Lib.hid (Gr.refl _)⟩
    case round =>
      obtain ⟨j, rfl, hj, hall, hb⟩ := hrel
      by_cases hlt : j < n
      · obtain ⟨⟨p1, p2⟩, hq⟩ : ∃ q, l[j]? = some q := ⟨_, List.getElem?_eq_getElem (by rw [hn.out]; exact hlt)⟩
        obtain ⟨⟨q1, q2⟩, hq2⟩ : ∃ q, m[j]? = some q := ⟨_, List.getElem?_eq_getElem (by rw [hn2.out]; exact hlt)⟩
        obtain ⟨b, o, e, hbl, hce⟩ := hp.out (by omega)
        obtain ⟨b2, o2, e2, hbl2, hce2⟩ := hp2.out (by omega)
        subst e
        subst e2
        obtain ⟨y0, y1⟩ := hce j _ hq
        obtain ⟨z0, z1⟩ := hce2 j _ hq2
        clear hce hce2
        simp only at y0 y1 z0 z1
        have hgd := hb.out.trans (show Gr wr wr.drew from (Below.refl _ _).drew)
        obtain ⟨wd, hwd⟩ : ∃ wd, wd = wr.drew := ⟨_, rfl⟩
        rw [← hwd] at hgd
        have x0 := (cellGr hgd (a := ⟨b, o + j * 2, none⟩) hbl).trans y0
        have x1 := (cellGr hgd (a := ⟨b, o + j * 2 + 1, none⟩) hbl).trans y1
        have u0 := (cellGr hgd (a := ⟨b2, o2 + j * 2, none⟩) hbl2).trans z0
        have u1 := (cellGr hgd (a := ⟨b2, o2 + j * 2 + 1, none⟩) hbl2).trans z1
        clear y0 y1 z0 z1
        replace hgd := Lib.hid hgd
        replace hq := Lib.hid hq
        replace hq2 := Lib.hid hq2
        obtain ⟨s0, es0⟩ : ∃ s, (p1 == q1) = s := ⟨_, rfl⟩
        obtain ⟨s1, es1⟩ : ∃ s, (p2 == q2) = s := ⟨_, rfl⟩
        have hb2 : Hid (Gr w wd) := hgd
        go_upto_region 6 with (fail)
        by_cases hpq : p1 = q1 ∧ p2 = q2
        · obtain ⟨rfl, rfl⟩ := hpq
          rw [beq_self_eq_true] at es0 es1
          subst es0
          subst es1
          have hall2 : Hid (∀ t, t < j + 1 → l[t]? = m[t]?) := Lib.hid (fun t ht => by
            by_cases ht' : t < j
            · exact hall.out t ht'
            · have : t = j := by omega
              subst this
              rw [hq.out, hq2.out])
          refine wpR_region (Eq) 9999 (by kernel_rfl) ?_
          (rw [← hwd]; replace hwd := Lib.hid hwd)
          refine wpR_take (i := 0) (v := ?_) (⟨fun _ => rfl, Eq.trans⟩) (some 16) rfl (by kernel_rfl) (by kernel_rfl) (by kernel_rfl) (by kernel_rfl) (by kernel_rfl) (fun _ _ _ h => h) (by kernel_rfl) (fun w' hw' => ?_) ?_
          rotate_left
          · go_simp; with_reducible rfl
          simp only [Act.put, List.setIfInBounds_toArray, List.set_cons_zero, List.set_cons_succ]
          refine wpR_take (i := 1) (v := ?_) (⟨fun _ => rfl, Eq.trans⟩) (some 17) rfl (by kernel_rfl) (by kernel_rfl) (by kernel_rfl) (by kernel_rfl) (by kernel_rfl) (fun _ _ _ h => h) (by kernel_rfl) (fun w' hw' => ?_) ?_
          rotate_left
          · go_simp; with_reducible rfl
          simp only [Act.put, List.setIfInBounds_toArray, List.set_cons_zero, List.set_cons_succ]
          refine wpR_take (i := 2) (v := ?_) (⟨fun _ => rfl, Eq.trans⟩) (some 18) rfl (by kernel_rfl) (by kernel_rfl) (by kernel_rfl) (by kernel_rfl) (by kernel_rfl) (fun _ _ _ h => h) (by kernel_rfl) (fun w' hw' => ?_) ?_
          rotate_left
          · go_simp; with_reducible rfl
          simp only [Act.put, List.setIfInBounds_toArray, List.set_cons_zero, List.set_cons_succ]
          refine wpR_take (i := 3) (v := ?_) (⟨fun _ => rfl, Eq.trans⟩) (some 19) rfl (by kernel_rfl) (by kernel_rfl) (by kernel_rfl) (by kernel_rfl) (by kernel_rfl) (fun _ _ _ h => h) (by kernel_rfl) (fun w' hw' => ?_) ?_
          rotate_left
          · subst hw'; go_simp; with_reducible rfl
          simp only [Act.put, List.setIfInBounds_toArray, List.set_cons_zero, List.set_cons_succ]
          refine wpR_take (i := 4) (v := ?_) (⟨fun _ => rfl, Eq.trans⟩) (some 20) rfl (by kernel_rfl) (by kernel_rfl) (by kernel_rfl) (by kernel_rfl) (by kernel_rfl) (fun _ _ _ h => h) (by kernel_rfl) (fun w' hw' => ?_) ?_
          rotate_left
          · go_simp; with_reducible rfl
          simp only [Act.put, List.setIfInBounds_toArray, List.set_cons_zero, List.set_cons_succ]
          refine wpR_take (i := 5) (v := ?_) (⟨fun _ => rfl, Eq.trans⟩) (some 21) rfl (by kernel_rfl) (by kernel_rfl) (by kernel_rfl) (by kernel_rfl) (by kernel_rfl) (fun _ _ _ h => h) (by kernel_rfl) (fun w' hw' => ?_) ?_
          rotate_left
          · go_simp; with_reducible rfl
          simp only [Act.put, List.setIfInBounds_toArray, List.set_cons_zero, List.set_cons_succ]
          refine wpR_take (i := 6) (v := ?_) (⟨fun _ => rfl, Eq.trans⟩) (some 22) rfl (by kernel_rfl) (by kernel_rfl) (by kernel_rfl) (by kernel_rfl) (by kernel_rfl) (fun _ _ _ h => h) (by kernel_rfl) (fun w' hw' => ?_) ?_
          rotate_left
          · go_simp; with_reducible rfl
          simp only [Act.put, List.setIfInBounds_toArray, List.set_cons_zero, List.set_cons_succ]
          refine wpR_take (i := 7) (v := ?_) (⟨fun _ => rfl, Eq.trans⟩) (some 23) rfl (by kernel_rfl) (by kernel_rfl) (by kernel_rfl) (by kernel_rfl) (by kernel_rfl) (fun _ _ _ h => h) (by kernel_rfl) (fun w' hw' => ?_) ?_
          rotate_left
          · subst hw'; go_simp; with_reducible rfl
          simp only [Act.put, List.setIfInBounds_toArray, List.set_cons_zero, List.set_cons_succ]
          refine wpR_take (i := 8) (v := ?_) (⟨fun _ => rfl, Eq.trans⟩) (some 24) rfl (by kernel_rfl) (by kernel_rfl) (by kernel_rfl) (by kernel_rfl) (by kernel_rfl) (fun _ _ _ h => h) (by kernel_rfl) (fun w' hw' => ?_) ?_
          rotate_left
          · go_simp; with_reducible rfl
          simp only [Act.put, List.setIfInBounds_toArray, List.set_cons_zero, List.set_cons_succ]
          refine wpR_done (by kernel_rfl) ?_ _
          go_wp2_with fail
          go_roundw
          case rel => exact ⟨j + 1, by go_num, by omega, hall2, hb2⟩
          case measure => simp [intOf]; omega
        · have hres : Hid (k = false) := Lib.hid (by
            rw [← hk.out, beq_eq_false_iff_ne]
            intro e
            rw [e, hq2.out] at hq
            have hq := hq.out
            injection hq with hq
            injection hq with ha hb
            exact hpq ⟨ha.symm, hb.symm⟩)
          replace hres := hres
          have hs : s0 = false ∨ (s0 = true ∧ s1 = false) := by
            cases s0 with
            | false => exact .inl rfl
            | true => 
              refine .inr ⟨rfl, ?_⟩
              rw [← es1, beq_eq_false_iff_ne]
              intro e
              exact hpq ⟨beq_iff_eq.mp es0, e⟩
          replace hpq := Lib.hid hpq
          rcases hs with rfl | ⟨rfl, rfl⟩
          all_goals
            refine wpR_region (Eq) 9999 (by kernel_rfl) ?_
            (rw [← hwd]; replace hwd := Lib.hid hwd)
            refine wpR_take (i := 0) (v := ?_) (⟨fun _ => rfl, Eq.trans⟩) (some 16) rfl (by kernel_rfl) (by kernel_rfl) (by kernel_rfl) (by kernel_rfl) (by kernel_rfl) (fun _ _ _ h => h) (by kernel_rfl) (fun w' hw' => ?_) ?_
            rotate_left
            · go_simp; with_reducible rfl
            simp only [Act.put, List.setIfInBounds_toArray, List.set_cons_zero, List.set_cons_succ]
            refine wpR_take (i := 1) (v := ?_) (⟨fun _ => rfl, Eq.trans⟩) (some 17) rfl (by kernel_rfl) (by kernel_rfl) (by kernel_rfl) (by kernel_rfl) (by kernel_rfl) (fun _ _ _ h => h) (by kernel_rfl) (fun w' hw' => ?_) ?_
            rotate_left
            · go_simp; with_reducible rfl
            simp only [Act.put, List.setIfInBounds_toArray, List.set_cons_zero, List.set_cons_succ]
            refine wpR_take (i := 2) (v := ?_) (⟨fun _ => rfl, Eq.trans⟩) (some 18) rfl (by kernel_rfl) (by kernel_rfl) (by kernel_rfl) (by kernel_rfl) (by kernel_rfl) (fun _ _ _ h => h) (by kernel_rfl) (fun w' hw' => ?_) ?_
            rotate_left
            · go_simp; with_reducible rfl
            simp only [Act.put, List.setIfInBounds_toArray, List.set_cons_zero, List.set_cons_succ]
            refine wpR_take (i := 3) (v := ?_) (⟨fun _ => rfl, Eq.trans⟩) (some 19) rfl (by kernel_rfl) (by kernel_rfl) (by kernel_rfl) (by kernel_rfl) (by kernel_rfl) (fun _ _ _ h => h) (by kernel_rfl) (fun w' hw' => ?_) ?_
            rotate_left
            · subst hw'; go_simp; with_reducible rfl
            simp only [Act.put, List.setIfInBounds_toArray, List.set_cons_zero, List.set_cons_succ]
            refine wpR_take (i := 4) (v := ?_) (⟨fun _ => rfl, Eq.trans⟩) (some 20) rfl (by kernel_rfl) (by kernel_rfl) (by kernel_rfl) (by kernel_rfl) (by kernel_rfl) (fun _ _ _ h => h) (by kernel_rfl) (fun w' hw' => ?_) ?_
            rotate_left
            · go_simp; with_reducible rfl
            simp only [Act.put, List.setIfInBounds_toArray, List.set_cons_zero, List.set_cons_succ]
            refine wpR_take (i := 5) (v := ?_) (⟨fun _ => rfl, Eq.trans⟩) (some 21) rfl (by kernel_rfl) (by kernel_rfl) (by kernel_rfl) (by kernel_rfl) (by kernel_rfl) (fun _ _ _ h => h) (by kernel_rfl) (fun w' hw' => ?_) ?_
            rotate_left
            · go_simp; with_reducible rfl
            simp only [Act.put, List.setIfInBounds_toArray, List.set_cons_zero, List.set_cons_succ]
            refine wpR_take (i := 6) (v := ?_) (⟨fun _ => rfl, Eq.trans⟩) (some 22) rfl (by kernel_rfl) (by kernel_rfl) (by kernel_rfl) (by kernel_rfl) (by kernel_rfl) (fun _ _ _ h => h) (by kernel_rfl) (fun w' hw' => ?_) ?_
            rotate_left
            · go_simp; with_reducible rfl
            simp only [Act.put, List.setIfInBounds_toArray, List.set_cons_zero, List.set_cons_succ]
            refine wpR_take (i := 7) (v := ?_) (⟨fun _ => rfl, Eq.trans⟩) (some 23) rfl (by kernel_rfl) (by kernel_rfl) (by kernel_rfl) (by kernel_rfl) (by kernel_rfl) (fun _ _ _ h => h) (by kernel_rfl) (fun w' hw' => ?_) ?_
            rotate_left
            · subst hw'; go_simp; with_reducible rfl
            simp only [Act.put, List.setIfInBounds_toArray, List.set_cons_zero, List.set_cons_succ]
            refine wpR_take (i := 8) (v := ?_) (⟨fun _ => rfl, Eq.trans⟩) (some 24) rfl (by kernel_rfl) (by kernel_rfl) (by kernel_rfl) (by kernel_rfl) (by kernel_rfl) (fun _ _ _ h => h) (by kernel_rfl) (fun w' hw' => ?_) ?_
            rotate_left
            · go_simp; with_reducible rfl
            simp only [Act.put, List.setIfInBounds_toArray, List.set_cons_zero, List.set_cons_succ]
            refine wpR_done (by kernel_rfl) ?_ _
            go_wp2_with fail
            go_ret
            exact ⟨by first | (rw [hres.out]; rfl) | rw [hres.out], hb2.out⟩
      · obtain rfl : j = n := by omega
        clear hlt
        have hres : Hid (k = true) := Lib.hid (by
          rw [← hk.out, beq_iff_eq]
          refine List.ext_getElem? fun t => ?_
          by_cases ht : t < j
          · exact hall.out t ht
          · rw [List.getElem?_eq_none (by rw [hn.out]; omega), List.getElem?_eq_none (by rw [hn2.out]; omega)])
        go_wp2_with fail
        go_ret
        exact ⟨by first | (rw [hres.out]; rfl) | rw [hres.out], hb.out⟩
  · have hres : Hid (k = false) := Lib.hid (by
      rw [← hk.out, beq_eq_false_iff_ne]
      intro e
      rw [e] at hn
      omega)
    replace hn := Lib.hid hn
    replace hn2 := Lib.hid hn2
    have hne' : decide ((n : Int) = n2) = false := decide_eq_false (by omega)
    have hne2 : ((n : Int) == n2) = false := beq_eq_false_iff_ne.mpr (by omega)
    go_enter Try.func56, Try.ntmps56
    go_wp2_with fail
    go_ret
    exact ⟨by first | (rw [hres.out]; rfl) | rw [hres.out], Gr.refl _⟩
set_option maxHeartbeats 8000000 in
set_option maxRecDepth 10000 in
theorem same_any (a b : Nt) (v u : Value) (w : World) (h : NtV a v w) (h2 : NtV b u w) :
    Calls Try.prog 20 #[v, u] w fun e w' => e = .returned (.bool (sameN a b)) ∧ Gr w w' := by
  obtain ⟨A, c, A2, c2, rfl, hB, hP⟩ := h
  obtain ⟨B, d, B2, d2, rfl, hB2, hP2⟩ := h2
  have hb1 := Gr.alloc w (.cells (a.cells A c A2 c2) 25)
  have hb := Lib.hid (hb1.trans (Gr.alloc _ (.cells (b.cells B d B2 d2) 25)))
  have hcE := equal_b _ _ _ _ _ (Byt.gr hb.out (Lib.hid hB)).out (Byt.gr hb.out (Lib.hid hB2)).out
  have hcP := eqPl_any _ _ _ _ _ (Pls.gr hb.out (Lib.hid hP)).out (Pls.gr hb.out (Lib.hid hP2)).out
  have hv := sameN_eq a b
  clear hb1 hB hP hB2 hP2
  unfold Nt.agg
  unfold Nt.cells at hb hcE hcP
  obtain ⟨k0, d0⟩ : ∃ k, (a.kind == b.kind) = k := ⟨_, rfl⟩
  rw [d0] at hv
  obtain ⟨k1, e1⟩ : ∃ k, (a.key == b.key) = k := ⟨_, rfl⟩
  have d1 : (bs a.key == bs b.key) = k1 := by rw [bs_beq, e1]
  rw [e1] at hv
  obtain ⟨k2, d2⟩ : ∃ k, (a.gen == b.gen) = k := ⟨_, rfl⟩
  rw [d2] at hv
  obtain ⟨k3, d3⟩ : ∃ k, (a.cart == b.cart) = k := ⟨_, rfl⟩
  rw [d3] at hv
  obtain ⟨k4, d4⟩ : ∃ k, (a.data == b.data) = k := ⟨_, rfl⟩
  rw [d4] at hv hcE
  obtain ⟨k5, e5⟩ : ∃ k, (a.sum == b.sum) = k := ⟨_, rfl⟩
  have d5 : (bs a.sum == bs b.sum) = k5 := by rw [bs_beq, e5]
  rw [e5] at hv
  obtain ⟨k6, d6⟩ : ∃ k, (a.size == b.size) = k := ⟨_, rfl⟩
  rw [d6] at hv
  obtain ⟨k7, d7⟩ : ∃ k, (a.places == b.places) = k := ⟨_, rfl⟩
  rw [d7] at hv hcP
  rw [hv]
  replace hcE := Lib.hid hcE
  replace hcP := Lib.hid hcP
  clear hv
  go_enter Try.func20, Try.ntmps20
  go_wp2_with (first
    | (go_at_call 55; refine hcE.out.mono ?_; rintro e w' ⟨rfl, rfl⟩)
    | (go_at_call 56; refine hcP.out.mono ?_; rintro e w' ⟨rfl, hb2⟩; replace hb2 := Lib.hid hb2))
  all_goals (first | go_ret | (go_wp2; go_ret))
  all_goals first
    | refine ⟨congrArg (fun z => Ending.returned (Value.bool z)) ?_, hb.out.trans hb2.out⟩
    | refine ⟨congrArg (fun z => Ending.returned (Value.bool z)) ?_, hb.out⟩
  all_goals simp_all
end Go.Proofs.Ytgdbbjijneidaaa
