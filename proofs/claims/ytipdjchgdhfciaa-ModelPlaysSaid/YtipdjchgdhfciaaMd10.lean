/- model: lists of texts compared; a model made by acts. -/
import Derived.Test.YtipdjchgdhfciaaMd9
import Derived.Laws.Cover1
namespace Go.Proofs.Ytipdjchgdhfciaa
set_option linter.unusedVariables false
set_option linter.unusedSimpArgs false
open Go Go.RowKit Go.Maps Go.Sort
/-- a row of texts -/
def Txts (K : List (List UInt8)) (v : Value) (w : World) : Prop := ∃ base, w.ownsRow base 9 1 v K.length (K.map encStr)
theorem Txts.gr {K : List (List UInt8)} {v : Value} {w w' : World} (hg : GrM w w') (h : Hid (Txts K v w)) : Hid (Txts K v w') := Lib.hid (by
  obtain ⟨base, h⟩ := h.out; exact ⟨base, row_below h hg⟩)
theorem Txts.form {K : List (List UInt8)} {v : Value} {w : World} (h : Txts K v w) : ∃ A c, v = .slice A K.length c ∧ K.length ≤ c ∧ c ≤ maxLen := by
  obtain ⟨base, h⟩ := h; exact row_form h
theorem Txts.cells {K : List (List UInt8)} {A : Option Addr} {n c : Nat} {w : World} (h : Txts K (.slice A n c) w) (hp : 0 < n) : ∃ g, A = some ⟨g, 0, none⟩ ∧ g < w.heap.size ∧ ∀ i x, K[i]? = some x → w.cell? ⟨g, i, none⟩ = some (.string (bs x)) := by
  obtain ⟨base, h⟩ := h
  obtain ⟨A', c', e, -, -⟩ := row_form h
  injection e with e1 e2 e3
  obtain ⟨g, c2, e, -, -, -, hg, -, -, hc, -⟩ := row_at h (by omega)
  injection e with e4 _ _
  exact ⟨g, e4, hg, fun i x hx => hc i _ (by rw [List.getElem?_map, hx]; rfl)⟩
theorem eq_of_atT {l m : List (List UInt8)} (hn : l.length = m.length) (h : ∀ i, i < l.length → l[i]? = m[i]?) : l = m :=
  List.ext_getElem? fun i => by
    by_cases hi : i < l.length
    · exact h i hi
    · rw [List.getElem?_eq_none (by omega), List.getElem?_eq_none (by omega)]
set_option maxHeartbeats 4000000 in
set_option maxRecDepth 10000 in
theorem same22_any (l m : List (List UInt8)) (v u : Value) (w : World) (hv : Hid (Txts l v w)) (hu : Hid (Txts m u w)) (hl : l.length ≤ 1000000) (hm : m.length ≤ 1000000) :
    Calls Try.prog 13 #[v, u] w fun e w' => e = .returned (.bool (l == m)) ∧ GrM w w' := by
  obtain ⟨A, c, rfl, -, -⟩ := hv.out.form
  obtain ⟨A2, c2, rfl, -, -⟩ := hu.out.form
  obtain ⟨q, hq⟩ : ∃ q, q = (l == m) := ⟨_, rfl⟩
  rw [← hq]
  replace hq := Lib.hid hq
  obtain ⟨n, hn⟩ : ∃ n, l.length = n := ⟨_, rfl⟩
  obtain ⟨n2, hn2⟩ : ∃ n2, m.length = n2 := ⟨_, rfl⟩
  rw [hn] at hl hv ⊢
  rw [hn2] at hm hu ⊢
  by_cases hne : n = n2
  · subst hne
    have e1 : ((n : Int) != (n : Int)) = false := by simp
    replace hn := Lib.hid hn
    replace hn2 := Lib.hid hn2
    go_enter Try.func13, Try.ntmps13
    go_wp2_with fail
    go_loopw [5] (fun i wr => ∃ k : Nat, k ≤ n ∧ i = .int .i64 k ∧ Hid (∀ j, j < k → l[j]? = m[j]?) ∧ Hid (GrM w wr)) (fun i _ => (n - intOf i).toNat)
    case atStart => exact ⟨0, Nat.zero_le _, rfl, Lib.hid (fun j h => absurd h (by omega)), Lib.hid (GrM.refl _)⟩
    case round =>
      obtain ⟨k, hk, rfl, hall, hg⟩ := hrel
      by_cases hkn : k < n
      · have ik : (k : Int) < (n : Int) := by omega
        obtain ⟨wd, hwd⟩ : ∃ wd, wd = wr.drew := ⟨_, rfl⟩
        have hgd : Hid (GrM w wd) := Lib.hid (by rw [hwd]; exact hg.out.drew)
        obtain ⟨b, rfl, -, hc⟩ := (Txts.gr hgd.out hv).out.cells (by omega)
        obtain ⟨b2, rfl, -, hc2⟩ := (Txts.gr hgd.out hu).out.cells (by omega)
        obtain ⟨x, hx⟩ : ∃ x, l[k]? = some x := ⟨_, List.getElem?_eq_getElem (by rw [hn.out]; exact hkn)⟩
        obtain ⟨y, hy⟩ : ∃ y, m[k]? = some y := ⟨_, List.getElem?_eq_getElem (by rw [hn2.out]; exact hkn)⟩
        have cd0 := hc k x hx
        have cd1 := hc2 k y hy
        obtain ⟨d, hd⟩ : ∃ d, (x == y) = d := ⟨_, rfl⟩
        have hd' := Lib.hid hd
        replace hx := Lib.hid hx
        replace hy := Lib.hid hy
        clear hc hc2
        go_wp2_with fail
        refine wpR_region (Eq) 9999 (by kernel_rfl) ?_
        (rw [← hwd]; replace hwd := Lib.hid hwd)
        refine wpR_take (i := 0) (v := ?_) (⟨fun _ => rfl, Eq.trans⟩) (some 17) rfl (by kernel_rfl) (by kernel_rfl) (by kernel_rfl) (by kernel_rfl) (by kernel_rfl) (fun _ _ _ h => h) (by kernel_rfl) (fun w' hw' => ?_) ?_
        rotate_left
        · go_simp; with_reducible rfl
        simp only [Act.put, List.setIfInBounds_toArray, List.set_cons_zero, List.set_cons_succ]
        refine wpR_take (i := 1) (v := ?_) (⟨fun _ => rfl, Eq.trans⟩) (some 18) rfl (by kernel_rfl) (by kernel_rfl) (by kernel_rfl) (by kernel_rfl) (by kernel_rfl) (fun _ _ _ h => h) (by kernel_rfl) (fun w' hw' => ?_) ?_
        rotate_left
        · go_simp; with_reducible rfl
        simp only [Act.put, List.setIfInBounds_toArray, List.set_cons_zero, List.set_cons_succ]
        refine wpR_take (i := 2) (v := ?_) (⟨fun _ => rfl, Eq.trans⟩) (some 19) rfl (by kernel_rfl) (by kernel_rfl) (by kernel_rfl) (by kernel_rfl) (by kernel_rfl) (fun _ _ _ h => h) (by kernel_rfl) (fun w' hw' => ?_) ?_
        rotate_left
        · go_simp; with_reducible rfl
        simp only [Act.put, List.setIfInBounds_toArray, List.set_cons_zero, List.set_cons_succ]
        refine wpR_take (i := 3) (v := ?_) (⟨fun _ => rfl, Eq.trans⟩) (some 20) rfl (by kernel_rfl) (by kernel_rfl) (by kernel_rfl) (by kernel_rfl) (by kernel_rfl) (fun _ _ _ h => h) (by kernel_rfl) (fun w' hw' => ?_) ?_
        rotate_left
        · subst hw'; go_simp; with_reducible rfl
        simp only [Act.put, List.setIfInBounds_toArray, List.set_cons_zero, List.set_cons_succ]
        refine wpR_take (i := 4) (v := ?_) (⟨fun _ => rfl, Eq.trans⟩) (some 21) rfl (by kernel_rfl) (by kernel_rfl) (by kernel_rfl) (by kernel_rfl) (by kernel_rfl) (fun _ _ _ h => h) (by kernel_rfl) (fun w' hw' => ?_) ?_
        rotate_left
        · go_simp; with_reducible rfl
        simp only [Act.put, List.setIfInBounds_toArray, List.set_cons_zero, List.set_cons_succ]
        refine wpR_take (i := 5) (v := ?_) (⟨fun _ => rfl, Eq.trans⟩) (some 22) rfl (by kernel_rfl) (by kernel_rfl) (by kernel_rfl) (by kernel_rfl) (by kernel_rfl) (fun _ _ _ h => h) (by kernel_rfl) (fun w' hw' => ?_) ?_
        rotate_left
        · go_simp; with_reducible rfl
        simp only [Act.put, List.setIfInBounds_toArray, List.set_cons_zero, List.set_cons_succ]
        refine wpR_take (i := 6) (v := ?_) (⟨fun _ => rfl, Eq.trans⟩) (some 23) rfl (by kernel_rfl) (by kernel_rfl) (by kernel_rfl) (by kernel_rfl) (by kernel_rfl) (fun _ _ _ h => h) (by kernel_rfl) (fun w' hw' => ?_) ?_
        rotate_left
        · go_simp; with_reducible rfl
        simp only [Act.put, List.setIfInBounds_toArray, List.set_cons_zero, List.set_cons_succ]
        refine wpR_take (i := 7) (v := ?_) (⟨fun _ => rfl, Eq.trans⟩) (some 24) rfl (by kernel_rfl) (by kernel_rfl) (by kernel_rfl) (by kernel_rfl) (by kernel_rfl) (fun _ _ _ h => h) (by kernel_rfl) (fun w' hw' => ?_) ?_
        rotate_left
        · subst hw'; go_simp; with_reducible rfl
        simp only [Act.put, List.setIfInBounds_toArray, List.set_cons_zero, List.set_cons_succ]
        refine wpR_take (i := 8) (v := ?_) (⟨fun _ => rfl, Eq.trans⟩) (some 25) rfl (by kernel_rfl) (by kernel_rfl) (by kernel_rfl) (by kernel_rfl) (by kernel_rfl) (fun _ _ _ h => h) (by kernel_rfl) (fun w' hw' => ?_) ?_
        rotate_left
        · go_simp; with_reducible rfl
        simp only [Act.put, List.setIfInBounds_toArray, List.set_cons_zero, List.set_cons_succ]
        refine wpR_done (by kernel_rfl) ?_ _
        clear hd
        cases d with
        | true =>
          obtain rfl : x = y := eq_of_beq hd'.out
          have hnext : Hid (∀ j, j < k + 1 → l[j]? = m[j]?) := Lib.hid (fun j hj => by
            by_cases e : j = k
            · rw [e, hx.out, hy.out]
            · exact hall.out j (by omega))
          go_wp2_with fail
          go_roundw
          case rel => exact ⟨k + 1, by omega, by go_num, hnext, hgd⟩
          case measure => simp [intOf]; omega
        | false =>
          have hqf : Hid (q = false) := Lib.hid (by
            rw [hq.out]
            cases h : (l == m) with
            | false => rfl
            | true =>
              have h1 := hx.out.symm.trans ((eq_of_beq h ▸ rfl : l[k]? = m[k]?).trans hy.out)
              injection h1 with h1
              have := hd'.out; rw [h1] at this
              exact absurd this (by simp))
          go_wp2_with fail
          go_ret
          exact ⟨by rw [hqf.out]; rfl, hgd.out⟩
      · obtain rfl : k = n := by omega
        have ik : decide ((k : Int) < (k : Int)) = false := decide_eq_false (by omega)
        clear hkn
        have hqt : Hid (q = true) := Lib.hid (by
          rw [hq.out, eq_of_atT (by rw [hn.out, hn2.out]) (fun i hi => hall.out i (by rw [← hn.out]; exact hi))]
          exact beq_self_eq_true _)
        go_wp2_with fail
        go_ret
        exact ⟨by rw [hqt.out]; rfl, hg.out⟩
  · have e1 : ((n : Int) != (n2 : Int)) = true := by simp; omega
    have hqf : Hid (q = false) := Lib.hid (by
      rw [hq.out]
      cases h : (l == m) with
      | false => rfl
      | true => exact absurd (by rw [← hn, ← hn2, eq_of_beq h]) hne)
    replace hn := Lib.hid hn
    replace hn2 := Lib.hid hn2
    replace hne := Lib.hid hne
    go_enter Try.func13, Try.ntmps13
    go_wp2_with fail
    go_ret
    exact ⟨by rw [hqf.out]; rfl, GrM.refl _⟩
set_option maxHeartbeats 8000000 in
set_option maxRecDepth 10000 in
theorem made22_any (Q : List ActM) (v : Value) (w : World) (hv : Hid (ActsM Q v w)) :
    Calls Try.prog 21 #[v] w fun e w' => ∃ g b n L, e = .returned (.pointer (some ⟨g, 0, none⟩)) ∧ Hid (Md w' w.heap.size g b n L) ∧ Hid (L.length ≤ 30) ∧ GrM w w' := by
  obtain ⟨Av, cv, rfl, -, -, -, -⟩ := hv.out
  obtain ⟨nq, hnq⟩ : ∃ nq, Q.length = nq := ⟨_, rfl⟩
  rw [hnq] at hv ⊢
  replace hnq := Lib.hid hnq
  obtain ⟨lo, hlo⟩ : ∃ lo, w.heap.size = lo := ⟨_, rfl⟩
  have hnew := Lib.hid (new22_any w)
  rw [hlo] at hnew ⊢
  have hlog : Hid (∀ x, GrM w x → lo ≤ x.heap.size) := Lib.hid (fun x h => by rw [← hlo]; exact h.size)
  have hlob : Hid (∀ x y, GrM w x → ∀ b, lo ≤ b → Upd (· = b) x y → GrM w y) := Lib.hid (fun x y h b hb hu => Upd.to_below h hu h.size (fun k hk => by rw [hk, hlo]; exact hb))
  replace hlo := Lib.hid hlo
  go_enter Try.func21, Try.ntmps21
  go_upto_region 2 with (go_at_call 8; go_must (refine hnew.out.mono ?_); rintro e w1 ⟨g, b, rfl, hm1, hg1⟩)
  have hbl := hm1.out.bl
  have hg1' : Hid (GrM w w1) := Lib.hid hg1
  clear hnew hg1
  go_wp2_with fail
  go_loopw [4] (fun z wr => ∃ (i n : Nat) (L : List En), i ≤ 30 ∧ z = .int .i64 i ∧ n ≤ i ∧ Hid (L.length ≤ i) ∧ Hid (Md wr lo g b n L) ∧ Hid (GrM w wr)) (fun z _ => (30 - intOf z).toNat)
  case atStart => exact ⟨0, 0, [], Nat.zero_le _, rfl, Nat.le_refl _, Lib.hid (Nat.le_refl _), hm1, hg1'⟩
  case round =>
    obtain ⟨i, n, L, hi40, rfl, hni, hLl, hm, hgr⟩ := hrel
    clear hm1 hg1'
    obtain ⟨d0, hd0⟩ : ∃ d0, d0 = (decide (i < nq) && decide (i < 30)) := ⟨_, rfl⟩
    go_upto_region 3 with (fail)
    go_cut [13] (fun z wq => z = .bool d0 ∧ wr = wq)
    case first =>
      by_cases p1 : i < nq
      · have ip1 : (i : Int) < (nq : Int) := by omega
        by_cases p2 : i < 30
        · have ip2 : (i : Int) < 30 := by omega
          rw [decide_eq_true p1, decide_eq_true p2] at hd0
          subst hd0
          go_wp2_with fail
          go_meet
          exact ⟨by first | rfl | simp [*], rfl⟩
        · have ip2 : decide ((i : Int) < 30) = false := decide_eq_false (by omega)
          rw [decide_eq_true p1, decide_eq_false p2] at hd0
          subst hd0
          clear p2
          go_wp2_with fail
          go_meet
          exact ⟨by first | rfl | simp [*], rfl⟩
      · have ip1 : decide ((i : Int) < (nq : Int)) = false := decide_eq_false (by omega)
        have ip1n : decide (i < nq) = false := decide_eq_false p1
        rw [decide_eq_false p1, Bool.false_and] at hd0
        subst hd0
        clear p1
        go_wp2_with fail
        go_meet
        exact ⟨by first | rfl | simp [*], rfl⟩
    case rest =>
      obtain ⟨rfl, rfl⟩ := hcut
      cases d0 with
      | true =>
        have hkk : i < nq ∧ i < 30 := by
          have := hd0.symm
          simp only [Bool.and_eq_true, decide_eq_true_eq] at this
          exact this
        obtain ⟨p1, p2⟩ := hkk
        replace hd0 := Lib.hid hd0
        have ik : (i : Int) < (nq : Int) := by omega
        obtain ⟨A', c', e', -, -, h3, h4⟩ := (ActsM.gr hgr.out hv).out
        rw [hnq.out] at e' h3
        injection e' with e1 _ e2
        subst e1 e2
        obtain ⟨b8, o8, rfl, hba, hca⟩ := h3 (by omega)
        obtain ⟨q, hq⟩ : ∃ q, Q[i]? = some q := ⟨_, List.getElem?_eq_getElem (by rw [hnq.out]; exact p1)⟩
        obtain ⟨c0, c1, c2⟩ := hca i q hq
        obtain ⟨hqk, hqc, -⟩ := h4 q (List.mem_of_getElem? hq)
        have hqr : Hid (∀ w', GrM w w' → Rd w' w'.heap.size q.A q.l) := Lib.hid (fun w' hg' => by
          obtain ⟨_, _, _, _, _, _, h9⟩ := (ActsM.gr hg' hv).out
          exact (h9 q (List.mem_of_getElem? hq)).2.2)
        obtain ⟨gq, kq, Aq, cq, lq⟩ := q
        simp only at c0 c1 c2 hqk hqc hqr
        obtain ⟨mq, hmq⟩ : ∃ mq, lq.length = mq := ⟨_, rfl⟩
        rw [hmq] at c2 hqc
        replace hmq := Lib.hid hmq
        replace hq := Lib.hid hq
        clear h3 h4 hca
        cases gq with
        | true =>
          have hdel := Lib.hid (del22_all lo g b n L kq hqk wr hm)
          go_wp2_with (go_at_call 9; go_must (refine hdel.out.mono ?_); rintro e w6 ⟨z, L6, rfl, -, -, hl6, hm6, hu6⟩)
          have hg6 : Hid (GrM w w6) := Lib.hid (hlob.out _ _ hgr.out b hbl hu6)
          have hL6 : Hid (L6.length ≤ i + 1) := Lib.hid (by have := hLl.out; omega)
          go_roundw
          case rel => exact ⟨i + 1, n, L6, by omega, by go_num, by omega, hL6, hm6, hg6⟩
          case measure => simp [intOf]; omega
        | false =>
          go_upto_region 7 with (fail)
          obtain ⟨wd, hwd⟩ : ∃ wd, wd = wr.drew := ⟨_, rfl⟩
          have hrd : GrM wr wd := by rw [hwd]; exact (Below.refl _ _).drew
          have hgd : Hid (GrM w wd) := Lib.hid (GrM.trans hgr.out hrd)
          have hmd := Md.below hrd hm
          have hput := Lib.hid (put22_all lo g b n L kq lq Aq mq cq hqk hmq.out (by omega) wd (hlog.out _ hgd.out) hmd (hqr.out wd hgd.out))
          have d1 := (hrd.cell (p := ⟨b8, o8 + i * 3 + 1, none⟩) hba).trans c1
          have d2 := (hrd.cell (p := ⟨b8, o8 + i * 3 + 2, none⟩) hba).trans c2
          have hbd : b8 < wd.heap.size := Nat.lt_of_lt_of_le hba hrd.size
          clear hrd c0 c1 c2 hm hgr
          refine wpR_region (GrM) 11 (by kernel_rfl) ?_
          (rw [← hwd]; replace hwd := Lib.hid hwd)
          refine wpR_take (i := 0) (v := ?_) (GrM.road) (some 28) rfl (by kernel_rfl) (by kernel_rfl) (by kernel_rfl) (by kernel_rfl) (by kernel_rfl) (fun _ _ _ h => h) (by kernel_rfl) (fun w' hw' => ?_) ?_
          rotate_left
          · go_simp; with_reducible rfl
          simp only [Act.put, List.setIfInBounds_toArray, List.set_cons_zero, List.set_cons_succ]
          refine wpR_takeU (i := 1) (v := ?_) (GrM.road) (some 29) rfl (by kernel_rfl) (by kernel_rfl) (by kernel_rfl) (by kernel_rfl) (fun _ _ _ h => h) (by kernel_rfl) (fun w' => ?_) ?_
          rotate_left
          · go_simp; with_reducible rfl
          simp only [Act.put, List.setIfInBounds_toArray, List.set_cons_zero, List.set_cons_succ]
          refine wpR_takeU (i := 2) (v := ?_) (GrM.road) (some 30) rfl (by kernel_rfl) (by kernel_rfl) (by kernel_rfl) (by kernel_rfl) (fun _ _ _ h => h) (by kernel_rfl) (fun w' => ?_) ?_
          rotate_left
          · go_simp; with_reducible rfl
          simp only [Act.put, List.setIfInBounds_toArray, List.set_cons_zero, List.set_cons_succ]
          refine wpR_takeU (i := 3) (v := ?_) (GrM.road) (some 31) rfl (by kernel_rfl) (by kernel_rfl) (by kernel_rfl) (by kernel_rfl) (fun _ _ _ h => h) (by kernel_rfl) (fun w' => ?_) ?_
          rotate_left
          · go_simp; with_reducible rfl
          simp only [Act.put, List.setIfInBounds_toArray, List.set_cons_zero, List.set_cons_succ]
          refine wpR_takeU (i := 4) (v := ?_) (GrM.road) (some 32) rfl (by kernel_rfl) (by kernel_rfl) (by kernel_rfl) (by kernel_rfl) (fun _ _ _ h => h) (by kernel_rfl) (fun w' => ?_) ?_
          rotate_left
          · go_simp; with_reducible rfl
          simp only [Act.put, List.setIfInBounds_toArray, List.set_cons_zero, List.set_cons_succ]
          refine wpR_take (i := 5) (v := ?_) (GrM.road) (some 33) rfl (by kernel_rfl) (by kernel_rfl) (by kernel_rfl) (by kernel_rfl) (by kernel_rfl) (fun _ _ _ h => h) (by kernel_rfl) (fun w' hw' => ?_) ?_
          rotate_left
          · have qb := (hw'.cell (p := ⟨b8, o8 + i * 3 + 1, none⟩) hbd).trans d1; go_simp; with_reducible rfl
          simp only [Act.put, List.setIfInBounds_toArray, List.set_cons_zero, List.set_cons_succ]
          refine wpR_takeU (i := 6) (v := ?_) (GrM.road) (some 34) rfl (by kernel_rfl) (by kernel_rfl) (by kernel_rfl) (by kernel_rfl) (fun _ _ _ h => h) (by kernel_rfl) (fun w' => ?_) ?_
          rotate_left
          · go_simp; with_reducible rfl
          simp only [Act.put, List.setIfInBounds_toArray, List.set_cons_zero, List.set_cons_succ]
          refine wpR_takeU (i := 7) (v := ?_) (GrM.road) (some 35) rfl (by kernel_rfl) (by kernel_rfl) (by kernel_rfl) (by kernel_rfl) (fun _ _ _ h => h) (by kernel_rfl) (fun w' => ?_) ?_
          rotate_left
          · go_simp; with_reducible rfl
          simp only [Act.put, List.setIfInBounds_toArray, List.set_cons_zero, List.set_cons_succ]
          refine wpR_takeU (i := 8) (v := ?_) (GrM.road) (some 36) rfl (by kernel_rfl) (by kernel_rfl) (by kernel_rfl) (by kernel_rfl) (fun _ _ _ h => h) (by kernel_rfl) (fun w' => ?_) ?_
          rotate_left
          · go_simp; with_reducible rfl
          simp only [Act.put, List.setIfInBounds_toArray, List.set_cons_zero, List.set_cons_succ]
          refine wpR_takeU (i := 9) (v := ?_) (GrM.road) (some 37) rfl (by kernel_rfl) (by kernel_rfl) (by kernel_rfl) (by kernel_rfl) (fun _ _ _ h => h) (by kernel_rfl) (fun w' => ?_) ?_
          rotate_left
          · go_simp; with_reducible rfl
          simp only [Act.put, List.setIfInBounds_toArray, List.set_cons_zero, List.set_cons_succ]
          refine wpR_take (i := 10) (v := ?_) (GrM.road) (some 38) rfl (by kernel_rfl) (by kernel_rfl) (by kernel_rfl) (by kernel_rfl) (by kernel_rfl) (fun _ _ _ h => h) (by kernel_rfl) (fun w' hw' => ?_) ?_
          rotate_left
          · have qb := (hw'.cell (p := ⟨b8, o8 + i * 3 + 2, none⟩) hbd).trans d2; go_simp; with_reducible rfl
          simp only [Act.put, List.setIfInBounds_toArray, List.set_cons_zero, List.set_cons_succ]
          refine wpR_one 11 rfl (by kernel_rfl) (by kernel_rfl) (fun K hK => ?_)
          go_simp
          refine hput.out.mono ?_
          rintro e w6 ⟨L6, rfl, hm6, hu6, hl6, -⟩
          refine hK _ _ (fun h => absurd h (by decide)) ?_
          clear hK K
          replace hu6 := Lib.hid hu6
          try simp only [Act.put, List.setIfInBounds_toArray, List.set_cons_zero, List.set_cons_succ]
          refine wpR_done (by kernel_rfl) ?_ _
          have hg6 : Hid (GrM w w6) := Lib.hid (hlob.out _ _ hgd.out b hbl hu6.out)
          have hL6 : Hid (L6.length ≤ i + 1) := Lib.hid (by have := hLl.out; omega)
          go_wp2_with fail
          go_roundw
          case rel => exact ⟨i + 1, n + 1, L6, by omega, by go_num, by omega, hL6, hm6, hg6⟩
          case measure => simp [intOf]; omega
      | false =>
        replace hd0 := Lib.hid hd0
        go_wp2_with fail
        go_ret
        exact ⟨g, b, n, L, rfl, hm, Lib.hid (by have := hLl.out; omega), hgr.out⟩
end Go.Proofs.Ytipdjchgdhfciaa
