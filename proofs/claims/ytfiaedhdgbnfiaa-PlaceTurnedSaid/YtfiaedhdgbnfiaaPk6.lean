/- place: the law's small helpers: same, few, room; the reference's in. -/
import Derived.Test.YtfiaedhdgbnfiaaPk5
namespace Go.Proofs.Ytfiaedhdgbnfiaa
set_option linter.unusedVariables false
set_option linter.unusedSimpArgs false
open Go Go.RowKit
theorem eq_of_at {l m : List Int} (hn : l.length = m.length) (h : ∀ i, i < l.length → l[i]? = m[i]?) : l = m :=
  List.ext_getElem? fun i => by
    by_cases hi : i < l.length
    · exact h i hi
    · rw [List.getElem?_eq_none (by omega), List.getElem?_eq_none (by omega)]
set_option maxHeartbeats 4000000 in
set_option maxRecDepth 10000 in
theorem same_any (l m : List Int) (v u : Value) (w : World) (hv : Hid (Ints l v w)) (hu : Hid (Ints m u w)) (hl : l.length ≤ 1000000) (hm : m.length ≤ 1000000) :
    Calls Try.prog 11 #[v, u] w fun e w' => e = .returned (.bool (l == m)) ∧ Gr w w' := by
  obtain ⟨A, c, rfl, -, -, -, -⟩ := hv.out
  obtain ⟨A2, c2, rfl, -, -, -, -⟩ := hu.out
  obtain ⟨q, hq⟩ : ∃ q, q = (l == m) := ⟨_, rfl⟩
  rw [← hq]
  replace hq := Lib.hid hq
  obtain ⟨n, hn⟩ : ∃ n, l.length = n := ⟨_, rfl⟩
  obtain ⟨n2, hn2⟩ : ∃ n2, m.length = n2 := ⟨_, rfl⟩
  rw [hn] at hl hv ⊢
  rw [hn2] at hm hu ⊢
  by_cases hne : n = n2
  · subst hne
    have e1 : ((n : Int) != (n : Int)) = false := by simp
    replace hn := Lib.hid hn
    replace hn2 := Lib.hid hn2
    go_enter Try.func11, Try.ntmps11
    go_wp2_with fail
    go_loopw [5] (fun i wr => ∃ k : Nat, k ≤ n ∧ i = .int .i64 k ∧ Hid (∀ j, j < k → l[j]? = m[j]?) ∧ Hid (Gr w wr)) (fun i _ => (n - intOf i).toNat)
    case atStart => exact ⟨0, Nat.zero_le _, rfl, Lib.hid (fun j h => absurd h (by omega)), Lib.hid (Gr.refl _)⟩
    case round =>
      obtain ⟨k, hk, rfl, hall, hg⟩ := hrel
      by_cases hkn : k < n
      · have ik : (k : Int) < (n : Int) := by omega
        have hvr := (Ints.gr hg.out hv).out
        have hur := (Ints.gr hg.out hu).out
        obtain ⟨A', c', e', -, -, h3, -⟩ := hvr
        rw [hn.out] at e' h3
        injection e' with e1 _ e2
        subst e1 e2
        obtain ⟨b, o, rfl, hb, hc⟩ := h3 (by omega)
        obtain ⟨x, hx⟩ : ∃ x, l[k]? = some x := ⟨_, List.getElem?_eq_getElem (by rw [hn.out]; exact hkn)⟩
        have c0 := hc k x hx
        obtain ⟨A', c', e', -, -, h4, -⟩ := hur
        rw [hn2.out] at e' h4
        injection e' with e1 _ e2
        subst e1 e2
        obtain ⟨b2, o2, rfl, hb2, hc2⟩ := h4 (by omega)
        obtain ⟨y, hy⟩ : ∃ y, m[k]? = some y := ⟨_, List.getElem?_eq_getElem (by rw [hn2.out]; exact hkn)⟩
        have d0 := hc2 k y hy
        clear h3 h4 hc hc2
        obtain ⟨wd, hwd⟩ : ∃ wd, wd = wr.drew := ⟨_, rfl⟩
        have hgd : Hid (Gr w wd) := Lib.hid (by rw [hwd]; exact hg.out.drew)
        have cd0 : wd.cell? ⟨b, o + k, none⟩ = some (.int .i64 x) := by rw [hwd]; exact c0
        have cd1 : wd.cell? ⟨b2, o2 + k, none⟩ = some (.int .i64 y) := by rw [hwd]; exact d0
        obtain ⟨d, hd⟩ : ∃ d, (x != y) = d := ⟨_, rfl⟩
        have hd' := Lib.hid hd
        replace hx := Lib.hid hx
        replace hy := Lib.hid hy
        clear c0 d0
        go_wp2_with fail
        refine wpR_region (Eq) 9999 (by kernel_rfl) ?_
        (rw [← hwd]; replace hwd := Lib.hid hwd)
        refine wpR_take (i := 0) (v := ?_) (⟨fun _ => rfl, Eq.trans⟩) (some 17) rfl (by kernel_rfl) (by kernel_rfl) (by kernel_rfl) (by kernel_rfl) (by kernel_rfl) (fun _ _ _ h => h) (by kernel_rfl) (fun w' hw' => ?_) ?_
        rotate_left
        · go_simp; with_reducible rfl
        simp only [Act.put, List.setIfInBounds_toArray, List.set_cons_zero, List.set_cons_succ]
        refine wpR_take (i := 1) (v := ?_) (⟨fun _ => rfl, Eq.trans⟩) (some 18) rfl (by kernel_rfl) (by kernel_rfl) (by kernel_rfl) (by kernel_rfl) (by kernel_rfl) (fun _ _ _ h => h) (by kernel_rfl) (fun w' hw' => ?_) ?_
        rotate_left
        · go_simp; with_reducible rfl
        simp only [Act.put, List.setIfInBounds_toArray, List.set_cons_zero, List.set_cons_succ]
        refine wpR_take (i := 2) (v := ?_) (⟨fun _ => rfl, Eq.trans⟩) (some 19) rfl (by kernel_rfl) (by kernel_rfl) (by kernel_rfl) (by kernel_rfl) (by kernel_rfl) (fun _ _ _ h => h) (by kernel_rfl) (fun w' hw' => ?_) ?_
        rotate_left
        · go_simp; with_reducible rfl
        simp only [Act.put, List.setIfInBounds_toArray, List.set_cons_zero, List.set_cons_succ]
        refine wpR_take (i := 3) (v := ?_) (⟨fun _ => rfl, Eq.trans⟩) (some 20) rfl (by kernel_rfl) (by kernel_rfl) (by kernel_rfl) (by kernel_rfl) (by kernel_rfl) (fun _ _ _ h => h) (by kernel_rfl) (fun w' hw' => ?_) ?_
        rotate_left
        · subst hw'; go_simp; with_reducible rfl
        simp only [Act.put, List.setIfInBounds_toArray, List.set_cons_zero, List.set_cons_succ]
        refine wpR_take (i := 4) (v := ?_) (⟨fun _ => rfl, Eq.trans⟩) (some 21) rfl (by kernel_rfl) (by kernel_rfl) (by kernel_rfl) (by kernel_rfl) (by kernel_rfl) (fun _ _ _ h => h) (by kernel_rfl) (fun w' hw' => ?_) ?_
        rotate_left
        · go_simp; with_reducible rfl
        simp only [Act.put, List.setIfInBounds_toArray, List.set_cons_zero, List.set_cons_succ]
        refine wpR_take (i := 5) (v := ?_) (⟨fun _ => rfl, Eq.trans⟩) (some 22) rfl (by kernel_rfl) (by kernel_rfl) (by kernel_rfl) (by kernel_rfl) (by kernel_rfl) (fun _ _ _ h => h) (by kernel_rfl) (fun w' hw' => ?_) ?_
        rotate_left
        · go_simp; with_reducible rfl
        simp only [Act.put, List.setIfInBounds_toArray, List.set_cons_zero, List.set_cons_succ]
        refine wpR_take (i := 6) (v := ?_) (⟨fun _ => rfl, Eq.trans⟩) (some 23) rfl (by kernel_rfl) (by kernel_rfl) (by kernel_rfl) (by kernel_rfl) (by kernel_rfl) (fun _ _ _ h => h) (by kernel_rfl) (fun w' hw' => ?_) ?_
        rotate_left
        · go_simp; with_reducible rfl
        simp only [Act.put, List.setIfInBounds_toArray, List.set_cons_zero, List.set_cons_succ]
        refine wpR_take (i := 7) (v := ?_) (⟨fun _ => rfl, Eq.trans⟩) (some 24) rfl (by kernel_rfl) (by kernel_rfl) (by kernel_rfl) (by kernel_rfl) (by kernel_rfl) (fun _ _ _ h => h) (by kernel_rfl) (fun w' hw' => ?_) ?_
        rotate_left
        · subst hw'; go_simp; with_reducible rfl
        simp only [Act.put, List.setIfInBounds_toArray, List.set_cons_zero, List.set_cons_succ]
        refine wpR_take (i := 8) (v := ?_) (⟨fun _ => rfl, Eq.trans⟩) (some 25) rfl (by kernel_rfl) (by kernel_rfl) (by kernel_rfl) (by kernel_rfl) (by kernel_rfl) (fun _ _ _ h => h) (by kernel_rfl) (fun w' hw' => ?_) ?_
        rotate_left
        · go_simp; with_reducible rfl
        simp only [Act.put, List.setIfInBounds_toArray, List.set_cons_zero, List.set_cons_succ]
        refine wpR_done (by kernel_rfl) ?_ _
        clear hd
        cases d with
        | false =>
          obtain rfl : x = y := by have := hd'.out; simpa using this
          have hnext : Hid (∀ j, j < k + 1 → l[j]? = m[j]?) := Lib.hid (fun j hj => by
            by_cases e : j = k
            · rw [e, hx.out, hy.out]
            · exact hall.out j (by omega))
          go_wp2_with fail
          go_roundw
          case rel => exact ⟨k + 1, by omega, by go_num, hnext, hgd⟩
          case measure => simp [intOf]; omega
        | true =>
          have hqf : Hid (q = false) := Lib.hid (by
            rw [hq.out]
            cases h : (l == m) with
            | false => rfl
            | true =>
              have h1 := hx.out.symm.trans ((eq_of_beq h ▸ rfl : l[k]? = m[k]?).trans hy.out)
              injection h1 with h1
              have := hd'.out; rw [h1] at this; simp at this)
          go_wp2_with fail
          go_ret
          exact ⟨by rw [hqf.out]; rfl, hgd.out⟩
      · obtain rfl : k = n := by omega
        have ik : decide ((k : Int) < (k : Int)) = false := decide_eq_false (by omega)
        clear hkn
        have hqt : Hid (q = true) := Lib.hid (by
          rw [hq.out, eq_of_at (by rw [hn.out, hn2.out]) (fun i hi => hall.out i (by rw [← hn.out]; exact hi))]
          exact beq_self_eq_true _)
        go_wp2_with fail
        go_ret
        exact ⟨by rw [hqt.out]; rfl, hg.out⟩
  · have e1 : ((n : Int) != (n2 : Int)) = true := by simp; omega
    have hqf : Hid (q = false) := Lib.hid (by
      rw [hq.out]
      cases h : (l == m) with
      | false => rfl
      | true => exact absurd (by rw [← hn, ← hn2, eq_of_beq h]) hne)
    replace hn := Lib.hid hn
    replace hn2 := Lib.hid hn2
    replace hne := Lib.hid hne
    go_enter Try.func11, Try.ntmps11
    go_wp2_with fail
    go_ret
    exact ⟨by rw [hqf.out]; rfl, Gr.refl _⟩
end Go.Proofs.Ytfiaedhdgbnfiaa
