/- hold: no cache; two rows of texts compared; the fixed fact. -/
import Derived.Test.YthhggojpmilmdaaHo7
namespace Go.Proofs.Ythhggojpmilmdaa
set_option linter.unusedVariables false
set_option linter.unusedSimpArgs false
open Go Go.RowKit
set_option maxRecDepth 10000 in
theorem put17_nil (v u : Value) (w : World) : Calls Try.prog 14 #[.pointer none, v, u] w fun e w' => e = .returned (.bool false) ∧ w' = w := by
  have hm := Lib.hid (fun w => missing_nil w)
  go_enter Try.func14, Try.ntmps14
  go_wp2_with (go_at_call 23; go_must (refine (hm.out _).mono ?_); rintro en w1 ⟨rfl, hee⟩; rw [hee]; clear hee)
  go_ret
  exact ⟨rfl, rfl⟩
set_option maxRecDepth 10000 in
theorem drop17_nil (v : Value) (w : World) : Calls Try.prog 12 #[.pointer none, v] w fun e w' => e = .returned (.bool false) ∧ w' = w := by
  have hm := Lib.hid (fun w => missing_nil w)
  go_enter Try.func12, Try.ntmps12
  go_wp2_with (go_at_call 23; go_must (refine (hm.out _).mono ?_); rintro en w1 ⟨rfl, hee⟩; rw [hee]; clear hee)
  go_ret
  exact ⟨rfl, rfl⟩
set_option maxRecDepth 10000 in
theorem get17_nil (v : Value) (w : World) : Calls Try.prog 10 #[.pointer none, v] w fun e w' => e = .returned (.tuple #[.slice none 0 0, .bool false]) ∧ w' = w := by
  have hm := Lib.hid (fun w => missing_nil w)
  go_enter Try.func10, Try.ntmps10
  go_wp2_with (go_at_call 23; go_must (refine (hm.out _).mono ?_); rintro en w1 ⟨rfl, hee⟩; rw [hee]; clear hee)
  go_ret2
  exact ⟨rfl, rfl⟩
set_option maxRecDepth 10000 in
theorem keys17_nil (w : World) : Calls Try.prog 19 #[.pointer none] w fun e w' => e = .returned (.slice none 0 0) ∧ w' = w := by
  have hm := Lib.hid (fun w => missing_nil w)
  go_enter Try.func19, Try.ntmps19
  go_wp2_with (go_at_call 23; go_must (refine (hm.out _).mono ?_); rintro en w1 ⟨rfl, hee⟩; rw [hee]; clear hee)
  go_ret
  exact ⟨rfl, rfl⟩
/-- the texts at A -/
def RS (l : List (List UInt8)) (A : Option Addr) (w : World) : Prop := l = [] ∨ ∃ g, A = some ⟨g, 0, none⟩ ∧ g < w.heap.size ∧ ∀ j k, l[j]? = some k → w.cell? ⟨g, j, none⟩ = some (.string (bs k))
theorem RS.below {l : List (List UInt8)} {A : Option Addr} {w w' : World} (hb : GrM w w') (h : RS l A w) : RS l A w' := by
  rcases h with h | ⟨g, hA, hg, hc⟩
  · exact .inl h
  · exact .inr ⟨g, hA, Nat.lt_of_lt_of_le hg (Below.size hb), fun j k hk => (Below.cell hb (p := ⟨g, j, none⟩) hg).trans (hc j k hk)⟩
theorem OS.rs {l : List (List UInt8)} {A : Option Addr} {n c base : Nat} {w : World} (h : OS l (.slice A n c) base w) : RS l A w := by
  cases l with
  | nil => exact .inl rfl
  | cons x l =>
    obtain ⟨g, hA, -, -, hg, hc⟩ := h.at_ (by simp)
    exact .inr ⟨g, hA, hg, hc⟩
theorem list_ext_take {la lb : List (List UInt8)} (hl : la.length = lb.length) (h : ∀ (j : Nat) (x y : List UInt8), la[j]? = some x → lb[j]? = some y → x = y) : la = lb := by
  apply List.ext_getElem hl
  intro i h1 h2
  exact h i _ _ (List.getElem?_eq_getElem h1) (List.getElem?_eq_getElem h2)
set_option maxHeartbeats 1000000 in
set_option maxRecDepth 10000 in
theorem same17_any (A B : Option Addr) (la lb : List (List UInt8)) (na nb ca cb : Nat) (hna : la.length = na) (hnb : lb.length = nb) (hs : na ≤ 1000000) (w : World) (ha : RS la A w) (hb : RS lb B w) :
    Calls Try.prog 18 #[.slice A na ca, .slice B nb cb] w fun e w' => e = .returned (.bool (la == lb)) ∧ GrM w w' := by
  by_cases hl : na = nb
  · subst hl
    have hall : Hid ((∀ (j : Nat) (x y : List UInt8), la[j]? = some x → lb[j]? = some y → x = y) → la = lb) := Lib.hid (list_ext_take (by omega))
    replace hna := Lib.hid hna
    replace hnb := Lib.hid hnb
    obtain ⟨rv, hrv⟩ : ∃ rv, (la == lb) = rv := ⟨_, rfl⟩
    rw [hrv]
    replace hrv := Lib.hid hrv
    go_enter Try.func18, Try.ntmps18
    go_wp2_with fail
    go_loopw [5] (fun i wr => ∃ k : Nat, i = .int .i64 k ∧ k ≤ na ∧ Hid (∀ (j : Nat) (x y : List UInt8), j < k → la[j]? = some x → lb[j]? = some y → x = y) ∧ Hid (GrM w wr)) (fun i _ => na - (intOf i).toNat)
    case atStart => exact ⟨0, rfl, Nat.zero_le _, Lib.hid (fun j x y hj => by omega), Lib.hid (GrM.refl _)⟩
    case round =>
      obtain ⟨k, rfl, hk, heq, hg⟩ := hrel
      by_cases hlt : k < na
      · obtain ⟨wd, hwd⟩ : ∃ wd, wd = wr.drew := ⟨_, rfl⟩
        have hgd : GrM w wd := by rw [hwd]; exact hg.out.trans (Below.refl _ _).drew
        have hka : k < la.length := by rw [hna.out]; exact hlt
        have hkb : k < lb.length := by rw [hnb.out]; exact hlt
        rcases RS.below hgd ha with h0 | ⟨ga, rfl, hga, hca⟩
        · rw [h0] at hka; simp at hka
        rcases RS.below hgd hb with h0 | ⟨gb, rfl, hgb, hcb⟩
        · rw [h0] at hkb; simp at hkb
        have ea := Lib.hid (List.getElem?_eq_getElem hka)
        have eb := Lib.hid (List.getElem?_eq_getElem hkb)
        have c1 := hca k _ ea.out
        have c2 := hcb k _ eb.out
        generalize la[k] = x at *
        generalize lb[k] = y at *
        have i1 : (k : Int) < (na : Int) := by omega
        replace hgd := Lib.hid hgd
        clear hca hcb ha hb hka hkb hga hgb
        cases hxy : (x == y) with
        | true =>
          go_upto_region 6 with (fail)
          refine wpR_region (Eq) 9999 (by kernel_rfl) ?_
          (rw [← hwd]; replace hwd := Lib.hid hwd)
          refine wpR_take (i := 0) (v := ?_) (⟨fun _ => rfl, Eq.trans⟩) (some 17) rfl (by kernel_rfl) (by kernel_rfl) (by kernel_rfl) (by kernel_rfl) (by kernel_rfl) (fun _ _ _ h => h) (by kernel_rfl) (fun w' hw' => ?_) ?_
          rotate_left
          · go_simp; with_reducible rfl
          simp only [Act.put, List.setIfInBounds_toArray, List.set_cons_zero, List.set_cons_succ]
          refine wpR_take (i := 1) (v := ?_) (⟨fun _ => rfl, Eq.trans⟩) (some 18) rfl (by kernel_rfl) (by kernel_rfl) (by kernel_rfl) (by kernel_rfl) (by kernel_rfl) (fun _ _ _ h => h) (by kernel_rfl) (fun w' hw' => ?_) ?_
          rotate_left
          · go_simp; with_reducible rfl
          simp only [Act.put, List.setIfInBounds_toArray, List.set_cons_zero, List.set_cons_succ]
          refine wpR_take (i := 2) (v := ?_) (⟨fun _ => rfl, Eq.trans⟩) (some 19) rfl (by kernel_rfl) (by kernel_rfl) (by kernel_rfl) (by kernel_rfl) (by kernel_rfl) (fun _ _ _ h => h) (by kernel_rfl) (fun w' hw' => ?_) ?_
          rotate_left
          · go_simp; with_reducible rfl
          simp only [Act.put, List.setIfInBounds_toArray, List.set_cons_zero, List.set_cons_succ]
          refine wpR_take (i := 3) (v := ?_) (⟨fun _ => rfl, Eq.trans⟩) (some 20) rfl (by kernel_rfl) (by kernel_rfl) (by kernel_rfl) (by kernel_rfl) (by kernel_rfl) (fun _ _ _ h => h) (by kernel_rfl) (fun w' hw' => ?_) ?_
          rotate_left
          · subst hw'; go_simp; with_reducible rfl
          simp only [Act.put, List.setIfInBounds_toArray, List.set_cons_zero, List.set_cons_succ]
          refine wpR_take (i := 4) (v := ?_) (⟨fun _ => rfl, Eq.trans⟩) (some 21) rfl (by kernel_rfl) (by kernel_rfl) (by kernel_rfl) (by kernel_rfl) (by kernel_rfl) (fun _ _ _ h => h) (by kernel_rfl) (fun w' hw' => ?_) ?_
          rotate_left
          · go_simp; with_reducible rfl
          simp only [Act.put, List.setIfInBounds_toArray, List.set_cons_zero, List.set_cons_succ]
          refine wpR_take (i := 5) (v := ?_) (⟨fun _ => rfl, Eq.trans⟩) (some 22) rfl (by kernel_rfl) (by kernel_rfl) (by kernel_rfl) (by kernel_rfl) (by kernel_rfl) (fun _ _ _ h => h) (by kernel_rfl) (fun w' hw' => ?_) ?_
          rotate_left
          · go_simp; with_reducible rfl
          simp only [Act.put, List.setIfInBounds_toArray, List.set_cons_zero, List.set_cons_succ]
          refine wpR_take (i := 6) (v := ?_) (⟨fun _ => rfl, Eq.trans⟩) (some 23) rfl (by kernel_rfl) (by kernel_rfl) (by kernel_rfl) (by kernel_rfl) (by kernel_rfl) (fun _ _ _ h => h) (by kernel_rfl) (fun w' hw' => ?_) ?_
          rotate_left
          · go_simp; with_reducible rfl
          simp only [Act.put, List.setIfInBounds_toArray, List.set_cons_zero, List.set_cons_succ]
          refine wpR_take (i := 7) (v := ?_) (⟨fun _ => rfl, Eq.trans⟩) (some 24) rfl (by kernel_rfl) (by kernel_rfl) (by kernel_rfl) (by kernel_rfl) (by kernel_rfl) (fun _ _ _ h => h) (by kernel_rfl) (fun w' hw' => ?_) ?_
          rotate_left
          · subst hw'; go_simp; with_reducible rfl
          simp only [Act.put, List.setIfInBounds_toArray, List.set_cons_zero, List.set_cons_succ]
          refine wpR_take (i := 8) (v := ?_) (⟨fun _ => rfl, Eq.trans⟩) (some 25) rfl (by kernel_rfl) (by kernel_rfl) (by kernel_rfl) (by kernel_rfl) (by kernel_rfl) (fun _ _ _ h => h) (by kernel_rfl) (fun w' hw' => ?_) ?_
          rotate_left
          · go_simp; with_reducible rfl
          simp only [Act.put, List.setIfInBounds_toArray, List.set_cons_zero, List.set_cons_succ]
          refine wpR_done (by kernel_rfl) ?_ _
          go_wp2_with fail
          go_roundw
          case rel => exact ⟨k + 1, by go_num, by omega, Lib.hid (fun j x' y' hj h1 h2 => by
            rcases Nat.lt_succ_iff_lt_or_eq.1 hj with hj | rfl
            · exact heq.out j x' y' hj h1 h2
            · rw [ea.out] at h1
              rw [eb.out] at h2
              injection h1 with h1
              injection h2 with h2
              rw [← h1, ← h2]
              exact eq_of_beq hxy), hgd⟩
          case measure => simp [intOf]; omega
        | false =>
          go_upto_region 6 with (fail)
          refine wpR_region (Eq) 9999 (by kernel_rfl) ?_
          (rw [← hwd]; replace hwd := Lib.hid hwd)
          refine wpR_take (i := 0) (v := ?_) (⟨fun _ => rfl, Eq.trans⟩) (some 17) rfl (by kernel_rfl) (by kernel_rfl) (by kernel_rfl) (by kernel_rfl) (by kernel_rfl) (fun _ _ _ h => h) (by kernel_rfl) (fun w' hw' => ?_) ?_
          rotate_left
          · go_simp; with_reducible rfl
          simp only [Act.put, List.setIfInBounds_toArray, List.set_cons_zero, List.set_cons_succ]
          refine wpR_take (i := 1) (v := ?_) (⟨fun _ => rfl, Eq.trans⟩) (some 18) rfl (by kernel_rfl) (by kernel_rfl) (by kernel_rfl) (by kernel_rfl) (by kernel_rfl) (fun _ _ _ h => h) (by kernel_rfl) (fun w' hw' => ?_) ?_
          rotate_left
          · go_simp; with_reducible rfl
          simp only [Act.put, List.setIfInBounds_toArray, List.set_cons_zero, List.set_cons_succ]
          refine wpR_take (i := 2) (v := ?_) (⟨fun _ => rfl, Eq.trans⟩) (some 19) rfl (by kernel_rfl) (by kernel_rfl) (by kernel_rfl) (by kernel_rfl) (by kernel_rfl) (fun _ _ _ h => h) (by kernel_rfl) (fun w' hw' => ?_) ?_
          rotate_left
          · go_simp; with_reducible rfl
          simp only [Act.put, List.setIfInBounds_toArray, List.set_cons_zero, List.set_cons_succ]
          refine wpR_take (i := 3) (v := ?_) (⟨fun _ => rfl, Eq.trans⟩) (some 20) rfl (by kernel_rfl) (by kernel_rfl) (by kernel_rfl) (by kernel_rfl) (by kernel_rfl) (fun _ _ _ h => h) (by kernel_rfl) (fun w' hw' => ?_) ?_
          rotate_left
          · subst hw'; go_simp; with_reducible rfl
          simp only [Act.put, List.setIfInBounds_toArray, List.set_cons_zero, List.set_cons_succ]
          refine wpR_take (i := 4) (v := ?_) (⟨fun _ => rfl, Eq.trans⟩) (some 21) rfl (by kernel_rfl) (by kernel_rfl) (by kernel_rfl) (by kernel_rfl) (by kernel_rfl) (fun _ _ _ h => h) (by kernel_rfl) (fun w' hw' => ?_) ?_
          rotate_left
          · go_simp; with_reducible rfl
          simp only [Act.put, List.setIfInBounds_toArray, List.set_cons_zero, List.set_cons_succ]
          refine wpR_take (i := 5) (v := ?_) (⟨fun _ => rfl, Eq.trans⟩) (some 22) rfl (by kernel_rfl) (by kernel_rfl) (by kernel_rfl) (by kernel_rfl) (by kernel_rfl) (fun _ _ _ h => h) (by kernel_rfl) (fun w' hw' => ?_) ?_
          rotate_left
          · go_simp; with_reducible rfl
          simp only [Act.put, List.setIfInBounds_toArray, List.set_cons_zero, List.set_cons_succ]
          refine wpR_take (i := 6) (v := ?_) (⟨fun _ => rfl, Eq.trans⟩) (some 23) rfl (by kernel_rfl) (by kernel_rfl) (by kernel_rfl) (by kernel_rfl) (by kernel_rfl) (fun _ _ _ h => h) (by kernel_rfl) (fun w' hw' => ?_) ?_
          rotate_left
          · go_simp; with_reducible rfl
          simp only [Act.put, List.setIfInBounds_toArray, List.set_cons_zero, List.set_cons_succ]
          refine wpR_take (i := 7) (v := ?_) (⟨fun _ => rfl, Eq.trans⟩) (some 24) rfl (by kernel_rfl) (by kernel_rfl) (by kernel_rfl) (by kernel_rfl) (by kernel_rfl) (fun _ _ _ h => h) (by kernel_rfl) (fun w' hw' => ?_) ?_
          rotate_left
          · subst hw'; go_simp; with_reducible rfl
          simp only [Act.put, List.setIfInBounds_toArray, List.set_cons_zero, List.set_cons_succ]
          refine wpR_take (i := 8) (v := ?_) (⟨fun _ => rfl, Eq.trans⟩) (some 25) rfl (by kernel_rfl) (by kernel_rfl) (by kernel_rfl) (by kernel_rfl) (by kernel_rfl) (fun _ _ _ h => h) (by kernel_rfl) (fun w' hw' => ?_) ?_
          rotate_left
          · go_simp; with_reducible rfl
          simp only [Act.put, List.setIfInBounds_toArray, List.set_cons_zero, List.set_cons_succ]
          refine wpR_done (by kernel_rfl) ?_ _
          go_wp2_with fail
          go_ret
          refine ⟨?_, hgd.out⟩
          have : rv = false := by
            rw [← hrv.out]
            apply beq_false_of_ne
            intro hh
            rw [hh, eb.out] at ea
            have := ea.out
            injection this with this
            rw [this] at hxy
            simp at hxy
          rw [this]
          rfl
      · obtain rfl : k = na := by omega
        have : rv = true := by
          rw [← hrv.out, hall.out (fun j x y h1 h2 => heq.out j x y (by rw [← hna.out]; exact (List.getElem?_eq_some_iff.1 h1).1) h1 h2)]
          simp
        subst this
        go_wp2_with fail
        go_ret
        exact ⟨rfl, hg.out⟩
  · have hne : (la == lb) = false := beq_false_of_ne (fun hh => hl (by rw [← hna, ← hnb, hh]))
    rw [hne]
    have i1 : ((na : Int) == (nb : Int)) = false := beq_false_of_ne (by omega)
    have i1n : (na == nb) = false := beq_false_of_ne hl
    replace hna := Lib.hid hna
    replace hnb := Lib.hid hnb
    replace hne := Lib.hid hne
    go_enter Try.func18, Try.ntmps18
    go_wp2_with fail
    go_ret
    exact ⟨rfl, GrM.refl _⟩
end Go.Proofs.Ythhggojpmilmdaa
