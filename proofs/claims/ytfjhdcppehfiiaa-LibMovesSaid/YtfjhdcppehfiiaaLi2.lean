/- lib: what each act does to the whole library. -/
import Derived.Test.YtfjhdcppehfiiaaLi1
namespace Go.Proofs.Ytfjhdcppehfiiaa
set_option linter.unusedVariables false
set_option linter.unusedSimpArgs false
open Go Go.RowKit
theorem lit_or {n : Nat} (z : Int) : (z < 0 ∨ (n : Int) ≤ z) ∨ ∃ j : Nat, z = j ∧ j < n := by
  by_cases h : z < 0 ∨ (n : Int) ≤ z
  · exact .inl h
  · exact .inr ⟨z.toNat, by omega, by omega⟩
theorem free_first (D : List Dr) : (∀ d ∈ D, busyD d) ∨ ∃ j d, D[j]? = some d ∧ d.broken = false ∧ d.cart = -1 ∧ ∀ (j' : Nat) (d' : Dr), j' < j → D[j']? = some d' → busyD d' := by
  induction D with
  | nil => exact .inl (fun d hd => by cases hd)
  | cons x l ih =>
    by_cases hx : x.broken = false ∧ x.cart = -1
    · exact .inr ⟨0, x, rfl, hx.1, hx.2, fun j' _ hj _ => absurd hj (Nat.not_lt_zero _)⟩
    · have hb : busyD x := by
        unfold busyD
        by_cases h1 : x.broken = true
        · exact .inl h1
        · refine .inr (fun h2 => hx ⟨by simpa using h1, h2⟩)
      rcases ih with h | ⟨j, d, h1, h2, h3, h4⟩
      · exact .inl (fun d hd => by
          rcases List.mem_cons.mp hd with rfl | hd
          · exact hb
          · exact h d hd)
      · refine .inr ⟨j + 1, d, h1, h2, h3, fun j' d' hj hd => ?_⟩
        cases j' with
        | zero =>
          injection hd with hd
          rw [← hd]
          exact hb
        | succ j' => exact h4 j' d' (by omega) hd
theorem next_or (D : List Dr) : NoNext D ∨ ∃ j, NextIs D j := by
  rcases free_first D with h | ⟨j, d, h1, h2, h3, h4⟩
  · cases ho : oldN D D.length with
    | none => exact .inl ⟨h, ho⟩
    | some j => exact .inr ⟨j, .inr ⟨h, ho⟩⟩
  · exact .inr ⟨j, .inl ⟨d, h1, h2, h3, h4⟩⟩
section
variable (lo g : Nat) (C : List Nat) (SS : List CS) (D : List Dr) (calls T : Nat) (w : World) (h : Hid (Li w lo g C SS D calls)) (hD : Hid (DOk C.length T D))
include h hD
theorem break_li (z : Int) : Calls Try.prog 19 #[.pointer (some ⟨g, 0, none⟩), .int .i64 z] w fun e w' => ∃ r D', e = .returned (.bool r) ∧ Hid (Li w' lo g C SS D' calls) ∧ Hid (DOk C.length T D') ∧ Hid (TChg lo lts w w') := by
  obtain ⟨vc, vd, hl⟩ := h.out.lb
  rcases lit_or (n := D.length) z with hz | ⟨j, rfl, hj⟩
  · refine (break_no lo g vc vd C D calls w (Lib.hid hl) z hz).mono ?_
    rintro e w' ⟨rfl, rfl⟩
    exact ⟨false, D, rfl, h, hD, Lib.hid (TChg.refl _ _ _)⟩
  · obtain ⟨d, hd⟩ : ∃ d, D[j]? = some d := ⟨_, List.getElem?_eq_getElem hj⟩
    cases hb : d.broken with
    | true =>
      refine (break_was lo g vc vd C D calls w (Lib.hid hl) j d hd hb).mono ?_
      rintro e w' ⟨rfl, rfl⟩
      exact ⟨false, D, rfl, h, hD, Lib.hid (TChg.refl _ _ _)⟩
    | false =>
      refine (break_yes lo g vc vd C D calls w (Lib.hid hl) j d hd hb).mono ?_
      rintro e w' ⟨rfl, hl', hc⟩
      refine ⟨true, _, rfl, Lib.hid (h.out.tchg hc (by decide) (by decide) (by decide) ⟨vc, vd, hl'.out⟩), Lib.hid (hD.out.set hd ⟨fun _ => ⟨rfl, rfl⟩, by decide, by show (-1 : Int) < C.length; omega, fun _ => rfl, by decide, by show (0 : Int) ≤ 1024 + T; omega⟩ (.inl rfl)), Lib.hid hc⟩
theorem mend_li (z : Int) : Calls Try.prog 20 #[.pointer (some ⟨g, 0, none⟩), .int .i64 z] w fun e w' => ∃ r D', e = .returned (.bool r) ∧ Hid (Li w' lo g C SS D' calls) ∧ Hid (DOk C.length T D') ∧ Hid (TChg lo lts w w') := by
  obtain ⟨vc, vd, hl⟩ := h.out.lb
  rcases lit_or (n := D.length) z with hz | ⟨j, rfl, hj⟩
  · refine (mend_no lo g vc vd C D calls w (Lib.hid hl) z hz).mono ?_
    rintro e w' ⟨rfl, rfl⟩
    exact ⟨false, D, rfl, h, hD, Lib.hid (TChg.refl _ _ _)⟩
  · obtain ⟨d, hd⟩ : ∃ d, D[j]? = some d := ⟨_, List.getElem?_eq_getElem hj⟩
    cases hb : d.broken with
    | false =>
      refine (mend_was lo g vc vd C D calls w (Lib.hid hl) j d hd hb).mono ?_
      rintro e w' ⟨rfl, rfl⟩
      exact ⟨false, D, rfl, h, hD, Lib.hid (TChg.refl _ _ _)⟩
    | true =>
      refine (mend_yes lo g vc vd C D calls w (Lib.hid hl) j d hd hb).mono ?_
      rintro e w' ⟨rfl, hl', hc⟩
      obtain ⟨k1, k2, k3, k4, k5, k6⟩ := hD.out.1 d (List.mem_of_getElem? hd)
      exact ⟨true, _, rfl, Lib.hid (h.out.tchg hc (by decide) (by decide) (by decide) ⟨vc, vd, hl'.out⟩), Lib.hid (hD.out.set hd ⟨fun h => (by cases h), k2, k3, k4, k5, k6⟩ (.inr (.inl rfl))), Lib.hid hc⟩
theorem add_li (hlo : lo ≤ w.heap.size) (z : Int) (hz : I64 z) : Calls Try.prog 22 #[.pointer (some ⟨g, 0, none⟩), .int .i64 z] w fun e w' => ∃ a r C' SS', e = .returned (.tuple #[.int .i64 a, .bool r]) ∧ C'.length = min 32 (C.length + 1) ∧ Hid (Li w' lo g C' SS' D calls) ∧ Hid (DOk C'.length T D) ∧ Hid (TChg lo lts w w') := by
  obtain ⟨vc, vd, hl⟩ := h.out.lb
  by_cases hC : C.length < 32
  · refine (ladd_any lo g vc vd C D calls w (Lib.hid hlo) (Lib.hid hl) z hz hC).mono ?_
    rintro e w' ⟨rfl, ⟨vc', q, hi, hl', hq, hct⟩, hc⟩
    exact ⟨_, _, C ++ [q], _, rfl, by simp; omega, Lib.hid (h.out.snoc hlo hc hq hct.out ⟨vc', vd, hl'.out⟩), Lib.hid (hD.out.more (by simp) (Nat.le_refl _)), Lib.hid hc⟩
  · have h32 : C.length = 32 := by have := hl.lc; omega
    refine (add_full lo g vc vd C D calls w (Lib.hid hl) z h32).mono ?_
    rintro e w' ⟨rfl, rfl⟩
    exact ⟨_, _, C, SS, rfl, by omega, h, hD, Lib.hid (TChg.refl _ _ _)⟩
theorem go_li (hcl : calls ≤ 1000000) (z p : Int) : Calls Try.prog 13 #[.pointer (some ⟨g, 0, none⟩), .int .i64 z, .int .i64 p] w fun e w' => ∃ b r D' calls', e = .returned (.tuple #[.bool b, .int .i64 r]) ∧ calls' ≤ calls + 1 ∧ Hid (Li w' lo g C SS D' calls') ∧ Hid (DOk C.length T D') ∧ Hid (TChg lo lts w w') := by
  obtain ⟨vc, vd, hl⟩ := h.out.lb
  rcases lit_or (n := C.length) z with hz | ⟨i, rfl, hi⟩
  · refine (go_no lo g vc vd C D calls w (Lib.hid hl) z p hz).mono ?_
    rintro e w' ⟨rfl, rfl⟩
    exact ⟨_, _, D, calls, rfl, by omega, h, hD, Lib.hid (TChg.refl _ _ _)⟩
  · obtain ⟨b, hb⟩ : ∃ b, C[i]? = some b := ⟨_, List.getElem?_eq_getElem hi⟩
    by_cases hp : p < 0 ∨ 1024 < p
    · refine (go_badpos lo g vc vd C D calls w (Lib.hid hl) i b hb p hp).mono ?_
      rintro e w' ⟨rfl, rfl⟩
      exact ⟨_, _, D, calls, rfl, by omega, h, hD, Lib.hid (TChg.refl _ _ _)⟩
    · rcases hold_or D (i : Int) with hn | ⟨j, d, hj⟩
      · rcases next_or D with hx | ⟨j, hx⟩
        · refine (go_down lo g vc vd C D calls w (Lib.hid hl) i b hb p (by omega) (by omega) hcl hn hx).mono ?_
          rintro e w' ⟨rfl, hl', hc⟩
          exact ⟨_, _, D, calls + 1, rfl, Nat.le_refl _, Lib.hid (h.out.tchg hc (by decide) (by decide) (by decide) ⟨vc, vd, hl'.out⟩), hD, Lib.hid hc⟩
        · refine (go_load lo g vc vd C D calls w (Lib.hid hl) i b hb p (by omega) (by omega) hcl hn j hx).mono ?_
          rintro e w' ⟨rfl, hl', hc⟩
          obtain ⟨d, hd⟩ := hx.lt
          refine ⟨_, _, _, calls + 1, rfl, Nat.le_refl _, Lib.hid (h.out.tchg hc (by decide) (by decide) (by decide) ⟨vc, vd, hl'.out⟩), Lib.hid (hD.out.set hd ⟨fun h => (by cases h), by show (-1 : Int) ≤ i; omega, by show (i : Int) < C.length; omega, fun _ => rfl, by show (0 : Int) ≤ 0; decide, by show (0 : Int) ≤ 1024 + T; omega⟩ (.inr (.inr hn))), Lib.hid hc⟩
      · refine (go_held lo g vc vd C D calls w (Lib.hid hl) i b hb p (by omega) (by omega) hcl j d hj).mono ?_
        rintro e w' ⟨rfl, hl', hc⟩
        obtain ⟨k1, k2, k3, k4, k5, k6⟩ := hD.out.1 d (List.mem_of_getElem? hj.1)
        have hdc := hj.2.1
        refine ⟨_, _, _, calls + 1, rfl, Nat.le_refl _, Lib.hid (h.out.tchg hc (by decide) (by decide) (by decide) ⟨vc, vd, hl'.out⟩), Lib.hid (hD.out.set hj.1 ⟨fun hbr => ?_, k2, k3, fun hm => ?_, ?_, ?_⟩ (.inr (.inl rfl))), Lib.hid hc⟩
        · have := (k1 hbr).1; omega
        · have h9 : d.cart = -1 := hm
          omega
        · show 0 ≤ p; omega
        · show p ≤ 1024 + (T : Int); omega
omit h hD in
/-- the answers that read nothing -/
theorem stand_or (i b : Nat) (hb : C[i]? = some b) (p : Int) (vc vd : Value) (hl : Lb w lo g vc vd C D calls) : Calls Try.prog 31 #[.pointer (some ⟨g, 0, none⟩), .int .i64 i, .int .i64 p] w (fun e w' => e = .returned (.tuple #[.pointer none, .int .i64 8]) ∧ w' = w) ∨ ∃ j d, HoldIs D i j d ∧ d.pos = p := by
  rcases hold_or D (i : Int) with hn | ⟨j, d, hj⟩
  · exact .inl (stand_free lo g vc vd C D calls w (Lib.hid hl) i b hb p hn)
  · by_cases hp : d.pos = p
    · exact .inr ⟨j, d, hj, hp⟩
    · exact .inl (stand_busy lo g vc vd C D calls w (Lib.hid hl) i b hb p j d hj hp)
theorem read_li (hT : T ≤ 900) (z p : Int) : Calls Try.prog 15 #[.pointer (some ⟨g, 0, none⟩), .int .i64 z, .int .i64 p] w fun e w' => ∃ A c x r D', e = .returned (.tuple #[.slice A x.length c, .int .i64 r]) ∧ Hid (OB w' w.heap.size (.slice A x.length c) x) ∧ Hid (Li w' lo g C SS D' calls) ∧ Hid (DOk C.length (T + 1) D') ∧ Hid (TChg lo lts w w') := by
  obtain ⟨vc, vd, hl⟩ := h.out.lb
  have hD1 : DOk C.length (T + 1) D := hD.out.more (Nat.le_refl _) (by omega)
  have hno : ∀ {x : Int}, (x = 1 ∨ x = 8) → Calls Try.prog 31 #[.pointer (some ⟨g, 0, none⟩), .int .i64 z, .int .i64 p] w (fun e w' => e = .returned (.tuple #[.pointer none, .int .i64 x]) ∧ w' = w) → Calls Try.prog 15 #[.pointer (some ⟨g, 0, none⟩), .int .i64 z, .int .i64 p] w fun e w' => ∃ A c x r D', e = .returned (.tuple #[.slice A x.length c, .int .i64 r]) ∧ Hid (OB w' w.heap.size (.slice A x.length c) x) ∧ Hid (Li w' lo g C SS D' calls) ∧ Hid (DOk C.length (T + 1) D') ∧ Hid (TChg lo lts w w') := fun {x} hx hs => by
    refine (lread_not g w z p x hx hs).mono ?_
    rintro e w' ⟨rfl, rfl⟩
    exact ⟨none, 0, [], x, D, rfl, Lib.hid (World.ownsRow_nil _ _ _ 1), h, Lib.hid hD1, Lib.hid (TChg.refl _ _ _)⟩
  rcases lit_or (n := C.length) z with hz | ⟨i, rfl, hi⟩
  · exact hno (.inl rfl) (stand_no lo g vc vd C D calls w (Lib.hid hl) z p hz)
  · obtain ⟨b, hb⟩ : ∃ b, C[i]? = some b := ⟨_, List.getElem?_eq_getElem hi⟩
    rcases stand_or lo g C D calls w i b hb p vc vd hl with hs | ⟨j, d, hj, rfl⟩
    · exact hno (.inr rfl) hs
    · obtain ⟨s, hs⟩ : ∃ s, SS[i]? = some s := ⟨_, List.getElem?_eq_getElem (by rw [h.out.len]; exact hi)⟩
      obtain ⟨l, hi2, hl0, hct⟩ := h.out.ct i b s hb hs
      obtain ⟨k1, k2, k3, k4, k5, k6⟩ := hD.out.1 d (List.mem_of_getElem? hj.1)
      have hdc := hj.2.1
      refine (lread_yes lo g vc vd C D calls w (Lib.hid hl) i b hb d.pos k5 (by omega) j d hj rfl l hi2 s (Lib.hid hct)).mono ?_
      rintro e w' ⟨v, rfl, ho, hl', hc⟩
      obtain ⟨A, c, rfl, -⟩ := ho.out.form
      have hc2 : TChg lo lts w w' := hc.mono (Nat.le_refl _) (by simp)
      refine ⟨A, c, _, _, _, rfl, ho, Lib.hid (h.out.tchg hc2 (by decide) (by decide) (by decide) ⟨vc, vd, hl'.out⟩), Lib.hid (hD1.set hj.1 ⟨fun hbr => ?_, k2, k3, fun hm => ?_, ?_, ?_⟩ (.inr (.inl rfl))), Lib.hid hc2⟩
      · have := (k1 hbr).1; omega
      · have h9 : d.cart = -1 := hm
        omega
      · show 0 ≤ d.pos + 1; omega
      · show d.pos + 1 ≤ 1024 + ((T + 1 : Nat) : Int); omega
/-- what an act on cartridges and drives may turn -/
abbrev cts : List TypeId := [64, 66]
theorem append_li (hlo : lo ≤ w.heap.size) (hT : T ≤ 900) (z : Int) (A : Option Addr) (n c : Nat) (x : List UInt8) (hx : x.length = n) (hnm : n ≤ maxLen) (hrd : Rd w w.heap.size A x) : Calls Try.prog 21 #[.pointer (some ⟨g, 0, none⟩), .int .i64 z, .slice A n c] w fun e w' => ∃ a r SS' D', e = .returned (.tuple #[.int .i64 a, .int .i64 r]) ∧ Hid (Li w' lo g C SS' D' calls) ∧ Hid (DOk C.length (T + 1) D') ∧ Hid (TChg lo ats w w') := by
  obtain ⟨vc, vd, hl⟩ := h.out.lb
  have hD1 : DOk C.length (T + 1) D := hD.out.more (Nat.le_refl _) (by omega)
  rcases lit_or (n := C.length) z with hz | ⟨i, rfl, hi⟩
  · refine (lappend_none lo g vc vd C D calls w (Lib.hid hl) z hz _).mono ?_
    rintro e w' ⟨rfl, rfl⟩
    exact ⟨_, _, SS, D, rfl, h, Lib.hid hD1, Lib.hid (TChg.refl _ _ _)⟩
  · obtain ⟨b, hb⟩ : ∃ b, C[i]? = some b := ⟨_, List.getElem?_eq_getElem hi⟩
    obtain ⟨s, hs⟩ : ∃ s, SS[i]? = some s := ⟨_, List.getElem?_eq_getElem (by rw [h.out.len]; exact hi)⟩
    obtain ⟨l, hi2, hl0, hct⟩ := h.out.ct i b s hb hs
    rcases stand_or lo g C D calls w i b hb (s.recs.length : Int) vc vd hl with hst | ⟨j, d, hj, hp⟩
    · refine (lappend_busy lo g vc vd C D calls w (Lib.hid hl) i b hb l hi2 s (Lib.hid hct) hst _).mono ?_
      rintro e w' ⟨rfl, rfl⟩
      exact ⟨_, _, SS, D, rfl, h, Lib.hid hD1, Lib.hid (TChg.refl _ _ _)⟩
    · obtain ⟨k1, k2, k3, k4, k5, k6⟩ := hD.out.1 d (List.mem_of_getElem? hj.1)
      have hdc := hj.2.1
      refine (lappend_yesO lo g vc vd C D calls w (Lib.hid hl) i b hb j d l hi2 s (Lib.hid hct) hj hp A n c x hx hnm hrd).mono ?_
      rintro e w' ⟨rfl, hl', -, w5, t5, hcf, hct5, hl5, t6⟩
      have hL5 := h.out.cart hb hcf.out hct5.out hl0 ⟨vc, vd, hl5.out⟩
      have hL6 := hL5.tchg (calls' := calls) t6.out (by decide) (by decide) (by decide) ⟨vc, vd, hl'.out⟩
      have hts : TChg lo ats w w' := (t5.out.mono hl0 (by simp)).trans (t6.out.mono (Nat.le_refl _) (by simp))
      refine ⟨_, _, _, _, rfl, Lib.hid hL6, Lib.hid ?_, Lib.hid hts⟩
      by_cases e0 : (s.append x).2.1 = 0
      · rw [if_pos e0]
        refine hD1.set hj.1 ⟨fun hbr => ?_, k2, k3, fun hm => ?_, ?_, ?_⟩ (.inr (.inl rfl))
        · have := (k1 hbr).1; omega
        · have h9 : d.cart = -1 := hm
          omega
        · show 0 ≤ d.pos + 1; omega
        · show d.pos + 1 ≤ 1024 + ((T + 1 : Nat) : Int); omega
      · rw [if_neg e0]
        exact hD1
omit hD in
theorem rot_li (i b : Nat) (hb : C[i]? = some b) (p : Int) (hp : I64 p) : Calls Try.prog 43 #[.pointer (some ⟨b, 0, none⟩), .int .i64 p] w fun e w' => ∃ r SS', e = .returned (.bool r) ∧ Hid (Li w' lo g C SS' D calls) ∧ Hid (TChg lo ats w w') := by
  obtain ⟨vc, vd, hl⟩ := h.out.lb
  obtain ⟨s, hs⟩ : ∃ s, SS[i]? = some s := ⟨_, List.getElem?_eq_getElem (by rw [h.out.len]; exact (List.getElem?_eq_some_iff.mp hb).1)⟩
  obtain ⟨l, hi2, hl0, hct⟩ := h.out.ct i b s hb hs
  refine (crot_anyO l hi2 b s p hp w hct).mono ?_
  rintro e w' ⟨rfl, hct', t5, hcf⟩
  exact ⟨_, _, rfl, Lib.hid (h.out.cart hb hcf hct' hl0 ⟨vc, vd, hl.tchg t5 (by decide)⟩), Lib.hid (t5.mono hl0 (by simp))⟩
omit hD in
theorem lose_li (i b : Nat) (hb : C[i]? = some b) : Calls Try.prog 41 #[.pointer (some ⟨b, 0, none⟩)] w fun e w' => ∃ r SS', e = .returned (.bool r) ∧ Hid (Li w' lo g C SS' D calls) ∧ Hid (TChg lo ats w w') := by
  obtain ⟨vc, vd, hl⟩ := h.out.lb
  obtain ⟨s, hs⟩ : ∃ s, SS[i]? = some s := ⟨_, List.getElem?_eq_getElem (by rw [h.out.len]; exact (List.getElem?_eq_some_iff.mp hb).1)⟩
  obtain ⟨l, hi2, hl0, hct⟩ := h.out.ct i b s hb hs
  refine (close_anyO l hi2 b s w hct).mono ?_
  rintro e w' ⟨rfl, hct', t5, hcf⟩
  exact ⟨_, _, rfl, Lib.hid (h.out.cart hb hcf hct' hl0 ⟨vc, vd, hl.tchg t5 (by decide)⟩), Lib.hid (t5.mono hl0 (by simp))⟩
end
end Go.Proofs.Ytfjhdcppehfiiaa
