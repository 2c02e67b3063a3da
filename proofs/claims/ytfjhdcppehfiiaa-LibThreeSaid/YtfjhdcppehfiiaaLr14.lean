/- lib: LibThree. -/
import Derived.Test.YtfjhdcppehfiiaaLr13
namespace Go.Proofs.Ytfjhdcppehfiiaa
set_option linter.unusedVariables false
set_option linter.unusedSimpArgs false
open Go Go.RowKit
theorem mem_at {D : List Dr} {d : Dr} (h : d ∈ D) : ∃ k, k < D.length ∧ D[k]? = some d := by
  obtain ⟨k, hk, e⟩ := List.getElem_of_mem h
  exact ⟨k, hk, by rw [List.getElem?_eq_getElem hk, e]⟩
theorem oldN_none {D : List Dr} : ∀ {i : Nat}, oldN D i = none → ∀ (k : Nat) (d : Dr), k < i → D[k]? = some d → d.broken = true
  | 0, _, k, d, hk, _ => absurd hk (Nat.not_lt_zero _)
  | i + 1, h, k, d, hk, hd => by
    rw [oldN] at h
    cases hi : D[i]? with
    | none =>
      rw [hi] at h
      by_cases e : k = i
      · subst e; rw [hi] at hd; cases hd
      · exact oldN_none h k d (by omega) hd
    | some x =>
      rw [hi] at h
      simp only at h
      split at h
      · rename_i hb
        by_cases e : k = i
        · subst e; rw [hi] at hd; injection hd with hd; rw [← hd]; exact hb
        · exact oldN_none h k d (by omega) hd
      · split at h
        · cases h
        · split at h
          · split at h
            · cases h
            · cases h
          · cases h
theorem work_none {D : List Dr} (h : NoNext D) : workN D = 0 := by
  unfold workN
  rw [List.length_eq_zero_iff, List.filter_eq_nil_iff]
  intro d hd
  obtain ⟨k, hk, hkd⟩ := mem_at hd
  have := oldN_none h.2 k d hk hkd
  simp [this]
theorem HoldIs.of_load {D : List Dr} {z x : Int} {j : Nat} (hn : NoHold D z) (hj : NextIs D j) : HoldIs (D.set j ⟨false, z, 0, x⟩) z j ⟨false, z, 0, x⟩ := by
  obtain ⟨d, hd⟩ := hj.lt
  have hl := (List.getElem?_eq_some_iff.mp hd).1
  refine ⟨List.getElem?_set_self hl, rfl, fun j' d' hj' hd' => ?_⟩
  rw [List.getElem?_set_ne (by omega)] at hd'
  exact hn d' (List.mem_of_getElem? hd')
theorem HoldIs.moved {D : List Dr} {z : Int} {j : Nat} {d d' : Dr} (h : HoldIs D z j d) (hc : d'.cart = d.cart) : HoldIs (D.set j d') z j d' := by
  have hl := (List.getElem?_eq_some_iff.mp h.1).1
  refine ⟨List.getElem?_set_self hl, hc.trans h.2.1, fun j' e hj' he => ?_⟩
  rw [List.getElem?_set_ne (by omega)] at he
  exact h.2.2 j' e hj' he
/-- one move, a drive working -/
theorem go_step (lo g : Nat) (C : List Nat) (SS : List CS) (D : List Dr) (calls T : Nat) (w : World) (h : Hid (Li w lo g C SS D calls)) (hD : Hid (DOk C.length T D)) (hcl : calls ≤ 1000000) (hw : workN D ≠ 0) (i : Nat) (hi : i < C.length) (p : Nat) (hp : p ≤ 1024) :
    Calls Try.prog 13 #[.pointer (some ⟨g, 0, none⟩), .int .i64 i, .int .i64 p] w fun e w' => ∃ b D' j d, e = .returned (.tuple #[.bool b, .int .i64 0]) ∧ Hid (Li w' lo g C SS D' (calls + 1)) ∧ Hid (DOk C.length T D') ∧ Hid (TChg lo lts w w') ∧ HoldIs D' i j d ∧ (b = true → d.pos = p) := by
  obtain ⟨vc, vd, hl⟩ := h.out.lb
  obtain ⟨b, hb⟩ : ∃ b, C[i]? = some b := ⟨_, List.getElem?_eq_getElem hi⟩
  rcases hold_or D (i : Int) with hn | ⟨j, d, hj⟩
  · rcases next_or D with hx | ⟨j, hx⟩
    · exact absurd (work_none hx) hw
    · refine (go_load lo g vc vd C D calls w (Lib.hid hl) i b hb p (by omega) (by omega) hcl hn j hx).mono ?_
      rintro e w' ⟨rfl, hl', hc⟩
      obtain ⟨d, hd⟩ := hx.lt
      exact ⟨false, _, j, _, rfl, Lib.hid (h.out.tchg hc (by decide) (by decide) (by decide) ⟨vc, vd, hl'.out⟩), Lib.hid (hD.out.set hd ⟨fun h => (by cases h), by show (-1 : Int) ≤ i; omega, by show (i : Int) < C.length; omega, fun _ => rfl, by show (0 : Int) ≤ 0; decide, by show (0 : Int) ≤ 1024 + T; omega⟩ (.inr (.inr hn))), Lib.hid hc, HoldIs.of_load hn hx, fun h => by cases h⟩
  · refine (go_held lo g vc vd C D calls w (Lib.hid hl) i b hb p (by omega) (by omega) hcl j d hj).mono ?_
    rintro e w' ⟨rfl, hl', hc⟩
    obtain ⟨k1, k2, k3, k4, k5, k6⟩ := hD.out.1 d (List.mem_of_getElem? hj.1)
    have hdc := hj.2.1
    refine ⟨_, _, j, _, rfl, Lib.hid (h.out.tchg hc (by decide) (by decide) (by decide) ⟨vc, vd, hl'.out⟩), Lib.hid (hD.out.set hj.1 ⟨fun hbr => ?_, k2, k3, fun hm => ?_, ?_, ?_⟩ (.inr (.inl rfl))), Lib.hid hc, hj.moved rfl, fun _ => rfl⟩
    · have := (k1 hbr).1; omega
    · have h9 : d.cart = -1 := hm
      omega
    · show (0 : Int) ≤ p; omega
    · show (p : Int) ≤ 1024 + (T : Int); omega
/-- .. the cartridge in one -/
theorem go_more (lo g : Nat) (C : List Nat) (SS : List CS) (D : List Dr) (calls T : Nat) (w : World) (h : Hid (Li w lo g C SS D calls)) (hD : Hid (DOk C.length T D)) (hcl : calls ≤ 1000000) (i : Nat) (hi : i < C.length) (p : Nat) (hp : p ≤ 1024) (j : Nat) (d : Dr) (hj : HoldIs D i j d) :
    Calls Try.prog 13 #[.pointer (some ⟨g, 0, none⟩), .int .i64 i, .int .i64 p] w fun e w' => ∃ D' d', e = .returned (.tuple #[.bool (d.pos == (p : Int)), .int .i64 0]) ∧ Hid (Li w' lo g C SS D' (calls + 1)) ∧ Hid (DOk C.length T D') ∧ Hid (TChg lo lts w w') ∧ HoldIs D' i j d' ∧ d'.pos = p := by
  obtain ⟨vc, vd, hl⟩ := h.out.lb
  obtain ⟨b, hb⟩ : ∃ b, C[i]? = some b := ⟨_, List.getElem?_eq_getElem hi⟩
  refine (go_held lo g vc vd C D calls w (Lib.hid hl) i b hb p (by omega) (by omega) hcl j d hj).mono ?_
  rintro e w' ⟨rfl, hl', hc⟩
  obtain ⟨k1, k2, k3, k4, k5, k6⟩ := hD.out.1 d (List.mem_of_getElem? hj.1)
  have hdc := hj.2.1
  refine ⟨_, _, rfl, Lib.hid (h.out.tchg hc (by decide) (by decide) (by decide) ⟨vc, vd, hl'.out⟩), Lib.hid (hD.out.set hj.1 ⟨fun hbr => ?_, k2, k3, fun hm => ?_, ?_, ?_⟩ (.inr (.inl rfl))), Lib.hid hc, hj.moved rfl, rfl⟩
  · have := (k1 hbr).1; omega
  · have h9 : d.cart = -1 := hm
    omega
  · show (0 : Int) ≤ p; omega
  · show (p : Int) ≤ 1024 + (T : Int); omega
/-- what is read where a drive stands; read once more it does not -/
theorem read_step (lo g : Nat) (C : List Nat) (SS : List CS) (D : List Dr) (calls T : Nat) (hT : T ≤ 900) (w : World) (h : Hid (Li w lo g C SS D calls)) (hD : Hid (DOk C.length T D)) (i : Nat) (s : CS) (hs : SS[i]? = some s) (p : Nat) (hp : p ≤ 1024) (j : Nat) (d : Dr) (hj : HoldIs D i j d) (hdp : d.pos = p) :
    Calls Try.prog 15 #[.pointer (some ⟨g, 0, none⟩), .int .i64 i, .int .i64 p] w fun e w' => ∃ v D' d', e = .returned (.tuple #[v, .int .i64 (s.read p).2]) ∧ Hid (OB w' w.heap.size v (s.read p).1) ∧ Hid (Li w' lo g C SS D' calls) ∧ Hid (TChg lo lts w w') ∧ HoldIs D' i j d' ∧ d'.pos = (p : Int) + 1 := by
  obtain ⟨vc, vd, hl⟩ := h.out.lb
  have hi : i < C.length := by rw [← h.out.len]; exact (List.getElem?_eq_some_iff.mp hs).1
  obtain ⟨b, hb⟩ : ∃ b, C[i]? = some b := ⟨_, List.getElem?_eq_getElem hi⟩
  obtain ⟨l, hi2, hl0, hct⟩ := h.out.ct i b s hb hs
  refine (lread_yes lo g vc vd C D calls w (Lib.hid hl) i b hb p (by omega) (by omega) j d hj hdp l hi2 s (Lib.hid hct)).mono ?_
  rintro e w' ⟨v, rfl, ho, hl', hc⟩
  have hc2 : TChg lo lts w w' := hc.mono (Nat.le_refl _) (by simp)
  refine ⟨v, _, _, rfl, ho, Lib.hid (h.out.tchg hc2 (by decide) (by decide) (by decide) ⟨vc, vd, hl'.out⟩), Lib.hid hc2, hj.moved rfl, rfl⟩
theorem read_busy (lo g : Nat) (C : List Nat) (SS : List CS) (D : List Dr) (calls : Nat) (w : World) (h : Hid (Li w lo g C SS D calls)) (i : Nat) (hi : i < C.length) (p : Nat) (j : Nat) (d : Dr) (hj : HoldIs D i j d) (hdp : d.pos = (p : Int) + 1) :
    Calls Try.prog 15 #[.pointer (some ⟨g, 0, none⟩), .int .i64 i, .int .i64 p] w fun e w' => e = .returned (.tuple #[.slice none 0 0, .int .i64 8]) ∧ w' = w := by
  obtain ⟨vc, vd, hl⟩ := h.out.lb
  obtain ⟨b, hb⟩ : ∃ b, C[i]? = some b := ⟨_, List.getElem?_eq_getElem hi⟩
  exact lread_not g w i p 8 (.inr rfl) (stand_busy lo g vc vd C D calls w (Lib.hid hl) i b hb p j d hj (by omega))
end Go.Proofs.Ytfjhdcppehfiiaa
