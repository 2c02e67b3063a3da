/- cat: what CatHad asks of the keys, plain. -/
import Derived.Test.YthboeoidgglcgaaGreatCtZ
namespace Go.Proofs.YthboeoidgglcgaaGreat
set_option linter.unusedVariables false
set_option linter.unusedSimpArgs false
open Go Go.RowKit Go.Maps Go.Sort Go.Shelf Go.Proofs
theorem keysP_perm (c : CtP) : (keysP c).Perm (c.W.map Prod.fst ++ c.E.map Prod.fst) := List.mergeSort_perm _ _
theorem keysP_nodup {c : CtP} (h : c.Ok) : (keysP c).Nodup := by
  rw [(keysP_perm c).nodup_iff, List.nodup_append]
  refine ⟨List.pairwise_map.mpr h.dW, List.pairwise_map.mpr h.rE.dist, fun a ha b hb e => ?_⟩
  subst e
  obtain ⟨x, hx, rfl⟩ := List.mem_map.mp ha
  obtain ⟨y, hy, e2⟩ := List.mem_map.mp hb
  have := h.ap x.1 ((hasP_iff _ _).mpr ⟨x, hx, rfl⟩)
  rw [(hasP_iff _ _).mpr ⟨y, hy, e2⟩] at this
  cases this
theorem keysP_rise {c : CtP} (h : c.Ok) : (keysP c).Pairwise (fun a b => a < b) := by
  have h1 : (keysP c).Pairwise (fun a b => decide (a ≤ b) = true) := by
    unfold keysP
    exact List.pairwise_mergeSort (fun a b d h1 h2 => by simp only [decide_eq_true_eq] at *; exact List.le_trans h1 h2) (fun a b => by simp only [Bool.or_eq_true, decide_eq_true_eq]; exact List.le_total a b) _
  refine List.Pairwise.imp (fun {a b} hab => ?_) (List.Pairwise.and h1 (keysP_nodup h))
  obtain ⟨h2, h3⟩ := hab
  simp only [decide_eq_true_eq] at h2
  exact Classical.byContradiction fun hc => h3 (List.le_antisymm h2 (bl_le hc))
def usedK (c : CtP) (i : Nat) : Nat := (((keysP c).take i).map (fun k => (getP c.W k []).length)).sum
theorem usedK_zero (c : CtP) : usedK c 0 = 0 := rfl
theorem usedK_succ {c : CtP} {i : Nat} {k : By} (h : (keysP c)[i]? = some k) : usedK c (i + 1) = usedK c i + (getP c.W k []).length := by
  unfold usedK
  rw [List.take_add_one, h]
  simp
theorem getW_le {c : CtP} (h : c.Ok) (k : By) : (getP c.W k []).length ≤ 512 := by
  cases hh : hasP c.W k with
  | false => rw [getP_no hh]; simp
  | true =>
    obtain ⟨e, he, rfl⟩ := (hasP_iff _ _).mp hh
    rw [getP_mem h.dW (v := e.2) he]
    exact (h.okW e he).2
theorem usedK_le {c : CtP} (h : c.Ok) (i : Nat) : usedK c i ≤ 512 * i := by
  unfold usedK
  have h1 : ∀ l : List By, (l.map (fun k => (getP c.W k []).length)).sum ≤ 512 * l.length := by
    intro l
    induction l with
    | nil => simp
    | cons k l ih => have := getW_le h k; simp only [List.map_cons, List.sum_cons, List.length_cons]; omega
  have h2 := h1 ((keysP c).take i)
  have h3 := List.length_take_le i (keysP c)
  omega
theorem sum_perm {l m : List Nat} (h : l.Perm m) : l.sum = m.sum := by
  induction h with
  | nil => rfl
  | cons x _ ih => simp [ih]
  | swap x y l => simp; omega
  | trans _ _ ih1 ih2 => exact ih1.trans ih2
theorem usedK_end {c : CtP} (h : c.Ok) {i : Nat} (hi : (keysP c).length ≤ i) : usedK c i = usedC c.W := by
  unfold usedK usedC
  rw [List.take_of_length_le hi, sum_perm ((keysP_perm c).map _), List.map_append, List.sum_append, List.map_map, List.map_map]
  have e1 : c.W.map ((fun k => (getP c.W k []).length) ∘ Prod.fst) = c.W.map (fun e => e.2.length) := List.map_congr_left (fun e he => by
    show (getP c.W e.1 []).length = _
    rw [getP_mem h.dW (v := e.2) he])
  have e2 : (c.E.map ((fun k => (getP c.W k []).length) ∘ Prod.fst)).sum = 0 := by
    have h0 : ∀ l : List Nat, (∀ x ∈ l, x = 0) → l.sum = 0 := by
      intro l
      induction l with
      | nil => intro _; rfl
      | cons x l ih => intro hl; rw [List.sum_cons, ih (fun y hy => hl y (List.mem_cons_of_mem _ hy)), hl x (by simp)]
    refine h0 _ (fun x hx => ?_)
    obtain ⟨e, he, rfl⟩ := List.mem_map.mp hx
    show (getP c.W e.1 []).length = 0
    have hw : hasP c.W e.1 = false := by
      cases hh : hasP c.W e.1 with
      | false => rfl
      | true => have := h.ap _ hh; rw [(hasP_iff _ _).mpr ⟨e, he, rfl⟩] at this; cases this
    rw [getP_no hw]
    rfl
  rw [e1, e2, Nat.add_zero]
/-- of a key that is had: just one of both, and what its entry holds -/
theorem had_one {c : CtP} (h : c.Ok) {k : By} (hk : c.has k = true) : hasP c.W k = !hasP c.E k := by
  unfold CtP.has at hk
  cases hE : hasP c.E k with
  | false => rw [hE, Bool.false_or] at hk; rw [hk]; rfl
  | true =>
    cases hW : hasP c.W k with
    | false => rfl
    | true => have := h.ap _ hW; rw [hE] at this; cases this
theorem ent_ok {c : CtP} (h : c.Ok) {k : By} (hk : hasP c.E k = true) : (entOf c k).key = k ∧ 1 ≤ (entOf c k).gen ∧ (entOf c k).gen ≤ c.G ∧ grp (entOf c k).size ≠ 0 ∧ (entOf c k).places.length = 10 * grp (entOf c k).size := by
  obtain ⟨e, he, rfl⟩ := (hasP_iff _ _).mp hk
  obtain ⟨h1, h2, h3, h4, h5, h6⟩ := h.okE e he
  have hq : entOf c e.1 = e.2 := getP_mem h.rE.dist (v := e.2) he _
  rw [hq]
  exact ⟨h1, h3, h4, h5, h6⟩
end Go.Proofs.YthboeoidgglcgaaGreat
/- cat: the reference's Groups. -/
namespace Go.Proofs.YthboeoidgglcgaaGreat
set_option linter.unusedVariables false
set_option linter.unusedSimpArgs false
open Go Go.RowKit Go.Maps Go.Sort Go.Shelf Go.Proofs
set_option maxHeartbeats 4000000 in
theorem cgroups_nat (z : Nat) (hz : z ≤ 512) (w : World) : Calls Tryz.prog 22 #[.int .i64 z] w fun e w' => e = .returned (.int .i64 ((max 1 ((z + 127) / 128) : Nat) : Int)) ∧ w' = w := by
  obtain ⟨r, hr⟩ : ∃ r, max 1 ((z + 127) / 128) = r := ⟨_, rfl⟩
  have hr2 : Hid (1 ≤ r ∧ z ≤ 128 * r ∧ (r = 1 ∨ 128 * (r - 1) < z)) := Lib.hid (by omega)
  rw [hr]
  replace hr := Lib.hid hr
  go_enter Tryz.func22, Tryz.ntmps22
  go_wp2_with fail
  go_loopw [3] (fun v wr => ∃ m : Nat, 1 ≤ m ∧ m ≤ r ∧ v = .int .i64 m ∧ wr = w) (fun v _ => (r - intOf v).toNat)
  case atStart => exact ⟨1, by omega, hr2.out.1, rfl, rfl⟩
  case round =>
    obtain ⟨m, hm1, hm, rfl, rfl⟩ := hrel
    obtain ⟨q, hq⟩ : ∃ q, m * 128 = q := ⟨_, rfl⟩
    have hm5 : m ≤ 4 := by have := hr2.out; omega
    have e1 : IntKind.i64.wrap ((m : Int) * 128) = (q : Int) := by rw [i64_wrap_id (by omega) (by omega)]; omega
    have e2 : (m : Int) * 128 = (q : Int) := by omega
    by_cases hlt : m < r
    · have i1 : (q : Int) < (z : Int) := by have := hr2.out; omega
      replace hq := Lib.hid hq
      go_wp2_with fail
      go_roundw
      case rel => exact ⟨m + 1, by omega, by omega, by go_num, by first | trivial | rfl⟩
      case measure => simp [intOf]; omega
    · obtain rfl : m = r := by omega
      have i1 : decide ((q : Int) < (z : Int)) = false := decide_eq_false (by have := hr2.out; omega)
      have i1' : ¬ ((q : Int) < (z : Int)) := by have := hr2.out; omega
      replace hq := Lib.hid hq
      go_wp2_with fail
      go_ret
      exact ⟨rfl, rfl⟩
theorem cgroups_any (z : Int) (hz : grp z ≠ 0) (w : World) : Calls Tryz.prog 22 #[.int .i64 z] w fun e w' => e = .returned (.int .i64 (grp z : Nat)) ∧ w' = w := by
  unfold grp at hz ⊢
  by_cases h0 : z < 0 ∨ 512 < z
  · rw [if_pos h0] at hz; exact absurd rfl hz
  · rw [if_neg h0]
    obtain ⟨k, rfl⟩ := Int.eq_ofNat_of_zero_le (show 0 ≤ z by omega)
    exact cgroups_nat k (by omega) w
end Go.Proofs.YthboeoidgglcgaaGreat
