/- scan, plain: shards that lack. -/
import Derived.Test.YtiliggleplpjbaaScZ
namespace Go.Proofs.Ytiliggleplpjbaa
set_option linter.unusedVariables false
set_option linter.unusedSimpArgs false
open Go Go.RowKit Go.Maps
def lackP (lk : Nat) (i : Nat) : Bool := bits BinOp.and .u16 ((lk : Int) / 2 ^ i) 1 == 1
theorem bit_one9 (x : Int) : bits BinOp.and .u16 x 1 = 0 ∨ bits BinOp.and .u16 x 1 = 1 := by
  have h : ((BitVec.ofInt 16 x) &&& (BitVec.ofInt 16 1)).toNat = 0 ∨ ((BitVec.ofInt 16 x) &&& (BitVec.ofInt 16 1)).toNat = 1 := by
    have h1 : (BitVec.ofInt 16 1).toNat = 1 := by decide
    rw [BitVec.toNat_and, h1, Nat.and_one_is_mod]
    omega
  show IntKind.u16.wrap ((((BitVec.ofInt 16 x) &&& (BitVec.ofInt 16 1)).toNat : Nat) : Int) = 0 ∨ IntKind.u16.wrap ((((BitVec.ofInt 16 x) &&& (BitVec.ofInt 16 1)).toNat : Nat) : Int) = 1
  rcases h with h | h
  · left; rw [h]; decide
  · right; rw [h]; decide
theorem lackP_yes9 {lk k : Nat} (h : lackP lk k = true) : bits BinOp.and .u16 ((lk : Int) / 2 ^ k) 1 = 1 := beq_iff_eq.mp h
theorem lackP_no9 {lk k : Nat} (h : lackP lk k = false) : bits BinOp.and .u16 ((lk : Int) / 2 ^ k) 1 = 0 := by
  rcases bit_one9 ((lk : Int) / 2 ^ k) with h1 | h1
  · exact h1
  · unfold lackP at h; rw [h1] at h; cases h
/-- shard s lacks -/
def goneP (lk : List Nat) (s : Nat) : Bool := match lk[s / 10]? with | some x => lackP x (s % 10) | none => false
def keepF (lk : List Nat) (s : Nat) : Bool := !goneP lk s
/-- how many of group g among the first i lack -/
def lostN (lk : List Nat) (g i : Nat) : Nat := ((List.range i).filter (fun s => decide (s / 10 = g) && goneP lk s)).length
theorem lostN_succ (lk : List Nat) (g i : Nat) : lostN lk g (i + 1) = lostN lk g i + (if i / 10 = g ∧ goneP lk i = true then 1 else 0) := by
  unfold lostN
  rw [List.range_succ, List.filter_append, List.length_append]
  congr 1
  by_cases h : i / 10 = g ∧ goneP lk i = true
  · rw [if_pos h, List.filter_cons_of_pos (by rw [h.2, decide_eq_true h.1]; rfl)]; rfl
  · rw [if_neg h, List.filter_cons_of_neg (by rw [Bool.and_eq_true, decide_eq_true_iff]; exact h)]; rfl
theorem lostN_ten (lk : List Nat) (g G : Nat) : lostN lk g (10 * G) = if g < G then ((List.range 10).filter (fun j => goneP lk (10 * g + j))).length else 0 := by
  induction G with
  | zero => rfl
  | succ G ih =>
    have h1 : ∀ k, k ≤ 10 → lostN lk g (10 * G + k) = lostN lk g (10 * G) + (if g = G then ((List.range k).filter (fun j => goneP lk (10 * g + j))).length else 0) := by
      intro k
      induction k with
      | zero => intro _; simp
      | succ k ih2 =>
        intro hk
        rw [show 10 * G + (k + 1) = (10 * G + k) + 1 from rfl, lostN_succ, ih2 (by omega), show (10 * G + k) / 10 = G from by omega, List.range_succ, List.filter_append, List.length_append]
        by_cases hg : g = G
        · subst hg
          rw [if_pos rfl, if_pos rfl]
          by_cases hp : goneP lk (10 * g + k) = true
          · rw [if_pos ⟨rfl, hp⟩, List.filter_cons_of_pos (p := fun j => goneP lk (10 * g + j)) hp]; simp; try omega
          · rw [if_neg (fun h => hp h.2), List.filter_cons_of_neg (p := fun j => goneP lk (10 * g + j)) hp]; simp
        · rw [if_neg hg, if_neg hg, if_neg (fun h => hg h.1.symm)]
    rw [show 10 * (G + 1) = 10 * G + 10 from by omega, h1 10 (Nat.le_refl _), ih]
    by_cases hg : g = G
    · subst hg
      rw [if_pos rfl, if_neg (by omega), if_pos (by omega)]; omega
    · rw [if_neg hg]
      by_cases hl : g < G
      · rw [if_pos hl, if_pos (by omega)]; omega
      · rw [if_neg hl, if_neg (by omega)]
theorem filter_not {α : Type} (l : List α) (p : α → Bool) : (l.filter p).length + (l.filter (fun x => !p x)).length = l.length := by
  induction l with
  | nil => rfl
  | cons x l ih =>
    cases h : p x with
    | true => rw [List.filter_cons_of_pos h, List.filter_cons_of_neg (by simp [h])]; simp; omega
    | false => rw [List.filter_cons_of_neg (by simp [h]), List.filter_cons_of_pos (by simp [h])]; simp; omega
theorem lost_kept (lk : List Nat) {g G : Nat} (hg : g < G) : lostN lk g (10 * G) + keptN (keepF lk) g = 10 := by
  rw [lostN_ten, if_pos hg]
  have := filter_not (List.range 10) (fun j => goneP lk (10 * g + j))
  rw [List.length_range] at this
  exact this
/-- the most that any group has lost among the first i -/
def MostI (lk : List Nat) (i most : Nat) : Prop := (∀ g < 4, lostN lk g i ≤ most) ∧ (most = 0 ∨ ∃ g < 4, lostN lk g i = most)
theorem MostI.zero (lk : List Nat) : MostI lk 0 0 := ⟨fun g _ => Nat.le_refl _, .inl rfl⟩
theorem MostI.no {lk : List Nat} {i most : Nat} (h : MostI lk i most) (hg : goneP lk i = false) : MostI lk (i + 1) most := by
  have e : ∀ g, lostN lk g (i + 1) = lostN lk g i := fun g => by rw [lostN_succ, if_neg (fun h => by rw [hg] at h; cases h.2)]; rfl
  unfold MostI
  simp only [e]
  exact h
theorem MostI.yes {lk : List Nat} {i most : Nat} (h : MostI lk i most) (hi : i < 40) (hg : goneP lk i = true) : MostI lk (i + 1) (if most < lostN lk (i / 10) i + 1 then lostN lk (i / 10) i + 1 else most) := by
  have e : ∀ g, lostN lk g (i + 1) = lostN lk g i + (if i / 10 = g then 1 else 0) := fun g => by
    rw [lostN_succ]
    by_cases hh : i / 10 = g
    · rw [if_pos ⟨hh, hg⟩, if_pos hh]
    · rw [if_neg (fun h => hh h.1), if_neg hh]
  obtain ⟨h1, h2⟩ := h
  refine ⟨fun g hg4 => ?_, ?_⟩
  · rw [e]
    have := h1 g hg4
    by_cases hh : i / 10 = g
    · subst hh; rw [if_pos rfl]; split <;> omega
    · rw [if_neg hh]; split <;> omega
  · by_cases hm : most < lostN lk (i / 10) i + 1
    · rw [if_pos hm]
      refine .inr ⟨i / 10, by omega, ?_⟩
      rw [e, if_pos rfl]
    · rw [if_neg hm]
      rcases h2 with h2 | ⟨g, h3, h4⟩
      · omega
      · refine .inr ⟨g, h3, ?_⟩
        rw [e]
        by_cases hh : i / 10 = g
        · subst hh; omega
        · rw [if_neg hh]; omega
theorem MostI.few {lk : List Nat} {G most : Nat} (h : MostI lk (10 * G) most) (hm : most ≤ 2) (hG : G ≤ 4) (g : Nat) (hg : 10 * g + 10 ≤ 10 * G) : 8 ≤ keptN (keepF lk) g := by
  have := lost_kept lk (g := g) (G := G) (by omega)
  have := h.1 g (by omega)
  omega
theorem MostI.many {lk : List Nat} {G most : Nat} (h : MostI lk (10 * G) most) (hm : 2 < most) : ∃ g, 10 * g + 10 ≤ 10 * G ∧ keptN (keepF lk) g < 8 := by
  rcases h.2 with h2 | ⟨g, h3, h4⟩
  · omega
  · have hgG : g < G := by
      by_cases hh : g < G
      · exact hh
      · rw [lostN_ten, if_neg hh] at h4; omega
    have := lost_kept lk hgG
    exact ⟨g, by omega, by omega⟩
/-- the counts, in memory -/
def lostC (lk : List Nat) (i : Nat) : Array Value := #[.int .i64 (lostN lk 0 i : Nat), .int .i64 (lostN lk 1 i : Nat), .int .i64 (lostN lk 2 i : Nat), .int .i64 (lostN lk 3 i : Nat)]
theorem lostC_at (lk : List Nat) (i : Nat) {g : Nat} (hg : g < 4) : (lostC lk i)[g]? = some (.int .i64 (lostN lk g i : Nat)) := by
  match g, hg with
  | 0, _ => rfl
  | 1, _ => rfl
  | 2, _ => rfl
  | 3, _ => rfl
theorem lostC_no {lk : List Nat} {i : Nat} (hg : goneP lk i = false) : lostC lk (i + 1) = lostC lk i := by
  have e : ∀ g, lostN lk g (i + 1) = lostN lk g i := fun g => by rw [lostN_succ, if_neg (fun h => by rw [hg] at h; cases h.2)]; rfl
  unfold lostC
  rw [e, e, e, e]
theorem lostC_yes {lk : List Nat} {i g : Nat} (hg4 : g < 4) (hgi : i / 10 = g) (hg : goneP lk i = true) : (lostC lk i).setIfInBounds g (.int .i64 ((lostN lk g i : Int) + 1)) = lostC lk (i + 1) := by
  have e : ∀ k, lostN lk k (i + 1) = lostN lk k i + (if g = k then 1 else 0) := fun k => by
    rw [lostN_succ, hgi]
    by_cases hh : g = k
    · rw [if_pos ⟨hh, hg⟩, if_pos hh]
    · rw [if_neg (fun h => hh h.1), if_neg hh]
  unfold lostC
  rw [e, e, e, e]
  match g, hg4 with
  | 0, _ => simp
  | 1, _ => simp
  | 2, _ => simp
  | 3, _ => simp
end Go.Proofs.Ytiliggleplpjbaa
