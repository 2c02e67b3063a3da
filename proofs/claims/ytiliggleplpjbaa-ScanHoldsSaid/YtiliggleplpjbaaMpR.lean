/- a map's datum against a list of keys and values, keys of any kind. -/
import Derived.Test.YtiliggleplpjbaaLib
import Derived.Maps.OwnSet
import Derived.StringKeys
namespace Go.Proofs.Ytiliggleplpjbaa
set_option linter.unusedVariables false
set_option linter.unusedSimpArgs false
set_option linter.unusedSectionVars false
open Go Go.RowKit Go.Maps
/-- how keys are spelt -/
structure KC (K : Type) where
  lit : K → Lit
  inj : ∀ {a b : K}, lit a = lit b → a = b
  ok : ∀ a, WideAt.IsKeyLit (lit a)
def KS : KC (List UInt8) := ⟨fun k => .string k, fun h => by injection h, fun _ => trivial⟩
def KI : KC Int := ⟨fun k => .int .i64 k, fun h => by injection h, fun _ => trivial⟩
section
variable {K V : Type} [BEq K] [LawfulBEq K]
def hasP (L : List (K × V)) (k : K) : Bool := L.any (fun e => e.1 == k)
def delP (L : List (K × V)) (k : K) : List (K × V) := L.filter (fun e => e.1 != k)
def DistP (L : List (K × V)) : Prop := L.Pairwise (fun x y => x.1 ≠ y.1)
theorem hasP_iff (L : List (K × V)) (k : K) : hasP L k = true ↔ ∃ e ∈ L, e.1 = k := by unfold hasP; rw [List.any_eq_true]; simp
theorem hasP_del (L : List (K × V)) (k k' : K) : hasP (delP L k) k' = (hasP L k' && k' != k) := by
  rw [Bool.eq_iff_iff, Bool.and_eq_true, hasP_iff, hasP_iff, bne_iff_ne]
  unfold delP
  constructor
  · rintro ⟨e, he, rfl⟩
    obtain ⟨h1, h2⟩ := List.mem_filter.mp he
    exact ⟨⟨e, h1, rfl⟩, by simpa using h2⟩
  · rintro ⟨⟨e, he, rfl⟩, h2⟩
    exact ⟨e, List.mem_filter.mpr ⟨he, by simpa using h2⟩, rfl⟩
theorem delP_no {L : List (K × V)} {k : K} (h : hasP L k = false) : delP L k = L := by
  unfold delP
  rw [List.filter_eq_self]
  intro y hy
  simp only [bne_iff_ne, ne_eq]
  intro e
  have := (hasP_iff L k).mpr ⟨y, hy, e⟩
  rw [h] at this; cases this
theorem delP_len {L : List (K × V)} (h : DistP L) (k : K) : (delP L k).length + (if hasP L k = true then 1 else 0) = L.length := by
  induction L with
  | nil => simp [hasP, delP]
  | cons x L ih =>
    obtain ⟨h1, h2⟩ := List.pairwise_cons.mp h
    have ih := ih h2
    by_cases e : x.1 = k
    · have hno : hasP L k = false := by
        cases hh : hasP L k with
        | false => rfl
        | true =>
          obtain ⟨y, hy, e2⟩ := (hasP_iff L k).mp hh
          exact absurd (e.trans e2.symm) (h1 y hy)
      have h3 : delP (x :: L) k = delP L k := by unfold delP; rw [List.filter_cons_of_neg (by simp [e])]
      have h4 : hasP (x :: L) k = true := by unfold hasP; simp [e]
      rw [h3, h4, delP_no hno]; rfl
    · have h3 : delP (x :: L) k = x :: delP L k := by unfold delP; rw [List.filter_cons_of_pos (by simpa using e)]
      have h4 : hasP (x :: L) k = hasP L k := by unfold hasP; rw [List.any_cons, beq_eq_false_iff_ne.mpr e, Bool.false_or]
      rw [h3, h4, List.length_cons, List.length_cons, ← ih]
      omega
theorem DistP.del {L : List (K × V)} (h : DistP L) (k : K) : DistP (delP L k) := List.Pairwise.filter _ h
theorem DistP.snoc {L : List (K × V)} (h : DistP L) {k : K} (hk : hasP L k = false) (v : V) : DistP (L ++ [(k, v)]) := by
  unfold DistP
  rw [List.pairwise_append]
  refine ⟨h, List.pairwise_singleton _ _, fun y hy z hz => ?_⟩
  rw [List.mem_singleton] at hz
  subst hz
  intro e
  have := (hasP_iff L k).mpr ⟨y, hy, e⟩
  rw [hk] at this; cases this
/-- the map's datum holds just these -/
structure MpR (c : KC K) (D : DataW Value) (L : List (K × Value)) : Prop where
  tidy : Tidy D
  has : ∀ k, Maps.has D (c.lit k) = hasP L k
  at_ : ∀ e ∈ L, ∀ z, D.atKey (c.lit e.1) z = .held e.2
  size : Maps.size D = L.length
  dist : DistP L
theorem MpR.nil_ (c : KC K) : MpR c (.map []) [] := ⟨tidy_empty, fun _ => rfl, fun e h => (by cases h), rfl, List.Pairwise.nil⟩
theorem MpR.perm {c : KC K} {D : DataW Value} {L L' : List (K × Value)} (h : MpR c D L) (hp : L.Perm L') : MpR c D L' where
  tidy := h.tidy
  has k := by
    rw [h.has, Bool.eq_iff_iff, hasP_iff, hasP_iff]
    exact ⟨fun ⟨e, he, hk⟩ => ⟨e, hp.mem_iff.mp he, hk⟩, fun ⟨e, he, hk⟩ => ⟨e, hp.mem_iff.mpr he, hk⟩⟩
  at_ e he z := h.at_ e (hp.mem_iff.mpr he) z
  size := by rw [h.size, hp.length_eq]
  dist := hp.pairwise h.dist (fun h => h.symm)
theorem MpR.put {c : KC K} {D : DataW Value} {L : List (K × Value)} (h : MpR c D L) (k : K) (v : Value) : MpR c (D.put (c.lit k) (.held v)) (delP L k ++ [(k, v)]) where
  tidy := h.tidy.put (c.ok k) _
  has k' := by
    unfold hasP
    rw [List.any_append]
    by_cases e : k' = k
    · subst e
      rw [has_put_same h.tidy.isMap (c.ok k')]; simp
    · rw [has_put_other (fun e' => e (c.inj e')), h.has]
      have := hasP_del L k k'
      unfold hasP at this ⊢
      rw [this, List.any_cons, List.any_nil, beq_eq_false_iff_ne.mpr (Ne.symm e), bne_iff_ne.mpr e, Bool.and_true, Bool.or_false, Bool.or_false]
  at_ e he z := by
    rcases List.mem_append.mp he with he | he
    · obtain ⟨h1, h2⟩ := List.mem_filter.mp he
      rw [atKey_put_other (fun e' => by
        have e' := c.inj e'
        simp [e'] at h2)]
      exact h.at_ e h1 z
    · simp at he; subst he
      exact atKey_put_same h.tidy.isMap (c.ok k) _ _
  size := by
    have := delP_len h.dist k
    rw [size_put h.tidy, h.size, h.has, List.length_append]
    cases hh : hasP L k with
    | true => rw [hh, if_pos rfl] at this; simp; omega
    | false => rw [hh, if_neg (by simp)] at this; simp; omega
  dist := (h.dist.del k).snoc (by rw [hasP_del]; simp) v
theorem MpR.del {c : KC K} {D : DataW Value} {L : List (K × Value)} (h : MpR c D L) (k : K) : MpR c (D.del (c.lit k)) (delP L k) where
  tidy := h.tidy.del _
  has k' := by
    rw [hasP_del]
    by_cases e : k' = k
    · subst e; rw [has_del_same]; simp
    · rw [has_del_other (fun e' => e (c.inj e')), h.has]; simp [e]
  at_ e he z := by
    unfold delP at he
    obtain ⟨h1, h2⟩ := List.mem_filter.mp he
    rw [atKey_del_other (fun e' => by have e' := c.inj e'; simp [e'] at h2)]
    exact h.at_ e h1 z
  size := by
    have h1 := size_del (k := c.lit k) h.tidy
    have h2 := delP_len h.dist k
    rw [h.has, h.size] at h1
    omega
  dist := h.dist.del k
theorem MpR.get {c : KC K} {D : DataW Value} {L : List (K × Value)} (h : MpR c D L) {k : K} {v : Value} (hk : (k, v) ∈ L) (z : DataW Value) : D.atKey (c.lit k) z = .held v := h.at_ _ hk z
end
/-- how an element reads: as itself -/
def RV (v : Value) : Option (DataW Value × List MemPlace) := some (.held v, [])
theorem RV_inv {v u : Value} {ps : List MemPlace} (h : RV v = some (.held u, ps)) : v = u := by unfold RV at h; injection h with h; injection h with h; injection h
end Go.Proofs.Ytiliggleplpjbaa
