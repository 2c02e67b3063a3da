/- model: what it holds; the model in memory. -/
import Derived.Test.YtipdjchgdhfciaaBytes
import Derived.Test.YtipdjchgdhfciaaTyp6
import Derived.Maps.OwnSet
import Derived.StringKeys
namespace Go.Proofs.Ytipdjchgdhfciaa
set_option linter.unusedVariables false
set_option linter.unusedSimpArgs false
open Go Go.RowKit Go.Maps
/-- a key, the slice that is stored, its bytes -/
abbrev En := List UInt8 × Value × List UInt8
def hasK (L : List En) (k : List UInt8) : Bool := L.any (fun e => e.1 == k)
def delK (L : List En) (k : List UInt8) : List En := L.filter (fun e => e.1 != k)
def Dist (L : List En) : Prop := L.Pairwise (fun x y => x.1 ≠ y.1)
abbrev kS (k : List UInt8) : Lit := .string k
theorem hasK_iff (L : List En) (k : List UInt8) : hasK L k = true ↔ ∃ e ∈ L, e.1 = k := by unfold hasK; rw [List.any_eq_true]; simp
/-- how an element reads: as itself -/
def RV (v : Value) : Option (DataW Value × List MemPlace) := some (.held v, [])
theorem RV_inv {v u : Value} {ps : List MemPlace} (h : RV v = some (.held u, ps)) : v = u := by unfold RV at h; injection h with h; injection h with h; injection h
/-- the map's datum holds just these -/
structure MRel (D : DataW Value) (L : List En) : Prop where
  tidy : Tidy D
  has : ∀ k, Maps.has D (kS k) = hasK L k
  at_ : ∀ e ∈ L, ∀ z, D.atKey (kS e.1) z = .held e.2.1
  size : Maps.size D = L.length
  dist : Dist L
theorem MRel.nil_ : MRel (.map []) [] := ⟨tidy_empty, fun _ => rfl, fun e h => (by cases h), rfl, List.Pairwise.nil⟩
theorem MRel.put {D : DataW Value} {L : List En} (h : MRel D L) {k : List UInt8} (hk : hasK L k = false) (v : Value) (d : List UInt8) : MRel (D.put (kS k) (.held v)) (L ++ [(k, v, d)]) where
  tidy := h.tidy.put (k := kS k) trivial _
  has k' := by
    unfold hasK
    rw [List.any_append]
    by_cases e : k' = k
    · subst e
      rw [has_put_same (k := kS k') h.tidy.isMap trivial]; simp
    · rw [has_put_other (fun e' => e (by injection e')), h.has]
      unfold hasK; simp [Ne.symm e]
  at_ e he z := by
    rcases List.mem_append.mp he with he | he
    · rw [atKey_put_other (fun e' => by
        injection e' with e'
        have := (hasK_iff L k).mpr ⟨e, he, e'⟩
        rw [hk] at this; cases this)]
      exact h.at_ e he z
    · simp at he; subst he
      exact atKey_put_same (k := kS k) h.tidy.isMap trivial _ _
  size := by
    rw [size_put h.tidy, h.size, h.has, hk, List.length_append]; rfl
  dist := by
    unfold Dist
    rw [List.pairwise_append]
    refine ⟨h.dist, List.pairwise_singleton _ _, fun y hy z hz => ?_⟩
    rw [List.mem_singleton] at hz
    subst hz
    intro e
    have := (hasK_iff L k).mpr ⟨y, hy, e⟩
    rw [hk] at this; cases this
theorem hasK_del (L : List En) (k k' : List UInt8) : hasK (delK L k) k' = (hasK L k' && k' != k) := by
  rw [Bool.eq_iff_iff, Bool.and_eq_true, hasK_iff, hasK_iff, bne_iff_ne]
  unfold delK
  constructor
  · rintro ⟨e, he, rfl⟩
    obtain ⟨h1, h2⟩ := List.mem_filter.mp he
    exact ⟨⟨e, h1, rfl⟩, by simpa using h2⟩
  · rintro ⟨⟨e, he, rfl⟩, h2⟩
    exact ⟨e, List.mem_filter.mpr ⟨he, by simpa using h2⟩, rfl⟩
theorem delK_len {L : List En} (h : Dist L) {k : List UInt8} (hk : hasK L k = true) : (delK L k).length + 1 = L.length := by
  induction L with
  | nil => simp [hasK] at hk
  | cons x L ih =>
    obtain ⟨h1, h2⟩ := List.pairwise_cons.mp h
    by_cases e : x.1 = k
    · have : delK L k = L := by
        unfold delK
        rw [List.filter_eq_self]
        intro y hy
        simp only [bne_iff_ne, ne_eq]
        intro e2
        exact h1 y hy (e.trans e2.symm)
      have h3 : delK (x :: L) k = delK L k := by unfold delK; rw [List.filter_cons_of_neg (by simp [e])]
      rw [h3, this]; rfl
    · have h3 : delK (x :: L) k = x :: delK L k := by unfold delK; rw [List.filter_cons_of_pos (by simpa using e)]
      have h4 : hasK L k = true := by
        unfold hasK at hk ⊢
        rw [List.any_cons, beq_eq_false_iff_ne.mpr e, Bool.false_or] at hk
        exact hk
      rw [h3, List.length_cons, List.length_cons, ih h2 h4]
theorem MRel.del {D : DataW Value} {L : List En} (h : MRel D L) {k : List UInt8} (hk : hasK L k = true) : MRel (D.del (kS k)) (delK L k) where
  tidy := h.tidy.del _
  has k' := by
    rw [hasK_del]
    by_cases e : k' = k
    · subst e; rw [has_del_same]; simp
    · rw [has_del_other (fun e' => e (by injection e')), h.has]; simp [e]
  at_ e he z := by
    unfold delK at he
    obtain ⟨h1, h2⟩ := List.mem_filter.mp he
    rw [atKey_del_other (fun e' => by injection e' with e'; simp [e'] at h2)]
    exact h.at_ e h1 z
  size := by
    have := size_del (k := kS k) h.tidy
    rw [h.has, hk, if_pos rfl, h.size] at this
    have := delK_len h.dist hk
    omega
  dist := List.Pairwise.filter _ h.dist
theorem lawS : Keyed Try.prog 9 := string_keyed Try.underlying9
theorem keyS {k : List UInt8} (h : k.length ≤ maxLen) : keyOf Try.prog 9 (.string (bs k)) = some (kS k) := by
  rw [Go.WideMaps.keyOf_string_mk Try.underlying9 (by show (bs k).size ≤ maxLen; unfold bs; exact h)]
  unfold bs; simp
theorem zeroV (w : World) : (zeroValue 29).run Try.prog w = .ok (.slice none 0 0) w := by kernel_rfl
/-- block g is a model whose map is block b, at most n entries -/
structure Md (w : World) (lo g b n : Nat) (L : List En) : Prop where
  blk : w.heap[g]? = some (.cells #[.map (some b)] 57 (0, 0))
  gl : lo ≤ g
  bl : lo ≤ b
  own : ∃ D, w.ownsMap Try.prog 9 RV b n D ∧ MRel D L
  rows : ∀ e ∈ L, OB w lo e.2.1 e.2.2
  ok : ∀ e ∈ L, 1 ≤ e.1.length ∧ e.1.length ≤ 16 ∧ e.2.2.length ≤ 512
theorem row_notmap {w : World} {base e size n b m : Nat} {v : Value} {xs : List Value} {k : TypeId} {D : DataW Value} (h : w.ownsRow base e size v n xs) (hm : w.ownsMap Try.prog k RV b m D) : v.ownBlock ≠ some b := by
  rcases h.2 with ⟨rfl, -⟩ | ⟨g, cap, cur, rfl, hb, hg, -⟩
  · intro e; cases e
  · intro e
    injection e with e
    have e : g = b := e
    subst e
    obtain ⟨es, clock, hh, -⟩ := hm
    rw [hh] at hg; cases hg
theorem Md.ne {w : World} {lo g b n : Nat} {L : List En} (h : Md w lo g b n L) : g ≠ b := by
  intro e
  subst e
  obtain ⟨D, ⟨es, clock, hh, -⟩, -⟩ := h.own
  rw [h.blk] at hh; cases hh
theorem Md.lt {w : World} {lo g b n : Nat} {L : List En} (h : Md w lo g b n L) : g < w.heap.size ∧ b < w.heap.size := by
  obtain ⟨D, ho, -⟩ := h.own
  exact ⟨(Array.getElem?_eq_some_iff.1 h.blk).1, ho.lt⟩
theorem Md.dist {w : World} {lo g b n : Nat} {L : List En} (h : Md w lo g b n L) : Dist L := by
  obtain ⟨D, -, hr⟩ := h.own; exact hr.dist
/-- a frame that turns none of the model's blocks -/
theorem Md.upd {w w' : World} {S : Nat → Prop} {lo g b n : Nat} {L : List En} (h : Md w lo g b n L) (hu : Upd S w w') (hg : ¬ S g) (hb : ¬ S b) (hr : ∀ e ∈ L, ∀ k, e.2.1.ownBlock = some k → ¬ S k) : Md w' lo g b n L where
  blk := (hu.2.2.2.2 g h.lt.1 hg).trans h.blk
  gl := h.gl
  bl := h.bl
  own := by
    obtain ⟨D, ⟨es, clock, hh, F, hs, hD⟩, hrel⟩ := h.own
    exact ⟨D, ⟨es, clock, (hu.2.2.2.2 b h.lt.2 hb).trans hh, F, hs, hD⟩, hrel⟩
  rows e he := row_keep (h.rows e he) (fun k hk => hu.2.2.2.2 k ((h.rows e he).lt k hk).2 (hr e he k hk))
  ok := h.ok
theorem Md.below {w w' : World} {lo g b n : Nat} {L : List En} (hb : Below w.heap.size w w') (h : Hid (Md w lo g b n L)) : Hid (Md w' lo g b n L) :=
  Lib.hid (h.out.upd (S := fun _ => False) (Upd.of_below hb) (fun h => h) (fun h => h) (fun _ _ _ _ h => h))
end Go.Proofs.Ytipdjchgdhfciaa
