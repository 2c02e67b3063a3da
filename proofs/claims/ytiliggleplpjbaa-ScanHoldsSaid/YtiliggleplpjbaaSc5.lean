/- scan: maps in memory: a look, a store, a key struck. -/
import Derived.Test.YtiliggleplpjbaaMpR
import Derived.Test.YtiliggleplpjbaaNt1
import Derived.LoopTactic
namespace Go.Proofs.Ytiliggleplpjbaa
set_option linter.unusedVariables false
set_option linter.unusedSimpArgs false
set_option linter.unusedSectionVars false
open Go Go.RowKit Go.Maps
/-- a map's block that holds just these, at most t of them ever -/
def MapB {K : Type} [BEq K] [LawfulBEq K] (w : World) (kt : TypeId) (c : KC K) (b t : Nat) (L : List (K × Value)) : Prop := ∃ n D, n ≤ t ∧ w.ownsMap Try.prog kt RV b n D ∧ MpR c D L
theorem MapB.lt {K : Type} [BEq K] [LawfulBEq K] {w : World} {kt : TypeId} {c : KC K} {b t : Nat} {L : List (K × Value)} (h : MapB w kt c b t L) : b < w.heap.size := by
  obtain ⟨n, D, -, ho, -⟩ := h; exact ho.lt
theorem MapB.keep {K : Type} [BEq K] [LawfulBEq K] {w w' : World} {kt : TypeId} {c : KC K} {b t : Nat} {L : List (K × Value)} (h : MapB w kt c b t L) (hb : w'.heap[b]? = w.heap[b]?) : MapB w' kt c b t L := by
  obtain ⟨n, D, hn, ⟨es, clock, hh, F, hs, hD⟩, hr⟩ := h
  exact ⟨n, D, hn, ⟨es, clock, hb.trans hh, F, hs, hD⟩, hr⟩
theorem MapB.more {K : Type} [BEq K] [LawfulBEq K] {w : World} {kt : TypeId} {c : KC K} {b t t' : Nat} {L : List (K × Value)} (h : MapB w kt c b t L) (ht : t ≤ t') : MapB w kt c b t' L := by
  obtain ⟨n, D, hn, ho, hr⟩ := h
  exact ⟨n, D, Nat.le_trans hn ht, ho, hr⟩
theorem MapB.notcell {K : Type} [BEq K] [LawfulBEq K] {w : World} {kt : TypeId} {c : KC K} {b t : Nat} {L : List (K × Value)} (h : MapB w kt c b t L) {cs : Array Value} {T : TypeId} : w.heap[b]? ≠ some (.cells cs T (0, 0)) := by
  obtain ⟨n, D, -, ⟨es, clock, hh, -⟩, -⟩ := h
  rw [hh]; intro e; cases e
theorem row_notmap {K : Type} [BEq K] [LawfulBEq K] {w : World} {base e size n b m : Nat} {v : Value} {xs : List Value} {k : TypeId} {c : KC K} {L : List (K × Value)} (h : w.ownsRow base e size v n xs) (hm : MapB w k c b m L) : v.ownBlock ≠ some b := by
  rcases h.2 with ⟨rfl, -⟩ | ⟨g, cap, cur, rfl, hb, hg, -⟩
  · intro e; cases e
  · intro e
    injection e with e
    have e : g = b := e
    subst e
    exact hm.notcell hg
section
variable {K V : Type} [BEq K] [LawfulBEq K]
def getP (L : List (K × V)) (k : K) (z : V) : V := match L.find? (fun e => e.1 == k) with | some e => e.2 | none => z
theorem getP_no {L : List (K × V)} {k : K} (h : hasP L k = false) (z : V) : getP L k z = z := by
  unfold getP
  rw [List.find?_eq_none.2 (fun e he => by
    intro hc
    have := (hasP_iff L k).mpr ⟨e, he, eq_of_beq hc⟩
    rw [h] at this; cases this)]
theorem getP_mem {L : List (K × V)} (hd : DistP L) {k : K} {v : V} (h : (k, v) ∈ L) (z : V) : getP L k z = v := by
  unfold getP
  cases hf : L.find? (fun e => e.1 == k) with
  | none => exact absurd (List.find?_eq_none.1 hf _ h) (by simp)
  | some e =>
    have h1 := List.mem_of_find?_eq_some hf
    have h2 := eq_of_beq (List.find?_some (p := fun e : K × V => e.1 == k) hf)
    show e.2 = v
    unfold DistP at hd
    rw [List.pairwise_iff_getElem] at hd
    obtain ⟨i, hi, e1⟩ := List.getElem_of_mem h1
    obtain ⟨j, hj, e2⟩ := List.getElem_of_mem h
    by_cases hij : i = j
    · subst hij
      rw [e1] at e2
      rw [e2]
    · rcases Nat.lt_or_gt_of_ne hij with hl | hl
      · exact absurd (by rw [e1, e2]; exact h2) (hd i j hi hj hl)
      · exact absurd (by rw [e1, e2]; exact h2.symm) (hd j i hj hi hl)
theorem hasP_mem {L : List (K × V)} {k : K} (h : hasP L k = true) : ∃ v, (k, v) ∈ L := by
  obtain ⟨e, he, rfl⟩ := (hasP_iff L k).mp h
  exact ⟨e.2, he⟩
end
section
variable {K : Type} [BEq K] [LawfulBEq K] {w : World} {kt T et b t : Nat} {c : KC K} {L : List (K × Value)} {kv : Value} {k : K}
theorem MapB.look (h : MapB w kt c b t L) (hK : Keyed Try.prog kt) (hT : Try.prog.underlying T = some (.map kt et)) {z : Value} (hz : ∀ w, (zeroValue et).run Try.prog w = .ok z w) (hkey : keyOf Try.prog kt kv = some (c.lit k)) :
    (Instr.lookup T (.map (some b)) kv true).run Try.prog w = .ok (.tuple #[getP L k z, .bool (hasP L k)]) w := by
  obtain ⟨n, D, -, ho, hr⟩ := h
  obtain ⟨v, ps, hrun, hv⟩ := ho.look_ok hK hT (hz w) (zd := .held z) (zp := []) rfl hkey
  rw [hr.has] at hrun
  rw [hrun]
  have : v = getP L k z := by
    cases hh : hasP L k with
    | false =>
      rw [atKey_of_not_has (by rw [hr.has]; exact hh)] at hv
      rw [getP_no hh]
      exact RV_inv hv
    | true =>
      obtain ⟨u, hu⟩ := hasP_mem hh
      rw [hr.get hu] at hv
      rw [getP_mem hr.dist hu]
      exact RV_inv hv
  rw [this]
theorem MapB.store (h : MapB w kt c b t L) (hK : Keyed Try.prog kt) (hT : Try.prog.underlying T = some (.map kt et)) (ht : t < 1000000) (hkey : keyOf Try.prog kt kv = some (c.lit k)) (val : Value) :
    ∃ w', (Instr.mapUpdate T (.map (some b)) kv val).run Try.prog w = .ok () w' ∧ MapB w' kt c b (t + 1) (delP L k ++ [(k, val)]) ∧ w.grownBy w' (some b) := by
  obtain ⟨n, D, hn, ho, hr⟩ := h
  obtain ⟨w', hrun, ho', hg⟩ := ho.update hK hT (by simp only [maxLen]; omega) hkey (val := val) (show RV val = some (.held val, []) from rfl)
  exact ⟨w', hrun, ⟨n + 1, _, by omega, ho', hr.put k val⟩, hg⟩
theorem MapB.drop (h : MapB w kt c b t L) (hK : Keyed Try.prog kt) (hT : Try.prog.underlying T = some (.map kt et)) (hkey : keyOf Try.prog kt kv = some (c.lit k)) (ty : TypeId) :
    ∃ w', (Builtin.delete_ #[T, kt] ty #[.map (some b), kv]).run Try.prog w = .ok (.tuple #[]) w' ∧ MapB w' kt c b t (delP L k) ∧ w.grownBy w' (some b) := by
  obtain ⟨n, D, hn, ho, hr⟩ := h
  obtain ⟨w', hrun, ho', hg⟩ := ho.drop hK hT hkey ty
  exact ⟨w', hrun, ⟨n, _, hn, ho', hr.del k⟩, hg.grown⟩
theorem MapB.perm {L' : List (K × Value)} (h : MapB w kt c b t L) (hp : L.Perm L') : MapB w kt c b t L' := by
  obtain ⟨n, D, hn, ho, hr⟩ := h
  exact ⟨n, D, hn, ho, hr.perm hp⟩
theorem MapB.dist (h : MapB w kt c b t L) : DistP L := by
  obtain ⟨n, D, hn, ho, hr⟩ := h; exact hr.dist
end
theorem lawS : Keyed Try.prog 9 := string_keyed Try.underlying9
theorem lawI : Keyed Try.prog 3 := int_keyed Try.underlying3
theorem keyS {k : List UInt8} (h : k.length ≤ maxLen) : keyOf Try.prog 9 (.string (bs k)) = some (KS.lit k) := by
  rw [Go.WideMaps.keyOf_string_mk Try.underlying9 (by show (bs k).size ≤ maxLen; unfold bs; exact h)]
  unfold bs KS; simp
theorem zeroI (w : World) : (zeroValue 3).run Try.prog w = .ok (.int .i64 0) w := by kernel_rfl
section
variable {K : Type} [BEq K] [LawfulBEq K] {w : World} {kt T et b t : Nat} {c : KC K} {L : List (K × Value)} {kv : Value} {k : K}
theorem MapB.look1 (h : MapB w kt c b t L) (hK : Keyed Try.prog kt) (hT : Try.prog.underlying T = some (.map kt et)) {z : Value} (hz : ∀ w, (zeroValue et).run Try.prog w = .ok z w) (hkey : keyOf Try.prog kt kv = some (c.lit k)) :
    (Instr.lookup T (.map (some b)) kv false).run Try.prog w = .ok (getP L k z) w := by
  obtain ⟨n, D, -, ho, hr⟩ := h
  obtain ⟨v, ps, hrun, hv⟩ := ho.lookup hK hT (hz w) (zd := .held z) (zp := []) rfl hkey
  rw [hrun]
  have : v = getP L k z := by
    cases hh : hasP L k with
    | false =>
      rw [atKey_of_not_has (by rw [hr.has]; exact hh)] at hv
      rw [getP_no hh]
      exact RV_inv hv
    | true =>
      obtain ⟨u, hu⟩ := hasP_mem hh
      rw [hr.get hu] at hv
      rw [getP_mem hr.dist hu]
      exact RV_inv hv
  rw [this]
theorem MapB.kept {w' : World} {row : Option Nat} (h : MapB w kt c b t L) (hg : w.grownBy w' row) (hne : some b ≠ row) : MapB w' kt c b t L := h.keep (hg.block b h.lt hne)
theorem MapB.gr {w' : World} (h : MapB w kt c b t L) (hg : Gr w w') : MapB w' kt c b t L := h.keep (Below.block hg b h.lt)
theorem MapB.made (w : World) (kt : TypeId) (c : KC K) : MapB (w.alloc (.map #[] 0)) kt c w.heap.size 0 ([] : List (K × Value)) := ⟨0, _, Nat.le_refl _, World.ownsMap_made w _ _ _, MpR.nil_ _⟩
end
/-- a list of pairs, its values in memory -/
def mapV {K V : Type} (f : V → Value) (L : List (K × V)) : List (K × Value) := L.map (fun e => (e.1, f e.2))
section
variable {K V : Type} [BEq K] [LawfulBEq K]
theorem hasP_mapV (f : V → Value) (L : List (K × V)) (k : K) : hasP (mapV f L) k = hasP L k := by
  unfold hasP mapV; rw [List.any_map]; rfl
theorem delP_mapV (f : V → Value) (L : List (K × V)) (k : K) : delP (mapV f L) k = mapV f (delP L k) := by
  unfold delP mapV; rw [List.filter_map]; rfl
theorem mapV_snoc (f : V → Value) (L : List (K × V)) (k : K) (v : V) : mapV f (L ++ [(k, v)]) = mapV f L ++ [(k, f v)] := by unfold mapV; rw [List.map_append]; rfl
theorem getP_mapV (f : V → Value) (L : List (K × V)) (k : K) (z : V) : getP (mapV f L) k (f z) = f (getP L k z) := by
  unfold getP mapV
  rw [List.find?_map]
  have e : ((fun e : K × Value => e.1 == k) ∘ fun e : K × V => (e.1, f e.2)) = fun e : K × V => e.1 == k := rfl
  rw [e]
  cases L.find? (fun e => e.1 == k) <;> rfl
theorem hasP_put (L : List (K × V)) (k k' : K) (v : V) : hasP (delP L k ++ [(k, v)]) k' = (hasP L k' || k == k') := by
  have h1 : hasP (delP L k ++ [(k, v)]) k' = (hasP (delP L k) k' || (k == k')) := by unfold hasP; rw [List.any_append]; simp
  rw [h1, hasP_del]
  by_cases e : k = k'
  · subst e; simp
  · have e2 : (k == k') = false := by simpa using e
    have e3 : (k' != k) = true := by simpa using Ne.symm e
    rw [e2, e3]; simp
theorem getP_put (L : List (K × V)) (k k' : K) (v z : V) : getP (delP L k ++ [(k, v)]) k' z = if (k == k') = true then v else getP L k' z := by
  unfold getP
  rw [List.find?_append]
  by_cases e : k = k'
  · subst e
    rw [if_pos (by simp)]
    have : (delP L k).find? (fun e => e.1 == k) = none := by
      rw [List.find?_eq_none]
      intro x hx
      have := (List.mem_filter.mp hx).2
      simpa using this
    rw [this]; simp
  · rw [if_neg (by simpa using e)]
    have h1 : (delP L k).find? (fun e => e.1 == k') = L.find? (fun e => e.1 == k') := by
      unfold delP
      induction L with
      | nil => rfl
      | cons x L ih =>
        by_cases hx : x.1 = k
        · rw [List.filter_cons_of_neg (by simp [hx]), ih, List.find?_cons_of_neg (by rw [hx]; simpa using e)]
        · rw [List.filter_cons_of_pos (by simpa using hx)]
          by_cases hx2 : x.1 = k'
          · rw [List.find?_cons_of_pos (by simpa using hx2), List.find?_cons_of_pos (by simpa using hx2)]
          · rw [List.find?_cons_of_neg (by simpa using hx2), List.find?_cons_of_neg (by simpa using hx2), ih]
    rw [h1]
    have h2 : ([(k, v)] : List (K × V)).find? (fun e => e.1 == k') = none := by
      rw [List.find?_eq_none]
      intro x hx
      rw [List.mem_singleton] at hx
      subst hx
      simpa using e
    rw [h2, Option.or_none]
theorem DistP.put {L : List (K × V)} (h : DistP L) (k : K) (v : V) : DistP (delP L k ++ [(k, v)]) := by
  refine DistP.snoc (h.del k) ?_ v
  rw [hasP_del]; simp
end
end Go.Proofs.Ytiliggleplpjbaa
