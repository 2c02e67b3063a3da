/- scan: the places of every copy: plain steps, and in memory. -/
import Derived.RangeFuncNested
import Derived.RangeFuncBound
import Derived.RangeFuncCalls
import Derived.RangeFuncWrites
import Derived.RangeFuncLeaves
import Derived.Shelf.Abstract
import Derived.Shelf.RegionOpen
import Derived.WalkKit
import Derived.OwnWalkIn
import Derived.TacticsInMore
import Derived.LoopNIn
import Derived.LoopIn
import Derived.Maps.OwnIn
import Derived.Test.YtiliggleplpjbaaSc4
import Derived.Test.YtiliggleplpjbaaSc7
import Derived.Test.YtiliggleplpjbaaSc8
import Derived.Test.YtiliggleplpjbaaRegIn
namespace Go.Proofs.Ytiliggleplpjbaa
set_option linter.unusedVariables false
set_option linter.unusedSimpArgs false
open Go Go.RowKit Go.Maps Go.Shelf Go.Proofs
attribute [local go_sem] Oper.semAt_some
theorem placeOf_new {C : List Fd} {v : Vr} (h : v ∉ vers C) (i : Nat) : placeOf C v i = nowP := by
  unfold placeOf
  rw [List.find?_eq_none.mpr (fun f hf => ?_)]
  intro hh
  unfold isSh at hh
  simp at hh
  exact h (mem_vers.mpr ⟨f, hf, hh.1.1, hh.1.2⟩)
theorem placesOf_new {C : List Fd} {v : Vr} (h : v ∉ vers C) : placesOf C v = List.replicate (nSlots v) nowP := by
  rw [List.eq_replicate_iff]
  refine ⟨placesOf_len C v, fun b hb => ?_⟩
  unfold placesOf at hb
  obtain ⟨i, -, rfl⟩ := List.mem_map.mp hb
  exact placeOf_new h i
theorem placesOf_other {C : List Fd} {f : Fd} {v : Vr} (h : ∀ i, isSh f.r v i = false) : placesOf (C ++ [f]) v = placesOf C v := by
  unfold placesOf
  congr 1
  funext i
  rw [placeOf_snoc, h i]
  unfold placeOf
  cases C.find? (fun f => isSh f.r v i) <;> rfl
theorem isSh_kind {r : Rc} (h : r.kind ≠ 2) (v : Vr) (i : Nat) : isSh r v i = false := by unfold isSh; rw [decide_eq_false h]; simp
theorem placesOf_set {C : List Fd} (hC : ∀ f ∈ C, cnt f = true) {f : Fd} (hg : goodB f.r = true) (hk : f.r.kind = 2) (hs : placeOf C f.r.vr (slotOf f.r) = nowP) : placesOf (C ++ [f]) f.r.vr = (placesOf C f.r.vr).set (slotOf f.r) (f.cart, f.pos) := by
  apply List.ext_getElem?
  intro i
  rw [List.getElem?_set]
  by_cases hi : i < nSlots f.r.vr
  · rw [placesOf_at _ _ hi, placesOf_len, placeOf_snoc, isSh_iff hg hk]
    by_cases e : slotOf f.r = i
    · subst e
      rw [if_pos rfl, if_pos hi]
      have h1 := placeOf_now hC hs
      rw [List.find?_eq_none.mpr (fun g hgm => by rw [h1 g hgm]; simp)]
      simp
    · rw [if_neg e, placesOf_at _ _ hi]
      unfold placeOf
      cases C.find? (fun g => isSh g.r f.r.vr i) with
      | some g => rfl
      | none => simp [e]
  · rw [List.getElem?_eq_none (by rw [placesOf_len]; omega)]
    by_cases e : slotOf f.r = i
    · rw [if_pos e, if_neg (by rw [placesOf_len]; omega)]
    · rw [if_neg e, List.getElem?_eq_none (by rw [placesOf_len]; omega)]
theorem placesOf_keep {C : List Fd} {f : Fd} (hg : goodB f.r = true) (hk : f.r.kind = 2) (hs : placeOf C f.r.vr (slotOf f.r) ≠ nowP) : placesOf (C ++ [f]) f.r.vr = placesOf C f.r.vr := by
  unfold placesOf
  congr 1
  funext i
  rw [placeOf_snoc, isSh_iff hg hk]
  by_cases e : slotOf f.r = i
  · subst e
    unfold placeOf at hs ⊢
    cases hf : C.find? (fun g => isSh g.r f.r.vr (slotOf f.r)) with
    | some g => rfl
    | none => rw [hf] at hs; exact absurd rfl hs
  · unfold placeOf
    cases C.find? (fun g => isSh g.r f.r.vr i) with
    | some g => rfl
    | none => simp [e]
theorem flatPl_set (l : List (Int × Int)) (s : Nat) (a b : Int) : ((flatPl l).set (s * 2) (.int .i64 a)).set (s * 2 + 1) (.int .i64 b) = flatPl (l.set s (a, b)) := by
  induction l generalizing s with
  | nil => rfl
  | cons p l ih =>
    cases s with
    | zero => rfl
    | succ s =>
      rw [show (s + 1) * 2 = s * 2 + 1 + 1 from by omega]
      show (Value.int .i64 p.1 :: Value.int .i64 p.2 :: (((flatPl l).set (s * 2) _).set (s * 2 + 1) _)) = _
      rw [ih]; rfl
def slV (x : Nat × Nat) : Value := .slice (some ⟨x.1, 0, none⟩) x.2 x.2
/-- block bm is the map of the copies of C: of each of the versions S its places -/
structure CpM (C : List Fd) (S : List Vr) (Cs : List (Vk × (Nat × Nat))) (W : World) (n₀ bm t : Nat) : Prop where
  dist : DistP Cs
  has : ∀ v : Vk, hasP Cs v = decide (v.1 ∈ S)
  map : MapB W 58 KV bm t (mapV slV Cs)
  blk : ∀ e ∈ Cs, e.2.2 = nSlots e.1.1 ∧ n₀ ≤ e.2.1 ∧ W.heap[e.2.1]? = some (.cells (flatPl (placesOf C e.1.1)).toArray 34 (0, 0))
  ap : Cs.Pairwise (fun a b => a.2.1 ≠ b.2.1)
theorem CpM.grown {C : List Fd} {S : List Vr} {Cs : List (Vk × (Nat × Nat))} {W W' : World} {n₀ bm t : Nat} {row : Option Nat} (h : CpM C S Cs W n₀ bm t) (hg : W.grownBy W' row) (hb : some bm ≠ row) (hr : ∀ r, row = some r → ∃ o : Obj, W.heap[r]? = some o ∧ o.isCells = false) : CpM C S Cs W' n₀ bm t where
  dist := h.dist
  has := h.has
  map := h.map.kept hg hb
  blk e he := ⟨(h.blk e he).1, (h.blk e he).2.1, cells_own _ _ _ (h.blk e he).2.2 hg hr⟩
  ap := h.ap
theorem CpM.gr {C : List Fd} {S : List Vr} {Cs : List (Vk × (Nat × Nat))} {W W' : World} {n₀ bm t : Nat} (h : CpM C S Cs W n₀ bm t) (hg : Gr W W') : CpM C S Cs W' n₀ bm t := h.grown hg.grown (fun e => by cases e) (fun r e => by cases e)
theorem CpM.nil_ {W : World} {n₀ bm : Nat} (h : MapB W 58 KV bm 0 (mapV slV [])) : CpM [] [] [] W n₀ bm 0 := ⟨List.Pairwise.nil, (fun v => by simp [hasP]), h, (fun e he => by cases he), List.Pairwise.nil⟩
theorem CpM.lt {C : List Fd} {S : List Vr} {Cs : List (Vk × (Nat × Nat))} {W : World} {n₀ bm t : Nat} (h : CpM C S Cs W n₀ bm t) {e : Vk × (Nat × Nat)} (he : e ∈ Cs) : e.2.1 < W.heap.size := (Array.getElem?_eq_some_iff.mp (h.blk e he).2.2).1
theorem CpM.more {C : List Fd} {S : List Vr} {Cs : List (Vk × (Nat × Nat))} {W : World} {n₀ bm t t' : Nat} (h : CpM C S Cs W n₀ bm t) (ht : t ≤ t') : CpM C S Cs W n₀ bm t' := ⟨h.dist, h.has, h.map.more ht, h.blk, h.ap⟩
theorem CpM.other {C : List Fd} {Cs : List (Vk × (Nat × Nat))} {W : World} {n₀ bm t : Nat} (h : CpM C (vers C) Cs W n₀ bm t) {f : Fd} (hk : f.r.kind ≠ 2) : CpM (C ++ [f]) (vers (C ++ [f])) Cs W n₀ bm t := by
  have e : vers (C ++ [f]) = vers C := by rw [vers_snoc, if_neg hk, List.append_nil]
  exact ⟨h.dist, by rw [e]; exact h.has, h.map, fun x hx => ⟨(h.blk x hx).1, (h.blk x hx).2.1, by rw [placesOf_other (isSh_kind hk _)]; exact (h.blk x hx).2.2⟩, h.ap⟩
/-- a new version: its places are nowhere -/
theorem CpM.new {C : List Fd} {Cs : List (Vk × (Nat × Nat))} {W W' : World} {n₀ bm t g : Nat} (h : CpM C (vers C) Cs W n₀ bm t) {v : Vk} (hv : v.1 ∉ vers C) (hn : n₀ ≤ g) (hgb : W.heap.size ≤ g ∨ ∀ e ∈ Cs, e.2.1 ≠ g)
    (hm : MapB W' 58 KV bm (t + 1) (delP (mapV slV Cs) v ++ [(v, slV (g, nSlots v.1))])) (hg : W'.heap[g]? = some (.cells (flatPl (List.replicate (nSlots v.1) nowP)).toArray 34 (0, 0))) (hk : ∀ e ∈ Cs, W'.heap[e.2.1]? = W.heap[e.2.1]?) :
    CpM C (vers C ++ [v.1]) (Cs ++ [(v, (g, nSlots v.1))]) W' n₀ bm (t + 1) := by
  have hno : hasP Cs v = false := by rw [h.has, decide_eq_false hv]
  have hd : delP Cs v = Cs := delP_no hno
  refine ⟨h.dist.snoc hno _, fun u => ?_, ?_, fun e he => ?_, ?_⟩
  · have h1 : hasP (Cs ++ [(v, (g, nSlots v.1))]) u = (hasP Cs u || (v == u)) := by unfold hasP; rw [List.any_append]; simp
    rw [h1, h.has, Bool.eq_iff_iff, Bool.or_eq_true, decide_eq_true_iff, decide_eq_true_iff, List.mem_append, List.mem_singleton, beq_iff_eq]
    constructor
    · rintro (h2 | rfl)
      · exact .inl h2
      · exact .inr rfl
    · rintro (h2 | h2)
      · exact .inl h2
      · exact .inr (Subtype.ext h2.symm)
  · rw [delP_mapV, hd] at hm; rw [mapV_snoc]; exact hm
  · rcases List.mem_append.mp he with he | he
    · exact ⟨(h.blk e he).1, (h.blk e he).2.1, (hk e he).trans (h.blk e he).2.2⟩
    · rw [List.mem_singleton] at he
      subst he
      exact ⟨rfl, hn, by rw [placesOf_new hv]; exact hg⟩
  · rw [List.pairwise_append]
    refine ⟨h.ap, List.pairwise_singleton _ _, fun a ha b hb => ?_⟩
    rw [List.mem_singleton] at hb
    subst hb
    rcases hgb with hgb | hgb
    · have := h.lt ha; simp only; omega
    · exact hgb a ha
/-- its own place is taken, or is taken already -/
theorem CpM.step {C : List Fd} {S : List Vr} {Cs : List (Vk × (Nat × Nat))} {W W' : World} {n₀ bm t g n : Nat} (h : CpM C S Cs W n₀ bm t) {f : Fd} (hv : VrOk f.r.vr) (hgd : goodB f.r = true) (hk2 : f.r.kind = 2) (hm : (⟨f.r.vr, hv⟩, (g, n)) ∈ Cs) (hS : ∀ u, u ∈ S ↔ u ∈ vers (C ++ [f]))
    (hmap : W'.heap[bm]? = W.heap[bm]?) (hg : W'.heap[g]? = some (.cells (flatPl (placesOf (C ++ [f]) f.r.vr)).toArray 34 (0, 0))) (hk : ∀ e ∈ Cs, e.2.1 ≠ g → W'.heap[e.2.1]? = W.heap[e.2.1]?) :
    CpM (C ++ [f]) (vers (C ++ [f])) Cs W' n₀ bm t := by
  refine ⟨h.dist, fun u => by rw [h.has, Bool.eq_iff_iff, decide_eq_true_iff, decide_eq_true_iff]; exact hS _, h.map.keep hmap, fun e he => ⟨(h.blk e he).1, (h.blk e he).2.1, ?_⟩, h.ap⟩
  by_cases e1 : e.1.1 = f.r.vr
  · have e2 : e = (⟨f.r.vr, hv⟩, (g, n)) := by
      have hd := h.dist
      obtain ⟨i, hi, ei⟩ := List.mem_iff_getElem.mp he
      obtain ⟨j, hj, ej⟩ := List.mem_iff_getElem.mp hm
      rw [DistP, List.pairwise_iff_getElem] at hd
      have hkk : e.1 = ⟨f.r.vr, hv⟩ := Subtype.ext e1
      rcases Nat.lt_trichotomy i j with hij | hij | hij
      · exact absurd (by rw [ei, ej]; exact hkk) (hd i j hi hj hij)
      · subst hij; exact ei.symm.trans ej
      · exact absurd (by rw [ei, ej]; exact hkk.symm) (hd j i hj hi hij)
    subst e2
    exact hg
  · rw [placesOf_other (fun i => by rw [isSh_iff hgd hk2, decide_eq_false (Ne.symm e1)]; rfl)]
    refine (hk e he (fun e3 => ?_)).trans (h.blk e he).2.2
    have hd := h.ap
    obtain ⟨i, hi, ei⟩ := List.mem_iff_getElem.mp he
    obtain ⟨j, hj, ej⟩ := List.mem_iff_getElem.mp hm
    rw [List.pairwise_iff_getElem] at hd
    rcases Nat.lt_trichotomy i j with hij | hij | hij
    · exact absurd (by rw [ei, ej]; exact e3) (hd i j hi hj hij)
    · subst hij
      rw [ei] at ej
      rw [ej] at e1
      exact e1 rfl
    · exact absurd (by rw [ei, ej]; exact e3.symm) (hd j i hj hi hij)
end Go.Proofs.Ytiliggleplpjbaa
