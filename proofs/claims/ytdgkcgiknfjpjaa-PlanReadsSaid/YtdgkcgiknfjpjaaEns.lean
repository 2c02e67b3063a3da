/- Blocks of entries of the call's own, made and filled in any order. -/
import Derived.Test.YtdgkcgiknfjpjaaMi1
import Derived.Test.YtdgkcgiknfjpjaaReg4
namespace Go.Proofs.Ytdgkcgiknfjpjaa
set_option linter.unusedVariables false
set_option linter.unusedSimpArgs false
open Go Go.RowKit
theorem bs_appendE (a b : List UInt8) : bs a ++ bs b = bs (a ++ b) := by
  unfold bs
  apply ByteArray.ext
  simp
abbrev zeroEn : Array Value := #[.string { data := #[] }, .int .i64 0, .int .i64 0, .string { data := #[] }, .slice none 0 0]
/-- blocks from wB on that hold entries, no two the same -/
def Ens (wB w : World) (L : List (Nat × Array Value)) : Prop :=
  Gr wB w ∧ (L.map (·.1)).Nodup ∧ ∀ x ∈ L, wB.heap.size ≤ x.1 ∧ x.2.size = 5 ∧ w.heap[x.1]? = some (.cells x.2 55 (0, 0))
theorem Ens.nil_ {wB w : World} (h : Gr wB w) : Ens wB w [] := ⟨h, List.nodup_nil, fun x hx => by cases hx⟩
theorem Ens.gr {wB w w' : World} {L : List (Nat × Array Value)} (h : Ens wB w L) (hg : Gr w w') : Ens wB w' L :=
  ⟨h.1.trans hg, h.2.1, fun x hx => by
    obtain ⟨h1, h2, h3⟩ := h.2.2 x hx
    exact ⟨h1, h2, (hg.block _ (blk_lt h3)).trans h3⟩⟩
theorem Ens.cons {wB w : World} {L : List (Nat × Array Value)} (h : Ens wB w L) {cs : Array Value} (hcs : cs.size = 5) : Ens wB (w.alloc (.cells cs 55)) ((w.heap.size, cs) :: L) := by
  have h' := h.gr (alloc_grB w (.cells cs 55))
  refine ⟨h'.1, ?_, fun x hx => ?_⟩
  · rw [List.map_cons, List.nodup_cons]
    refine ⟨fun hm => ?_, h'.2.1⟩
    obtain ⟨x, hx, e⟩ := List.mem_map.mp hm
    have := blk_lt (h.2.2 x hx).2.2
    omega
  · rcases List.mem_cons.mp hx with rfl | hx
    · exact ⟨h.1.size, hcs, heap_alloc_new w _⟩
    · exact h'.2.2 x hx
theorem setCells_whole {w : World} {g : Nat} {cs : Array Value} {T : TypeId} (h3 : w.heap[g]? = some (.cells cs T (0, 0))) (vs : List Value) (hv : vs.length = cs.size) : (w.setCells g 0 vs).heap[g]? = some (.cells vs.toArray T (0, 0)) := by
  obtain ⟨cs', k1, k2, k3, -⟩ := setCells_heap vs 0 w cs h3 (by omega)
  rw [k1]
  congr 2
  refine Array.ext (by rw [k2, List.size_toArray]; exact hv.symm) fun j j1 j2 => ?_
  have h9 := k3 j (by rw [hv, ← k2]; exact j1)
  rw [Nat.zero_add, Array.getElem?_eq_getElem j1] at h9
  have h10 : vs[j]? = some (vs.toArray[j]) := by
    rw [List.getElem?_eq_getElem (by simpa using j2)]
    simp
  rw [h10] at h9
  injection h9
theorem Ens.set {wB w : World} {L : List (Nat × Array Value)} (h : Ens wB w L) {i g : Nat} {cs : Array Value} (hi : L[i]? = some (g, cs)) (vs : List Value) (hv : vs.length = 5) :
    Ens wB (w.setCells g 0 vs) (L.set i (g, vs.toArray)) := by
  have hm := List.mem_of_getElem? hi
  obtain ⟨h1, h2, h3⟩ := h.2.2 _ hm
  have h2' : cs.size = 5 := h2
  have hil := (List.getElem?_eq_some_iff.mp hi).1
  have hmap : (L.set i (g, vs.toArray)).map (·.1) = L.map (·.1) := by
    rw [List.map_set]
    refine List.ext_getElem? fun j => ?_
    by_cases hj : i = j
    · subst hj
      rw [List.getElem?_set_self (by simpa using hil), List.getElem?_map, hi]; rfl
    · rw [List.getElem?_set_ne hj]
  refine ⟨below_setCells h.1 h1 _ _, by rw [hmap]; exact h.2.1, fun x hx => ?_⟩
  obtain ⟨j, hj⟩ := List.getElem?_of_mem hx
  by_cases e : i = j
  · subst e
    rw [List.getElem?_set_self hil] at hj
    injection hj with hj
    subst hj
    exact ⟨h1, by show vs.toArray.size = 5; rw [List.size_toArray, hv], setCells_whole h3 vs (by rw [hv, h2'])⟩
  · rw [List.getElem?_set_ne e] at hj
    obtain ⟨k1, k2, k3⟩ := h.2.2 x (List.mem_of_getElem? hj)
    refine ⟨k1, k2, ?_⟩
    have hne : x.1 ≠ g := fun e2 => by
      have hjl := (List.getElem?_eq_some_iff.mp hj).1
      have e3 : (L.map (·.1))[i]? = (L.map (·.1))[j]? := by rw [List.getElem?_map, List.getElem?_map, hi, hj]; show some g = some x.1; rw [e2]
      exact e ((List.getElem?_inj (by simpa using hil) h.2.1).mp e3)
    rw [(setCells_other hne _ 0 w).1]
    exact k3
theorem Ens.put {wB w : World} {L : List (Nat × Array Value)} (h : Ens wB w L) {i g : Nat} {cs : Array Value} (hi : L[i]? = some (g, cs)) (j : Nat) (v : Value) :
    Ens wB (w.setCell ⟨g, j, none⟩ v) (L.set i (g, cs.setIfInBounds j v)) := by
  have hm := List.mem_of_getElem? hi
  obtain ⟨h1, h2, h3⟩ := h.2.2 _ hm
  have h2' : cs.size = 5 := h2
  have hil := (List.getElem?_eq_some_iff.mp hi).1
  have hmap : (L.set i (g, cs.setIfInBounds j v)).map (·.1) = L.map (·.1) := by
    rw [List.map_set]
    refine List.ext_getElem? fun k => ?_
    by_cases hk : i = k
    · subst hk
      rw [List.getElem?_set_self (by simpa using hil), List.getElem?_map, hi]; rfl
    · rw [List.getElem?_set_ne hk]
  have hS : w.setCells g j [v] = w.setCell ⟨g, j, none⟩ v := rfl
  refine ⟨by rw [← hS]; exact below_setCells h.1 h1 _ _, by rw [hmap]; exact h.2.1, fun x hx => ?_⟩
  obtain ⟨k, hk⟩ := List.getElem?_of_mem hx
  by_cases e : i = k
  · subst e
    rw [List.getElem?_set_self hil] at hk
    injection hk with hk
    subst hk
    exact ⟨h1, by show (cs.setIfInBounds j v).size = 5; rw [Array.size_setIfInBounds, h2'], blk_set h3 j v⟩
  · rw [List.getElem?_set_ne e] at hk
    obtain ⟨k1, k2, k3⟩ := h.2.2 x (List.mem_of_getElem? hk)
    refine ⟨k1, k2, ?_⟩
    have hne : x.1 ≠ g := fun e2 => by
      have hkl := (List.getElem?_eq_some_iff.mp hk).1
      have e3 : (L.map (·.1))[i]? = (L.map (·.1))[k]? := by rw [List.getElem?_map, List.getElem?_map, hi, hk]; show some g = some x.1; rw [e2]
      exact e ((List.getElem?_inj (by simpa using hil) h.2.1).mp e3)
    rw [← hS, (setCells_other hne [v] j w).1]
    exact k3
/-- the same blocks, told in another order -/
theorem Ens.turn {wB w : World} {L L' : List (Nat × Array Value)} (h : Ens wB w L) (h1 : (L.map (·.1)).Nodup → (L'.map (·.1)).Nodup) (h2 : ∀ x ∈ L', x ∈ L) : Ens wB w L' :=
  ⟨h.1, h1 h.2.1, fun x hx => h.2.2 x (h2 x hx)⟩
theorem Ens.at_ {wB w : World} {L : List (Nat × Array Value)} (h : Ens wB w L) {i g : Nat} {cs : Array Value} (hi : L[i]? = some (g, cs)) : w.heap[g]? = some (.cells cs 55 (0, 0)) := (h.2.2 _ (List.mem_of_getElem? hi)).2.2
theorem upd_setCells {B g : Nat} {w : World} (hg : B ≤ g) (o : Nat) (vs : List Value) : Upd (B ≤ ·) w (w.setCells g o vs) := by
  obtain ⟨-, h2, h3, h4, h5⟩ := setCells_other (b := g) (k := g + 1) (by omega) vs o w
  exact ⟨h3.symm, h4.symm, h5.symm, by omega, fun k hk hn => (setCells_other (fun e => hn (by omega)) vs o w).1⟩
theorem info_en5 : (Try.prog.info? 55).map (·.size) = some 5 := by kernel_rfl
theorem wp_store_en {wB w : World} {L : List (Nat × Array Value)} (h : Ens wB w L) (i : Nat) {g : Nat} {cs : Array Value} (hi : L[i]? = some (g, cs)) {op : Oper} {a : Act} {K : Act → World → Prop} {Q : Exit → Act → World → Prop} (x y : Operand) (ho : op.op = .store 55 x y) (hd : op.dst = none)
    (hx : a.eval x = .pointer (some ⟨g, 0, none⟩)) (v0 v1 v2 v3 v4 : Value) (hy : a.eval y = .agg #[v0, v1, v2, v3, v4]) (h1 : (#[v0, v1, v2, v3, v4] : Array Value).all (·.oneCell') = true)
    (hK : ∀ w', Upd (wB.heap.size ≤ ·) w w' → Ens wB w' (L.set i (g, #[v0, v1, v2, v3, v4])) → K a w') : op.wp Try.prog a w K Q := by
  obtain ⟨k1, k2, k3⟩ := h.2.2 _ (List.mem_of_getElem? hi)
  exact wp_store_mid 55 x y ho g 0 #[v0, v1, v2, v3, v4] hx hy (there_of k3 (by rw [k2]; exact Nat.le_refl _)) info_en5 h1 (by rw [hd]; exact hK _ (upd_setCells k1 0 [v0, v1, v2, v3, v4]) (h.set hi [v0, v1, v2, v3, v4] rfl))
theorem wp_alloc_en {wB w : World} {L : List (Nat × Array Value)} (h : Ens wB w L) {op : Oper} {a : Act} {K : Act → World → Prop} {Q : Exit → Act → World → Prop} (ho : op.op = .alloc 55) (d : Nat) (hd : op.dst = some d)
    (hK : ∀ w' g, Upd (wB.heap.size ≤ ·) w w' → Ens wB w' ((g, zeroEn) :: L) → K (a.put (some d) (.pointer (some ⟨g, 0, none⟩))) w') : op.wp Try.prog a w K Q := by
  have hz := hK _ _ (Upd.of_below (alloc_grB w (.cells zeroEn 55))) (h.cons rfl)
  unfold Oper.wp execOp
  simp only [ho, hd]
  go_simp
  exact hz
end Go.Proofs.Ytdgkcgiknfjpjaa
