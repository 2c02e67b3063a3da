/- model: Keys; what a nil model answers. -/
import Derived.Test.YtipdjchgdhfciaaMdLay
import Derived.Test.YtipdjchgdhfciaaMd1
import Derived.Sort.KeysCollected
namespace Go.Proofs.Ytipdjchgdhfciaa
set_option linter.unusedVariables false
set_option linter.unusedSimpArgs false
open Go Go.RowKit Go.Maps Go.Sort Go.Shelf Go.Proofs
theorem perm_of_sub {l m : List (List UInt8)} (hn : l.Nodup) (hs : ∀ x ∈ l, x ∈ m) (hl : m.length ≤ l.length) : l.Perm m := by
  induction l generalizing m with
  | nil =>
    have : m = [] := List.eq_nil_of_length_eq_zero (by simpa using hl)
    rw [this]
  | cons x l ih =>
    obtain ⟨h1, h2⟩ := List.nodup_cons.mp hn
    have hx := hs x (by simp)
    refine List.Perm.trans (List.Perm.cons x (ih h2 (fun y hy => ?_) ?_)) (List.perm_cons_erase hx).symm
    · have hyx : y ≠ x := fun e => h1 (e ▸ hy)
      exact (List.mem_erase_of_ne hyx).mpr (hs y (by simp [hy]))
    · rw [List.length_erase_of_mem hx]; simp at hl; omega
theorem keys_perm {D : DataW Value} {L : List En} (h : MRel D L) : (L.map Prod.fst).Perm (strKeys D) := by
  obtain ⟨es, rfl, -⟩ := h.tidy
  refine perm_of_sub ?_ (fun k hk => ?_) ?_
  · exact List.pairwise_map.mpr h.dist
  · obtain ⟨e, he, rfl⟩ := List.mem_map.mp hk
    have h1 := h.has e.1
    rw [(hasK_iff L e.1).mpr ⟨e, he, rfl⟩, has_eq, List.any_eq_true] at h1
    obtain ⟨p, hp, hs⟩ := h1
    have hp1 : p.1 = kS e.1 := (WideAt.sameKey_iff (b := kS e.1) trivial).mp hs
    show e.1 ∈ es.map fun p => strOf p.1
    exact List.mem_map.mpr ⟨p, hp, by rw [hp1]; rfl⟩
  · have := h.size
    show (es.map fun p => strOf p.1).length ≤ _
    rw [List.length_map, List.length_map]
    exact Nat.le_of_eq this
/-- all keys, rising -/
def keysL (L : List En) : List (List UInt8) := (L.map Prod.fst).mergeSort leB
theorem keysL_len (L : List En) : (keysL L).length = L.length := by unfold keysL; rw [List.length_mergeSort, List.length_map]
set_option maxHeartbeats 1000000 in
set_option maxRecDepth 10000 in
theorem keys22_any (lo g b n : Nat) (L : List En) (hL : L.length ≤ 1000000) (w : World) (h : Hid (Md w lo g b n L)) :
    Calls Try.prog 14 #[.pointer (some ⟨g, 0, none⟩)] w fun e w' => ∃ v, e = .returned v ∧ w'.ownsRow w.heap.size 9 1 v L.length ((keysL L).map encStr) ∧ GrM w w' := by
  obtain ⟨D, hown, hrel⟩ := h.out.own
  have hsz := hrel.size
  have hmax : Maps.size D ≤ maxLen := by rw [hsz]; simp only [maxLen]; omega
  have hbytes : Maps.size D * 16 ≤ 140737488355328 := by rw [hsz]; omega
  have hperm := Lib.hid (keys_perm hrel)
  have c0 := blk_cell (j := 0) (v := .map (some b)) h.out.blk rfl
  have hK := Lib.hid (fun W => maps_keys (some b) W)
  have hS := Lib.hid (sorted_keys b n D RV w hown hmax hbytes)
  replace hsz := Lib.hid hsz
  replace hrel := Lib.hid hrel
  clear hmax hbytes
  refine (callsIn_wide (n := 6)).1 ?_
  have hfK : Fence.wide.fn 30 := trivial
  have hfS : Fence.wide.fn 29 := trivial
  refine callsIn_of_wp Try.func14 rfl trivial ?_ rfl
  simp only [Try.ntmps14, List.size_toArray, List.length_cons, List.length_nil, Nat.reduceAdd, Nat.reduceSub, Array.replicate_succ, Array.replicate_zero, List.push_toArray, List.append_toArray, List.nil_append, List.cons_append]
  gi_wp2_with (first
    | (gi_at_call 30; refine (hK.out _).mono ?_; rintro e w' ⟨rfl, rfl⟩)
    | (gi_at_call 29; refine hS.out.mono ?_; rintro e w' ⟨v, ss, rfl, hS2, hrow, hnil, hb⟩))
  go_ret
  have e1 : ss.mergeSort (fun x y => decide (x ≤ y)) = keysL L := by
    unfold keysL
    exact mergeSort_of_perm (hS2.trans hperm.out.symm)
  have e2 : ss.length = L.length := by rw [hS2.length_eq, ← hperm.out.length_eq, List.length_map]
  rw [e1, e2] at hrow
  exact ⟨v, rfl, ownsRow_base_a hrow (by simp), ((Below.refl _ w).alloc (Nat.le_refl _) _).trans (hb.mono (by simp))⟩
end Go.Proofs.Ytipdjchgdhfciaa
