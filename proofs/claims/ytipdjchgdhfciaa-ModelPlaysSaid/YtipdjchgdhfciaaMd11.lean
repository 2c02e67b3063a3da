/- model: what ModelText leans on. -/
import Derived.Test.YtipdjchgdhfciaaMd10
namespace Go.Proofs.Ytipdjchgdhfciaa
set_option linter.unusedVariables false
set_option linter.unusedSimpArgs false
open Go Go.RowKit Go.Maps Go.Sort
theorem run_tobytes (w : World) (m : List UInt8) : ∃ c w', (convert 9 29 (.string (bs m))).run Try.prog w = .ok (.slice (some ⟨w.heap.size, 0, none⟩) m.length c) w' ∧ m.length ≤ c ∧
    Rd w' w'.heap.size (some ⟨w.heap.size, 0, none⟩) m ∧ GrM w w' := by
  have h := run_bytes_of_string (P := Try.prog) w 9 29 5 (bs m) Try.underlying9 Try.underlying29 Try.underlying5
  have hsz : (bs m).size = m.length := rfl
  rw [hsz] at h
  refine ⟨_, _, h, grownCap_ge _ _ _ _, ⟨by simp, fun _ => ⟨_, rfl, by simp, fun j u hu => ?_⟩⟩, (Below.refl w.heap.size w).drew.alloc (Nat.le_refl _) _⟩
  have hj : j < m.length := by
    have := (List.getElem?_eq_some_iff.mp hu).1
    simpa using this
  rw [List.getElem?_map, List.getElem?_eq_getElem hj] at hu
  injection hu with hu
  have hadd : (⟨w.heap.size, 0, none⟩ : Addr).add j = ⟨w.heap.size, j, none⟩ := by unfold Addr.add; split <;> simp_all
  have hblk : ∀ o : Obj, (w.drew.alloc o).heap[w.heap.size]? = some o := fun o => heap_alloc_new w.drew o
  rw [hadd, cell_of_row _ _ j _ _ _ (hblk _), bytesRow_at (bs m) _ j (by simpa [bs] using hj), ← hu]
  simp [bs, vb, U]
def pairsOf (L : List En) : List (List UInt8 × List UInt8) := L.map (fun e => (e.1, e.2.2))
theorem keysL_nodup {L : List En} (h : Dist L) : (keysL L).Nodup := by
  unfold keysL
  exact (List.mergeSort_perm _ _).nodup_iff.mpr (List.pairwise_map.mpr h)
theorem pairsL_fst (L : List En) : (pairsL L).map Prod.fst = keysL L := by
  unfold pairsL; rw [List.map_map]; simp [Function.comp_def]
theorem pairsL_len (L : List En) : (pairsL L).length = L.length := by unfold pairsL; rw [List.length_map, keysL_len]
theorem pairsL_at {L : List En} {i : Nat} {p : List UInt8 × List UInt8} (h : (pairsL L)[i]? = some p) : (keysL L)[i]? = some p.1 ∧ p.2 = dataOf L p.1 := by
  unfold pairsL at h
  rw [List.getElem?_map, Option.map_eq_some_iff] at h
  obtain ⟨k, hk, rfl⟩ := h
  exact ⟨hk, rfl⟩
theorem again_new {L1 L3 : List En} (h1 : Dist L1) {i : Nat} (h3 : pairsOf L3 = (pairsL L1).take i) {p : List UInt8 × List UInt8} (hp : (pairsL L1)[i]? = some p) : hasK L3 p.1 = false := by
  rw [← Bool.not_eq_true, hasK_iff]
  rintro ⟨e, he, ee⟩
  have hm : (e.1, e.2.2) ∈ (pairsL L1).take i := by rw [← h3]; exact List.mem_map.mpr ⟨e, he, rfl⟩
  obtain ⟨j, hj⟩ := List.getElem?_of_mem hm
  rw [List.getElem?_take] at hj
  split at hj
  · rename_i hji
    have k1 := (pairsL_at hj).1
    have k2 := (pairsL_at hp).1
    obtain ⟨a1, e1⟩ := List.getElem?_eq_some_iff.mp k1
    obtain ⟨a2, e2⟩ := List.getElem?_eq_some_iff.mp k2
    have := List.pairwise_iff_getElem.mp (keysL_nodup h1) j i a1 a2 hji
    rw [e1, e2] at this
    exact this ee
  · cases hj
theorem again_text {L1 L3 : List En} (h3 : Dist L3) (hp : pairsOf L3 = pairsL L1) : textL L3 = textL L1 := by
  have hf : L3.map Prod.fst = keysL L1 := by
    rw [← pairsL_fst, ← hp]; unfold pairsOf; rw [List.map_map]; rfl
  have hk : keysL L3 = keysL L1 := by
    show (L3.map Prod.fst).mergeSort leB = (L1.map Prod.fst).mergeSort leB
    refine mergeSort_of_perm ?_
    rw [hf]; exact List.mergeSort_perm _ _
  rw [textL_flat, textL_flat]
  congr 1
  unfold pairsL
  rw [hk]
  refine List.map_congr_left fun k hkk => ?_
  have : k ∈ L3.map Prod.fst := by rw [hf]; exact hkk
  obtain ⟨e, he, rfl⟩ := List.mem_map.mp this
  have hm : (e.1, e.2.2) ∈ pairsL L1 := by rw [← hp]; exact List.mem_map.mpr ⟨e, he, rfl⟩
  obtain ⟨j, hj⟩ := List.getElem?_of_mem hm
  rw [dataOf_at h3 he, ← (pairsL_at hj).2]
theorem get22_gr (lo g b n : Nat) (L : List En) (k : List UInt8) (hk : k.length ≤ maxLen) (w : World) (h : Hid (Md w lo g b n L)) :
    Calls Try.prog 18 #[.pointer (some ⟨g, 0, none⟩), .string (bs k)] w fun e w' => ∃ A c, e = .returned (.tuple #[.slice A (dataOf L k).length c, .bool (hasK L k)]) ∧ Rd w' w'.heap.size A (dataOf L k) ∧ GrM w w' := by
  cases hh : hasK L k with
  | false =>
    refine (get22_no lo g b n L k hk w h hh).mono ?_
    rintro e w' ⟨rfl, rfl⟩
    rw [dataOf_no hh]
    exact ⟨none, 0, rfl, Rd.nil_, GrM.refl _⟩
  | true =>
    refine (get22_yes lo g b n L k hk w h hh).mono ?_
    rintro e w' ⟨v, rfl, hv, hg⟩
    obtain ⟨A, c, rfl, -, -, hr, -⟩ := hv.out.form
    exact ⟨A, c, rfl, hr, hg⟩
theorem Md.row_grown {w w' : World} {lo g b n x : Nat} {L : List En} (h : Hid (Md w lo g b n L)) (hg : w.grownBy w' (some x)) (hx : x < lo) : Hid (Md w' lo g b n L) :=
  Lib.hid (h.out.upd (S := (· = x)) (Upd.of_grown hg rfl) (fun e => by have := h.out.gl; omega) (fun e => by have := h.out.bl; omega) (fun e he k hk ek => by have := ((h.out.rows e he).lt k hk).1; omega))
theorem Rdr.gr {w w' : World} {g : Nat} {st : RS} (h : Hid (Rdr w g st)) (hg : GrM w w') : Hid (Rdr w' g st) := Lib.hid (h.out.below hg h.out.lt)
theorem Rdr.upd {w w' : World} {g b : Nat} {st : RS} (h : Hid (Rdr w g st)) (hu : Upd (· = b) w w') (hb : g < b) : Hid (Rdr w' g st) :=
  Lib.hid (h.out.keep fun k hk => hu.2.2.2.2 k (by have := h.out.lt; omega) (by omega))
theorem all_take {α : Type} {l : List α} {j : Nat} {x : α} (f : α → Bool) (hx : l[j]? = some x) : (l.take (j + 1)).all f = ((l.take j).all f && f x) := by
  rw [List.take_add_one, hx, List.all_append]; simp
end Go.Proofs.Ytipdjchgdhfciaa
