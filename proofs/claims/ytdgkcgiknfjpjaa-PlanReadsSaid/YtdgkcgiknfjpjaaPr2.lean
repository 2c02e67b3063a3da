/- plan: rows of flags and of shards that are filled in place; lists of uint16. -/
import Derived.Test.YtdgkcgiknfjpjaaPr1
import Derived.Test.YtdgkcgiknfjpjaaMi1
namespace Go.Proofs.Ytdgkcgiknfjpjaa
set_option linter.unusedVariables false
set_option linter.unusedSimpArgs false
open Go Go.RowKit
def boolV (fl : List Bool) : Array Value := (fl.map Value.bool).toArray
theorem boolV_get {fl : List Bool} {m s : Nat} (hl : fl.length = m) (hs : s < m) : (boolV fl)[s]? = some (.bool (fl.getD s false)) := by
  unfold boolV
  rw [List.getElem?_toArray, List.getElem?_map, List.getD_eq_getElem?_getD, List.getElem?_eq_getElem (by omega)]
  rfl
theorem boolV_set (fl : List Bool) (s : Nat) (b : Bool) : (boolV fl).setIfInBounds s (.bool b) = boolV (fl.set s b) := by
  unfold boolV
  rw [List.setIfInBounds_toArray, List.map_set]
theorem boolV_read {w : World} {g m : Nat} {fl : List Bool} (hl : fl.length = m) (h : w.heap[g]? = some (.cells (boolV fl) 4 (0, 0))) : Bl w (some ⟨g, 0, none⟩) m fl :=
  ⟨by rw [List.length_map]; omega, fun hn => ⟨_, rfl, blk_lt h, fun j u hu => by
    rw [addr_addP, Nat.zero_add]
    exact blk_cell h (by unfold boolV; rw [List.getElem?_toArray]; exact hu)⟩⟩
def gotV (R : List Value) (D : Nat → Bool) (m : Nat) : Array Value := ((List.range m).map (fun s => if D s = true then R.getD s (.slice none 0 0) else .slice none 0 0)).toArray
theorem gotV_none (R : List Value) (m : Nat) : gotV R (fun _ => false) m = (List.replicate m (.slice none 0 0)).toArray := by
  unfold gotV
  congr 1
  refine List.ext_getElem? fun i => ?_
  rw [List.getElem?_map]
  by_cases hi : i < m
  · rw [List.getElem?_range hi, List.getElem?_replicate, if_pos hi]; rfl
  · rw [List.getElem?_eq_none (by simp; omega), List.getElem?_replicate, if_neg hi]; rfl
theorem gotV_set {R : List Value} {D D' : Nat → Bool} {m s : Nat} {v : Value} (hv : R[s]? = some v) (h1 : D' s = true) (h2 : ∀ x, x ≠ s → D' x = D x) : (gotV R D m).setIfInBounds s v = gotV R D' m := by
  unfold gotV
  rw [List.setIfInBounds_toArray]
  congr 1
  refine List.ext_getElem? fun i => ?_
  by_cases e : s = i
  · subst e
    by_cases hs : s < m
    · rw [List.getElem?_set_self (by simpa using hs), List.getElem?_map, List.getElem?_range hs]
      show some v = some (if D' s = true then R.getD s _ else _)
      rw [if_pos h1, List.getD_eq_getElem?_getD, hv]; rfl
    · rw [List.getElem?_eq_none (by simp; omega), List.getElem?_eq_none (by simp; omega)]
  · rw [List.getElem?_set_ne e, List.getElem?_map, List.getElem?_map]
    by_cases hi : i < m
    · rw [List.getElem?_range hi]
      show some (if D i = true then _ else _) = some (if D' i = true then _ else _)
      rw [h2 i (fun e2 => e e2.symm)]
    · rw [List.getElem?_eq_none (by simp; omega)]; rfl
/-- the table of what was got -/
theorem gotV_tbl {E : List Re} {D : Nat → Bool} {m c g : Nat} {w : World} (hE : E.length = m) (hv : ∀ x ∈ E, ReV x w) (hh : w.heap[g]? = some (.cells (gotV (rowsE E) D m) 22 (0, 0))) (hc : m ≤ c) (hcm : c ≤ maxLen) :
    Tbl ((List.range m).map (fun s => if D s = true then (E.map (·.r.data)).getD s [] else [])) (.slice (some ⟨g, 0, none⟩) m c) w := by
  refine ⟨some ⟨g, 0, none⟩, c, by simp, by simpa using hc, hcm, by simp, fun hn => ⟨g, 0, rfl, blk_lt hh, fun i l hl => ?_⟩⟩
  rw [List.getElem?_map] at hl
  obtain ⟨s, hs, hsl⟩ := Option.map_eq_some_iff.mp hl
  have hi : i < m := by have := (List.getElem?_eq_some_iff.mp hs).1; simpa using this
  rw [List.getElem?_range hi] at hs
  injection hs with hs
  subst hs
  have hcell : ∀ v, (gotV (rowsE E) D m)[i]? = some v → w.cell? ⟨g, 0 + i, none⟩ = some v := fun v hv => by rw [Nat.zero_add]; exact blk_cell hh hv
  have hx := List.getElem?_eq_getElem (show i < E.length by omega)
  obtain ⟨k1, k2, k3⟩ := hv _ (List.mem_of_getElem? hx)
  have hg : (gotV (rowsE E) D m)[i]? = some (if D i = true then (rowsE E).getD i (.slice none 0 0) else .slice none 0 0) := by
    unfold gotV
    rw [List.getElem?_toArray, List.getElem?_map, List.getElem?_range hi]; rfl
  have hr : (rowsE E).getD i (.slice none 0 0) = .slice E[i].A E[i].r.data.length E[i].c := by
    unfold rowsE
    rw [List.getD_eq_getElem?_getD, List.getElem?_map, hx]; rfl
  have hd : (E.map (·.r.data)).getD i [] = E[i].r.data := by
    rw [List.getD_eq_getElem?_getD, List.getElem?_map, hx]; rfl
  rw [hr] at hg
  rw [hd] at hsl
  cases hD : D i with
  | true =>
    rw [hD, if_pos rfl] at hg hsl
    subst hsl
    exact ⟨_, _, hcell _ hg, k1, k2, k3⟩
  | false =>
    rw [hD, if_neg (by decide)] at hg hsl
    subst hsl
    exact ⟨none, 0, hcell _ hg, Nat.le_refl _, Nat.zero_le _, Rd.nil_⟩
theorem info_bool9 : (Try.prog.info? 4).map (fun i => (i.zero, i.size, i.bytes)) = some (some (.bool false), 1, 1) := by kernel_rfl
theorem madeCells_one (v : Value) (m : Nat) : madeCells #[v] (m * 1) = (List.replicate m v).toArray := by
  unfold madeCells
  refine Array.ext (by simp) fun i h1 h2 => ?_
  simp [Nat.mod_one]
theorem bools_make (w : World) (m : Nat) (hm : m ≤ 1000) : (Instr.makeSlice 66 (.int .i64 m) (.int .i64 m)).run Try.prog w = .ok (.slice (some ⟨w.heap.size, 0, none⟩) m m) (w.alloc (.cells (boolV (List.replicate m false)) 4)) := by
  obtain ⟨i0, hi, hz0, hz1, hz2⟩ := info_parts info_bool9
  have h := run_make (P := Try.prog) w 66 4 i0 _ Try.underlying66 hi hz0 .i64 .i64 m m (by omega) (by omega) (by rw [hz2]; omega) (by omega)
  rw [h, hz1]
  rw [show (m : Int).toNat = m from rfl]
  rw [show (Value.bool false).cells = #[.bool false] from rfl, madeCells_one]
  unfold boolV
  rw [List.map_replicate]
theorem slices_make (w : World) (m : Nat) (hm : m ≤ 1000) (R : List Value) : (Instr.makeSlice 27 (.int .i64 m) (.int .i64 m)).run Try.prog w = .ok (.slice (some ⟨w.heap.size, 0, none⟩) m m) (w.alloc (.cells (gotV R (fun _ => false) m) 22)) := by
  obtain ⟨i0, hi, hz0, hz1, hz2⟩ := info_parts info_bb
  have h := run_make (P := Try.prog) w 27 22 i0 _ Try.underlying27 hi hz0 .i64 .i64 m m (by omega) (by omega) (by rw [hz2]; omega) (by omega)
  rw [h, hz1]
  rw [show (m : Int).toNat = m from rfl]
  rw [show (Value.slice none 0 0).cells = #[.slice none 0 0] from rfl, madeCells_one, gotV_none]
theorem gotV_congr {R : List Value} {D D' : Nat → Bool} {m : Nat} (h : ∀ x, D x = D' x) : gotV R D m = gotV R D' m := by rw [show D = D' from funext h]
theorem gotV_some (R : List Value) (D : Nat → Bool) {m s : Nat} (hs : s < m) : ∃ v, (gotV R D m)[s]? = some v := by
  unfold gotV
  rw [List.getElem?_toArray, List.getElem?_map, List.getElem?_range hs]
  exact ⟨_, rfl⟩
theorem boolV_noint {fl : List Bool} {j : Nat} {k : IntKind} {z : Int} : (boolV fl)[j]? ≠ some (.int k z) := by
  unfold boolV
  rw [List.getElem?_toArray, List.getElem?_map]
  intro h
  obtain ⟨b, -, h2⟩ := Option.map_eq_some_iff.mp h
  cases h2
theorem mark_get {fl : List Bool} {m k : Nat} (hl : fl.length = m) (hk : k < m) : markB fl k = fl.getD k false := by
  unfold markB
  rw [decide_eq_true (by omega), Bool.true_and]
theorem Upd.low {S : Nat → Prop} {w0 w w' : World} (h : Upd S w0 w) (hb : Below w0.heap.size w w') : Upd S w0 w' :=
  ⟨h.1.trans hb.os.symm, h.2.1.trans hb.tape.symm, h.2.2.1.trans hb.output.symm, Nat.le_trans h.2.2.2.1 hb.size, fun k hk hn => (hb.block k hk).trans (h.2.2.2.2 k hk hn)⟩
end Go.Proofs.Ytdgkcgiknfjpjaa
