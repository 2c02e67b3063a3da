/- cat: SortFunc over notes of one kind; what genNotes gathers, plain. -/
import Derived.Test.YthboeoidgglcgaaCt19
namespace Go.Proofs.Ythboeoidgglcgaa
set_option linter.unusedVariables false
set_option linter.unusedSimpArgs false
open Go Go.RowKit Go.Maps Go.Sort Go.Shelf Go.Proofs
/-- a note that begins a key -/
def n4 (e : By × Int) : Nt := ⟨4, e.1, e.2, 0, [], [], 0, []⟩
def e4 (e : By × Int) : Ne := neN (n4 e)
abbrev Eg := { e : By × Int // 0 ≤ e.2 ∧ e.2 ≤ 1099511627776 }
instance : Inhabited Eg := ⟨⟨([], 0), by decide, by decide⟩⟩
def encG (e : Eg) : List Value := (e4 e.1).cells
theorem encG_len (x : Eg) : (encG x).length = 8 := rfl
theorem encG_one (x : Eg) : ∀ v ∈ encG x, v.oneCell' = true := fun v hv => flatN_one [e4 x.1] v (by unfold flatN; rw [List.flatMap_cons, List.flatMap_nil, List.append_nil]; exact hv)
def cfG (x y : Eg) : Int := x.1.2 - y.1.2
theorem ltG_iff (x y : Eg) : ltOf cfG x y = true ↔ x.1.2 < y.1.2 := by unfold ltOf cfG; simp only [decide_eq_true_eq]; omega
theorem ltG_no (x y : Eg) : ltOf cfG x y = false ↔ y.1.2 ≤ x.1.2 := by
  rw [← Bool.not_eq_true, ltG_iff]; omega
theorem swoG : SWO (ltOf cfG) where
  irrefl x := (ltG_no x x).mpr (Int.le_refl _)
  trans x y z h1 h2 := (ltG_iff x z).mpr (by have := (ltG_iff x y).mp h1; have := (ltG_iff y z).mp h2; omega)
  ntrans x y z h1 h2 := (ltG_no x z).mpr (by have := (ltG_no x y).mp h1; have := (ltG_no y z).mp h2; omega)
theorem flatG (L : List Eg) : (flatK encG 8 L.toArray).toList = flatN (L.map (fun e => e4 e.1)) := by
  apply List.ext_getElem?
  intro j
  by_cases hj : j < L.length * 8
  · obtain ⟨x, hx⟩ : ∃ x, L[j / 8]? = some x := ⟨_, List.getElem?_eq_getElem (by omega)⟩
    have ex : L.toArray[j / 8]! = x := by
      obtain ⟨hi, e⟩ := List.getElem?_eq_some_iff.mp hx
      rw [getElem!_pos L.toArray (j / 8) (by simpa using hi)]
      simpa using e
    have hs : j < (flatK encG 8 L.toArray).size := by rw [size_flatK]; simpa using hj
    have h1 := get_flatK encG 8 L.toArray j (by simpa using hj)
    rw [ex, getElem!_pos _ j hs, getElem!_pos (encG x) (j % 8) (by rw [encG_len]; omega)] at h1
    have h2 := flatN_at (l := L.map (fun e => e4 e.1)) (i := j / 8) (x := e4 x.1) (by rw [List.getElem?_map, hx]; rfl) (j % 8) (by omega)
    rw [show j / 8 * 8 + j % 8 = j from by omega] at h2
    rw [h2, Array.getElem?_toList, Array.getElem?_eq_getElem hs, h1]
    exact (List.getElem?_eq_getElem (by show j % 8 < 8; omega)).symm
  · rw [List.getElem?_eq_none (by rw [Array.length_toList, size_flatK]; simpa using Nat.le_of_not_lt hj), List.getElem?_eq_none (by rw [flatN_len, List.length_map]; omega)]
def GD (w w' : World) : Prop := ∃ q os, w' = grow (w.drewN q) os
theorem closG_any (x y : Eg) (W : World) : Calls Try.prog 47 #[.agg (encG x).toArray, .agg (encG y).toArray] W fun e w' => e = .returned (.int .i64 (cfG x y)) ∧ GD W w' := by
  obtain ⟨⟨xk, xg⟩, hx1, hx2⟩ := x
  obtain ⟨⟨yk, yg⟩, hy1, hy2⟩ := y
  simp only at hx1 hx2 hy1 hy2
  have hsub : IntKind.i64.wrap (xg - yg) = xg - yg := by rw [IntKind.wrap_i64]; omega
  unfold cfG
  simp only [encG, e4, neN, n4, Ne.cells]
  simp only [List.length_nil]
  clear hx1 hx2 hy1 hy2
  obtain ⟨w0, hw0⟩ : ∃ w0, W.alloc (.cells #[.int .i64 4, .string (bs xk), .int .i64 xg, .int .i64 0, .slice none 0 0, .string (bs []), .int .i64 0, .slice none 0 0] 32) = w0 := ⟨_, rfl⟩
  obtain ⟨w1, hw1⟩ : ∃ w1, w0.alloc (.cells #[.int .i64 4, .string (bs yk), .int .i64 yg, .int .i64 0, .slice none 0 0, .string (bs []), .int .i64 0, .slice none 0 0] 32) = w1 := ⟨_, rfl⟩
  have hG : Hid (GD W w1) := Lib.hid ⟨0, #[.cells #[.int .i64 4, .string (bs xk), .int .i64 xg, .int .i64 0, .slice none 0 0, .string (bs []), .int .i64 0, .slice none 0 0] 32 (0, 0), .cells #[.int .i64 4, .string (bs yk), .int .i64 yg, .int .i64 0, .slice none 0 0, .string (bs []), .int .i64 0, .slice none 0 0] 32 (0, 0)], by rw [← hw1, ← hw0, alloc_eq_grow, alloc_eq_grow, grow_grow]; rfl⟩
  have hb0 : w0.heap[W.heap.size]? = some (.cells #[.int .i64 4, .string (bs xk), .int .i64 xg, .int .i64 0, .slice none 0 0, .string (bs []), .int .i64 0, .slice none 0 0] 32 (0, 0)) := by rw [← hw0]; exact heap_alloc_new W _
  have hb1 : w1.heap[w0.heap.size]? = some (.cells #[.int .i64 4, .string (bs yk), .int .i64 yg, .int .i64 0, .slice none 0 0, .string (bs []), .int .i64 0, .slice none 0 0] 32 (0, 0)) := by rw [← hw1]; exact heap_alloc_new w0 _
  have hb01 : w1.heap[W.heap.size]? = some (.cells #[.int .i64 4, .string (bs xk), .int .i64 xg, .int .i64 0, .slice none 0 0, .string (bs []), .int .i64 0, .slice none 0 0] 32 (0, 0)) := by rw [← hw1]; exact blk_alloc hb0 _
  have x2 := blk_cell (j := 2) hb01 rfl
  have y2 := blk_cell (j := 2) hb1 rfl
  have hs0 : w0.heap.size = W.heap.size + 1 := by rw [← hw0]; simp
  rw [hs0] at y2
  replace hb0 := Lib.hid hb0
  replace hb1 := Lib.hid hb1
  replace hb01 := Lib.hid hb01
  go_enter Try.func47, Try.ntmps47
  go_wp2_with fail
  go_ret
  exact ⟨rfl, hG.out⟩
theorem eg_enter : ∀ args w, (callFunc 47 args).run Try.prog w = .ok (.enter 47 args) w := enters_of Try.func47 (by kernel_rfl) rfl
theorem holdsG {w : World} {g : Nat} {cur : Array Value} {T : TypeId} {L : List Eg} (hb : w.heap[g]? = some (.cells cur T (0, 0))) (ht : cur.toList.take (L.length * 8) = flatN (L.map (fun e => e4 e.1))) : HoldsK encG 8 w g 0 L.toArray := by
  intro j hj
  have hj' : j < L.length * 8 := by rw [size_flatK] at hj; simpa using hj
  refine ⟨?_, by simp [World.frozen?, hb]⟩
  have h1 : (cur.toList.take (L.length * 8))[j]? = (flatK encG 8 L.toArray).toList[j]? := by rw [ht, flatG]
  rw [List.getElem?_take_of_lt hj', Array.getElem?_toList, Array.getElem?_toList, Array.getElem?_eq_getElem hj] at h1
  have h2 := blk_cell (j := j) hb h1
  rw [getElem!_pos _ j hj, Nat.zero_add]
  exact h2
theorem rowG {w : World} {base g cap n : Nat} {T : TypeId} {os : Array Obj} {cur : Array Value} {L L' : List Eg} (hl : L'.length = L.length) (hbase : base ≤ g) (hb : w.heap[g]? = some (.cells cur T (0, 0))) (h1 : L.length ≤ cap) (h2 : cap ≤ maxLen) (h3 : cur.size = cap * 8) :
    (sortWorldK encG 8 w g 0 n L'.toArray os).ownsRow base T 8 (.slice (some ⟨g, 0, none⟩) L.length cap) L.length (flatN (L'.map (fun e => e4 e.1))) ∧ w.grownBy (sortWorldK encG 8 w g 0 n L'.toArray os) (some g) := by
  have hg : g < w.heap.size := (Array.getElem?_eq_some_iff.1 hb).1
  have hheap : (sortWorldK encG 8 w g 0 n L'.toArray os).heap[g]? = some (.cells (putCells id 0 (flatK encG 8 L'.toArray) cur) T (0, 0)) := by
    unfold sortWorldK putRowK
    rw [heap_grow_old _ _ (by simpa using hg)]
    simp [putRow, mapBlock, Sort.ahead, Array.getElem?_modify, hb, onCells]
  refine ⟨⟨by rw [flatN_len, List.length_map, hl], .inr ⟨g, cap, _, rfl, hbase, hheap, h1, h2, by simp [putCells, h3], ?_⟩⟩, ?_⟩
  · rw [← flatG]
    apply List.ext_getElem?
    intro j
    by_cases hj : j < L.length * 8
    · have hj2 : j < (flatK encG 8 L'.toArray).size := by rw [size_flatK]; simpa [hl] using hj
      have hj3 : j < cur.size := by rw [h3]; have := Nat.mul_le_mul_right 8 h1; omega
      rw [List.getElem?_take_of_lt hj, Array.getElem?_toList, Array.getElem?_toList]
      have hj4 : j < (Array.size L'.toArray) * 8 := by rw [size_flatK] at hj2; exact hj2
      have hj5 : j < L'.length * 8 := by simpa using hj4
      simp [putCells, hj3, hj2, hj4, hj5]
    · rw [List.getElem?_take_eq_none (by omega), List.getElem?_eq_none (by rw [Array.length_toList, size_flatK]; simp [hl]; omega)]
  · refine ⟨rfl, rfl, rfl, size_sortWorldK_c encG 8 w g 0 n _ os, fun k hk hne => ?_⟩
    unfold sortWorldK putRowK
    rw [heap_grow_old _ _ (by simpa using hk)]
    have : g ≠ k := fun e => hne (by rw [e])
    simp [putRow, mapBlock, Sort.ahead, Array.getElem?_modify, this]
end Go.Proofs.Ythboeoidgglcgaa
