/- Tables of bytes: read, and the call's own. -/
import Derived.Test.YtpeilgeloaogfaaBytes2
import Derived.Test.YtpeilgeloaogfaaRegRd
import Derived.Test.YtpeilgeloaogfaaTyp6
import Derived.Test.YtpeilgeloaogfaaMatMath
namespace Go.Proofs.Ytpeilgeloaogfaa
set_option linter.unusedVariables false
open Go Go.RowKit

/-- a row of m -/
def row (m : Nat) (f : Nat → UInt8) : List UInt8 := (List.range m).map f
theorem row_length (m : Nat) (f : Nat → UInt8) : (row m f).length = m := by unfold row; simp
theorem row_get {m j : Nat} (h : j < m) (f : Nat → UInt8) : (row m f)[j]? = some (f j) := by unfold row; simp [h]
theorem row_getD {m j : Nat} (h : j < m) (f : Nat → UInt8) : (row m f).getD j 0 = f j := by rw [List.getD_eq_getElem?_getD, row_get h]; rfl
theorem row_congr {m : Nat} {f g : Nat → UInt8} (h : ∀ j, j < m → f j = g j) : row m f = row m g := by
  unfold row
  exact List.map_congr_left (fun j hj => h j (List.mem_range.mp hj))
theorem row_eq {m : Nat} {f g : Nat → UInt8} (h : row m f = row m g) : ∀ j, j < m → f j = g j := fun j hj => by
  have h1 := row_get hj f
  rw [h, row_get hj g] at h1
  injection h1 with h1
  exact h1.symm
theorem row_of (l : List UInt8) : row l.length (fun j => l.getD j 0) = l := by
  refine List.ext_getElem? fun j => ?_
  by_cases h : j < l.length
  · rw [row_get h, List.getD_eq_getElem?_getD, List.getElem?_eq_getElem h]; rfl
  · rw [List.getElem?_eq_none (by rw [row_length]; omega), List.getElem?_eq_none (by omega)]
theorem row_set (m k : Nat) (f : Nat → UInt8) (x : UInt8) : (row m f).set k x = row m (fun j => if j = k then x else f j) := by
  refine List.ext_getElem? fun j => ?_
  rw [List.getElem?_set, row_length]
  by_cases hj : j < m
  · rw [row_get hj, row_get hj]
    by_cases e : k = j
    · subst e; simp [hj]
    · rw [if_neg e]; simp [show ¬ j = k from fun h => e h.symm]
  · have n1 : (row m f)[j]? = none := List.getElem?_eq_none (by rw [row_length]; omega)
    have n2 : (row m (fun j => if j = k then x else f j))[j]? = none := List.getElem?_eq_none (by rw [row_length]; omega)
    rw [n1, n2]
    split
    · rw [if_neg (by omega)]
    · rfl
theorem row_zero (m : Nat) : row m (fun _ => 0) = List.replicate m 0 := by
  unfold row
  rw [List.eq_replicate_iff]
  exact ⟨by simp, fun b hb => by obtain ⟨_, _, rfl⟩ := List.mem_map.mp hb; rfl⟩
/-- the entries of a table -/
def ent (L : List (List UInt8)) : Mx := fun i j => (L.getD i []).getD j 0
def tabM (n m : Nat) (M : Mx) : List (List UInt8) := (List.range n).map (fun i => row m (M i))
theorem tabM_length (n m : Nat) (M : Mx) : (tabM n m M).length = n := by unfold tabM; simp
theorem tabM_get {n m i : Nat} (h : i < n) (M : Mx) : (tabM n m M)[i]? = some (row m (M i)) := by unfold tabM; simp [h]
theorem ent_tabM {n m i j : Nat} (hi : i < n) (hj : j < m) (M : Mx) : ent (tabM n m M) i j = M i j := by
  unfold ent
  have e : (tabM n m M).getD i [] = row m (M i) := by rw [List.getD_eq_getElem?_getD, tabM_get hi]; rfl
  rw [e]
  exact row_getD hj _
theorem tabM_congr {n m : Nat} {A B : Mx} (h : EqM n m A B) : tabM n m A = tabM n m B := by
  unfold tabM
  exact List.map_congr_left (fun i hi => row_congr (fun j hj => h i j (List.mem_range.mp hi) hj))
theorem tabM_eq {n m : Nat} {A B : Mx} (h : tabM n m A = tabM n m B) : EqM n m A B := fun i j hi hj => by
  rw [← ent_tabM hi hj A, h, ent_tabM hi hj B]
def width (L : List (List UInt8)) : Nat := (L.headD []).length
def isTab (L : List (List UInt8)) : Bool := decide (1 ≤ L.length) && decide (L.length ≤ 32) && decide (1 ≤ width L) && decide (width L ≤ 32) && L.all (fun r => r.length == width L)
theorem isTab_iff {L : List (List UInt8)} : isTab L = true ↔ (1 ≤ L.length ∧ L.length ≤ 32 ∧ 1 ≤ width L ∧ width L ≤ 32 ∧ ∀ r, r ∈ L → r.length = width L) := by
  unfold isTab
  simp [and_assoc]
theorem tab_of {L : List (List UInt8)} {m : Nat} (h : ∀ r, r ∈ L → r.length = m) : tabM L.length m (ent L) = L := by
  refine List.ext_getElem? fun i => ?_
  by_cases hi : i < L.length
  · rw [tabM_get hi, List.getElem?_eq_getElem hi]
    have hl := h L[i] (List.getElem_mem hi)
    have he : ent L i = fun j => (L[i]).getD j 0 := by
      have e : L.getD i [] = L[i] := by rw [List.getD_eq_getElem?_getD, List.getElem?_eq_getElem hi]; rfl
      funext j; unfold ent; rw [e]
    rw [he, ← hl, row_of]
  · rw [List.getElem?_eq_none (by rw [tabM_length]; omega), List.getElem?_eq_none (by omega)]
theorem isTab_tabM {n m : Nat} (h1 : 1 ≤ n) (h2 : n ≤ 32) (h3 : 1 ≤ m) (h4 : m ≤ 32) (M : Mx) : isTab (tabM n m M) = true ∧ width (tabM n m M) = m := by
  have hw : width (tabM n m M) = m := by
    unfold width
    have : tabM n m M = row m (M 0) :: (tabM n m M).tail := by
      have hg := tabM_get (m := m) (show 0 < n by omega) M
      cases hh : tabM n m M with
      | nil => rw [hh] at hg; simp at hg
      | cons a t => rw [hh] at hg; simp at hg; rw [hg]; rfl
    rw [this]
    exact row_length _ _
  refine ⟨isTab_iff.mpr ⟨by rw [tabM_length]; exact h1, by rw [tabM_length]; exact h2, by rw [hw]; exact h3, by rw [hw]; exact h4, fun r hr => ?_⟩, hw⟩
  unfold tabM at hr
  obtain ⟨i, -, rfl⟩ := List.mem_map.mp hr
  rw [hw, row_length]
/-! ### in memory -/
def rowAt (w : World) (B b o i : Nat) (l : List UInt8) : Prop := ∃ A' c, w.cell? ⟨b, o + i, none⟩ = some (.slice A' l.length c) ∧ l.length ≤ c ∧ c ≤ maxLen ∧ Rd w B A' l
/-- n rows lie behind A, below block B -/
def RT (w : World) (B : Nat) (A : Option Addr) (n : Nat) (L : List (List UInt8)) : Prop :=
  L.length = n ∧ (0 < n → ∃ b o, A = some ⟨b, o, none⟩ ∧ b < B ∧ ∀ i l, L[i]? = some l → rowAt w B b o i l)
section
variable {w w' : World} {B B' n : Nat} {A : Option Addr} {L : List (List UInt8)}
theorem RT.at_ (h : RT w B A n L) {i : Nat} (hi : i < n) : ∃ b o A' c l, A = some ⟨b, o, none⟩ ∧ b < B ∧ L[i]? = some l ∧ w.cell? ⟨b, o + i, none⟩ = some (.slice A' l.length c) ∧ l.length ≤ c ∧ c ≤ maxLen ∧ Rd w B A' l := by
  obtain ⟨b, o, e, hb, hr⟩ := h.2 (by omega)
  have hl : i < L.length := by rw [h.1]; exact hi
  obtain ⟨A', c, h1, h2, h3, h4⟩ := hr i L[i] (List.getElem?_eq_getElem hl)
  exact ⟨b, o, A', c, L[i], e, hb, List.getElem?_eq_getElem hl, h1, h2, h3, h4⟩
theorem RT.keep (h : RT w B A n L) (hk : ∀ p : Addr, p.block < B → w'.cell? p = w.cell? p) : RT w' B A n L := ⟨h.1, fun hn => by
  obtain ⟨b, o, e, hb, hr⟩ := h.2 hn
  refine ⟨b, o, e, hb, fun i l hl => ?_⟩
  obtain ⟨A', c, h1, h2, h3, h4⟩ := hr i l hl
  exact ⟨A', c, (hk _ hb).trans h1, h2, h3, h4.keep hk⟩⟩
theorem RT.more (h : RT w B A n L) (hB : B ≤ B') : RT w B' A n L := ⟨h.1, fun hn => by
  obtain ⟨b, o, e, hb, hr⟩ := h.2 hn
  refine ⟨b, o, e, by omega, fun i l hl => ?_⟩
  obtain ⟨A', c, h1, h2, h3, h4⟩ := hr i l hl
  exact ⟨A', c, h1, h2, h3, h4.more hB⟩⟩
theorem RT.up (h : RT w w.heap.size A n L) (hb : Below w.heap.size w w') : RT w' w'.heap.size A n L := (h.keep fun p hp => hb.cell hp).more hb.size
theorem RT.low (h : RT w B A n L) (hb : Below B w w') : RT w' B A n L := h.keep fun p hp => hb.cell hp
theorem RT.drewN (h : RT w B A n L) (k : Nat) : RT (w.drewN k) B A n L := h
end
/-- block g, the call's own, holds the slices of n rows of m, blocks G of the call's own -/
structure TB (w : World) (base g n m : Nat) (G C : Nat → Nat) (M : Mx) : Prop where
  spine : ∃ cs : Array Value, w.heap[g]? = some (.cells cs 29 (0, 0)) ∧ n ≤ cs.size ∧ ∀ i, i < n → cs[i]? = some (.slice (some ⟨G i, 0, none⟩) m (C i))
  low : base ≤ g
  own : ∀ i, i < n → OB w base (.slice (some ⟨G i, 0, none⟩) m (C i)) (row m (M i))
  apart : ∀ i j, i < n → j < n → i ≠ j → G i ≠ G j
  wide : 1 ≤ m
section
variable {w w' : World} {base g n m : Nat} {G C : Nat → Nat} {M : Mx}
theorem ob_blk {w : World} {base g c m : Nat} {l : List UInt8} (h : OB w base (.slice (some ⟨g, 0, none⟩) m c) l) (hl : 1 ≤ l.length) : ∃ cs, w.heap[g]? = some (.cells cs 5 (0, 0)) := by
  rcases h.2 with ⟨hv, -⟩ | ⟨g', cap, cur, hv, hb, hg, -⟩
  · injection hv with hv; cases hv
  · injection hv with hv _ _
    injection hv with hv
    injection hv with hv
    exact ⟨cur, hv ▸ hg⟩
theorem TB.cell (h : TB w base g n m G C M) {i : Nat} (hi : i < n) : w.cell? ⟨g, i, none⟩ = some (.slice (some ⟨G i, 0, none⟩) m (C i)) := by
  obtain ⟨cs, h1, -, h3⟩ := h.spine
  exact blk_cell h1 (h3 i hi)
theorem TB.free (h : TB w base g n m G C M) (i : Nat) : w.frozen? ⟨g, i, none⟩ = false := by
  obtain ⟨cs, h1, -, -⟩ := h.spine
  exact blk_free h1 i
theorem TB.lt (h : TB w base g n m G C M) : g < w.heap.size := by
  obtain ⟨cs, h1, -, -⟩ := h.spine
  exact blk_lt h1
theorem TB.glt (h : TB w base g n m G C M) {i : Nat} (hi : i < n) : base ≤ G i ∧ G i < w.heap.size := (h.own i hi).lt (G i) rfl
theorem TB.gne (h : TB w base g n m G C M) {i : Nat} (hi : i < n) : G i ≠ g := fun e => by
  obtain ⟨cs, h1, -, -⟩ := h.spine
  obtain ⟨cs', h2⟩ := ob_blk (h.own i hi) (by rw [row_length]; exact h.wide)
  rw [e, h1] at h2
  injection h2 with h2
  injection h2 with _ h2 _
  revert h2
  decide
theorem TB.rd (h : TB w base g n m G C M) {i : Nat} (hi : i < n) : Rd w w.heap.size (some ⟨G i, 0, none⟩) (row m (M i)) ∧ m ≤ C i ∧ C i ≤ maxLen := by
  obtain ⟨A, c, e, h1, h2, h3, -⟩ := (h.own i hi).form
  injection e with e1 e2 e3
  rw [row_length] at h1
  subst e1
  exact ⟨h3, by omega, by omega⟩
/-- rows may be named otherwise, and the matrix be told otherwise -/
theorem TB.congr (h : TB w base g n m G C M) {M' : Mx} (he : EqM n m M' M) : TB w base g n m G C M' :=
  ⟨h.spine, h.low, fun i hi => by rw [row_congr (fun j hj => he i j hi hj)]; exact h.own i hi, h.apart, h.wide⟩
theorem TB.keep (h : TB w base g n m G C M) (hg : w'.heap[g]? = w.heap[g]?) (hG : ∀ i, i < n → w'.heap[G i]? = w.heap[G i]?) : TB w' base g n m G C M := by
  refine ⟨by rw [hg]; exact h.spine, h.low, fun i hi => ?_, h.apart, h.wide⟩
  exact row_keep (h.own i hi) (fun k hk => by injection hk with hk; subst hk; exact hG i hi)
theorem TB.below (h : TB w base g n m G C M) (hb : Below w.heap.size w w') : TB w' base g n m G C M :=
  h.keep (hb.block g h.lt) (fun i hi => hb.block _ (h.glt hi).2)
theorem TB.upd {S : Nat → Prop} (h : TB w base g n m G C M) (hu : Upd S w w') (hg : ¬ S g) (hG : ∀ i, i < n → ¬ S (G i)) : TB w' base g n m G C M :=
  h.keep (hu.2.2.2.2 g h.lt hg) (fun i hi => hu.2.2.2.2 _ (h.glt hi).2 (hG i hi))
theorem TB.more {base' : Nat} (h : TB w base g n m G C M) (hb : base' ≤ base) : TB w base' g n m G C M :=
  ⟨h.spine, Nat.le_trans hb h.low, fun i hi => (h.own i hi).more hb, h.apart, h.wide⟩
/-- row i has changed, and nothing else -/
theorem TB.put (h : TB w base g n m G C M) {i : Nat} (hi : i < n) {f : Nat → UInt8} (ho : OB w' base (.slice (some ⟨G i, 0, none⟩) m (C i)) (row m f)) (hu : Upd (fun k => k = G i) w w') :
    TB w' base g n m G C (fun r => if r = i then f else M r) := by
  refine ⟨by rw [hu.2.2.2.2 g h.lt (fun e => h.gne hi e.symm)]; exact h.spine, h.low, fun r hr => ?_, h.apart, h.wide⟩
  by_cases e : r = i
  · subst e; simp only [eq_self, if_true]; exact ho
  · simp only [if_neg e]
    exact row_keep (h.own r hr) (fun k hk => by injection hk with hk; subst hk; exact hu.2.2.2.2 _ (h.glt hr).2 (h.apart r i hr hi e))
theorem TB.rt (h : TB w base g n m G C M) : RT w w.heap.size (some ⟨g, 0, none⟩) n (tabM n m M) := by
  refine ⟨tabM_length _ _ _, fun hn => ⟨g, 0, rfl, h.lt, fun i l hl => ?_⟩⟩
  have hi : i < n := by have := (List.getElem?_eq_some_iff.mp hl).1; rwa [tabM_length] at this
  rw [tabM_get hi] at hl
  injection hl with hl
  subst hl
  obtain ⟨h1, h2, h3⟩ := h.rd hi
  refine ⟨_, _, ?_, by rw [row_length]; exact h2, h3, h1⟩
  rw [row_length, Nat.zero_add]
  exact h.cell hi
end
/-- block g is a row of N slices -/
def Sp (w : World) (g N : Nat) : Prop := ∃ cs : Array Value, w.heap[g]? = some (.cells cs 29 (0, 0)) ∧ cs.size = N
section
variable {w w' : World} {base g N n m : Nat} {G C : Nat → Nat} {M : Mx}
theorem Sp.cell (h : Sp w g N) {i : Nat} (hi : i < N) : ∃ v, w.cell? ⟨g, i, none⟩ = some v := by
  obtain ⟨cs, h1, h2⟩ := h
  exact ⟨cs[i]'(by omega), blk_cell h1 (Array.getElem?_eq_getElem (by omega))⟩
theorem Sp.free (h : Sp w g N) (i : Nat) : w.frozen? ⟨g, i, none⟩ = false := by
  obtain ⟨cs, h1, h2⟩ := h
  exact blk_free h1 i
theorem Sp.lt (h : Sp w g N) : g < w.heap.size := by
  obtain ⟨cs, h1, h2⟩ := h
  exact blk_lt h1
theorem Sp.keep (h : Sp w g N) (hg : w'.heap[g]? = w.heap[g]?) : Sp w' g N := by
  obtain ⟨cs, h1, h2⟩ := h
  exact ⟨cs, hg.trans h1, h2⟩
theorem Sp.below (h : Sp w g N) (hb : Below w.heap.size w w') : Sp w' g N := h.keep (hb.block g h.lt)
theorem Sp.set (h : Sp w g N) (i : Nat) (u : Value) : Sp (w.setCell ⟨g, i, none⟩ u) g N := by
  obtain ⟨cs, h1, h2⟩ := h
  exact ⟨_, blk_set h1 i u, by simpa using h2⟩
theorem Sp.ne {b c m : Nat} {l : List UInt8} (h : Sp w g N) (ho : OB w b (.slice (some ⟨m, 0, none⟩) l.length c) l) (hl : 1 ≤ l.length) : m ≠ g := fun e => by
  obtain ⟨cs, h1, -⟩ := h
  obtain ⟨cs', h2⟩ := ob_blk ho hl
  rw [e, h1] at h2
  injection h2 with h2
  injection h2 with _ h2 _
  revert h2
  decide
theorem TB.empty (w : World) {base g N : Nat} (h : Sp w g N) (hb : base ≤ g) (m : Nat) (hm : 1 ≤ m) (G C : Nat → Nat) (M : Mx) : TB w base g 0 m G C M := by
  obtain ⟨cs, h1, -⟩ := h
  exact ⟨⟨cs, h1, Nat.zero_le _, fun i h => by omega⟩, hb, fun i h => by omega, fun i j h => by omega, hm⟩
/-- a row is laid at the end -/
theorem TB.grow (h : TB w base g n m G C M) (hs : Sp w g N) (hn : n < N) {G' C' : Nat} {f : Nat → UInt8} (ho : OB w base (.slice (some ⟨G', 0, none⟩) m C') (row m f)) (hne : ∀ i, i < n → G i ≠ G') :
    TB (w.setCell ⟨g, n, none⟩ (.slice (some ⟨G', 0, none⟩) m C')) base g (n + 1) m (fun i => if i = n then G' else G i) (fun i => if i = n then C' else C i) (fun i => if i = n then f else M i) := by
  obtain ⟨cs, h1, h2⟩ := hs
  obtain ⟨cs', h1', h3, h4⟩ := h.spine
  rw [h1] at h1'
  injection h1' with h1'
  injection h1' with h1' _ _
  subst h1'
  have hG' : G' ≠ g := by
    refine Sp.ne (N := N) (l := row m f) (c := C') (b := base) ⟨cs, h1, h2⟩ ?_ (by rw [row_length]; exact h.wide)
    rw [row_length]; exact ho
  have hkeep : ∀ k, k ≠ g → (w.setCell ⟨g, n, none⟩ (.slice (some ⟨G', 0, none⟩) m C')).heap[k]? = w.heap[k]? := fun k hk => blk_other hk n _
  refine ⟨⟨_, blk_set h1 n _, by simp; omega, fun i hi => ?_⟩, h.low, fun i hi => ?_, fun i j hi hj hne' => ?_, h.wide⟩
  · by_cases e : i = n
    · subst e; simp [show i < cs.size by omega]
    · simp only [if_neg e]
      rw [Array.getElem?_setIfInBounds_ne (by omega)]
      exact h4 i (by omega)
  · by_cases e : i = n
    · subst e
      simp only [eq_self, if_true]
      exact row_keep ho (fun k hk => by injection hk with hk; subst hk; exact hkeep _ hG')
    · simp only [if_neg e]
      exact row_keep (h.own i (by omega)) (fun k hk => by injection hk with hk; subst hk; exact hkeep _ (h.gne (by omega)))
  · by_cases e1 : i = n
    · by_cases e2 : j = n
      · omega
      · simp only [if_pos e1, if_neg e2]; exact (hne j (by omega)).symm
    · by_cases e2 : j = n
      · simp only [if_neg e1, if_pos e2]; exact hne i (by omega)
      · simp only [if_neg e1, if_neg e2]; exact h.apart i j (by omega) (by omega) hne'
end
theorem info_b8 : (Try.prog.info? 29).map (fun i => (i.zero, i.size, i.bytes)) = some (some (.slice none 0 0), 1, 24) := by kernel_rfl
theorem wpl_makeT {w : World} {ops : Array Oper} {rest : List Oper} {o : Oper} {a : Act} {Q : Exit → Act → World → Prop} (hgd : o.guard = none) (x y : Operand)
    (ho : o.op = .makeSlice 22 x y) (n : Nat) (hx : a.eval x = .int .i64 n) (hy : a.eval y = .int .i64 n) (hn : n ≤ 1000000)
    (h : ∀ w', Sp w' w.heap.size n → Below w.heap.size w w' → wpList Try.prog ops Q rest (a.put o.dst (.slice (some ⟨w.heap.size, 0, none⟩) n n)) w') : wpList Try.prog ops Q (o :: rest) a w := by
  obtain ⟨i0, hi, hz0, hz1, hz2⟩ := info_parts info_b8
  refine wpList_make_full w hgd x y 22 ho w.heap.size 29 i0 _ 1 Try.underlying22 hi hz0 hz1 .i64 .i64 n n n hx hy rfl rfl (by rw [hz2]; omega) (by simp only [maxLen]; omega) (Nat.le_refl _) fun w' h1 h2 => ?_
  refine h w' ?_ ((Below.refl _ _).grown h2 (Nat.le_refl _) (fun _ hk => by cases hk))
  rcases h1.2 with ⟨hv, -⟩ | ⟨g, cap, cur, hv, hb, hh, hnc, hcm, hcs, ht⟩
  · injection hv with hv; cases hv
  · injection hv with hv1 hv2 hv3
    injection hv1 with hv1
    injection hv1 with hv1
    exact ⟨cur, hv1 ▸ hh, by rw [hcs, Nat.mul_one, ← hv3]⟩
end Go.Proofs.Ytpeilgeloaogfaa
