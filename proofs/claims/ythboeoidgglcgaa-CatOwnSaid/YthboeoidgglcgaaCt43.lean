/- cat: rows of places that may be turned; a catalog apart from what is turned. -/
import Derived.Test.YthboeoidgglcgaaCtW
import Derived.Test.YthboeoidgglcgaaCtZ
import Derived.Test.YthboeoidgglcgaaCtV
namespace Go.Proofs.Ythboeoidgglcgaa
set_option linter.unusedVariables false
set_option linter.unusedSimpArgs false
set_option linter.unusedSectionVars false
open Go Go.RowKit Go.Maps Go.Sort Go.Shelf Go.Proofs
/-- a row of n places of the call's own, whatever they are -/
def PRow (n : Nat) (v : Value) (base : Nat) (w : World) : Prop := ∃ xs, w.ownsRow base 54 2 v n xs ∧ xs.length = n * 2
theorem OP.prow {l : List (Int × Int)} {v : Value} {base : Nat} {w : World} (h : OP l v base w) : PRow l.length v base w := ⟨_, h.1, flatPl_len l⟩
theorem PRow.block {n base : Nat} {v : Value} {w : World} (h : PRow n v base w) (hn : 0 < n) : ∃ g c, v = .slice (some ⟨g, 0, none⟩) n c ∧ base ≤ g ∧ g < w.heap.size ∧ ∃ cs, w.heap[g]? = some (.cells cs 54 (0, 0)) := by
  obtain ⟨xs, h1, h2⟩ := h
  obtain ⟨g, c, e, -, -, hb, hg, hcs, -⟩ := row_at h1 hn
  exact ⟨g, c, e, hb, hg, hcs⟩
theorem PRow.store {n base g c : Nat} {w : World} (h : PRow n (.slice (some ⟨g, 0, none⟩) n c) base w) {k : Nat} (hk : k < n) :
    (∃ u, w.cell? ⟨g, k * 2 + 1, none⟩ = some u) ∧ w.frozen? ⟨g, k * 2 + 1, none⟩ = false ∧ ∀ u, PRow n (.slice (some ⟨g, 0, none⟩) n c) base (w.setCell ⟨g, k * 2 + 1, none⟩ u) := by
  obtain ⟨xs, h1, h2⟩ := h
  obtain ⟨g', c', e, -, -, hb, hg, -, hf, hc, hs⟩ := row_at h1 (by omega)
  injection e with e _ _
  injection e with e
  injection e with e _ _
  subst e
  obtain ⟨u, hu⟩ : ∃ u, xs[k * 2 + 1]? = some u := ⟨_, List.getElem?_eq_getElem (by omega)⟩
  exact ⟨⟨u, hc _ _ hu⟩, hf _, fun u => ⟨_, hs _ u, by rw [List.length_set]; exact h2⟩⟩
theorem PRow.other {n base g c k j : Nat} {w : World} {u : Value} (h : PRow n (.slice (some ⟨g, 0, none⟩) n c) base w) (hk : g ≠ k) : PRow n (.slice (some ⟨g, 0, none⟩) n c) base (w.setCell ⟨k, j, none⟩ u) := by
  obtain ⟨xs, h1, h2⟩ := h
  exact ⟨xs, row_set_other h1 k j u (fun e => hk (by injection e)), h2⟩
theorem PRow.gr {n base : Nat} {v : Value} {w w' : World} (h : PRow n v base w) (hg : Gr w w') : PRow n v base w' := by
  obtain ⟨xs, h1, h2⟩ := h
  exact ⟨xs, row_below h1 hg, h2⟩
theorem KeepR.refl (lo N : Nat) (w : World) : KeepR lo N w w := ⟨Nat.le_refl _, fun _ _ _ => rfl⟩
theorem KeepR.trans {lo N : Nat} {a b c : World} (h1 : KeepR lo N a b) (h2 : KeepR lo N b c) : KeepR lo N a c := ⟨Nat.le_trans h1.1 h2.1, fun k h3 h4 => (h2.2 k h3 h4).trans (h1.2 k h3 h4)⟩
theorem KeepR.set {lo N g j : Nat} {a w : World} {u : Value} (h : KeepR lo N a w) (hg : g < lo ∨ N ≤ g) : KeepR lo N a (w.setCell ⟨g, j, none⟩ u) :=
  h.trans ⟨by simp, fun k h1 h2 => Below.heap_setCell w ⟨g, j, none⟩ u k (by show k ≠ g; omega)⟩
theorem Ca.keepR {w w' : World} {lo g t : Nat} {x : CtX} {c : CtP} (h : Ca w lo g x c t) (hk : KeepR lo w.heap.size w w') : Ca w' lo g x c t :=
  h.keep (fun k h1 => hk.2 k (h.lt k h1).2 (h.lt k h1).1) (fun e he k h1 => hk.2 k ((h.wd e he).lt k h1).1 ((h.wd e he).lt k h1).2) (fun e he k h1 => hk.2 k ((h.ep e he).1.lt k h1).1 ((h.ep e he).1.lt k h1).2)
theorem apply_far (lo g t : Nat) (x : CtX) (c : CtP) (w w0 : World) (h : Hid (Ca w lo g x c t)) (ht : t ≤ 900) (hlo : lo ≤ w.heap.size) (n : Nt) (A : Option Addr) (cc : Nat) (A2 : Option Addr) (c2 : Nat) (hk : n.key.length ≤ maxLen) (hI : I64 n.cart)
    (hv : NtV n (n.agg A cc A2 c2) w) (hpl : Pls n.places (.slice A2 n.places.length c2) w0) (h0 : w0.heap.size ≤ lo) {z : Int} {c' : CtP} (hr : c.apply n = (z, c')) :
    Calls Try.prog 12 #[.pointer (some ⟨g, 0, none⟩), n.agg A cc A2 c2] w fun e w' => e = .returned (.int .i64 z) ∧ ∃ x', Hid (Ca w' lo g x' c' (t + 1)) ∧ Below lo w w' := by
  refine (apply_any lo g t x c w h ht hlo n _ hk hv hI (FarP.of_low hpl (fun k hk => Nat.le_trans h0 (h.out.lt k hk).2))).mono ?_
  intro e w' hpo
  have := hpo.low h.out hlo
  rw [hr] at this
  exact this
def kB : By := [98]
def cO1 (dl : By) : CtP := ⟨[(kA, dl)], [], [], [], [], 0⟩
def cO2 (dl : By) : CtP := ⟨[(kA, dl)], [], [], [], [], 5⟩
def eO (z : Int) (pl : List (Int × Int)) : EnP := ⟨kB, 2, z, [], pl⟩
def cO3 (dl : By) (z : Int) (pl : List (Int × Int)) : CtP := ⟨[(kA, dl)], [(kB, eO z pl)], [], [], [], 5⟩
def nO1 (dl : By) : Nt := ⟨1, kA, 0, 0, dl, [], 0, []⟩
def nO2 : Nt := ⟨4, [], 5, 0, [], [], 0, []⟩
def nO3 (z : Int) (pl : List (Int × Int)) : Nt := ⟨2, kB, 2, 0, [], [], z, pl⟩
theorem r_o1 {dl : By} (h : dl.length ≤ 512) : CtP.none_.apply (nO1 dl) = (0, cO1 dl) := by
  show CtP.put _ _ = _
  unfold CtP.put nO1
  simp only
  rw [if_neg (by rw [show keyOk kA = true from by decide]; simp; exact h), if_neg (by decide)]
  rfl
theorem r_o2 (dl : By) : (cO1 dl).apply nO2 = (0, cO2 dl) := by
  show CtP.begin_ (cO1 dl) nO2 = _
  unfold CtP.begin_ nO2
  simp only
  rw [if_neg (by unfold CtP.later cO1; simp), if_neg (by simp)]
  rfl
theorem r_o3 (dl : By) {z : Int} {pl : List (Int × Int)} (hz : grp z ≠ 0) (hp : pl.length = 10 * grp z) : (cO2 dl).apply (nO3 z pl) = (0, cO3 dl z pl) := by
  have hnm : CtP.named (cO2 dl) kB 2 = true := (named_iff _ _ _).mpr ⟨by decide, by decide, by show (2 : Int) ≤ 5; decide⟩
  show CtP.placed (cO2 dl) (nO3 z pl) = _
  unfold CtP.placed nO3
  simp only
  rw [if_neg (by
    rintro (h | h | h)
    · rw [hnm] at h; cases h
    · exact hz h
    · exact h hp)]
  rfl
theorem notes_o3 (dl : By) (z : Int) (pl : List (Int × Int)) : notesP (cO3 dl z pl) = [nO1 dl, nO2, nO3 z pl] := by
  unfold notesP genP
  have e1 : begP (cO3 dl z pl) = [] := rfl
  rw [e1, if_pos (by show lastG [] < (5 : Int); decide), show sortZ (cO3 dl z pl).R = [] from by unfold sortZ cO3; rw [List.mergeSort_nil]]
  rfl
theorem ne1_at {l : List EnP} {E : List Et} {q : EnP} (h : E.map (·.e) = l) (hl : l = [q]) : ∃ A c, E = [⟨q, A, c⟩] := by
  rw [hl] at h
  match E, h with
  | [e], h => exact ⟨e.A, e.c, by injection h with h1 _; rw [← h1]⟩
theorem ne3_at {l : List Nt} {E : List Ne} {a b c : Nt} (h : E.map (·.n) = l) (hl : l = [a, b, c]) : ∃ A1 c1 B1 d1 A2 c2 B2 d2 A3 c3 B3 d3, E = [⟨a, A1, c1, B1, d1⟩, ⟨b, A2, c2, B2, d2⟩, ⟨c, A3, c3, B3, d3⟩] := by
  rw [hl] at h
  match E, h with
  | [x, y, z], h =>
    injection h with h1 h
    injection h with h2 h
    injection h with h3 _
    exact ⟨x.A, x.c, x.A2, x.c2, y.A, y.c, y.A2, y.c2, z.A, z.c, z.A2, z.c2, by rw [← h1, ← h2, ← h3]⟩
def zerosP (m : Nat) : List (Int × Int) := List.replicate m (0, 0)
theorem zerosP_flat (m : Nat) : flatPl (zerosP m) = List.replicate (m * 2) (.int .i64 0) := by
  refine List.eq_replicate_iff.mpr ⟨by rw [flatPl_len]; unfold zerosP; simp, fun v hv => ?_⟩
  unfold flatPl at hv
  obtain ⟨x, hx, h⟩ := List.mem_flatMap.mp hv
  unfold zerosP at hx
  rw [List.mem_replicate] at hx
  rw [hx.2] at h
  simp [encPl] at h
  exact h
theorem places_make (w : World) (m : Nat) (hm : m ≤ 1000) : ∃ w', (Instr.makeSlice 30 (.int .i64 m) (.int .i64 m)).run Try.prog w = .ok (.slice (some ⟨w.heap.size, 0, none⟩) m m) w' ∧ Gr w w' ∧ OP (zerosP m) (.slice (some ⟨w.heap.size, 0, none⟩) m m) w.heap.size w' := by
  obtain ⟨i0, hi, hz0, hz1, hz2⟩ := info_parts info_place
  have h := run_make (P := Try.prog) w 30 54 i0 _ Try.underlying30 hi hz0 .i64 .i64 m m (by omega) (by omega) (by rw [hz2]; omega) (by omega)
  rw [hz1, show (m : Int).toNat = m from rfl] at h
  have hc : madeCells (Value.agg #[.int .i64 0, .int .i64 0]).cells (m * 2) = (flatPl (zerosP m)).toArray := by
    rw [zerosP_flat]
    apply Array.ext
    · simp [madeCells]
    · intro i h1 h2
      have h3 : i % 2 = 0 ∨ i % 2 = 1 := by omega
      have hs : (Value.agg #[.int .i64 0, .int .i64 0]).cells = #[.int .i64 0, .int .i64 0] := rfl
      rcases h3 with h3 | h3 <;> simp [madeCells, hs, h3]
  rw [hc] at h
  refine ⟨_, h, Gr.alloc _ _, ?_, ?_⟩
  · have hl : (zerosP m).length = m := by unfold zerosP; simp
    rw [hl]
    refine ⟨by rw [flatPl_len, hl], .inr ⟨w.heap.size, m, (flatPl (zerosP m)).toArray, rfl, Nat.le_refl _, heap_alloc_new w _, Nat.le_refl _, by simp only [maxLen]; omega, by simp [flatPl_len, hl], ?_⟩⟩
    simp only [List.toList_toArray]
    exact List.take_of_length_le (by rw [flatPl_len, hl]; exact Nat.le_refl _)
  · intro x hx
    unfold zerosP at hx
    rw [List.mem_replicate] at hx
    rw [hx.2]
    exact ⟨by unfold I64; simp, by unfold I64; simp⟩
theorem OB.len2 {w : World} {base n c : Nat} {A : Option Addr} {l : List UInt8} (h : OB w base (.slice A n c) l) : l.length = n := by
  rcases h.2 with ⟨e, h0⟩ | ⟨g, cap, cur, e, -⟩
  · injection e with _ e _; omega
  · injection e with _ e _; exact e.symm
/-- these blocks stay -/
def KB (S : Nat → Prop) (w w' : World) : Prop := ∀ k, S k → w'.heap[k]? = w.heap[k]?
theorem KB.refl (S : Nat → Prop) (w : World) : KB S w w := fun _ _ => rfl
theorem KB.road (S : Nat → Prop) : Road (KB S) := ⟨fun x => KB.refl S x, fun h1 h2 k hk => (h2 k hk).trans (h1 k hk)⟩
theorem KB.trans {S : Nat → Prop} {a b c : World} (h1 : KB S a b) (h2 : KB S b c) : KB S a c := fun k hk => (h2 k hk).trans (h1 k hk)
theorem KB.set {S : Nat → Prop} {w : World} {g j : Nat} {u : Value} (hg : ¬ S g) : KB S w (w.setCell ⟨g, j, none⟩ u) := fun k hk => Below.heap_setCell w ⟨g, j, none⟩ u k (fun e => hg (by have e : k = g := e; rw [← e]; exact hk))
theorem KB.drew (S : Nat → Prop) (w : World) : KB S w w.drew := fun _ _ => rfl
theorem KB.cell {S : Nat → Prop} {w w' : World} (h : KB S w w') {k j : Nat} (hk : S k) : w'.cell? ⟨k, j, none⟩ = w.cell? ⟨k, j, none⟩ := World.cell?_of_block (w := w) (h k hk)
theorem PRow.kb {n base g c : Nat} {S : Nat → Prop} {w w' : World} (h : PRow n (.slice (some ⟨g, 0, none⟩) n c) base w) (hk : KB S w w') (hg : S g) : PRow n (.slice (some ⟨g, 0, none⟩) n c) base w' := by
  obtain ⟨xs, h1, h2⟩ := h
  exact ⟨xs, row_keep h1 (fun k e => hk k (by have e : some g = some k := e; injection e with e; rw [← e]; exact hg)), h2⟩
theorem blk_apart {w : World} {a b : Nat} {c1 c2 : Array Value} {T1 T2 : TypeId} (h1 : w.heap[a]? = some (.cells c1 T1 (0, 0))) (h2 : w.heap[b]? = some (.cells c2 T2 (0, 0))) (hT : T1 ≠ T2) : a ≠ b := fun e => by
  subst e
  rw [h1] at h2
  injection h2 with h2
  injection h2 with _ h2 _
  exact hT h2
end Go.Proofs.Ythboeoidgglcgaa
