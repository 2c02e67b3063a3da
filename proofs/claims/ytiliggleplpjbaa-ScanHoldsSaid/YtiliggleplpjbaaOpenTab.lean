/- Arguments that are slices of structs of integers. -/
import Derived.Test.YtiliggleplpjbaaOpen
import Derived.Test.YtiliggleplpjbaaTab
import Derived.Deep.Slices
import Derived.Deep.Fields
import Derived.ChangeSame
namespace Go.Proofs.Ytiliggleplpjbaa
set_option linter.unusedVariables false
open Go Go.RowKit Go.ChangeShapes Go.WideShapes Go.ChangeAt Go.Deep
section
variable {H : Type} {enc : TypeId × Value → H} {P : Program} {w : World} {base : Nat} {spare : Nat → Bool} {held : Bool}
theorem open_slice_fields {t e : TypeId} {fs : Array Field} {fuel : Nat} {cs : List Value} {x : DataW H × List MemPlace} (ht : P.underlying t = some (.slice e)) (he : P.underlying e = some (.struct fs))
    (hone : oneCellFields P fs = true) (hC : P.cellsOf e = fs.size) (h : DataW.trod enc P w base spare held fuel t cs = some x) :
    (cs = [.slice none 0 0] ∧ x = (.nil, [])) ∨
    ∃ (a : Addr) (len cap m : Nat) (D : Nat → DataW H) (Pl : Nat → List MemPlace), cs = [.slice (some a) len cap] ∧ base ≤ a.block ∧ len ≤ cap ∧ cap ≤ maxLen ∧ m = (if spare a.block then cap else len) ∧
      x = (.slice ((List.range len).map D) ((List.range (m - len)).map fun j => D (len + j)), MemPlace.row a (m * fs.size) ++ (List.range m).flatMap Pl) ∧
      ∀ i, i < m → ∃ (ys : List (DataW H × List MemPlace)) (n : Nat), D i = .agg (ys.map (·.1)) ∧ Pl i = ys.flatMap (·.2) ∧ ys.length = fs.size ∧
        ∀ (j : Nat) (f : Field), fs[j]? = some f → ∃ (v : Value) (y : DataW H × List MemPlace), w.cell? (a.add (i * fs.size + j)) = some v ∧ ys[j]? = some y ∧ DataW.trod enc P w base spare held n f.type [v] = some y := by
  rcases open_slice ht h with h0 | ⟨a, len, cap, m, n, D, Pl, hcs, hb, hl, hm, hmm, hx, hi⟩
  · exact .inl h0
  · refine .inr ⟨a, len, cap, m, D, Pl, hcs, hb, hl, hm, hmm, by rw [hC] at hx; exact hx, fun i him => ?_⟩
    obtain ⟨cs', hc, ht'⟩ := hi i him
    rw [hC] at hc
    obtain ⟨ys, n', hn', hy, hlen, hyl, hf⟩ := DataW.trod_struct he ht'
    obtain ⟨_, hcl, hat⟩ := World.cells?_some hc
    simp only [Prod.mk.injEq] at hy
    refine ⟨ys, n', hy.1, hy.2, hyl, fun j f hj => ?_⟩
    obtain ⟨ho, hk⟩ := hone_of hone j f hj
    have hjl : j < fs.size := (Array.getElem?_eq_some_iff.1 hj).1
    have hcell := hat j hjl
    have hv : cs'[j]? = some (cs'[j]'(by omega)) := List.getElem?_eq_getElem (by omega)
    have h1 := hf j f hj
    rw [ho, hk] at h1
    have hone' : (cs'.drop j).take 1 = [cs'[j]'(by omega)] := by
      rw [List.drop_eq_getElem_cons (by omega)]
      rfl
    rw [hone'] at h1
    have hys : ys[j]? = some (ys[j]'(by omega)) := List.getElem?_eq_getElem (by omega)
    refine ⟨_, _, ?_, hys, h1.trans hys⟩
    rw [← Go.Deep.add_add, hcell, hv]
end
section
variable {H : Type} {enc : TypeId × Value → H} {P : Program} {W : World} {base : Nat} {sp : Nat → Bool} {held : Bool}
theorem addr_flat {w : World} {a : Addr} {v : Value} (h : w.cell? (a.add 0) = some v) : a = ⟨a.block, a.off, none⟩ := by
  obtain ⟨b, o, s⟩ := a
  cases s with
  | none => rfl
  | some s =>
    exfalso
    have e : (⟨b, o, some s⟩ : Addr).add 0 = ⟨b, o, some s⟩ := by unfold Addr.add; rw [if_pos rfl]
    rw [e] at h
    unfold World.cell? at h
    simp only [Option.isSome_some, if_true] at h
    split at h <;> cases h
theorem add_flat (b o k : Nat) : (⟨b, o, none⟩ : Addr).add k = ⟨b, o + k, none⟩ := by
  unfold Addr.add
  split
  · rename_i h; subst h; rfl
  · rfl
theorem open_tab {t e ti : TypeId} {fs : Array Field} (ht : P.underlying t = some (.slice e)) (he : P.underlying e = some (.struct fs)) (hone : oneCellFields P fs = true) (hC : P.cellsOf e = fs.size)
    (hall : fs.toList.all (fun f => f.type == ti) = true) (hi : P.underlying ti = some (.int .i64)) {r : Reach} {b0 : Nat} {v : Value} {d : DataW H} {ps : List MemPlace} (hs : 0 < fs.size)
    (hval : Value.okWide P W r b0 t v) (h0 : DataW.Trod enc P W base sp held t v d ps) (hlt : ∀ x ∈ ps, x.block < W.heap.size) :
    ∃ A n c, ∃ F : Nat → Nat → Int, v = .slice A n c ∧ n ≤ c ∧ c ≤ maxLen ∧ Tab W W.heap.size fs.size A n F := by
  obtain ⟨a0, len, cap, rfl⟩ := okWide_slice ht hval
  obtain ⟨fuel, hf⟩ := h0
  rcases open_slice_fields ht he hone hC hf with ⟨hcs, hx⟩ | ⟨a, len', cap', m, D, Pl, hcs, hb, hl, hm, hmm, hx, hrow⟩
  · simp [Value.cells] at hcs
    obtain ⟨rfl, rfl, rfl⟩ := hcs
    exact ⟨none, 0, 0, fun _ _ => 0, rfl, Nat.zero_le _, Nat.zero_le _, Tab.nil _ _ _ _ _⟩
  · simp [Value.cells] at hcs
    obtain ⟨rfl, rfl, rfl⟩ := hcs
    simp only [Prod.mk.injEq] at hx
    have hlm : len ≤ m := by rw [hmm]; split <;> omega
    have h1 : ∀ i j, ∃ z : Int, i < len → j < fs.size → W.cell? (a.add (i * fs.size + j)) = some (.int .i64 z) ∧ I64 z := fun i j => by
      by_cases hij : i < len ∧ j < fs.size
      · obtain ⟨hi', hj'⟩ := hij
        obtain ⟨ys, n', -, -, -, hfj⟩ := hrow i (by omega)
        obtain ⟨u, y, hc, hy, htr⟩ := hfj j fs[j] (Array.getElem?_eq_getElem hj')
        have hty : fs[j].type = ti := by
          have := List.all_eq_true.mp hall fs[j] (by simp)
          simpa using this
        rw [hty] at htr
        obtain ⟨z, e1, -, wz⟩ := DataW.trod_int hi htr
        injection e1 with e1 _
        exact ⟨z, fun _ _ => ⟨by rw [hc, e1], i64_of wz⟩⟩
      · exact ⟨0, fun h2 h3 => absurd ⟨h2, h3⟩ hij⟩
    refine ⟨some a, len, cap, fun i j => Classical.choose (h1 i j), rfl, hl, hm, fun hn => ?_, fun i j hi hj => (Classical.choose_spec (h1 i j) hi hj).2⟩
    have h00 : ∃ v, W.cell? (a.add 0) = some v := by
      obtain ⟨z, hz⟩ := h1 0 0
      have := (hz hn hs).1
      rw [Nat.zero_mul] at this
      exact ⟨_, this⟩
    obtain ⟨v00, hv00⟩ := h00
    have hflat := addr_flat hv00
    refine ⟨a.block, a.off, congrArg some hflat, ?_, fun i j hi hj => ?_⟩
    · refine hlt (.cell a.block a.off) ?_
      rw [hx.2]
      refine List.mem_append_left _ (List.mem_map.mpr ⟨0, List.mem_range.mpr ?_, by simp⟩)
      exact Nat.mul_pos (by omega) hs
    · have := (Classical.choose_spec (h1 i j) hi hj).1
      have ea : a.add (i * fs.size + j) = ⟨a.block, a.off + (i * fs.size + j), none⟩ := by
        have := add_flat a.block a.off (i * fs.size + j)
        rwa [← hflat] at this
      rw [show a.off + i * fs.size + j = a.off + (i * fs.size + j) from by omega, ← ea]
      exact this
end
end Go.Proofs.Ytiliggleplpjbaa
