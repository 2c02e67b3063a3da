/- A cartridge: one record of it. -/
import Derived.Test.YtfjhdcppehfiiaaCart
import Derived.Deep.QuietTactic
import Derived.BigQuiet
namespace Go.Proofs.Ytfjhdcppehfiiaa
set_option linter.unusedVariables false
set_option linter.unusedSimpArgs false
open Go Go.RowKit
theorem row_cut {w : World} {lo n c : Nat} {A : Option Addr} {l : List UInt8} (ho : OB w lo (.slice A n c) l) {m : Nat} (hm : m ≤ n) : OB w lo (.slice A m c) (l.take m) := by
  have hn : l.length = n := by
    rcases ho.2 with ⟨e, h0⟩ | ⟨g, cap, cur, e, -⟩
    · injection e with _ e _; omega
    · injection e with _ e _; exact e.symm
  subst hn
  unfold OB
  have hl : (l.take m).length = m := by rw [List.length_take]; omega
  rw [hl]
  refine ⟨by simp; omega, ?_⟩
  rcases ho.2 with ⟨e, h0⟩ | ⟨g, cap, cur, e, h1, h2, h3, h4, h5, h6⟩
  · injection e with e1 e2 e3
    subst e1
    subst e3
    have : m = 0 := by omega
    subst this
    exact .inl ⟨rfl, rfl⟩
  · injection e with e1 e2 e3
    subst e1
    subst e3
    refine .inr ⟨g, c, cur, rfl, h1, h2, by omega, h4, h5, ?_⟩
    rw [List.map_take, ← h6, List.take_take]
    congr 1
    omega
section
variable {w w' : World} {lo hi hi' g b i : Nat} {s : CS} {v : Value} {l : List (List UInt8 × Bool)} {xs : List Value} {r : List UInt8 × Bool}
theorem RecsX.put (h : RecsX w lo hi v l xs) (hr : l[i]? = some r) (j : Nat) (hj : j = i * 2 ∨ j = i * 2 + 1) (hv : v.ownBlock = some b) (u : Value) (r' : List UInt8 × Bool)
    (hnew : ∃ x, (xs.set j u)[i * 2]? = some x ∧ (xs.set j u)[i * 2 + 1]? = some (.bool r'.2) ∧ OB w lo x r'.1 ∧ ∀ k, x.ownBlock = some k → k < hi) : RecsX (w.setCell ⟨b, j, none⟩ u) lo hi v (l.set i r') (xs.set j u) := by
  obtain ⟨h1, h2, h3⟩ := h
  have hil : i < l.length := (List.getElem?_eq_some_iff.1 hr).1
  obtain ⟨g', c, rfl, -, -, -, -, ⟨cs, hh⟩, -, -, hst⟩ := row_at h1 (by omega)
  injection hv with hv
  have hv : g' = b := hv
  subst hv
  refine ⟨by rw [List.length_set]; exact hst j u, h2, fun k q hk => ?_⟩
  rw [List.getElem?_set] at hk
  by_cases hik : i = k
  · subst hik
    rw [if_pos rfl, if_pos hil] at hk
    injection hk with hk
    subst hk
    obtain ⟨x, a1, a2, a3, a4⟩ := hnew
    exact ⟨x, a1, a2, row_set_other a3 _ _ _ (row_ne a3 hh (by decide)), a4⟩
  · rw [if_neg hik] at hk
    obtain ⟨x, a1, a2, a3, a4⟩ := h3 k q hk
    exact ⟨x, by rw [List.getElem?_set_ne (by omega)]; exact a1, by rw [List.getElem?_set_ne (by omega)]; exact a2, row_set_other a3 _ _ _ (row_ne a3 hh (by decide)), a4⟩
theorem Ct.rec_ (h : Ct w lo hi g s) (hr : s.recs[i]? = some r) : ∃ b c A m, w.cell? ⟨g, 0, none⟩ = some (.slice (some ⟨b, 0, none⟩) s.recs.length c) ∧ lo ≤ b ∧ b < hi ∧ (∃ cs, w.heap[b]? = some (.cells cs 66 (0, 0))) ∧ (∀ j, w.frozen? ⟨b, j, none⟩ = false) ∧
    w.cell? ⟨b, i * 2, none⟩ = some (.slice A r.1.length m) ∧ w.cell? ⟨b, i * 2 + 1, none⟩ = some (.bool r.2) ∧ OB w lo (.slice A r.1.length m) r.1 ∧
    (∀ z, Ct (w.setCell ⟨b, i * 2 + 1, none⟩ (.bool z)) lo hi g { s with recs := s.recs.set i (r.1, z) }) ∧
    ∀ k, k ≤ r.1.length → Ct (w.setCell ⟨b, i * 2, none⟩ (.slice A k m)) lo hi g { s with recs := s.recs.set i (r.1.take k, r.2) } := by
  obtain ⟨v, a, b1, c1, d1, ⟨xs, hx⟩, f⟩ := h
  have hX := hx
  obtain ⟨h1, h2, h3⟩ := hx
  have hil : i < s.recs.length := (List.getElem?_eq_some_iff.1 hr).1
  obtain ⟨b, c, rfl, hc1, hc2, hb1, hb2, ⟨cs, hh⟩, hfr, hcell, hst⟩ := row_at h1 (by omega)
  obtain ⟨x, x1, x2, x3, x4⟩ := h3 i r hr
  obtain ⟨A, m, rfl, -⟩ := x3.form
  have hxl : xs.length = s.recs.length * 2 := h1.1
  have hne : g ≠ b := fun e => by
    subst e
    rw [a] at hh
    injection hh with hh
    injection hh with _ hh _
    exact absurd hh (by decide)
  have hmem : r ∈ s.recs := List.mem_of_getElem? hr
  refine ⟨b, c, A, m, blk_cell a rfl, hb1, h2 b rfl, ⟨cs, hh⟩, hfr, hcell _ _ x1, hcell _ _ x2, x3, fun z => ?_, fun k hk => ?_⟩
  · refine ⟨_, (blk_other hne _ _).trans a, b1, c1, by simp [World.setCell]; exact d1, ⟨_, hX.put hr _ (.inr rfl) rfl _ (r.1, z) ⟨_, ?_, ?_, x3, x4⟩⟩, ⟨by show (s.recs.set i _).length ≤ _; rw [List.length_set]; exact f.recs, f.most, fun q hq => ?_⟩⟩
    · rw [List.getElem?_set_ne (by omega)]; exact x1
    · rw [List.getElem?_set, if_pos rfl, if_pos (by omega)]
    · rcases List.mem_or_eq_of_mem_set hq with hq | rfl
      · exact f.len q hq
      · exact f.len r hmem
  · have hcut : OB w lo (.slice A k m) (r.1.take k) := by
      have := row_cut x3 hk
      exact this
    refine ⟨_, (blk_other hne _ _).trans a, b1, c1, by simp [World.setCell]; exact d1, ⟨_, hX.put hr _ (.inl rfl) rfl _ (r.1.take k, r.2) ⟨.slice A k m, ?_, ?_, hcut, fun q hq => x4 q (by cases A <;> exact hq)⟩⟩, ⟨by show (s.recs.set i _).length ≤ _; rw [List.length_set]; exact f.recs, f.most, fun q hq => ?_⟩⟩
    · rw [List.getElem?_set, if_pos rfl, if_pos (by omega)]
    · rw [List.getElem?_set_ne (by omega)]; exact x2
    · rcases List.mem_or_eq_of_mem_set hq with hq | rfl
      · exact f.len q hq
      · have := f.len r hmem
        show (r.1.take k).length ≤ 256
        rw [List.length_take]; omega
end
end Go.Proofs.Ytfjhdcppehfiiaa
