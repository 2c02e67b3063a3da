/- Readers beside each other (out of XWordLaw). -/
import Derived.Test.YtgdbbjijneidaaaWordGet
namespace Go.Proofs.Ytgdbbjijneidaaa
set_option linter.unusedVariables false
open Go Go.RowKit

theorem Rdr.heapAt {w : World} {g : Nat} {st : RS} (h : Rdr w g st) : ∃ A n c b, w.heap[g]? = some (.cells #[.slice A n c, .bool b] 107 (0, 0)) := by
  cases st with
  | none => exact ⟨_, _, _, _, h⟩
  | some l => obtain ⟨A, c, h1, _⟩ := h; exact ⟨_, _, _, _, h1⟩
theorem not_int_at {w : World} {g : Nat} {st : RS} (h : Rdr w g st) {p : Addr} {x : Int} (hc : w.cell? p = some (.int .u8 x)) : p.block ≠ g := by
  intro e
  obtain ⟨A, n, c, b, hh⟩ := h.heapAt
  unfold World.cell? at hc
  rw [e, hh] at hc
  simp only at hc
  split at hc
  · cases hc
  · rcases ho : p.off with _ | _ | k
    · rw [ho] at hc; simp at hc
    · rw [ho] at hc; simp at hc
    · rw [ho] at hc; simp at hc
theorem Rd.other {w w' : World} {g B : Nat} {st : RS} {A : Option Addr} {l : List UInt8} (h : Rdr w g st) (hr : Rd w B A l) (hB : B ≤ w.heap.size) (hg : w.grownBy w' (some g)) : Rd w' B A l := by
  refine ⟨hr.1, fun hn => ?_⟩
  obtain ⟨ad, rfl, hb, hcell⟩ := hr.2 hn
  refine ⟨ad, rfl, hb, fun j u hu => ?_⟩
  have h1 := hcell j u hu
  rw [← h1]
  refine World.cell?_of_block ?_
  have hne : (ad.add j).block ≠ g := by
    rw [List.getElem?_map, Option.map_eq_some_iff] at hu
    obtain ⟨x, -, rfl⟩ := hu
    exact not_int_at h h1
  rw [block_of_add] at hne ⊢
  obtain ⟨_, _, _, _, hk⟩ := hg
  exact hk _ (by omega) (fun e => hne (by injection e))
theorem Rdr.other {w w' : World} {g g2 : Nat} {st st2 : RS} (h : Rdr w g st) (h2 : Rdr w g2 st2) (hne : g ≠ g2) (hg : w.grownBy w' (some g)) : Rdr w' g2 st2 := by
  have hlt := h2.lt
  have hgk := hg
  obtain ⟨_, _, _, _, hk⟩ := hgk
  have hh := hk g2 hlt (fun e => hne (by injection e with e; exact e.symm))
  cases st2 with
  | none => exact hh.trans h2
  | some l =>
    obtain ⟨A, c, h3, h4, h5, h6⟩ := h2
    exact ⟨A, c, hh.trans h3, h4, h5, h6.other h (by omega) hg⟩
theorem Rdr.below' {w w' : World} {g : Nat} {st : RS} (h : Rdr w g st) (hb : Below w.heap.size w w') : Rdr w' g st := h.below hb h.lt
theorem below_grown {B g : Nat} {w0 w w' : World} (hb : Below B w0 w) (hB : B ≤ w.heap.size) (hg : w.grownBy w' (some g)) (hBg : B ≤ g) : Below B w0 w' :=
  hb.grown hg hB (fun k hk => by injection hk with hk; omega)
theorem grown_size {g : Nat} {w w' : World} (hg : w.grownBy w' (some g)) : w.heap.size ≤ w'.heap.size := by
  obtain ⟨_, _, _, h, _⟩ := hg
  exact h
end Go.Proofs.Ytgdbbjijneidaaa
