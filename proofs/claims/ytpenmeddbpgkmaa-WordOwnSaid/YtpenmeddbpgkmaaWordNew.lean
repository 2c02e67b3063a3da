/- New of word, with the reader's bytes in the call's own memory. -/
import Derived.Test.YtpenmeddbpgkmaaWordLaw
namespace Go.Proofs.Ytpenmeddbpgkmaa
set_option linter.unusedVariables false
open Go Go.RowKit

/-- block g is a good reader whose bytes l lie in blocks from lo on and below g -/
def RdrIn (w : World) (lo g : Nat) (l : List UInt8) : Prop :=
  ∃ A c, w.heap[g]? = some (.cells #[.slice A l.length c, .bool false] 76 (0, 0)) ∧ l.length ≤ c ∧ c ≤ maxLen ∧ Rd w g A l ∧ ∀ ad, A = some ad → lo ≤ ad.block
theorem RdrIn.rdr {w : World} {lo g : Nat} {l : List UInt8} (h : RdrIn w lo g l) : Rdr w g (some l) := by
  obtain ⟨A, c, h1, h2, h3, h4, -⟩ := h
  exact ⟨A, c, h1, h2, h3, h4⟩
/-- a store below lo leaves the reader as it was -/
theorem RdrIn.setCell {w : World} {lo g : Nat} {l : List UInt8} (h : RdrIn w lo g l) {p : Addr} (hp : p.block < lo) (hg : lo ≤ g) (u : Value) : RdrIn (w.setCell p u) lo g l := by
  obtain ⟨A, c, h1, h2, h3, h4, h5⟩ := h
  refine ⟨A, c, (Below.heap_setCell _ _ _ _ (by omega)).trans h1, h2, h3, ⟨h4.1, fun hn => ?_⟩, h5⟩
  obtain ⟨ad, rfl, hb, hc⟩ := h4.2 hn
  refine ⟨ad, rfl, hb, fun j x hx => ?_⟩
  have h6 := h5 ad rfl
  rw [World.cell?_setCell_other w _ _ _ (fun e => by have := congrArg Addr.block e; rw [block_of_add] at this; omega)]
  exact hc j x hx
set_option maxRecDepth 10000 in
theorem new_in (A : Option Addr) (n c : Nat) (l : List UInt8) (hn : l.length = n) (hl : n ≤ 140737488355328) (w : World) (hr : Rd w w.heap.size A l) :
    Calls Try.prog 31 #[.slice A n c] w fun e w' => ∃ g, e = .returned (.pointer (some ⟨g, 0, none⟩)) ∧ w.heap.size ≤ g ∧ RdrIn w' w.heap.size g l ∧ Below w.heap.size w w' := by
  replace hr := Lib.hid hr
  replace hn := Lib.hid hn
  go_enter Try.func31, Try.ntmps31
  go_wp2_with fail
  refine (clone_any A n c l hn.out hl w hr.out).mono ?_
  rintro e w1 ⟨v, rfl, hv, hb⟩
  obtain ⟨A1, c1, rfl, hc1, hm1, hR1, hup⟩ := hv.form
  replace hR1 := Lib.hid hR1
  replace hup := Lib.hid hup
  clear hv
  go_wp2
  go_ret
  exact ⟨w1.heap.size, rfl, hb.size, ⟨A1, c1, heap_alloc_new w1 _, hc1, hm1, hR1.out.alloc (Nat.le_refl _) _, hup.out⟩, hb.alloc hb.size _⟩
end Go.Proofs.Ytpenmeddbpgkmaa
