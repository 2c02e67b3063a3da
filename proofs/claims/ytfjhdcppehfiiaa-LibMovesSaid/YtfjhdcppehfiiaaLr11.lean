/- lib: both libraries as they begin. -/
import Derived.Test.YtfjhdcppehfiiaaLr9
namespace Go.Proofs.Ytfjhdcppehfiiaa
set_option linter.unusedVariables false
set_option linter.unusedSimpArgs false
open Go Go.RowKit
theorem Lr.more {w : World} {lo lo' g : Nat} {vc vd va : Value} {C : List Nat} {D : List RD} {L : List Nat} (h : Lr w lo g vc vd va C D L) (hl : lo' ≤ lo) : Lr w lo' g vc vd va C D L :=
  ⟨h.blk, Nat.le_trans hl h.lg, row_more h.carts hl, row_more h.drives hl, row_more h.asked hl, h.lc, h.ld, h.la⟩
theorem Rl.more {w : World} {lo lo' g T : Nat} {C : List Nat} {SS : List CS} (h : Rl w lo g C SS T) (hl : lo' ≤ lo) : Rl w lo' g C SS T := by
  obtain ⟨vc, vd, va, D, L, h1, h2, h3⟩ := h.lr
  exact ⟨⟨vc, vd, va, D, L, h1.more hl, h2, h3⟩, h.len, fun i b s hb hs => (h.ct i b s hb hs).more hl, h.ap⟩
/-- both, as New makes them one behind the other -/
theorem BtL.start {w w1 w2 : World} {gl gr nd : Nat} {C C' : List Nat} {SS SS' : List CS} (h1 : Li w1 w.heap.size gl C SS (newD nd) 0) (hb1 : Below w.heap.size w w1) (h2 : Rl w2 w1.heap.size gr C' SS' 0) (hb2 : Below w1.heap.size w1 w2) (hC : C'.length = C.length) : BtL w2 w.heap.size gl gr 0 :=
  ⟨C, SS, newD nd, 0, C', SS', h1.gr hb2, DOk.new_ _ _, Nat.le_refl _, h2.more hb1.size, hC⟩
end Go.Proofs.Ytfjhdcppehfiiaa
