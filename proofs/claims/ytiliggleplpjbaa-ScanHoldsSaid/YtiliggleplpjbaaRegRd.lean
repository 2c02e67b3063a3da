/- Reads beside regions that draw. -/
import Derived.Test.YtiliggleplpjbaaReg
import Derived.Test.YtiliggleplpjbaaCls
namespace Go.Proofs.Ytiliggleplpjbaa
set_option linter.unusedVariables false
open Go Go.RowKit
section
variable {S : Nat → Prop} {w0 w w' : World} {B g : Nat} {A : Option Addr} {l : List UInt8}
theorem Upd.of_below (hb : Below w.heap.size w w') : Upd S w w' := ⟨hb.os.symm, hb.tape.symm, hb.output.symm, hb.size, fun k hk _ => hb.block k hk⟩
theorem Upd.of_grown (hg : w.grownBy w' (some g)) (hS : S g) : Upd S w w' := by
  obtain ⟨h1, h2, h3, h4, hk⟩ := hg
  exact ⟨h1.symm, h2.symm, h3.symm, h4, fun k hlt hn => hk k hlt (fun e => hn (by injection e with e; exact e ▸ hS))⟩
theorem Upd.size (h : Upd S w w') : w.heap.size ≤ w'.heap.size := h.2.2.2.1
theorem Upd.cell (h : Upd S w w') {p : Addr} (hp : p.block < w.heap.size) (hn : ¬ S p.block) : w'.cell? p = w.cell? p := World.cell?_of_block (h.2.2.2.2 _ hp hn)
theorem Upd.to_below (h0 : Below B w0 w) (h : Upd S w w') (hB : B ≤ w.heap.size) (hS : ∀ k, S k → B ≤ k) : Below B w0 w' :=
  h0.trans ⟨h.1.symm, h.2.1.symm, h.2.2.1.symm, h.size, fun k hk => h.2.2.2.2 k (by omega) (fun hs => by have := hS k hs; omega)⟩
theorem Rd.upd (h : Rd w w.heap.size A l) (hA : ∀ ad, A = some ad → 0 < l.length → ¬ S ad.block) (hu : Upd S w w') : Rd w' w'.heap.size A l := by
  refine ⟨h.1, fun hn => ?_⟩
  obtain ⟨ad, rfl, hb, hc⟩ := h.2 hn
  refine ⟨ad, rfl, Nat.lt_of_lt_of_le hb hu.size, fun j u hj => ?_⟩
  rw [hu.cell (by rw [block_of_add]; exact hb) (by rw [block_of_add]; exact hA ad rfl hn)]
  exact hc j u hj
end
end Go.Proofs.Ytiliggleplpjbaa
