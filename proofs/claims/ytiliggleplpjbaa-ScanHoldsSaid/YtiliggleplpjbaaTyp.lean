/- Frames by the types of blocks: what may turn is told by the type of its cells. -/
import Derived.Test.YtiliggleplpjbaaBytes
import Derived.Test.YtiliggleplpjbaaBlk
import Derived.Test.YtiliggleplpjbaaRegRd
namespace Go.Proofs.Ytiliggleplpjbaa
set_option linter.unusedVariables false
open Go Go.RowKit

/-- w' is w but for new blocks, and for blocks from lo on whose cells are of one of these types -/
def TChg (lo : Nat) (ts : List TypeId) (w w' : World) : Prop := Upd (fun k => lo ≤ k ∧ ∃ cs T, w.heap[k]? = some (.cells cs T (0, 0)) ∧ T ∈ ts) w w'
section
variable {w w' : World} {lo lo' g k : Nat} {ts ts' : List TypeId} {cs : Array Value} {T : TypeId} {v : Value}
theorem TChg.refl (lo : Nat) (ts : List TypeId) (w : World) : TChg lo ts w w := Upd.refl _ _
theorem TChg.trans {x y z : World} (h1 : TChg lo ts x y) (h2 : TChg lo ts y z) : TChg lo ts x z := by
  refine ⟨h1.1.trans h2.1, h1.2.1.trans h2.2.1, h1.2.2.1.trans h2.2.2.1, Nat.le_trans h1.2.2.2.1 h2.2.2.2.1, fun k hk hs => ?_⟩
  have e := h1.2.2.2.2 k hk hs
  refine (h2.2.2.2.2 k (Nat.lt_of_lt_of_le hk h1.2.2.2.1) (fun hs2 => hs ⟨hs2.1, ?_⟩)).trans e
  obtain ⟨_, cs, T, h, hT⟩ := hs2
  exact ⟨cs, T, e ▸ h, hT⟩
theorem TChg.mono (h : TChg lo ts w w') (hl : lo' ≤ lo) (ht : ∀ t ∈ ts, t ∈ ts') : TChg lo' ts' w w' :=
  ⟨h.1, h.2.1, h.2.2.1, h.2.2.2.1, fun k hk hs => h.2.2.2.2 k hk (fun ⟨h1, cs, T, h2, h3⟩ => hs ⟨Nat.le_trans hl h1, cs, T, h2, ht T h3⟩)⟩
theorem TChg.size (h : TChg lo ts w w') : w.heap.size ≤ w'.heap.size := h.2.2.2.1
theorem TChg.below (h : TChg lo ts w w') (hl : lo ≤ w.heap.size) : Below lo w w' := Upd.to_below (Below.refl lo w) h hl (fun k hk => hk.1)
theorem TChg.block (h : TChg lo ts w w') (hh : w.heap[k]? = some (.cells cs T (0, 0))) (hT : T ∉ ts) : w'.heap[k]? = some (.cells cs T (0, 0)) := by
  rw [← hh]
  refine h.2.2.2.2 k (blk_lt hh) (fun hs => ?_)
  obtain ⟨_, cs', T', e, hT'⟩ := hs
  rw [hh] at e
  injection e with e
  injection e with _ e _
  exact hT (e ▸ hT')
theorem TChg.of_below (h : Below w.heap.size w w') : TChg lo ts w w' := Upd.of_below h
theorem TChg.drewN (w : World) (n : Nat) : TChg lo ts w (w.drewN n) := TChg.refl _ _ _
theorem TChg.of_alloc (w : World) (o : Obj) : TChg lo ts w (w.alloc o) := TChg.of_below ((Below.refl _ w).alloc (Nat.le_refl _) o)
theorem TChg.of_set (hh : w.heap[g]? = some (.cells cs T (0, 0))) (hT : T ∈ ts) (hl : lo ≤ g) (j : Nat) (u : Value) : TChg lo ts w (w.setCell ⟨g, j, none⟩ u) :=
  Upd.of_grown (blk_grown w g j u) ⟨hl, cs, T, hh, hT⟩
theorem TChg.of_row {e : TypeId} {size n : Nat} {xs : List Value} (ho : w.ownsRow lo e size v n xs) (hg : w.grownBy w' v.ownBlock) (hT : e ∈ ts) : TChg lo ts w w' := by
  obtain ⟨h1, h2, h3, h4, hk⟩ := hg
  refine ⟨h1.symm, h2.symm, h3.symm, h4, fun k hlt hn => hk k hlt (fun e' => hn ?_)⟩
  rcases ho.2 with ⟨rfl, -⟩ | ⟨g', cap, cur, rfl, hb, hh, -⟩
  · cases e'
  · injection e' with e'
    subst e'
    exact ⟨hb, cur, e, hh, hT⟩
theorem TChg.road (lo : Nat) (ts : List TypeId) : Road (TChg lo ts) := ⟨TChg.refl lo ts, TChg.trans⟩
theorem TChg.from_ {w0 : World} (h : TChg lo ts w w') (hb : Below lo' w0 w) (hl : lo' ≤ lo) (hw : lo ≤ w.heap.size) : Below lo' w0 w' := hb.trans ((h.below hw).mono hl)
end
section
variable {w w' : World} {base e size n lo : Nat} {v : Value} {xs : List Value} {ts : List TypeId}
theorem row_tchg (h : w.ownsRow base e size v n xs) (hc : TChg lo ts w w') (he : e ∉ ts) : w'.ownsRow base e size v n xs := by
  refine ⟨h.1, ?_⟩
  rcases h.2 with hn | ⟨g, cap, cur, rfl, hb, hh, hr⟩
  · exact .inl hn
  · exact .inr ⟨g, cap, cur, rfl, hb, hc.block hh he, hr⟩
theorem row_below (h : w.ownsRow base e size v n xs) (hb : Below w.heap.size w w') : w'.ownsRow base e size v n xs :=
  h.kept (row := none) ⟨hb.os, hb.tape, hb.output, hb.size, fun k hk _ => hb.block k hk⟩ (by cases hv : v.ownBlock <;> simp)
theorem row_keep (h : w.ownsRow base e size v n xs) (hk : ∀ k, v.ownBlock = some k → w'.heap[k]? = w.heap[k]?) : w'.ownsRow base e size v n xs := by
  refine ⟨h.1, ?_⟩
  rcases h.2 with hn | ⟨g, cap, cur, rfl, hb, hh, hr⟩
  · exact .inl hn
  · exact .inr ⟨g, cap, cur, rfl, hb, (hk g rfl).trans hh, hr⟩
theorem row_set_other (h : w.ownsRow base e size v n xs) (g j : Nat) (u : Value) (hn : v.ownBlock ≠ some g) : (w.setCell ⟨g, j, none⟩ u).ownsRow base e size v n xs :=
  row_keep h (fun k hk => blk_other (fun e => hn (by rw [← e]; exact hk)) j u)
theorem row_ne (h : w.ownsRow base e size v n xs) {g : Nat} {cs : Array Value} {T : TypeId} (hh : w.heap[g]? = some (.cells cs T (0, 0))) (hT : T ≠ e) : v.ownBlock ≠ some g := by
  rcases h.2 with ⟨rfl, -⟩ | ⟨k, cap, cur, rfl, hb, hk, -⟩
  · intro e; cases e
  · intro e'
    injection e' with e'
    have e' : k = g := e'
    subst e'
    rw [hh] at hk
    injection hk with hk
    injection hk with _ e' _
    exact hT e'
theorem row_ne2 {base2 e2 size2 n2 : Nat} {v2 : Value} {xs2 : List Value} (h : w.ownsRow base e size v n xs) (h2 : w.ownsRow base2 e2 size2 v2 n2 xs2) (hT : e2 ≠ e) : ∀ k, v2.ownBlock = some k → v.ownBlock ≠ some k := fun k hk => by
  rcases h2.2 with ⟨rfl, -⟩ | ⟨g, cap, cur, rfl, hb, hg, -⟩
  · cases hk
  · injection hk with hk
    subst hk
    exact row_ne h hg hT
theorem row_form (h : w.ownsRow base e size v n xs) : ∃ A c, v = .slice A n c ∧ n ≤ c ∧ c ≤ maxLen := by
  rcases h.2 with ⟨rfl, rfl⟩ | ⟨g, cap, cur, rfl, hb, hh, hnc, hcm, _⟩
  · exact ⟨none, 0, rfl, Nat.le_refl _, Nat.zero_le _⟩
  · exact ⟨_, cap, rfl, hnc, hcm⟩
/-- a row that is not empty: its block, its cells -/
theorem row_at (h : w.ownsRow base e size v n xs) (hn : 0 < n) : ∃ g c, v = .slice (some ⟨g, 0, none⟩) n c ∧ n ≤ c ∧ c ≤ maxLen ∧ base ≤ g ∧ g < w.heap.size ∧ (∃ cs, w.heap[g]? = some (.cells cs e (0, 0))) ∧
    (∀ j, w.frozen? ⟨g, j, none⟩ = false) ∧ (∀ j u, xs[j]? = some u → w.cell? ⟨g, j, none⟩ = some u) ∧ ∀ j u, (w.setCell ⟨g, j, none⟩ u).ownsRow base e size v n (xs.set j u) := by
  rcases h.2 with ⟨-, h0⟩ | ⟨g, cap, cur, rfl, hb, hh, hnc, hcm, hcs, ht⟩
  · omega
  · refine ⟨g, cap, rfl, hnc, hcm, hb, (Array.getElem?_eq_some_iff.1 hh).1, ⟨cur, hh⟩, fun j => h.frozenAt j, fun j u hu => ?_, fun j u => (h.stored j u).1⟩
    have hj : j < n * size := by rw [← h.1]; exact (List.getElem?_eq_some_iff.1 hu).1
    rw [h.cellAt j hj, hu]
theorem row_more {base' : Nat} (h : w.ownsRow base e size v n xs) (hb : base' ≤ base) : w.ownsRow base' e size v n xs := by
  refine ⟨h.1, ?_⟩
  rcases h.2 with hn | ⟨g, cap, cur, e, hg, r⟩
  · exact .inl hn
  · exact .inr ⟨g, cap, cur, e, by omega, r⟩
end
theorem Upd.of_own {w w' : World} {v : Value} (hg : w.grownBy w' v.ownBlock) : Upd (fun k => v.ownBlock = some k) w w' := by
  obtain ⟨h1, h2, h3, h4, hk⟩ := hg
  exact ⟨h1.symm, h2.symm, h3.symm, h4, fun k hlt hn => hk k hlt (fun e => hn e.symm)⟩
theorem blk_grow {w w' : World} {g : Nat} {ob : Option Nat} {cs : Array Value} {T : TypeId} (hh : w.heap[g]? = some (.cells cs T (0, 0))) (hg : w.grownBy w' ob) (hne : ob ≠ some g) : w'.heap[g]? = some (.cells cs T (0, 0)) := by
  obtain ⟨_, _, _, _, hk⟩ := hg
  exact (hk g (blk_lt hh) (fun e => hne e.symm)).trans hh
theorem blk_alloc {w : World} {g : Nat} {cs : Array Value} {T : TypeId} (hh : w.heap[g]? = some (.cells cs T (0, 0))) (o : Obj) : (w.alloc o).heap[g]? = some (.cells cs T (0, 0)) := (Below.heap_alloc w o g (blk_lt hh)).trans hh
theorem blk_below {w w' : World} {g : Nat} {cs : Array Value} {T : TypeId} (hh : w.heap[g]? = some (.cells cs T (0, 0))) (hb : Below w.heap.size w w') : w'.heap[g]? = some (.cells cs T (0, 0)) := (hb.block g (blk_lt hh)).trans hh
theorem OB.tchg {w w' : World} {base lo : Nat} {v : Value} {l : List UInt8} {ts : List TypeId} (h : OB w base v l) (hc : TChg lo ts w w') (he : 5 ∉ ts) : OB w' base v l := row_tchg h hc he
end Go.Proofs.Ytiliggleplpjbaa
