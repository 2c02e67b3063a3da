/- cat: one part of a catalog turned, the others as they were. -/
import Derived.Test.YthboeoidgglcgaaCt8
namespace Go.Proofs.Ythboeoidgglcgaa
set_option linter.unusedVariables false
set_option linter.unusedSimpArgs false
open Go Go.RowKit Go.Maps
/-- a catalog's memory alone -/
structure Cr (w : World) (lo g : Nat) (x : CtX) (B T : List (By × Int)) (R : List Int) (G : Int) (t : Nat) : Prop where
  blk : w.heap[g]? = some (.cells #[x.vs, .map (some x.be), .map (some x.bb), x.vt, .map (some x.br), .int .i64 G] 65 (0, 0))
  lg : lo ≤ g
  lm : lo ≤ x.be ∧ lo ≤ x.bb ∧ lo ≤ x.br
  ne : x.be ≠ x.bb ∧ x.be ≠ x.br ∧ x.bb ≠ x.br
  ws : w.ownsRow lo 67 2 x.vs x.W.length (flatW x.W)
  wd : ∀ e ∈ x.W, OB w lo e.v e.d
  me : MapB w 9 KS x.be t (eM x.E)
  ep : ∀ e ∈ x.E, OP e.e.places e.v lo w
  mb : MapB w 9 KS x.bb t (bM B)
  ts : w.ownsRow lo 85 2 x.vt T.length (flatT T)
  mr : MapB w 3 KI x.br t (rM R)
theorem Ca.cr {w : World} {lo g t : Nat} {x : CtX} {c : CtP} (h : Ca w lo g x c t) : Cr w lo g x c.B c.T c.R c.G t := ⟨h.blk, h.lg, h.lm, h.ne, h.ws, h.wd, h.me, h.ep, h.mb, h.ts, h.mr⟩
theorem Cr.ca {w : World} {lo g t : Nat} {x : CtX} {c : CtP} (h : Cr w lo g x c.B c.T c.R c.G t) (hw : c.W = x.W.map (fun e => (e.k, e.d))) (he : c.E = x.E.map (fun e => (e.e.key, e.e))) (ok : c.Ok) (few : c.Few t) : Ca w lo g x c t := ⟨h.blk, h.lg, h.lm, h.ne, h.ws, h.wd, hw, h.me, h.ep, he, h.mb, h.ts, h.mr, ok, few⟩
section
variable {w w1 : World} {lo g t : Nat} {x : CtX} {B T : List (By × Int)} {R : List Int} {G : Int}
theorem Cr.more (h : Cr w lo g x B T R G t) {t' : Nat} (ht : t ≤ t') : Cr w lo g x B T R G t' := ⟨h.blk, h.lg, h.lm, h.ne, h.ws, h.wd, h.me.more ht, h.ep, h.mb.more ht, h.ts, h.mr.more ht⟩
theorem row_notmap' {K : Type} [BEq K] [LawfulBEq K] {base e size n b m : Nat} {v : Value} {xs : List Value} {k : TypeId} {c : KC K} {L : List (K × Value)} (h : w.ownsRow base e size v n xs) (hm : MapB w k c b m L) : ∀ j, v.ownBlock = some j → j ≠ b := fun j hj e => row_notmap h hm (by rw [hj, e])
/-- every part but the one whose block B is -/
theorem Cr.keep (h : Cr w lo g x B T R G t) (hk : ∀ k, k < w.heap.size → (k = g ∨ k = x.be ∨ k = x.bb ∨ k = x.br ∨ x.vs.ownBlock = some k ∨ x.vt.ownBlock = some k ∨ (∃ e ∈ x.W, e.v.ownBlock = some k) ∨ ∃ e ∈ x.E, e.v.ownBlock = some k) → w1.heap[k]? = w.heap[k]?) : Cr w1 lo g x B T R G t where
  blk := (hk g (blk_lt h.blk) (.inl rfl)).trans h.blk
  lg := h.lg
  lm := h.lm
  ne := h.ne
  ws := row_keep h.ws (fun k e => hk k (h.ws.lt k e).2 (.inr (.inr (.inr (.inr (.inl e))))))
  wd e he := row_keep (h.wd e he) (fun k e' => hk k ((h.wd e he).lt k e').2 (.inr (.inr (.inr (.inr (.inr (.inr (.inl ⟨e, he, e'⟩))))))))
  me := h.me.keep (hk _ h.me.lt (.inr (.inl rfl)))
  ep e he := ⟨row_keep (h.ep e he).1 (fun k e' => hk k ((h.ep e he).1.lt k e').2 (.inr (.inr (.inr (.inr (.inr (.inr (.inr ⟨e, he, e'⟩)))))))), (h.ep e he).2⟩
  mb := h.mb.keep (hk _ h.mb.lt (.inr (.inr (.inl rfl))))
  ts := row_keep h.ts (fun k e => hk k (h.ts.lt k e).2 (.inr (.inr (.inr (.inr (.inr (.inl e)))))))
  mr := h.mr.keep (hk _ h.mr.lt (.inr (.inr (.inr (.inl rfl)))))
theorem Cr.gr (h : Cr w lo g x B T R G t) (hg : Gr w w1) : Cr w1 lo g x B T R G t := h.keep (fun k hk _ => Below.block hg k hk)
theorem Cr.setG (h : Cr w lo g x B T R G t) (z : Int) : Cr (w.setCell ⟨g, 5, none⟩ (.int .i64 z)) lo g x B T R z t ∧ Upd (x.S g) w (w.setCell ⟨g, 5, none⟩ (.int .i64 z)) := by
  have hne : ∀ {e size n m : Nat} {v : Value} {xs : List Value}, w.ownsRow m e size v n xs → 65 ≠ e → v.ownBlock ≠ some g := fun hr hT => row_ne hr h.blk hT
  have hmg : ∀ {K : Type} [BEq K] [LawfulBEq K] {kt b m : Nat} {c : KC K} {L : List (K × Value)}, MapB w kt c b m L → b ≠ g := fun hm e => hm.notcell ((congrArg (fun k => w.heap[k]?) e).trans h.blk)
  refine ⟨⟨blk_set h.blk 5 _, h.lg, h.lm, h.ne, row_set_other h.ws _ _ _ (hne h.ws (by decide)), fun e he => row_set_other (h.wd e he) _ _ _ (hne (h.wd e he) (by decide)), h.me.keep (blk_other (hmg h.me) _ _), fun e he => ⟨row_set_other (h.ep e he).1 _ _ _ (hne (h.ep e he).1 (by decide)), (h.ep e he).2⟩, h.mb.keep (blk_other (hmg h.mb) _ _), row_set_other h.ts _ _ _ (hne h.ts (by decide)), h.mr.keep (blk_other (hmg h.mr) _ _)⟩, Upd.of_grown (blk_grown w g 5 _) (.inl rfl)⟩
/-- a turned row of staged blobs, stored -/
theorem Cr.setW (h : Cr w lo g x B T R G t) {v : Value} {W' : List Wt} (hu : Upd (fun k => x.vs.ownBlock = some k) w w1) (hrow : WRow w1 lo v W') (hd : ∀ e ∈ W', OB w1 lo e.v e.d) :
    Cr (w1.setCell ⟨g, 0, none⟩ v) lo g { x with vs := v, W := W' } B T R G t ∧ Upd (x.S g) w (w1.setCell ⟨g, 0, none⟩ v) := by
  have hk : ∀ k, k < w.heap.size → x.vs.ownBlock ≠ some k → w1.heap[k]? = w.heap[k]? := fun k h1 h2 => hu.2.2.2.2 k h1 h2
  have hb1 : w1.heap[g]? = some (.cells #[x.vs, .map (some x.be), .map (some x.bb), x.vt, .map (some x.br), .int .i64 G] 65 (0, 0)) := (hk g (blk_lt h.blk) (row_ne h.ws h.blk (by decide))).trans h.blk
  have hne : ∀ {e size n m : Nat} {v : Value} {xs : List Value}, w1.ownsRow m e size v n xs → 65 ≠ e → v.ownBlock ≠ some g := fun hr hT => row_ne hr hb1 hT
  have hmg : ∀ {K : Type} [BEq K] [LawfulBEq K] {kt b m : Nat} {c : KC K} {L : List (K × Value)}, MapB w kt c b m L → MapB (w1.setCell ⟨g, 0, none⟩ v) kt c b m L := fun hm => (hm.keep (w' := w1) (hk _ hm.lt (row_notmap h.ws hm))).keep (blk_other (fun e => (hm.keep (w' := w1) (hk _ hm.lt (row_notmap h.ws hm))).notcell ((congrArg (fun k => w1.heap[k]?) e).trans hb1)) _ _)
  have hr1 : ∀ {e size n m : Nat} {u : Value} {xs : List Value}, w.ownsRow m e size u n xs → 67 ≠ e → 65 ≠ e → (w1.setCell ⟨g, 0, none⟩ v).ownsRow m e size u n xs := fun {e size n m u xs} hr hT hT2 => by
    have h1 : w1.ownsRow m e size u n xs := row_keep hr (fun k e' => hk k (hr.lt k e').2 (fun e2 => row_ne2 hr h.ws hT k e2 e'))
    exact row_set_other h1 _ _ _ (hne h1 hT2)
  refine ⟨⟨blk_set hb1 0 _, h.lg, h.lm, h.ne, row_set_other hrow _ _ _ (hne hrow (by decide)), fun e he => row_set_other (hd e he) _ _ _ (hne (hd e he) (by decide)), hmg h.me, fun e he => ⟨hr1 (h.ep e he).1 (by decide) (by decide), (h.ep e he).2⟩, hmg h.mb, hr1 h.ts (by decide) (by decide), hmg h.mr⟩, ?_⟩
  exact Upd.trans (Upd.mono hu (fun k hk => .inr (.inr (.inr (.inr (.inl hk)))))) (Upd.of_grown (blk_grown w1 g 0 v) (.inl rfl))
/-- a turned row of tombs, stored -/
theorem Cr.setT (h : Cr w lo g x B T R G t) {v : Value} {T' : List (By × Int)} (hu : Upd (fun k => x.vt.ownBlock = some k) w w1) (hrow : TRow w1 lo v T') :
    Cr (w1.setCell ⟨g, 3, none⟩ v) lo g { x with vt := v } B T' R G t ∧ Upd (x.S g) w (w1.setCell ⟨g, 3, none⟩ v) := by
  have hk : ∀ k, k < w.heap.size → x.vt.ownBlock ≠ some k → w1.heap[k]? = w.heap[k]? := fun k h1 h2 => hu.2.2.2.2 k h1 h2
  have hb1 : w1.heap[g]? = some (.cells #[x.vs, .map (some x.be), .map (some x.bb), x.vt, .map (some x.br), .int .i64 G] 65 (0, 0)) := (hk g (blk_lt h.blk) (row_ne h.ts h.blk (by decide))).trans h.blk
  have hne : ∀ {e size n m : Nat} {v : Value} {xs : List Value}, w1.ownsRow m e size v n xs → 65 ≠ e → v.ownBlock ≠ some g := fun hr hT => row_ne hr hb1 hT
  have hmg : ∀ {K : Type} [BEq K] [LawfulBEq K] {kt b m : Nat} {c : KC K} {L : List (K × Value)}, MapB w kt c b m L → MapB (w1.setCell ⟨g, 3, none⟩ v) kt c b m L := fun hm => (hm.keep (w' := w1) (hk _ hm.lt (row_notmap h.ts hm))).keep (blk_other (fun e => (hm.keep (w' := w1) (hk _ hm.lt (row_notmap h.ts hm))).notcell ((congrArg (fun k => w1.heap[k]?) e).trans hb1)) _ _)
  have hr1 : ∀ {e size n m : Nat} {u : Value} {xs : List Value}, w.ownsRow m e size u n xs → 85 ≠ e → 65 ≠ e → (w1.setCell ⟨g, 3, none⟩ v).ownsRow m e size u n xs := fun {e size n m u xs} hr hT hT2 => by
    have h1 : w1.ownsRow m e size u n xs := row_keep hr (fun k e' => hk k (hr.lt k e').2 (fun e2 => row_ne2 hr h.ts hT k e2 e'))
    exact row_set_other h1 _ _ _ (hne h1 hT2)
  refine ⟨⟨blk_set hb1 3 _, h.lg, h.lm, h.ne, hr1 h.ws (by decide) (by decide), fun e he => hr1 (h.wd e he) (by decide) (by decide), hmg h.me, fun e he => ⟨hr1 (h.ep e he).1 (by decide) (by decide), (h.ep e he).2⟩, hmg h.mb, row_set_other hrow _ _ _ (hne hrow (by decide)), hmg h.mr⟩, ?_⟩
  exact Upd.trans (Upd.mono hu (fun k hk => .inr (.inr (.inr (.inr (.inr hk)))))) (Upd.of_grown (blk_grown w1 g 3 v) (.inl rfl))
/-- a map's block turned -/
theorem Cr.setM (h : Cr w lo g x B T R G t) {b : Nat} (hg : w.grownBy w1 (some b)) (hb : w.heap[b]? ≠ none ∧ ∀ cs T, w.heap[b]? ≠ some (.cells cs T (0, 0))) :
    (∀ k, k < w.heap.size → k ≠ b → w1.heap[k]? = w.heap[k]?) ∧ w1.heap[g]? = w.heap[g]? ∧ w1.ownsRow lo 67 2 x.vs x.W.length (flatW x.W) ∧ (∀ e ∈ x.W, OB w1 lo e.v e.d) ∧ (∀ e ∈ x.E, OP e.e.places e.v lo w1) ∧ w1.ownsRow lo 85 2 x.vt T.length (flatT T) := by
  have hk : ∀ k, k < w.heap.size → k ≠ b → w1.heap[k]? = w.heap[k]? := fun k h1 h2 => hg.block k h1 (fun e => h2 (by injection e))
  have hr : ∀ {e size n m : Nat} {u : Value} {xs : List Value}, w.ownsRow m e size u n xs → w1.ownsRow m e size u n xs := fun {e size n m u xs} hr => row_keep hr (fun k e' => hk k (hr.lt k e').2 (fun e2 => by
    subst e2
    rcases hr.2 with ⟨rfl, -⟩ | ⟨g, cap, cur, rfl, _, hgg, -⟩
    · cases e'
    · injection e' with e'
      have e' : g = k := e'
      subst e'
      exact hb.2 _ _ hgg))
  exact ⟨hk, hk g (blk_lt h.blk) (fun e => hb.2 _ _ (by rw [← e]; exact h.blk)), hr h.ws, fun e he => hr (h.wd e he), fun e he => ⟨hr (h.ep e he).1, (h.ep e he).2⟩, hr h.ts⟩
theorem MapB.isMap {K : Type} [BEq K] [LawfulBEq K] {kt b m : Nat} {c : KC K} {L : List (K × Value)} (h : MapB w kt c b m L) : w.heap[b]? ≠ none ∧ ∀ cs T, w.heap[b]? ≠ some (.cells cs T (0, 0)) :=
  ⟨fun e => by
    have h1 := h.lt
    rw [Array.getElem?_eq_none_iff] at e
    omega, fun cs T => h.notcell⟩
theorem Cr.setE (h : Cr w lo g x B T R G t) {t' : Nat} (ht : t ≤ t') {E' : List Et} (hg : w.grownBy w1 (some x.be)) (hm : MapB w1 9 KS x.be t' (eM E')) (hp : ∀ e ∈ E', OP e.e.places e.v lo w1) :
    Cr w1 lo g { x with E := E' } B T R G t' ∧ Upd (x.S g) w w1 := by
  obtain ⟨hk, h1, h2, h3, -, h5⟩ := h.setM hg h.me.isMap
  exact ⟨⟨h1.trans h.blk, h.lg, h.lm, h.ne, h2, h3, hm, hp, (h.mb.keep (hk _ h.mb.lt h.ne.1.symm)).more ht, h5, (h.mr.keep (hk _ h.mr.lt h.ne.2.1.symm)).more ht⟩, Upd.of_grown hg (.inr (.inl rfl))⟩
theorem Cr.setB (h : Cr w lo g x B T R G t) {t' : Nat} (ht : t ≤ t') {B' : List (By × Int)} (hg : w.grownBy w1 (some x.bb)) (hm : MapB w1 9 KS x.bb t' (bM B')) :
    Cr w1 lo g x B' T R G t' ∧ Upd (x.S g) w w1 := by
  obtain ⟨hk, h1, h2, h3, h4, h5⟩ := h.setM hg h.mb.isMap
  exact ⟨⟨h1.trans h.blk, h.lg, h.lm, h.ne, h2, h3, (h.me.keep (hk _ h.me.lt h.ne.1)).more ht, h4, hm, h5, (h.mr.keep (hk _ h.mr.lt h.ne.2.2.symm)).more ht⟩, Upd.of_grown hg (.inr (.inr (.inl rfl)))⟩
theorem Cr.setR (h : Cr w lo g x B T R G t) {t' : Nat} (ht : t ≤ t') {R' : List Int} (hg : w.grownBy w1 (some x.br)) (hm : MapB w1 3 KI x.br t' (rM R')) :
    Cr w1 lo g x B T R' G t' ∧ Upd (x.S g) w w1 := by
  obtain ⟨hk, h1, h2, h3, h4, h5⟩ := h.setM hg h.mr.isMap
  exact ⟨⟨h1.trans h.blk, h.lg, h.lm, h.ne, h2, h3, (h.me.keep (hk _ h.me.lt h.ne.2.1)).more ht, h4, (h.mb.keep (hk _ h.mb.lt h.ne.2.2)).more ht, h5, hm⟩, Upd.of_grown hg (.inr (.inr (.inr (.inl rfl))))⟩
end
theorem eM_del (E : List Et) (k : By) : eM (E.filter (fun e => e.e.key != k)) = delP (eM E) k := by
  unfold eM delP
  rw [List.filter_map]; rfl
theorem bM_del (B : List (By × Int)) (k : By) : bM (delP B k) = delP (bM B) k := by
  unfold bM delP
  rw [List.filter_map]; rfl
theorem filW_wc (l : List Wt) (k : By) : (filW k l).map (fun e => (e.k, e.d)) = delP (l.map (fun e => (e.k, e.d))) k := by
  unfold filW delP
  rw [List.filter_map]; rfl
theorem filE_ec (l : List Et) (k : By) : (l.filter (fun e => e.e.key != k)).map (fun e => (e.e.key, e.e)) = delP (l.map (fun e => (e.e.key, e.e))) k := by
  unfold delP
  rw [List.filter_map]; rfl
end Go.Proofs.Ythboeoidgglcgaa
