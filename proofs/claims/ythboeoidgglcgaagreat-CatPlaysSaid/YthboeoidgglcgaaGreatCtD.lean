/- cat: one part of a catalog turned, the others as they were. -/
import Derived.Test.YthboeoidgglcgaaGreatCtC
import Derived.Test.YthboeoidgglcgaaGreatReg2
namespace Go.Proofs.YthboeoidgglcgaaGreat
set_option linter.unusedVariables false
set_option linter.unusedSimpArgs false
open Go Go.RowKit Go.Maps
/-- a catalog's memory alone -/
structure Cr (w : World) (lo g : Nat) (x : CtX) (B T : List (By × Int)) (R : List Int) (G : Int) (t : Nat) : Prop where
  blk : w.heap[g]? = some (.cells #[x.vs, .map (some x.be), .map (some x.bb), x.vt, .map (some x.br), .int .i64 G] 56 (0, 0))
  lg : lo ≤ g
  lm : lo ≤ x.be ∧ lo ≤ x.bb ∧ lo ≤ x.br
  ne : x.be ≠ x.bb ∧ x.be ≠ x.br ∧ x.bb ≠ x.br
  ws : w.ownsRow lo 76 2 x.vs x.W.length (flatW x.W)
  wd : ∀ e ∈ x.W, OB w lo e.v e.d
  me : MapB w 9 KS x.be t (eM x.E)
  ep : ∀ e ∈ x.E, OP e.e.places e.v lo w
  mb : MapB w 9 KS x.bb t (bM B)
  ts : w.ownsRow lo 83 2 x.vt T.length (flatT T)
  mr : MapB w 3 KI x.br t (rM R)
theorem Ca.cr {w : World} {lo g t : Nat} {x : CtX} {c : CtP} (h : Ca w lo g x c t) : Cr w lo g x c.B c.T c.R c.G t := ⟨h.blk, h.lg, h.lm, h.ne, h.ws, h.wd, h.me, h.ep, h.mb, h.ts, h.mr⟩
theorem Cr.ca {w : World} {lo g t : Nat} {x : CtX} {c : CtP} (h : Cr w lo g x c.B c.T c.R c.G t) (hw : c.W = x.W.map (fun e => (e.k, e.d))) (he : c.E = x.E.map (fun e => (e.e.key, e.e))) (ok : c.Ok) (few : c.Few t) : Ca w lo g x c t := ⟨h.blk, h.lg, h.lm, h.ne, h.ws, h.wd, hw, h.me, h.ep, he, h.mb, h.ts, h.mr, ok, few⟩
section
variable {w w1 : World} {lo g t : Nat} {x : CtX} {B T : List (By × Int)} {R : List Int} {G : Int}
theorem Cr.more (h : Cr w lo g x B T R G t) {t' : Nat} (ht : t ≤ t') : Cr w lo g x B T R G t' := ⟨h.blk, h.lg, h.lm, h.ne, h.ws, h.wd, h.me.more ht, h.ep, h.mb.more ht, h.ts, h.mr.more ht⟩
theorem row_notmap' {K : Type} [BEq K] [LawfulBEq K] {base e size n b m : Nat} {v : Value} {xs : List Value} {k : TypeId} {c : KC K} {L : List (K × Value)} (h : w.ownsRow base e size v n xs) (hm : MapB w k c b m L) : ∀ j, v.ownBlock = some j → j ≠ b := fun j hj e => row_notmap h hm (by rw [hj, e])
/-- every part but the one whose block B is -/
theorem Cr.keep (h : Cr w lo g x B T R G t) (hk : ∀ k, k < w.heap.size → (k = g ∨ k = x.be ∨ k = x.bb ∨ k = x.br ∨ x.vs.ownBlock = some k ∨ x.vt.ownBlock = some k ∨ (∃ e ∈ x.W, e.v.ownBlock = some k) ∨ ∃ e ∈ x.E, e.v.ownBlock = some k) → w1.heap[k]? = w.heap[k]?) : Cr w1 lo g x B T R G t where
  blk := (hk g (blk_lt h.blk) (.inl rfl)).trans h.blk
  lg := h.lg
  lm := h.lm
  ne := h.ne
  ws := row_keep h.ws (fun k e => hk k (h.ws.lt k e).2 (.inr (.inr (.inr (.inr (.inl e))))))
  wd e he := row_keep (h.wd e he) (fun k e' => hk k ((h.wd e he).lt k e').2 (.inr (.inr (.inr (.inr (.inr (.inr (.inl ⟨e, he, e'⟩))))))))
  me := h.me.keep (hk _ h.me.lt (.inr (.inl rfl)))
  ep e he := ⟨row_keep (h.ep e he).1 (fun k e' => hk k ((h.ep e he).1.lt k e').2 (.inr (.inr (.inr (.inr (.inr (.inr (.inr ⟨e, he, e'⟩)))))))), (h.ep e he).2⟩
  mb := h.mb.keep (hk _ h.mb.lt (.inr (.inr (.inl rfl))))
  ts := row_keep h.ts (fun k e => hk k (h.ts.lt k e).2 (.inr (.inr (.inr (.inr (.inr (.inl e)))))))
  mr := h.mr.keep (hk _ h.mr.lt (.inr (.inr (.inr (.inl rfl)))))
theorem Cr.gr (h : Cr w lo g x B T R G t) (hg : Gr w w1) : Cr w1 lo g x B T R G t := h.keep (fun k hk _ => Below.block hg k hk)
theorem Cr.setG (h : Cr w lo g x B T R G t) (z : Int) : Cr (w.setCell ⟨g, 5, none⟩ (.int .i64 z)) lo g x B T R z t ∧ Upd (x.S g) w (w.setCell ⟨g, 5, none⟩ (.int .i64 z)) := by
  have hne : ∀ {e size n m : Nat} {v : Value} {xs : List Value}, w.ownsRow m e size v n xs → 56 ≠ e → v.ownBlock ≠ some g := fun hr hT => row_ne hr h.blk hT
  have hmg : ∀ {K : Type} [BEq K] [LawfulBEq K] {kt b m : Nat} {c : KC K} {L : List (K × Value)}, MapB w kt c b m L → b ≠ g := fun hm e => hm.notcell ((congrArg (fun k => w.heap[k]?) e).trans h.blk)
  refine ⟨⟨blk_set h.blk 5 _, h.lg, h.lm, h.ne, row_set_other h.ws _ _ _ (hne h.ws (by decide)), fun e he => row_set_other (h.wd e he) _ _ _ (hne (h.wd e he) (by decide)), h.me.keep (blk_other (hmg h.me) _ _), fun e he => ⟨row_set_other (h.ep e he).1 _ _ _ (hne (h.ep e he).1 (by decide)), (h.ep e he).2⟩, h.mb.keep (blk_other (hmg h.mb) _ _), row_set_other h.ts _ _ _ (hne h.ts (by decide)), h.mr.keep (blk_other (hmg h.mr) _ _)⟩, Upd.of_grown (blk_grown w g 5 _) (.inl rfl)⟩
/-- a turned row of staged blobs, stored -/
theorem Cr.setW (h : Cr w lo g x B T R G t) {v : Value} {W' : List Wt} (hu : Upd (fun k => x.vs.ownBlock = some k) w w1) (hrow : WRow w1 lo v W') (hd : ∀ e ∈ W', OB w1 lo e.v e.d) :
    Cr (w1.setCell ⟨g, 0, none⟩ v) lo g { x with vs := v, W := W' } B T R G t ∧ Upd (x.S g) w (w1.setCell ⟨g, 0, none⟩ v) := by
  have hk : ∀ k, k < w.heap.size → x.vs.ownBlock ≠ some k → w1.heap[k]? = w.heap[k]? := fun k h1 h2 => hu.2.2.2.2 k h1 h2
  have hb1 : w1.heap[g]? = some (.cells #[x.vs, .map (some x.be), .map (some x.bb), x.vt, .map (some x.br), .int .i64 G] 56 (0, 0)) := (hk g (blk_lt h.blk) (row_ne h.ws h.blk (by decide))).trans h.blk
  have hne : ∀ {e size n m : Nat} {v : Value} {xs : List Value}, w1.ownsRow m e size v n xs → 56 ≠ e → v.ownBlock ≠ some g := fun hr hT => row_ne hr hb1 hT
  have hmg : ∀ {K : Type} [BEq K] [LawfulBEq K] {kt b m : Nat} {c : KC K} {L : List (K × Value)}, MapB w kt c b m L → MapB (w1.setCell ⟨g, 0, none⟩ v) kt c b m L := fun hm => (hm.keep (w' := w1) (hk _ hm.lt (row_notmap h.ws hm))).keep (blk_other (fun e => (hm.keep (w' := w1) (hk _ hm.lt (row_notmap h.ws hm))).notcell ((congrArg (fun k => w1.heap[k]?) e).trans hb1)) _ _)
  have hr1 : ∀ {e size n m : Nat} {u : Value} {xs : List Value}, w.ownsRow m e size u n xs → 76 ≠ e → 56 ≠ e → (w1.setCell ⟨g, 0, none⟩ v).ownsRow m e size u n xs := fun {e size n m u xs} hr hT hT2 => by
    have h1 : w1.ownsRow m e size u n xs := row_keep hr (fun k e' => hk k (hr.lt k e').2 (fun e2 => row_ne2 hr h.ws hT k e2 e'))
    exact row_set_other h1 _ _ _ (hne h1 hT2)
  refine ⟨⟨blk_set hb1 0 _, h.lg, h.lm, h.ne, row_set_other hrow _ _ _ (hne hrow (by decide)), fun e he => row_set_other (hd e he) _ _ _ (hne (hd e he) (by decide)), hmg h.me, fun e he => ⟨hr1 (h.ep e he).1 (by decide) (by decide), (h.ep e he).2⟩, hmg h.mb, hr1 h.ts (by decide) (by decide), hmg h.mr⟩, ?_⟩
  exact Upd.trans (Upd.mono hu (fun k hk => .inr (.inr (.inr (.inr (.inl hk)))))) (Upd.of_grown (blk_grown w1 g 0 v) (.inl rfl))
/-- a turned row of tombs, stored -/
theorem Cr.setT (h : Cr w lo g x B T R G t) {v : Value} {T' : List (By × Int)} (hu : Upd (fun k => x.vt.ownBlock = some k) w w1) (hrow : TRow w1 lo v T') :
    Cr (w1.setCell ⟨g, 3, none⟩ v) lo g { x with vt := v } B T' R G t ∧ Upd (x.S g) w (w1.setCell ⟨g, 3, none⟩ v) := by
  have hk : ∀ k, k < w.heap.size → x.vt.ownBlock ≠ some k → w1.heap[k]? = w.heap[k]? := fun k h1 h2 => hu.2.2.2.2 k h1 h2
  have hb1 : w1.heap[g]? = some (.cells #[x.vs, .map (some x.be), .map (some x.bb), x.vt, .map (some x.br), .int .i64 G] 56 (0, 0)) := (hk g (blk_lt h.blk) (row_ne h.ts h.blk (by decide))).trans h.blk
  have hne : ∀ {e size n m : Nat} {v : Value} {xs : List Value}, w1.ownsRow m e size v n xs → 56 ≠ e → v.ownBlock ≠ some g := fun hr hT => row_ne hr hb1 hT
  have hmg : ∀ {K : Type} [BEq K] [LawfulBEq K] {kt b m : Nat} {c : KC K} {L : List (K × Value)}, MapB w kt c b m L → MapB (w1.setCell ⟨g, 3, none⟩ v) kt c b m L := fun hm => (hm.keep (w' := w1) (hk _ hm.lt (row_notmap h.ts hm))).keep (blk_other (fun e => (hm.keep (w' := w1) (hk _ hm.lt (row_notmap h.ts hm))).notcell ((congrArg (fun k => w1.heap[k]?) e).trans hb1)) _ _)
  have hr1 : ∀ {e size n m : Nat} {u : Value} {xs : List Value}, w.ownsRow m e size u n xs → 83 ≠ e → 56 ≠ e → (w1.setCell ⟨g, 3, none⟩ v).ownsRow m e size u n xs := fun {e size n m u xs} hr hT hT2 => by
    have h1 : w1.ownsRow m e size u n xs := row_keep hr (fun k e' => hk k (hr.lt k e').2 (fun e2 => row_ne2 hr h.ts hT k e2 e'))
    exact row_set_other h1 _ _ _ (hne h1 hT2)
  refine ⟨⟨blk_set hb1 3 _, h.lg, h.lm, h.ne, hr1 h.ws (by decide) (by decide), fun e he => hr1 (h.wd e he) (by decide) (by decide), hmg h.me, fun e he => ⟨hr1 (h.ep e he).1 (by decide) (by decide), (h.ep e he).2⟩, hmg h.mb, row_set_other hrow _ _ _ (hne hrow (by decide)), hmg h.mr⟩, ?_⟩
  exact Upd.trans (Upd.mono hu (fun k hk => .inr (.inr (.inr (.inr (.inr hk)))))) (Upd.of_grown (blk_grown w1 g 3 v) (.inl rfl))
/-- a map's block turned -/
theorem Cr.setM (h : Cr w lo g x B T R G t) {b : Nat} (hg : w.grownBy w1 (some b)) (hb : w.heap[b]? ≠ none ∧ ∀ cs T, w.heap[b]? ≠ some (.cells cs T (0, 0))) :
    (∀ k, k < w.heap.size → k ≠ b → w1.heap[k]? = w.heap[k]?) ∧ w1.heap[g]? = w.heap[g]? ∧ w1.ownsRow lo 76 2 x.vs x.W.length (flatW x.W) ∧ (∀ e ∈ x.W, OB w1 lo e.v e.d) ∧ (∀ e ∈ x.E, OP e.e.places e.v lo w1) ∧ w1.ownsRow lo 83 2 x.vt T.length (flatT T) := by
  have hk : ∀ k, k < w.heap.size → k ≠ b → w1.heap[k]? = w.heap[k]? := fun k h1 h2 => hg.block k h1 (fun e => h2 (by injection e))
  have hr : ∀ {e size n m : Nat} {u : Value} {xs : List Value}, w.ownsRow m e size u n xs → w1.ownsRow m e size u n xs := fun {e size n m u xs} hr => row_keep hr (fun k e' => hk k (hr.lt k e').2 (fun e2 => by
    subst e2
    rcases hr.2 with ⟨rfl, -⟩ | ⟨g, cap, cur, rfl, _, hgg, -⟩
    · cases e'
    · injection e' with e'
      have e' : g = k := e'
      subst e'
      exact hb.2 _ _ hgg))
  exact ⟨hk, hk g (blk_lt h.blk) (fun e => hb.2 _ _ (by rw [← e]; exact h.blk)), hr h.ws, fun e he => hr (h.wd e he), fun e he => ⟨hr (h.ep e he).1, (h.ep e he).2⟩, hr h.ts⟩
theorem MapB.isMap {K : Type} [BEq K] [LawfulBEq K] {kt b m : Nat} {c : KC K} {L : List (K × Value)} (h : MapB w kt c b m L) : w.heap[b]? ≠ none ∧ ∀ cs T, w.heap[b]? ≠ some (.cells cs T (0, 0)) :=
  ⟨fun e => by
    have h1 := h.lt
    rw [Array.getElem?_eq_none_iff] at e
    omega, fun cs T => h.notcell⟩
theorem Cr.setE (h : Cr w lo g x B T R G t) {t' : Nat} (ht : t ≤ t') {E' : List Et} (hg : w.grownBy w1 (some x.be)) (hm : MapB w1 9 KS x.be t' (eM E')) (hp : ∀ e ∈ E', OP e.e.places e.v lo w1) :
    Cr w1 lo g { x with E := E' } B T R G t' ∧ Upd (x.S g) w w1 := by
  obtain ⟨hk, h1, h2, h3, -, h5⟩ := h.setM hg h.me.isMap
  exact ⟨⟨h1.trans h.blk, h.lg, h.lm, h.ne, h2, h3, hm, hp, (h.mb.keep (hk _ h.mb.lt h.ne.1.symm)).more ht, h5, (h.mr.keep (hk _ h.mr.lt h.ne.2.1.symm)).more ht⟩, Upd.of_grown hg (.inr (.inl rfl))⟩
theorem Cr.setB (h : Cr w lo g x B T R G t) {t' : Nat} (ht : t ≤ t') {B' : List (By × Int)} (hg : w.grownBy w1 (some x.bb)) (hm : MapB w1 9 KS x.bb t' (bM B')) :
    Cr w1 lo g x B' T R G t' ∧ Upd (x.S g) w w1 := by
  obtain ⟨hk, h1, h2, h3, h4, h5⟩ := h.setM hg h.mb.isMap
  exact ⟨⟨h1.trans h.blk, h.lg, h.lm, h.ne, h2, h3, (h.me.keep (hk _ h.me.lt h.ne.1)).more ht, h4, hm, h5, (h.mr.keep (hk _ h.mr.lt h.ne.2.2.symm)).more ht⟩, Upd.of_grown hg (.inr (.inr (.inl rfl)))⟩
theorem Cr.setR (h : Cr w lo g x B T R G t) {t' : Nat} (ht : t ≤ t') {R' : List Int} (hg : w.grownBy w1 (some x.br)) (hm : MapB w1 3 KI x.br t' (rM R')) :
    Cr w1 lo g x B T R' G t' ∧ Upd (x.S g) w w1 := by
  obtain ⟨hk, h1, h2, h3, h4, h5⟩ := h.setM hg h.mr.isMap
  exact ⟨⟨h1.trans h.blk, h.lg, h.lm, h.ne, h2, h3, (h.me.keep (hk _ h.me.lt h.ne.2.1)).more ht, h4, (h.mb.keep (hk _ h.mb.lt h.ne.2.2)).more ht, h5, hm⟩, Upd.of_grown hg (.inr (.inr (.inr (.inl rfl))))⟩
end
theorem eM_del (E : List Et) (k : By) : eM (E.filter (fun e => e.e.key != k)) = delP (eM E) k := by
  unfold eM delP
  rw [List.filter_map]; rfl
theorem bM_del (B : List (By × Int)) (k : By) : bM (delP B k) = delP (bM B) k := by
  unfold bM delP
  rw [List.filter_map]; rfl
theorem filW_wc (l : List Wt) (k : By) : (filW k l).map (fun e => (e.k, e.d)) = delP (l.map (fun e => (e.k, e.d))) k := by
  unfold filW delP
  rw [List.filter_map]; rfl
theorem filE_ec (l : List Et) (k : By) : (l.filter (fun e => e.e.key != k)).map (fun e => (e.e.key, e.e)) = delP (l.map (fun e => (e.e.key, e.e))) k := by
  unfold delP
  rw [List.filter_map]; rfl
end Go.Proofs.YthboeoidgglcgaaGreat
/- cat: New; a key that may be named; a blob that is not staged any more. -/
namespace Go.Proofs.YthboeoidgglcgaaGreat
set_option linter.unusedVariables false
set_option linter.unusedSimpArgs false
open Go Go.RowKit Go.Maps
set_option maxRecDepth 10000 in
theorem cnew_any (w : World) : Calls Tryz.prog 4 #[] w fun e w' => ∃ g x, e = .returned (.pointer (some ⟨g, 0, none⟩)) ∧ Ca w' w.heap.size g x CtP.none_ 0 ∧ Gr w w' := by
  have hmm := @run_makeMap Tryz.prog
  go_enter Tryz.func4, Tryz.ntmps4
  go_wp2_with fail
  go_ret
  refine ⟨_, ⟨.slice none 0 0, .slice none 0 0, w.heap.size, w.heap.size + 1, w.heap.size + 2, [], []⟩, rfl, ?_, ((Gr.alloc _ _).trans (Gr.alloc _ _)).trans ((Gr.alloc _ _).trans (Gr.alloc _ _))⟩
  have m0 : MapB (((w.alloc (.map #[] 0)).alloc (.map #[] 0)).alloc (.map #[] 0)) 9 KS w.heap.size 0 ([] : List (By × Value)) := ⟨0, _, Nat.le_refl _, World.ownsMap.alloc (World.ownsMap.alloc (World.ownsMap_made w _ _ _) _) _, MpR.nil_ _⟩
  have m1 : MapB (((w.alloc (.map #[] 0)).alloc (.map #[] 0)).alloc (.map #[] 0)) 9 KS (w.heap.size + 1) 0 ([] : List (By × Value)) := ⟨0, _, Nat.le_refl _, by have := World.ownsMap.alloc (World.ownsMap_made (w.alloc (.map #[] 0)) Tryz.prog 9 RV) (.map #[] 0); simpa using this, MpR.nil_ _⟩
  have m2 : MapB (((w.alloc (.map #[] 0)).alloc (.map #[] 0)).alloc (.map #[] 0)) 3 KI (w.heap.size + 2) 0 ([] : List (Int × Value)) := ⟨0, _, Nat.le_refl _, by have := World.ownsMap_made ((w.alloc (.map #[] 0)).alloc (.map #[] 0)) Tryz.prog 3 RV; simpa using this, MpR.nil_ _⟩
  obtain ⟨w3, hw3⟩ : ∃ w3, ((w.alloc (.map #[] 0)).alloc (.map #[] 0)).alloc (.map #[] 0) = w3 := ⟨_, rfl⟩
  have hs3 : w3.heap.size = w.heap.size + 3 := by rw [← hw3]; simp
  rw [hw3] at m0 m1 m2
  refine Cr.ca (c := CtP.none_) ⟨?_, by omega, ⟨Nat.le_refl _, by show w.heap.size ≤ w.heap.size + 1; omega, by show w.heap.size ≤ w.heap.size + 2; omega⟩, ⟨by show w.heap.size ≠ w.heap.size + 1; omega, by show w.heap.size ≠ w.heap.size + 2; omega, by show w.heap.size + 1 ≠ w.heap.size + 2; omega⟩, World.ownsRow_nil _ _ _ 2, fun e he => (by cases he), ?_, fun e he => (by cases he), ?_, World.ownsRow_nil _ _ _ 2, ?_⟩ rfl rfl CtP.none_ok ⟨Nat.le_refl _, Nat.le_refl _, Nat.le_refl _, Nat.le_refl _, Nat.le_refl _⟩
  · have := heap_alloc_new w3 (.cells #[.slice none 0 0, .map (some w.heap.size), .map (some (w.heap.size + 1)), .slice none 0 0, .map (some (w.heap.size + 2)), .int .i64 0] 56)
    rw [hs3] at this
    rw [hw3]
    exact this
  · rw [hw3]; exact m0.keep (Below.heap_alloc _ _ _ (by rw [hs3]; show w.heap.size < _; omega))
  · rw [hw3]; exact m1.keep (Below.heap_alloc _ _ _ (by rw [hs3]; show w.heap.size + 1 < _; omega))
  · rw [hw3]; exact m2.keep (Below.heap_alloc _ _ _ (by rw [hs3]; show w.heap.size + 2 < _; omega))
section
variable (lo g t : Nat) (x : CtX) (c : CtP) (w : World) (h : Hid (Ca w lo g x c t))
include h
set_option maxRecDepth 10000 in
set_option maxHeartbeats 1000000 in
theorem named_any (n : Nt) (v : Value) (hk : n.key.length ≤ maxLen) (hv : NtV n v w) : Calls Tryz.prog 49 #[.pointer (some ⟨g, 0, none⟩), v] w fun e w' => e = .returned (.bool (c.named n.key n.gen)) ∧ Gr w w' := by
  obtain ⟨A, ca, A2, c2, rfl, -, -⟩ := hv
  obtain ⟨N, hN⟩ : ∃ N, w.heap.size = N := ⟨_, rfl⟩
  obtain ⟨nk, ny, ng, nc, nd, nu, ns, np⟩ := n
  unfold Nt.agg
  simp only at hk ⊢
  generalize nd.length = ld
  generalize np.length = lp
  obtain ⟨W, hW⟩ : ∃ W, w.alloc (.cells #[.int .i64 nk, .string (bs ny), .int .i64 ng, .int .i64 nc, .slice A ld ca, .string (bs nu), .int .i64 ns, .slice A2 lp c2] 37) = W := ⟨_, rfl⟩
  have hgW : Gr w W := by rw [← hW]; exact Gr.alloc _ _
  have hbW : W.heap[N]? = some (.cells #[.int .i64 nk, .string (bs ny), .int .i64 ng, .int .i64 nc, .slice A ld ca, .string (bs nu), .int .i64 ns, .slice A2 lp c2] 37 (0, 0)) := by rw [← hW, ← hN]; exact heap_alloc_new w _
  obtain ⟨wd, hwd⟩ : ∃ wd, wd = W.drew := ⟨_, rfl⟩
  have hgd : Gr w wd := by rw [hwd]; exact hgW.trans ((Below.refl _ _).drew)
  have y1 : wd.cell? ⟨N, 1, none⟩ = some (.string (bs ny)) := by rw [hwd]; exact blk_cell (j := 1) hbW rfl
  have y2 : wd.cell? ⟨N, 2, none⟩ = some (.int .i64 ng) := by rw [hwd]; exact blk_cell (j := 2) hbW rfl
  have c5 := blk_cell (j := 5) (h.out.gr hgd).blk rfl
  have hkc := Lib.hid (fitKey_any ny hk wd)
  have hin := in_any ng 1 c.G wd
  have hnm : c.named ny ng = (keyOk ny && inB ng 1 c.G) := rfl
  rw [hnm]
  generalize c.G = G at c5 hin
  replace hin := Lib.hid hin
  replace hgd := Lib.hid hgd
  replace hgW := Lib.hid hgW
  replace hbW := Lib.hid hbW
  clear h hnm
  go_enter Tryz.func49, Tryz.ntmps49
  go_upto_region 1 with (fail)
  replace hW := Lib.hid hW
  replace hN := Lib.hid hN
  cases hko : keyOk ny with
  | true =>
    rw [hko] at hkc
    replace hko := Lib.hid hko
    refine wpR_region (Eq) 9999 (by kernel_rfl) ?_
    (rw [← hwd]; replace hwd := Lib.hid hwd)
    refine wT (i := 0) (v := ?_) (⟨fun _ => rfl, Eq.trans⟩) (some 5) rfl (fun w' hw' => ?_) ?_
    rotate_left
    · go_simp; with_reducible rfl
    simp only [Act.put, List.setIfInBounds_toArray, List.set_cons_zero, List.set_cons_succ]
    refine wT (i := 1) (v := ?_) (⟨fun _ => rfl, Eq.trans⟩) (some 6) rfl (fun w' hw' => ?_) ?_
    rotate_left
    · subst hw'; go_simp; with_reducible rfl
    simp only [Act.put, List.setIfInBounds_toArray, List.set_cons_zero, List.set_cons_succ]
    refine wpR_one 2 rfl (by kernel_rfl) (by kernel_rfl) (fun K hK => ?_)
    go_simp
    refine hkc.out.mono ?_
    rintro e w' ⟨rfl, hee⟩
    rw [hee]
    clear hee
    refine hK _ _ (fun _ => rfl) ?_
    clear hK K
    try simp only [Act.put, List.setIfInBounds_toArray, List.set_cons_zero, List.set_cons_succ]
    refine wT (i := 3) (v := ?_) (⟨fun _ => rfl, Eq.trans⟩) (some 8) rfl (fun w' hw' => ?_) ?_
    rotate_left
    · go_simp; with_reducible rfl
    simp only [Act.put, List.setIfInBounds_toArray, List.set_cons_zero, List.set_cons_succ]
    refine wT (i := 4) (v := ?_) (⟨fun _ => rfl, Eq.trans⟩) (some 9) rfl (fun w' hw' => ?_) ?_
    rotate_left
    · go_simp; with_reducible rfl
    simp only [Act.put, List.setIfInBounds_toArray, List.set_cons_zero, List.set_cons_succ]
    refine wT (i := 5) (v := ?_) (⟨fun _ => rfl, Eq.trans⟩) (some 10) rfl (fun w' hw' => ?_) ?_
    rotate_left
    · subst hw'; go_simp; with_reducible rfl
    simp only [Act.put, List.setIfInBounds_toArray, List.set_cons_zero, List.set_cons_succ]
    refine wT (i := 6) (v := ?_) (⟨fun _ => rfl, Eq.trans⟩) (some 11) rfl (fun w' hw' => ?_) ?_
    rotate_left
    · go_simp; with_reducible rfl
    simp only [Act.put, List.setIfInBounds_toArray, List.set_cons_zero, List.set_cons_succ]
    refine wT (i := 7) (v := ?_) (⟨fun _ => rfl, Eq.trans⟩) (some 12) rfl (fun w' hw' => ?_) ?_
    rotate_left
    · go_simp; with_reducible rfl
    simp only [Act.put, List.setIfInBounds_toArray, List.set_cons_zero, List.set_cons_succ]
    refine wT (i := 8) (v := ?_) (⟨fun _ => rfl, Eq.trans⟩) (some 13) rfl (fun w' hw' => ?_) ?_
    rotate_left
    · go_simp; with_reducible rfl
    simp only [Act.put, List.setIfInBounds_toArray, List.set_cons_zero, List.set_cons_succ]
    refine wT (i := 9) (v := ?_) (⟨fun _ => rfl, Eq.trans⟩) (some 14) rfl (fun w' hw' => ?_) ?_
    rotate_left
    · subst hw'; go_simp; with_reducible rfl
    simp only [Act.put, List.setIfInBounds_toArray, List.set_cons_zero, List.set_cons_succ]
    refine wpR_one 10 rfl (by kernel_rfl) (by kernel_rfl) (fun K hK => ?_)
    go_simp
    refine hin.out.mono ?_
    rintro e w' ⟨rfl, hee⟩
    rw [hee]
    clear hee
    refine hK _ _ (fun _ => rfl) ?_
    clear hK K
    try simp only [Act.put, List.setIfInBounds_toArray, List.set_cons_zero, List.set_cons_succ]
    refine wT (i := 11) (v := ?_) (⟨fun _ => rfl, Eq.trans⟩) (some 16) rfl (fun w' hw' => ?_) ?_
    rotate_left
    · go_simp; with_reducible rfl
    simp only [Act.put, List.setIfInBounds_toArray, List.set_cons_zero, List.set_cons_succ]
    refine wT (i := 12) (v := ?_) (⟨fun _ => rfl, Eq.trans⟩) (some 4) rfl (fun w' hw' => ?_) ?_
    rotate_left
    · go_simp; with_reducible rfl
    simp only [Act.put, List.setIfInBounds_toArray, List.set_cons_zero, List.set_cons_succ]
    refine wpR_done (by kernel_rfl) ?_ _
    go_wp2_with fail
    go_ret
    exact ⟨by simp [hko.out], hgd.out⟩
  | false =>
    rw [hko] at hkc
    replace hko := Lib.hid hko
    refine wpR_region (Eq) 9999 (by kernel_rfl) ?_
    (rw [← hwd]; replace hwd := Lib.hid hwd)
    refine wT (i := 0) (v := ?_) (⟨fun _ => rfl, Eq.trans⟩) (some 5) rfl (fun w' hw' => ?_) ?_
    rotate_left
    · go_simp; with_reducible rfl
    simp only [Act.put, List.setIfInBounds_toArray, List.set_cons_zero, List.set_cons_succ]
    refine wT (i := 1) (v := ?_) (⟨fun _ => rfl, Eq.trans⟩) (some 6) rfl (fun w' hw' => ?_) ?_
    rotate_left
    · subst hw'; go_simp; with_reducible rfl
    simp only [Act.put, List.setIfInBounds_toArray, List.set_cons_zero, List.set_cons_succ]
    refine wpR_one 2 rfl (by kernel_rfl) (by kernel_rfl) (fun K hK => ?_)
    go_simp
    refine hkc.out.mono ?_
    rintro e w' ⟨rfl, hee⟩
    rw [hee]
    clear hee
    refine hK _ _ (fun _ => rfl) ?_
    clear hK K
    try simp only [Act.put, List.setIfInBounds_toArray, List.set_cons_zero, List.set_cons_succ]
    refine wT (i := 3) (v := ?_) (⟨fun _ => rfl, Eq.trans⟩) (some 8) rfl (fun w' hw' => ?_) ?_
    rotate_left
    · go_simp; with_reducible rfl
    simp only [Act.put, List.setIfInBounds_toArray, List.set_cons_zero, List.set_cons_succ]
    refine wpR_skip (i := 4) (⟨fun _ => rfl, Eq.trans⟩) (some 9) rfl (by kernel_rfl) (by kernel_rfl) (by kernel_rfl) (by kernel_rfl) (by kernel_rfl) (fun _ _ _ h => h) (by kernel_rfl) ?_
    simp only [Act.put, List.setIfInBounds_toArray, List.set_cons_zero, List.set_cons_succ]
    refine wpR_skip (i := 5) (⟨fun _ => rfl, Eq.trans⟩) (some 10) rfl (by kernel_rfl) (by kernel_rfl) (by kernel_rfl) (by kernel_rfl) (by kernel_rfl) (fun _ _ _ h => h) (by kernel_rfl) ?_
    simp only [Act.put, List.setIfInBounds_toArray, List.set_cons_zero, List.set_cons_succ]
    refine wpR_skip (i := 6) (⟨fun _ => rfl, Eq.trans⟩) (some 11) rfl (by kernel_rfl) (by kernel_rfl) (by kernel_rfl) (by kernel_rfl) (by kernel_rfl) (fun _ _ _ h => h) (by kernel_rfl) ?_
    simp only [Act.put, List.setIfInBounds_toArray, List.set_cons_zero, List.set_cons_succ]
    refine wpR_skip (i := 7) (⟨fun _ => rfl, Eq.trans⟩) (some 12) rfl (by kernel_rfl) (by kernel_rfl) (by kernel_rfl) (by kernel_rfl) (by kernel_rfl) (fun _ _ _ h => h) (by kernel_rfl) ?_
    simp only [Act.put, List.setIfInBounds_toArray, List.set_cons_zero, List.set_cons_succ]
    refine wpR_skip (i := 8) (⟨fun _ => rfl, Eq.trans⟩) (some 13) rfl (by kernel_rfl) (by kernel_rfl) (by kernel_rfl) (by kernel_rfl) (by kernel_rfl) (fun _ _ _ h => h) (by kernel_rfl) ?_
    simp only [Act.put, List.setIfInBounds_toArray, List.set_cons_zero, List.set_cons_succ]
    refine wpR_skip (i := 9) (⟨fun _ => rfl, Eq.trans⟩) (some 14) rfl (by kernel_rfl) (by kernel_rfl) (by kernel_rfl) (by kernel_rfl) (by kernel_rfl) (fun _ _ _ h => h) (by kernel_rfl) ?_
    simp only [Act.put, List.setIfInBounds_toArray, List.set_cons_zero, List.set_cons_succ]
    refine wpR_skip (i := 10) (⟨fun _ => rfl, Eq.trans⟩) (some 15) rfl (by kernel_rfl) (by kernel_rfl) (by kernel_rfl) (by kernel_rfl) (by kernel_rfl) (fun _ _ _ h => h) (by kernel_rfl) ?_
    simp only [Act.put, List.setIfInBounds_toArray, List.set_cons_zero, List.set_cons_succ]
    refine wT (i := 11) (v := ?_) (⟨fun _ => rfl, Eq.trans⟩) (some 16) rfl (fun w' hw' => ?_) ?_
    rotate_left
    · go_simp; with_reducible rfl
    simp only [Act.put, List.setIfInBounds_toArray, List.set_cons_zero, List.set_cons_succ]
    refine wT (i := 12) (v := ?_) (⟨fun _ => rfl, Eq.trans⟩) (some 4) rfl (fun w' hw' => ?_) ?_
    rotate_left
    · go_simp; with_reducible rfl
    simp only [Act.put, List.setIfInBounds_toArray, List.set_cons_zero, List.set_cons_succ]
    refine wpR_done (by kernel_rfl) ?_ _
    go_wp2_with fail
    go_ret
    exact ⟨by simp [hko.out], hgd.out⟩
end
end Go.Proofs.YthboeoidgglcgaaGreat
/- cat: a blob is not staged any more. -/
namespace Go.Proofs.YthboeoidgglcgaaGreat
set_option linter.unusedVariables false
set_option linter.unusedSimpArgs false
open Go Go.RowKit Go.Maps
theorem Cr.form {w : World} {lo g t : Nat} {x : CtX} {B T : List (By × Int)} {R : List Int} {G : Int} (h : Cr w lo g x B T R G t) : ∃ A ca, x.vs = .slice A x.W.length ca := by
  obtain ⟨A, ca, e1, -⟩ := row_form h.ws
  exact ⟨A, ca, e1⟩
theorem Upd.own_gr {v : Value} {w w1 w2 : World} (hg : Gr w w1) (hu : Upd (fun k => v.ownBlock = some k) w1 w2) : Upd (fun k => v.ownBlock = some k) w w2 := (Upd.of_below hg).trans hu
theorem Cr.data_kept {w w1 : World} {lo g t : Nat} {x : CtX} {B T : List (By × Int)} {R : List Int} {G : Int} (h : Cr w lo g x B T R G t) (hu : Upd (fun k => x.vs.ownBlock = some k) w w1) : ∀ e ∈ x.W, OB w1 lo e.v e.d := fun e he => row_keep (h.wd e he) (fun k e' => hu.2.2.2.2 k ((h.wd e he).lt k e').2 (fun e2 => row_ne2 (h.wd e he) h.ws (by decide) k e2 e'))
set_option maxRecDepth 10000 in
set_option maxHeartbeats 1000000 in
theorem unstage_any (lo g t : Nat) (x : CtX) (B T : List (By × Int)) (R : List Int) (G : Int) (w : World) (h : Hid (Cr w lo g x B T R G t)) (hl : x.W.length ≤ 100000) (key : By) :
    Calls Tryz.prog 50 #[.pointer (some ⟨g, 0, none⟩), .string (bs key)] w fun e w' => (∃ v, e = .returned v) ∧ ∃ v', Hid (Cr w' lo g { x with vs := v', W := filW key x.W } B T R G t) ∧ v'.ownBlock = x.vs.ownBlock ∧ Upd (x.S g) w w' := by
  obtain ⟨A, cp, hv⟩ := h.out.form
  obtain ⟨N, hN⟩ : ∃ N, w.heap.size = N := ⟨_, rfl⟩
  obtain ⟨W, hW⟩ : ∃ W, w.alloc (.cells #[.string (bs key)] 9) = W := ⟨_, rfl⟩
  have hgW : Gr w W := by rw [← hW]; exact Gr.alloc _ _
  have hbW : W.heap[N]? = some (.cells #[.string (bs key)] 9 (0, 0)) := by rw [← hW, ← hN]; exact heap_alloc_new w _
  have hcW := h.out.gr hgW
  have hbk := hcW.blk
  rw [hv] at hbk
  have c0 := blk_cell (j := 0) hbk rfl
  have hrow : WRow W lo (.slice A x.W.length cp) x.W := by rw [← hv]; exact hcW.ws
  have hdel := deletef_W lo N key A x.W.length cp x.W rfl (by omega) W hbW hrow
  unfold dropF at hdel
  rw [← hv] at hdel
  have hkb : Hid (∀ w1, Upd (fun k => x.vs.ownBlock = some k) W w1 → w1.heap[g]? = some (.cells #[x.vs, .map (some x.be), .map (some x.bb), x.vt, .map (some x.br), .int .i64 G] 56 (0, 0))) := Lib.hid (fun w1 hu => (hu.2.2.2.2 g (blk_lt hcW.blk) (row_ne hcW.ws hcW.blk (by decide))).trans hcW.blk)
  rw [hv] at hdel
  replace hdel := Lib.hid hdel
  replace hgW := Lib.hid hgW
  replace hbW := Lib.hid hbW
  replace hbk := Lib.hid hbk
  replace hcW := Lib.hid hcW
  replace hrow := Lib.hid hrow
  replace hv := Lib.hid hv
  generalize hn : x.W.length = n at c0 hdel hv
  replace hn := Lib.hid hn
  clear hl
  go_enter Tryz.func50, Tryz.ntmps50
  go_upto_region 1 with (fail)
  replace hW := Lib.hid hW
  replace hN := Lib.hid hN
  go_wp2_with (go_at_call 65; go_must (refine hdel.out.mono ?_); clear hdel; rintro e w1 ⟨v1, rfl, hr1, ho1, hu1⟩; obtain ⟨A1, c1, rfl, -, -⟩ := row_form hr1; generalize hm1 : (filW key x.W).length = m1 at *; replace hm1 := Lib.hid hm1; rw [← hv.out] at ho1 hu1; have hb1 := hkb.out _ hu1; have q0 := blk_cell (j := 0) hb1 rfl; have f0 := blk_free hb1 0)
  go_end0
  rw [hm1.out.symm] at hr1 ho1 ⊢
  obtain ⟨h2, hu2⟩ := hcW.out.setW hu1 hr1 (fun e he => hcW.out.data_kept hu1 e (List.mem_filter.mp he).1)
  exact ⟨⟨_, rfl⟩, _, Lib.hid h2, ho1, (Upd.of_below hgW.out).trans hu2⟩
end Go.Proofs.YthboeoidgglcgaaGreat
/- cat: Put. -/
namespace Go.Proofs.YthboeoidgglcgaaGreat
set_option linter.unusedVariables false
set_option linter.unusedSimpArgs false
open Go Go.RowKit Go.Maps
/-- what an act on a catalog leaves -/
def ActPost (lo g t : Nat) (x : CtX) (w : World) (rc : Int × CtP) (e : Ending) (w' : World) : Prop :=
  e = .returned (.int .i64 rc.1) ∧ ∃ x', Cr w' lo g x' rc.2.B rc.2.T rc.2.R rc.2.G (t + 1) ∧ rc.2.W = x'.W.map (fun e => (e.k, e.d)) ∧ rc.2.E = x'.E.map (fun e => (e.e.key, e.e)) ∧ Upd (x.S g) w w' ∧ ∀ k, x'.S g k → x.S g k ∨ w.heap.size ≤ k
theorem ActPost.same {lo g t : Nat} {x : CtX} {c : CtP} {w w' : World} (h : Ca w lo g x c t) (hg : Gr w w') (r : Int) : ActPost lo g t x w (r, c) (.returned (.int .i64 r)) w' :=
  ⟨rfl, x, ((h.gr hg).cr).more (Nat.le_succ _), h.wc, h.ec, Upd.of_below hg, fun k hk => .inl hk⟩
theorem lit_blob (w : World) (k : By) (A : Option Addr) (n c : Nat) : Reads (w.alloc (.cells #[.string (bs k), .slice A n c] 76)) (w.heap.size + 1) 2 (some ⟨w.heap.size, 0, none⟩) 1 [.string (bs k), .slice A n c] := by
  have hh := World.news_of_block (heap_alloc_new w (.cells #[.string (bs k), .slice A n c] 76))
  exact ⟨rfl, fun _ => ⟨_, rfl, Nat.lt_succ_self _, fun j u hu => hh j u hu⟩⟩
theorem wp_appW {w : World} {o : Oper} {a : Act} {Q : Exit → Act → World → Prop} {K : Act → World → Prop} (s x : Operand)
    (ho : o.op = .call { callee := .builtin .append, args := #[s, x], argTypes := #[53, 53] })
    (base : Nat) (v : Value) (l : List Wt) (hs : a.eval s = v) (hown : WRow w base v l)
    (B : Nat) (A : Option Addr) (c : Nat) (q : Wt) (hx : a.eval x = .slice A 1 c) (hr : Reads w B 2 A 1 (flatW [q]))
    (hlen : l.length ≤ 100000) (hbase : base ≤ w.heap.size)
    (h : ∀ v' w', WRow w' base v' (l ++ [q]) → w.grownBy w' v.ownBlock → (v'.ownBlock = v.ownBlock ∨ v'.ownBlock = some w.heap.size) → K (a.put o.dst v') w') : Oper.wp Tryz.prog o a w K Q := by
  obtain ⟨i0, hi, hz0, hz1, hz2⟩ := info_parts info_blob
  refine wp_append_any w s x 53 ho base 76 i0 _ 2 40 Tryz.underlying53 hi hz0 hz1 hz2 rfl (by omega) v l.length (flatW l) hs hown B A 1 c (flatW [q]) hx hr (flatW_one [q])
    (by simp only [maxLen]; omega) (by omega) hbase fun v' w' h2 h3 h4 => h v' w' ?_ h3 h4
  unfold WRow
  rw [List.length_append, flatW_app]
  exact h2
theorem put_end {w w5 w8 : World} {lo g t : Nat} {x : CtX} {c : CtP} {q : Wt} {v8 : Value} {n : Nt} {o : Obj}
    (h : Ca w lo g x c t) (hg : Gr w w5) (hq : OB w5 lo q.v q.d) (hr8 : WRow w8 lo v8 (x.W ++ [q])) (hg8 : (w5.alloc o).grownBy w8 x.vs.ownBlock) (ho8 : v8.ownBlock = x.vs.ownBlock ∨ v8.ownBlock = some (w5.alloc o).heap.size) (hn : c.put n = (0, { c with W := c.W ++ [(q.k, q.d)] })) :
    ActPost lo g t x w (0, { c with W := c.W ++ [(q.k, q.d)] }) (.returned (.int .i64 0)) (w8.setCell ⟨g, 0, none⟩ v8) := by
  have h5 := (h.gr hg).cr
  have hu : Upd (fun k => x.vs.ownBlock = some k) w5 w8 := (Upd.of_below (Gr.alloc w5 o)).trans (Upd.of_own hg8)
  have hqk : OB w8 lo q.v q.d := row_keep hq (fun k e' => hu.2.2.2.2 k (hq.lt k e').2 (fun e2 => row_ne2 hq h5.ws (by decide) k e2 e'))
  obtain ⟨h9, hu9⟩ := h5.setW hu hr8 (fun e he => by
    rcases List.mem_append.mp he with he | he
    · exact h5.data_kept hu e he
    · rw [List.mem_singleton.mp he]; exact hqk)
  refine ⟨rfl, _, h9.more (Nat.le_succ _), ?_, h.ec, (Upd.of_below hg).trans hu9, fun k hk => ?_⟩
  · show c.W ++ _ = _
    rw [h.wc, List.map_append]; rfl
  · rcases hk with hk | hk | hk | hk | hk | hk
    · exact .inl (.inl hk)
    · exact .inl (.inr (.inl hk))
    · exact .inl (.inr (.inr (.inl hk)))
    · exact .inl (.inr (.inr (.inr (.inl hk))))
    · have hk : v8.ownBlock = some k := hk
      rcases ho8 with e | e
      · exact .inl (.inr (.inr (.inr (.inr (.inl (by rw [← e]; exact hk))))))
      · rw [hk] at e
        injection e with e
        right
        have := Below.size hg
        rw [e]; simp; omega
    · exact .inl (.inr (.inr (.inr (.inr (.inr hk)))))
section
variable (lo g t : Nat) (x : CtX) (c : CtP) (w : World) (h : Hid (Ca w lo g x c t))
include h
set_option maxRecDepth 10000 in
set_option maxHeartbeats 2000000 in
theorem put_any (ht : t ≤ 900) (hlo : lo ≤ w.heap.size) (n : Nt) (v : Value) (hk : n.key.length ≤ maxLen) (hv : NtV n v w) : Calls Tryz.prog 15 #[.pointer (some ⟨g, 0, none⟩), v] w (ActPost lo g t x w (c.put n)) := by
  obtain ⟨A, ca, A2, c2, rfl, hdt, -⟩ := hv
  obtain ⟨N, hN⟩ : ∃ N, w.heap.size = N := ⟨_, rfl⟩
  obtain ⟨rc, hrc⟩ : ∃ rc, c.put n = rc := ⟨_, rfl⟩
  rw [hrc]
  unfold CtP.put at hrc
  obtain ⟨nk, ny, ng, nc, nd, nu, ns, np⟩ := n
  unfold Nt.agg
  simp only at hk hrc hdt ⊢
  obtain ⟨ld, hld⟩ : ∃ ld, nd.length = ld := ⟨_, rfl⟩
  rw [hld] at hdt ⊢
  generalize np.length = lp
  obtain ⟨W, hW⟩ : ∃ W, w.alloc (.cells #[.int .i64 nk, .string (bs ny), .int .i64 ng, .int .i64 nc, .slice A ld ca, .string (bs nu), .int .i64 ns, .slice A2 lp c2] 37) = W := ⟨_, rfl⟩
  have hgW : Gr w W := by rw [← hW]; exact Gr.alloc _ _
  have hbW : W.heap[N]? = some (.cells #[.int .i64 nk, .string (bs ny), .int .i64 ng, .int .i64 nc, .slice A ld ca, .string (bs nu), .int .i64 ns, .slice A2 lp c2] 37 (0, 0)) := by rw [← hW, ← hN]; exact heap_alloc_new w _
  have y1 := blk_cell (j := 1) hbW rfl
  have y4 := blk_cell (j := 4) hbW rfl
  have hkc := Lib.hid (fitKey_any ny hk W)
  have hhc := Lib.hid (has_any lo g t x c W (Lib.hid (h.out.gr hgW)) (by omega) ny hk)
  have hsame := Lib.hid (fun r (w' : World) (hg : Gr w w') => ActPost.same h.out hg r)
  cases hko : keyOk ny with
  | false =>
    obtain rfl : rc = (12, c) := by rw [← hrc, if_pos (.inl hko)]
    rw [hko] at hkc
    replace hgW := Lib.hid hgW
    replace hbW := Lib.hid hbW
    replace hko := Lib.hid hko
    replace hld := Lib.hid hld
    replace hdt := Lib.hid hdt
    clear hrc h hhc
    go_enter Tryz.func15, Tryz.ntmps15
    go_wp2_with (go_at_call 47; go_must (refine hkc.out.mono ?_); rintro e w' ⟨rfl, hee⟩; rw [hee]; clear hee)
    go_ret
    exact hsame.out 12 _ hgW.out
  | true =>
    rw [hko] at hkc
    by_cases h5 : 512 < ld
    · obtain rfl : rc = (12, c) := by rw [← hrc, if_pos (.inr (by omega))]
      have i5 : (512 : Int) < (ld : Int) := by omega
      replace hgW := Lib.hid hgW
      replace hbW := Lib.hid hbW
      replace hko := Lib.hid hko
      replace hld := Lib.hid hld
      replace hdt := Lib.hid hdt
      clear hrc h hhc
      go_enter Tryz.func15, Tryz.ntmps15
      go_wp2_with (go_at_call 47; go_must (refine hkc.out.mono ?_); rintro e w' ⟨rfl, hee⟩; rw [hee]; clear hee)
      go_ret
      exact hsame.out 12 _ hgW.out
    · have i5 : decide ((512 : Int) < (ld : Int)) = false := decide_eq_false (by omega)
      have hrc1 : (if c.has ny = true then ((4 : Int), c) else (0, { c with W := c.W ++ [(ny, nd)] })) = rc := by
        have h0 := hrc
        rw [if_neg (fun hc => hc.elim (fun e => by rw [hko] at e; exact absurd e (by decide)) (fun e => h5 (by omega)))] at h0
        exact h0
      cases hha : c.has ny with
      | true =>
        obtain rfl : rc = (4, c) := by rw [← hrc1, if_pos hha]
        rw [hha] at hhc
        replace hgW := Lib.hid hgW
        replace hbW := Lib.hid hbW
        replace hko := Lib.hid hko
        replace hha := Lib.hid hha
        replace hld := Lib.hid hld
        replace hdt := Lib.hid hdt
        replace hrc := Lib.hid hrc
        clear hrc1 h h5
        go_enter Tryz.func15, Tryz.ntmps15
        go_wp2_with (first
          | (go_at_call 47; go_must (refine hkc.out.mono ?_); rintro e w' ⟨rfl, hee⟩; rw [hee]; clear hee)
          | (go_at_call 11; go_must (refine hhc.out.mono ?_); clear hhc; rintro e w2 ⟨rfl, hg2⟩))
        go_ret
        exact hsame.out 4 _ (hgW.out.trans hg2)
      | false =>
        have hrc2 : rc = (0, { c with W := c.W ++ [(ny, nd)] }) := by rw [← hrc1, if_neg (by rw [hha]; simp)]
        have hput : c.put ⟨nk, ny, ng, nc, nd, nu, ns, np⟩ = (0, { c with W := c.W ++ [(ny, nd)] }) := by unfold CtP.put; rw [hrc, hrc2]
        subst hrc2
        rw [hha] at hhc
        have hld5 : ld ≤ 512 := by omega
        replace hgW := Lib.hid hgW
        replace hbW := Lib.hid hbW
        replace hko := Lib.hid hko
        replace hha := Lib.hid hha
        replace hld := Lib.hid hld
        replace hdt := Lib.hid hdt
        replace hrc := Lib.hid hrc
        replace hput := Lib.hid hput
        clear hrc1 h5 hsame
        go_enter Tryz.func15, Tryz.ntmps15
        go_upto_region 5 with (first
          | (go_at_call 47; go_must (refine hkc.out.mono ?_); rintro e w' ⟨rfl, hee⟩; rw [hee]; clear hee)
          | (go_at_call 11; go_must (refine hhc.out.mono ?_); clear hhc; rintro e w2 ⟨rfl, hg2⟩))
        replace hW := Lib.hid hW
        replace hN := Lib.hid hN
        obtain ⟨Av, cp, hvs⟩ := h.out.cr.form
        obtain ⟨wd, hwd⟩ : ∃ wd, wd = w2.drew := ⟨_, rfl⟩
        have hgd : Hid (Gr w wd) := Lib.hid (by rw [hwd]; exact (hgW.out.trans hg2).trans ((Below.refl _ _).drew))
        have hbd : Hid (wd.heap[N]? = some (.cells #[.int .i64 nk, .string (bs ny), .int .i64 ng, .int .i64 nc, .slice A ld ca, .string (bs nu), .int .i64 ns, .slice A2 lp c2] 37 (0, 0))) := Lib.hid (by rw [hwd]; exact blk_below hbW.out (Gr.trans hg2 ((Below.refl _ _).drew)))
        have hcd := Lib.hid (h.out.gr hgd.out)
        have hbk := hcd.out.blk
        have hwl : x.W.length ≤ 1000 := by have h1 := h.out.few.1; rw [h.out.wc, List.length_map] at h1; omega
        rw [hvs] at hbk
        replace hbk := Lib.hid hbk
        have hrd : Rd wd wd.heap.size A nd := by
          obtain ⟨A', c', e, -, -, hr⟩ := (Byt.gr hgd.out hdt).out
          injection e with e1
          rw [e1]; exact hr
        have hcl := Lib.hid (clone_any A ld ca nd hld.out (by omega) wd hrd)
        have hlow : Hid (∀ y, Gr wd y → lo ≤ y.heap.size) := Lib.hid (fun y hy => Nat.le_trans hlo (Nat.le_trans (Below.size hgd.out) (Below.size hy)))
        replace hrd := Lib.hid hrd
        replace hvs := Lib.hid hvs
        replace hwl := Lib.hid hwl
        generalize x.W.length = nW at hbk hvs
        clear hg2 hlo
        refine wpR_region (TChg lo [76]) 15 (by kernel_rfl) ?_
        (rw [← hwd]; replace hwd := Lib.hid hwd)
        refine wT (i := 0) (v := ?_) (TChg.road _ _) (some 21) rfl (fun w' hw' => ?_) ?_
        rotate_left
        · go_simp; with_reducible rfl
        simp only [Act.put, List.setIfInBounds_toArray, List.set_cons_zero, List.set_cons_succ]
        refine wT (i := 1) (v := ?_) (TChg.road _ _) (some 22) rfl (fun w' hw' => ?_) ?_
        rotate_left
        · go_simp; with_reducible rfl
        simp only [Act.put, List.setIfInBounds_toArray, List.set_cons_zero, List.set_cons_succ]
        refine wT (i := 2) (v := ?_) (TChg.road _ _) (some 23) rfl (fun w' hw' => ?_) ?_
        rotate_left
        · go_simp; with_reducible rfl
        simp only [Act.put, List.setIfInBounds_toArray, List.set_cons_zero, List.set_cons_succ]
        refine wT (i := 3) (v := ?_) (TChg.road _ _) (some 24) rfl (fun w' hw' => ?_) ?_
        rotate_left
        · go_simp; with_reducible rfl
        simp only [Act.put, List.setIfInBounds_toArray, List.set_cons_zero, List.set_cons_succ]
        refine wT (i := 4) (v := ?_) (TChg.road _ _) (some 25) rfl (fun w' hw' => ?_) ?_
        rotate_left
        · have q := blk_cell (j := 0) (hw'.block hbk.out (by decide)) rfl; go_simp; with_reducible rfl
        simp only [Act.put, List.setIfInBounds_toArray, List.set_cons_zero, List.set_cons_succ]
        refine wT (i := 5) (v := ?_) (TChg.road _ _) (some 26) rfl (fun w' hw' => ?_) ?_
        rotate_left
        · go_simp; with_reducible rfl
        simp only [Act.put, List.setIfInBounds_toArray, List.set_cons_zero, List.set_cons_succ]
        refine wT (i := 6) (v := ?_) (TChg.road _ _) (some 27) rfl (fun w' hw' => ?_) ?_
        rotate_left
        · have q := blk_cell (j := 1) (hw'.block hbd.out (by decide)) rfl; go_simp; with_reducible rfl
        simp only [Act.put, List.setIfInBounds_toArray, List.set_cons_zero, List.set_cons_succ]
        refine wT (i := 7) (v := ?_) (TChg.road _ _) (some 28) rfl (fun w' hw' => ?_) ?_
        rotate_left
        · go_simp; with_reducible rfl
        simp only [Act.put, List.setIfInBounds_toArray, List.set_cons_zero, List.set_cons_succ]
        refine wT (i := 8) (v := ?_) (TChg.road _ _) (some 29) rfl (fun w' hw' => ?_) ?_
        rotate_left
        · have q := blk_cell (j := 4) (hw'.block hbd.out (by decide)) rfl; go_simp; with_reducible rfl
        simp only [Act.put, List.setIfInBounds_toArray, List.set_cons_zero, List.set_cons_succ]
        refine wpR_one 9 rfl (by kernel_rfl) (by kernel_rfl) (fun K hK => ?_)
        go_simp
        refine hcl.out.mono ?_
        rintro e w5 ⟨v5, rfl, ho5, hb5⟩
        refine hK _ _ (fun _ => TChg.of_below hb5) ?_
        clear hK K
        clear hcl
        obtain ⟨A5, c5, rfl, -⟩ := ho5.form
        rw [hld.out] at ho5 ⊢
        have hq5 : Hid (OB w5 lo (Wt.mk ny nd A5 c5).v nd) := Lib.hid (by unfold Wt.v; simp only; rw [hld.out]; exact row_more ho5 (hlow.out _ (Gr.refl _)))
        have hfl : Hid (flatW [Wt.mk ny nd A5 c5] = [.string (bs ny), .slice A5 ld c5]) := Lib.hid (by simp [flatW, Wt.cells, Wt.v, hld.out])
        have h5 := Lib.hid (hcd.out.gr hb5)
        have hg5 := Lib.hid (hgd.out.trans hb5)
        have hs5 := Lib.hid (hlow.out _ hb5)
        replace hb5 := Lib.hid hb5
        clear ho5
        try simp only [Act.put, List.setIfInBounds_toArray, List.set_cons_zero, List.set_cons_succ]
        refine wT (i := 10) (v := ?_) (TChg.road _ _) (some 31) rfl (fun w' hw' => ?_) ?_
        rotate_left
        · go_simp; with_reducible rfl
        simp only [Act.put, List.setIfInBounds_toArray, List.set_cons_zero, List.set_cons_succ]
        refine wpR_one 11 rfl (by kernel_rfl) (by kernel_rfl) (fun K hK => ?_)
        go_simp
        refine hK _ _ (fun _ => TChg.of_alloc _ _) ?_
        clear hK K
        try simp only [Act.put, List.setIfInBounds_toArray, List.set_cons_zero, List.set_cons_succ]
        refine wpR_one 12 rfl (by kernel_rfl) (by kernel_rfl) (fun K hK => ?_)
        refine wp_appW (.tmp 25) (.tmp 32) rfl lo (.slice Av nW cp) x.W rfl (by have := row_below h5.out.ws (Gr.alloc w5 (.cells #[.string (bs ny), .slice A5 ld c5] 76)); rw [hvs.out] at this; exact this) (w5.heap.size + 1) (some ⟨w5.heap.size, 0, none⟩) 1 (Wt.mk ny nd A5 c5) rfl (by rw [hfl.out]; exact lit_blob w5 ny A5 ld c5) (by have := hwl.out; omega) (Nat.le_trans hs5.out (by simp)) ?_
        intro v8 w8 hr8 hg8 ho8
        refine hK _ _ (fun _ => TChg.of_row (lo := lo) (by have := row_below h5.out.ws (Gr.alloc w5 (.cells #[.string (bs ny), .slice A5 ld c5] 76)); rw [hvs.out] at this; exact this) hg8 (by simp)) ?_
        clear hK K
        rw [← hvs.out] at hg8 ho8
        have hend := Lib.hid (put_end h.out hg5.out hq5.out hr8 hg8 ho8 hput.out)
        have hb8 : w8.heap[g]? = _ := blk_grow (blk_alloc h5.out.blk (.cells #[.string (bs ny), .slice A5 ld c5] 76)) hg8 (row_ne (row_below h5.out.ws (Gr.alloc w5 (.cells #[.string (bs ny), .slice A5 ld c5] 76))) (blk_alloc h5.out.blk _) (by decide))
        have k0 := blk_cell (j := 0) hb8 rfl
        have f0 := blk_free hb8 0
        obtain ⟨A8, c8, rfl, -, -⟩ := row_form hr8
        generalize hm8 : (x.W ++ [Wt.mk ny nd A5 c5]).length = m8 at *
        replace hm8 := Lib.hid hm8
        clear hb8 hg8 hr8 ho8
        try simp only [Act.put, List.setIfInBounds_toArray, List.set_cons_zero, List.set_cons_succ]
        refine wU (i := 13) (v := ?_) (TChg.road _ _) (some 34) rfl (fun w' => ?_) ?_
        rotate_left
        · go_simp; with_reducible rfl
        simp only [Act.put, List.setIfInBounds_toArray, List.set_cons_zero, List.set_cons_succ]
        refine wT (i := 14) (v := ?_) (TChg.road _ _) (some 35) rfl (fun w' hw' => ?_) ?_
        rotate_left
        · go_simp; with_reducible rfl
        simp only [Act.put, List.setIfInBounds_toArray, List.set_cons_zero, List.set_cons_succ]
        refine wpR_one 15 rfl (by kernel_rfl) (by kernel_rfl) (fun K hK => ?_)
        go_simp
        refine hK _ _ (fun h => absurd h (by decide)) ?_
        clear hK K
        try simp only [Act.put, List.setIfInBounds_toArray, List.set_cons_zero, List.set_cons_succ]
        refine wpR_done (by kernel_rfl) ?_ _
        go_wp2_with fail
        go_ret
        have hcr := hend.out
        exact hcr
end
end Go.Proofs.YthboeoidgglcgaaGreat
/- cat: a key retired; Gen begun. -/
namespace Go.Proofs.YthboeoidgglcgaaGreat
set_option linter.unusedVariables false
set_option linter.unusedSimpArgs false
open Go Go.RowKit Go.Maps
theorem rM_store (R : List Int) (hn : R.Nodup) (z : Int) : (delP (rM R) z ++ [(z, Value.int .i64 z)]).Perm (rM (if R.contains z = true then R else R ++ [z])) := by
  have e : delP (rM R) z = rM (R.filter (· != z)) := by unfold delP rM; rw [List.filter_map]; rfl
  have e2 : ∀ l : List Int, rM l ++ [(z, Value.int .i64 z)] = rM (l ++ [z]) := fun l => by unfold rM; rw [List.map_append]; rfl
  rw [e, e2]
  unfold rM
  refine List.Perm.map _ ?_
  cases hc : R.contains z with
  | false =>
    rw [if_neg (by simp)]
    have hz : z ∉ R := fun hm => by rw [List.contains_iff_mem.mpr hm] at hc; cases hc
    rw [List.filter_eq_self.mpr (fun y hy => by simp only [bne_iff_ne, ne_eq]; intro e; exact hz (e ▸ hy))]
  | true =>
    rw [if_pos rfl]
    have hz : z ∈ R := List.contains_iff_mem.mp hc
    have h1 : R.filter (· != z) = R.erase z := (List.Nodup.erase_eq_filter hn z).symm
    rw [h1]
    exact (List.perm_append_comm).trans (List.perm_cons_erase hz).symm
set_option maxRecDepth 10000 in
set_option maxHeartbeats 2000000 in
theorem retire_any (lo g t : Nat) (x : CtX) (c : CtP) (w : World) (h : Hid (Ca w lo g x c t)) (ht : t ≤ 900) (hlo : lo ≤ w.heap.size) (n : Nt) (v : Value) (hk : n.key.length ≤ maxLen) (hv : NtV n v w) (hI : I64 n.cart) : Calls Tryz.prog 19 #[.pointer (some ⟨g, 0, none⟩), v] w (ActPost lo g t x w (c.retire n)) := by
  have hvn := hv
  obtain ⟨A, ca, A2, c2, rfl, hdt, hpl⟩ := hv
  obtain ⟨N, hN⟩ : ∃ N, w.heap.size = N := ⟨_, rfl⟩
  obtain ⟨rc, hrc⟩ : ∃ rc, c.retire n = rc := ⟨_, rfl⟩
  rw [hrc]
  have hrc0 := Lib.hid hrc
  unfold CtP.retire at hrc
  have hvn2 := Lib.hid (fun y (hg : Gr w y) => (NtV.gr hg (Lib.hid hvn)).out)
  obtain ⟨nk, ny, ng, nc, nd, nu, ns, np⟩ := n
  unfold Nt.agg at hvn2 ⊢
  simp only at hk hrc hdt hpl hvn2 hI ⊢
  obtain ⟨ld, hld⟩ : ∃ ld, nd.length = ld := ⟨_, rfl⟩
  obtain ⟨lp, hlp⟩ : ∃ lp, np.length = lp := ⟨_, rfl⟩
  rw [hld] at hdt hvn2 ⊢
  rw [hlp] at hpl hvn2 ⊢
  obtain ⟨W, hW⟩ : ∃ W, w.alloc (.cells #[.int .i64 nk, .string (bs ny), .int .i64 ng, .int .i64 nc, .slice A ld ca, .string (bs nu), .int .i64 ns, .slice A2 lp c2] 37) = W := ⟨_, rfl⟩
  have hgW : Gr w W := by rw [← hW]; exact Gr.alloc _ _
  have hbW : W.heap[N]? = some (.cells #[.int .i64 nk, .string (bs ny), .int .i64 ng, .int .i64 nc, .slice A ld ca, .string (bs nu), .int .i64 ns, .slice A2 lp c2] 37 (0, 0)) := by rw [← hW, ← hN]; exact heap_alloc_new w _
  have hcW := Lib.hid (h.out.gr hgW)
  have hsame := Lib.hid (fun r (w' : World) (hg : Gr w w') => ActPost.same h.out hg r)
  clear hvn
  have y3 := blk_cell (j := 3) hbW rfl
  have hin := in_any nc 0 31 W
  unfold inB at hin
  by_cases hz : nc < 0 ∨ 31 < nc
  · obtain rfl : rc = (12, c) := by rw [← hrc, if_pos hz]
    have e : (decide ((0 : Int) ≤ nc) && decide (nc ≤ 31)) = false := by
      rcases hz with hz | hz
      · rw [decide_eq_false (by omega : ¬ (0 : Int) ≤ nc)]; rfl
      · rw [decide_eq_false (by omega : ¬ nc ≤ 31), Bool.and_false]
    rw [e] at hin
    replace hin := Lib.hid hin
    replace hgW := Lib.hid hgW
    replace hbW := Lib.hid hbW
    replace hdt := Lib.hid hdt
    replace hpl := Lib.hid hpl
    replace hld := Lib.hid hld
    replace hlp := Lib.hid hlp
    replace hI := Lib.hid hI
    clear hrc h hz e
    go_enter Tryz.func19, Tryz.ntmps19
    go_wp2_with (go_at_call 52; go_must (refine hin.out.mono ?_); rintro e w' ⟨rfl, hee⟩; rw [hee]; clear hee)
    go_ret
    exact hsame.out 12 _ hgW.out
  · rw [if_neg hz] at hrc
    have e : (decide ((0 : Int) ≤ nc) && decide (nc ≤ 31)) = true := by
      rw [decide_eq_true (by omega : (0 : Int) ≤ nc), decide_eq_true (by omega : nc ≤ 31)]; rfl
    rw [e] at hin
    replace hrc := Lib.hid hrc
    replace hin := Lib.hid hin
    replace hgW := Lib.hid hgW
    replace hbW := Lib.hid hbW
    replace hdt := Lib.hid hdt
    replace hpl := Lib.hid hpl
    replace hld := Lib.hid hld
    replace hlp := Lib.hid hlp
    replace hI := Lib.hid hI
    clear hz e hsame
    go_enter Tryz.func19, Tryz.ntmps19
    go_upto_region 3 with (go_at_call 52; go_must (refine hin.out.mono ?_); rintro e w' ⟨rfl, hee⟩; rw [hee]; clear hee)
    replace hW := Lib.hid hW
    replace hN := Lib.hid hN
    obtain ⟨wd, hwd⟩ : ∃ wd, wd = W.drew := ⟨_, rfl⟩
    have hgd : Hid (Gr w wd) := Lib.hid (by rw [hwd]; exact hgW.out.trans ((Below.refl _ _).drew))
    have hbd : Hid (wd.heap[N]? = some (.cells #[.int .i64 nk, .string (bs ny), .int .i64 ng, .int .i64 nc, .slice A ld ca, .string (bs nu), .int .i64 ns, .slice A2 lp c2] 37 (0, 0))) := Lib.hid (by rw [hwd]; exact hbW.out)
    have hcd := Lib.hid (h.out.gr hgd.out)
    obtain ⟨w9, hrun, hm9, hg9⟩ := hcd.out.mr.store lawI Tryz.underlying52 (by omega) (keyI hI.out) (.int .i64 nc)
    have hend := Lib.hid (hcd.out.cr.setR (Nat.le_succ t) hg9 (hm9.perm (rM_store _ h.out.ok.dR nc)))
    clear y3 hm9
    replace hg9 := Lib.hid hg9
    refine wpR_region (Gr) 8 (by kernel_rfl) ?_
    (rw [← hwd]; replace hwd := Lib.hid hwd)
    refine wT (i := 0) (v := ?_) (Gr.road) (some 9) rfl (fun w' hw' => ?_) ?_
    rotate_left
    · go_simp; with_reducible rfl
    simp only [Act.put, List.setIfInBounds_toArray, List.set_cons_zero, List.set_cons_succ]
    refine wT (i := 1) (v := ?_) (Gr.road) (some 10) rfl (fun w' hw' => ?_) ?_
    rotate_left
    · go_simp; with_reducible rfl
    simp only [Act.put, List.setIfInBounds_toArray, List.set_cons_zero, List.set_cons_succ]
    refine wT (i := 2) (v := ?_) (Gr.road) (some 11) rfl (fun w' hw' => ?_) ?_
    rotate_left
    · go_simp; with_reducible rfl
    simp only [Act.put, List.setIfInBounds_toArray, List.set_cons_zero, List.set_cons_succ]
    refine wT (i := 3) (v := ?_) (Gr.road) (some 12) rfl (fun w' hw' => ?_) ?_
    rotate_left
    · have q := blk_cell (j := 4) (blk_below hcd.out.blk hw') rfl; go_simp; with_reducible rfl
    simp only [Act.put, List.setIfInBounds_toArray, List.set_cons_zero, List.set_cons_succ]
    refine wT (i := 4) (v := ?_) (Gr.road) (some 13) rfl (fun w' hw' => ?_) ?_
    rotate_left
    · go_simp; with_reducible rfl
    simp only [Act.put, List.setIfInBounds_toArray, List.set_cons_zero, List.set_cons_succ]
    refine wT (i := 5) (v := ?_) (Gr.road) (some 14) rfl (fun w' hw' => ?_) ?_
    rotate_left
    · have q := blk_cell (j := 3) (blk_below hbd.out hw') rfl; go_simp; with_reducible rfl
    simp only [Act.put, List.setIfInBounds_toArray, List.set_cons_zero, List.set_cons_succ]
    refine wT (i := 6) (v := ?_) (Gr.road) (some 15) rfl (fun w' hw' => ?_) ?_
    rotate_left
    · go_simp; with_reducible rfl
    simp only [Act.put, List.setIfInBounds_toArray, List.set_cons_zero, List.set_cons_succ]
    refine wT (i := 7) (v := ?_) (Gr.road) (some 16) rfl (fun w' hw' => ?_) ?_
    rotate_left
    · have q := blk_cell (j := 3) (blk_below hbd.out hw') rfl; go_simp; with_reducible rfl
    simp only [Act.put, List.setIfInBounds_toArray, List.set_cons_zero, List.set_cons_succ]
    refine wpR_one 8 rfl (by kernel_rfl) (by kernel_rfl) (fun K hK => ?_)
    go_simp
    refine hK _ _ (fun h => absurd h (by decide)) ?_
    clear hK K
    try simp only [Act.put, List.setIfInBounds_toArray, List.set_cons_zero, List.set_cons_succ]
    refine wpR_done (by kernel_rfl) ?_ _
    go_wp2_with fail
    go_ret
    obtain ⟨h1, h2⟩ := hend.out
    rw [← hrc.out]
    exact ⟨rfl, x, h1, h.out.wc, h.out.ec, (Upd.of_below hgd.out).trans h2, fun k hk => .inl hk⟩
set_option maxRecDepth 10000 in
set_option maxHeartbeats 2000000 in
theorem begin_any (lo g t : Nat) (x : CtX) (c : CtP) (w : World) (h : Hid (Ca w lo g x c t)) (ht : t ≤ 900) (hlo : lo ≤ w.heap.size) (n : Nt) (v : Value) (hk : n.key.length ≤ maxLen) (hv : NtV n v w) (hI : I64 n.cart) : Calls Tryz.prog 18 #[.pointer (some ⟨g, 0, none⟩), v] w (ActPost lo g t x w (c.begin_ n)) := by
  have hvn := hv
  obtain ⟨A, ca, A2, c2, rfl, hdt, hpl⟩ := hv
  obtain ⟨N, hN⟩ : ∃ N, w.heap.size = N := ⟨_, rfl⟩
  obtain ⟨rc, hrc⟩ : ∃ rc, c.begin_ n = rc := ⟨_, rfl⟩
  rw [hrc]
  have hrc0 := Lib.hid hrc
  unfold CtP.begin_ at hrc
  have hvn2 := Lib.hid (fun y (hg : Gr w y) => (NtV.gr hg (Lib.hid hvn)).out)
  obtain ⟨nk, ny, ng, nc, nd, nu, ns, np⟩ := n
  unfold Nt.agg at hvn2 ⊢
  simp only at hk hrc hdt hpl hvn2 hI ⊢
  obtain ⟨ld, hld⟩ : ∃ ld, nd.length = ld := ⟨_, rfl⟩
  obtain ⟨lp, hlp⟩ : ∃ lp, np.length = lp := ⟨_, rfl⟩
  rw [hld] at hdt hvn2 ⊢
  rw [hlp] at hpl hvn2 ⊢
  obtain ⟨W, hW⟩ : ∃ W, w.alloc (.cells #[.int .i64 nk, .string (bs ny), .int .i64 ng, .int .i64 nc, .slice A ld ca, .string (bs nu), .int .i64 ns, .slice A2 lp c2] 37) = W := ⟨_, rfl⟩
  have hgW : Gr w W := by rw [← hW]; exact Gr.alloc _ _
  have hbW : W.heap[N]? = some (.cells #[.int .i64 nk, .string (bs ny), .int .i64 ng, .int .i64 nc, .slice A ld ca, .string (bs nu), .int .i64 ns, .slice A2 lp c2] 37 (0, 0)) := by rw [← hW, ← hN]; exact heap_alloc_new w _
  have hcW := Lib.hid (h.out.gr hgW)
  have hsame := Lib.hid (fun r (w' : World) (hg : Gr w w') => ActPost.same h.out hg r)
  clear hvn
  have y1 := blk_cell (j := 1) hbW rfl
  have y2 := blk_cell (j := 2) hbW rfl
  have hlt := Lib.hid (later_any lo g t x c W hcW ng)
  have hhc := Lib.hid (has_any lo g t x c W hcW (by omega) ny hk)
  cases hla : c.later ng with
  | false =>
    obtain rfl : rc = (12, c) := by rw [← hrc, if_pos hla]
    rw [hla] at hlt
    replace hla := Lib.hid hla
    replace hgW := Lib.hid hgW
    replace hbW := Lib.hid hbW
    replace hdt := Lib.hid hdt
    replace hpl := Lib.hid hpl
    replace hld := Lib.hid hld
    replace hlp := Lib.hid hlp
    replace hI := Lib.hid hI
    clear hrc h hhc
    go_enter Tryz.func18, Tryz.ntmps18
    go_wp2_with (go_at_call 51; go_must (refine hlt.out.mono ?_); rintro e w' ⟨rfl, hee⟩; rw [hee]; clear hee)
    go_ret
    exact hsame.out 12 _ hgW.out
  | true =>
    rw [hla] at hlt
    rw [if_neg (by rw [hla]; simp)] at hrc
    have hxx := hcW.out.cr.blk
    have k5 := blk_cell (j := 5) hxx rfl
    have f5 := blk_free hxx 5
    by_cases hke : ny = []
    · have hrc5 : rc = (0, { c with G := ng }) := by rw [← hrc, if_neg (fun hc => hc.1 hke), if_pos hke]
      have hs5 := hcW.out.cr.setG ng
      have e1 : ny.isEmpty = true := by rw [hke]; rfl
      have yy1 := hbW
      have hset := blk_other (w := W) (g := g) (k := N) (fun e => by have := blk_lt h.out.blk; rw [← e, ← hN] at this; omega) 5 (.int .i64 ng)
      rw [yy1] at hset
      have z1 := blk_cell (j := 1) hset rfl
      replace hset := Lib.hid hset
      replace hrc5 := Lib.hid hrc5
      replace hs5 := Lib.hid hs5
      replace hla := Lib.hid hla
      replace hxx := Lib.hid hxx
      replace hke := Lib.hid hke
      replace hgW := Lib.hid hgW
      replace hbW := Lib.hid hbW
      replace hdt := Lib.hid hdt
      replace hpl := Lib.hid hpl
      replace hld := Lib.hid hld
      replace hlp := Lib.hid hlp
      replace hI := Lib.hid hI
      clear hrc hhc hsame yy1
      go_enter Tryz.func18, Tryz.ntmps18
      go_wp2_with (go_at_call 51; go_must (refine hlt.out.mono ?_); rintro e w' ⟨rfl, hee⟩; rw [hee]; clear hee)
      go_ret
      obtain ⟨h1, h2⟩ := hs5.out
      rw [hrc5.out]
      exact ⟨rfl, x, h1.more (Nat.le_succ _), h.out.wc, h.out.ec, (Upd.of_below hgW.out).trans h2, fun k hk => .inl hk⟩
    · have e1 : ny.isEmpty = false := by cases ny with | nil => exact absurd rfl hke | cons a l => rfl
      cases hha : c.has ny with
      | false =>
        have hrc5 : rc = (5, c) := by rw [← hrc, if_pos ⟨hke, hha⟩]
        rw [hha] at hhc
        replace hrc5 := Lib.hid hrc5
        replace hla := Lib.hid hla
        replace hha := Lib.hid hha
        replace hxx := Lib.hid hxx
        replace hke := Lib.hid hke
        replace hgW := Lib.hid hgW
        replace hbW := Lib.hid hbW
        replace hdt := Lib.hid hdt
        replace hpl := Lib.hid hpl
        replace hld := Lib.hid hld
        replace hlp := Lib.hid hlp
        replace hI := Lib.hid hI
        clear hrc h
        go_enter Tryz.func18, Tryz.ntmps18
        go_wp2_with (first
          | (go_at_call 51; go_must (refine hlt.out.mono ?_); rintro e w' ⟨rfl, hee⟩; rw [hee]; clear hee)
          | (go_at_call 11; go_must (refine hhc.out.mono ?_); clear hhc; rintro e w2 ⟨rfl, hg2⟩))
        go_ret
        rw [hrc5.out]
        exact hsame.out 5 _ (hgW.out.trans hg2)
      | true =>
        have hrc5 : rc = (0, { c with G := ng, B := delP c.B ny ++ [(ny, ng)] }) := by rw [← hrc, if_neg (fun hc => by rw [hha] at hc; exact absurd hc.2 (by decide)), if_neg hke]
        rw [hha] at hhc
        replace hrc5 := Lib.hid hrc5
        replace hla := Lib.hid hla
        replace hha := Lib.hid hha
        replace hxx := Lib.hid hxx
        replace hke := Lib.hid hke
        replace hgW := Lib.hid hgW
        replace hbW := Lib.hid hbW
        replace hdt := Lib.hid hdt
        replace hpl := Lib.hid hpl
        replace hld := Lib.hid hld
        replace hlp := Lib.hid hlp
        replace hI := Lib.hid hI
        clear hrc hsame k5 f5
        go_enter Tryz.func18, Tryz.ntmps18
        go_upto_region 5 with (first
          | (go_at_call 51; go_must (refine hlt.out.mono ?_); rintro e w' ⟨rfl, hee⟩; rw [hee]; clear hee)
          | (go_at_call 11; go_must (refine hhc.out.mono ?_); clear hhc; rintro e w2 ⟨rfl, hg2⟩))
        replace hW := Lib.hid hW
        have hc2 := hcW.out.gr hg2
        have hb2 := blk_below hbW.out hg2
        have hxx := hc2.blk
        have k5 := blk_cell (j := 5) hxx rfl
        have f5 := blk_free hxx 5
        have z2 := blk_cell (j := 2) hb2 rfl
        have hs5 := hc2.cr.setG ng
        have hset := blk_other (w := w2) (g := g) (k := N) (fun e => by have := blk_lt h.out.blk; rw [← e, ← hN] at this; omega) 5 (.int .i64 ng)
        rw [hb2] at hset
        obtain ⟨w3, hw3⟩ : ∃ w3, w2.setCell ⟨g, 5, none⟩ (.int .i64 ng) = w3 := ⟨_, rfl⟩
        rw [hw3] at hs5 hset
        replace hs5 := Lib.hid hs5
        have q1 := blk_cell (j := 1) hset rfl
        replace hset := Lib.hid hset
        replace hN := Lib.hid hN
        replace hxx := Lib.hid hxx
        replace hb2 := Lib.hid hb2
        replace hc2 := Lib.hid hc2
        go_upto_region 6 with (fail)
        replace hw3 := Lib.hid hw3
        clear k5 f5 z2 y1 y2
        go_upto_region 7 with (fail)
        obtain ⟨wd, hwd⟩ : ∃ wd, wd = w3.drew := ⟨_, rfl⟩
        have hbd : Hid (wd.heap[N]? = some (.cells #[.int .i64 nk, .string (bs ny), .int .i64 ng, .int .i64 nc, .slice A ld ca, .string (bs nu), .int .i64 ns, .slice A2 lp c2] 37 (0, 0))) := Lib.hid (by rw [hwd]; exact hset.out)
        have hgd : Gr w3 wd := by rw [hwd]; exact (Below.refl _ _).drew
        have hcd := Lib.hid (hs5.out.1.gr hgd)
        obtain ⟨w9, hrun, hm9, hg9⟩ := hcd.out.mb.store lawS Tryz.underlying51 (by omega) (keyS hk) (.int .i64 ng)
        have hbm : delP (bM c.B) ny ++ [(ny, Value.int .i64 ng)] = bM (delP c.B ny ++ [(ny, ng)]) := by rw [← bM_del]; unfold bM; rw [List.map_append]; rfl
        rw [hbm] at hm9
        have hend := Lib.hid (hcd.out.setB (Nat.le_succ t) hg9 hm9)
        have hfr := Lib.hid ((Upd.of_below (hgW.out.trans hg2)).trans (hs5.out.2.trans (Upd.of_below hgd)))
        clear hm9 q1 hbm hg2 hgd
        replace hg9 := Lib.hid hg9
        refine wpR_region (Gr) 8 (by kernel_rfl) ?_
        (rw [← hwd]; replace hwd := Lib.hid hwd)
        refine wT (i := 0) (v := ?_) (Gr.road) (some 30) rfl (fun w' hw' => ?_) ?_
        rotate_left
        · go_simp; with_reducible rfl
        simp only [Act.put, List.setIfInBounds_toArray, List.set_cons_zero, List.set_cons_succ]
        refine wT (i := 1) (v := ?_) (Gr.road) (some 31) rfl (fun w' hw' => ?_) ?_
        rotate_left
        · go_simp; with_reducible rfl
        simp only [Act.put, List.setIfInBounds_toArray, List.set_cons_zero, List.set_cons_succ]
        refine wT (i := 2) (v := ?_) (Gr.road) (some 32) rfl (fun w' hw' => ?_) ?_
        rotate_left
        · go_simp; with_reducible rfl
        simp only [Act.put, List.setIfInBounds_toArray, List.set_cons_zero, List.set_cons_succ]
        refine wT (i := 3) (v := ?_) (Gr.road) (some 33) rfl (fun w' hw' => ?_) ?_
        rotate_left
        · have q := blk_cell (j := 2) (blk_below hcd.out.blk hw') rfl; go_simp; with_reducible rfl
        simp only [Act.put, List.setIfInBounds_toArray, List.set_cons_zero, List.set_cons_succ]
        refine wT (i := 4) (v := ?_) (Gr.road) (some 34) rfl (fun w' hw' => ?_) ?_
        rotate_left
        · go_simp; with_reducible rfl
        simp only [Act.put, List.setIfInBounds_toArray, List.set_cons_zero, List.set_cons_succ]
        refine wT (i := 5) (v := ?_) (Gr.road) (some 35) rfl (fun w' hw' => ?_) ?_
        rotate_left
        · have q := blk_cell (j := 1) (blk_below hbd.out hw') rfl; go_simp; with_reducible rfl
        simp only [Act.put, List.setIfInBounds_toArray, List.set_cons_zero, List.set_cons_succ]
        refine wT (i := 6) (v := ?_) (Gr.road) (some 36) rfl (fun w' hw' => ?_) ?_
        rotate_left
        · go_simp; with_reducible rfl
        simp only [Act.put, List.setIfInBounds_toArray, List.set_cons_zero, List.set_cons_succ]
        refine wT (i := 7) (v := ?_) (Gr.road) (some 37) rfl (fun w' hw' => ?_) ?_
        rotate_left
        · have q := blk_cell (j := 2) (blk_below hbd.out hw') rfl; go_simp; with_reducible rfl
        simp only [Act.put, List.setIfInBounds_toArray, List.set_cons_zero, List.set_cons_succ]
        refine wpR_one 8 rfl (by kernel_rfl) (by kernel_rfl) (fun K hK => ?_)
        go_simp
        refine hK _ _ (fun h => absurd h (by decide)) ?_
        clear hK K
        try simp only [Act.put, List.setIfInBounds_toArray, List.set_cons_zero, List.set_cons_succ]
        refine wpR_done (by kernel_rfl) ?_ _
        go_wp2_with fail
        go_ret
        obtain ⟨h1, h2⟩ := hend.out
        rw [hrc5.out]
        exact ⟨rfl, x, h1, h.out.wc, h.out.ec, hfr.out.trans h2, fun k hk => .inl hk⟩
end Go.Proofs.YthboeoidgglcgaaGreat
