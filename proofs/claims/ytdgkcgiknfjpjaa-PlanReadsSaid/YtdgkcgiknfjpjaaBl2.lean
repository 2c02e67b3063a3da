/- blob.Records: the records; the state between two groups. -/
import Derived.Test.YtdgkcgiknfjpjaaBl1
import Derived.Test.YtdgkcgiknfjpjaaRe
import Derived.Test.YtdgkcgiknfjpjaaLg
import Derived.Test.YtdgkcgiknfjpjaaDigA
import Derived.Maps.OwnIn
namespace Go.Proofs.Ytdgkcgiknfjpjaa
set_option linter.unusedVariables false
set_option linter.unusedSimpArgs false
open Go Go.RowKit
/-- a group's bytes -/
def grpB (l : List UInt8) (q x : Nat) : List UInt8 := row 128 (partM 128 (padD l q) x)
theorem grpB_len (l : List UInt8) (q x : Nat) : (grpB l q x).length = 128 := row_length _ _
structure Rp where
  key : List UInt8
  gen : Int
  l : List UInt8
  q : Nat
theorem flatMap_congrR {α β : Type} {l : List α} {f g : α → List β} (h : ∀ x ∈ l, f x = g x) : l.flatMap f = l.flatMap g := by
  induction l with
  | nil => rfl
  | cons a l ih => rw [List.flatMap_cons, List.flatMap_cons, h a (List.mem_cons_self), ih (fun x hx => h x (List.mem_cons_of_mem _ hx))]
/-- group k's record i, of the chunk x -/
def rec1 (p : Rp) (k x i : Nat) : Rc := ⟨2, 0, p.key, p.gen, k, p.q, i, p.l.length, dg p.l, row 16 (encM (grpB p.l p.q x) i)⟩
def recsG (p : Rp) (k x i : Nat) : List Rc := (List.range i).map (rec1 p k x)
theorem recsG_next (p : Rp) (k x i : Nat) : recsG p k x (i + 1) = recsG p k x i ++ [rec1 p k x i] := by
  unfold recsG
  rw [List.range_succ (n := i), List.map_append]
  rfl
/-- the records of these chunks, in this order -/
def recsF (p : Rp) (X : List Nat) : List Rc := (List.range X.length).flatMap (fun k => recsG p k (X.getD k 0) 10)
theorem recsF_snoc (p : Rp) (X : List Nat) (x : Nat) : recsF p (X ++ [x]) = recsF p X ++ recsG p X.length x 10 := by
  unfold recsF
  rw [List.length_append, List.length_singleton, List.range_succ (n := X.length), List.flatMap_append]
  congr 1
  · refine flatMap_congrR fun k hk => ?_
    have hk := List.mem_range.mp hk
    congr 1
    rw [List.getD_eq_getElem?_getD, List.getD_eq_getElem?_getD, List.getElem?_append_left hk]
  · simp only [List.flatMap_cons, List.flatMap_nil, List.append_nil]
    congr 1
    rw [List.getD_eq_getElem?_getD, List.getElem?_append_right (Nat.le_refl _)]
    simp
theorem recsF_len (p : Rp) (X : List Nat) : (recsF p X).length = 10 * X.length := by
  unfold recsF
  generalize X.length = m
  induction m with
  | zero => rfl
  | succ x ih => rw [List.range_succ (n := x), List.flatMap_append, List.length_append, ih]; simp [recsG]; omega
/-- a blob's records -/
def recsP (p : Rp) : List Rc := (List.range p.q).flatMap (fun k => recsG p k k 10)
theorem recsF_all (p : Rp) (q : Nat) (h : p.q = q) : recsF p ((List.finRange q).map (·.1)) = recsP p := by
  unfold recsF recsP
  rw [List.length_map, List.length_finRange, h]
  refine flatMap_congrR fun k hk => ?_
  have hk := List.mem_range.mp hk
  congr 1
  rw [List.getD_eq_getElem?_getD, List.getElem?_map, List.getElem?_eq_getElem (by rw [List.length_finRange]; exact hk)]
  simp
theorem recsP_len (p : Rp) : (recsP p).length = 10 * p.q := by
  unfold recsP
  induction p.q with
  | zero => rfl
  | succ x ih => rw [List.range_succ (n := x), List.flatMap_append, List.length_append, ih]; simp [recsG]; omega
theorem recsP_at (p : Rp) {k i : Nat} (hk : k < p.q) (hi : i < 10) : (recsP p)[10 * k + i]? = some (rec1 p k k i) := by
  unfold recsP
  generalize p.q = q at hk
  induction q with
  | zero => omega
  | succ q ih =>
    rw [List.range_succ (n := q), List.flatMap_append]
    have hl : ((List.range q).flatMap (fun k => recsG p k k 10)).length = 10 * q := by
      clear ih hk
      induction q with
      | zero => rfl
      | succ x ih => rw [List.range_succ (n := x), List.flatMap_append, List.length_append, ih]; simp [recsG]; omega
    by_cases h : k < q
    · rw [List.getElem?_append_left (by omega)]
      exact ih h
    · obtain rfl : k = q := by omega
      rw [List.getElem?_append_right (by omega), hl]
      simp only [List.flatMap_cons, List.flatMap_nil, List.append_nil, recsG]
      rw [show 10 * k + i - 10 * k = i from by omega, List.getElem?_map, List.getElem?_eq_getElem (by rw [List.length_range]; exact hi)]
      simp
def rcells (p : Rp) (x : Nat) (idx dat : Value) : Array Value := #[.int .i64 2, .int .i64 0, .string (bs p.key), .int .i64 p.gen, .int .i64 x, .int .i64 p.q, idx, .int .i64 p.l.length, .string (bs (dg p.l)), dat]
theorem cell_obj {w : World} {a : Addr} {v : Value} (h : w.cell? a = some v) {o : Obj} (ho : w.heap[a.block]? = some o) : o.isCells = true := by
  unfold World.cell? at h
  rw [ho] at h
  cases o <;> simp_all [Obj.isCells]
/-- a row's block is none of the others -/
theorem OR.upd {E : List Re} {v : Value} {base : Nat} {w w' : World} (h : OR E v base w) (dlo : ∀ x ∈ E, ∀ ad, x.A = some ad → base ≤ ad.block) (hs : w.heap.size ≤ w'.heap.size) (hk : ∀ k, base ≤ k → k < w.heap.size → w'.heap[k]? = w.heap[k]?) : OR E v base w' := by
  refine ⟨row_keep h.row (fun k e => hk k (World.ownsRow.lt h.row k e).1 (World.ownsRow.lt h.row k e).2), fun x hx => ?_, h.ap⟩
  obtain ⟨h1, h2, h3⟩ := h.vs x hx
  refine ⟨h1, h2, h3.1, fun hn => ?_⟩
  obtain ⟨ad, ea, hb, hcell⟩ := h3.2 hn
  refine ⟨ad, ea, Nat.lt_of_lt_of_le hb hs, fun j u hu => ?_⟩
  rw [← hcell j u hu]
  exact World.cell?_of_block (by rw [block_of_add]; exact hk _ (dlo x hx ad ea) hb)
def SR (b8 b9 : Nat) (k : Nat) : Prop := k = b8 ∨ k = b9
/-- the records R, group k under way -/
structure RSt (p : Rp) (w3 : World) (b8 b9 : Nat) (R : List Rc) (k : Nat) (W : World) : Prop where
  U : Upd (SR b8 b9) w3 W
  blk : ∃ idx dat, W.heap[b8]? = some (.cells (rcells p k idx dat) 41 (0, 0))
  box : ∃ v E, W.heap[b9]? = some (.cells #[v] 33 (0, 0)) ∧ OR E v w3.heap.size W ∧ E.map (·.r) = R ∧ ∀ y ∈ E, ∀ ad, y.A = some ad → w3.heap.size ≤ ad.block
theorem Upd.own_ {S : Nat → Prop} {w W W' : World} {row : Option Nat} (h : Upd S w W) (hg : W.grownBy W' row) (hr : ∀ r, row = some r → w.heap.size ≤ r) : Upd S w W' :=
  ⟨h.1.trans hg.os.symm, h.2.1.trans hg.tape.symm, h.2.2.1.trans hg.output.symm, Nat.le_trans h.2.2.2.1 hg.size, fun k hk hx => (hg.block k (Nat.lt_of_lt_of_le hk h.2.2.2.1) (fun e => by have := hr k e.symm; omega)).trans (h.2.2.2.2 k hk hx)⟩
theorem OR.own {E : List Re} {v : Value} {base : Nat} {W W' : World} {row : Option Nat} (ho : OR E v base W) (hg : W.grownBy W' row) (hr : ∀ r, row = some r → ∃ o : Obj, W.heap[r]? = some o ∧ o.isCells = false) : OR E v base W' := by
  refine ⟨row_keep ho.row (fun k e => hg.block k (World.ownsRow.lt ho.row k e).2 (fun er => ?_)), fun y hy => (ho.vs y hy).own (fun hn ad ea er => ?_) hg, ho.ap⟩
  · obtain ⟨o, h1, h2⟩ := hr k er.symm
    rcases ho.row.2 with ⟨rfl, -⟩ | ⟨g, cap, cur, rfl, -, hh, -⟩
    · cases e
    · injection e with e
      subst e
      rw [hh] at h1
      injection h1 with h1
      subst h1
      cases h2
  · obtain ⟨o, h1, h2⟩ := hr ad.block er
    obtain ⟨ad', ea', hlt, hc⟩ := (ho.vs y hy).2.2.2 (by simpa using hn)
    rw [ea] at ea'
    injection ea' with ea'
    subst ea'
    have hl : 0 < (y.r.data.map vb).length := by simpa using hn
    have := cell_obj (hc 0 _ (List.getElem?_eq_getElem hl)) (o := o) (by rw [block_of_add]; exact h1)
    rw [h2] at this
    cases this
theorem RSt.own {p : Rp} {w3 : World} {b8 b9 k0 : Nat} {R : List Rc} {W W' : World} {row : Option Nat} (h : RSt p w3 b8 b9 R k0 W) (h8 : b8 < w3.heap.size) (h9 : b9 < w3.heap.size) (hg : W.grownBy W' row) (hr : ∀ r, row = some r → w3.heap.size ≤ r ∧ ∃ o : Obj, W.heap[r]? = some o ∧ o.isCells = false) : RSt p w3 b8 b9 R k0 W' := by
  have hsz := h.U.2.2.2.1
  obtain ⟨idx, dat, hb⟩ := h.blk
  obtain ⟨v, E, hx, ho, hE, hd⟩ := h.box
  have hne : ∀ k, k < w3.heap.size → some k ≠ row := fun k hk e => by have := (hr k e.symm).1; omega
  exact ⟨h.U.own_ hg (fun r e => (hr r e).1), ⟨idx, dat, (hg.block b8 (by omega) (hne b8 h8)).trans hb⟩, v, E, (hg.block b9 (by omega) (hne b9 h9)).trans hx, ho.own hg (fun r e => (hr r e).2), hE, hd⟩
theorem alloc_grB (w : World) (o : Obj) : Gr w (w.alloc o) := (Below.refl _ w).alloc (Nat.le_refl _) o
/-- what is no row of cells stays -/
theorem keeps_gr {B : Nat} {w w' : World} (h : Gr w w') : KeepsFrom B w w' := ⟨Below.size h, fun k o _ hk _ => (Below.block h k (Array.getElem?_eq_some_iff.mp hk).1).trans hk⟩
theorem keeps_set {B : Nat} {w : World} {g j : Nat} {cs : Array Value} {T : TypeId} (hh : w.heap[g]? = some (.cells cs T (0, 0))) (u : Value) : KeepsFrom B w (w.setCell ⟨g, j, none⟩ u) :=
  ⟨by simp [World.setCell], fun k o _ hk hc => (blk_other (fun e => by subst e; rw [hh] at hk; injection hk with hk; subst hk; cases hc) j u).trans hk⟩
theorem keeps_own {B : Nat} {w w' : World} {base n size : Nat} {v : Value} {e : TypeId} {xs : List Value} (ho : w.ownsRow base e size v n xs) (hg : w.grownBy w' v.ownBlock) : KeepsFrom B w w' :=
  ⟨hg.size, fun k o _ hk hc => (hg.block k (Array.getElem?_eq_some_iff.mp hk).1 (fun er => by
    rcases ho.2 with ⟨rfl, -⟩ | ⟨g, cap, cur, rfl, -, hh, -⟩
    · cases er
    · injection er with er
      have er : k = g := er
      subst er
      rw [hh] at hk
      injection hk with hk
      subst hk
      cases hc)).trans hk⟩
theorem OR.blk {E : List Re} {v : Value} {base : Nat} {w : World} (h : OR E v base w) {k : Nat} (hk : v.ownBlock = some k) : ∃ cs, w.heap[k]? = some (.cells cs 41 (0, 0)) := by
  rcases h.row.2 with ⟨rfl, -⟩ | ⟨g, cap, cur, rfl, -, hh, -⟩
  · cases hk
  · injection hk with hk
    have hk : g = k := hk
    subst hk
    exact ⟨cur, hh⟩
theorem TB.low_set {w : World} {base g n m b j : Nat} {G C : Nat → Nat} {M : Mx} (h : TB w base g n m G C M) (hb : b < base) (u : Value) : TB (w.setCell ⟨b, j, none⟩ u) base g n m G C M :=
  h.keep (blk_other (by have := h.low; omega) j u) (fun i hi => blk_other (by have := (h.glt hi).1; omega) j u)
/-- the record that is appended -/
def reQ (p : Rp) (k x i : Nat) (G C : Nat → Nat) : Re := ⟨rec1 p k x i, some ⟨G i, 0, none⟩, C i⟩
theorem reQ_cells (p : Rp) (k x i : Nat) (G C : Nat → Nat) : (reQ p k x i G C).cells = [.int .i64 2, .int .i64 0, .string (bs p.key), .int .i64 p.gen, .int .i64 k, .int .i64 p.q, .int .i64 i, .int .i64 p.l.length, .string (bs (dg p.l)), .slice (some ⟨G i, 0, none⟩) 16 (C i)] := by
  unfold reQ Re.cells rec1
  simp only [row_length]
def srA (w : World) (b8 i : Nat) (G C : Nat → Nat) : World := (w.setCell ⟨b8, 6, none⟩ (.int .i64 i)).setCell ⟨b8, 9, none⟩ (.slice (some ⟨G i, 0, none⟩) 16 (C i))
def srB (p : Rp) (w : World) (b8 k i : Nat) (G C : Nat → Nat) : World := (srA w b8 i G C).alloc (.cells #[.int .i64 2, .int .i64 0, .string (bs p.key), .int .i64 p.gen, .int .i64 k, .int .i64 p.q, .int .i64 i, .int .i64 p.l.length, .string (bs (dg p.l)), .slice (some ⟨G i, 0, none⟩) 16 (C i)] 41)
theorem srA_size (w : World) (b8 i : Nat) (G C : Nat → Nat) : (srA w b8 i G C).heap.size = w.heap.size := by unfold srA; rw [World.size_setCell, World.size_setCell]
theorem srA_other (w : World) {b8 k : Nat} (i : Nat) (G C : Nat → Nat) (hk : k ≠ b8) : (srA w b8 i G C).heap[k]? = w.heap[k]? := by unfold srA; exact (blk_other hk 9 _).trans (blk_other hk 6 _)
theorem srA_blk {p : Rp} {w : World} {b8 k : Nat} {idx dat : Value} (hb : w.heap[b8]? = some (.cells (rcells p k idx dat) 41 (0, 0))) (i : Nat) (G C : Nat → Nat) : (srA w b8 i G C).heap[b8]? = some (.cells (rcells p k (.int .i64 i) (.slice (some ⟨G i, 0, none⟩) 16 (C i))) 41 (0, 0)) :=
  blk_set (blk_set hb 6 (.int .i64 i)) 9 (.slice (some ⟨G i, 0, none⟩) 16 (C i))
structure StB (p : Rp) (w3 wr wb : World) (b8 b9 k x i base g : Nat) (G C : Nat → Nat) (M : Mx) (v : Value) (E : List Re) : Prop where
  U : Upd (SR b8 b9) w3 wb
  blk : wb.heap[b8]? = some (.cells (rcells p k (.int .i64 i) (.slice (some ⟨G i, 0, none⟩) 16 (C i))) 41 (0, 0))
  bx : wb.heap[b9]? = some (.cells #[v] 33 (0, 0))
  O : OR E v w3.heap.size wb
  T : TB wb base g 10 16 G C M
  K : KeepsFrom 0 wr wb
  q : ReV (reQ p k x i G C) wb
  ap : Apr (reQ p k x i G C) v.ownBlock
  lo : w3.heap.size ≤ wb.heap.size
theorem RSt.pre {p : Rp} {w3 wr : World} {b8 b9 k x i base g : Nat} {G C : Nat → Nat} {M : Mx} (hU : Upd (SR b8 b9) w3 wr) (h8 : b8 < w3.heap.size) (h9 : b9 < w3.heap.size) (h89 : b8 ≠ b9) (hT : TB wr base g 10 16 G C M) (hbase : w3.heap.size ≤ base) (hM : M = encM (grpB p.l p.q x)) (hi : i < 10)
    {v : Value} {E : List Re} (hv : wr.heap[b9]? = some (.cells #[v] 33 (0, 0))) (ho : OR E v w3.heap.size wr) (hd : ∀ y ∈ E, ∀ ad, y.A = some ad → w3.heap.size ≤ ad.block)
    {idx dat : Value} (hb : wr.heap[b8]? = some (.cells (rcells p k idx dat) 41 (0, 0))) : StB p w3 wr (srB p wr b8 k i G C) b8 b9 k x i base g G C M v E := by
  have hsA := srA_size wr b8 i G C
  have hga := alloc_grB (srA wr b8 i G C) (.cells #[.int .i64 2, .int .i64 0, .string (bs p.key), .int .i64 p.gen, .int .i64 k, .int .i64 p.q, .int .i64 i, .int .i64 p.l.length, .string (bs (dg p.l)), .slice (some ⟨G i, 0, none⟩) 16 (C i)] 41)
  have hU1 : Upd (SR b8 b9) wr (srA wr b8 i G C) := (Upd.of_grown (blk_grown wr b8 6 _) (.inl rfl)).trans (Upd.of_grown (blk_grown _ b8 9 _) (.inl rfl))
  have hU2 : Upd (SR b8 b9) w3 (srA wr b8 i G C) := hU.trans hU1
  have hblkA := srA_blk (i := i) (G := G) (C := C) hb
  have hbxA := (srA_other wr i G C (Ne.symm h89)).trans hv
  have hTA : TB (srA wr b8 i G C) base g 10 16 G C M := (hT.low_set (by omega) _).low_set (by omega) _
  have hOA : OR E v w3.heap.size (srA wr b8 i G C) := ho.upd hd (by rw [hsA]; exact Nat.le_refl _) (fun k hk _ => srA_other wr i G C (by omega))
  have hTB := hTA.below hga
  have hKA : KeepsFrom 0 wr (srA wr b8 i G C) := (keeps_set hb _).trans (keeps_set (blk_set hb 6 (.int .i64 i)) _)
  refine ⟨hU2.trans (Upd.of_below hga), (Below.block hga b8 (blk_lt hblkA)).trans hblkA, (Below.block hga b9 (blk_lt hbxA)).trans hbxA, (OR.gr hga (Lib.hid hOA)).out, hTB, hKA.trans (keeps_gr hga), ?_, ?_, Nat.le_trans hU2.2.2.2.1 (Below.size hga)⟩
  · obtain ⟨h1, h2, h3⟩ := hTB.rd hi
    refine ⟨by unfold reQ rec1; simp only [row_length]; exact h2, h3, ?_⟩
    unfold reQ rec1
    simp only
    rw [← hM]
    exact h1
  · intro _ ad ea
    unfold reQ at ea
    injection ea with ea
    subst ea
    intro hob
    obtain ⟨cs, h1⟩ := ho.blk hob
    obtain ⟨cs', h2⟩ := ob_blk (hT.own i hi) (by rw [row_length]; decide)
    have h1 : wr.heap[G i]? = some (.cells cs 41 (0, 0)) := h1
    rw [h1] at h2
    injection h2 with h2
    injection h2 with _ h2 _
    revert h2
    decide
theorem StB.post {p : Rp} {w3 wr wb w2 : World} {b8 b9 k x i base g : Nat} {G C : Nat → Nat} {M : Mx} {v v' : Value} {E : List Re} {R : List Rc} (h : StB p w3 wr wb b8 b9 k x i base g G C M v E) (h8 : b8 < w3.heap.size) (h9 : b9 < w3.heap.size) (h89 : b8 ≠ b9) (hbase : w3.heap.size ≤ base) (hE : E.map (·.r) = R) (hi : i < 10) (hd : ∀ y ∈ E, ∀ ad, y.A = some ad → w3.heap.size ≤ ad.block)
    (h2 : w2.ownsRow w3.heap.size 41 10 v' (E.length + 1) (flatRe E ++ (reQ p k x i G C).cells)) (h3 : wb.grownBy w2 v.ownBlock) (h4 : v'.ownBlock = v.ownBlock ∨ v'.ownBlock = some wb.heap.size) :
    RSt p w3 b8 b9 (R ++ [rec1 p k x i]) k (w2.setCell ⟨b9, 0, none⟩ v') ∧ TB (w2.setCell ⟨b9, 0, none⟩ v') base g 10 16 G C M ∧ KeepsFrom 0 wr (w2.setCell ⟨b9, 0, none⟩ v') := by
  have hO2 := h.O.snoc (reQ p k x i G C) h.q h.ap h2 h3 h4
  have hvl : ∀ k, v.ownBlock = some k → w3.heap.size ≤ k := fun k e => (World.ownsRow.lt h.O.row k e).1
  have hn8 : some b8 ≠ v.ownBlock := fun e => by have := hvl b8 e.symm; omega
  have hn9 : some b9 ≠ v.ownBlock := fun e => by have := hvl b9 e.symm; omega
  have hb8 := (h3.block b8 (blk_lt h.blk) hn8).trans h.blk
  have hb9 := (h3.block b9 (blk_lt h.bx) hn9).trans h.bx
  have hd2 : ∀ y ∈ E ++ [reQ p k x i G C], ∀ ad, y.A = some ad → w3.heap.size ≤ ad.block := fun y hy ad ea => by
    rcases List.mem_append.mp hy with hy | hy
    · exact hd y hy ad ea
    · rw [List.mem_singleton.mp hy] at ea
      unfold reQ at ea
      injection ea with ea
      subst ea
      exact Nat.le_trans hbase (h.T.glt hi).1
  have hT2 : TB w2 base g 10 16 G C M := h.T.keep (h3.block g h.T.lt (fun e => by
      obtain ⟨cs, e1⟩ := h.O.blk e.symm
      obtain ⟨cs', e2, -⟩ := h.T.spine
      rw [e1] at e2
      injection e2 with e2
      injection e2 with _ e2 _
      revert e2
      decide)) (fun j hj => h3.block (G j) (h.T.glt hj).2 (fun e => by
      obtain ⟨cs, e1⟩ := h.O.blk e.symm
      obtain ⟨cs', e2⟩ := ob_blk (h.T.own j hj) (by rw [row_length]; decide)
      rw [e1] at e2
      injection e2 with e2
      injection e2 with _ e2 _
      revert e2
      decide))
  have hsz : w2.heap.size ≤ (w2.setCell ⟨b9, 0, none⟩ v').heap.size := by rw [World.size_setCell]; exact Nat.le_refl _
  refine ⟨⟨(h.U.own_ h3 hvl).trans (Upd.of_grown (blk_grown w2 b9 0 v') (.inr rfl)), ⟨_, _, (blk_other h89 0 v').trans hb8⟩, v', E ++ [reQ p k x i G C], blk_set hb9 0 v', hO2.upd hd2 hsz (fun k hk _ => blk_other (by omega) 0 v'), ?_, hd2⟩, hT2.low_set (by omega) _, (h.K.trans (keeps_own h.O.row h3)).trans (keeps_set hb9 v')⟩
  rw [List.map_append, hE]
  rfl
/-- the next group -/
theorem RSt.group {p : Rp} {w3 wr : World} {b8 b9 x : Nat} {R : List Rc} (h : RSt p w3 b8 b9 R x wr) (h8 : b8 < w3.heap.size) (h9 : b9 < w3.heap.size) (h89 : b8 ≠ b9) : RSt p w3 b8 b9 R (x + 1) (wr.setCell ⟨b8, 4, none⟩ (.int .i64 ((x + 1 : Nat) : Int))) ∧ KeepsFrom 0 wr (wr.setCell ⟨b8, 4, none⟩ (.int .i64 ((x + 1 : Nat) : Int))) := by
  obtain ⟨idx, dat, hb⟩ := h.blk
  obtain ⟨v, E, hv, ho, hE, hd⟩ := h.box
  refine ⟨⟨h.U.trans (Upd.of_grown (blk_grown wr b8 4 _) (.inl rfl)), ⟨idx, dat, blk_set hb 4 _⟩, v, E, (blk_other (Ne.symm h89) 4 _).trans hv, ho.upd hd (by rw [World.size_setCell]; exact Nat.le_refl _) (fun k hk _ => blk_other (by omega) 4 _), hE, hd⟩, keeps_set hb _⟩
end Go.Proofs.Ytdgkcgiknfjpjaa
