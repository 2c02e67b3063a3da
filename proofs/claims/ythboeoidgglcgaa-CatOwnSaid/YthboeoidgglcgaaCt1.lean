/- cat: a catalog in memory. -/
import Derived.Test.YthboeoidgglcgaaCtM
import Derived.Test.YthboeoidgglcgaaNt8
namespace Go.Proofs.Ythboeoidgglcgaa
set_option linter.unusedVariables false
set_option linter.unusedSimpArgs false
set_option linter.unusedSectionVars false
open Go Go.RowKit Go.Maps
/-- a staged blob as it lies -/
structure Wt where
  k : By
  d : By
  A : Option Addr
  c : Nat
def Wt.v (x : Wt) : Value := .slice x.A x.d.length x.c
/-- an entry as it lies -/
structure Et where
  e : EnP
  A : Option Addr
  c : Nat
def Et.v (x : Et) : Value := .slice x.A x.e.places.length x.c
structure CtX where
  vs : Value
  vt : Value
  be : Nat
  bb : Nat
  br : Nat
  W : List Wt
  E : List Et
def Wt.cells (x : Wt) : List Value := [.string (bs x.k), x.v]
def flatW (l : List Wt) : List Value := l.flatMap Wt.cells
def encT (x : By × Int) : List Value := [.string (bs x.1), .int .i64 x.2]
def flatT (l : List (By × Int)) : List Value := l.flatMap encT
def Et.agg (x : Et) : Value := .agg #[.string (bs x.e.key), .int .i64 x.e.gen, .int .i64 x.e.size, .string (bs x.e.sum), x.v]
def eM (E : List Et) : List (By × Value) := E.map (fun e => (e.e.key, e.agg))
def bM (B : List (By × Int)) : List (By × Value) := B.map (fun e => (e.1, Value.int .i64 e.2))
def rM (R : List Int) : List (Int × Value) := R.map (fun z => (z, Value.int .i64 z))
theorem flatW_len (l : List Wt) : (flatW l).length = l.length * 2 := by
  induction l with
  | nil => rfl
  | cons q l ih => simp [flatW, Wt.cells] at *; omega
theorem flatW_app (l m : List Wt) : flatW (l ++ m) = flatW l ++ flatW m := by simp [flatW]
theorem flatT_len (l : List (By × Int)) : (flatT l).length = l.length * 2 := by
  induction l with
  | nil => rfl
  | cons q l ih => simp [flatT, encT] at *; omega
theorem flatT_app (l m : List (By × Int)) : flatT (l ++ m) = flatT l ++ flatT m := by simp [flatT]
theorem flatW_at {l : List Wt} {i : Nat} {x : Wt} (h : l[i]? = some x) : (flatW l)[i * 2]? = some (.string (bs x.k)) ∧ (flatW l)[i * 2 + 1]? = some x.v := by
  induction l generalizing i with
  | nil => simp at h
  | cons p l ih =>
    cases i with
    | zero => simp at h; subst h; exact ⟨rfl, rfl⟩
    | succ i =>
      have h' : l[i]? = some x := by simpa using h
      obtain ⟨a, b⟩ := ih h'
      rw [show (i + 1) * 2 = i * 2 + 2 from by omega]
      exact ⟨a, b⟩
theorem flatT_at {l : List (By × Int)} {i : Nat} {x : By × Int} (h : l[i]? = some x) : (flatT l)[i * 2]? = some (.string (bs x.1)) ∧ (flatT l)[i * 2 + 1]? = some (.int .i64 x.2) := by
  induction l generalizing i with
  | nil => simp at h
  | cons p l ih =>
    cases i with
    | zero => simp at h; subst h; exact ⟨rfl, rfl⟩
    | succ i =>
      have h' : l[i]? = some x := by simpa using h
      obtain ⟨a, b⟩ := ih h'
      rw [show (i + 1) * 2 = i * 2 + 2 from by omega]
      exact ⟨a, b⟩
theorem flatW_one (l : List Wt) : ∀ v ∈ flatW l, v.oneCell' = true := fun v hv => by
  unfold flatW at hv
  obtain ⟨x, -, h⟩ := List.mem_flatMap.mp hv
  simp [Wt.cells, Wt.v] at h
  rcases h with rfl | rfl <;> rfl
theorem flatT_one (l : List (By × Int)) : ∀ v ∈ flatT l, v.oneCell' = true := fun v hv => by
  unfold flatT at hv
  obtain ⟨x, -, h⟩ := List.mem_flatMap.mp hv
  simp [encT] at h
  rcases h with rfl | rfl <;> rfl
/-- the blocks that acts on a catalog turn -/
def CtX.S (x : CtX) (g k : Nat) : Prop := k = g ∨ k = x.be ∨ k = x.bb ∨ k = x.br ∨ x.vs.ownBlock = some k ∨ x.vt.ownBlock = some k
/-- a map's block that holds just these, at most t of them ever -/
def MapB {K : Type} [BEq K] [LawfulBEq K] (w : World) (kt : TypeId) (c : KC K) (b t : Nat) (L : List (K × Value)) : Prop := ∃ n D, n ≤ t ∧ w.ownsMap Try.prog kt RV b n D ∧ MpR c D L
theorem MapB.lt {K : Type} [BEq K] [LawfulBEq K] {w : World} {kt : TypeId} {c : KC K} {b t : Nat} {L : List (K × Value)} (h : MapB w kt c b t L) : b < w.heap.size := by
  obtain ⟨n, D, -, ho, -⟩ := h; exact ho.lt
theorem MapB.keep {K : Type} [BEq K] [LawfulBEq K] {w w' : World} {kt : TypeId} {c : KC K} {b t : Nat} {L : List (K × Value)} (h : MapB w kt c b t L) (hb : w'.heap[b]? = w.heap[b]?) : MapB w' kt c b t L := by
  obtain ⟨n, D, hn, ⟨es, clock, hh, F, hs, hD⟩, hr⟩ := h
  exact ⟨n, D, hn, ⟨es, clock, hb.trans hh, F, hs, hD⟩, hr⟩
theorem MapB.more {K : Type} [BEq K] [LawfulBEq K] {w : World} {kt : TypeId} {c : KC K} {b t t' : Nat} {L : List (K × Value)} (h : MapB w kt c b t L) (ht : t ≤ t') : MapB w kt c b t' L := by
  obtain ⟨n, D, hn, ho, hr⟩ := h
  exact ⟨n, D, Nat.le_trans hn ht, ho, hr⟩
theorem MapB.notcell {K : Type} [BEq K] [LawfulBEq K] {w : World} {kt : TypeId} {c : KC K} {b t : Nat} {L : List (K × Value)} (h : MapB w kt c b t L) {cs : Array Value} {T : TypeId} : w.heap[b]? ≠ some (.cells cs T (0, 0)) := by
  obtain ⟨n, D, -, ⟨es, clock, hh, -⟩, -⟩ := h
  rw [hh]; intro e; cases e
theorem row_notmap {K : Type} [BEq K] [LawfulBEq K] {w : World} {base e size n b m : Nat} {v : Value} {xs : List Value} {k : TypeId} {c : KC K} {L : List (K × Value)} (h : w.ownsRow base e size v n xs) (hm : MapB w k c b m L) : v.ownBlock ≠ some b := by
  rcases h.2 with ⟨rfl, -⟩ | ⟨g, cap, cur, rfl, hb, hg, -⟩
  · intro e; cases e
  · intro e
    injection e with e
    have e : g = b := e
    subst e
    exact hm.notcell hg
/-- block g is a catalog that holds c, in at most t acts -/
structure Ca (w : World) (lo g : Nat) (x : CtX) (c : CtP) (t : Nat) : Prop where
  blk : w.heap[g]? = some (.cells #[x.vs, .map (some x.be), .map (some x.bb), x.vt, .map (some x.br), .int .i64 c.G] 65 (0, 0))
  lg : lo ≤ g
  lm : lo ≤ x.be ∧ lo ≤ x.bb ∧ lo ≤ x.br
  ne : x.be ≠ x.bb ∧ x.be ≠ x.br ∧ x.bb ≠ x.br
  ws : w.ownsRow lo 67 2 x.vs x.W.length (flatW x.W)
  wd : ∀ e ∈ x.W, OB w lo e.v e.d
  wc : c.W = x.W.map (fun e => (e.k, e.d))
  me : MapB w 9 KS x.be t (eM x.E)
  ep : ∀ e ∈ x.E, OP e.e.places e.v lo w
  ec : c.E = x.E.map (fun e => (e.e.key, e.e))
  mb : MapB w 9 KS x.bb t (bM c.B)
  ts : w.ownsRow lo 85 2 x.vt c.T.length (flatT c.T)
  mr : MapB w 3 KI x.br t (rM c.R)
  ok : c.Ok
  few : c.Few t
section
variable {w w' : World} {lo g t : Nat} {x : CtX} {c : CtP}
theorem Ca.lt (h : Ca w lo g x c t) : ∀ k, x.S g k → k < w.heap.size ∧ lo ≤ k := fun k hk => by
  rcases hk with rfl | rfl | rfl | rfl | hk | hk
  · exact ⟨blk_lt h.blk, h.lg⟩
  · exact ⟨h.me.lt, h.lm.1⟩
  · exact ⟨h.mb.lt, h.lm.2.1⟩
  · exact ⟨h.mr.lt, h.lm.2.2⟩
  · exact ⟨(h.ws.lt k hk).2, (h.ws.lt k hk).1⟩
  · exact ⟨(h.ts.lt k hk).2, (h.ts.lt k hk).1⟩
/-- what leaves its blocks alone -/
theorem Ca.keep (h : Ca w lo g x c t) (h1 : ∀ k, x.S g k → w'.heap[k]? = w.heap[k]?) (h2 : ∀ e ∈ x.W, ∀ k, e.v.ownBlock = some k → w'.heap[k]? = w.heap[k]?) (h3 : ∀ e ∈ x.E, ∀ k, e.v.ownBlock = some k → w'.heap[k]? = w.heap[k]?) : Ca w' lo g x c t where
  blk := (h1 g (.inl rfl)).trans h.blk
  lg := h.lg
  lm := h.lm
  ne := h.ne
  ws := row_keep h.ws (fun k hk => h1 k (.inr (.inr (.inr (.inr (.inl hk))))))
  wd e he := row_keep (h.wd e he) (h2 e he)
  wc := h.wc
  me := h.me.keep (h1 _ (.inr (.inl rfl)))
  ep e he := ⟨row_keep (h.ep e he).1 (h3 e he), (h.ep e he).2⟩
  ec := h.ec
  mb := h.mb.keep (h1 _ (.inr (.inr (.inl rfl))))
  ts := row_keep h.ts (fun k hk => h1 k (.inr (.inr (.inr (.inr (.inr hk))))))
  mr := h.mr.keep (h1 _ (.inr (.inr (.inr (.inl rfl)))))
  ok := h.ok
  few := h.few
theorem Ca.gr (h : Ca w lo g x c t) (hg : Gr w w') : Ca w' lo g x c t :=
  h.keep (fun k hk => Below.block hg k (h.lt k hk).1) (fun e he k hk => Below.block hg k ((h.wd e he).lt k hk).2) (fun e he k hk => Below.block hg k ((h.ep e he).1.lt k hk).2)
theorem Ca.form (h : Ca w lo g x c t) : ∃ A ca A2 ca2, x.vs = .slice A x.W.length ca ∧ x.vt = .slice A2 c.T.length ca2 := by
  obtain ⟨A, ca, e1, -⟩ := row_form h.ws
  obtain ⟨A2, ca2, e2, -⟩ := row_form h.ts
  exact ⟨A, ca, A2, ca2, e1, e2⟩
theorem Ca.more (h : Ca w lo g x c t) {t' : Nat} (ht : t ≤ t') : Ca w lo g x c t' :=
  ⟨h.blk, h.lg, h.lm, h.ne, h.ws, h.wd, h.wc, h.me.more ht, h.ep, h.ec, h.mb.more ht, h.ts, h.mr.more ht, h.ok, by obtain ⟨a, b, d, e, f⟩ := h.few; exact ⟨by omega, by omega, by omega, by omega, by omega⟩⟩
theorem Ca.lower (h : Ca w lo g x c t) {lo' : Nat} (hl : lo' ≤ lo) : Ca w lo' g x c t :=
  ⟨h.blk, Nat.le_trans hl h.lg, ⟨Nat.le_trans hl h.lm.1, Nat.le_trans hl h.lm.2.1, Nat.le_trans hl h.lm.2.2⟩, h.ne, row_more h.ws hl, fun e he => row_more (h.wd e he) hl, h.wc, h.me, fun e he => ⟨row_more (h.ep e he).1 hl, (h.ep e he).2⟩, h.ec, h.mb, row_more h.ts hl, h.mr, h.ok, h.few⟩
/-- the keys' maps and the lists agree in what is had -/
theorem Ca.hasE (h : Ca w lo g x c t) (k : By) : hasP (eM x.E) k = hasP c.E k := by
  rw [h.ec]; unfold hasP eM; rw [List.any_map, List.any_map]; rfl
theorem bM_has (B : List (By × Int)) (k : By) : hasP (bM B) k = hasP B k := by unfold hasP bM; rw [List.any_map]; rfl
theorem Ca.hasW (h : Ca w lo g x c t) (k : By) : hasP c.W k = x.W.any (fun e => e.k == k) := by
  rw [h.wc]; unfold hasP; rw [List.any_map]; rfl
end
end Go.Proofs.Ythboeoidgglcgaa
