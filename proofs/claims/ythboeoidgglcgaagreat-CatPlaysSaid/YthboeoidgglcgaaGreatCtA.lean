/- cat: a catalog in memory. -/
import Derived.Test.YthboeoidgglcgaaGreatCtM
import Derived.Test.YthboeoidgglcgaaGreatNt8
import Derived.Test.YthboeoidgglcgaaGreatRowX
namespace Go.Proofs.YthboeoidgglcgaaGreat
set_option linter.unusedVariables false
set_option linter.unusedSimpArgs false
set_option linter.unusedSectionVars false
open Go Go.RowKit Go.Maps
/-- a staged blob as it lies -/
structure Wt where
  k : By
  d : By
  A : Option Addr
  c : Nat
def Wt.v (x : Wt) : Value := .slice x.A x.d.length x.c
/-- an entry as it lies -/
structure Et where
  e : EnP
  A : Option Addr
  c : Nat
def Et.v (x : Et) : Value := .slice x.A x.e.places.length x.c
structure CtX where
  vs : Value
  vt : Value
  be : Nat
  bb : Nat
  br : Nat
  W : List Wt
  E : List Et
def Wt.cells (x : Wt) : List Value := [.string (bs x.k), x.v]
def flatW (l : List Wt) : List Value := l.flatMap Wt.cells
def encT (x : By × Int) : List Value := [.string (bs x.1), .int .i64 x.2]
def flatT (l : List (By × Int)) : List Value := l.flatMap encT
def Et.agg (x : Et) : Value := .agg #[.string (bs x.e.key), .int .i64 x.e.gen, .int .i64 x.e.size, .string (bs x.e.sum), x.v]
def eM (E : List Et) : List (By × Value) := E.map (fun e => (e.e.key, e.agg))
def bM (B : List (By × Int)) : List (By × Value) := B.map (fun e => (e.1, Value.int .i64 e.2))
def rM (R : List Int) : List (Int × Value) := R.map (fun z => (z, Value.int .i64 z))
theorem flatW_len (l : List Wt) : (flatW l).length = l.length * 2 := by
  induction l with
  | nil => rfl
  | cons q l ih => simp [flatW, Wt.cells] at *; omega
theorem flatW_app (l m : List Wt) : flatW (l ++ m) = flatW l ++ flatW m := by simp [flatW]
theorem flatT_len (l : List (By × Int)) : (flatT l).length = l.length * 2 := by
  induction l with
  | nil => rfl
  | cons q l ih => simp [flatT, encT] at *; omega
theorem flatT_app (l m : List (By × Int)) : flatT (l ++ m) = flatT l ++ flatT m := by simp [flatT]
theorem flatW_at {l : List Wt} {i : Nat} {x : Wt} (h : l[i]? = some x) : (flatW l)[i * 2]? = some (.string (bs x.k)) ∧ (flatW l)[i * 2 + 1]? = some x.v := by
  induction l generalizing i with
  | nil => simp at h
  | cons p l ih =>
    cases i with
    | zero => simp at h; subst h; exact ⟨rfl, rfl⟩
    | succ i =>
      have h' : l[i]? = some x := by simpa using h
      obtain ⟨a, b⟩ := ih h'
      rw [show (i + 1) * 2 = i * 2 + 2 from by omega]
      exact ⟨a, b⟩
theorem flatT_at {l : List (By × Int)} {i : Nat} {x : By × Int} (h : l[i]? = some x) : (flatT l)[i * 2]? = some (.string (bs x.1)) ∧ (flatT l)[i * 2 + 1]? = some (.int .i64 x.2) := by
  induction l generalizing i with
  | nil => simp at h
  | cons p l ih =>
    cases i with
    | zero => simp at h; subst h; exact ⟨rfl, rfl⟩
    | succ i =>
      have h' : l[i]? = some x := by simpa using h
      obtain ⟨a, b⟩ := ih h'
      rw [show (i + 1) * 2 = i * 2 + 2 from by omega]
      exact ⟨a, b⟩
theorem flatW_one (l : List Wt) : ∀ v ∈ flatW l, v.oneCell' = true := fun v hv => by
  unfold flatW at hv
  obtain ⟨x, -, h⟩ := List.mem_flatMap.mp hv
  simp [Wt.cells, Wt.v] at h
  rcases h with rfl | rfl <;> rfl
theorem flatT_one (l : List (By × Int)) : ∀ v ∈ flatT l, v.oneCell' = true := fun v hv => by
  unfold flatT at hv
  obtain ⟨x, -, h⟩ := List.mem_flatMap.mp hv
  simp [encT] at h
  rcases h with rfl | rfl <;> rfl
/-- the blocks that acts on a catalog turn -/
def CtX.S (x : CtX) (g k : Nat) : Prop := k = g ∨ k = x.be ∨ k = x.bb ∨ k = x.br ∨ x.vs.ownBlock = some k ∨ x.vt.ownBlock = some k
/-- a map's block that holds just these, at most t of them ever -/
def MapB {K : Type} [BEq K] [LawfulBEq K] (w : World) (kt : TypeId) (c : KC K) (b t : Nat) (L : List (K × Value)) : Prop := ∃ n D, n ≤ t ∧ w.ownsMap Tryz.prog kt RV b n D ∧ MpR c D L
theorem MapB.lt {K : Type} [BEq K] [LawfulBEq K] {w : World} {kt : TypeId} {c : KC K} {b t : Nat} {L : List (K × Value)} (h : MapB w kt c b t L) : b < w.heap.size := by
  obtain ⟨n, D, -, ho, -⟩ := h; exact ho.lt
theorem MapB.keep {K : Type} [BEq K] [LawfulBEq K] {w w' : World} {kt : TypeId} {c : KC K} {b t : Nat} {L : List (K × Value)} (h : MapB w kt c b t L) (hb : w'.heap[b]? = w.heap[b]?) : MapB w' kt c b t L := by
  obtain ⟨n, D, hn, ⟨es, clock, hh, F, hs, hD⟩, hr⟩ := h
  exact ⟨n, D, hn, ⟨es, clock, hb.trans hh, F, hs, hD⟩, hr⟩
theorem MapB.more {K : Type} [BEq K] [LawfulBEq K] {w : World} {kt : TypeId} {c : KC K} {b t t' : Nat} {L : List (K × Value)} (h : MapB w kt c b t L) (ht : t ≤ t') : MapB w kt c b t' L := by
  obtain ⟨n, D, hn, ho, hr⟩ := h
  exact ⟨n, D, Nat.le_trans hn ht, ho, hr⟩
theorem MapB.notcell {K : Type} [BEq K] [LawfulBEq K] {w : World} {kt : TypeId} {c : KC K} {b t : Nat} {L : List (K × Value)} (h : MapB w kt c b t L) {cs : Array Value} {T : TypeId} : w.heap[b]? ≠ some (.cells cs T (0, 0)) := by
  obtain ⟨n, D, -, ⟨es, clock, hh, -⟩, -⟩ := h
  rw [hh]; intro e; cases e
theorem row_notmap {K : Type} [BEq K] [LawfulBEq K] {w : World} {base e size n b m : Nat} {v : Value} {xs : List Value} {k : TypeId} {c : KC K} {L : List (K × Value)} (h : w.ownsRow base e size v n xs) (hm : MapB w k c b m L) : v.ownBlock ≠ some b := by
  rcases h.2 with ⟨rfl, -⟩ | ⟨g, cap, cur, rfl, hb, hg, -⟩
  · intro e; cases e
  · intro e
    injection e with e
    have e : g = b := e
    subst e
    exact hm.notcell hg
/-- block g is a catalog that holds c, in at most t acts -/
structure Ca (w : World) (lo g : Nat) (x : CtX) (c : CtP) (t : Nat) : Prop where
  blk : w.heap[g]? = some (.cells #[x.vs, .map (some x.be), .map (some x.bb), x.vt, .map (some x.br), .int .i64 c.G] 56 (0, 0))
  lg : lo ≤ g
  lm : lo ≤ x.be ∧ lo ≤ x.bb ∧ lo ≤ x.br
  ne : x.be ≠ x.bb ∧ x.be ≠ x.br ∧ x.bb ≠ x.br
  ws : w.ownsRow lo 76 2 x.vs x.W.length (flatW x.W)
  wd : ∀ e ∈ x.W, OB w lo e.v e.d
  wc : c.W = x.W.map (fun e => (e.k, e.d))
  me : MapB w 9 KS x.be t (eM x.E)
  ep : ∀ e ∈ x.E, OP e.e.places e.v lo w
  ec : c.E = x.E.map (fun e => (e.e.key, e.e))
  mb : MapB w 9 KS x.bb t (bM c.B)
  ts : w.ownsRow lo 83 2 x.vt c.T.length (flatT c.T)
  mr : MapB w 3 KI x.br t (rM c.R)
  ok : c.Ok
  few : c.Few t
section
variable {w w' : World} {lo g t : Nat} {x : CtX} {c : CtP}
theorem Ca.lt (h : Ca w lo g x c t) : ∀ k, x.S g k → k < w.heap.size ∧ lo ≤ k := fun k hk => by
  rcases hk with rfl | rfl | rfl | rfl | hk | hk
  · exact ⟨blk_lt h.blk, h.lg⟩
  · exact ⟨h.me.lt, h.lm.1⟩
  · exact ⟨h.mb.lt, h.lm.2.1⟩
  · exact ⟨h.mr.lt, h.lm.2.2⟩
  · exact ⟨(h.ws.lt k hk).2, (h.ws.lt k hk).1⟩
  · exact ⟨(h.ts.lt k hk).2, (h.ts.lt k hk).1⟩
/-- what leaves its blocks alone -/
theorem Ca.keep (h : Ca w lo g x c t) (h1 : ∀ k, x.S g k → w'.heap[k]? = w.heap[k]?) (h2 : ∀ e ∈ x.W, ∀ k, e.v.ownBlock = some k → w'.heap[k]? = w.heap[k]?) (h3 : ∀ e ∈ x.E, ∀ k, e.v.ownBlock = some k → w'.heap[k]? = w.heap[k]?) : Ca w' lo g x c t where
  blk := (h1 g (.inl rfl)).trans h.blk
  lg := h.lg
  lm := h.lm
  ne := h.ne
  ws := row_keep h.ws (fun k hk => h1 k (.inr (.inr (.inr (.inr (.inl hk))))))
  wd e he := row_keep (h.wd e he) (h2 e he)
  wc := h.wc
  me := h.me.keep (h1 _ (.inr (.inl rfl)))
  ep e he := ⟨row_keep (h.ep e he).1 (h3 e he), (h.ep e he).2⟩
  ec := h.ec
  mb := h.mb.keep (h1 _ (.inr (.inr (.inl rfl))))
  ts := row_keep h.ts (fun k hk => h1 k (.inr (.inr (.inr (.inr (.inr hk))))))
  mr := h.mr.keep (h1 _ (.inr (.inr (.inr (.inl rfl)))))
  ok := h.ok
  few := h.few
theorem Ca.gr (h : Ca w lo g x c t) (hg : Gr w w') : Ca w' lo g x c t :=
  h.keep (fun k hk => Below.block hg k (h.lt k hk).1) (fun e he k hk => Below.block hg k ((h.wd e he).lt k hk).2) (fun e he k hk => Below.block hg k ((h.ep e he).1.lt k hk).2)
theorem Ca.form (h : Ca w lo g x c t) : ∃ A ca A2 ca2, x.vs = .slice A x.W.length ca ∧ x.vt = .slice A2 c.T.length ca2 := by
  obtain ⟨A, ca, e1, -⟩ := row_form h.ws
  obtain ⟨A2, ca2, e2, -⟩ := row_form h.ts
  exact ⟨A, ca, A2, ca2, e1, e2⟩
theorem Ca.more (h : Ca w lo g x c t) {t' : Nat} (ht : t ≤ t') : Ca w lo g x c t' :=
  ⟨h.blk, h.lg, h.lm, h.ne, h.ws, h.wd, h.wc, h.me.more ht, h.ep, h.ec, h.mb.more ht, h.ts, h.mr.more ht, h.ok, by obtain ⟨a, b, d, e, f⟩ := h.few; exact ⟨by omega, by omega, by omega, by omega, by omega⟩⟩
theorem Ca.lower (h : Ca w lo g x c t) {lo' : Nat} (hl : lo' ≤ lo) : Ca w lo' g x c t :=
  ⟨h.blk, Nat.le_trans hl h.lg, ⟨Nat.le_trans hl h.lm.1, Nat.le_trans hl h.lm.2.1, Nat.le_trans hl h.lm.2.2⟩, h.ne, row_more h.ws hl, fun e he => row_more (h.wd e he) hl, h.wc, h.me, fun e he => ⟨row_more (h.ep e he).1 hl, (h.ep e he).2⟩, h.ec, h.mb, row_more h.ts hl, h.mr, h.ok, h.few⟩
/-- the keys' maps and the lists agree in what is had -/
theorem Ca.hasE (h : Ca w lo g x c t) (k : By) : hasP (eM x.E) k = hasP c.E k := by
  rw [h.ec]; unfold hasP eM; rw [List.any_map, List.any_map]; rfl
theorem bM_has (B : List (By × Int)) (k : By) : hasP (bM B) k = hasP B k := by unfold hasP bM; rw [List.any_map]; rfl
theorem Ca.hasW (h : Ca w lo g x c t) (k : By) : hasP c.W k = x.W.any (fun e => e.k == k) := by
  rw [h.wc]; unfold hasP; rw [List.any_map]; rfl
end
end Go.Proofs.YthboeoidgglcgaaGreat
/- cat: rows of staged blobs: one more, where one is, without one. -/
namespace Go.Proofs.YthboeoidgglcgaaGreat
set_option linter.unusedVariables false
set_option linter.unusedSimpArgs false
set_option linter.unusedSectionVars false
open Go Go.RowKit Go.Maps
def WRow (w : World) (base : Nat) (v : Value) (l : List Wt) : Prop := w.ownsRow base 76 2 v l.length (flatW l)
def Wt.agg (x : Wt) : Value := .agg #[.string (bs x.k), x.v]
theorem Upd.mono {S S' : Nat → Prop} {w w' : World} (h : Upd S w w') (hs : ∀ k, S k → S' k) : Upd S' w w' := ⟨h.1, h.2.1, h.2.2.1, h.2.2.2.1, fun k hk hn => h.2.2.2.2 k hk (fun h' => hn (hs k h'))⟩
theorem info_blob : (Tryz.prog.info? 76).map (fun i => (i.zero, i.size, i.bytes)) = some (some (.agg #[.string ⟨#[]⟩, .slice none 0 0]), 2, 40) := by kernel_rfl
theorem blob_size : (Tryz.prog.info? 76).map (·.size) = some 2 := by kernel_rfl
theorem wpl_append_W {w : World} {ops : Array Oper} {rest : List Oper} {o : Oper} {a : Act} {Q : Exit → Act → World → Prop} (hgd : o.guard = none) (s x : Operand)
    (ho : o.op = .call { callee := .builtin .append, args := #[s, x], argTypes := #[53, 53] })
    (base : Nat) (v : Value) (l : List Wt) (hs : a.eval s = v) (hown : WRow w base v l)
    (B : Nat) (A : Option Addr) (c m : Nat) (news : List Wt) (hm : news.length = m) (hx : a.eval x = .slice A m c) (hr : Reads w B 2 A m (flatW news))
    (hlen : (l.length + m) * 40 ≤ 140737488355328) (hbase : base ≤ w.heap.size)
    (h : ∀ v' w', WRow w' base v' (l ++ news) → w.grownBy w' v.ownBlock → (v'.ownBlock = v.ownBlock ∨ v'.ownBlock = some w.heap.size) → wpList Tryz.prog ops Q rest (a.put o.dst v') w') : wpList Tryz.prog ops Q (o :: rest) a w := by
  obtain ⟨i0, hi, hz0, hz1, hz2⟩ := info_parts info_blob
  refine wpList_plain hgd fun _ hK => wp_append_any w s x 53 ho base 76 i0 _ 2 40 Tryz.underlying53 hi hz0 hz1 hz2 rfl (by omega) v l.length (flatW l) hs hown B A m c (flatW news) hx hr (flatW_one news)
    (by simp only [maxLen]; omega) hlen hbase fun v' w' h2 h3 h4 => hK _ _ (h v' w' ?_ h3 h4)
  unfold WRow
  rw [List.length_append, flatW_app, hm]
  exact h2
/-- those that have another key -/
def filW (k : By) (l : List Wt) : List Wt := l.filter (fun q => q.k != k)
def stagF (N : Nat) : Value := .func (.func 64) #[] #[.pointer (some ⟨N, 0, none⟩)]
def dropF (N : Nat) : Value := .func (.func 66) #[] #[.pointer (some ⟨N, 0, none⟩)]
set_option maxRecDepth 10000 in
theorem stag1_any (N : Nat) (key : By) (q : Wt) (w : World) (hN : N < w.heap.size) (hc : w.cell? ⟨N, 0, none⟩ = some (.string (bs key))) :
    Calls Tryz.prog 64 #[q.agg, .pointer (some ⟨N, 0, none⟩)] w fun e w' => e = .returned (.bool (q.k == key)) ∧ Below w.heap.size w w' := by
  unfold Wt.agg Wt.v
  obtain ⟨qk, qd, qA, qc⟩ := q
  simp only
  obtain ⟨m, hm⟩ : ∃ m, qd.length = m := ⟨_, rfl⟩
  rw [hm]
  replace hm := Lib.hid hm
  obtain ⟨r, hr⟩ : ∃ r, (qk == key) = r := ⟨_, rfl⟩
  have hb := Lib.hid ((Below.refl w.heap.size w).alloc (Nat.le_refl _) (.cells #[.string (bs qk), .slice qA m qc] 76))
  have hne : ¬ (N = w.heap.size) := by omega
  have hr2 : (bs qk == bs key) = r := by rw [bs_beq]; exact hr
  rw [hr]
  go_enter Tryz.func64, Tryz.ntmps64
  go_wp2
  go_ret
  exact ⟨rfl, hb.out⟩
set_option maxRecDepth 10000 in
theorem drop1_any (N : Nat) (key : By) (q : Wt) (w : World) (hN : N < w.heap.size) (hc : w.cell? ⟨N, 0, none⟩ = some (.string (bs key))) :
    Calls Tryz.prog 66 #[q.agg, .pointer (some ⟨N, 0, none⟩)] w fun e w' => e = .returned (.bool (q.k == key)) ∧ Below w.heap.size w w' := by
  unfold Wt.agg Wt.v
  obtain ⟨qk, qd, qA, qc⟩ := q
  simp only
  obtain ⟨m, hm⟩ : ∃ m, qd.length = m := ⟨_, rfl⟩
  rw [hm]
  replace hm := Lib.hid hm
  obtain ⟨r, hr⟩ : ∃ r, (qk == key) = r := ⟨_, rfl⟩
  have hb := Lib.hid ((Below.refl w.heap.size w).alloc (Nat.le_refl _) (.cells #[.string (bs qk), .slice qA m qc] 76))
  have hne : ¬ (N = w.heap.size) := by omega
  have hr2 : (bs qk == bs key) = r := by rw [bs_beq]; exact hr
  rw [hr]
  go_enter Tryz.func66, Tryz.ntmps66
  go_wp2
  go_ret
  exact ⟨rfl, hb.out⟩
def IdxW (key : By) (l : List Wt) (w : World) (e : Ending) (w' : World) : Prop :=
  Below w.heap.size w w' ∧ ((e = .returned (.int .i64 (-1)) ∧ ∀ q ∈ l, q.k ≠ key) ∨
    ∃ k q, e = .returned (.int .i64 (k : Nat)) ∧ l[k]? = some q ∧ q.k = key ∧ ∀ j p, j < k → l[j]? = some p → p.k ≠ key)
set_option maxHeartbeats 1000000 in
set_option maxRecDepth 10000 in
theorem index_stag (lo N : Nat) (key : By) (A : Option Addr) (n c : Nat) (l : List Wt) (hn : l.length = n) (hnm : n ≤ 1000000) (w : World) (hN : N < w.heap.size) (hc : w.cell? ⟨N, 0, none⟩ = some (.string (bs key))) (h : WRow w lo (.slice A n c) l) :
    Calls Tryz.prog 63 #[.slice A n c, stagF N] w (IdxW key l w) := by
  replace h := Lib.hid h
  replace hc := Lib.hid hc
  replace hn := Lib.hid hn
  unfold stagF
  go_enter Tryz.func63, Tryz.ntmps63
  go_wp2_with fail
  go_loopw [8] (fun i wr => ∃ k : Nat, i = .int .i64 k ∧ k ≤ n ∧ Hid (∀ j p, j < k → l[j]? = some p → p.k ≠ key) ∧ Hid (Below w.heap.size w wr)) (fun i _ => n - (intOf i).toNat)
  case atStart => exact ⟨0, rfl, Nat.zero_le _, Lib.hid (fun j p hj => absurd hj (by omega)), Lib.hid (Below.refl _ _)⟩
  case round =>
    obtain ⟨k, rfl, hk, hall, hb⟩ := hrel
    by_cases hlt : k < n
    · obtain ⟨q, hq⟩ : ∃ q, l[k]? = some q := ⟨_, List.getElem?_eq_getElem (by rw [hn.out]; exact hlt)⟩
      have hrow : WRow wr lo (.slice A n c) l := row_below h.out hb.out
      obtain ⟨b, c', he, -, hcm, -, hbw, -, -, hcell, -⟩ := row_at hrow (by rw [hn.out]; omega)
      have he' : A = some ⟨b, 0, none⟩ := by injection he
      subst he'
      clear he
      have ha := flatW_at hq
      have x0 : wr.cell? ⟨b, k * 2, none⟩ = some (.string (bs q.k)) := hcell _ _ ha.1
      have x1 : wr.cell? ⟨b, k * 2 + 1, none⟩ = some q.v := hcell _ _ ha.2
      have hcN := Lib.hid ((hb.out.cell (p := ⟨N, 0, none⟩) hN).trans hc.out)
      have hNw := Lib.hid (Nat.lt_of_lt_of_le hN hb.out.size)
      replace hrow := Lib.hid hrow
      clear ha hcell
      have hd1 := stag1_any N key q wr hNw.out hcN.out
      unfold Wt.agg at hd1
      replace hd1 := Lib.hid hd1
      replace hq := Lib.hid hq
      by_cases hj : q.k = key
      · have hjb : Hid ((q.k == key) = true) := Lib.hid (by rw [beq_iff_eq]; exact hj)
        rw [hjb.out] at hd1
        replace hj := Lib.hid hj
        go_wp2_with fail
        refine hd1.out.mono ?_
        rintro e w1 ⟨rfl, hb1⟩
        have hb2 := Lib.hid (hb.out.trans (hb1.mono hb.out.size))
        clear hb1
        go_wp2_with fail
        go_ret
        exact ⟨hb2.out, .inr ⟨k, q, rfl, hq.out, hj.out, hall.out⟩⟩
      · have hjb : Hid ((q.k == key) = false) := Lib.hid (beq_eq_false_iff_ne.mpr hj)
        rw [hjb.out] at hd1
        replace hj := Lib.hid hj
        go_wp2_with fail
        refine hd1.out.mono ?_
        rintro e w1 ⟨rfl, hb1⟩
        have hb2 := Lib.hid (hb.out.trans (hb1.mono hb.out.size))
        clear hb1
        go_wp2_with fail
        go_roundw
        case rel => exact ⟨k + 1, by go_num, by omega, Lib.hid (fun j p hjk hp => by
          by_cases hjk' : j < k
          · exact hall.out j p hjk' hp
          · have : j = k := by omega
            subst this
            rw [hq.out] at hp
            injection hp with hp
            exact hp ▸ hj.out), hb2⟩
        case measure => simp [intOf]; omega
    · obtain rfl : k = n := by omega
      go_wp2_with fail
      go_ret
      refine ⟨hb.out, .inl ⟨rfl, fun q hq => ?_⟩⟩
      obtain ⟨j, hj, rfl⟩ := List.getElem_of_mem hq
      exact hall.out j _ (by rw [← hn.out]; exact hj) (List.getElem?_eq_getElem hj)
set_option maxHeartbeats 1000000 in
set_option maxRecDepth 10000 in
theorem index_drop (lo N : Nat) (key : By) (A : Option Addr) (n c : Nat) (l : List Wt) (hn : l.length = n) (hnm : n ≤ 1000000) (w : World) (hN : N < w.heap.size) (hc : w.cell? ⟨N, 0, none⟩ = some (.string (bs key))) (h : WRow w lo (.slice A n c) l) :
    Calls Tryz.prog 63 #[.slice A n c, dropF N] w (IdxW key l w) := by
  replace h := Lib.hid h
  replace hc := Lib.hid hc
  replace hn := Lib.hid hn
  unfold dropF
  go_enter Tryz.func63, Tryz.ntmps63
  go_wp2_with fail
  go_loopw [8] (fun i wr => ∃ k : Nat, i = .int .i64 k ∧ k ≤ n ∧ Hid (∀ j p, j < k → l[j]? = some p → p.k ≠ key) ∧ Hid (Below w.heap.size w wr)) (fun i _ => n - (intOf i).toNat)
  case atStart => exact ⟨0, rfl, Nat.zero_le _, Lib.hid (fun j p hj => absurd hj (by omega)), Lib.hid (Below.refl _ _)⟩
  case round =>
    obtain ⟨k, rfl, hk, hall, hb⟩ := hrel
    by_cases hlt : k < n
    · obtain ⟨q, hq⟩ : ∃ q, l[k]? = some q := ⟨_, List.getElem?_eq_getElem (by rw [hn.out]; exact hlt)⟩
      have hrow : WRow wr lo (.slice A n c) l := row_below h.out hb.out
      obtain ⟨b, c', he, -, hcm, -, hbw, -, -, hcell, -⟩ := row_at hrow (by rw [hn.out]; omega)
      have he' : A = some ⟨b, 0, none⟩ := by injection he
      subst he'
      clear he
      have ha := flatW_at hq
      have x0 : wr.cell? ⟨b, k * 2, none⟩ = some (.string (bs q.k)) := hcell _ _ ha.1
      have x1 : wr.cell? ⟨b, k * 2 + 1, none⟩ = some q.v := hcell _ _ ha.2
      have hcN := Lib.hid ((hb.out.cell (p := ⟨N, 0, none⟩) hN).trans hc.out)
      have hNw := Lib.hid (Nat.lt_of_lt_of_le hN hb.out.size)
      replace hrow := Lib.hid hrow
      clear ha hcell
      have hd1 := drop1_any N key q wr hNw.out hcN.out
      unfold Wt.agg at hd1
      replace hd1 := Lib.hid hd1
      replace hq := Lib.hid hq
      by_cases hj : q.k = key
      · have hjb : Hid ((q.k == key) = true) := Lib.hid (by rw [beq_iff_eq]; exact hj)
        rw [hjb.out] at hd1
        replace hj := Lib.hid hj
        go_wp2_with fail
        refine hd1.out.mono ?_
        rintro e w1 ⟨rfl, hb1⟩
        have hb2 := Lib.hid (hb.out.trans (hb1.mono hb.out.size))
        clear hb1
        go_wp2_with fail
        go_ret
        exact ⟨hb2.out, .inr ⟨k, q, rfl, hq.out, hj.out, hall.out⟩⟩
      · have hjb : Hid ((q.k == key) = false) := Lib.hid (beq_eq_false_iff_ne.mpr hj)
        rw [hjb.out] at hd1
        replace hj := Lib.hid hj
        go_wp2_with fail
        refine hd1.out.mono ?_
        rintro e w1 ⟨rfl, hb1⟩
        have hb2 := Lib.hid (hb.out.trans (hb1.mono hb.out.size))
        clear hb1
        go_wp2_with fail
        go_roundw
        case rel => exact ⟨k + 1, by go_num, by omega, Lib.hid (fun j p hjk hp => by
          by_cases hjk' : j < k
          · exact hall.out j p hjk' hp
          · have : j = k := by omega
            subst this
            rw [hq.out] at hp
            injection hp with hp
            exact hp ▸ hj.out), hb2⟩
        case measure => simp [intOf]; omega
    · obtain rfl : k = n := by omega
      go_wp2_with fail
      go_ret
      refine ⟨hb.out, .inl ⟨rfl, fun q hq => ?_⟩⟩
      obtain ⟨j, hj, rfl⟩ := List.getElem_of_mem hq
      exact hall.out j _ (by rw [← hn.out]; exact hj) (List.getElem?_eq_getElem hj)
theorem wt_one (q : Wt) : ∀ v ∈ q.cells, v.oneCell' = true := fun v hv => by
  simp [Wt.cells, Wt.v] at hv
  rcases hv with rfl | rfl <;> rfl
theorem blob0_one : ∀ u ∈ (Value.agg #[.string ⟨#[]⟩, .slice none 0 0]).cells.toList, u.oneCell' = true := fun u hu => by
  simp [Value.cells] at hu
  rcases hu with rfl | rfl <;> rfl
theorem flatW_take (l : List Wt) (m : Nat) : (flatW l).take (m * 2) = flatW (l.take m) := by
  induction l generalizing m with
  | nil => simp [flatW]
  | cons p l ih =>
    cases m with
    | zero => simp [flatW]
    | succ m =>
      show (p.cells ++ flatW l).take _ = p.cells ++ flatW (l.take m)
      rw [show (m + 1) * 2 = p.cells.length + m * 2 from by show (m + 1) * 2 = 2 + m * 2; omega, List.take_length_add_append, ih]
theorem flatW_set (l : List Wt) {m : Nat} (h : m < l.length) (q : Wt) : flatW (l.set m q) = ((flatW l).set (m * 2) (.string (bs q.k))).set (m * 2 + 1) q.v := by
  induction l generalizing m with
  | nil => simp at h
  | cons p l ih =>
    cases m with
    | zero => simp [flatW, Wt.cells]
    | succ m =>
      have hm : m < l.length := by simpa using h
      have hk : ∀ (i : Nat) (x : Value) (ys : List Value), 2 ≤ i → (p.cells ++ ys).set i x = p.cells ++ ys.set (i - 2) x := fun i x ys hi => by
        rw [List.set_append_right _ _ (show p.cells.length ≤ i from hi)]; rfl
      show p.cells ++ flatW (l.set m q) = ((p.cells ++ flatW l).set _ _).set _ _
      rw [hk _ _ _ (by omega), hk _ _ _ (by omega), ih hm]
      rw [show (m + 1) * 2 - 2 = m * 2 by omega, show (m + 1) * 2 + 1 - 2 = m * 2 + 1 by omega]
theorem WRow.put {w : World} {lo b n c m : Nat} {cur : List Wt} (h : WRow w lo (.slice (some ⟨b, 0, none⟩) n c) cur) (hm : m < cur.length) (q : Wt) :
    WRow ((w.setCell ⟨b, m * 2, none⟩ (.string (bs q.k))).setCell ⟨b, m * 2 + 1, none⟩ q.v) lo (.slice (some ⟨b, 0, none⟩) n c) (cur.set m q) ∧ Upd (· = b) w ((w.setCell ⟨b, m * 2, none⟩ (.string (bs q.k))).setCell ⟨b, m * 2 + 1, none⟩ q.v) := by
  have st : ∀ {w : World} {xs : List Value} (h : w.ownsRow lo 76 2 (.slice (some ⟨b, 0, none⟩) n c) cur.length xs) (j : Nat) (u : Value), (w.setCell ⟨b, j, none⟩ u).ownsRow lo 76 2 (.slice (some ⟨b, 0, none⟩) n c) cur.length (xs.set j u) := fun {w} {xs} h j u => by
    obtain ⟨b', c', e, -, -, -, -, -, -, -, hst⟩ := row_at h (by omega)
    injection e with e _ _
    injection e with e
    injection e with e
    subst e
    exact hst j u
  have up : ∀ (w : World) (j : Nat) (u : Value), Upd (· = b) w (w.setCell ⟨b, j, none⟩ u) := fun w j u => Upd.of_grown (blk_grown w b j u) rfl
  refine ⟨?_, (up _ _ _).trans (up _ _ _)⟩
  unfold WRow
  rw [List.length_set, flatW_set cur hm q]
  exact st (st h _ _) _ _
theorem WRow.putC {w : World} {lo b n c m : Nat} {cur : List Wt} (h : WRow w lo (.slice (some ⟨b, 0, none⟩) n c) cur) (hm : m < cur.length) (q : Wt) :
    WRow (w.setCells b (m * 2) q.cells) lo (.slice (some ⟨b, 0, none⟩) n c) (cur.set m q) ∧ Upd (· = b) w (w.setCells b (m * 2) q.cells) ∧ w.there b (m * 2) 2 := by
  refine ⟨(WRow.put h hm q).1, (WRow.put h hm q).2, fun j hj => ?_⟩
  obtain ⟨b', c', e, -, -, -, -, -, hfz, hcell, -⟩ := row_at h (by omega)
  injection e with e _ _
  injection e with e
  injection e with e
  subst e
  have hl := flatW_len cur
  have hlt : m * 2 + j < (flatW cur).length := by omega
  rw [hcell _ _ (List.getElem?_eq_getElem hlt)]
  exact ⟨rfl, hfz _⟩
theorem filW_step (key : By) (l : List Wt) {j : Nat} {q : Wt} (h : l[j]? = some q) : filW key (l.take (j + 1)) = if q.k = key then filW key (l.take j) else filW key (l.take j) ++ [q] := by
  unfold filW
  rw [List.take_add_one, h, List.filter_append]
  by_cases hq : q.k = key
  · simp [hq]
  · simp [hq]
theorem filW_none (key : By) (l : List Wt) (h : ∀ q ∈ l, q.k ≠ key) : filW key l = l := by
  unfold filW
  rw [List.filter_eq_self]
  intro q hq
  simp [h q hq]
theorem filW_first (key : By) (l : List Wt) {k : Nat} {q : Wt} (hq : l[k]? = some q) (hj : q.k = key) (hall : ∀ j p, j < k → l[j]? = some p → p.k ≠ key) : filW key (l.take (k + 1)) = l.take k := by
  rw [filW_step key l hq, if_pos hj]
  refine filW_none key _ (fun p hp => ?_)
  obtain ⟨i, hi, rfl⟩ := List.getElem_of_mem hp
  rw [List.length_take] at hi
  exact hall i _ (by omega) (by rw [List.getElem_take]; exact List.getElem?_eq_getElem (by omega))
set_option maxHeartbeats 2000000 in
set_option maxRecDepth 10000 in
theorem deletef_W (lo N : Nat) (key : By) (A : Option Addr) (n c : Nat) (l : List Wt) (hn : l.length = n) (hnm : n ≤ 1000000) (w : World) (hN : w.heap[N]? = some (.cells #[.string (bs key)] 9 (0, 0))) (h : WRow w lo (.slice A n c) l) :
    Calls Tryz.prog 65 #[.slice A n c, dropF N] w fun e w' => ∃ v', e = .returned v' ∧ WRow w' lo v' (filW key l) ∧ v'.ownBlock = (Value.slice A n c).ownBlock ∧ Upd (fun k => (Value.slice A n c).ownBlock = some k) w w' := by
  have hNw := blk_lt hN
  have hcN := blk_cell (j := 0) hN rfl
  have hix := Lib.hid (index_drop lo N key A n c l hn hnm w hNw hcN h)
  have hnN := Lib.hid (row_ne h hN (by decide))
  obtain ⟨hcap1, hcap2⟩ : n ≤ c ∧ c ≤ maxLen := by obtain ⟨A', c', e, h1, h2⟩ := row_form h; injection e with _ e1 e; rw [e, e1]; exact ⟨h1, h2⟩
  unfold maxLen at hcap2
  replace h := Lib.hid h
  replace hN := Lib.hid hN
  replace hn := Lib.hid hn
  clear hcN
  unfold dropF at *
  go_enter Tryz.func65, Tryz.ntmps65
  go_wp2_with fail
  refine hix.out.mono ?_
  clear hix
  rintro e w1 ⟨hb1, ⟨rfl, hnone⟩ | ⟨k, q, rfl, hq, hqj, hall⟩⟩
  · have h1 := Lib.hid (row_below h.out hb1)
    have hu1 := Lib.hid (Upd.of_below (S := fun k => (Value.slice A n c).ownBlock = some k) hb1)
    have hfl := Lib.hid (filW_none key l hnone)
    clear hnone hb1
    go_wp2_with fail
    go_ret
    exact ⟨_, rfl, by rw [hfl.out]; exact h1.out, rfl, hu1.out⟩
  · have hkn : k < n := by rw [← hn.out]; exact (List.getElem?_eq_some_iff.1 hq).1
    have h1 : WRow w1 lo (.slice A n c) l := row_below h.out hb1
    obtain ⟨b, c', he, -, -, -, hbw, -, -, -, -⟩ := row_at h1 (by rw [hn.out]; omega)
    have he' : A = some ⟨b, 0, none⟩ := by injection he
    subst he'
    clear he
    have hN1 := Lib.hid (blk_below hN.out hb1)
    have hu1 : Hid (Upd (· = b) w w1) := Lib.hid (Upd.of_below hb1)
    have hbN : Hid (N ≠ b) := Lib.hid (fun e => hnN.out (by rw [e]; rfl))
    have hinit : Hid (l.length = n ∧ l.take k = filW key (l.take (k + 1)) ∧ l.drop (k + 1) = l.drop (k + 1)) := Lib.hid ⟨hn.out, (filW_first key l hq hqj hall).symm, rfl⟩
    replace h1 := Lib.hid h1
    clear hb1 hq hqj hall h hN hnN
    have hk1 : ((k : Int) == -1) = false := beq_eq_false_iff_ne.mpr (by omega)
    go_upto_block 0 with (fail)
    clear hk1
    go_cut [5] (fun u wx => ∃ (m : Nat) (cur : List Wt), u = .int .i64 m ∧ m < n ∧ Hid (cur.length = n ∧ cur.take m = filW key l) ∧ Hid (WRow wx lo (.slice (some ⟨b, 0, none⟩) n c) cur) ∧ Hid (Upd (· = b) w wx))
    case first =>
      go_wp2_with fail
      go_loopw [5, 6] (fun u i wr => ∃ (m j : Nat) (cur : List Wt), u = .int .i64 m ∧ i = .int .i64 j ∧ m < j ∧ j ≤ n ∧ Hid (cur.length = n ∧ cur.take m = filW key (l.take j) ∧ cur.drop j = l.drop j) ∧ Hid (WRow wr lo (.slice (some ⟨b, 0, none⟩) n c) cur) ∧ Hid (wr.heap[N]? = some (.cells #[.string (bs key)] 9 (0, 0))) ∧ Hid (Upd (· = b) w wr)) (fun _ i _ => n - (intOf i).toNat)
      case atStart => exact ⟨k, k + 1, l, rfl, by go_num, by omega, by omega, Lib.hid ⟨hinit.out.1, hinit.out.2.1, rfl⟩, h1, hN1, hu1⟩
      case round =>
        obtain ⟨m, j, cur, rfl, rfl, hmj, hjn, hcur, h2, hN2, hu2⟩ := hrel
        clear hinit h1 hN1 hu1
        by_cases hlt : j < n
        · obtain ⟨q, hq⟩ : ∃ q, cur[j]? = some q := ⟨_, List.getElem?_eq_getElem (by rw [hcur.out.1]; exact hlt)⟩
          obtain ⟨qA, nq, qc, hqv⟩ : ∃ A n c, q.v = .slice A n c := ⟨_, _, _, rfl⟩
          have hqc : Hid (q.cells = [.string (bs q.k), .slice qA nq qc]) := Lib.hid (by unfold Wt.cells; rw [hqv])
          have hlq : Hid (l[j]? = some q) := Lib.hid (by
            have e := congrArg (fun x => x[0]?) hcur.out.2.2
            simp only [List.getElem?_drop, Nat.add_zero] at e
            rw [← e]; exact hq)
          obtain ⟨p, hp⟩ : ∃ p, cur[m]? = some p := ⟨_, List.getElem?_eq_getElem (by rw [hcur.out.1]; omega)⟩
          obtain ⟨b', c'', he, -, -, -, hbw2, -, hfz, hcell, -⟩ := row_at h2.out (by rw [hcur.out.1]; omega)
          have he' : b' = b := by injection he with he _ _; injection he with he; injection he with he; exact he.symm
          subst he'
          clear he
          have haq := flatW_at hq
          have x0 : wr.cell? ⟨b', j * 2, none⟩ = some (.string (bs q.k)) := hcell _ _ haq.1
          have x1 : wr.cell? ⟨b', j * 2 + 1, none⟩ = some (.slice qA nq qc) := by rw [← hqv]; exact hcell _ _ haq.2
          have hnew := heap_alloc_new wr (.cells #[.string (bs q.k), .slice qA nq qc] 76)
          have hbal := (Below.refl wr.heap.size wr).alloc (Nat.le_refl _) (.cells #[.string (bs q.k), .slice qA nq qc] 76)
          have hN3 : Hid ((wr.alloc (.cells #[.string (bs q.k), .slice qA nq qc] 76)).heap[N]? = some (.cells #[.string (bs key)] 9 (0, 0))) := Lib.hid (blk_alloc hN2.out _)
          have hd1 := drop1_any N key q (wr.alloc (.cells #[.string (bs q.k), .slice qA nq qc] 76)) (blk_lt hN3.out) (blk_cell (j := 0) hN3.out rfl)
          have hfst := filW_step key l hlq.out
          unfold Wt.agg at hd1
          rw [hqv] at hd1
          replace hqv := Lib.hid hqv
          obtain ⟨M, hM⟩ : ∃ M, wr.heap.size = M := ⟨_, rfl⟩
          rw [hM] at hnew
          have hbM : b' < M := by omega
          replace hM := Lib.hid hM
          replace hnew := Lib.hid hnew
          replace hbal := Lib.hid hbal
          replace hd1 := Lib.hid hd1
          replace hfst := Lib.hid hfst
          replace hq := Lib.hid hq
          replace hp := Lib.hid hp
          clear hfz hcell haq
          go_wp2_with fail
          refine hd1.out.mono ?_
          by_cases hj : q.k = key
          · rw [show (q.k == key) = true from by rw [beq_iff_eq]; exact hj]
            rintro e w3 ⟨rfl, hb3⟩
            have hb4 := Lib.hid (hbal.out.trans (hb3.mono hbal.out.size))
            have h4 : Hid (WRow w3 lo (.slice (some ⟨b', 0, none⟩) n c) cur) := Lib.hid (row_below h2.out hb4.out)
            have hN4 := Lib.hid (blk_below hN3.out hb3)
            have hu4 := Lib.hid (hu2.out.trans (Upd.of_below hb4.out))
            have hcur4 : Hid (cur.length = n ∧ cur.take m = filW key (l.take (j + 1)) ∧ cur.drop (j + 1) = l.drop (j + 1)) := Lib.hid ⟨hcur.out.1, by rw [hfst.out, if_pos hj]; exact hcur.out.2.1, by
              have e := congrArg (List.drop 1) hcur.out.2.2
              simpa [List.drop_drop] using e⟩
            replace hj := Lib.hid hj
            clear hb3 hd1
            go_wp2_with fail
            go_roundw
            case rel => exact ⟨m, j + 1, cur, rfl, by go_num, by omega, by omega, hcur4, h4, hN4, hu4⟩
            case measure => simp [intOf]; omega
          · rw [show (q.k == key) = false from beq_eq_false_iff_ne.mpr hj]
            rintro e w3 ⟨rfl, hb3⟩
            have hb4 := Lib.hid (hbal.out.trans (hb3.mono hbal.out.size))
            have h4 : Hid (WRow w3 lo (.slice (some ⟨b', 0, none⟩) n c) cur) := Lib.hid (row_below h2.out hb4.out)
            have hN4 := Lib.hid (blk_below hN3.out hb3)
            have hq4 := blk_below hnew.out hb3
            have hu4 := Lib.hid (hu2.out.trans (Upd.of_below hb4.out))
            obtain ⟨h5, hu5, hth5⟩ := WRow.putC h4.out (m := m) (by rw [hcur.out.1]; omega) q
            have hN5 : Hid ((w3.setCells b' (m * 2) q.cells).heap[N]? = some (.cells #[.string (bs key)] 9 (0, 0))) := Lib.hid ((hu5.2.2.2.2 N (blk_lt hN4.out) hbN.out).trans hN4.out)
            have hu5' := Lib.hid (hu4.out.trans hu5)
            have hcur5 : Hid ((cur.set m q).length = n ∧ (cur.set m q).take (m + 1) = filW key (l.take (j + 1)) ∧ (cur.set m q).drop (j + 1) = l.drop (j + 1)) := Lib.hid ⟨by rw [List.length_set]; exact hcur.out.1, by
              rw [hfst.out, if_neg hj, ← hcur.out.2.1, List.take_add_one, List.take_set, List.set_eq_of_length_le (by rw [List.length_take]; omega), List.getElem?_set, if_pos rfl, if_pos (by rw [hcur.out.1]; omega)]
              rfl, by
              have e := congrArg (List.drop 1) hcur.out.2.2
              rw [List.drop_set_of_lt (by omega)]
              simpa [List.drop_drop] using e⟩
            replace hj := Lib.hid hj
            replace h5 := Lib.hid h5
            obtain ⟨hbw3⟩ : Nonempty (b' < w3.heap.size) := ⟨by have := hb4.out.size; omega⟩
            clear hb3 hd1 hu5
            have y0 := blk_cell (j := 0) hq4 rfl
            have y1 := blk_cell (j := 1) hq4 rfl
            replace hth5 := Lib.hid hth5
            clear x0 x1 hlq hfst hnew hbal hq hp hN2 hN3 hN4 h4 hu4 hu2 h2 hcur hq4 hb4 hbw2 hbw
            go_upto_region 9 with (fail)
            rw [hM.out]
            go_wp2_with (refine wpList_store_mid rfl 76 (.tmp 33) (.tmp 32) rfl b' (m * 2) #[.string (bs q.k), .slice qA nq qc] rfl rfl hth5.out blob_size (by rw [← hqc.out]; exact all_oneCell_toArray (wt_one q)) ?_; obtain ⟨w5, hw5⟩ : ∃ w5, w3.setCells b' (m * 2) q.cells = w5 := ⟨_, rfl⟩; rw [show (w3.setCells b' (m * 2) #[Value.string (bs q.k), .slice qA nq qc].toList) = w5 from (by rw [← hw5, hqc.out])]; rw [hw5] at h5 hN5 hu5'; replace hw5 := Lib.hid hw5)
            go_roundw
            case rel => exact ⟨m + 1, j + 1, cur.set m q, by go_num, by go_num, by omega, by omega, hcur5, h5, hN5, hu5'⟩
            case measure => simp [intOf]; omega
        · obtain rfl : j = n := by omega
          have hcf : Hid (cur.length = j ∧ cur.take m = filW key l) := Lib.hid ⟨hcur.out.1, by rw [hcur.out.2.1, List.take_of_length_le (by rw [hn.out]; exact Nat.le_refl _)]⟩
          go_wp2_with fail
          go_meet
          exact ⟨m, cur, rfl, by omega, hcf, h2, hu2⟩
    case rest =>
      obtain ⟨m, cur, rfl, hmn, hcur, h2, hu2⟩ := hcut
      clear hinit h1 hN1 hu1
      obtain ⟨i0, hi0, hz0, hz1, hz2⟩ := info_parts info_blob
      have h2' : WRow wc lo (.slice (some ⟨b, 0, none⟩) n c) cur := h2.out
      unfold WRow at h2'
      rw [hcur.out.1] at h2'
      have hpre := row_take h2' (m := m) (by omega)
      rw [flatW_take] at hpre
      obtain ⟨vs, hclr⟩ := run_clear_row 53 i0 _ Tryz.underlying53 hi0 hz0 rfl blob0_one (by decide) hpre (n - m) (c - m) (m * 2) rfl (by omega) (by omega)
      have htl := Lib.hid (row_tail hpre vs (m * 2) (Nat.le_refl _))
      have hmc : ¬ (c = m) := by omega
      have hmc2 : ¬ (m = c) := by omega
      have hmc3 : m ≤ c := by omega
      have hmn3 : m ≤ n := by omega
      have hfl : Hid ((filW key l).length = m ∧ flatW (cur.take m) = flatW (filW key l)) := Lib.hid ⟨by rw [← hcur.out.2, List.length_take, hcur.out.1]; omega, by rw [hcur.out.2]⟩
      replace hpre := Lib.hid hpre
      replace h2' := Lib.hid h2'
      go_wp2
      go_ret
      refine ⟨_, rfl, ?_, rfl, (Upd.mono (S := (· = b)) (hu2.out.trans htl.out.2) (fun k hk => by rw [hk]; rfl))⟩
      unfold WRow
      rw [hfl.out.1, ← hfl.out.2]
      exact htl.out.1
end Go.Proofs.YthboeoidgglcgaaGreat
/- cat: rows of tombs: one more, where one is, without one. -/
namespace Go.Proofs.YthboeoidgglcgaaGreat
set_option linter.unusedVariables false
set_option linter.unusedSimpArgs false
set_option linter.unusedSectionVars false
open Go Go.RowKit Go.Maps
def TRow (w : World) (base : Nat) (v : Value) (l : List (By × Int)) : Prop := w.ownsRow base 83 2 v l.length (flatT l)
def aggT (x : By × Int) : Value := .agg #[.string (bs x.1), .int .i64 x.2]
theorem info_tomb : (Tryz.prog.info? 83).map (fun i => (i.zero, i.size, i.bytes)) = some (some (.agg #[.string ⟨#[]⟩, .int .i64 0]), 2, 24) := by kernel_rfl
theorem tomb0_one : ∀ u ∈ (Value.agg #[.string ⟨#[]⟩, .int .i64 0]).cells.toList, u.oneCell' = true := fun u hu => by
  simp [Value.cells] at hu
  rcases hu with rfl | rfl <;> rfl
theorem flatT_take (l : List (By × Int)) (m : Nat) : (flatT l).take (m * 2) = flatT (l.take m) := by
  induction l generalizing m with
  | nil => simp [flatT]
  | cons p l ih =>
    cases m with
    | zero => simp [flatT]
    | succ m =>
      show (encT p ++ flatT l).take _ = encT p ++ flatT (l.take m)
      rw [show (m + 1) * 2 = (encT p).length + m * 2 from by show (m + 1) * 2 = 2 + m * 2; omega, List.take_length_add_append, ih]
theorem flatT_drop (l : List (By × Int)) (m : Nat) : (flatT l).drop (m * 2) = flatT (l.drop m) := by
  induction l generalizing m with
  | nil => simp [flatT]
  | cons p l ih =>
    cases m with
    | zero => simp
    | succ m =>
      show (encT p ++ flatT l).drop _ = flatT (l.drop m)
      rw [show (m + 1) * 2 = (encT p).length + m * 2 from by show (m + 1) * 2 = 2 + m * 2; omega, List.drop_length_add_append, ih]
theorem wpl_append_T {w : World} {ops : Array Oper} {rest : List Oper} {o : Oper} {a : Act} {Q : Exit → Act → World → Prop} (hgd : o.guard = none) (s x : Operand)
    (ho : o.op = .call { callee := .builtin .append, args := #[s, x], argTypes := #[54, 54] })
    (base : Nat) (v : Value) (l : List (By × Int)) (hs : a.eval s = v) (hown : TRow w base v l)
    (B : Nat) (A : Option Addr) (c m : Nat) (news : List (By × Int)) (hm : news.length = m) (hx : a.eval x = .slice A m c) (hr : Reads w B 2 A m (flatT news))
    (hlen : (l.length + m) * 24 ≤ 140737488355328) (hbase : base ≤ w.heap.size)
    (h : ∀ v' w', TRow w' base v' (l ++ news) → w.grownBy w' v.ownBlock → (v'.ownBlock = v.ownBlock ∨ v'.ownBlock = some w.heap.size) → wpList Tryz.prog ops Q rest (a.put o.dst v') w') : wpList Tryz.prog ops Q (o :: rest) a w := by
  obtain ⟨i0, hi, hz0, hz1, hz2⟩ := info_parts info_tomb
  refine wpList_plain hgd fun _ hK => wp_append_any w s x 54 ho base 83 i0 _ 2 24 Tryz.underlying54 hi hz0 hz1 hz2 rfl (by omega) v l.length (flatT l) hs hown B A m c (flatT news) hx hr (flatT_one news)
    (by simp only [maxLen]; omega) hlen hbase fun v' w' h2 h3 h4 => hK _ _ (h v' w' ?_ h3 h4)
  unfold TRow
  rw [List.length_append, flatT_app, hm]
  exact h2
/-- one block -/
def QS' (g k : Nat) : Prop := k = g
theorem wp_append_fits_T {w : World} {o : Oper} {a : Act} {K : Act → World → Prop} {Q : Exit → Act → World → Prop} (s x : Operand)
    (ho : o.op = .call { callee := .builtin .append, args := #[s, x], argTypes := #[54, 54] })
    (base g n c : Nat) (l : List (By × Int)) (hs : a.eval s = .slice (some ⟨g, 0, none⟩) n c) (hown : w.ownsRow base 83 2 (.slice (some ⟨g, 0, none⟩) n c) n (flatT l))
    (ad : Addr) (m c' : Nat) (news : List (By × Int)) (hx : a.eval x = .slice (some ad) m c') (hr : ∀ j u, (flatT news)[j]? = some u → w.cell? (ad.add j) = some u) (hm : news.length = m) (tot : Nat) (htot : n + m = tot) (hroom : tot ≤ c)
    (h : ∀ w', w'.ownsRow base 83 2 (.slice (some ⟨g, 0, none⟩) tot c) tot (flatT l ++ flatT news) → w.grownBy w' (some g) → K (a.put o.dst (.slice (some ⟨g, 0, none⟩) tot c)) w') : o.wp Tryz.prog a w K Q := by
  subst htot
  obtain ⟨i0, hi, hz0, hz1, hz2⟩ := info_parts info_tomb
  obtain ⟨w', hrun, h2, h3⟩ := run_append_fits (P := Tryz.prog) w base 54 o.type 83 i0 2 Tryz.underlying54 hi hz1 g n c (flatT l) hown ad m c' (flatT news) (by rw [flatT_len, hm]) hr
    (flatT_one news) hroom
  unfold Oper.wp execOp
  simp only [ho, resolve, invoke, builtin, Sem.run_bind, Sem.run_pure, Result.andThen_ok, List.map_toArray, List.map_cons, List.map_nil, hs, hx, hrun]
  exact h w' h2 h3
set_option maxHeartbeats 1000000 in
set_option maxRecDepth 10000 in
theorem delete_T (lo g n c i j m : Nat) (l : List (By × Int)) (hj : j = i + 1) (hm : n = m + 1) (hi : i < n) (hn : l.length = n) (hnm : n ≤ 1000000) (w : World) (h : TRow w lo (.slice (some ⟨g, 0, none⟩) n c) l) :
    Calls Tryz.prog 54 #[.slice (some ⟨g, 0, none⟩) n c, .int .i64 i, .int .i64 j] w fun e w' => e = .returned (.slice (some ⟨g, 0, none⟩) m c) ∧ TRow w' lo (.slice (some ⟨g, 0, none⟩) m c) (l.eraseIdx i) ∧ Upd (· = g) w w' := by
  unfold TRow at h
  rw [hn] at h
  obtain ⟨hc1, hc2⟩ : n ≤ c ∧ c ≤ maxLen := by obtain ⟨A', c', e, h1, h2⟩ := row_form h; injection e with _ _ e; rw [e]; exact ⟨h1, h2⟩
  unfold maxLen at hc2
  obtain ⟨i0, hi0, hz0, hz1, hz2⟩ := info_parts info_tomb
  have hpre : Hid (w.drew.ownsRow lo 83 2 (.slice (some ⟨g, 0, none⟩) i c) i (flatT (l.take i))) := Lib.hid (by rw [← flatT_take]; exact row_take (w := w) h (by omega))
  have hrd := Reads.of_own h
  have hdc := flatT_drop l j
  have hers : Hid (flatT (l.take i) ++ flatT (l.drop j) = flatT (l.eraseIdx i) ∧ (l.eraseIdx i).length = m) := Lib.hid ⟨by rw [← flatT_app, List.eraseIdx_eq_take_drop_succ, hj], by rw [List.length_eraseIdx, if_pos (by omega)]; omega⟩
  have hmi : i ≤ m := by omega
  have hij : i < j := by omega
  have hjn : j ≤ n := by omega
  have htot : Hid (i + (n - j) = m) := Lib.hid (by omega)
  have hmn : m ≤ n := by omega
  have hic : i ≤ c := by omega
  have hjc : j ≤ c := by omega
  have hij2 : i ≤ j := by omega
  have hmc : m ≤ c := by omega
  have hcm1 : ¬ (c = m) := by omega
  have hcm2 : ¬ (m = c) := by omega
  have hnm1 : Hid (n - m = 1) := Lib.hid (by omega)
  have hld : Hid ((l.drop j).length = n - j) := Lib.hid (by rw [List.length_drop, hn])
  by_cases hcap : c = j
  · have hsrc : Hid (∀ k u, (flatT (l.drop j))[k]? = some u → w.drew.cell? ((⟨g, 0, none⟩ : Addr).add k) = some u) := Lib.hid (fun k u hu => by
      rw [List.drop_eq_nil_of_le (by omega)] at hu
      simp [flatT] at hu)
    replace h := Lib.hid h
    replace hrd := Lib.hid hrd
    replace hdc := Lib.hid hdc
    replace hn := Lib.hid hn
    replace hj := Lib.hid hj
    replace hm := Lib.hid hm
    subst hcap
    replace hld := Lib.hid (hld.out.trans (show n - c = 0 from by omega))
    replace htot := Lib.hid (show i + 0 = m from by have := htot.out; omega)
    go_enter Tryz.func54, Tryz.ntmps54
    go_wp2_with fail
    refine wpR_region (Upd (QS' g)) 9999 (by kernel_rfl) ?_
    refine wT (i := 0) (v := ?_) (Upd.road _) (some 20) rfl (fun w' hw' => ?_) ?_
    rotate_left
    · go_simp; with_reducible rfl
    simp only [Act.put, List.setIfInBounds_toArray, List.set_cons_zero, List.set_cons_succ]
    refine wT (i := 1) (v := ?_) (Upd.road _) (some 21) rfl (fun w' hw' => ?_) ?_
    rotate_left
    · go_simp; with_reducible rfl
    simp only [Act.put, List.setIfInBounds_toArray, List.set_cons_zero, List.set_cons_succ]
    refine wT (i := 2) (v := ?_) (Upd.road _) (some 22) rfl (fun w' hw' => ?_) ?_
    rotate_left
    · go_simp; with_reducible rfl
    simp only [Act.put, List.setIfInBounds_toArray, List.set_cons_zero, List.set_cons_succ]
    refine wT (i := 3) (v := ?_) (Upd.road _) (some 23) rfl (fun w' hw' => ?_) ?_
    rotate_left
    · go_simp; with_reducible rfl
    simp only [Act.put, List.setIfInBounds_toArray, List.set_cons_zero, List.set_cons_succ]
    refine wT (i := 4) (v := ?_) (Upd.road _) (some 24) rfl (fun w' hw' => ?_) ?_
    rotate_left
    · go_simp; with_reducible rfl
    simp only [Act.put, List.setIfInBounds_toArray, List.set_cons_zero, List.set_cons_succ]
    refine wT (i := 5) (v := ?_) (Upd.road _) (some 25) rfl (fun w' hw' => ?_) ?_
    rotate_left
    · go_simp; with_reducible rfl
    simp only [Act.put, List.setIfInBounds_toArray, List.set_cons_zero, List.set_cons_succ]
    refine wpR_one 6 rfl (by kernel_rfl) (by kernel_rfl) (fun K hK => ?_)
    refine wp_append_fits_T (.tmp 22) (.tmp 25) rfl lo g i c (l.take i) rfl (hpre.out) _ _ _ _ rfl hsrc.out hld.out m htot.out hmc ?_
    intro w2 hrow2 hg2
    refine hK _ _ (fun _ => Upd.mono (Upd.of_grown (S := (· = g)) hg2 rfl) (fun k h => h)) ?_
    clear hK K
    have hsz2 := hg2.size
    have hu2 := Lib.hid (Upd.of_grown (S := (· = g)) hg2 rfl)
    replace hrow2 := Lib.hid hrow2
    clear hg2
    try simp only [Act.put, List.setIfInBounds_toArray, List.set_cons_zero, List.set_cons_succ]
    refine wT (i := 7) (v := ?_) (Upd.road _) (some 0) rfl (fun w' hw' => ?_) ?_
    rotate_left
    · go_simp; with_reducible rfl
    simp only [Act.put, List.setIfInBounds_toArray, List.set_cons_zero, List.set_cons_succ]
    refine wpR_done (by kernel_rfl) ?_ _
    obtain ⟨vs, hclr⟩ := run_clear_row 54 i0 _ Tryz.underlying54 hi0 hz0 rfl tomb0_one (by decide) hrow2.out 1 (c - m) (m * 2) rfl (by decide) (by omega)
    have htl := Lib.hid (row_tail hrow2.out vs (m * 2) (Nat.le_refl _))
    rw [← hnm1.out] at hclr
    go_wp2
    go_ret
    refine ⟨rfl, ?_, (Upd.refl _ w : Upd (· = g) w w.drew).trans (hu2.out.trans htl.out.2)⟩
    unfold TRow
    rw [hers.out.2, ← hers.out.1]
    exact htl.out.1
  · have hsrc : Hid (∀ k u, (flatT (l.drop j))[k]? = some u → w.drew.cell? ((⟨g, j * 2, none⟩ : Addr).add k) = some u) := Lib.hid (fun k u hu => by
      obtain ⟨ad, e, -, hcell⟩ := hrd.2 (by omega)
      injection e with e
      subst e
      rw [← hdc, List.getElem?_drop] at hu
      have := hcell _ u hu
      rw [show ((⟨g, j * 2, none⟩ : Addr).add k) = (⟨g, 0, none⟩ : Addr).add (j * 2 + k) from by
        have := add_of_add (⟨g, 0, none⟩ : Addr) (j * 2) k
        rw [← this]; congr 1; unfold Addr.add; split <;> simp_all]
      exact this)
    have hcap2 : ¬ (j = c) := fun e => hcap e.symm
    replace h := Lib.hid h
    replace hrd := Lib.hid hrd
    replace hdc := Lib.hid hdc
    replace hn := Lib.hid hn
    replace hj := Lib.hid hj
    replace hm := Lib.hid hm
    go_enter Tryz.func54, Tryz.ntmps54
    go_wp2_with fail
    refine wpR_region (Upd (QS' g)) 9999 (by kernel_rfl) ?_
    refine wT (i := 0) (v := ?_) (Upd.road _) (some 20) rfl (fun w' hw' => ?_) ?_
    rotate_left
    · go_simp; with_reducible rfl
    simp only [Act.put, List.setIfInBounds_toArray, List.set_cons_zero, List.set_cons_succ]
    refine wT (i := 1) (v := ?_) (Upd.road _) (some 21) rfl (fun w' hw' => ?_) ?_
    rotate_left
    · go_simp; with_reducible rfl
    simp only [Act.put, List.setIfInBounds_toArray, List.set_cons_zero, List.set_cons_succ]
    refine wT (i := 2) (v := ?_) (Upd.road _) (some 22) rfl (fun w' hw' => ?_) ?_
    rotate_left
    · go_simp; with_reducible rfl
    simp only [Act.put, List.setIfInBounds_toArray, List.set_cons_zero, List.set_cons_succ]
    refine wT (i := 3) (v := ?_) (Upd.road _) (some 23) rfl (fun w' hw' => ?_) ?_
    rotate_left
    · go_simp; with_reducible rfl
    simp only [Act.put, List.setIfInBounds_toArray, List.set_cons_zero, List.set_cons_succ]
    refine wT (i := 4) (v := ?_) (Upd.road _) (some 24) rfl (fun w' hw' => ?_) ?_
    rotate_left
    · go_simp; with_reducible rfl
    simp only [Act.put, List.setIfInBounds_toArray, List.set_cons_zero, List.set_cons_succ]
    refine wT (i := 5) (v := ?_) (Upd.road _) (some 25) rfl (fun w' hw' => ?_) ?_
    rotate_left
    · go_simp; with_reducible rfl
    simp only [Act.put, List.setIfInBounds_toArray, List.set_cons_zero, List.set_cons_succ]
    refine wpR_one 6 rfl (by kernel_rfl) (by kernel_rfl) (fun K hK => ?_)
    refine wp_append_fits_T (.tmp 22) (.tmp 25) rfl lo g i c (l.take i) rfl (hpre.out) _ _ _ _ rfl hsrc.out hld.out m htot.out hmc ?_
    intro w2 hrow2 hg2
    refine hK _ _ (fun _ => Upd.mono (Upd.of_grown (S := (· = g)) hg2 rfl) (fun k h => h)) ?_
    clear hK K
    have hsz2 := hg2.size
    have hu2 := Lib.hid (Upd.of_grown (S := (· = g)) hg2 rfl)
    replace hrow2 := Lib.hid hrow2
    clear hg2
    try simp only [Act.put, List.setIfInBounds_toArray, List.set_cons_zero, List.set_cons_succ]
    refine wT (i := 7) (v := ?_) (Upd.road _) (some 0) rfl (fun w' hw' => ?_) ?_
    rotate_left
    · go_simp; with_reducible rfl
    simp only [Act.put, List.setIfInBounds_toArray, List.set_cons_zero, List.set_cons_succ]
    refine wpR_done (by kernel_rfl) ?_ _
    obtain ⟨vs, hclr⟩ := run_clear_row 54 i0 _ Tryz.underlying54 hi0 hz0 rfl tomb0_one (by decide) hrow2.out 1 (c - m) (m * 2) rfl (by decide) (by omega)
    have htl := Lib.hid (row_tail hrow2.out vs (m * 2) (Nat.le_refl _))
    rw [← hnm1.out] at hclr
    go_wp2
    go_ret
    refine ⟨rfl, ?_, (Upd.refl _ w : Upd (· = g) w w.drew).trans (hu2.out.trans htl.out.2)⟩
    unfold TRow
    rw [hers.out.2, ← hers.out.1]
    exact htl.out.1
end Go.Proofs.YthboeoidgglcgaaGreat
