/- cat: the reference's Apply, whole. -/
import Derived.Test.YthboeoidgglcgaaGreatCp7
import Derived.Test.YthboeoidgglcgaaGreatCp8
import Derived.Test.YthboeoidgglcgaaGreatCp9
import Derived.Test.YthboeoidgglcgaaGreatCp10
import Derived.Test.YthboeoidgglcgaaGreatCp17
import Derived.Test.YthboeoidgglcgaaGreatCtZ
namespace Go.Proofs.YthboeoidgglcgaaGreat
set_option linter.unusedVariables false
set_option linter.unusedSimpArgs false
set_option linter.unusedSectionVars false
open Go Go.RowKit Go.Maps Go.Sort Go.Shelf Go.Proofs
set_option maxRecDepth 10000 in
set_option maxHeartbeats 2000000 in
theorem rapn_any (lo g : Nat) (y : RcX) (c : CtP) (w : World) (h : Hid (Rc w lo g y c)) (hf : c.Few 999) (hok : c.Ok) (n : Nt) (v : Value) (hk : n.key.length ≤ maxLen) (w0 : World) (hv : NtV n v w0) (h0 : w0.heap.size ≤ lo) (hg0 : Gr w0 w) (hI : I64 n.cart) (hk4 : n.kind ≠ 4) (hk5 : n.kind ≠ 5) (hk6 : n.kind ≠ 6) :
    Calls Tryz.prog 27 #[.pointer (some ⟨g, 0, none⟩), v] w (RPost lo g y w (12, c)) := by
  obtain ⟨A, ca, A2, c2, rfl, hdt, hpl⟩ := hv
  obtain ⟨N, hN⟩ : ∃ N, w.heap.size = N := ⟨_, rfl⟩
  obtain ⟨nk, ny, ng, nc, nd, nu, ns, np⟩ := n
  unfold Nt.agg
  simp only at hk4 hk5 hk6 hk hdt hpl hI ⊢
  obtain ⟨ld, hld⟩ : ∃ ld, nd.length = ld := ⟨_, rfl⟩
  obtain ⟨lp, hlp⟩ : ∃ lp, np.length = lp := ⟨_, rfl⟩
  rw [hld] at hdt ⊢
  rw [hlp] at hpl ⊢
  obtain ⟨W, hW⟩ : ∃ W, w.alloc (.cells #[.int .i64 nk, .string (bs ny), .int .i64 ng, .int .i64 nc, .slice A ld ca, .string (bs nu), .int .i64 ns, .slice A2 lp c2] 37) = W := ⟨_, rfl⟩
  have hgW : Gr w W := by rw [← hW]; exact Gr.alloc _ _
  have hbW : W.heap[N]? = some (.cells #[.int .i64 nk, .string (bs ny), .int .i64 ng, .int .i64 nc, .slice A ld ca, .string (bs nu), .int .i64 ns, .slice A2 lp c2] 37 (0, 0)) := by rw [← hW, ← hN]; exact heap_alloc_new w _
  have z0 := blk_cell (j := 0) hbW rfl
  have z1 := blk_cell (j := 1) hbW rfl
  have z2 := blk_cell (j := 2) hbW rfl
  have z4 := blk_cell (j := 4) hbW rfl
  have z6 := blk_cell (j := 6) hbW rfl
  have hcW := Lib.hid (h.out.gr hgW)
  have hfr : Hid (∀ {c' w'}, RcAct lo g y W c' w' → RcAct lo g y w c' w') := Lib.hid (fun h1 => RcAct.from_ hgW h1)
  have hsame : Hid (∀ w', Gr W w' → RcAct lo g y w c w') := Lib.hid (fun w' h1 => RcAct.gr h (hgW.trans h1))
  have e4 : (nk == 4) = false := by simpa using hk4
  have e5 : (nk == 5) = false := by simpa using hk5
  have e6 : (nk == 6) = false := by simpa using hk6
  replace hgW := Lib.hid hgW
  replace hbW := Lib.hid hbW
  replace hld := Lib.hid hld
  replace hlp := Lib.hid hlp
  replace hdt := Lib.hid hdt
  replace hpl := Lib.hid hpl
  go_enter Tryz.func27, Tryz.ntmps27
  go_wp2_with fail
  go_ret
  exact ⟨rfl, hsame.out _ (Gr.refl _)⟩
theorem rrest_any (lo g : Nat) (y : RcX) (c : CtP) (w : World) (h : Hid (Rc w lo g y c)) (hf : c.Few 999) (hok : c.Ok) (n : Nt) (v : Value) (hk : n.key.length ≤ maxLen) (w0 : World) (hv : NtV n v w0) (h0 : w0.heap.size ≤ lo) (hg0 : Gr w0 w) (hI : I64 n.cart) :
    Calls Tryz.prog 27 #[.pointer (some ⟨g, 0, none⟩), v] w (RPost lo g y w (if n.kind = 4 then c.begin_ n else if n.kind = 5 then c.retire n else if n.kind = 6 then c.turnT n else (12, c))) := by
  by_cases h4 : n.kind = 4
  · rw [if_pos h4]; exact rap4_any lo g y c w h hf hok n v hk w0 hv h0 hg0 hI h4
  rw [if_neg h4]
  by_cases h5 : n.kind = 5
  · rw [if_pos h5]; exact rap5_any lo g y c w h hf hok n v hk w0 hv h0 hg0 hI h5
  rw [if_neg h5]
  by_cases h6 : n.kind = 6
  · rw [if_pos h6]; exact rap6_any lo g y c w h hf hok n v hk w0 hv h0 hg0 hI h6
  rw [if_neg h6]
  exact rapn_any lo g y c w h hf hok n v hk w0 hv h0 hg0 hI h4 h5 h6
set_option maxRecDepth 10000 in
set_option maxHeartbeats 2000000 in
theorem rapo_any (lo g : Nat) (y : RcX) (c : CtP) (w : World) (h : Hid (Rc w lo g y c)) (hf : c.Few 999) (hok : c.Ok) (n : Nt) (v : Value) (hk : n.key.length ≤ maxLen) (w0 : World) (hv : NtV n v w0) (h0 : w0.heap.size ≤ lo) (hg0 : Gr w0 w) (hI : I64 n.cart) (hk4 : n.kind ≠ 1) (hk5 : n.kind ≠ 2) (hk6 : n.kind ≠ 3) :
    Calls Tryz.prog 6 #[.pointer (some ⟨g, 0, none⟩), v] w (RPost lo g y w (if n.kind = 4 then c.begin_ n else if n.kind = 5 then c.retire n else if n.kind = 6 then c.turnT n else (12, c))) := by
  obtain ⟨W0, hW0⟩ : ∃ W, w.alloc (.cells v.cells 37) = W := ⟨_, rfl⟩
  have hgW0 : Gr w W0 := by rw [← hW0]; exact Gr.alloc _ _
  have hrr := Lib.hid (rrest_any lo g y c W0 (Lib.hid (h.out.gr hgW0)) hf hok n v hk w0 hv h0 (hg0.trans hgW0) hI)
  obtain ⟨P, hP⟩ : ∃ P, (if n.kind = 4 then c.begin_ n else if n.kind = 5 then c.retire n else if n.kind = 6 then c.turnT n else (12, c)) = P := ⟨_, rfl⟩
  rw [hP] at hrr ⊢
  replace hP := Lib.hid hP
  obtain ⟨A, ca, A2, c2, rfl, hdt, hpl⟩ := hv
  obtain ⟨N, hN⟩ : ∃ N, w.heap.size = N := ⟨_, rfl⟩
  obtain ⟨nk, ny, ng, nc, nd, nu, ns, np⟩ := n
  unfold Nt.agg
  simp only at hk4 hk5 hk6 hrr hk hdt hpl hI ⊢
  obtain ⟨ld, hld⟩ : ∃ ld, nd.length = ld := ⟨_, rfl⟩
  obtain ⟨lp, hlp⟩ : ∃ lp, np.length = lp := ⟨_, rfl⟩
  rw [hld] at hdt ⊢
  rw [hlp] at hpl ⊢
  obtain ⟨W, hW⟩ : ∃ W, w.alloc (.cells #[.int .i64 nk, .string (bs ny), .int .i64 ng, .int .i64 nc, .slice A ld ca, .string (bs nu), .int .i64 ns, .slice A2 lp c2] 37) = W := ⟨_, rfl⟩
  have hgW : Gr w W := by rw [← hW]; exact Gr.alloc _ _
  have hbW : W.heap[N]? = some (.cells #[.int .i64 nk, .string (bs ny), .int .i64 ng, .int .i64 nc, .slice A ld ca, .string (bs nu), .int .i64 ns, .slice A2 lp c2] 37 (0, 0)) := by rw [← hW, ← hN]; exact heap_alloc_new w _
  have z0 := blk_cell (j := 0) hbW rfl
  have z1 := blk_cell (j := 1) hbW rfl
  have z2 := blk_cell (j := 2) hbW rfl
  have z4 := blk_cell (j := 4) hbW rfl
  have z6 := blk_cell (j := 6) hbW rfl
  have hcW := Lib.hid (h.out.gr hgW)
  have hfr : Hid (∀ {c' w'}, RcAct lo g y W c' w' → RcAct lo g y w c' w') := Lib.hid (fun h1 => RcAct.from_ hgW h1)
  have hsame : Hid (∀ w', Gr W w' → RcAct lo g y w c w') := Lib.hid (fun w' h1 => RcAct.gr h (hgW.trans h1))
  have hWW : W0 = W := by rw [← hW0, ← hW]; unfold Nt.agg; simp only; rw [hld, hlp]; rfl
  subst hWW
  unfold Nt.agg at hrr
  simp only at hrr
  rw [hld, hlp] at hrr
  have z3 := blk_cell (j := 3) hbW rfl
  have z5 := blk_cell (j := 5) hbW rfl
  have z7 := blk_cell (j := 7) hbW rfl
  have e4 : (nk == 1) = false := by simpa using hk4
  have e5 : (nk == 2) = false := by simpa using hk5
  have e6 : (nk == 3) = false := by simpa using hk6
  have hgo : Hid (∀ {e w'}, RPost lo g y W0 P e w' → RPost lo g y w P e w') := Lib.hid (fun h1 => ⟨h1.1, RcAct.from_ hgW0 h1.2⟩)
  clear hW0
  replace hgW := Lib.hid hgW
  replace hgW0 := Lib.hid hgW0
  replace hbW := Lib.hid hbW
  replace hld := Lib.hid hld
  replace hlp := Lib.hid hlp
  replace hdt := Lib.hid hdt
  replace hpl := Lib.hid hpl
  go_enter Tryz.func6, Tryz.ntmps6
  go_wp2_with (go_at_call 27; go_must (refine hrr.out.mono ?_); clear hrr; rintro e w1 ⟨rfl, hact⟩; have hact2 := Lib.hid (hgo.out ⟨rfl, hact⟩).2; replace hact := Lib.hid hact)
  go_ret
  exact ⟨rfl, hact2.out⟩
theorem rapply_any (lo g : Nat) (y : RcX) (c : CtP) (w : World) (h : Hid (Rc w lo g y c)) (hf : c.Few 999) (hok : c.Ok) (n : Nt) (v : Value) (hk : n.key.length ≤ maxLen) (w0 : World) (hv : NtV n v w0) (h0 : w0.heap.size ≤ lo) (hg0 : Gr w0 w) (hI : I64 n.cart) :
    Calls Tryz.prog 6 #[.pointer (some ⟨g, 0, none⟩), v] w (RPost lo g y w (c.apply n)) := by
  unfold CtP.apply
  by_cases h1 : n.kind = 1
  · rw [if_pos h1]; exact rap1_any lo g y c w h hf hok n v hk w0 hv h0 hg0 hI h1
  rw [if_neg h1]
  by_cases h2 : n.kind = 2
  · rw [if_pos h2]; exact rap2_any lo g y c w h hf hok n v hk w0 hv h0 hg0 hI h2
  rw [if_neg h2]
  by_cases h3 : n.kind = 3
  · rw [if_pos h3]; exact rap3_any lo g y c w h hf hok n v hk w0 hv h0 hg0 hI h3
  rw [if_neg h3]
  exact rapo_any lo g y c w h hf hok n v hk w0 hv h0 hg0 hI h1 h2 h3
end Go.Proofs.YthboeoidgglcgaaGreat
/- cat: the program's catalog and the reference's lie beside each other: what one writes leaves the other. -/
namespace Go.Proofs.YthboeoidgglcgaaGreat
set_option linter.unusedVariables false
set_option linter.unusedSimpArgs false
set_option linter.unusedSectionVars false
open Go Go.RowKit Go.Maps Go.Sort Go.Shelf Go.Proofs
theorem row_typeQ {w : World} {b e size n k : Nat} {v : Value} {xs : List Value} (h : w.ownsRow b e size v n xs) (hk : v.ownBlock = some k) : ∃ cs, w.heap[k]? = some (.cells cs e (0, 0)) := by
  rcases h.2 with ⟨rfl, -⟩ | ⟨g, cap, cur, rfl, -, hg, -⟩
  · cases hk
  · injection hk with hk
    subst hk
    exact ⟨_, hg⟩
theorem Ca.typQ {w : World} {lo g t : Nat} {x : CtX} {c : CtP} (h : Ca w lo g x c t) {k : Nat} (hk : x.S g k) {T : TypeId} {cs : Array Value} (hT : T ≠ 56 ∧ T ≠ 76 ∧ T ≠ 83) : w.heap[k]? ≠ some (.cells cs T (0, 0)) := by
  have hno : ∀ {T2 : TypeId} {cs2 : Array Value}, w.heap[k]? = some (.cells cs2 T2 (0, 0)) → T ≠ T2 → w.heap[k]? ≠ some (.cells cs T (0, 0)) := fun h2 hne e => by
    rw [h2] at e
    injection e with e
    injection e with _ e _
    exact hne e.symm
  rcases hk with rfl | rfl | rfl | rfl | hk | hk
  · exact hno h.blk hT.1
  · exact h.me.notcell
  · exact h.mb.notcell
  · exact h.mr.notcell
  · obtain ⟨cs2, e⟩ := row_typeQ h.ws hk
    exact hno e hT.2.1
  · obtain ⟨cs2, e⟩ := row_typeQ h.ts hk
    exact hno e hT.2.2
theorem Rc.cellS {w : World} {lo g : Nat} {y : RcX} {c : CtP} (h : Rc w lo g y c) {k : Nat} (hk : y.S g k) : ∃ cs T, w.heap[k]? = some (.cells cs T (0, 0)) ∧ (T = 31 ∨ T = 58) := by
  rcases hk with rfl | hk
  · exact ⟨_, _, h.blk, .inl rfl⟩
  · obtain ⟨cs, e⟩ := row_typeQ h.ws hk
    exact ⟨cs, _, e, .inr rfl⟩
theorem Rc.typQ {w : World} {lo g : Nat} {y : RcX} {c : CtP} (h : Rc w lo g y c) {k : Nat} (hk : y.S g k) {T : TypeId} {cs : Array Value} (hT : T ≠ 31 ∧ T ≠ 58) : w.heap[k]? ≠ some (.cells cs T (0, 0)) := by
  obtain ⟨cs2, T2, h2, h3⟩ := h.cellS hk
  intro e
  rw [h2] at e
  injection e with e
  injection e with _ e _
  rcases h3 with h3 | h3
  · exact hT.1 (e.symm.trans h3)
  · exact hT.2 (e.symm.trans h3)
theorem Ca.rowQ {w w' : World} {lo g t : Nat} {x : CtX} {c : CtP} (h : Ca w lo g x c t) (hu : Upd (x.S g) w w') {b e size n : Nat} {v : Value} {xs : List Value} (hr : w.ownsRow b e size v n xs) (hT : e ≠ 56 ∧ e ≠ 76 ∧ e ≠ 83) : ∀ k, v.ownBlock = some k → w'.heap[k]? = w.heap[k]? := fun k hk =>
  hu.2.2.2.2 k (hr.lt k hk).2 (fun hs => by
    obtain ⟨cs, e1⟩ := row_typeQ hr hk
    exact h.typQ hs hT e1)
theorem Rc.rowQ {w w' : World} {lo g : Nat} {y : RcX} {c : CtP} (h : Rc w lo g y c) (hu : Upd (y.S g) w w') {b e size n : Nat} {v : Value} {xs : List Value} (hr : w.ownsRow b e size v n xs) (hT : e ≠ 31 ∧ e ≠ 58) : ∀ k, v.ownBlock = some k → w'.heap[k]? = w.heap[k]? := fun k hk =>
  hu.2.2.2.2 k (hr.lt k hk).2 (fun hs => by
    obtain ⟨cs, e1⟩ := row_typeQ hr hk
    exact h.typQ hs hT e1)
/-- what the program's catalog writes leaves the reference's -/
theorem Rc.far {w w' : World} {lo g t lo2 g2 : Nat} {x : CtX} {y : RcX} {c d : CtP} (h : Rc w lo2 g2 y d) (hC : Ca w lo g x c t) (hu : Upd (x.S g) w w') : Rc w' lo2 g2 y d := by
  refine h.keep (hu.2.2.2.2 g2 (blk_lt h.blk) (fun hs => hC.typQ hs (by decide) h.blk)) (fun v hv => ?_) (fun e he => hC.rowQ hu (h.hs.2 e he).1 (by decide))
  simp only [List.mem_cons, List.not_mem_nil, or_false] at hv
  rcases hv with rfl | rfl | rfl | rfl | rfl
  · exact hC.rowQ hu h.ws (by decide)
  · exact hC.rowQ hu h.hs.1 (by decide)
  · exact hC.rowQ hu h.bs (by decide)
  · exact hC.rowQ hu h.ts (by decide)
  · exact hC.rowQ hu h.rs (by decide)
/-- what the reference's catalog writes leaves the program's -/
theorem Ca.far {w w' : World} {lo g t lo2 g2 : Nat} {x : CtX} {y : RcX} {c d : CtP} (h : Ca w lo g x c t) (hR : Rc w lo2 g2 y d) (hu : Upd (y.S g2) w w') : Ca w' lo g x c t := by
  refine h.keep (fun k hk => hu.2.2.2.2 k (h.lt k hk).1 (fun hs => ?_)) (fun e he => hR.rowQ hu (h.wd e he) (by decide)) (fun e he => hR.rowQ hu (h.ep e he).1 (by decide))
  obtain ⟨cs, T, e1, e2⟩ := hR.cellS hs
  refine h.typQ hk ?_ e1
  rcases e2 with rfl | rfl <;> decide
def rcZ : RcX := ⟨.slice none 0 0, .slice none 0 0, .slice none 0 0, .slice none 0 0, .slice none 0 0, []⟩
/-- a new catalog of the reference's -/
theorem Rc.new (w : World) (lo : Nat) (hl : lo ≤ w.heap.size) : Rc (w.alloc (.cells #[.slice none 0 0, .slice none 0 0, .slice none 0 0, .slice none 0 0, .slice none 0 0, .int .i64 0] 31)) lo w.heap.size rcZ CtP.none_ where
  blk := heap_alloc_new w _
  lg := hl
  ws := World.ownsRow_nil _ _ _ 2
  hs := OE.nil_ _ _
  he := rfl
  bs := World.ownsRow_nil _ _ _ 2
  ts := World.ownsRow_nil _ _ _ 2
  rs := World.ownsRow_nil _ _ _ 1
theorem few999 {c : CtP} {t : Nat} (h : c.Few t) (ht : t ≤ 999) : c.Few 999 := ⟨Nat.le_trans h.1 ht, Nat.le_trans h.2.1 ht, Nat.le_trans h.2.2.1 ht, Nat.le_trans h.2.2.2.1 ht, Nat.le_trans h.2.2.2.2 ht⟩
theorem idx_cases {V : Type} (L : List (By × V)) (k : By) : (hasP L k = true ∧ ∃ i : Nat, idxP L k = (i : Int)) ∨ (hasP L k = false ∧ idxP L k = -1) := by
  cases h : hasP L k with
  | true =>
    obtain ⟨i, x, e, -⟩ := idxP_yes h
    exact .inl ⟨rfl, i, e⟩
  | false => exact .inr ⟨rfl, idxP_no h⟩
end Go.Proofs.YthboeoidgglcgaaGreat
/- CatPlays: the catalog by any notes: each answer, and all that it tells. -/
namespace Go.Proofs.YthboeoidgglcgaaGreat
set_option linter.unusedVariables false
set_option linter.unusedSimpArgs false
set_option linter.unusedSectionVars false
open Go Go.RowKit Go.Maps Go.Sort Go.Shelf Go.Proofs
theorem data_ex (lo g t : Nat) (x : CtX) (c : CtP) (w : World) (h : Hid (Ca w lo g x c t)) (ht : t ≤ 1000) (k : By) : Calls Tryz.prog 8 #[.pointer (some ⟨g, 0, none⟩), .string (bs k)] w fun z w' => ∃ A n cc, z = .returned (.tuple #[.slice A n cc, .bool (hasP c.W k)]) ∧ Gr w w' := by
  refine (data_any lo g t x c w h ht k).mono ?_
  rintro z w' ⟨A, cc, rfl, -, hgz⟩
  exact ⟨A, _, cc, rfl, hgz⟩
theorem entry_ex (lo g t : Nat) (x : CtX) (c : CtP) (w : World) (h : Hid (Ca w lo g x c t)) (k : By) (hk : k.length ≤ maxLen) : Calls Tryz.prog 9 #[.pointer (some ⟨g, 0, none⟩), .string (bs k)] w fun z w' => ∃ (s1 s2 : ByteArray) (z1 z2 : Int) (A : Option Addr) (n cc : Nat), z = .returned (.tuple #[.agg #[.string s1, .int .i64 z1, .int .i64 z2, .string s2, .slice A n cc], .bool (hasP c.E k)]) ∧ Gr w w' := by
  refine (entry_any lo g t x c w h k hk).mono ?_
  rintro z w' ⟨A, cc, rfl, -, hgz⟩
  exact ⟨_, _, _, _, A, _, cc, rfl, hgz⟩
set_option maxRecDepth 10000 in
set_option maxHeartbeats 4000000 in
theorem catPlays_any (L : List Nt) (v : Value) (key : By) (hkl : key.length ≤ maxLen) (w : World) (h : NsV L v w) (hok : ∀ n ∈ L, n.Ok) :
    Calls Tryz.prog 3 #[v, .string (bs key)] w fun e w' => e = .returned (.bool true) ∧ Gr w w' := by
  obtain ⟨A, c, rfl, hc1, hc2⟩ := h.len
  obtain ⟨n, hn⟩ : ∃ n, L.length = n := ⟨_, rfl⟩
  rw [hn] at h hc1 ⊢
  have hnm : n ≤ 9223372036854775807 := by simp only [maxLen] at hc2; omega
  replace h := Lib.hid h
  replace hok := Lib.hid hok
  replace hn := Lib.hid hn
  clear hc1 hc2
  have hnew := Lib.hid (cnew_any w)
  obtain ⟨B0, hB0⟩ : ∃ B0, w.heap.size = B0 := ⟨_, rfl⟩
  have hgo : Hid (∀ y z, Gr w y → Below B0 y z → Gr w z) := Lib.hid (fun y z h1 h2 => by unfold Gr at h1 ⊢; rw [hB0] at h1 ⊢; exact h1.trans h2)
  have hlow : Hid (∀ y, Gr w y → B0 ≤ y.heap.size) := Lib.hid (fun y hy => by rw [← hB0]; exact Below.size hy)
  rw [hB0] at hnew
  replace hB0 := Lib.hid hB0
  go_enter Tryz.func3, Tryz.ntmps3
  go_wp2_with (first
    | (go_at_call 4; go_must (refine hnew.out.mono ?_); clear hnew; rintro e w1 ⟨g, x1, rfl, hc1, hg1⟩
       have hr1 := Lib.hid (Rc.new w1 B0 (hlow.out _ hg1))
       have hga := Gr.alloc w1 (.cells #[.slice none 0 0, .slice none 0 0, .slice none 0 0, .slice none 0 0, .slice none 0 0, .int .i64 0] 31)
       have hc1' := Lib.hid (hc1.gr hga)
       have hg1' := Lib.hid (hg1.trans hga)
       clear hc1 hg1 hga))
  obtain ⟨g2, hg2e⟩ : ∃ b, w1.heap.size = b := ⟨_, rfl⟩
  rw [hg2e] at hr1 ⊢
  replace hg2e := Lib.hid hg2e
  go_loopw [7] (fun z wr => ∃ (k : Nat) (x : CtX) (y : RcX), k ≤ n ∧ k ≤ 60 ∧ z = .int .i64 k ∧ Hid (Ca wr B0 g x (madeP L k) k) ∧ Hid (Rc wr B0 g2 y (madeP L k)) ∧ Hid (Gr w wr)) (fun z _ => (60 - intOf z).toNat)
  case atStart => exact ⟨0, x1, rcZ, Nat.zero_le _, Nat.zero_le _, rfl, hc1', hr1, hg1'⟩
  case round =>
    obtain ⟨k, x, y, hk, hk2, rfl, hc, hr, hg⟩ := hrel
    clear hc1' hg1' hr1
    by_cases hlt : k < n
    · have ii : (k : Int) < (n : Int) := by omega
      by_cases hlt2 : k < 60
      · have ii2 : (k : Int) < 60 := by omega
        obtain ⟨b, o, xn, xA, xc, xA2, xc2, rfl, hq, hxv, hbl, hcx⟩ := h.out.get (i := k) (by rw [hn.out]; exact hlt)
        obtain ⟨we, hwe⟩ : ∃ we, we = wr.drew := ⟨_, rfl⟩
        have hgd : Gr wr we := by rw [hwe]; exact (Below.refl _ _).drew
        have hge := Lib.hid (hg.out.trans hgd)
        have hce := Lib.hid (hc.out.gr hgd)
        have hre := Lib.hid (hr.out.gr hgd)
        have hko := hok.out xn (List.mem_of_getElem? hq)
        have hS : ∀ j, x.S g j → w.heap.size ≤ j := fun j hj => by rw [hB0.out]; exact (hce.out.lt j hj).2
        have hap := Lib.hid (apply_any B0 g k x (madeP L k) we hce (by omega) (hlow.out _ hge.out) xn (xn.agg xA xc xA2 xc2) hko.key ((hxv.gr hge.out).ntv) (i64_r hko.cart) (FarP.of_low hxv.2 hS))
        have hfew := Lib.hid (few999 hce.out.few (by omega))
        have hrap : Hid (∀ q, Gr w q → Hid (Rc q B0 g2 y (madeP L k)) → Calls Tryz.prog 6 #[.pointer (some ⟨g2, 0, none⟩), xn.agg xA xc xA2 xc2] q (RPost B0 g2 y q ((madeP L k).apply xn))) := Lib.hid (fun q hq hrq => rapply_any B0 g2 y (madeP L k) q hrq hfew.out hce.out.ok xn _ hko.key w hxv.ntv (Nat.le_of_eq hB0.out) hq (i64_r hko.cart))
        unfold Nt.agg at hap hrap
        have hms := Lib.hid (madeP_succ hq)
        obtain ⟨ez, hez⟩ : ∃ z, ((madeP L k).apply xn).1 = z := ⟨_, rfl⟩
        replace hez := Lib.hid hez
        replace hS := Lib.hid hS
        replace hq := Lib.hid hq
        replace hko := Lib.hid hko
        replace hxv := Lib.hid hxv
        replace hgd := Lib.hid hgd
        clear hbl
        obtain ⟨ld, hld⟩ : ∃ m, xn.data.length = m := ⟨_, rfl⟩
        obtain ⟨lp, hlp⟩ : ∃ m, xn.places.length = m := ⟨_, rfl⟩
        rw [hld, hlp] at hap
        rw [hld, hlp] at hrap
        simp only [hld, hlp] at hcx
        replace hcx := Lib.hid hcx
        replace hld := Lib.hid hld
        replace hlp := Lib.hid hlp
        go_upto_region 5 with (fail)
        refine wpR_region (Below B0) 9999 (by kernel_rfl) ?_
        (rw [← hwe]; replace hwe := Lib.hid hwe)
        refine wT (i := 0) (v := ?_) (⟨fun x => Below.refl _ x, fun h1 h2 => h1.trans h2⟩) (some 25) rfl (fun w' hw' => ?_) ?_
        rotate_left
        · go_simp; with_reducible rfl
        simp only [Act.put, List.setIfInBounds_toArray, List.set_cons_zero, List.set_cons_succ]
        refine wT (i := 1) (v := ?_) (⟨fun x => Below.refl _ x, fun h1 h2 => h1.trans h2⟩) (some 26) rfl (fun w' hw' => ?_) ?_
        rotate_left
        · go_simp; with_reducible rfl
        simp only [Act.put, List.setIfInBounds_toArray, List.set_cons_zero, List.set_cons_succ]
        refine wT (i := 2) (v := ?_) (⟨fun x => Below.refl _ x, fun h1 h2 => h1.trans h2⟩) (some 27) rfl (fun w' hw' => ?_) ?_
        rotate_left
        · go_simp; with_reducible rfl
        simp only [Act.put, List.setIfInBounds_toArray, List.set_cons_zero, List.set_cons_succ]
        refine wT (i := 3) (v := ?_) (⟨fun x => Below.refl _ x, fun h1 h2 => h1.trans h2⟩) (some 28) rfl (fun w' hw' => ?_) ?_
        rotate_left
        · go_simp; with_reducible rfl
        simp only [Act.put, List.setIfInBounds_toArray, List.set_cons_zero, List.set_cons_succ]
        refine wT (i := 4) (v := ?_) (⟨fun x => Below.refl _ x, fun h1 h2 => h1.trans h2⟩) (some 29) rfl (fun w' hw' => ?_) ?_
        rotate_left
        · obtain ⟨q0, q1, q2, q3, q4, q5, q6, q7⟩ := hcx.out _ (hgo.out _ _ hge.out hw'); go_simp; with_reducible rfl
        simp only [Act.put, List.setIfInBounds_toArray, List.set_cons_zero, List.set_cons_succ]
        refine wT (i := 6) (v := ?_) (⟨fun x => Below.refl _ x, fun h1 h2 => h1.trans h2⟩) (some 31) rfl (fun w' hw' => ?_) ?_
        rotate_left
        · go_simp; with_reducible rfl
        simp only [Act.put, List.setIfInBounds_toArray, List.set_cons_zero, List.set_cons_succ]
        refine wT (i := 7) (v := ?_) (⟨fun x => Below.refl _ x, fun h1 h2 => h1.trans h2⟩) (some 32) rfl (fun w' hw' => ?_) ?_
        rotate_left
        · go_simp; with_reducible rfl
        simp only [Act.put, List.setIfInBounds_toArray, List.set_cons_zero, List.set_cons_succ]
        refine wT (i := 8) (v := ?_) (⟨fun x => Below.refl _ x, fun h1 h2 => h1.trans h2⟩) (some 33) rfl (fun w' hw' => ?_) ?_
        rotate_left
        · go_simp; with_reducible rfl
        simp only [Act.put, List.setIfInBounds_toArray, List.set_cons_zero, List.set_cons_succ]
        refine wT (i := 9) (v := ?_) (⟨fun x => Below.refl _ x, fun h1 h2 => h1.trans h2⟩) (some 34) rfl (fun w' hw' => ?_) ?_
        rotate_left
        · go_simp; with_reducible rfl
        simp only [Act.put, List.setIfInBounds_toArray, List.set_cons_zero, List.set_cons_succ]
        refine wT (i := 10) (v := ?_) (⟨fun x => Below.refl _ x, fun h1 h2 => h1.trans h2⟩) (some 35) rfl (fun w' hw' => ?_) ?_
        rotate_left
        · obtain ⟨q0, q1, q2, q3, q4, q5, q6, q7⟩ := hcx.out _ (hgo.out _ _ hge.out hw'); go_simp; with_reducible rfl
        simp only [Act.put, List.setIfInBounds_toArray, List.set_cons_zero, List.set_cons_succ]
        refine wpR_one 5 rfl (by kernel_rfl) (by kernel_rfl) (fun K hK => ?_)
        go_simp
        refine hap.out.mono ?_
        clear hap
        rintro e w5 ⟨he, x5, hc5, hu5, -⟩
        rw [hez.out] at he
        subst he
        have hb5 : Below B0 we w5 := Upd.to_below (Below.refl _ _) hu5 (hlow.out _ hge.out) (fun j hj => (hce.out.lt j hj).2)
        refine hK _ _ (fun _ => hb5) ?_
        clear hK K
        have hr5 := Lib.hid (hre.out.far hce.out hu5)
        have hg5 := Lib.hid (hgo.out _ _ hge.out hb5)
        rw [← hms.out] at hc5
        replace hu5 := Lib.hid hu5
        clear hb5
        try simp only [Act.put, List.setIfInBounds_toArray, List.set_cons_zero, List.set_cons_succ]
        refine wpR_one 11 rfl (by kernel_rfl) (by kernel_rfl) (fun K hK => ?_)
        go_simp
        refine (hrap.out _ hg5.out hr5).mono ?_
        clear hrap
        rintro e w8 ⟨he, y8, hr8, hu8, -⟩
        rw [hez.out] at he
        subst he
        have hb8 : Below B0 w5 w8 := Upd.to_below (Below.refl _ _) hu8 (hlow.out _ hg5.out) (fun j hj => (hr5.out.lt j hj).2)
        refine hK _ _ (fun _ => hb8) ?_
        clear hK K
        have hc8 := Lib.hid (hc5.out.far hr5.out hu8)
        have hg8 := Lib.hid (hgo.out _ _ hg5.out hb8)
        rw [← hms.out] at hr8
        replace hu8 := Lib.hid hu8
        have hal := Lib.hid (alike13_any B0 g (k + 1) B0 g2 x5 y8 (madeP L (k + 1)) w8 hc8 (by omega) hr8 (few999 hc8.out.few (by omega)))
        clear hb8
        try simp only [Act.put, List.setIfInBounds_toArray, List.set_cons_zero, List.set_cons_succ]
        refine wT (i := 12) (v := ?_) (⟨fun x => Below.refl _ x, fun h1 h2 => h1.trans h2⟩) (some 37) rfl (fun w' hw' => ?_) ?_
        rotate_left
        · go_simp; with_reducible rfl
        simp only [Act.put, List.setIfInBounds_toArray, List.set_cons_zero, List.set_cons_succ]
        refine wT (i := 13) (v := ?_) (⟨fun x => Below.refl _ x, fun h1 h2 => h1.trans h2⟩) (some 38) rfl (fun w' hw' => ?_) ?_
        rotate_left
        · go_simp; with_reducible rfl
        simp only [Act.put, List.setIfInBounds_toArray, List.set_cons_zero, List.set_cons_succ]
        refine wT (i := 14) (v := ?_) (⟨fun x => Below.refl _ x, fun h1 h2 => h1.trans h2⟩) (some 39) rfl (fun w' hw' => ?_) ?_
        rotate_left
        · go_simp; with_reducible rfl
        simp only [Act.put, List.setIfInBounds_toArray, List.set_cons_zero, List.set_cons_succ]
        refine wT (i := 15) (v := ?_) (⟨fun x => Below.refl _ x, fun h1 h2 => h1.trans h2⟩) (some 40) rfl (fun w' hw' => ?_) ?_
        rotate_left
        · go_simp; with_reducible rfl
        simp only [Act.put, List.setIfInBounds_toArray, List.set_cons_zero, List.set_cons_succ]
        refine wpR_one 16 rfl (by kernel_rfl) (by kernel_rfl) (fun K hK => ?_)
        go_simp
        refine hal.out.mono ?_
        clear hal
        rintro e w9 ⟨rfl, hz9⟩
        refine hK _ _ (fun _ => Below.mono hz9 (hlow.out _ hg8.out)) ?_
        clear hK K
        have hg9 := Lib.hid (hg8.out.trans hz9)
        have hc9 := Lib.hid (hc8.out.gr hz9)
        have hr9 := Lib.hid (hr8.out.gr hz9)
        clear hz9
        try simp only [Act.put, List.setIfInBounds_toArray, List.set_cons_zero, List.set_cons_succ]
        refine wT (i := 17) (v := ?_) (⟨fun x => Below.refl _ x, fun h1 h2 => h1.trans h2⟩) (some 42) rfl (fun w' hw' => ?_) ?_
        rotate_left
        · go_simp; with_reducible rfl
        simp only [Act.put, List.setIfInBounds_toArray, List.set_cons_zero, List.set_cons_succ]
        refine wT (i := 18) (v := ?_) (⟨fun x => Below.refl _ x, fun h1 h2 => h1.trans h2⟩) (some 43) rfl (fun w' hw' => ?_) ?_
        rotate_left
        · go_simp; with_reducible rfl
        simp only [Act.put, List.setIfInBounds_toArray, List.set_cons_zero, List.set_cons_succ]
        refine wpR_done (by kernel_rfl) ?_ _
        go_wp2_with fail
        go_roundw
        case rel => exact ⟨k + 1, x5, y8, by omega, by omega, by go_num, hc9, hr9, hg9⟩
        case measure => simp [intOf]; omega
      · obtain rfl : k = 60 := by omega
        clear hlt2 hk2
        obtain ⟨C, hC⟩ : ∃ C, madeP L 60 = C := ⟨_, rfl⟩
        rw [hC] at hc hr
        clear hC
        have hfew := few999 hc.out.few (by omega)
        have hcok := hc.out.ok
        have hdat := data_ex B0 g 60 x C wr hc (by omega) key
        have hent := Lib.hid (fun q (hq : Gr wr q) => entry_ex B0 g 60 x C q (Lib.hid (hc.out.gr hq)) key hkl)
        have hhas := Lib.hid (fun q (hq : Gr wr q) => has_any B0 g 60 x C q (Lib.hid (hc.out.gr hq)) (by omega) key hkl)
        have hrha := Lib.hid (fun q (hq : Gr wr q) => rhas_any B0 g2 y C q (Lib.hid (hr.out.gr hq)) (few1 hfew) hcok key)
        have hrwa := Lib.hid (fun q (hq : Gr wr q) => rwaits_any B0 g2 y C q (Lib.hid (hr.out.gr hq)) (few1 hfew) key)
        have hris := Lib.hid (fun q (hq : Gr wr q) => ris13_any B0 g2 y C q (Lib.hid (hr.out.gr hq)) (few1 hfew) (fun e he => (hcok.okE e he).1) key)
        replace hfew := Lib.hid hfew
        replace hcok := Lib.hid hcok
        rcases idx_cases C.W key with ⟨bw, iw, ew⟩ | ⟨bw, ew⟩
        · rcases idx_cases C.E key with ⟨be, ie, ee⟩ | ⟨be, ee⟩
          · have hh : C.has key = true := by unfold CtP.has; rw [be, bw]; rfl
            simp only [bw] at hdat
            simp only [be] at hent
            simp only [hh] at hhas hrha
            simp only [ew] at hrwa
            simp only [ee] at hris
            replace hdat := Lib.hid hdat
            clear bw be ew ee hh
            go_wp2_with (first
              | (go_at_call 8; go_must (refine hdat.out.mono ?_); clear hdat; rintro e w2 ⟨A2, n2, c2, rfl, hg2⟩
                 have hq2 : Hid (Gr wr w2) := Lib.hid hg2
                 clear hg2)
              | (go_at_call 9; go_must (refine (hent.out _ hq2.out).mono ?_); clear hent; rintro e w3 ⟨s1, s2, z1, z2, A3, n3, c3, rfl, hg3⟩
                 have hq3 : Hid (Gr wr w3) := Lib.hid (hq2.out.trans hg3)
                 clear hg3)
              | (go_at_call 10; go_must (refine (awake13_any _).mono ?_); rintro e w4 ⟨rfl, hg4⟩
                 have hq4 : Hid (Gr wr w4) := Lib.hid (hq3.out.trans ((Gr.alloc _ _).trans hg4))
                 clear hg4)
              | (go_at_call 11; go_must (refine (hhas.out _ hq4.out).mono ?_); clear hhas; rintro e w5 ⟨rfl, hg5⟩
                 have hq5 : Hid (Gr wr w5) := Lib.hid (hq4.out.trans hg5)
                 clear hg5)
              | (go_at_call 12; go_must (refine (hrha.out _ hq5.out).mono ?_); clear hrha; rintro e w' ⟨rfl, hww⟩; rw [hww]; clear hww w')
              | (go_at_call 13; go_must (refine (hrwa.out _ hq5.out).mono ?_); clear hrwa; rintro e w' ⟨rfl, hww⟩; rw [hww]; clear hww w')
              | (go_at_call 14; go_must (refine (hris.out _ hq5.out).mono ?_); clear hris; rintro e w' ⟨rfl, hww⟩; rw [hww]; clear hww w'))
            go_ret
            exact ⟨by first | rfl | simp, hg.out.trans hq5.out⟩
          · have hh : C.has key = true := by unfold CtP.has; rw [be, bw]; rfl
            simp only [bw] at hdat
            simp only [be] at hent
            simp only [hh] at hhas hrha
            simp only [ew] at hrwa
            simp only [ee] at hris
            replace hdat := Lib.hid hdat
            clear bw be ew ee hh
            go_wp2_with (first
              | (go_at_call 8; go_must (refine hdat.out.mono ?_); clear hdat; rintro e w2 ⟨A2, n2, c2, rfl, hg2⟩
                 have hq2 : Hid (Gr wr w2) := Lib.hid hg2
                 clear hg2)
              | (go_at_call 9; go_must (refine (hent.out _ hq2.out).mono ?_); clear hent; rintro e w3 ⟨s1, s2, z1, z2, A3, n3, c3, rfl, hg3⟩
                 have hq3 : Hid (Gr wr w3) := Lib.hid (hq2.out.trans hg3)
                 clear hg3)
              | (go_at_call 10; go_must (refine (awake13_any _).mono ?_); rintro e w4 ⟨rfl, hg4⟩
                 have hq4 : Hid (Gr wr w4) := Lib.hid (hq3.out.trans ((Gr.alloc _ _).trans hg4))
                 clear hg4)
              | (go_at_call 11; go_must (refine (hhas.out _ hq4.out).mono ?_); clear hhas; rintro e w5 ⟨rfl, hg5⟩
                 have hq5 : Hid (Gr wr w5) := Lib.hid (hq4.out.trans hg5)
                 clear hg5)
              | (go_at_call 12; go_must (refine (hrha.out _ hq5.out).mono ?_); clear hrha; rintro e w' ⟨rfl, hww⟩; rw [hww]; clear hww w')
              | (go_at_call 13; go_must (refine (hrwa.out _ hq5.out).mono ?_); clear hrwa; rintro e w' ⟨rfl, hww⟩; rw [hww]; clear hww w')
              | (go_at_call 14; go_must (refine (hris.out _ hq5.out).mono ?_); clear hris; rintro e w' ⟨rfl, hww⟩; rw [hww]; clear hww w'))
            go_ret
            exact ⟨by first | rfl | simp, hg.out.trans hq5.out⟩
        · rcases idx_cases C.E key with ⟨be, ie, ee⟩ | ⟨be, ee⟩
          · have hh : C.has key = true := by unfold CtP.has; rw [be, bw]; rfl
            simp only [bw] at hdat
            simp only [be] at hent
            simp only [hh] at hhas hrha
            simp only [ew] at hrwa
            simp only [ee] at hris
            replace hdat := Lib.hid hdat
            clear bw be ew ee hh
            go_wp2_with (first
              | (go_at_call 8; go_must (refine hdat.out.mono ?_); clear hdat; rintro e w2 ⟨A2, n2, c2, rfl, hg2⟩
                 have hq2 : Hid (Gr wr w2) := Lib.hid hg2
                 clear hg2)
              | (go_at_call 9; go_must (refine (hent.out _ hq2.out).mono ?_); clear hent; rintro e w3 ⟨s1, s2, z1, z2, A3, n3, c3, rfl, hg3⟩
                 have hq3 : Hid (Gr wr w3) := Lib.hid (hq2.out.trans hg3)
                 clear hg3)
              | (go_at_call 10; go_must (refine (awake13_any _).mono ?_); rintro e w4 ⟨rfl, hg4⟩
                 have hq4 : Hid (Gr wr w4) := Lib.hid (hq3.out.trans ((Gr.alloc _ _).trans hg4))
                 clear hg4)
              | (go_at_call 11; go_must (refine (hhas.out _ hq4.out).mono ?_); clear hhas; rintro e w5 ⟨rfl, hg5⟩
                 have hq5 : Hid (Gr wr w5) := Lib.hid (hq4.out.trans hg5)
                 clear hg5)
              | (go_at_call 12; go_must (refine (hrha.out _ hq5.out).mono ?_); clear hrha; rintro e w' ⟨rfl, hww⟩; rw [hww]; clear hww w')
              | (go_at_call 13; go_must (refine (hrwa.out _ hq5.out).mono ?_); clear hrwa; rintro e w' ⟨rfl, hww⟩; rw [hww]; clear hww w')
              | (go_at_call 14; go_must (refine (hris.out _ hq5.out).mono ?_); clear hris; rintro e w' ⟨rfl, hww⟩; rw [hww]; clear hww w'))
            go_ret
            exact ⟨by first | rfl | simp, hg.out.trans hq5.out⟩
          · have hh : C.has key = false := by unfold CtP.has; rw [be, bw]; rfl
            simp only [bw] at hdat
            simp only [be] at hent
            simp only [hh] at hhas hrha
            simp only [ew] at hrwa
            simp only [ee] at hris
            replace hdat := Lib.hid hdat
            clear bw be ew ee hh
            go_wp2_with (first
              | (go_at_call 8; go_must (refine hdat.out.mono ?_); clear hdat; rintro e w2 ⟨A2, n2, c2, rfl, hg2⟩
                 have hq2 : Hid (Gr wr w2) := Lib.hid hg2
                 clear hg2)
              | (go_at_call 9; go_must (refine (hent.out _ hq2.out).mono ?_); clear hent; rintro e w3 ⟨s1, s2, z1, z2, A3, n3, c3, rfl, hg3⟩
                 have hq3 : Hid (Gr wr w3) := Lib.hid (hq2.out.trans hg3)
                 clear hg3)
              | (go_at_call 10; go_must (refine (awake13_any _).mono ?_); rintro e w4 ⟨rfl, hg4⟩
                 have hq4 : Hid (Gr wr w4) := Lib.hid (hq3.out.trans ((Gr.alloc _ _).trans hg4))
                 clear hg4)
              | (go_at_call 11; go_must (refine (hhas.out _ hq4.out).mono ?_); clear hhas; rintro e w5 ⟨rfl, hg5⟩
                 have hq5 : Hid (Gr wr w5) := Lib.hid (hq4.out.trans hg5)
                 clear hg5)
              | (go_at_call 12; go_must (refine (hrha.out _ hq5.out).mono ?_); clear hrha; rintro e w' ⟨rfl, hww⟩; rw [hww]; clear hww w')
              | (go_at_call 13; go_must (refine (hrwa.out _ hq5.out).mono ?_); clear hrwa; rintro e w' ⟨rfl, hww⟩; rw [hww]; clear hww w')
              | (go_at_call 14; go_must (refine (hris.out _ hq5.out).mono ?_); clear hris; rintro e w' ⟨rfl, hww⟩; rw [hww]; clear hww w'))
            go_ret
            exact ⟨by first | rfl | simp, hg.out.trans hq5.out⟩
    · obtain rfl : k = n := by omega
      obtain ⟨C, hC⟩ : ∃ C, madeP L k = C := ⟨_, rfl⟩
      rw [hC] at hc hr
      clear hC
      have hfew := few999 hc.out.few (by omega)
      have hcok := hc.out.ok
      have hdat := data_ex B0 g k x C wr hc (by omega) key
      have hent := Lib.hid (fun q (hq : Gr wr q) => entry_ex B0 g k x C q (Lib.hid (hc.out.gr hq)) key hkl)
      have hhas := Lib.hid (fun q (hq : Gr wr q) => has_any B0 g k x C q (Lib.hid (hc.out.gr hq)) (by omega) key hkl)
      have hrha := Lib.hid (fun q (hq : Gr wr q) => rhas_any B0 g2 y C q (Lib.hid (hr.out.gr hq)) (few1 hfew) hcok key)
      have hrwa := Lib.hid (fun q (hq : Gr wr q) => rwaits_any B0 g2 y C q (Lib.hid (hr.out.gr hq)) (few1 hfew) key)
      have hris := Lib.hid (fun q (hq : Gr wr q) => ris13_any B0 g2 y C q (Lib.hid (hr.out.gr hq)) (few1 hfew) (fun e he => (hcok.okE e he).1) key)
      replace hfew := Lib.hid hfew
      replace hcok := Lib.hid hcok
      rcases idx_cases C.W key with ⟨bw, iw, ew⟩ | ⟨bw, ew⟩
      · rcases idx_cases C.E key with ⟨be, ie, ee⟩ | ⟨be, ee⟩
        · have hh : C.has key = true := by unfold CtP.has; rw [be, bw]; rfl
          simp only [bw] at hdat
          simp only [be] at hent
          simp only [hh] at hhas hrha
          simp only [ew] at hrwa
          simp only [ee] at hris
          replace hdat := Lib.hid hdat
          clear bw be ew ee hh
          go_wp2_with (first
            | (go_at_call 8; go_must (refine hdat.out.mono ?_); clear hdat; rintro e w2 ⟨A2, n2, c2, rfl, hg2⟩
               have hq2 : Hid (Gr wr w2) := Lib.hid hg2
               clear hg2)
            | (go_at_call 9; go_must (refine (hent.out _ hq2.out).mono ?_); clear hent; rintro e w3 ⟨s1, s2, z1, z2, A3, n3, c3, rfl, hg3⟩
               have hq3 : Hid (Gr wr w3) := Lib.hid (hq2.out.trans hg3)
               clear hg3)
            | (go_at_call 10; go_must (refine (awake13_any _).mono ?_); rintro e w4 ⟨rfl, hg4⟩
               have hq4 : Hid (Gr wr w4) := Lib.hid (hq3.out.trans ((Gr.alloc _ _).trans hg4))
               clear hg4)
            | (go_at_call 11; go_must (refine (hhas.out _ hq4.out).mono ?_); clear hhas; rintro e w5 ⟨rfl, hg5⟩
               have hq5 : Hid (Gr wr w5) := Lib.hid (hq4.out.trans hg5)
               clear hg5)
            | (go_at_call 12; go_must (refine (hrha.out _ hq5.out).mono ?_); clear hrha; rintro e w' ⟨rfl, hww⟩; rw [hww]; clear hww w')
            | (go_at_call 13; go_must (refine (hrwa.out _ hq5.out).mono ?_); clear hrwa; rintro e w' ⟨rfl, hww⟩; rw [hww]; clear hww w')
            | (go_at_call 14; go_must (refine (hris.out _ hq5.out).mono ?_); clear hris; rintro e w' ⟨rfl, hww⟩; rw [hww]; clear hww w'))
          go_ret
          exact ⟨by first | rfl | simp, hg.out.trans hq5.out⟩
        · have hh : C.has key = true := by unfold CtP.has; rw [be, bw]; rfl
          simp only [bw] at hdat
          simp only [be] at hent
          simp only [hh] at hhas hrha
          simp only [ew] at hrwa
          simp only [ee] at hris
          replace hdat := Lib.hid hdat
          clear bw be ew ee hh
          go_wp2_with (first
            | (go_at_call 8; go_must (refine hdat.out.mono ?_); clear hdat; rintro e w2 ⟨A2, n2, c2, rfl, hg2⟩
               have hq2 : Hid (Gr wr w2) := Lib.hid hg2
               clear hg2)
            | (go_at_call 9; go_must (refine (hent.out _ hq2.out).mono ?_); clear hent; rintro e w3 ⟨s1, s2, z1, z2, A3, n3, c3, rfl, hg3⟩
               have hq3 : Hid (Gr wr w3) := Lib.hid (hq2.out.trans hg3)
               clear hg3)
            | (go_at_call 10; go_must (refine (awake13_any _).mono ?_); rintro e w4 ⟨rfl, hg4⟩
               have hq4 : Hid (Gr wr w4) := Lib.hid (hq3.out.trans ((Gr.alloc _ _).trans hg4))
               clear hg4)
            | (go_at_call 11; go_must (refine (hhas.out _ hq4.out).mono ?_); clear hhas; rintro e w5 ⟨rfl, hg5⟩
               have hq5 : Hid (Gr wr w5) := Lib.hid (hq4.out.trans hg5)
               clear hg5)
            | (go_at_call 12; go_must (refine (hrha.out _ hq5.out).mono ?_); clear hrha; rintro e w' ⟨rfl, hww⟩; rw [hww]; clear hww w')
            | (go_at_call 13; go_must (refine (hrwa.out _ hq5.out).mono ?_); clear hrwa; rintro e w' ⟨rfl, hww⟩; rw [hww]; clear hww w')
            | (go_at_call 14; go_must (refine (hris.out _ hq5.out).mono ?_); clear hris; rintro e w' ⟨rfl, hww⟩; rw [hww]; clear hww w'))
          go_ret
          exact ⟨by first | rfl | simp, hg.out.trans hq5.out⟩
      · rcases idx_cases C.E key with ⟨be, ie, ee⟩ | ⟨be, ee⟩
        · have hh : C.has key = true := by unfold CtP.has; rw [be, bw]; rfl
          simp only [bw] at hdat
          simp only [be] at hent
          simp only [hh] at hhas hrha
          simp only [ew] at hrwa
          simp only [ee] at hris
          replace hdat := Lib.hid hdat
          clear bw be ew ee hh
          go_wp2_with (first
            | (go_at_call 8; go_must (refine hdat.out.mono ?_); clear hdat; rintro e w2 ⟨A2, n2, c2, rfl, hg2⟩
               have hq2 : Hid (Gr wr w2) := Lib.hid hg2
               clear hg2)
            | (go_at_call 9; go_must (refine (hent.out _ hq2.out).mono ?_); clear hent; rintro e w3 ⟨s1, s2, z1, z2, A3, n3, c3, rfl, hg3⟩
               have hq3 : Hid (Gr wr w3) := Lib.hid (hq2.out.trans hg3)
               clear hg3)
            | (go_at_call 10; go_must (refine (awake13_any _).mono ?_); rintro e w4 ⟨rfl, hg4⟩
               have hq4 : Hid (Gr wr w4) := Lib.hid (hq3.out.trans ((Gr.alloc _ _).trans hg4))
               clear hg4)
            | (go_at_call 11; go_must (refine (hhas.out _ hq4.out).mono ?_); clear hhas; rintro e w5 ⟨rfl, hg5⟩
               have hq5 : Hid (Gr wr w5) := Lib.hid (hq4.out.trans hg5)
               clear hg5)
            | (go_at_call 12; go_must (refine (hrha.out _ hq5.out).mono ?_); clear hrha; rintro e w' ⟨rfl, hww⟩; rw [hww]; clear hww w')
            | (go_at_call 13; go_must (refine (hrwa.out _ hq5.out).mono ?_); clear hrwa; rintro e w' ⟨rfl, hww⟩; rw [hww]; clear hww w')
            | (go_at_call 14; go_must (refine (hris.out _ hq5.out).mono ?_); clear hris; rintro e w' ⟨rfl, hww⟩; rw [hww]; clear hww w'))
          go_ret
          exact ⟨by first | rfl | simp, hg.out.trans hq5.out⟩
        · have hh : C.has key = false := by unfold CtP.has; rw [be, bw]; rfl
          simp only [bw] at hdat
          simp only [be] at hent
          simp only [hh] at hhas hrha
          simp only [ew] at hrwa
          simp only [ee] at hris
          replace hdat := Lib.hid hdat
          clear bw be ew ee hh
          go_wp2_with (first
            | (go_at_call 8; go_must (refine hdat.out.mono ?_); clear hdat; rintro e w2 ⟨A2, n2, c2, rfl, hg2⟩
               have hq2 : Hid (Gr wr w2) := Lib.hid hg2
               clear hg2)
            | (go_at_call 9; go_must (refine (hent.out _ hq2.out).mono ?_); clear hent; rintro e w3 ⟨s1, s2, z1, z2, A3, n3, c3, rfl, hg3⟩
               have hq3 : Hid (Gr wr w3) := Lib.hid (hq2.out.trans hg3)
               clear hg3)
            | (go_at_call 10; go_must (refine (awake13_any _).mono ?_); rintro e w4 ⟨rfl, hg4⟩
               have hq4 : Hid (Gr wr w4) := Lib.hid (hq3.out.trans ((Gr.alloc _ _).trans hg4))
               clear hg4)
            | (go_at_call 11; go_must (refine (hhas.out _ hq4.out).mono ?_); clear hhas; rintro e w5 ⟨rfl, hg5⟩
               have hq5 : Hid (Gr wr w5) := Lib.hid (hq4.out.trans hg5)
               clear hg5)
            | (go_at_call 12; go_must (refine (hrha.out _ hq5.out).mono ?_); clear hrha; rintro e w' ⟨rfl, hww⟩; rw [hww]; clear hww w')
            | (go_at_call 13; go_must (refine (hrwa.out _ hq5.out).mono ?_); clear hrwa; rintro e w' ⟨rfl, hww⟩; rw [hww]; clear hww w')
            | (go_at_call 14; go_must (refine (hris.out _ hq5.out).mono ?_); clear hris; rintro e w' ⟨rfl, hww⟩; rw [hww]; clear hww w'))
          go_ret
          exact ⟨by first | rfl | simp, hg.out.trans hq5.out⟩
theorem catPlays_str (L : List Nt) (v : Value) (s : ByteArray) (hs : s.size ≤ maxLen) (w : World) (h : NsV L v w) (hok : ∀ n ∈ L, n.Ok) :
    Calls Tryz.prog 3 #[v, .string s] w fun e w' => e = .returned (.bool true) ∧ Gr w w' := by
  have := catPlays_any L v s.data.toList (by simpa using hs) w h hok
  rw [show bs s.data.toList = s from by unfold bs; simp] at this
  exact this
end Go.Proofs.YthboeoidgglcgaaGreat
