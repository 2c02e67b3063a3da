/- cat: facts for the reference's Apply. -/
import Derived.Test.YthboeoidgglcgaaGreatCpB
import Derived.Test.YthboeoidgglcgaaGreatCtV
import Derived.Test.YthboeoidgglcgaaGreatReg2
namespace Go.Proofs.YthboeoidgglcgaaGreat
set_option linter.unusedVariables false
set_option linter.unusedSimpArgs false
set_option linter.unusedSectionVars false
open Go Go.RowKit Go.Maps Go.Sort Go.Shelf Go.Proofs
theorem Rc.other {w w' : World} {lo g : Nat} {y : RcX} {c : CtP} (h : Rc w lo g y c) (hu : Upd (y.S g) w w') {k : Nat} {cs : Array Value} {T : TypeId} (hk : w.heap[k]? = some (.cells cs T (0, 0))) (h1 : T ≠ 31) (h2 : T ≠ 58) : w'.heap[k]? = some (.cells cs T (0, 0)) := by
  refine (hu.2.2.2.2 k (blk_lt hk) (fun hs => ?_)).trans hk
  rcases hs with rfl | hs
  · rw [h.blk] at hk
    injection hk with hk
    injection hk with _ hk _
    exact h1 hk.symm
  · exact row_ne h.ws hk h2 hs
theorem few1 {c : CtP} (hf : c.Few 999) : c.Few 1000 := ⟨by have := hf.1; omega, by have := hf.2.1; omega, by have := hf.2.2.1; omega, by have := hf.2.2.2.1; omega, by have := hf.2.2.2.2; omega⟩
theorem tw_lt {V : Type} {L : List (By × V)} {k : By} {j : Nat} {x : By × V} (hj : j < (L.takeWhile (fun e => decide (e.1 < k))).length) (hx : L[j]? = some x) : x.1 < k := by
  have h1 : (L.takeWhile (fun e => decide (e.1 < k)))[j]? = some x := by
    rw [← List.takeWhile_append_dropWhile (p := fun e : By × V => decide (e.1 < k)) (l := L), List.getElem?_append_left hj] at hx
    exact hx
  have := List.all_eq_true.mp (List.all_takeWhile (p := fun p : By × V => decide (p.1 < k)) (l := L)) x (List.mem_of_getElem? h1)
  simpa using this
theorem tw_not {V : Type} {L : List (By × V)} {k : By} {x : By × V} (hx : L[(L.takeWhile (fun e => decide (e.1 < k))).length]? = some x) : ¬ x.1 < k := by
  induction L with
  | nil => simp at hx
  | cons a L ih =>
    by_cases ha : a.1 < k
    · rw [List.takeWhile_cons_of_pos (by simpa using ha)] at hx
      exact ih (by simpa using hx)
    · rw [List.takeWhile_cons_of_neg (by simpa using ha)] at hx
      simp at hx
      rw [← hx]; exact ha
theorem insP_at {V : Type} (L : List (By × V)) (k : By) (v : V) : insP L k v = L.take (L.takeWhile (fun e => decide (e.1 < k))).length ++ (k, v) :: L.drop (L.takeWhile (fun e => decide (e.1 < k))).length := by
  unfold insP
  have e := List.takeWhile_append_dropWhile (p := fun e : By × V => decide (e.1 < k)) (l := L)
  generalize L.takeWhile (fun e => decide (e.1 < k)) = a at *
  generalize L.dropWhile (fun e => decide (e.1 < k)) = b at *
  subst e
  rw [List.take_left, List.drop_left]
theorem wpl_appEs {w : World} {ops : Array Oper} {rest : List Oper} {o : Oper} {a : Act} {Q : Exit → Act → World → Prop} (hgd : o.guard = none) (s x : Operand)
    (ho : o.op = .call { callee := .builtin .append, args := #[s, x], argTypes := #[27, 27] })
    (base : Nat) (v : Value) (E E2 : List Et) (hs : a.eval s = v) (hown : OE E v base w) (A : Option Addr) (c : Nat) {m B : Nat} (hx : a.eval x = .slice A m c) (hr : Reads w B 5 A m (flatE E2))
    (hq : ∀ q ∈ E2, OP q.e.places q.v base w) (hlen : E.length + E2.length ≤ 1000000) (hbase : base ≤ w.heap.size)
    (h : ∀ v' w', OE (E ++ E2) v' base w' → w.grownBy w' v.ownBlock → (v'.ownBlock = v.ownBlock ∨ v'.ownBlock = some w.heap.size) → wpList Tryz.prog ops Q rest (a.put o.dst v') w') : wpList Tryz.prog ops Q (o :: rest) a w :=
  wpList_plain hgd fun _ hK => wp_appEs s x ho base v E E2 hs hown A c hx hr hq hlen hbase fun v' w' h2 h3 h4 => hK _ _ (h v' w' h2 h3 h4)
theorem Reads.blk5 {w : World} {g : Nat} {a b c d e : Value} {T : TypeId} (hh : w.heap[g]? = some (.cells #[a, b, c, d, e] T (0, 0))) : Reads w w.heap.size 5 (some ⟨g, 0, none⟩) 1 [a, b, c, d, e] :=
  ⟨rfl, fun _ => ⟨_, rfl, blk_lt hh, fun j u hu => by
    have ha : (⟨g, 0, none⟩ : Addr).add j = ⟨g, j, none⟩ := by unfold Addr.add; split <;> simp_all
    rw [ha]
    exact blk_cell hh (by simpa using hu)⟩⟩
theorem flatPl_one2 (l : List (Int × Int)) : ∀ v ∈ flatPl l, v.oneCell' = true := fun v hv => by
  unfold flatPl at hv
  obtain ⟨x, -, h⟩ := List.mem_flatMap.mp hv
  simp [encPl] at h
  rcases h with rfl | rfl <;> rfl
theorem wp_appPl {w : World} {o : Oper} {a : Act} {Q : Exit → Act → World → Prop} {K : Act → World → Prop} (s x : Operand)
    (ho : o.op = .call { callee := .builtin .append, args := #[s, x], argTypes := #[35, 35] })
    (base : Nat) (v : Value) (l : List (Int × Int)) (hs : a.eval s = v) (hown : OP l v base w) (A : Option Addr) (c : Nat) (news : List (Int × Int)) {m B : Nat} (hx : a.eval x = .slice A m c) (hr : Reads w B 2 A m (flatPl news)) (hn : ∀ x ∈ news, I64 x.1 ∧ I64 x.2)
    (hlen : l.length + news.length ≤ 1000000) (hbase : base ≤ w.heap.size)
    (h : ∀ v' w', OP (l ++ news) v' base w' → w.grownBy w' v.ownBlock → K (a.put o.dst v') w') : Oper.wp Tryz.prog o a w K Q := by
  obtain ⟨i0, hi, hz0, hz1, hz2⟩ := info_parts info_place
  have hm : m = news.length := by have := hr.1; rw [flatPl_len] at this; omega
  subst hm
  refine wp_append_any w s x 35 ho base 79 i0 _ 2 16 Tryz.underlying35 hi hz0 hz1 hz2 rfl (by omega) v l.length (flatPl l) hs hown.1 B A news.length c (flatPl news) hx hr (flatPl_one2 news)
    (by simp only [maxLen]; omega) (by omega) hbase fun v' w' h2 h3 h4 => h v' w' ⟨?_, ?_⟩ h3
  · rw [List.length_append, show flatPl (l ++ news) = flatPl l ++ flatPl news from by simp [flatPl]]; exact h2
  · intro x hx
    rcases List.mem_append.mp hx with hx | hx
    · exact hown.2 x hx
    · exact hn x hx
end Go.Proofs.YthboeoidgglcgaaGreat
/- cat: more facts for the reference's Apply. -/
namespace Go.Proofs.YthboeoidgglcgaaGreat
set_option linter.unusedVariables false
set_option linter.unusedSimpArgs false
set_option linter.unusedSectionVars false
open Go Go.RowKit Go.Maps Go.Sort Go.Shelf Go.Proofs
theorem Reads.blk2 {w : World} {g : Nat} {a b : Value} {T : TypeId} (hh : w.heap[g]? = some (.cells #[a, b] T (0, 0))) : Reads w w.heap.size 2 (some ⟨g, 0, none⟩) 1 [a, b] :=
  ⟨rfl, fun _ => ⟨_, rfl, blk_lt hh, fun j u hu => by
    have ha : (⟨g, 0, none⟩ : Addr).add j = ⟨g, j, none⟩ := by unfold Addr.add; split <;> simp_all
    rw [ha]
    exact blk_cell hh (by simpa using hu)⟩⟩
theorem Reads.blk1 {w : World} {g : Nat} {a : Value} {T : TypeId} (hh : w.heap[g]? = some (.cells #[a] T (0, 0))) : Reads w w.heap.size 1 (some ⟨g, 0, none⟩) 1 [a] :=
  ⟨rfl, fun _ => ⟨_, rfl, blk_lt hh, fun j u hu => by
    have ha : (⟨g, 0, none⟩ : Addr).add j = ⟨g, j, none⟩ := by unfold Addr.add; split <;> simp_all
    rw [ha]
    exact blk_cell hh (by simpa using hu)⟩⟩
theorem rdrop_any2 (lo g : Nat) (y : RcX) (c : CtP) (w : World) (h : Hid (Rc w lo g y c)) (hf : c.Few 1000) (hdW : DistP c.W) (hrE : RiseP c.E) (hap : ∀ k, hasP c.W k = true → hasP c.E k = false) (hkE : ∀ e ∈ c.E, e.2.key = e.1) (k : By) :
    Calls Tryz.prog 23 #[.pointer (some ⟨g, 0, none⟩), .string (bs k)] w fun e w' => e = .returned (.tuple #[]) ∧ RcAct lo g y w { c with W := delP c.W k, E := delP c.E k } w' := by
  cases hW : hasP c.W k with
  | true =>
    have hE := hap k hW
    have := rdrop_W lo g y c w h hf hdW hkE k hW hE
    rwa [show ({ c with W := delP c.W k, E := delP c.E k } : CtP) = { c with W := delP c.W k } from by rw [delP_no hE]]
  | false =>
    cases hE : hasP c.E k with
    | true =>
      have := rdrop_E lo g y c w h hf hrE.dist hkE k hW hE
      rwa [show ({ c with W := delP c.W k, E := delP c.E k } : CtP) = { c with E := delP c.E k } from by rw [delP_no hW]]
    | false =>
      refine (rdrop_no lo g y c w h hf hkE k hW hE).mono ?_
      rintro e w' ⟨rfl, rfl⟩
      refine ⟨rfl, ?_⟩
      rw [show ({ c with W := delP c.W k, E := delP c.E k } : CtP) = c from by rw [delP_no hW, delP_no hE]]
      exact RcAct.refl h
theorem blk_apart2 {w : World} {a b : Nat} {c1 c2 : Array Value} {T1 T2 : TypeId} (h1 : w.heap[a]? = some (.cells c1 T1 (0, 0))) (h2 : w.heap[b]? = some (.cells c2 T2 (0, 0))) (hT : T1 ≠ T2) : a ≠ b := fun e => by
  subst e
  rw [h1] at h2
  injection h2 with h2
  injection h2 with _ h2 _
  exact hT h2
theorem few2 {c : CtP} (hf : c.Few 999) (T' : List (By × Int)) (hT : T'.length ≤ 1000) : CtP.Few { c with T := T' } 1000 := ⟨by have := hf.1; show c.W.length ≤ _; omega, by have := hf.2.1; show c.E.length ≤ _; omega, by have := hf.2.2.1; show c.B.length ≤ _; omega, hT, by have := hf.2.2.2.2; show c.R.length ≤ _; omega⟩
theorem getB_pos {c : CtP} (hok : c.Ok) (k : By) : (0 < getP c.B k 0 ↔ hasP c.B k = true) := by
  cases hh : hasP c.B k with
  | false => rw [getP_no hh]; simp
  | true =>
    obtain ⟨e, he, rfl⟩ := (hasP_iff _ _).mp hh
    rw [getP_mem hok.dB (v := e.2) he]
    have := (hok.okB e he).1
    simp; omega
end Go.Proofs.YthboeoidgglcgaaGreat
/- cat: the reference's Used; keys put in where they belong, plain. -/
namespace Go.Proofs.YthboeoidgglcgaaGreat
set_option linter.unusedVariables false
set_option linter.unusedSimpArgs false
set_option linter.unusedSectionVars false
open Go Go.RowKit Go.Maps Go.Sort Go.Shelf Go.Proofs
def insK (L : List By) (k : By) : List By := L.takeWhile (fun e => decide (e < k)) ++ (k :: L.dropWhile (fun e => decide (e < k)))
def RiseK (L : List By) : Prop := L.Pairwise (fun x y => x < y)
theorem insK_perm (L : List By) (k : By) : (insK L k).Perm (L ++ [k]) := by
  unfold insK
  conv => rhs; rw [← List.takeWhile_append_dropWhile (p := fun e : By => decide (e < k)) (l := L)]
  rw [List.append_assoc]
  refine List.Perm.append_left _ ?_
  rw [← List.singleton_append]
  exact List.perm_append_comm
theorem dropK_not {L : List By} (h : RiseK L) (k : By) : ∀ e ∈ L.dropWhile (fun e => decide (e < k)), ¬ e < k := by
  induction L with
  | nil => intro e he; cases he
  | cons x L ih =>
    obtain ⟨h1, h2⟩ := List.pairwise_cons.mp h
    intro e he
    by_cases hx : x < k
    · rw [List.dropWhile_cons_of_pos (by simpa using hx)] at he
      exact ih h2 e he
    · rw [List.dropWhile_cons_of_neg (by simpa using hx)] at he
      rcases List.mem_cons.mp he with rfl | he
      · exact hx
      · exact fun h3 => hx (bl_trans (h1 e he) h3)
theorem RiseK.ins {L : List By} (h : RiseK L) {k : By} (hk : k ∉ L) : RiseK (insK L k) := by
  have hdl : ∀ e ∈ L.dropWhile (fun e => decide (e < k)), k < e := fun e he => bl_ne (dropK_not h k e he) (fun e2 => hk (by rw [← e2]; exact (List.dropWhile_sublist _).subset he))
  have htl : ∀ e ∈ L.takeWhile (fun e => decide (e < k)), e < k := fun e he => by
    have := List.all_eq_true.mp (List.all_takeWhile (p := fun p : By => decide (p < k)) (l := L)) e he
    simpa using this
  unfold RiseK insK
  rw [List.pairwise_append, List.pairwise_cons]
  refine ⟨List.Pairwise.sublist (List.takeWhile_sublist _) h, ⟨hdl, List.Pairwise.sublist (List.dropWhile_sublist _) h⟩, fun x hx y hy => ?_⟩
  rcases List.mem_cons.mp hy with rfl | hy
  · exact htl x hx
  · exact bl_trans (htl x hx) (hdl y hy)
/-- the keys of the entries, and of i that wait -/
def keysI (c : CtP) (i : Nat) : List By := (c.W.take i).foldl (fun L e => insK L e.1) (c.E.map Prod.fst)
theorem keysI_zero (c : CtP) : keysI c 0 = c.E.map Prod.fst := rfl
theorem keysI_succ {c : CtP} {i : Nat} {x : By × By} (hx : c.W[i]? = some x) : keysI c (i + 1) = insK (keysI c i) x.1 := by
  unfold keysI
  rw [List.take_add_one, hx]
  show (c.W.take i ++ [x]).foldl _ _ = _
  rw [List.foldl_append]
  rfl
theorem keysI_spec {c : CtP} (h : c.Ok) (i : Nat) (hi : i ≤ c.W.length) : RiseK (keysI c i) ∧ (keysI c i).Perm (c.E.map Prod.fst ++ (c.W.take i).map Prod.fst) := by
  induction i with
  | zero => exact ⟨List.pairwise_map.mpr h.rE, by rw [keysI_zero]; simp⟩
  | succ i ih =>
    obtain ⟨h1, h2⟩ := ih (by omega)
    obtain ⟨x, hx⟩ : ∃ x, c.W[i]? = some x := ⟨_, List.getElem?_eq_getElem (by omega)⟩
    rw [keysI_succ hx]
    refine ⟨h1.ins (fun hm => ?_), ?_⟩
    · have := h2.mem_iff.mp hm
      rcases List.mem_append.mp this with hm | hm
      · obtain ⟨e, he, e1⟩ := List.mem_map.mp hm
        have h3 := h.ap x.1 ((hasP_iff _ _).mpr ⟨x, List.mem_of_getElem? hx, rfl⟩)
        rw [(hasP_iff _ _).mpr ⟨e, he, e1⟩] at h3
        cases h3
      · obtain ⟨e, he, e1⟩ := List.mem_map.mp hm
        exact pair_take2 h.dW hx e he e1
    · refine (insK_perm _ _).trans ?_
      rw [List.take_add_one, hx, List.map_append, ← List.append_assoc]
      exact List.Perm.append_right _ h2
where
  pair_take2 {L : List (By × By)} (h : DistP L) {i : Nat} {x : By × By} (hx : L[i]? = some x) (y : By × By) (hy : y ∈ L.take i) (e : y.1 = x.1) : False := by
    obtain ⟨j, hj⟩ := List.mem_iff_getElem?.mp hy
    rw [List.getElem?_take] at hj
    split at hj
    · rename_i hji
      obtain ⟨a1, a2⟩ := List.getElem?_eq_some_iff.mp hj
      obtain ⟨b1, b2⟩ := List.getElem?_eq_some_iff.mp hx
      have := List.pairwise_iff_getElem.mp h j i a1 b1 hji
      rw [a2, b2] at this
      exact this e
    · cases hj
theorem keysI_end {c : CtP} (h : c.Ok) : keysI c c.W.length = keysP c := by
  obtain ⟨h1, h2⟩ := keysI_spec h c.W.length (Nat.le_refl _)
  rw [List.take_of_length_le (Nat.le_refl _)] at h2
  have h3 : (keysI c c.W.length).mergeSort (fun x y => decide (x ≤ y)) = keysI c c.W.length := sort_rise h1
  rw [← h3]
  unfold keysP
  exact mergeSort_of_perm (h2.trans List.perm_append_comm)
theorem keysI_len (c : CtP) (i : Nat) (hi : i ≤ c.W.length) : (keysI c i).length = c.E.length + i := by
  induction i with
  | zero => rw [keysI_zero, List.length_map]; rfl
  | succ i ih =>
    obtain ⟨x, hx⟩ : ∃ x, c.W[i]? = some x := ⟨_, List.getElem?_eq_getElem (by omega)⟩
    rw [keysI_succ hx, (insK_perm _ _).length_eq, List.length_append, ih (by omega)]
    rfl
theorem twK_lt {L : List By} {k : By} {j : Nat} {x : By} (hj : j < (L.takeWhile (fun e => decide (e < k))).length) (hx : L[j]? = some x) : x < k := by
  have h1 : (L.takeWhile (fun e => decide (e < k)))[j]? = some x := by
    rw [← List.takeWhile_append_dropWhile (p := fun e : By => decide (e < k)) (l := L), List.getElem?_append_left hj] at hx
    exact hx
  have := List.all_eq_true.mp (List.all_takeWhile (p := fun p : By => decide (p < k)) (l := L)) x (List.mem_of_getElem? h1)
  simpa using this
theorem twK_not {L : List By} {k : By} {x : By} (hx : L[(L.takeWhile (fun e => decide (e < k))).length]? = some x) : ¬ x < k := by
  induction L with
  | nil => simp at hx
  | cons a L ih =>
    by_cases ha : a < k
    · rw [List.takeWhile_cons_of_pos (by simpa using ha)] at hx
      exact ih (by simpa using hx)
    · rw [List.takeWhile_cons_of_neg (by simpa using ha)] at hx
      simp at hx
      rw [← hx]; exact ha
theorem insK_at (L : List By) (k : By) : insK L k = L.take (L.takeWhile (fun e => decide (e < k))).length ++ k :: L.drop (L.takeWhile (fun e => decide (e < k))).length := by
  unfold insK
  have e := List.takeWhile_append_dropWhile (p := fun e : By => decide (e < k)) (l := L)
  generalize L.takeWhile (fun e => decide (e < k)) = a at *
  generalize L.dropWhile (fun e => decide (e < k)) = b at *
  subst e
  rw [List.take_left, List.drop_left]
set_option maxRecDepth 10000 in
set_option maxHeartbeats 1000000 in
theorem rused_any (lo g : Nat) (y : RcX) (c : CtP) (w : World) (h : Hid (Rc w lo g y c)) (hf : c.Few 999) (hok : c.Ok) : Calls Tryz.prog 41 #[.pointer (some ⟨g, 0, none⟩)] w fun e w' => e = .returned (.int .i64 (usedC c.W)) ∧ w' = w := by
  have hrow := h.out.ws
  obtain ⟨n, hn⟩ : ∃ n, c.W.length = n := ⟨_, rfl⟩
  have hnl : n ≤ 999 := by have := hf.1; omega
  rw [hn] at hrow
  obtain ⟨A, ca, hv, -, -⟩ := row_form hrow
  have y0 := blk_cell (j := 0) h.out.blk rfl
  rw [hv] at y0 hrow
  have hul : Hid (∀ j, usedC (c.W.take j) ≤ 512 * j) := Lib.hid (fun j => by
    unfold usedC
    induction j with
    | zero => simp
    | succ j ih =>
      rw [List.take_add_one, List.map_append, List.sum_append]
      cases hx : c.W[j]? with
      | none => simp only [Option.toList_none, List.map_nil, List.sum_nil]; omega
      | some x => have := (hok.okW x (List.mem_of_getElem? hx)).2; simp only [Option.toList_some, List.map_cons, List.map_nil, List.sum_cons, List.sum_nil]; omega)
  replace hn := Lib.hid hn
  replace hrow := Lib.hid hrow
  replace hv := Lib.hid hv
  go_enter Tryz.func41, Tryz.ntmps41
  go_wp2_with fail
  go_loopw [3, 4] (fun q u wr => ∃ (j m : Nat), j ≤ n ∧ q = .int .i64 m ∧ u = .int .i64 j ∧ Hid (usedC (c.W.take j) = m) ∧ wr = w) (fun _ u _ => (n - intOf u).toNat)
  case atStart => exact ⟨0, 0, Nat.zero_le _, rfl, rfl, Lib.hid rfl, rfl⟩
  case round =>
    obtain ⟨j, m, hj, rfl, rfl, hb, rfl⟩ := hrel
    by_cases hlt : j < n
    · have ii : (j : Int) < (n : Int) := by omega
      obtain ⟨b, c', e', -, -, -, -, -, -, hcell, -⟩ := row_at hrow.out (by omega)
      injection e' with e1 _ e3
      subst e1 e3
      obtain ⟨x, hx⟩ : ∃ x, c.W[j]? = some x := ⟨_, List.getElem?_eq_getElem (by rw [hn.out]; exact hlt)⟩
      have q1 := hcell _ _ (flatB_at hx).2
      have hm5 : m ≤ 512 * j := by rw [← hb.out]; exact hul.out j
      obtain ⟨lx, hlx⟩ : ∃ l, x.2.length = l := ⟨_, rfl⟩
      have hsz : (bs x.2).size = lx := by rw [← hlx]; rfl
      have hx5 : lx ≤ 512 := by rw [← hlx]; exact (hok.okW x (List.mem_of_getElem? hx)).2
      have hadd : IntKind.i64.wrap ((m : Int) + (lx : Int)) = ((m + lx : Nat) : Int) := by rw [i64_wrap_id (by omega) (by omega)]; omega
      have hus : Hid (usedC (c.W.take (j + 1)) = m + lx) := Lib.hid (by rw [← hb.out, ← hlx]; unfold usedC; rw [List.take_add_one, hx, List.map_append, List.sum_append]; simp)
      clear hcell
      replace hx := Lib.hid hx
      replace hlx := Lib.hid hlx
      replace hm5 := Lib.hid hm5
      go_wp2_with fail
      go_roundw
      case rel => exact ⟨j + 1, m + lx, by omega, by first | rfl | go_num, by go_num, hus, by first | rfl | trivial⟩
      case measure => simp [intOf]; omega
    · obtain rfl : n = j := by omega
      have hres : Hid (m = usedC c.W) := Lib.hid (by rw [← hb.out, List.take_of_length_le (by rw [hn.out]; exact Nat.le_refl _)])
      go_wp2_with fail
      go_ret
      exact ⟨by rw [hres.out]; rfl, rfl⟩
end Go.Proofs.YthboeoidgglcgaaGreat
