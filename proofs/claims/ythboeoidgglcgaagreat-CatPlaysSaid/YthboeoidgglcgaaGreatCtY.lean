/- cat: keys of a map, sorted; rows of entries. -/
import Derived.Test.YthboeoidgglcgaaGreatCtLay
import Derived.Test.YthboeoidgglcgaaGreatCtC
import Derived.Sort.KeysCollected
import Derived.Lib.SlKeysI
namespace Go.Proofs.YthboeoidgglcgaaGreat
set_option linter.unusedVariables false
set_option linter.unusedSimpArgs false
open Go Go.RowKit Go.Maps Go.Sort Go.Shelf Go.Proofs
theorem perm_of_sub {α : Type} [BEq α] [LawfulBEq α] {l m : List α} (hn : l.Nodup) (hs : ∀ x ∈ l, x ∈ m) (hl : m.length ≤ l.length) : l.Perm m := by
  induction l generalizing m with
  | nil =>
    have : m = [] := List.eq_nil_of_length_eq_zero (by simpa using hl)
    rw [this]
  | cons x l ih =>
    obtain ⟨h1, h2⟩ := List.nodup_cons.mp hn
    have hx := hs x (by simp)
    refine List.Perm.trans (List.Perm.cons x (ih h2 (fun y hy => ?_) ?_)) (List.perm_cons_erase hx).symm
    · have hyx : y ≠ x := fun e => h1 (e ▸ hy)
      exact (List.mem_erase_of_ne hyx).mpr (hs y (by simp [hy]))
    · rw [List.length_erase_of_mem hx]; simp at hl; omega
theorem keysS_perm {D : DataW Value} {L : List (By × Value)} (h : MpR KS D L) : (L.map Prod.fst).Perm (strKeys D) := by
  obtain ⟨es, rfl, -⟩ := h.tidy
  refine perm_of_sub ?_ (fun k hk => ?_) ?_
  · exact List.pairwise_map.mpr h.dist
  · obtain ⟨e, he, rfl⟩ := List.mem_map.mp hk
    have h1 := h.has e.1
    rw [(hasP_iff L e.1).mpr ⟨e, he, rfl⟩, has_eq, List.any_eq_true] at h1
    obtain ⟨p, hp, hs⟩ := h1
    have hp1 : p.1 = KS.lit e.1 := (WideAt.sameKey_iff (b := KS.lit e.1) trivial).mp hs
    show e.1 ∈ es.map fun p => strOf p.1
    exact List.mem_map.mpr ⟨p, hp, by rw [hp1]; rfl⟩
  · have := h.size
    show (es.map fun p => strOf p.1).length ≤ _
    rw [List.length_map, List.length_map]
    exact Nat.le_of_eq this
theorem keysI_perm {D : DataW Value} {L : List (Int × Value)} (h : MpR KI D L) : (L.map Prod.fst).Perm (intKeys D) := by
  obtain ⟨es, rfl, -⟩ := h.tidy
  refine perm_of_sub ?_ (fun k hk => ?_) ?_
  · exact List.pairwise_map.mpr h.dist
  · obtain ⟨e, he, rfl⟩ := List.mem_map.mp hk
    have h1 := h.has e.1
    rw [(hasP_iff L e.1).mpr ⟨e, he, rfl⟩, has_eq, List.any_eq_true] at h1
    obtain ⟨p, hp, hs⟩ := h1
    have hp1 : p.1 = KI.lit e.1 := (WideAt.sameKey_iff (b := KI.lit e.1) trivial).mp hs
    show e.1 ∈ intKeys (.map es)
    exact List.mem_map.mpr ⟨p, hp, by rw [hp1]; rfl⟩
  · have := h.size
    show (intKeys (.map es)).length ≤ _
    unfold intKeys
    rw [List.length_map, List.length_map]
    exact Nat.le_of_eq this
theorem keysE_any (mb : Option Nat) (W : World) : Calls Tryz.prog 56 #[.map mb] W fun e w' => e = .returned (.func (.func 67) #[] #[.pointer (some ⟨W.heap.size, 0, none⟩)]) ∧ w' = W.alloc (.cells #[.map mb] 50) := callsIn_wide.1 (ctS_keys mb W)
theorem keysR_any (mb : Option Nat) (W : World) : Calls Tryz.prog 62 #[.map mb] W fun e w' => e = .returned (.func (.func 75) #[] #[.pointer (some ⟨W.heap.size, 0, none⟩)]) ∧ w' = W.alloc (.cells #[.map mb] 52) := callsIn_wide.1 (ctI_keys mb W)
/-- a row of whole numbers of the call's own -/
def OZ (l : List Int) (v : Value) (base : Nat) (w : World) : Prop := w.ownsRow base 3 1 v l.length (l.map (Value.int .i64))
theorem sort_rise {L : List By} (h : L.Pairwise (· < ·)) : L.mergeSort (fun x y => decide (x ≤ y)) = L :=
  List.mergeSort_of_pairwise (h.imp (fun {a b} hab => by simpa using List.le_of_lt hab))
theorem sortedE_any (b t : Nat) (L : List (By × Value)) (w : World) (h : MapB w 9 KS b t L) (hr : (L.map Prod.fst).Pairwise (· < ·)) (hl : L.length ≤ 1000000) :
    Calls Tryz.prog 58 #[.func (.func 67) #[] #[.pointer (some ⟨w.heap.size, 0, none⟩)]] (w.alloc (.cells #[.map (some b)] 50)) fun e w' => ∃ A c, e = .returned (.slice A L.length c) ∧ OS (L.map Prod.fst) (.slice A L.length c) w.heap.size w' ∧ Gr w w' := by
  obtain ⟨n, D, -, hown, hrel⟩ := h
  have hsz := hrel.size
  refine callsIn_wide.1 ((ctS_sorted b n D RV w hown (by rw [hsz]; simp only [maxLen]; omega) (by rw [hsz]; omega)).mono ?_)
  rintro e w' ⟨v, ss, rfl, hp, hrow, -, hb⟩
  have hpm := hp.trans (keysS_perm hrel).symm
  have e1 : ss.mergeSort (fun x y => decide (x ≤ y)) = L.map Prod.fst := by
    rw [← sort_rise hr]
    exact mergeSort_of_perm hpm
  have e2 : ss.length = L.length := by rw [hpm.length_eq, List.length_map]
  rw [e1, e2] at hrow
  obtain ⟨A, c, rfl, -, -⟩ := row_form hrow
  refine ⟨A, c, rfl, ?_, ((Below.refl _ w).alloc (Nat.le_refl _) _).trans (hb.mono (by simp))⟩
  unfold OS
  rw [List.length_map]
  exact row_more hrow (by simp)
/-- whole numbers, rising -/
def sortZ (L : List Int) : List Int := L.mergeSort (fun x y => decide (x ≤ y))
theorem sortZ_len (L : List Int) : (sortZ L).length = L.length := List.length_mergeSort ..
theorem sortedR_any (b t : Nat) (L : List (Int × Value)) (w : World) (h : MapB w 3 KI b t L) (hl : L.length ≤ 1000000) :
    Calls Tryz.prog 61 #[.func (.func 75) #[] #[.pointer (some ⟨w.heap.size, 0, none⟩)]] (w.alloc (.cells #[.map (some b)] 52)) fun e w' => ∃ A c, e = .returned (.slice A L.length c) ∧ OZ (sortZ (L.map Prod.fst)) (.slice A L.length c) w.heap.size w' ∧ Gr w w' := by
  obtain ⟨n, D, -, hown, hrel⟩ := h
  have hsz := hrel.size
  refine callsIn_wide.1 ((ctI_sorted b n D RV w hown (by rw [hsz]; simp only [maxLen]; omega) (by rw [hsz]; omega)).mono ?_)
  rintro e w' ⟨v, ss, rfl, hp, hrow, -, hb⟩
  have hpm := hp.trans (keysI_perm hrel).symm
  have e1 : ss.mergeSort (fun x y => decide (x ≤ y)) = sortZ (L.map Prod.fst) := mergeSort_of_perm_i hpm
  have e2 : ss.length = L.length := by rw [hpm.length_eq, List.length_map]
  rw [e1, e2] at hrow
  obtain ⟨A, c, rfl, -, -⟩ := row_form hrow
  refine ⟨A, c, rfl, ?_, ((Below.refl _ w).alloc (Nat.le_refl _) _).trans (hb.mono (by simp))⟩
  unfold OZ
  rw [sortZ_len, List.length_map]
  exact row_more hrow (by simp)
/-- rows of entries -/
def Et.cells (x : Et) : List Value := [.string (bs x.e.key), .int .i64 x.e.gen, .int .i64 x.e.size, .string (bs x.e.sum), x.v]
def flatE (E : List Et) : List Value := E.flatMap Et.cells
theorem flatE_len (E : List Et) : (flatE E).length = E.length * 5 := by
  induction E with
  | nil => rfl
  | cons q l ih => simp [flatE, Et.cells] at *; omega
theorem flatE_app (l m : List Et) : flatE (l ++ m) = flatE l ++ flatE m := by simp [flatE]
theorem flatE_at {l : List Et} {i : Nat} {x : Et} (h : l[i]? = some x) (j : Nat) (hj : j < 5) : (flatE l)[i * 5 + j]? = x.cells[j]? := by
  induction l generalizing i with
  | nil => simp at h
  | cons p l ih =>
    have hp : p.cells.length = 5 := rfl
    show (p.cells ++ flatE l)[_]? = _
    cases i with
    | zero =>
      simp at h; subst h
      rw [List.getElem?_append_left (by omega)]
      congr 1; omega
    | succ i =>
      have h' : l[i]? = some x := by simpa using h
      rw [List.getElem?_append_right (by omega), hp, show (i + 1) * 5 + j - 5 = i * 5 + j from by omega]
      exact ih h'
theorem flatE_one (l : List Et) : ∀ v ∈ flatE l, v.oneCell' = true := fun v hv => by
  unfold flatE at hv
  obtain ⟨x, -, h⟩ := List.mem_flatMap.mp hv
  simp [Et.cells, Et.v] at h
  rcases h with rfl | rfl | rfl | rfl | rfl <;> rfl
/-- a row of entries of the call's own, its places the call's own too -/
def OE (E : List Et) (v : Value) (base : Nat) (w : World) : Prop := w.ownsRow base 43 5 v E.length (flatE E) ∧ ∀ x ∈ E, OP x.e.places x.v base w
theorem OE.nil_ (w : World) (base : Nat) : OE [] (.slice none 0 0) base w := ⟨World.ownsRow_nil w base _ 5, fun x h => by cases h⟩
theorem OE.gr {E : List Et} {v : Value} {base : Nat} {w w' : World} (h : OE E v base w) (hg : Gr w w') : OE E v base w' := ⟨row_below h.1 hg, fun x hx => ⟨row_below (h.2 x hx).1 hg, (h.2 x hx).2⟩⟩
theorem OE.form {E : List Et} {v : Value} {base : Nat} {w : World} (h : OE E v base w) : ∃ A c, v = .slice A E.length c ∧ E.length ≤ c ∧ c ≤ maxLen := row_form h.1
theorem info_entry : (Tryz.prog.info? 43).map (fun i => (i.zero, i.size, i.bytes)) = some (some (.agg #[.string ⟨#[]⟩, .int .i64 0, .int .i64 0, .string ⟨#[]⟩, .slice none 0 0]), 5, 72) := by kernel_rfl
theorem wpl_appE {w : World} {ops : Array Oper} {rest : List Oper} {o : Oper} {a : Act} {Q : Exit → Act → World → Prop} (hgd : o.guard = none) (s x : Operand)
    (ho : o.op = .call { callee := .builtin .append, args := #[s, x], argTypes := #[27, 27] })
    (base : Nat) (v : Value) (E : List Et) (q : Et) (hs : a.eval s = v) (hown : OE E v base w) (A : Option Addr) (c : Nat) (hx : a.eval x = .slice A 1 c) (hr : Reads w w.heap.size 5 A 1 q.cells)
    (hq : OP q.e.places q.v base w) (hlen : E.length ≤ 1000000000000) (hbase : base ≤ w.heap.size)
    (h : ∀ v' w', OE (E ++ [q]) v' base w' → Below base w w' → wpList Tryz.prog ops Q rest (a.put o.dst v') w') : wpList Tryz.prog ops Q (o :: rest) a w := by
  obtain ⟨i0, hi, hz0, hz1, hz2⟩ := info_parts info_entry
  refine wpList_plain hgd fun _ hK => wp_append_any w s x 27 ho base 43 i0 _ 5 72 Tryz.underlying27 hi hz0 hz1 hz2 rfl (by omega) v E.length (flatE E) hs hown.1 w.heap.size A 1 c q.cells hx hr (by have := flatE_one [q]; simpa [flatE] using this)
    (by simp only [maxLen]; omega) (by omega) hbase fun v' w' h2 h3 h4 => hK _ _ (h v' w' ⟨?_, ?_⟩ ((Below.refl base w).grown h3 hbase (fun k hk => (World.ownsRow.lt hown.1 k hk).1)))
  · rw [List.length_append, flatE_app]
    simpa [flatE] using h2
  · have hk : ∀ y : Et, OP y.e.places y.v base w → OP y.e.places y.v base w' := fun y hy => ⟨World.ownsRow.kept hy.1 h3 (by
      cases hu : y.v.ownBlock with
      | none => exact .inl rfl
      | some k => exact .inr (fun e => row_ne2 hy.1 hown.1 (by decide) k e.symm hu)), hy.2⟩
    intro y hy
    rcases List.mem_append.mp hy with hy | hy
    · exact hk y (hown.2 y hy)
    · simp only [List.mem_singleton] at hy
      subst hy
      exact hk _ hq
theorem Reads.entryLit (w : World) (q : Et) : Reads (w.alloc (.cells q.cells.toArray 43)) (w.alloc (.cells q.cells.toArray 43)).heap.size 5 (some ⟨w.heap.size, 0, none⟩) 1 q.cells :=
  ⟨rfl, fun _ => ⟨_, rfl, by simp, fun j u hu => by
    rw [addr0]
    exact cell_new w _ _ (by simpa using hu)⟩⟩
end Go.Proofs.YthboeoidgglcgaaGreat
/- cat: Entries. -/
namespace Go.Proofs.YthboeoidgglcgaaGreat
set_option linter.unusedVariables false
set_option linter.unusedSimpArgs false
open Go Go.RowKit Go.Maps Go.Sort Go.Shelf Go.Proofs
theorem key_le {k : By} (h : keyOk k = true) : k.length ≤ maxLen := by have := (keyOk_iff k).mp h; simp only [maxLen]; omega
section
variable (lo g t : Nat) (x : CtX) (c : CtP) (w : World) (h : Hid (Ca w lo g x c t))
include h
set_option maxRecDepth 10000 in
set_option maxHeartbeats 1000000 in
theorem entries_any (ht : t ≤ 1000) : Calls Tryz.prog 36 #[.pointer (some ⟨g, 0, none⟩)] w fun e w' => ∃ A cc E', e = .returned (.slice A c.E.length cc) ∧ E'.map (·.e) = c.E.map Prod.snd ∧ OE E' (.slice A c.E.length cc) w.heap.size w' ∧ Gr w w' := by
  have g1 := blk_cell (j := 1) h.out.blk rfl
  obtain ⟨n, hn⟩ : ∃ n, c.E.length = n := ⟨_, rfl⟩
  have hlen : n ≤ 1000 := by have h1 := h.out.few.2.1; omega
  have heM : (eM x.E).map Prod.fst = c.E.map Prod.fst := by rw [h.out.ec]; unfold eM; rw [List.map_map, List.map_map]; rfl
  have heL : (eM x.E).length = n := by rw [← hn, h.out.ec]; unfold eM; rw [List.length_map, List.length_map]
  have hK := Lib.hid (fun W => keysE_any (some x.be) W)
  have hS := Lib.hid (sortedE_any x.be t (eM x.E) w h.out.me (by rw [heM]; exact List.pairwise_map.mpr h.out.ok.rE) (by omega))
  rw [heM, heL] at hS
  rw [hn]
  obtain ⟨B0, hB0⟩ : ∃ B0, w.heap.size = B0 := ⟨_, rfl⟩
  have hS2 : Hid (Calls Tryz.prog 58 #[.func (.func 67) #[] #[.pointer (some ⟨w.heap.size, 0, none⟩)]] (w.alloc (.cells #[.map (some x.be)] 50)) fun e w' => ∃ A c2, e = .returned (.slice A n c2) ∧ OS (c.E.map Prod.fst) (.slice A n c2) w.heap.size w' ∧ Gr w w') := hS
  clear hS
  rw [hB0]
  replace hn := Lib.hid hn
  replace heM := Lib.hid heM
  replace heL := Lib.hid heL
  have hB0' := Lib.hid hB0
  clear hB0
  go_enter Tryz.func36, Tryz.ntmps36
  go_wp2_with (first
    | (go_at_call 56; go_must (refine (hK.out _).mono ?_); rintro e w' ⟨rfl, rfl⟩)
    | (go_at_call 58; go_must (refine hS2.out.mono ?_); clear hK hS2; rintro e w4 ⟨A4, c4, rfl, hos4, hg4⟩; replace hos4 := Lib.hid hos4; replace hg4 := Lib.hid hg4))
  obtain ⟨B4, hB4⟩ : ∃ B4, w4.heap.size = B4 := ⟨_, rfl⟩
  have hlow : Hid (∀ y, Gr w4 y → B4 ≤ y.heap.size) := Lib.hid (fun y hy => by rw [← hB4]; exact Below.size hy)
  have hgo : Hid (∀ y z, Gr w4 y → Below B4 y z → Gr w4 z) := Lib.hid (fun y z h1 h2 => by unfold Gr at h1 ⊢; rw [hB4] at h1 ⊢; exact h1.trans h2)
  have hB04 : Hid (B0 ≤ B4) := Lib.hid (by rw [← hB4, ← hB0'.out]; exact Below.size hg4.out)
  replace hB4 := Lib.hid hB4
  go_loopw [3, 17] (fun u z wr => ∃ (k : Nat) (A1 : Option Addr) (c1 : Nat) (E1 : List Et), k ≤ n ∧ u = .slice A1 k c1 ∧ z = .int .i64 k ∧ Hid (E1.map (·.e) = (c.E.take k).map Prod.snd) ∧ Hid (OE E1 (.slice A1 k c1) B4 wr) ∧ Hid (Gr w4 wr)) (fun _ z _ => (n - intOf z).toNat)
  case atStart => exact ⟨0, none, 0, [], Nat.zero_le _, rfl, rfl, Lib.hid rfl, Lib.hid (OE.nil_ _ _), Lib.hid (Gr.refl _)⟩
  case round =>
    obtain ⟨k, A1, c1, E1, hk, rfl, rfl, hE1, ho, hg⟩ := hrel
    by_cases hlt : k < n
    · have ii : (k : Int) < (n : Int) := by omega
      obtain ⟨q, hq⟩ : ∃ q, c.E[k]? = some q := ⟨_, List.getElem?_eq_getElem (by rw [hn.out]; exact hlt)⟩
      have hqm := List.mem_of_getElem? hq
      have hok := h.out.ok.okE q hqm
      have hqE : entOf c q.1 = q.2 := getP_mem h.out.ok.rE.dist hqm _
      obtain ⟨gk, rfl, -, -, hgk, hcell⟩ := OS.at_ (hos4.out.below hg.out) (by rw [List.length_map, hn.out]; omega)
      have x0 := hcell k q.1 (by rw [List.getElem?_map, hq]; rfl)
      clear hcell
      have hwr : Hid (Gr w wr) := Lib.hid (hg4.out.trans hg.out)
      have hen := Lib.hid (entry_any lo g t x c wr (Lib.hid (h.out.gr hwr.out)) q.1 (key_le hok.2.1))
      rw [hqE] at hen
      obtain ⟨qk, qe⟩ := q
      simp only at x0 hen hok
      have htk : Hid (∀ A cc, (E1 ++ [Et.mk qe A cc]).map (·.e) = (c.E.take (k + 1)).map Prod.snd) := Lib.hid (fun A cc => by rw [List.take_add_one, hq, List.map_append, List.map_append, hE1.out]; rfl)
      have hl1 : Hid (E1.length = k) := Lib.hid (by have := congrArg List.length hE1.out; rw [List.length_map, List.length_map, List.length_take, hn.out] at this; omega)
      replace hq := Lib.hid hq
      replace hok := Lib.hid hok
      replace hqm := Lib.hid hqm
      replace hqE := Lib.hid hqE
      obtain ⟨np, hnp⟩ : ∃ m, qe.places.length = m := ⟨_, rfl⟩
      have hen2 : Hid (Calls Tryz.prog 9 #[.pointer (some ⟨g, 0, none⟩), .string (bs qk)] wr fun e w' => ∃ A cc, e = .returned (.tuple #[.agg #[.string (bs qe.key), .int .i64 qe.gen, .int .i64 qe.size, .string (bs qe.sum), .slice A np cc], .bool (hasP c.E qk)]) ∧ OP qe.places (.slice A np cc) wr.heap.size w' ∧ Gr wr w') := Lib.hid (by rw [← hnp]; exact hen.out)
      clear hen
      generalize hasP c.E qk = hb at hen2
      replace hnp := Lib.hid hnp
      go_upto_region 8 with (go_at_call 9; go_must (refine hen2.out.mono ?_); clear hen2; rintro e w5 ⟨A5, c5, rfl, hop5, hg5⟩; replace hop5 := Lib.hid hop5; replace hg5 := Lib.hid hg5; obtain ⟨W, hW⟩ : ∃ W, w5.alloc (.cells #[.string (bs qe.key), .int .i64 qe.gen, .int .i64 qe.size, .string (bs qe.sum), .slice A5 np c5] 43) = W := ⟨_, rfl⟩; obtain ⟨N5, hN5⟩ : ∃ N5, w5.heap.size = N5 := ⟨_, rfl⟩)
      have hgW : Gr w5 W := by rw [← hW]; exact Gr.alloc _ _
      have hbW : W.heap[N5]? = some (.cells #[.string (bs qe.key), .int .i64 qe.gen, .int .i64 qe.size, .string (bs qe.sum), .slice A5 np c5] 43 (0, 0)) := by rw [← hW, ← hN5]; exact heap_alloc_new w5 _
      have y0 := blk_cell (j := 0) hbW rfl
      have y1 := blk_cell (j := 1) hbW rfl
      have y2 := blk_cell (j := 2) hbW rfl
      have y3 := blk_cell (j := 3) hbW rfl
      have y4 := blk_cell (j := 4) hbW rfl
      have hlit : Hid (Reads _ _ 5 _ 1 _) := Lib.hid (Reads.entryLit W ⟨qe, A5, c5⟩)
      have hlit2 : Hid (Reads (W.alloc (.cells #[.string (bs qe.key), .int .i64 qe.gen, .int .i64 qe.size, .string (bs qe.sum), .slice A5 np c5] 43)) (W.alloc (.cells #[.string (bs qe.key), .int .i64 qe.gen, .int .i64 qe.size, .string (bs qe.sum), .slice A5 np c5] 43)).heap.size 5 (some ⟨W.heap.size, 0, none⟩) 1 (Et.mk qe A5 c5).cells) := Lib.hid (by rw [← hnp.out]; exact hlit.out)
      have hwW : Hid (Gr wr (W.alloc (.cells #[.string (bs qe.key), .int .i64 qe.gen, .int .i64 qe.size, .string (bs qe.sum), .slice A5 np c5] 43))) := Lib.hid ((hg5.out.trans hgW).trans (Gr.alloc _ _))
      have hop6 : Hid (OP qe.places (Et.mk qe A5 c5).v B4 (W.alloc (.cells #[.string (bs qe.key), .int .i64 qe.gen, .int .i64 qe.size, .string (bs qe.sum), .slice A5 np c5] 43))) := Lib.hid (by
        unfold Et.v
        simp only
        rw [hnp.out]
        exact ⟨row_more (row_below (row_below hop5.out.1 hgW) (Gr.alloc _ _)) (hlow.out _ hg.out), hop5.out.2⟩)
      have ho6 := Lib.hid (ho.out.gr hwW.out)
      have hg6 : Hid (Gr w4 (W.alloc (.cells #[.string (bs qe.key), .int .i64 qe.gen, .int .i64 qe.size, .string (bs qe.sum), .slice A5 np c5] 43))) := Lib.hid (hg.out.trans hwW.out)
      replace hbW := Lib.hid hbW
      replace hgW := Lib.hid hgW
      replace hW := Lib.hid hW
      replace hN5 := Lib.hid hN5
      clear x0 hlit ho
      go_wp2_with (at_builtin; go_must (refine wpl_appE rfl (.tmp 27) (.tmp 29) rfl B4 (.slice A1 k c1) E1 ⟨qe, A5, c5⟩ rfl ho6.out (some ⟨W.heap.size, 0, none⟩) 1 rfl hlit2.out hop6.out (by have := hl1.out; omega) (hlow.out _ hg6.out) ?_); intro v6 w6 ho7 hb6; obtain ⟨A6, c6, rfl, -, -⟩ := OE.form ho7; have hl6 : (E1 ++ [Et.mk qe A5 c5]).length = k + 1 := (by rw [List.length_append, hl1.out]; rfl); rw [hl6] at ho7 ⊢; replace ho7 := Lib.hid ho7; replace hb6 := Lib.hid hb6; clear hl6)
      go_roundw
      case rel => exact ⟨k + 1, A6, c6, _, by omega, rfl, by go_num, Lib.hid (htk.out A5 c5), ho7, Lib.hid (hgo.out _ _ hg6.out hb6.out)⟩
      case measure => simp [intOf]; omega
    · obtain rfl : k = n := by omega
      go_wp2_with fail
      go_ret
      have e : (c.E.take k) = c.E := List.take_of_length_le (by rw [hn.out]; exact Nat.le_refl _)
      have hE' := hE1.out
      rw [e] at hE'
      exact ⟨A1, c1, E1, rfl, hE', ⟨row_more ho.out.1 hB04.out, fun y hy => ⟨row_more (ho.out.2 y hy).1 hB04.out, (ho.out.2 y hy).2⟩⟩, hg4.out.trans hg.out⟩
end
end Go.Proofs.YthboeoidgglcgaaGreat
/- cat: SortFunc over notes of one kind; what genNotes gathers, plain. -/
namespace Go.Proofs.YthboeoidgglcgaaGreat
set_option linter.unusedVariables false
set_option linter.unusedSimpArgs false
open Go Go.RowKit Go.Maps Go.Sort Go.Shelf Go.Proofs
/-- a note that begins a key -/
def n4 (e : By × Int) : Nt := ⟨4, e.1, e.2, 0, [], [], 0, []⟩
def e4 (e : By × Int) : Ne := neN (n4 e)
abbrev Eg := { e : By × Int // 0 ≤ e.2 ∧ e.2 ≤ 1099511627776 }
instance : Inhabited Eg := ⟨⟨([], 0), by decide, by decide⟩⟩
def encG (e : Eg) : List Value := (e4 e.1).cells
theorem encG_len (x : Eg) : (encG x).length = 8 := rfl
theorem encG_one (x : Eg) : ∀ v ∈ encG x, v.oneCell' = true := fun v hv => flatN_one [e4 x.1] v (by unfold flatN; rw [List.flatMap_cons, List.flatMap_nil, List.append_nil]; exact hv)
def cfG (x y : Eg) : Int := x.1.2 - y.1.2
theorem ltG_iff (x y : Eg) : ltOf cfG x y = true ↔ x.1.2 < y.1.2 := by unfold ltOf cfG; simp only [decide_eq_true_eq]; omega
theorem ltG_no (x y : Eg) : ltOf cfG x y = false ↔ y.1.2 ≤ x.1.2 := by
  rw [← Bool.not_eq_true, ltG_iff]; omega
theorem swoG : SWO (ltOf cfG) where
  irrefl x := (ltG_no x x).mpr (Int.le_refl _)
  trans x y z h1 h2 := (ltG_iff x z).mpr (by have := (ltG_iff x y).mp h1; have := (ltG_iff y z).mp h2; omega)
  ntrans x y z h1 h2 := (ltG_no x z).mpr (by have := (ltG_no x y).mp h1; have := (ltG_no y z).mp h2; omega)
theorem flatG (L : List Eg) : (flatK encG 8 L.toArray).toList = flatN (L.map (fun e => e4 e.1)) := by
  apply List.ext_getElem?
  intro j
  by_cases hj : j < L.length * 8
  · obtain ⟨x, hx⟩ : ∃ x, L[j / 8]? = some x := ⟨_, List.getElem?_eq_getElem (by omega)⟩
    have ex : L.toArray[j / 8]! = x := by
      obtain ⟨hi, e⟩ := List.getElem?_eq_some_iff.mp hx
      rw [getElem!_pos L.toArray (j / 8) (by simpa using hi)]
      simpa using e
    have hs : j < (flatK encG 8 L.toArray).size := by rw [size_flatK]; simpa using hj
    have h1 := get_flatK encG 8 L.toArray j (by simpa using hj)
    rw [ex, getElem!_pos _ j hs, getElem!_pos (encG x) (j % 8) (by rw [encG_len]; omega)] at h1
    have h2 := flatN_at (l := L.map (fun e => e4 e.1)) (i := j / 8) (x := e4 x.1) (by rw [List.getElem?_map, hx]; rfl) (j % 8) (by omega)
    rw [show j / 8 * 8 + j % 8 = j from by omega] at h2
    rw [h2, Array.getElem?_toList, Array.getElem?_eq_getElem hs, h1]
    exact (List.getElem?_eq_getElem (by show j % 8 < 8; omega)).symm
  · rw [List.getElem?_eq_none (by rw [Array.length_toList, size_flatK]; simpa using Nat.le_of_not_lt hj), List.getElem?_eq_none (by rw [flatN_len, List.length_map]; omega)]
def GD (w w' : World) : Prop := ∃ q os, w' = grow (w.drewN q) os
theorem closG_any (x y : Eg) (W : World) : Calls Tryz.prog 72 #[.agg (encG x).toArray, .agg (encG y).toArray] W fun e w' => e = .returned (.int .i64 (cfG x y)) ∧ GD W w' := by
  obtain ⟨⟨xk, xg⟩, hx1, hx2⟩ := x
  obtain ⟨⟨yk, yg⟩, hy1, hy2⟩ := y
  simp only at hx1 hx2 hy1 hy2
  have hsub : IntKind.i64.wrap (xg - yg) = xg - yg := by rw [IntKind.wrap_i64]; omega
  unfold cfG
  simp only [encG, e4, neN, n4, Ne.cells]
  simp only [List.length_nil]
  clear hx1 hx2 hy1 hy2
  obtain ⟨w0, hw0⟩ : ∃ w0, W.alloc (.cells #[.int .i64 4, .string (bs xk), .int .i64 xg, .int .i64 0, .slice none 0 0, .string (bs []), .int .i64 0, .slice none 0 0] 37) = w0 := ⟨_, rfl⟩
  obtain ⟨w1, hw1⟩ : ∃ w1, w0.alloc (.cells #[.int .i64 4, .string (bs yk), .int .i64 yg, .int .i64 0, .slice none 0 0, .string (bs []), .int .i64 0, .slice none 0 0] 37) = w1 := ⟨_, rfl⟩
  have hG : Hid (GD W w1) := Lib.hid ⟨0, #[.cells #[.int .i64 4, .string (bs xk), .int .i64 xg, .int .i64 0, .slice none 0 0, .string (bs []), .int .i64 0, .slice none 0 0] 37 (0, 0), .cells #[.int .i64 4, .string (bs yk), .int .i64 yg, .int .i64 0, .slice none 0 0, .string (bs []), .int .i64 0, .slice none 0 0] 37 (0, 0)], by rw [← hw1, ← hw0, alloc_eq_grow, alloc_eq_grow, grow_grow]; rfl⟩
  have hb0 : w0.heap[W.heap.size]? = some (.cells #[.int .i64 4, .string (bs xk), .int .i64 xg, .int .i64 0, .slice none 0 0, .string (bs []), .int .i64 0, .slice none 0 0] 37 (0, 0)) := by rw [← hw0]; exact heap_alloc_new W _
  have hb1 : w1.heap[w0.heap.size]? = some (.cells #[.int .i64 4, .string (bs yk), .int .i64 yg, .int .i64 0, .slice none 0 0, .string (bs []), .int .i64 0, .slice none 0 0] 37 (0, 0)) := by rw [← hw1]; exact heap_alloc_new w0 _
  have hb01 : w1.heap[W.heap.size]? = some (.cells #[.int .i64 4, .string (bs xk), .int .i64 xg, .int .i64 0, .slice none 0 0, .string (bs []), .int .i64 0, .slice none 0 0] 37 (0, 0)) := by rw [← hw1]; exact blk_alloc hb0 _
  have x2 := blk_cell (j := 2) hb01 rfl
  have y2 := blk_cell (j := 2) hb1 rfl
  have hs0 : w0.heap.size = W.heap.size + 1 := by rw [← hw0]; simp
  rw [hs0] at y2
  replace hb0 := Lib.hid hb0
  replace hb1 := Lib.hid hb1
  replace hb01 := Lib.hid hb01
  go_enter Tryz.func72, Tryz.ntmps72
  go_wp2_with fail
  go_ret
  exact ⟨rfl, hG.out⟩
theorem eg_enter : ∀ args w, (callFunc 72 args).run Tryz.prog w = .ok (.enter 72 args) w := enters_of Tryz.func72 (by kernel_rfl) rfl
theorem holdsG {w : World} {g : Nat} {cur : Array Value} {T : TypeId} {L : List Eg} (hb : w.heap[g]? = some (.cells cur T (0, 0))) (ht : cur.toList.take (L.length * 8) = flatN (L.map (fun e => e4 e.1))) : HoldsK encG 8 w g 0 L.toArray := by
  intro j hj
  have hj' : j < L.length * 8 := by rw [size_flatK] at hj; simpa using hj
  refine ⟨?_, by simp [World.frozen?, hb]⟩
  have h1 : (cur.toList.take (L.length * 8))[j]? = (flatK encG 8 L.toArray).toList[j]? := by rw [ht, flatG]
  rw [List.getElem?_take_of_lt hj', Array.getElem?_toList, Array.getElem?_toList, Array.getElem?_eq_getElem hj] at h1
  have h2 := blk_cell (j := j) hb h1
  rw [getElem!_pos _ j hj, Nat.zero_add]
  exact h2
theorem rowG {w : World} {base g cap n : Nat} {T : TypeId} {os : Array Obj} {cur : Array Value} {L L' : List Eg} (hl : L'.length = L.length) (hbase : base ≤ g) (hb : w.heap[g]? = some (.cells cur T (0, 0))) (h1 : L.length ≤ cap) (h2 : cap ≤ maxLen) (h3 : cur.size = cap * 8) :
    (sortWorldK encG 8 w g 0 n L'.toArray os).ownsRow base T 8 (.slice (some ⟨g, 0, none⟩) L.length cap) L.length (flatN (L'.map (fun e => e4 e.1))) ∧ w.grownBy (sortWorldK encG 8 w g 0 n L'.toArray os) (some g) := by
  have hg : g < w.heap.size := (Array.getElem?_eq_some_iff.1 hb).1
  have hheap : (sortWorldK encG 8 w g 0 n L'.toArray os).heap[g]? = some (.cells (putCells id 0 (flatK encG 8 L'.toArray) cur) T (0, 0)) := by
    unfold sortWorldK putRowK
    rw [heap_grow_old _ _ (by simpa using hg)]
    simp [putRow, mapBlock, Sort.ahead, Array.getElem?_modify, hb, onCells]
  refine ⟨⟨by rw [flatN_len, List.length_map, hl], .inr ⟨g, cap, _, rfl, hbase, hheap, h1, h2, by simp [putCells, h3], ?_⟩⟩, ?_⟩
  · rw [← flatG]
    apply List.ext_getElem?
    intro j
    by_cases hj : j < L.length * 8
    · have hj2 : j < (flatK encG 8 L'.toArray).size := by rw [size_flatK]; simpa [hl] using hj
      have hj3 : j < cur.size := by rw [h3]; have := Nat.mul_le_mul_right 8 h1; omega
      rw [List.getElem?_take_of_lt hj, Array.getElem?_toList, Array.getElem?_toList]
      have hj4 : j < (Array.size L'.toArray) * 8 := by rw [size_flatK] at hj2; exact hj2
      have hj5 : j < L'.length * 8 := by simpa using hj4
      simp [putCells, hj3, hj2, hj4, hj5]
    · rw [List.getElem?_take_eq_none (by omega), List.getElem?_eq_none (by rw [Array.length_toList, size_flatK]; simp [hl]; omega)]
  · refine ⟨rfl, rfl, rfl, size_sortWorldK_c encG 8 w g 0 n _ os, fun k hk hne => ?_⟩
    unfold sortWorldK putRowK
    rw [heap_grow_old _ _ (by simpa using hk)]
    have : g ≠ k := fun e => hne (by rw [e])
    simp [putRow, mapBlock, Sort.ahead, Array.getElem?_modify, this]
end Go.Proofs.YthboeoidgglcgaaGreat
/- cat: SortFunc's contract; the order of the notes that begin, plain. -/
namespace Go.Proofs.YthboeoidgglcgaaGreat
set_option linter.unusedVariables false
set_option linter.unusedSimpArgs false
open Go Go.RowKit Go.Maps Go.Sort Go.Shelf Go.Proofs
def BdG (L : List (By × Int)) : Prop := ∀ e ∈ L, 0 ≤ e.2 ∧ e.2 ≤ 1099511627776
def egs (L : List (By × Int)) (h : BdG L) : List Eg := L.pmap (fun e he => (⟨e, he⟩ : Eg)) (fun e he => h e he)
theorem egs_val (L : List (By × Int)) (h : BdG L) : (egs L h).map (fun e => e.1) = L := by
  unfold egs
  induction L with
  | nil => rfl
  | cons x L ih => rw [List.pmap, List.map_cons, ih (fun e he => h e (List.mem_cons_of_mem _ he))]
theorem egs_e4 (L : List (By × Int)) (h : BdG L) : (egs L h).map (fun e => e4 e.1) = L.map e4 := by
  have := congrArg (List.map e4) (egs_val L h)
  rw [List.map_map] at this
  exact this
theorem egs_len (L : List (By × Int)) (h : BdG L) : (egs L h).length = L.length := by unfold egs; exact List.length_pmap ..
theorem map_e4 (L : List Eg) : L.map (fun e => e4 e.1) = (L.map (fun e => e.1)).map e4 := by rw [List.map_map]; rfl
/-- rows of such notes -/
def O4 (L : List (By × Int)) (v : Value) (base : Nat) (w : World) : Prop := w.ownsRow base 37 8 v L.length (flatN (L.map e4))
theorem O4.on {L : List (By × Int)} {v : Value} {base : Nat} {w : World} (h : O4 L v base w) : ON (L.map e4) v base w where
  row := by unfold O4 at h; rw [List.length_map]; exact h
  vs x hx := by obtain ⟨e, -, rfl⟩ := List.mem_map.mp hx; exact neN_v rfl rfl w
  ap x hx := by obtain ⟨e, -, rfl⟩ := List.mem_map.mp hx; exact neN_apt rfl rfl _
theorem O4.of_on {L : List (By × Int)} {v : Value} {base : Nat} {w : World} (h : ON (L.map e4) v base w) : O4 L v base w := by have := h.row; rw [List.length_map] at this; exact this
theorem sortG_any (L : List (By × Int)) (hb : BdG L) (v : Value) (base : Nat) (w : World) (h : O4 L v base w) (hn : L.length ≤ 1000000) :
    Calls Tryz.prog 71 #[v, .func (.func 72) #[] #[]] w fun e w' => e = .returned (.tuple #[]) ∧ ∃ L', L'.Perm L ∧ L'.Pairwise (fun a b => a.2 ≤ b.2) ∧ O4 L' v base w' ∧ Below base w w' := by
  have h' := h
  unfold O4 at h
  rcases h.2 with ⟨rfl, h0⟩ | ⟨g, cap, cur, rfl, hbg, hh, hcap, hmx, hsz, htk⟩
  · obtain rfl : L = [] := List.eq_nil_of_length_eq_zero h0
    refine (AnyF.slices_SortFunc_none Tryz.ctFree none 0 (.func (.func 72) #[] #[]) w).mono ?_
    rintro e w' ⟨rfl, rfl⟩
    exact ⟨rfl, [], List.Perm.refl _, List.Pairwise.nil, h', Below.refl _ _⟩
  · have hg : g < w.heap.size := blk_lt hh
    have hle := egs_len L hb
    have hH : HoldsK encG 8 w g 0 (egs L hb).toArray := holdsG (L := egs L hb) hh (by rw [hle, egs_e4]; exact htk)
    have hcon := AnyQ.slices_SortFunc Tryz.ctFree 8 Tryz.isAgg37 Tryz.sizeOf37 encG encG_len encG_one cfG swoG 72 #[] g 0 cap (egs L hb).toArray w eg_enter
      (fun _ _ _ _ x y => closG_any x y _) hH hg (by simp [hle]; omega)
    have hz : (egs L hb).toArray.size = L.length := by simp [hle]
    rw [hz] at hcon
    refine hcon.mono ?_
    rintro e w' ⟨rfl, d', n, os, ⟨hs1, -, hp⟩, hso, rfl⟩
    rw [hz] at hs1
    have e1 : d'.extract 0 L.length = d' := by rw [← hs1]; exact Array.extract_size
    have e2 : (egs L hb).toArray.extract 0 L.length = (egs L hb).toArray := by rw [← hz]; exact Array.extract_size
    rw [e1, e2] at hp
    have hp : d'.toList.Perm (egs L hb) := hp
    have hl' : d'.toList.length = (egs L hb).length := hp.length_eq
    obtain ⟨hr, hgr⟩ := rowG (n := n) (os := os) (L := egs L hb) (L' := d'.toList) hl' hbg hh (by rw [hle]; exact hcap) hmx hsz
    rw [hle] at hr
    refine ⟨rfl, d'.toList.map (fun e => e.1), ?_, ?_, ?_, ?_⟩
    · have := hp.map (fun e => e.1)
      rw [egs_val] at this
      exact this
    · rw [List.pairwise_map, List.pairwise_iff_getElem]
      intro i j hi hj hij
      have hi' : i < d'.size := by simpa using hi
      have hj' : j < d'.size := by simpa using hj
      have := hso i j (Nat.zero_le _) hij (by omega)
      rw [getElem!_pos d' j hj', getElem!_pos d' i hi', ltG_no] at this
      simpa using this
    · unfold O4
      rw [List.length_map, ← map_e4, hl', hle]
      exact hr
    · exact (Below.refl base w).grown hgr (by omega) (fun k hk => by injection hk with hk; omega)
/-- the keys that wait and were begun, in the order in which they wait -/
def colB (B : List (By × Int)) (W : List (By × By)) : List (By × Int) := W.filterMap (fun e => if hasP B e.1 = true then some (e.1, getP B e.1 0) else none)
theorem colB_mem {B : List (By × Int)} (hd : DistP B) (W : List (By × By)) (e : By × Int) : e ∈ colB B W ↔ e ∈ B ∧ hasP W e.1 = true := by
  unfold colB
  rw [List.mem_filterMap, hasP_iff]
  constructor
  · rintro ⟨y, hy, he⟩
    split at he
    · rename_i hh
      injection he with he
      subst he
      obtain ⟨v, hv⟩ := hasP_mem hh
      refine ⟨by rw [getP_mem hd hv]; exact hv, y, hy, rfl⟩
    · cases he
  · rintro ⟨hB, y, hy, e1⟩
    refine ⟨y, hy, ?_⟩
    have hh : hasP B y.1 = true := (hasP_iff B y.1).mpr ⟨e, hB, e1.symm⟩
    rw [if_pos hh, e1, getP_mem (v := e.2) hd hB]
theorem colB_nodup (B : List (By × Int)) {W : List (By × By)} (hd : DistP W) : (colB B W).Nodup := by
  unfold colB
  unfold DistP at hd
  refine List.Pairwise.filterMap (R := fun x y => x.1 ≠ y.1) _ (fun a a' hne b hb b' hb' e => ?_) hd
  split at hb
  · split at hb'
    · injection hb with hb; injection hb' with hb'
      rw [← hb, ← hb'] at e
      have e1 := congrArg Prod.fst e
      exact hne e1
    · cases hb'
  · cases hb
/-- .. by generation -/
def begP (c : CtP) : List (By × Int) := c.B.filter (fun e => hasP c.W e.1)
theorem begP_of {c : CtP} (h : c.Ok) {L : List (By × Int)} (hp : L.Perm (colB c.B c.W)) (hs : L.Pairwise (fun a b => a.2 ≤ b.2)) : L = begP c := by
  have hBn : c.B.Nodup := List.Pairwise.imp (fun h e => h (by rw [e])) h.dB
  have hq : (colB c.B c.W).Perm (begP c) := (List.perm_ext_iff_of_nodup (colB_nodup _ h.dW) (hBn.filter _)).mpr (fun e => by
    rw [colB_mem h.dB, List.mem_filter])
  refine List.Perm.eq_of_pairwise (le := fun a b => a.2 ≤ b.2) (fun a b ha hb h1 h2 => ?_) hs ?_ (hp.trans hq)
  · have ha' : a ∈ c.B := ((colB_mem h.dB _ _).mp (hp.mem_iff.mp ha)).1
    have hb' : b ∈ c.B := (List.mem_filter.mp hb).1
    have e2 : a.2 = b.2 := Int.le_antisymm h1 h2
    have hi : c.B.Pairwise (fun x y => x.2 ≠ y.2) := h.rB.imp (fun h => by omega)
    refine Classical.byContradiction fun hne => ?_
    obtain ⟨i, hi1, ei⟩ := List.mem_iff_getElem.mp ha'
    obtain ⟨j, hj1, ej⟩ := List.mem_iff_getElem.mp hb'
    have hij : i ≠ j := fun e => by subst e; exact hne (ei.symm.trans ej)
    rcases Nat.lt_or_gt_of_ne hij with hlt | hlt
    · have := List.pairwise_iff_getElem.mp hi i j hi1 hj1 hlt
      rw [ei, ej] at this
      exact this e2
    · have := List.pairwise_iff_getElem.mp hi j i hj1 hi1 hlt
      rw [ei, ej] at this
      exact this e2.symm
  · exact (List.Pairwise.filter _ h.rB).imp (fun h => Int.le_of_lt h)
def lastG (L : List (By × Int)) : Int := match L.getLast? with | some e => e.2 | none => 0
/-- the notes that begin -/
def genP (c : CtP) : List (By × Int) := begP c ++ (if lastG (begP c) < c.G then [([], c.G)] else [])
end Go.Proofs.YthboeoidgglcgaaGreat
/- cat: the notes that begin. -/
namespace Go.Proofs.YthboeoidgglcgaaGreat
set_option linter.unusedVariables false
set_option linter.unusedSimpArgs false
open Go Go.RowKit Go.Maps Go.Sort Go.Shelf Go.Proofs
theorem bM_get (B : List (By × Int)) (k : By) : getP (bM B) k (.int .i64 0) = .int .i64 (getP B k 0) := by
  unfold getP bM
  rw [List.find?_map]
  rw [show (fun e : By × Value => e.1 == k) ∘ (fun e : By × Int => (e.1, Value.int .i64 e.2)) = (fun e => e.1 == k) from rfl]
  cases B.find? (fun e => e.1 == k) <;> rfl
theorem colB_take {B : List (By × Int)} {W : List (By × By)} {k : Nat} {e : By × By} (h : W[k]? = some e) : colB B (W.take (k + 1)) = colB B (W.take k) ++ (if hasP B e.1 = true then [(e.1, getP B e.1 0)] else []) := by
  unfold colB
  rw [List.take_add_one, h, List.filterMap_append]
  congr 1
  show List.filterMap _ [e] = _
  rw [List.filterMap_cons, List.filterMap_nil]
  split <;> (rename_i h1; split at h1) <;> first | (cases h1; simp_all) | simp_all
theorem colB_len (B : List (By × Int)) (W : List (By × By)) : (colB B W).length ≤ W.length := by unfold colB; exact List.length_filterMap_le _ _
theorem begP_len (c : CtP) : (begP c).length ≤ c.B.length := List.length_filter_le _ _
section
variable (lo g t : Nat) (x : CtX) (c : CtP) (w : World) (h : Hid (Ca w lo g x c t))
include h
set_option maxRecDepth 10000 in
set_option maxHeartbeats 2000000 in
theorem genNotes_any (ht : t ≤ 1000) : Calls Tryz.prog 60 #[.pointer (some ⟨g, 0, none⟩)] w fun e w' => ∃ A cc, e = .returned (.slice A (genP c).length cc) ∧ O4 (genP c) (.slice A (genP c).length cc) w.heap.size w' ∧ Gr w w' := by
  obtain ⟨A, cp, hv⟩ : ∃ A cp, x.vs = .slice A x.W.length cp := by obtain ⟨A, cp, _, _, e, -⟩ := h.out.form; exact ⟨A, cp, e⟩
  have hbk := h.out.blk
  rw [hv] at hbk
  have c0 := blk_cell (j := 0) hbk rfl
  obtain ⟨n, hn⟩ : ∃ n, x.W.length = n := ⟨_, rfl⟩
  have hlen : n ≤ 1000 := by have h1 := h.out.few.1; rw [h.out.wc, List.length_map] at h1; omega
  have hnW : Hid (c.W.length = n) := Lib.hid (by rw [h.out.wc, List.length_map]; exact hn)
  rw [hn] at c0
  have hlB : Hid (c.B.length ≤ 1000) := Lib.hid (by have h1 := h.out.few.2.2.1; omega)
  have hbd : Hid (∀ k, BdG (colB c.B (c.W.take k))) := Lib.hid (fun k e he => by
    have := h.out.ok.okB e ((colB_mem h.out.ok.dB _ e).mp he).1
    have := h.out.ok.g1
    omega)
  obtain ⟨B0, hB0⟩ : ∃ B0, w.heap.size = B0 := ⟨_, rfl⟩
  have hlow : Hid (∀ y, Gr w y → B0 ≤ y.heap.size) := Lib.hid (fun y hy => by rw [← hB0]; exact Below.size hy)
  have hgo : Hid (∀ y z, Gr w y → Below B0 y z → Gr w z) := Lib.hid (fun y z h1 h2 => by unfold Gr at h1 ⊢; rw [hB0] at h1 ⊢; exact h1.trans h2)
  rw [hB0]
  replace hB0 := Lib.hid hB0
  replace hbk := Lib.hid hbk
  replace hn := Lib.hid hn
  replace hv := Lib.hid hv
  go_enter Tryz.func60, Tryz.ntmps60
  go_wp2_with fail
  go_loopw [3, 14] (fun u z wr => ∃ (k m : Nat) (A1 : Option Addr) (c1 : Nat), k ≤ n ∧ u = .slice A1 m c1 ∧ z = .int .i64 k ∧ Hid ((colB c.B (c.W.take k)).length = m) ∧ Hid (O4 (colB c.B (c.W.take k)) (.slice A1 m c1) B0 wr) ∧ Hid (Gr w wr)) (fun _ z _ => (n - intOf z).toNat)
  case atStart => exact ⟨0, 0, none, 0, Nat.zero_le _, rfl, rfl, Lib.hid rfl, Lib.hid (World.ownsRow_nil w B0 _ 8), Lib.hid (Gr.refl _)⟩
  case round =>
    obtain ⟨k, m, A1, c1, hk, rfl, rfl, hm, ho, hg⟩ := hrel
    by_cases hlt : k < n
    · have ii : (k : Int) < (n : Int) := by omega
      obtain ⟨q, hq⟩ : ∃ q, x.W[k]? = some q := ⟨_, List.getElem?_eq_getElem (by rw [hn.out]; exact hlt)⟩
      obtain ⟨b, cp', hv', hb, x0, x1, -⟩ := (h.out.gr hg.out).stag hq
      rw [hv.out, hn.out] at hv'
      injection hv' with e1 _ e3
      subst e1 e3
      obtain ⟨qk, qd, qA, qc⟩ := q
      simp only at x0 x1
      have hcq : c.W[k]? = some (qk, qd) := by rw [h.out.wc, List.getElem?_map, hq]; rfl
      have htk := Lib.hid (colB_take (B := c.B) hcq)
      have hkey : Hid (qk.length ≤ maxLen) := Lib.hid (key_le (h.out.ok.okW _ (List.mem_of_getElem? hcq)).1)
      obtain ⟨nd, hnd⟩ : ∃ m, qd.length = m := ⟨_, rfl⟩
      rw [hnd] at x1
      obtain ⟨W, hW⟩ : ∃ W, wr.alloc (.cells #[.string (bs qk), .slice qA nd qc] 76) = W := ⟨_, rfl⟩
      obtain ⟨N, hN⟩ : ∃ N, wr.heap.size = N := ⟨_, rfl⟩
      have hgW : Gr wr W := by rw [← hW]; exact Gr.alloc _ _
      have hbW : W.heap[N]? = some (.cells #[.string (bs qk), .slice qA nd qc] 76 (0, 0)) := by rw [← hW, ← hN]; exact heap_alloc_new wr _
      replace hgW := Lib.hid hgW
      replace hbW := Lib.hid hbW
      replace hnd := Lib.hid hnd
      replace hcq := Lib.hid hcq
      replace hq := Lib.hid hq
      go_upto_region 5 with (fail)
      (try rw [hW])
      replace hW := Lib.hid hW
      replace hN := Lib.hid hN
      clear x0 x1
      obtain ⟨wd, hwd⟩ : ∃ wd, wd = W.drew := ⟨_, rfl⟩
      have hgd : Gr W wd := by rw [hwd]; exact (Below.refl _ _).drew
      have hbd2 : Hid (wd.heap[N]? = some (.cells #[.string (bs qk), .slice qA nd qc] 76 (0, 0))) := Lib.hid (blk_below hbW.out hgd)
      have hgw : Hid (Gr w wd) := Lib.hid ((hg.out.trans hgW.out).trans hgd)
      have hcd := Lib.hid (h.out.gr hgw.out)
      have hod := Lib.hid (row_below (row_below ho.out hgW.out) hgd)
      obtain ⟨hp, hhp⟩ : ∃ hp, hasP c.B qk = hp := ⟨_, rfl⟩
      have hlk := hcd.out.mb.look lawS Tryz.underlying51 zeroI (keyS hkey.out)
      rw [bM_has, hhp, bM_get] at hlk
      simp only at htk
      rw [hhp] at htk
      generalize getP c.B qk 0 = gv at hlk htk
      replace hhp := Lib.hid hhp
      clear hgd ho
      refine wpR_region (Eq) 9999 (by kernel_rfl) ?_
      (rw [← hwd]; replace hwd := Lib.hid hwd)
      refine wT (i := 0) (v := ?_) (⟨fun _ => rfl, Eq.trans⟩) (some 19) rfl (fun w' hw' => ?_) ?_
      rotate_left
      · go_simp; with_reducible rfl
      simp only [Act.put, List.setIfInBounds_toArray, List.set_cons_zero, List.set_cons_succ]
      refine wT (i := 1) (v := ?_) (⟨fun _ => rfl, Eq.trans⟩) (some 20) rfl (fun w' hw' => ?_) ?_
      rotate_left
      · go_simp; with_reducible rfl
      simp only [Act.put, List.setIfInBounds_toArray, List.set_cons_zero, List.set_cons_succ]
      refine wT (i := 2) (v := ?_) (⟨fun _ => rfl, Eq.trans⟩) (some 21) rfl (fun w' hw' => ?_) ?_
      rotate_left
      · go_simp; with_reducible rfl
      simp only [Act.put, List.setIfInBounds_toArray, List.set_cons_zero, List.set_cons_succ]
      refine wT (i := 3) (v := ?_) (⟨fun _ => rfl, Eq.trans⟩) (some 22) rfl (fun w' hw' => ?_) ?_
      rotate_left
      · have q := blk_cell (j := 2) hcd.out.blk rfl; subst hw'; go_simp; with_reducible rfl
      simp only [Act.put, List.setIfInBounds_toArray, List.set_cons_zero, List.set_cons_succ]
      refine wT (i := 4) (v := ?_) (⟨fun _ => rfl, Eq.trans⟩) (some 23) rfl (fun w' hw' => ?_) ?_
      rotate_left
      · go_simp; with_reducible rfl
      simp only [Act.put, List.setIfInBounds_toArray, List.set_cons_zero, List.set_cons_succ]
      refine wT (i := 5) (v := ?_) (⟨fun _ => rfl, Eq.trans⟩) (some 24) rfl (fun w' hw' => ?_) ?_
      rotate_left
      · have q := blk_cell (j := 0) hbd2.out rfl; subst hw'; go_simp; with_reducible rfl
      simp only [Act.put, List.setIfInBounds_toArray, List.set_cons_zero, List.set_cons_succ]
      refine wT (i := 6) (v := ?_) (⟨fun _ => rfl, Eq.trans⟩) (some 25) rfl (fun w' hw' => ?_) ?_
      rotate_left
      · subst hw'; go_simp; with_reducible rfl
      simp only [Act.put, List.setIfInBounds_toArray, List.set_cons_zero, List.set_cons_succ]
      refine wT (i := 7) (v := ?_) (⟨fun _ => rfl, Eq.trans⟩) (some 18) rfl (fun w' hw' => ?_) ?_
      rotate_left
      · go_simp; with_reducible rfl
      simp only [Act.put, List.setIfInBounds_toArray, List.set_cons_zero, List.set_cons_succ]
      refine wT (i := 8) (v := ?_) (⟨fun _ => rfl, Eq.trans⟩) (some 26) rfl (fun w' hw' => ?_) ?_
      rotate_left
      · go_simp; with_reducible rfl
      simp only [Act.put, List.setIfInBounds_toArray, List.set_cons_zero, List.set_cons_succ]
      refine wT (i := 9) (v := ?_) (⟨fun _ => rfl, Eq.trans⟩) (some 27) rfl (fun w' hw' => ?_) ?_
      rotate_left
      · go_simp; with_reducible rfl
      simp only [Act.put, List.setIfInBounds_toArray, List.set_cons_zero, List.set_cons_succ]
      refine wT (i := 10) (v := ?_) (⟨fun _ => rfl, Eq.trans⟩) (some 6) rfl (fun w' hw' => ?_) ?_
      rotate_left
      · go_simp; with_reducible rfl
      simp only [Act.put, List.setIfInBounds_toArray, List.set_cons_zero, List.set_cons_succ]
      refine wT (i := 11) (v := ?_) (⟨fun _ => rfl, Eq.trans⟩) (some 7) rfl (fun w' hw' => ?_) ?_
      rotate_left
      · go_simp; with_reducible rfl
      simp only [Act.put, List.setIfInBounds_toArray, List.set_cons_zero, List.set_cons_succ]
      refine wpR_done (by kernel_rfl) ?_ _
      clear hlk
      have y0 := blk_cell (j := 0) hbd2.out rfl
      cases hp with
      | false =>
        rw [if_neg (by decide), List.append_nil] at htk
        go_wp2_with fail
        go_roundw
        case rel => exact ⟨k + 1, m, A1, c1, by omega, rfl, by go_num, Lib.hid (by rw [htk.out]; exact hm.out), Lib.hid (by rw [htk.out]; exact hod.out), hgw⟩
        case measure => simp [intOf]; omega
      | true =>
        rw [if_pos rfl] at htk
        have hlit : Hid (Reads _ _ 8 _ 1 _) := Lib.hid (Reads.noteLit wd (e4 (qk, gv)))
        have hg2 : Hid (Gr w (wd.alloc (.cells (e4 (qk, gv)).cells.toArray 37))) := Lib.hid (hgw.out.trans (Gr.alloc _ _))
        have ho2 := Lib.hid (O4.on (L := colB c.B (c.W.take k)) (row_below hod.out (Gr.alloc wd (.cells (e4 (qk, gv)).cells.toArray 37))))
        have hml : Hid (((colB c.B (c.W.take k)).map e4).length ≤ 1000) := Lib.hid (by rw [List.length_map]; have h1 := colB_len c.B (c.W.take k); rw [List.length_take] at h1; omega)
        go_wp2_with (at_builtin; go_must (refine wpl_appN rfl (.tmp 29) (.tmp 34) rfl B0 (.slice A1 m c1) _ (e4 (qk, gv)) rfl ho2.out (some ⟨wd.heap.size, 0, none⟩) 1 rfl hlit.out (neN_v rfl rfl _) (neN_apt rfl rfl _) (by have := hml.out; omega) (hlow.out _ hg2.out) ?_); intro v6 w6 ho6 hg6 hb6; replace hb6 := Lib.hid (hgo.out _ _ hg2.out hb6); rw [show (colB c.B (c.W.take k)).map e4 ++ [e4 (qk, gv)] = (colB c.B (c.W.take k) ++ [(qk, gv)]).map e4 from by rw [List.map_append]; rfl] at ho6; have ho7 := O4.of_on ho6; clear ho6; rw [← htk.out] at ho7; obtain ⟨A6, c6, rfl, -, -⟩ := row_form ho7; have hl6 : (colB c.B (c.W.take (k + 1))).length = m + 1 := (by rw [htk.out, List.length_append, hm.out]; rfl); rw [hl6] at ho7 ⊢; replace hl6 := Lib.hid hl6; replace ho7 := Lib.hid ho7; clear hg6)
        go_roundw
        case rel => exact ⟨k + 1, m + 1, A6, c6, by omega, rfl, by go_num, hl6, ho7, hb6⟩
        case measure => simp [intOf]; omega
    · obtain rfl : k = n := by omega
      have e : (c.W.take k) = c.W := List.take_of_length_le (by rw [hnW.out]; exact Nat.le_refl _)
      rw [e] at ho hm
      have hbdk : BdG (colB c.B c.W) := by have := hbd.out k; rw [e] at this; exact this
      have hsz : (colB c.B c.W).length ≤ 1000 := by have := colB_len c.B c.W; rw [hnW.out] at this; omega
      have hcall := Lib.hid (sortG_any (colB c.B c.W) hbdk (.slice A1 m c1) B0 wr ho.out (by omega))
      replace hbdk := Lib.hid hbdk
      replace hsz := Lib.hid hsz
      replace e := Lib.hid e
      clear ho
      go_upto_region 11 with (go_at_call 71; go_must (refine hcall.out.mono ?_); clear hcall; rintro e w5 ⟨rfl, L', hp5, hs5, ho5, hb5⟩)
      have hm5 : L'.length = m := by rw [hp5.length_eq]; exact hm.out
      obtain rfl : L' = begP c := begP_of h.out.ok hp5 hs5
      have hg5 := Lib.hid (hgo.out _ _ hg.out hb5)
      have hc5 := Lib.hid (h.out.gr hg5.out)
      have hm4 : m ≤ 1000 := by rw [← hm5]; exact Nat.le_trans (begP_len c) hlB.out
      replace hm4 := Lib.hid hm4
      replace hm5 := Lib.hid hm5
      replace ho5 := Lib.hid ho5
      clear hp5 hs5 hb5
      have g5 := blk_cell (j := 5) hc5.out.blk rfl
      obtain ⟨lg, hlg⟩ : ∃ lg, lastG (begP c) = lg := ⟨_, rfl⟩
      have hgen : Hid (genP c = begP c ++ (if lg < c.G then [([], c.G)] else [])) := Lib.hid (by unfold genP; rw [hlg])
      generalize c.G = cG at g5 hgen
      have hfin : Hid (∀ wz, Gr w wz → O4 (begP c) (.slice A1 m c1) B0 wz → ¬ lg < cG → ∃ A cc, (Ending.returned (.slice A1 m c1)) = .returned (.slice A (genP c).length cc) ∧ O4 (genP c) (.slice A (genP c).length cc) B0 wz ∧ Gr w wz) := Lib.hid (fun wz h1 h2 h3 => by
        rw [hgen.out, if_neg h3, List.append_nil, hm5.out]
        exact ⟨A1, c1, rfl, h2, h1⟩)
      have hlit : Hid (Reads _ _ 8 _ 1 _) := Lib.hid (Reads.noteLit w5 (e4 ([], cG)))
      have hg6 : Hid (Gr w (w5.alloc (.cells (e4 ([], cG)).cells.toArray 37))) := Lib.hid (hg5.out.trans (Gr.alloc _ _))
      have ho6 := Lib.hid (O4.on (L := begP c) (row_below ho5.out (Gr.alloc w5 (.cells (e4 ([], cG)).cells.toArray 37))))
      have hml : Hid (((begP c).map e4).length ≤ 1000) := Lib.hid (by rw [List.length_map, hm5.out]; exact hm4.out)
      have hfin2 : Hid (∀ v7 wz, Gr w wz → ON ((begP c).map e4 ++ [e4 ([], cG)]) v7 B0 wz → lg < cG → ∃ A cc, (Ending.returned v7) = .returned (.slice A (genP c).length cc) ∧ O4 (genP c) (.slice A (genP c).length cc) B0 wz ∧ Gr w wz) := Lib.hid (fun v7 wz h1 h2 h3 => by
        rw [show (begP c).map e4 ++ [e4 ([], cG)] = (begP c ++ [([], cG)]).map e4 from by rw [List.map_append]; rfl] at h2
        have h4 := O4.of_on h2
        rw [hgen.out, if_pos h3]
        obtain ⟨A6, c6, rfl, -, -⟩ := row_form h4
        exact ⟨A6, c6, rfl, h4, h1⟩)
      rcases Nat.eq_zero_or_pos m with hm0 | hm0
      · subst hm0
        have hbe : begP c = [] := List.eq_nil_of_length_eq_zero hm5.out
        have hl0 : lg = 0 := by rw [← hlg, hbe]; rfl
        subst hl0
        replace hbe := Lib.hid hbe
        replace hlg := Lib.hid hlg
        by_cases hgt : (0 : Int) < cG
        · go_wp2_with (at_builtin; go_must (refine wpl_appN rfl (.tmp 55) (.tmp 61) rfl B0 (.slice A1 0 c1) _ (e4 ([], cG)) rfl ho6.out (some ⟨w5.heap.size, 0, none⟩) 1 rfl hlit.out (neN_v rfl rfl _) (neN_apt rfl rfl _) (by have := hml.out; omega) (hlow.out _ hg6.out) ?_); intro v7 w7 ho7 hg7 hb7; replace hb7 := Lib.hid (hgo.out _ _ hg6.out hb7))
          go_ret
          exact hfin2.out _ _ hb7.out ho7 hgt
        · go_wp2_with fail
          go_ret
          exact hfin.out _ hg5.out ho5.out hgt
      · obtain ⟨p, hp⟩ : ∃ p, m = p + 1 := ⟨m - 1, by omega⟩
        obtain ⟨q, hq⟩ : ∃ q, (begP c)[p]? = some q := ⟨_, List.getElem?_eq_getElem (by rw [hm5.out]; omega)⟩
        have hl0 : lg = q.2 := by
          rw [← hlg]
          unfold lastG
          rw [List.getLast?_eq_getElem?, hm5.out, show m - 1 = p from by omega, hq]
        subst hl0
        have hrow := ho5.out
        unfold O4 at hrow
        rw [hm5.out] at hrow
        obtain ⟨b, cp', hv', -, -, -, hb, -, -, hcell, -⟩ := row_at hrow hm0
        injection hv' with e1 _ e3
        subst e1 e3
        have z2 := hcell _ _ ((flatN_at (l := (begP c).map e4) (i := p) (x := e4 q) (by rw [List.getElem?_map, hq]; rfl) 2 (by decide)).trans rfl)
        obtain ⟨qk, qg⟩ := q
        replace z2 : w5.cell? ⟨b, p * 8 + 2, none⟩ = some (.int .i64 qg) := z2
        simp only at hfin hfin2 hgen hlg
        have s1 : IntKind.i64.wrap ((m : Int) - 1) = (p : Int) := by rw [IntKind.wrap_i64]; have := hm4.out; omega
        have i1 : (p : Int) < (m : Int) := by omega
        have i2 : (0 : Int) < (m : Int) := by omega
        have i3 : ¬ (p : Int) < 0 := by omega
        replace hp := Lib.hid hp
        replace hq := Lib.hid hq
        replace hlg := Lib.hid hlg
        replace hrow := Lib.hid hrow
        clear hcell
        by_cases hgt : qg < cG
        · go_wp2_with (at_builtin; go_must (refine wpl_appN rfl (.tmp 55) (.tmp 61) rfl B0 (.slice (some ⟨b, 0, none⟩) m c1) _ (e4 ([], cG)) rfl ho6.out (some ⟨w5.heap.size, 0, none⟩) 1 rfl hlit.out (neN_v rfl rfl _) (neN_apt rfl rfl _) (by have := hml.out; omega) (hlow.out _ hg6.out) ?_); intro v7 w7 ho7 hg7 hb7; replace hb7 := Lib.hid (hgo.out _ _ hg6.out hb7))
          go_ret
          exact hfin2.out _ _ hb7.out ho7 hgt
        · go_wp2_with fail
          go_ret
          exact hfin.out _ hg5.out ho5.out hgt
end
end Go.Proofs.YthboeoidgglcgaaGreat
/- cat: appending notes whose bytes and places are the call's own. -/
namespace Go.Proofs.YthboeoidgglcgaaGreat
set_option linter.unusedVariables false
set_option linter.unusedSimpArgs false
open Go Go.RowKit Go.Maps Go.Sort Go.Shelf Go.Proofs
theorem row_on {w w' : World} {m T s n b : Nat} {u v : Value} {xs : List Value} {E : List Ne} (hr : w.ownsRow m T s u n xs) (hT : T ≠ 37) (ho : ON E v b w) (hg : w.grownBy w' v.ownBlock) : w'.ownsRow m T s u n xs :=
  World.ownsRow.kept hr hg (by
    cases hu : u.ownBlock with
    | none => exact .inl rfl
    | some k => exact .inr (fun e => row_ne2 hr ho.row hT.symm k e.symm hu))
theorem OE.own {w w' : World} {base b : Nat} {v v2 : Value} {E : List Et} {E2 : List Ne} (h : OE E v base w) (ho : ON E2 v2 b w) (hg : w.grownBy w' v2.ownBlock) : OE E v base w' :=
  ⟨row_on h.1 (by decide) ho hg, fun x hx => ⟨row_on (h.2 x hx).1 (by decide) ho hg, (h.2 x hx).2⟩⟩
/-- a row of notes of the call's own, their bytes and places its own too -/
def OND (E : List Ne) (v : Value) (base : Nat) (w : World) : Prop := ON E v base w ∧ ND E base w
theorem OND.nil_ (w : World) (base : Nat) : OND [] (.slice none 0 0) base w := ⟨ON.nil_ w base, fun x hx => by cases hx⟩
theorem OND.gr {E : List Ne} {v : Value} {base : Nat} {w w' : World} (h : OND E v base w) (hg : Gr w w') : OND E v base w' := ⟨(ON.gr hg (Lib.hid h.1)).out, h.2.gr hg⟩
theorem OND.form {E : List Ne} {v : Value} {base : Nat} {w : World} (h : OND E v base w) : ∃ A c, v = .slice A E.length c ∧ E.length ≤ c ∧ c ≤ maxLen := h.1.form
theorem ND.lower {E : List Ne} {b b' : Nat} {w : World} (h : ND E b w) (hb : b' ≤ b) : ND E b' w := fun x hx => ⟨row_more (h x hx).1 hb, row_more (h x hx).2.1 hb, (h x hx).2.2⟩
theorem ON.lower {E : List Ne} {v : Value} {b b' : Nat} {w : World} (h : ON E v b w) (hb : b' ≤ b) : ON E v b' w := ⟨row_more h.row hb, h.vs, h.ap⟩
theorem ND.apt {E E2 : List Ne} {b b2 : Nat} {v : Value} {w : World} (h : ND E2 b2 w) (ho : ON E v b w) : ∀ q ∈ E2, Apt q v.ownBlock := fun q hq => by
  obtain ⟨h1, h2, -⟩ := h q hq
  refine ⟨fun hn ad ea e => ?_, fun hn ad ea e => ?_⟩
  · obtain ⟨g, c, e1, -⟩ := row_at h1 hn
    injection e1 with e1 _ _
    rw [ea] at e1
    injection e1 with e1
    subst e1
    refine row_ne2 h1 ho.row (by decide) g e ?_
    rw [ea]; rfl
  · obtain ⟨g, c, e1, -⟩ := row_at h2 hn
    injection e1 with e1 _ _
    rw [ea] at e1
    injection e1 with e1
    subst e1
    refine row_ne2 h2 ho.row (by decide) g e ?_
    rw [ea]; rfl
theorem wp_aNN {w : World} {o : Oper} {a : Act} {Q : Exit → Act → World → Prop} {K : Act → World → Prop} (s x : Operand)
    (ho : o.op = .call { callee := .builtin .append, args := #[s, x], argTypes := #[22, 22] })
    (base : Nat) (v : Value) (E E2 : List Ne) (hs : a.eval s = v) (hown : OND E v base w) (B : Nat) (A : Option Addr) (n c : Nat) (hn : E2.length = n) (hx : a.eval x = .slice A n c) (hr : Reads w B 8 A n (flatN E2))
    (hq : ND E2 base w) (hlen : E.length + n ≤ 1000000000) (hbase : base ≤ w.heap.size)
    (h : ∀ v' w', OND (E ++ E2) v' base w' → w.grownBy w' v.ownBlock → Below base w w' → K (a.put o.dst v') w') : Oper.wp Tryz.prog o a w K Q := by
  obtain ⟨i0, hi, hz0, hz1, hz2⟩ := info_parts info_note
  have hap := hq.apt hown.1
  have hnv := hq.ntv
  refine wp_append_any w s x 22 ho base 37 i0 _ 8 112 Tryz.underlying22 hi hz0 hz1 hz2 rfl (by omega) v E.length (flatN E) hs hown.1.row B A n c (flatN E2) hx hr (flatN_one E2)
    (by simp only [maxLen]; omega) (by omega) hbase fun v' w' h2 h3 h4 => h v' w' ⟨⟨?_, ?_, ?_⟩, ?_⟩ h3 ((Below.refl base w).grown h3 hbase (fun k hk => (World.ownsRow.lt hown.1.row k hk).1))
  · rw [List.length_append, flatN_app, hn]
    exact h2
  · intro y hy
    rcases List.mem_append.mp hy with hy | hy
    · exact (hown.1.vs y hy).own (hown.1.ap y hy) h3
    · exact (hnv y hy).own (hap y hy) h3
  · intro y hy
    have hyv : NeV y w ∧ Apt y v.ownBlock := by
      rcases List.mem_append.mp hy with hy | hy
      · exact ⟨hown.1.vs y hy, hown.1.ap y hy⟩
      · exact ⟨hnv y hy, hap y hy⟩
    rcases h4 with h4 | h4
    · rw [h4]; exact hyv.2
    · rw [h4]; exact hyv.1.fresh (Nat.le_refl _)
  · intro y hy
    rcases List.mem_append.mp hy with hy | hy
    · exact (hown.2.own hown.1 h3) y hy
    · exact (hq.own hown.1 h3) y hy
theorem wpl_aNN {w : World} {ops : Array Oper} {rest : List Oper} {o : Oper} {a : Act} {Q : Exit → Act → World → Prop} (hgd : o.guard = none) (s x : Operand)
    (ho : o.op = .call { callee := .builtin .append, args := #[s, x], argTypes := #[22, 22] })
    (base : Nat) (v : Value) (E E2 : List Ne) (hs : a.eval s = v) (hown : OND E v base w) (B : Nat) (A : Option Addr) (n c : Nat) (hn : E2.length = n) (hx : a.eval x = .slice A n c) (hr : Reads w B 8 A n (flatN E2))
    (hq : ND E2 base w) (hlen : E.length + n ≤ 1000000000) (hbase : base ≤ w.heap.size)
    (h : ∀ v' w', OND (E ++ E2) v' base w' → w.grownBy w' v.ownBlock → Below base w w' → wpList Tryz.prog ops Q rest (a.put o.dst v') w') : wpList Tryz.prog ops Q (o :: rest) a w :=
  wpList_plain hgd fun _ hK => wp_aNN s x ho base v E E2 hs hown B A n c hn hx hr hq hlen hbase fun v' w' h1 h2 h3 => hK _ _ (h v' w' h1 h2 h3)
theorem Reads.note1 (w : World) (q : Ne) (cs : Array Value) (hcs : cs = q.cells.toArray) : Reads (w.alloc (.cells cs 37)) (w.alloc (.cells cs 37)).heap.size 8 (some ⟨w.heap.size, 0, none⟩) 1 (flatN [q]) := by
  subst hcs
  have := Reads.noteLit w q
  have e : flatN [q] = q.cells := by unfold flatN; rw [List.flatMap_cons, List.flatMap_nil, List.append_nil]
  rw [e]
  exact this
theorem O4.ond {L : List (By × Int)} {v : Value} {base : Nat} {w : World} (h : O4 L v base w) : OND (L.map e4) v base w := ⟨h.on, fun x hx => by
  obtain ⟨e, -, rfl⟩ := List.mem_map.mp hx
  exact ⟨OB.nil_ _ _, OP.nil_ _ _⟩⟩
def n1 (e : By × By) : Nt := ⟨1, e.1, 0, 0, e.2, [], 0, []⟩
def n2 (e : EnP) : Nt := ⟨2, e.key, e.gen, 0, [], e.sum, e.size, e.places⟩
def n5 (z : Int) : Nt := ⟨5, [], 0, z, [], [], 0, []⟩
/-- a catalog's notes -/
def notesP (c : CtP) : List Nt := c.W.map n1 ++ (genP c).map n4 ++ (c.E.map Prod.snd).map n2 ++ tombsN c.T ++ (sortZ c.R).map n5
end Go.Proofs.YthboeoidgglcgaaGreat
