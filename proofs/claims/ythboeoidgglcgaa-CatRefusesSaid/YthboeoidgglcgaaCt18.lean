/- cat: keys of a map, sorted; rows of entries. -/
import Derived.Test.YthboeoidgglcgaaCtLay
import Derived.Test.YthboeoidgglcgaaCt8
import Derived.Sort.KeysCollected
import Derived.Lib.SlKeysI
namespace Go.Proofs.Ythboeoidgglcgaa
set_option linter.unusedVariables false
set_option linter.unusedSimpArgs false
open Go Go.RowKit Go.Maps Go.Sort Go.Shelf Go.Proofs
theorem perm_of_sub {α : Type} [BEq α] [LawfulBEq α] {l m : List α} (hn : l.Nodup) (hs : ∀ x ∈ l, x ∈ m) (hl : m.length ≤ l.length) : l.Perm m := by
  induction l generalizing m with
  | nil =>
    have : m = [] := List.eq_nil_of_length_eq_zero (by simpa using hl)
    rw [this]
  | cons x l ih =>
    obtain ⟨h1, h2⟩ := List.nodup_cons.mp hn
    have hx := hs x (by simp)
    refine List.Perm.trans (List.Perm.cons x (ih h2 (fun y hy => ?_) ?_)) (List.perm_cons_erase hx).symm
    · have hyx : y ≠ x := fun e => h1 (e ▸ hy)
      exact (List.mem_erase_of_ne hyx).mpr (hs y (by simp [hy]))
    · rw [List.length_erase_of_mem hx]; simp at hl; omega
theorem keysS_perm {D : DataW Value} {L : List (By × Value)} (h : MpR KS D L) : (L.map Prod.fst).Perm (strKeys D) := by
  obtain ⟨es, rfl, -⟩ := h.tidy
  refine perm_of_sub ?_ (fun k hk => ?_) ?_
  · exact List.pairwise_map.mpr h.dist
  · obtain ⟨e, he, rfl⟩ := List.mem_map.mp hk
    have h1 := h.has e.1
    rw [(hasP_iff L e.1).mpr ⟨e, he, rfl⟩, has_eq, List.any_eq_true] at h1
    obtain ⟨p, hp, hs⟩ := h1
    have hp1 : p.1 = KS.lit e.1 := (WideAt.sameKey_iff (b := KS.lit e.1) trivial).mp hs
    show e.1 ∈ es.map fun p => strOf p.1
    exact List.mem_map.mpr ⟨p, hp, by rw [hp1]; rfl⟩
  · have := h.size
    show (es.map fun p => strOf p.1).length ≤ _
    rw [List.length_map, List.length_map]
    exact Nat.le_of_eq this
theorem keysI_perm {D : DataW Value} {L : List (Int × Value)} (h : MpR KI D L) : (L.map Prod.fst).Perm (intKeys D) := by
  obtain ⟨es, rfl, -⟩ := h.tidy
  refine perm_of_sub ?_ (fun k hk => ?_) ?_
  · exact List.pairwise_map.mpr h.dist
  · obtain ⟨e, he, rfl⟩ := List.mem_map.mp hk
    have h1 := h.has e.1
    rw [(hasP_iff L e.1).mpr ⟨e, he, rfl⟩, has_eq, List.any_eq_true] at h1
    obtain ⟨p, hp, hs⟩ := h1
    have hp1 : p.1 = KI.lit e.1 := (WideAt.sameKey_iff (b := KI.lit e.1) trivial).mp hs
    show e.1 ∈ intKeys (.map es)
    exact List.mem_map.mpr ⟨p, hp, by rw [hp1]; rfl⟩
  · have := h.size
    show (intKeys (.map es)).length ≤ _
    unfold intKeys
    rw [List.length_map, List.length_map]
    exact Nat.le_of_eq this
theorem keysE_any (mb : Option Nat) (W : World) : Calls Try.prog 41 #[.map mb] W fun e w' => e = .returned (.func (.func 59) #[] #[.pointer (some ⟨W.heap.size, 0, none⟩)]) ∧ w' = W.alloc (.cells #[.map mb] 59) := callsIn_wide.1 (ctS_keys mb W)
theorem keysR_any (mb : Option Nat) (W : World) : Calls Try.prog 31 #[.map mb] W fun e w' => e = .returned (.func (.func 50) #[] #[.pointer (some ⟨W.heap.size, 0, none⟩)]) ∧ w' = W.alloc (.cells #[.map mb] 61) := callsIn_wide.1 (ctI_keys mb W)
/-- a row of whole numbers of the call's own -/
def OZ (l : List Int) (v : Value) (base : Nat) (w : World) : Prop := w.ownsRow base 3 1 v l.length (l.map (Value.int .i64))
theorem sort_rise {L : List By} (h : L.Pairwise (· < ·)) : L.mergeSort (fun x y => decide (x ≤ y)) = L :=
  List.mergeSort_of_pairwise (h.imp (fun {a b} hab => by simpa using List.le_of_lt hab))
theorem sortedE_any (b t : Nat) (L : List (By × Value)) (w : World) (h : MapB w 9 KS b t L) (hr : (L.map Prod.fst).Pairwise (· < ·)) (hl : L.length ≤ 1000000) :
    Calls Try.prog 43 #[.func (.func 59) #[] #[.pointer (some ⟨w.heap.size, 0, none⟩)]] (w.alloc (.cells #[.map (some b)] 59)) fun e w' => ∃ A c, e = .returned (.slice A L.length c) ∧ OS (L.map Prod.fst) (.slice A L.length c) w.heap.size w' ∧ Gr w w' := by
  obtain ⟨n, D, -, hown, hrel⟩ := h
  have hsz := hrel.size
  refine callsIn_wide.1 ((ctS_sorted b n D RV w hown (by rw [hsz]; simp only [maxLen]; omega) (by rw [hsz]; omega)).mono ?_)
  rintro e w' ⟨v, ss, rfl, hp, hrow, -, hb⟩
  have hpm := hp.trans (keysS_perm hrel).symm
  have e1 : ss.mergeSort (fun x y => decide (x ≤ y)) = L.map Prod.fst := by
    rw [← sort_rise hr]
    exact mergeSort_of_perm hpm
  have e2 : ss.length = L.length := by rw [hpm.length_eq, List.length_map]
  rw [e1, e2] at hrow
  obtain ⟨A, c, rfl, -, -⟩ := row_form hrow
  refine ⟨A, c, rfl, ?_, ((Below.refl _ w).alloc (Nat.le_refl _) _).trans (hb.mono (by simp))⟩
  unfold OS
  rw [List.length_map]
  exact row_more hrow (by simp)
/-- whole numbers, rising -/
def sortZ (L : List Int) : List Int := L.mergeSort (fun x y => decide (x ≤ y))
theorem sortZ_len (L : List Int) : (sortZ L).length = L.length := List.length_mergeSort ..
theorem sortedR_any (b t : Nat) (L : List (Int × Value)) (w : World) (h : MapB w 3 KI b t L) (hl : L.length ≤ 1000000) :
    Calls Try.prog 30 #[.func (.func 50) #[] #[.pointer (some ⟨w.heap.size, 0, none⟩)]] (w.alloc (.cells #[.map (some b)] 61)) fun e w' => ∃ A c, e = .returned (.slice A L.length c) ∧ OZ (sortZ (L.map Prod.fst)) (.slice A L.length c) w.heap.size w' ∧ Gr w w' := by
  obtain ⟨n, D, -, hown, hrel⟩ := h
  have hsz := hrel.size
  refine callsIn_wide.1 ((ctI_sorted b n D RV w hown (by rw [hsz]; simp only [maxLen]; omega) (by rw [hsz]; omega)).mono ?_)
  rintro e w' ⟨v, ss, rfl, hp, hrow, -, hb⟩
  have hpm := hp.trans (keysI_perm hrel).symm
  have e1 : ss.mergeSort (fun x y => decide (x ≤ y)) = sortZ (L.map Prod.fst) := mergeSort_of_perm_i hpm
  have e2 : ss.length = L.length := by rw [hpm.length_eq, List.length_map]
  rw [e1, e2] at hrow
  obtain ⟨A, c, rfl, -, -⟩ := row_form hrow
  refine ⟨A, c, rfl, ?_, ((Below.refl _ w).alloc (Nat.le_refl _) _).trans (hb.mono (by simp))⟩
  unfold OZ
  rw [sortZ_len, List.length_map]
  exact row_more hrow (by simp)
/-- rows of entries -/
def Et.cells (x : Et) : List Value := [.string (bs x.e.key), .int .i64 x.e.gen, .int .i64 x.e.size, .string (bs x.e.sum), x.v]
def flatE (E : List Et) : List Value := E.flatMap Et.cells
theorem flatE_len (E : List Et) : (flatE E).length = E.length * 5 := by
  induction E with
  | nil => rfl
  | cons q l ih => simp [flatE, Et.cells] at *; omega
theorem flatE_app (l m : List Et) : flatE (l ++ m) = flatE l ++ flatE m := by simp [flatE]
theorem flatE_at {l : List Et} {i : Nat} {x : Et} (h : l[i]? = some x) (j : Nat) (hj : j < 5) : (flatE l)[i * 5 + j]? = x.cells[j]? := by
  induction l generalizing i with
  | nil => simp at h
  | cons p l ih =>
    have hp : p.cells.length = 5 := rfl
    show (p.cells ++ flatE l)[_]? = _
    cases i with
    | zero =>
      simp at h; subst h
      rw [List.getElem?_append_left (by omega)]
      congr 1; omega
    | succ i =>
      have h' : l[i]? = some x := by simpa using h
      rw [List.getElem?_append_right (by omega), hp, show (i + 1) * 5 + j - 5 = i * 5 + j from by omega]
      exact ih h'
theorem flatE_one (l : List Et) : ∀ v ∈ flatE l, v.oneCell' = true := fun v hv => by
  unfold flatE at hv
  obtain ⟨x, -, h⟩ := List.mem_flatMap.mp hv
  simp [Et.cells, Et.v] at h
  rcases h with rfl | rfl | rfl | rfl | rfl <;> rfl
/-- a row of entries of the call's own, its places the call's own too -/
def OE (E : List Et) (v : Value) (base : Nat) (w : World) : Prop := w.ownsRow base 45 5 v E.length (flatE E) ∧ ∀ x ∈ E, OP x.e.places x.v base w
theorem OE.nil_ (w : World) (base : Nat) : OE [] (.slice none 0 0) base w := ⟨World.ownsRow_nil w base _ 5, fun x h => by cases h⟩
theorem OE.gr {E : List Et} {v : Value} {base : Nat} {w w' : World} (h : OE E v base w) (hg : Gr w w') : OE E v base w' := ⟨row_below h.1 hg, fun x hx => ⟨row_below (h.2 x hx).1 hg, (h.2 x hx).2⟩⟩
theorem OE.form {E : List Et} {v : Value} {base : Nat} {w : World} (h : OE E v base w) : ∃ A c, v = .slice A E.length c ∧ E.length ≤ c ∧ c ≤ maxLen := row_form h.1
theorem info_entry : (Try.prog.info? 45).map (fun i => (i.zero, i.size, i.bytes)) = some (some (.agg #[.string ⟨#[]⟩, .int .i64 0, .int .i64 0, .string ⟨#[]⟩, .slice none 0 0]), 5, 72) := by kernel_rfl
theorem wpl_appE {w : World} {ops : Array Oper} {rest : List Oper} {o : Oper} {a : Act} {Q : Exit → Act → World → Prop} (hgd : o.guard = none) (s x : Operand)
    (ho : o.op = .call { callee := .builtin .append, args := #[s, x], argTypes := #[40, 40] })
    (base : Nat) (v : Value) (E : List Et) (q : Et) (hs : a.eval s = v) (hown : OE E v base w) (A : Option Addr) (c : Nat) (hx : a.eval x = .slice A 1 c) (hr : Reads w w.heap.size 5 A 1 q.cells)
    (hq : OP q.e.places q.v base w) (hlen : E.length ≤ 1000000000000) (hbase : base ≤ w.heap.size)
    (h : ∀ v' w', OE (E ++ [q]) v' base w' → Below base w w' → wpList Try.prog ops Q rest (a.put o.dst v') w') : wpList Try.prog ops Q (o :: rest) a w := by
  obtain ⟨i0, hi, hz0, hz1, hz2⟩ := info_parts info_entry
  refine wpList_plain hgd fun _ hK => wp_append_any w s x 40 ho base 45 i0 _ 5 72 Try.underlying40 hi hz0 hz1 hz2 rfl (by omega) v E.length (flatE E) hs hown.1 w.heap.size A 1 c q.cells hx hr (by have := flatE_one [q]; simpa [flatE] using this)
    (by simp only [maxLen]; omega) (by omega) hbase fun v' w' h2 h3 h4 => hK _ _ (h v' w' ⟨?_, ?_⟩ ((Below.refl base w).grown h3 hbase (fun k hk => (World.ownsRow.lt hown.1 k hk).1)))
  · rw [List.length_append, flatE_app]
    simpa [flatE] using h2
  · have hk : ∀ y : Et, OP y.e.places y.v base w → OP y.e.places y.v base w' := fun y hy => ⟨World.ownsRow.kept hy.1 h3 (by
      cases hu : y.v.ownBlock with
      | none => exact .inl rfl
      | some k => exact .inr (fun e => row_ne2 hy.1 hown.1 (by decide) k e.symm hu)), hy.2⟩
    intro y hy
    rcases List.mem_append.mp hy with hy | hy
    · exact hk y (hown.2 y hy)
    · simp only [List.mem_singleton] at hy
      subst hy
      exact hk _ hq
theorem Reads.entryLit (w : World) (q : Et) : Reads (w.alloc (.cells q.cells.toArray 45)) (w.alloc (.cells q.cells.toArray 45)).heap.size 5 (some ⟨w.heap.size, 0, none⟩) 1 q.cells :=
  ⟨rfl, fun _ => ⟨_, rfl, by simp, fun j u hu => by
    rw [addr0]
    exact cell_new w _ _ (by simpa using hu)⟩⟩
end Go.Proofs.Ythboeoidgglcgaa
