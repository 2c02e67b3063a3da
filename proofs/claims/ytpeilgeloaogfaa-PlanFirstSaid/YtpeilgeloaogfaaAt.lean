/- Tables that grow by append: the rows are the call's own, or lie below it. -/
import Derived.Test.YtpeilgeloaogfaaTb
namespace Go.Proofs.Ytpeilgeloaogfaa
set_option linter.unusedVariables false
open Go Go.RowKit
/-- a row: the call's own, or what lies below it -/
def RowOk (w : World) (base : Nat) (A : Option Addr) (c : Nat) (l : List UInt8) : Prop :=
  OB w base (.slice A l.length c) l ∨ (Rd w base A l ∧ l.length ≤ c ∧ c ≤ maxLen)
section
variable {w w' : World} {base B : Nat} {A : Option Addr} {c : Nat} {l : List UInt8}
theorem RowOk.below (h : RowOk w base A c l) (hb : Below w.heap.size w w') (hs : base ≤ w.heap.size) : RowOk w' base A c l := by
  rcases h with h | ⟨h, h1, h2⟩
  · exact .inl (h.below hb)
  · exact .inr ⟨h.keep (fun p hp => hb.cell (by omega)), h1, h2⟩
theorem RowOk.rd (h : RowOk w base A c l) (hs : base ≤ w.heap.size) : Rd w w.heap.size A l ∧ l.length ≤ c ∧ c ≤ maxLen := by
  rcases h with h | ⟨h, h1, h2⟩
  · obtain ⟨A', c', e, h1, h2, h3, -⟩ := h.form
    injection e with e1 _ e3
    subst e1 e3
    exact ⟨h3, h1, h2⟩
  · exact ⟨h.more hs, h1, h2⟩
end
/-- v is a slice of slices of the call's own that holds the rows L -/
def AT (w : World) (base : Nat) (v : Value) (L : List (List UInt8)) : Prop :=
  ∃ rows : List Value, w.ownsRow base 29 1 v L.length rows ∧ rows.length = L.length ∧ ∀ (i : Nat) (l : List UInt8), L[i]? = some l → ∃ A c, rows[i]? = some (.slice A l.length c) ∧ RowOk w base A c l
section
variable {w w' : World} {base : Nat} {v : Value} {L : List (List UInt8)}
theorem AT.below (h : AT w base v L) (hb : Below w.heap.size w w') (hs : base ≤ w.heap.size) : AT w' base v L := by
  obtain ⟨rows, h1, h2, h3⟩ := h
  refine ⟨rows, row_below h1 hb, h2, fun i l hl => ?_⟩
  obtain ⟨A, c, h4, h5⟩ := h3 i l hl
  exact ⟨A, c, h4, h5.below hb hs⟩
theorem AT.form (h : AT w base v L) (hs : base ≤ w.heap.size) : ∃ A c, v = .slice A L.length c ∧ L.length ≤ c ∧ c ≤ maxLen ∧ RT w w.heap.size A L.length L := by
  obtain ⟨rows, h1, h2, h3⟩ := h
  by_cases hn : 0 < L.length
  · obtain ⟨g, c, rfl, h4, h5, h6, h7, -, -, h8, -⟩ := row_at h1 hn
    refine ⟨_, c, rfl, h4, h5, rfl, fun _ => ⟨g, 0, rfl, h7, fun i l hl => ?_⟩⟩
    obtain ⟨A', c', h9, h10⟩ := h3 i l hl
    obtain ⟨r1, r2, r3⟩ := h10.rd hs
    exact ⟨A', c', by rw [Nat.zero_add]; exact h8 i _ h9, r2, r3, r1⟩
  · obtain ⟨A, c, e, h4, h5⟩ := row_form h1
    exact ⟨A, c, e, h4, h5, rfl, fun h => absurd h hn⟩
theorem AT.nil_ (w : World) (base : Nat) : AT w base (.slice none 0 0) [] := ⟨[], World.ownsRow_nil w base _ 1, rfl, fun i l h => by simp at h⟩
theorem AT.empty (w : World) (base : Nat) (hb : base ≤ w.heap.size) : AT (w.alloc (.cells #[] 29)) base (.slice (some ⟨w.heap.size, 0, none⟩) 0 0) [] :=
  ⟨[], World.ownsRow_made w #[] 0 hb (by simp [maxLen]) rfl, rfl, fun i l h => by simp at h⟩
theorem AT.up (h : AT w base v L) : ∀ k, v.ownBlock = some k → base ≤ k := by
  obtain ⟨rows, h1, -, -⟩ := h
  exact fun k hk => (h1.lt k hk).1
theorem AT.more {base' : Nat} (h : AT w base v L) (hb : base' ≤ base) (hd : ∀ (A : Option Addr) (l : List UInt8), Rd w base A l → Rd w base' A l ∨ False) : AT w base' v L := by
  obtain ⟨rows, h1, h2, h3⟩ := h
  refine ⟨rows, row_more h1 hb, h2, fun i l hl => ?_⟩
  obtain ⟨A, c, h4, h5⟩ := h3 i l hl
  refine ⟨A, c, h4, ?_⟩
  rcases h5 with h5 | ⟨h5, h6⟩
  · exact .inl (h5.more hb)
  · rcases hd A l h5 with h7 | h7
    · exact .inr ⟨h7, h6⟩
    · exact h7.elim
/-- an append onto the slice leaves the rows as they were -/
theorem RowOk.grown {A : Option Addr} {c : Nat} {l : List UInt8} (h : RowOk w base A c l) {n : Nat} {rows : List Value} (ho : w.ownsRow base 29 1 v n rows) (hg : w.grownBy w' v.ownBlock) (hs : base ≤ w.heap.size) : RowOk w' base A c l := by
  rcases h with h | ⟨h, h1, h2⟩
  · refine .inl (row_keep h (fun k hk => ?_))
    have hne := row_ne2 ho h (by decide) k hk
    exact hg.block k (h.lt k hk).2 (fun e => hne e.symm)
  · refine .inr ⟨h.keep (fun p hp => World.cell?_of_block (hg.block p.block (by omega) (fun e => ?_))), h1, h2⟩
    have := (ho.lt _ e.symm).1
    omega
end
theorem info_bb : (Try.prog.info? 29).map (fun i => (i.zero, i.size, i.bytes)) = some (some (.slice none 0 0), 1, 24) := info_b8
theorem AT.app {w w' : World} {base : Nat} {v v' : Value} {L : List (List UInt8)} {A : Option Addr} {c : Nat} {l : List UInt8} (h : AT w base v L) (hrow : RowOk w base A c l) (hs : base ≤ w.heap.size)
    (hk : ∀ rows : List Value, w.ownsRow base 29 1 v L.length rows → w'.ownsRow base 29 1 v' (L.length + 1) (rows ++ [.slice A l.length c])) (hg : w.grownBy w' v.ownBlock) : AT w' base v' (L ++ [l]) := by
  obtain ⟨rows, h1, h2, h3⟩ := h
  refine ⟨rows ++ [.slice A l.length c], by rw [List.length_append]; exact hk rows h1, by simp [h2], fun i l' hl => ?_⟩
  by_cases hi : i < L.length
  · rw [List.getElem?_append_left hi] at hl
    obtain ⟨A', c', h4, h5⟩ := h3 i l' hl
    exact ⟨A', c', by rw [List.getElem?_append_left (by omega)]; exact h4, h5.grown h1 hg hs⟩
  · have hi2 : i = L.length := by
      have := (List.getElem?_eq_some_iff.mp hl).1
      simp at this
      omega
    subst hi2
    rw [List.getElem?_append_right (Nat.le_refl _), Nat.sub_self] at hl
    simp at hl
    subst hl
    exact ⟨A, c, by rw [List.getElem?_append_right (by omega), h2, Nat.sub_self]; rfl, hrow.grown h1 hg hs⟩
theorem wpl_append_row {w : World} {ops : Array Oper} {rest : List Oper} {o : Oper} {a : Act} {Q : Exit → Act → World → Prop} (hgd : o.guard = none) (s x : Operand)
    (ho : o.op = .call { callee := .builtin .append, args := #[s, x], argTypes := #[22, 22] })
    (base : Nat) (v : Value) (L : List (List UInt8)) (hs : a.eval s = v) (hat : AT w base v L) (A : Option Addr) (c : Nat) (l : List UInt8) (hrow : RowOk w base A c l)
    (B : Nat) (Ax : Option Addr) (cx : Nat) (hx : a.eval x = .slice Ax 1 cx) (hr : Reads w B 1 Ax 1 [.slice A l.length c])
    (hlen : L.length ≤ 1000000) (hbase : base ≤ w.heap.size)
    (h : ∀ v' w', AT w' base v' (L ++ [l]) → w.grownBy w' v.ownBlock → wpList Try.prog ops Q rest (a.put o.dst v') w') : wpList Try.prog ops Q (o :: rest) a w := by
  obtain ⟨i0, hi, hz0, hz1, hz2⟩ := info_parts info_bb
  have hat' := hat
  obtain ⟨rows, h1, h2, h3⟩ := hat'
  refine wpList_plain hgd fun _ hK => wp_append_any w s x 22 ho base 29 i0 _ 1 24 Try.underlying22 hi hz0 hz1 hz2 rfl (by omega) v L.length rows hs h1 B Ax 1 cx [.slice A l.length c] hx hr (fun u hu => by simp at hu; subst hu; rfl)
    (by simp only [maxLen]; omega) (by omega) hbase fun v' w' q1 q2 q3 => hK _ _ (h v' w' ?_ q2)
  refine ⟨rows ++ [.slice A l.length c], by rw [List.length_append]; exact q1, by simp [h2], fun i l' hl => ?_⟩
  by_cases hi2 : i < L.length
  · rw [List.getElem?_append_left hi2] at hl
    obtain ⟨A', c', h4, h5⟩ := h3 i l' hl
    exact ⟨A', c', by rw [List.getElem?_append_left (by omega)]; exact h4, h5.grown h1 q2 hbase⟩
  · have hi3 : i = L.length := by
      have := (List.getElem?_eq_some_iff.mp hl).1
      simp at this
      omega
    subst hi3
    rw [List.getElem?_append_right (Nat.le_refl _), Nat.sub_self] at hl
    simp at hl
    subst hl
    exact ⟨A, c, by rw [List.getElem?_append_right (by omega), h2, Nat.sub_self]; rfl, hrow.grown h1 q2 hbase⟩
/-- what one slice in a new block reads as -/
theorem reads_one (w : World) (t : TypeId) (u : Value) : Reads (w.alloc (.cells #[u] t)) (w.alloc (.cells #[u] t)).heap.size 1 (some ⟨w.heap.size, 0, none⟩) 1 [u] :=
  ⟨rfl, fun _ => ⟨_, rfl, by simp, World.news_of_block (heap_alloc_new w _) |> fun hh j x hx => hh j x hx⟩⟩
end Go.Proofs.Ytpeilgeloaogfaa
