/- Tables of the call's own whose rows lie below: what is appended shares the rows. -/
import Derived.Test.YtpeilgeloaogfaaSpanT
namespace Go.Proofs.Ytpeilgeloaogfaa
set_option linter.unusedVariables false
open Go Go.RowKit
/-- v is a slice of the call's own; its rows L lie below B -/
def AB (w : World) (B : Nat) (v : Value) (L : List (List UInt8)) : Prop :=
  ∃ rows : List Value, w.ownsRow B 29 1 v L.length rows ∧ rows.length = L.length ∧ ∀ (i : Nat) (l : List UInt8), L[i]? = some l → ∃ A c, rows[i]? = some (.slice A l.length c) ∧ Rd w B A l ∧ l.length ≤ c ∧ c ≤ maxLen
/-- v is a slice, only read; its rows L lie below B -/
def RR (w : World) (B : Nat) (v : Value) (L : List (List UInt8)) : Prop :=
  ∃ A c, v = .slice A L.length c ∧ L.length ≤ c ∧ c ≤ maxLen ∧ (0 < L.length → ∃ b o, A = some ⟨b, o, none⟩ ∧ b < w.heap.size ∧ ∀ i l, L[i]? = some l → ∃ A' c', w.cell? ⟨b, o + i, none⟩ = some (.slice A' l.length c') ∧ Rd w B A' l ∧ l.length ≤ c' ∧ c' ≤ maxLen)
section
variable {w w' : World} {B : Nat} {v : Value} {L : List (List UInt8)}
theorem AB.rr (h : AB w B v L) : RR w B v L := by
  obtain ⟨rows, h1, h2, h3⟩ := h
  by_cases hn : 0 < L.length
  · obtain ⟨g, c, rfl, h4, h5, h6, h7, -, -, h8, -⟩ := row_at h1 hn
    refine ⟨_, c, rfl, h4, h5, fun _ => ⟨g, 0, rfl, h7, fun i l hl => ?_⟩⟩
    obtain ⟨A', c', h9, r1, r2, r3⟩ := h3 i l hl
    exact ⟨A', c', by rw [Nat.zero_add]; exact h8 i _ h9, r1, r2, r3⟩
  · obtain ⟨A, c, e, h4, h5⟩ := row_form h1
    exact ⟨A, c, e, h4, h5, fun h => absurd h hn⟩
theorem RR.tbl (h : RR w B v L) (hs : B ≤ w.heap.size) : Tbl L v w := by
  obtain ⟨A, c, e, h1, h2, h3⟩ := h
  refine ⟨A, c, e, h1, h2, rfl, fun hn => ?_⟩
  obtain ⟨b, o, eA, hb, hr⟩ := h3 hn
  refine ⟨b, o, eA, hb, fun i l hl => ?_⟩
  obtain ⟨A', c', r1, r2, r3, r4⟩ := hr i l hl
  exact ⟨A', c', r1, r3, r4, r2.more hs⟩
theorem AB.tbl (h : AB w B v L) (hs : B ≤ w.heap.size) : Tbl L v w := h.rr.tbl hs
theorem RR.keep (h : RR w B v L) (hsz : w.heap.size ≤ w'.heap.size) (hB : ∀ k, k < B → w'.heap[k]? = w.heap[k]?) (hv : ∀ k, v.ownBlock = some k → k < w.heap.size → w'.heap[k]? = w.heap[k]?) : RR w' B v L := by
  obtain ⟨A, c, rfl, h1, h2, h3⟩ := h
  refine ⟨A, c, rfl, h1, h2, fun hn => ?_⟩
  obtain ⟨b, o, rfl, hb, hr⟩ := h3 hn
  refine ⟨b, o, rfl, Nat.lt_of_lt_of_le hb hsz, fun i l hl => ?_⟩
  obtain ⟨A', c', r1, r2, r3, r4⟩ := hr i l hl
  exact ⟨A', c', (World.cell?_of_block (w := w) (hv b rfl hb)).trans r1, r2.keep (fun p hp => World.cell?_of_block (hB _ hp)), r3, r4⟩
theorem RR.below (h : RR w B v L) (hb : Below w.heap.size w w') (hs : B ≤ w.heap.size) : RR w' B v L :=
  h.keep hb.size (fun k hk => hb.block k (by omega)) (fun k _ hk => hb.block k hk)
theorem RR.grown (h : RR w B v L) {row : Option Nat} (hg : w.grownBy w' row) (hs : B ≤ w.heap.size) (hr : ∀ k, row = some k → B ≤ k ∧ v.ownBlock ≠ some k) : RR w' B v L :=
  h.keep hg.size (fun k hk => hg.block k (by omega) (fun e => by have := (hr k e.symm).1; omega)) (fun k hk hlt => hg.block k hlt (fun e => (hr k e.symm).2 hk))
theorem AB.up (h : AB w B v L) : ∀ k, v.ownBlock = some k → B ≤ k ∧ k < w.heap.size := by
  obtain ⟨rows, h1, -, -⟩ := h
  exact h1.lt
theorem AB.keep (h : AB w B v L) (hB : ∀ k, k < B → w'.heap[k]? = w.heap[k]?) (hv : ∀ k, v.ownBlock = some k → w'.heap[k]? = w.heap[k]?) : AB w' B v L := by
  obtain ⟨rows, h1, h2, h3⟩ := h
  refine ⟨rows, row_keep h1 hv, h2, fun i l hl => ?_⟩
  obtain ⟨A, c, r1, r2, r3⟩ := h3 i l hl
  exact ⟨A, c, r1, r2.keep (fun p hp => World.cell?_of_block (hB _ hp)), r3⟩
theorem AB.below (h : AB w B v L) (hb : Below w.heap.size w w') (hs : B ≤ w.heap.size) : AB w' B v L :=
  h.keep (fun k hk => hb.block k (by omega)) (fun k hk => hb.block k (h.up k hk).2)
theorem AB.grown (h : AB w B v L) {row : Option Nat} (hg : w.grownBy w' row) (hs : B ≤ w.heap.size) (hr : ∀ k, row = some k → B ≤ k ∧ v.ownBlock ≠ some k) : AB w' B v L :=
  h.keep (fun k hk => hg.block k (by omega) (fun e => by have := (hr k e.symm).1; omega)) (fun k hk => hg.block k (h.up k hk).2 (fun e => (hr k e.symm).2 hk))
theorem AB.empty (w : World) (B : Nat) (hb : B ≤ w.heap.size) : AB (w.alloc (.cells #[] 29)) B (.slice (some ⟨w.heap.size, 0, none⟩) 0 0) [] :=
  ⟨[], World.ownsRow_made w #[] 0 hb (by simp [maxLen]) rfl, rfl, fun i l h => by simp at h⟩
theorem AB.form (h : AB w B v L) : ∃ A c, v = .slice A L.length c := by
  obtain ⟨A, c, e, -⟩ := h.rr
  exact ⟨A, c, e⟩
theorem RR.form (h : RR w B v L) : ∃ A c, v = .slice A L.length c := by
  obtain ⟨A, c, e, -⟩ := h
  exact ⟨A, c, e⟩
theorem RR.form0 (h : RR w B v L) (hn : 0 < L.length) : ∃ b o c, v = .slice (some ⟨b, o, none⟩) L.length c ∧ L.length ≤ c ∧ b < w.heap.size := by
  obtain ⟨A, c, e, h1, -, h3⟩ := h
  obtain ⟨b, o, rfl, hb, -⟩ := h3 hn
  exact ⟨b, o, c, e, h1, hb⟩
theorem RR.cell {b o n c : Nat} (h : RR w B (.slice (some ⟨b, o, none⟩) n c) L) {i : Nat} {l : List UInt8} (hl : L[i]? = some l) : ∃ A' c', w.cell? ⟨b, o + i, none⟩ = some (.slice A' l.length c') ∧ Rd w B A' l ∧ l.length ≤ c' ∧ c' ≤ maxLen := by
  obtain ⟨A, c0, e, -, -, h3⟩ := h
  injection e with e1 e2 e3
  subst e1
  have hi := (List.getElem?_eq_some_iff.mp hl).1
  obtain ⟨b', o', e, -, hr⟩ := h3 (by omega)
  injection e with e
  injection e with e4 e5
  subst e4 e5
  exact hr i l hl
end
theorem wpl_append_sh {w : World} {ops : Array Oper} {rest : List Oper} {o : Oper} {a : Act} {Q : Exit → Act → World → Prop} (hgd : o.guard = none) (s x : Operand)
    (ho : o.op = .call { callee := .builtin .append, args := #[s, x], argTypes := #[22, 22] })
    (B : Nat) (v : Value) (L : List (List UInt8)) (hs : a.eval s = v) (hat : AB w B v L) (A : Option Addr) (c : Nat) (l : List UInt8) (hrow : Rd w B A l) (hlc : l.length ≤ c) (hcm : c ≤ maxLen)
    (Bx : Nat) (Ax : Option Addr) (cx : Nat) (hx : a.eval x = .slice Ax 1 cx) (hr : Reads w Bx 1 Ax 1 [.slice A l.length c])
    (hlen : L.length ≤ 1000000) (hbase : B ≤ w.heap.size)
    (h : ∀ v' w', AB w' B v' (L ++ [l]) → w.grownBy w' v.ownBlock → (v'.ownBlock = v.ownBlock ∨ v'.ownBlock = some w.heap.size) → wpList Try.prog ops Q rest (a.put o.dst v') w') : wpList Try.prog ops Q (o :: rest) a w := by
  obtain ⟨i0, hi, hz0, hz1, hz2⟩ := info_parts info_bb
  have hup := hat.up
  obtain ⟨rows, h1, h2, h3⟩ := hat
  refine wpList_plain hgd fun _ hK => wp_append_any w s x 22 ho B 29 i0 _ 1 24 Try.underlying22 hi hz0 hz1 hz2 rfl (by omega) v L.length rows hs h1 Bx Ax 1 cx [.slice A l.length c] hx hr (fun u hu => by simp at hu; subst hu; rfl)
    (by simp only [maxLen]; omega) (by omega) hbase fun v' w' q1 q2 q3 => hK _ _ (h v' w' ?_ q2 q3)
  have hkeep : ∀ {A' : Option Addr} {l' : List UInt8}, Rd w B A' l' → Rd w' B A' l' := fun hrd => hrd.keep (fun p hp => World.cell?_of_block (q2.block p.block (by omega) (fun e => by have := (hup _ e.symm).1; omega)))
  refine ⟨rows ++ [.slice A l.length c], by rw [List.length_append]; exact q1, by simp [h2], fun i l' hl => ?_⟩
  by_cases hi2 : i < L.length
  · rw [List.getElem?_append_left hi2] at hl
    obtain ⟨A', c', h4, h5, h6⟩ := h3 i l' hl
    exact ⟨A', c', by rw [List.getElem?_append_left (by omega)]; exact h4, hkeep h5, h6⟩
  · have hi3 : i = L.length := by
      have := (List.getElem?_eq_some_iff.mp hl).1
      simp at this
      omega
    subst hi3
    rw [List.getElem?_append_right (Nat.le_refl _), Nat.sub_self] at hl
    simp at hl
    subst hl
    exact ⟨A, c, by rw [List.getElem?_append_right (by omega), h2, Nat.sub_self]; rfl, hkeep hrow, hlc, hcm⟩
/-! ### picks -/
theorem perm_erase : ∀ (l : List Nat) (a : Nat) (h : a < l.length), (l[a] :: l.eraseIdx a).Perm l
  | [], a, h => by simp at h
  | x :: l, 0, h => List.Perm.refl _
  | x :: l, a + 1, h => by
    have h' : a < l.length := by simpa using h
    exact (List.Perm.swap x (l[a]) (l.eraseIdx a)).trans ((perm_erase l a h').cons x)
/-- what stands at a has left -/
theorem pick_perm {rs left : List Nat} {a : Nat} (ha : a < left.length) : ((rs ++ [left[a]]) ++ left.eraseIdx a).Perm (rs ++ left) := by
  rw [List.append_assoc]
  refine List.Perm.append_left rs ?_
  exact perm_erase left a ha
theorem take_erase_lt {left : List Nat} {a s : Nat} (hs : s ≤ a) : (left.take s).eraseIdx a = left.take s := List.eraseIdx_of_length_le (by rw [List.length_take]; omega)
theorem take_erase_at {left : List Nat} {a : Nat} (ha : a < left.length) : (left.take (a + 1)).eraseIdx a = (left.take a).eraseIdx a := by
  rw [take_erase_lt (Nat.le_refl _), List.take_succ_eq_append_getElem ha, List.eraseIdx_append_of_length_le (by rw [List.length_take]; omega)]
  rw [List.length_take, Nat.min_eq_left (by omega), Nat.sub_self]
  simp
theorem take_erase_ne {left : List Nat} {a s : Nat} (hs : s < left.length) (hne : s ≠ a) : (left.take (s + 1)).eraseIdx a = (left.take s).eraseIdx a ++ [left[s]] := by
  rw [List.take_succ_eq_append_getElem hs]
  by_cases h : s < a
  · rw [List.eraseIdx_of_length_le (by rw [List.length_append, List.length_take]; simp; omega), take_erase_lt (by omega)]
  · rw [List.eraseIdx_append_of_lt_length (by rw [List.length_take]; omega)]
end Go.Proofs.Ytpeilgeloaogfaa
