/- Tables whose rows lie anywhere but in the table's own block. -/
import Derived.Test.YtdgkcgiknfjpjaaBl13
namespace Go.Proofs.Ytdgkcgiknfjpjaa
set_option linter.unusedVariables false
set_option linter.unusedSimpArgs false
open Go Go.RowKit
/-- a row that may be read, and lies not in the block ob -/
def RowP (w : World) (ob : Option Nat) (A : Option Addr) (c : Nat) (l : List UInt8) : Prop := l.length ≤ c ∧ c ≤ maxLen ∧ Rd w w.heap.size A l ∧ (0 < l.length → ∀ ad, A = some ad → ob ≠ some ad.block)
theorem RowP.gr {w w' : World} {ob : Option Nat} {A : Option Addr} {c : Nat} {l : List UInt8} (h : RowP w ob A c l) (hr : Gr w w') : RowP w' ob A c l := ⟨h.1, h.2.1, h.2.2.1.up hr, h.2.2.2⟩
theorem RowP.own {w w' : World} {ob : Option Nat} {A : Option Addr} {c : Nat} {l : List UInt8} (h : RowP w ob A c l) (hg : w.grownBy w' ob) {ob' : Option Nat} (ho : ob' = ob ∨ ob' = some w.heap.size) : RowP w' ob' A c l := by
  obtain ⟨h1, h2, h3, h4⟩ := h
  refine ⟨h1, h2, ⟨h3.1, fun hn => ?_⟩, fun hn ad ea => ?_⟩
  · obtain ⟨ad, ea, hb, hcell⟩ := h3.2 hn
    have hne := h4 (by simpa using hn) ad ea
    refine ⟨ad, ea, Nat.lt_of_lt_of_le hb hg.size, fun j u hu => ?_⟩
    rw [← hcell j u hu]
    exact World.cell?_of_block (by rw [block_of_add]; exact hg.block _ hb (fun e => hne e.symm))
  · rcases ho with rfl | rfl
    · exact h4 hn ad ea
    · obtain ⟨ad', ea', hb, -⟩ := h3.2 (by simpa using hn)
      rw [ea] at ea'
      injection ea' with ea'
      subst ea'
      intro e
      injection e with e
      omega
/-- what lies in blocks that are new lies not in an older block -/
theorem RowP.new {w w' : World} {ob : Option Nat} {A : Option Addr} {c : Nat} {l : List UInt8} (h1 : l.length ≤ c) (h2 : c ≤ maxLen) (h3 : Rd w' w'.heap.size A l) (h4 : ∀ ad, A = some ad → w.heap.size ≤ ad.block) (ho : ∀ k, ob = some k → k < w.heap.size) : RowP w' ob A c l :=
  ⟨h1, h2, h3, fun _ ad ea e => by have := h4 ad ea; have := ho _ e; omega⟩
theorem RowP.nil_ (w : World) (ob : Option Nat) (A : Option Addr) (c : Nat) (h2 : c ≤ maxLen) : RowP w ob A c [] := ⟨Nat.zero_le _, h2, ⟨rfl, fun h => absurd h (by simp)⟩, fun h => absurd h (by simp)⟩
def AP (w : World) (base : Nat) (v : Value) (L : List (List UInt8)) : Prop :=
  ∃ rows : List Value, w.ownsRow base 22 1 v L.length rows ∧ rows.length = L.length ∧ ∀ (i : Nat) (l : List UInt8), L[i]? = some l → ∃ A c, rows[i]? = some (.slice A l.length c) ∧ RowP w v.ownBlock A c l
section
variable {w w' : World} {base : Nat} {v : Value} {L : List (List UInt8)}
theorem AP.gr (h : AP w base v L) (hr : Gr w w') : AP w' base v L := by
  obtain ⟨rows, h1, h2, h3⟩ := h
  refine ⟨rows, row_below h1 hr, h2, fun i l hl => ?_⟩
  obtain ⟨A, c, h4, h5⟩ := h3 i l hl
  exact ⟨A, c, h4, h5.gr hr⟩
theorem AP.empty (w : World) (base : Nat) (hb : base ≤ w.heap.size) : AP (w.alloc (.cells #[] 22)) base (.slice (some ⟨w.heap.size, 0, none⟩) 0 0) [] :=
  ⟨[], World.ownsRow_made w #[] 0 hb (by simp [maxLen]) rfl, rfl, fun i l h => by simp at h⟩
theorem AP.lt (h : AP w base v L) : ∀ k, v.ownBlock = some k → base ≤ k ∧ k < w.heap.size := by
  obtain ⟨rows, h1, -, -⟩ := h
  exact fun k hk => World.ownsRow.lt h1 k hk
theorem AP.tbl (h : AP w base v L) : Tbl L v w := by
  obtain ⟨rows, h1, h2, h3⟩ := h
  by_cases hn : 0 < L.length
  · obtain ⟨g, c, rfl, h4, h5, h6, h7, -, -, h8, -⟩ := row_at h1 hn
    refine ⟨_, c, rfl, h4, h5, rfl, fun _ => ⟨g, 0, rfl, h7, fun i l hl => ?_⟩⟩
    obtain ⟨A', c', h9, h10⟩ := h3 i l hl
    exact ⟨A', c', by rw [Nat.zero_add]; exact h8 i _ h9, h10.1, h10.2.1, h10.2.2.1⟩
  · obtain ⟨A, c, e, h4, h5⟩ := row_form h1
    exact ⟨A, c, e, h4, h5, rfl, fun h => absurd h hn⟩
end
theorem wpl_append_rowP {w : World} {ops : Array Oper} {rest : List Oper} {o : Oper} {a : Act} {Q : Exit → Act → World → Prop} (hgd : o.guard = none) (s x : Operand)
    (ho : o.op = .call { callee := .builtin .append, args := #[s, x], argTypes := #[27, 27] })
    (base : Nat) (v : Value) (L : List (List UInt8)) (hs : a.eval s = v) (hat : AP w base v L) (A : Option Addr) (c : Nat) (l : List UInt8) (hrow : RowP w v.ownBlock A c l)
    (B : Nat) (Ax : Option Addr) (cx : Nat) (hx : a.eval x = .slice Ax 1 cx) (hr : Reads w B 1 Ax 1 [.slice A l.length c])
    (hlen : L.length ≤ 1000000) (hbase : base ≤ w.heap.size)
    (h : ∀ v' w', AP w' base v' (L ++ [l]) → w.grownBy w' v.ownBlock → Below base w w' → wpList Try.prog ops Q rest (a.put o.dst v') w') : wpList Try.prog ops Q (o :: rest) a w := by
  obtain ⟨i0, hi, hz0, hz1, hz2⟩ := info_parts info_bb
  have hat' := hat
  obtain ⟨rows, h1, h2, h3⟩ := hat'
  refine wpList_plain hgd fun _ hK => wp_append_any w s x 27 ho base 22 i0 _ 1 24 Try.underlying27 hi hz0 hz1 hz2 rfl (by omega) v L.length rows hs h1 B Ax 1 cx [.slice A l.length c] hx hr (fun u hu => by simp at hu; subst hu; rfl)
    (by simp only [maxLen]; omega) (by omega) hbase fun v' w' q1 q2 q3 => hK _ _ (h v' w' ?_ q2 ((Below.refl base w).grown q2 hbase (fun k hk => (World.ownsRow.lt h1 k hk).1)))
  refine ⟨rows ++ [.slice A l.length c], by rw [List.length_append]; exact q1, by simp [h2], fun i l' hl => ?_⟩
  by_cases hi2 : i < L.length
  · rw [List.getElem?_append_left hi2] at hl
    obtain ⟨A', c', h4, h5⟩ := h3 i l' hl
    exact ⟨A', c', by rw [List.getElem?_append_left (by omega)]; exact h4, h5.own q2 q3⟩
  · have hi3 : i = L.length := by
      have := (List.getElem?_eq_some_iff.mp hl).1
      simp at this
      omega
    subst hi3
    rw [List.getElem?_append_right (Nat.le_refl _), Nat.sub_self] at hl
    simp at hl
    subst hl
    exact ⟨A, c, by rw [List.getElem?_append_right (by omega), h2, Nat.sub_self]; rfl, hrow.own q2 q3⟩
end Go.Proofs.Ytdgkcgiknfjpjaa
