/- Rows of strings and of bools in the call's own memory. -/
import Derived.Test.YtfjhdcppehfiiaaBytes2
import Derived.Test.YtfjhdcppehfiiaaTyp
namespace Go.Proofs.Ytfjhdcppehfiiaa
set_option linter.unusedVariables false
open Go Go.RowKit

def sv (l : List UInt8) : Value := .string (bs l)
theorem sv_one (L : List (List UInt8)) : ∀ u ∈ L.map sv, u.oneCell' = true := by
  intro u hu
  obtain ⟨x, _, rfl⟩ := List.mem_map.mp hu
  rfl
/-- v is a slice of strings of the call's own that holds L -/
def SRow (w : World) (base : Nat) (v : Value) (L : List (List UInt8)) : Prop := w.ownsRow base 9 1 v L.length (L.map sv)
/-- .. of bools -/
def BRow (w : World) (base : Nat) (v : Value) (L : List Bool) : Prop := w.ownsRow base 4 1 v L.length (L.map Value.bool)
theorem info_str : (Try.prog.info? 9).map (fun i => (i.zero, i.size, i.bytes)) = some (some (.string .empty), 1, 16) := by kernel_rfl
theorem info_bool : (Try.prog.info? 4).map (fun i => (i.zero, i.size, i.bytes)) = some (some (.bool false), 1, 1) := by kernel_rfl
theorem row_len {w : World} {base e size n n' c : Nat} {A : Option Addr} {xs : List Value} (h : w.ownsRow base e size (.slice A n' c) n xs) : n' = n := by
  rcases h.2 with ⟨e, h0⟩ | ⟨g, cap, cur, e, -⟩
  · injection e with _ e _; omega
  · injection e with _ e _
theorem row_caps {w : World} {base e size n n' c : Nat} {A : Option Addr} {xs : List Value} (h : w.ownsRow base e size (.slice A n' c) n xs) : n ≤ c ∧ c ≤ maxLen := by
  obtain ⟨A', c', e', h1, h2⟩ := row_form h
  injection e' with _ _ e'
  rw [e']; exact ⟨h1, h2⟩
theorem row_empty (w : World) (base : Nat) (e : TypeId) (size : Nat) (hb : base ≤ w.heap.size) : (w.alloc (.cells #[] e)).ownsRow base e size (.slice (some ⟨w.heap.size, 0, none⟩) 0 0) 0 [] :=
  World.ownsRow_made w #[] 0 hb (by simp [maxLen]) (by simp)
section
variable {w w' : World} {base n c : Nat} {A : Option Addr} {v : Value} {L : List (List UInt8)} {Z : List Bool}
theorem SRow.at_ (h : SRow w base (.slice A n c) L) {j : Nat} {l : List UInt8} (hl : L[j]? = some l) : ∃ g, A = some ⟨g, 0, none⟩ ∧ base ≤ g ∧ g < w.heap.size ∧ w.cell? ⟨g, j, none⟩ = some (.string (bs l)) ∧ n = L.length ∧ n ≤ c ∧ c ≤ maxLen := by
  have hj := (List.getElem?_eq_some_iff.1 hl).1
  obtain ⟨g, c', e, h1, h2, h3, h4, -, h6, h7, h8⟩ := row_at h (by omega)
  injection e with e1 e2 e3
  refine ⟨g, e1, h3, h4, h7 j _ ?_, e2, by omega, by omega⟩
  rw [List.getElem?_map, hl]; rfl
theorem BRow.at_ (h : BRow w base (.slice A n c) Z) {j : Nat} {z : Bool} (hl : Z[j]? = some z) : ∃ g, A = some ⟨g, 0, none⟩ ∧ base ≤ g ∧ g < w.heap.size ∧ (∃ cs, w.heap[g]? = some (.cells cs 4 (0, 0))) ∧ w.cell? ⟨g, j, none⟩ = some (.bool z) ∧ w.frozen? ⟨g, j, none⟩ = false ∧ (∀ b, BRow (w.setCell ⟨g, j, none⟩ (.bool b)) base (.slice A n c) (Z.set j b)) ∧ n = Z.length ∧ n ≤ c ∧ c ≤ maxLen := by
  have hj := (List.getElem?_eq_some_iff.1 hl).1
  obtain ⟨g, c', e, h1, h2, h3, h4, h5, h6, h7, h8⟩ := row_at h (by omega)
  injection e with e1 e2 e3
  refine ⟨g, e1, h3, h4, h5, h7 j _ ?_, h6 j, fun b => ?_, e2, by omega, by omega⟩
  · rw [List.getElem?_map, hl]; rfl
  · unfold BRow
    rw [List.length_set, List.map_set]
    exact h8 j _
end
section
variable {w : World} {ops : Array Oper} {rest : List Oper} {o : Oper} {a : Act} {Q : Exit → Act → World → Prop}
theorem wpl_append_strs (hgd : o.guard = none) (s x : Operand)
    (ho : o.op = .call { callee := .builtin .append, args := #[s, x], argTypes := #[96, 96] })
    (base : Nat) (v : Value) (L : List (List UInt8)) (hs : a.eval s = v) (hown : SRow w base v L)
    (B : Nat) (A : Option Addr) (c : Nat) (news : List (List UInt8)) (m : Nat) (hm : news.length = m) (hx : a.eval x = .slice A m c) (hr : Reads w B 1 A m (news.map sv))
    (hlen : (L.length + m) * 16 ≤ 140737488355328) (hbase : base ≤ w.heap.size)
    (h : ∀ v' w', SRow w' base v' (L ++ news) → w.grownBy w' v.ownBlock → wpList Try.prog ops Q rest (a.put o.dst v') w') : wpList Try.prog ops Q (o :: rest) a w := by
  obtain ⟨i0, hi, hz0, hz1, hz2⟩ := info_parts info_str
  refine wpList_plain hgd fun _ hK => wp_append_any w s x 96 ho base 9 i0 _ 1 16 Try.underlying96 hi hz0 hz1 hz2 rfl (by omega) v L.length (L.map sv) hs hown B A m c (news.map sv) hx hr (sv_one news)
    (by simp only [maxLen]; omega) hlen hbase fun v' w' h2 h3 h4 => hK _ _ (h v' w' ?_ h3)
  unfold SRow
  rw [List.length_append, List.map_append, hm]
  exact h2
theorem wpl_append_bools (hgd : o.guard = none) (s x : Operand)
    (ho : o.op = .call { callee := .builtin .append, args := #[s, x], argTypes := #[97, 97] })
    (base : Nat) (v : Value) (L : List Bool) (hs : a.eval s = v) (hown : BRow w base v L)
    (B : Nat) (A : Option Addr) (c : Nat) (news : List Bool) (m : Nat) (hm : news.length = m) (hx : a.eval x = .slice A m c) (hr : Reads w B 1 A m (news.map Value.bool))
    (hlen : L.length + m ≤ 140737488355328) (hbase : base ≤ w.heap.size)
    (h : ∀ v' w', BRow w' base v' (L ++ news) → w.grownBy w' v.ownBlock → wpList Try.prog ops Q rest (a.put o.dst v') w') : wpList Try.prog ops Q (o :: rest) a w := by
  obtain ⟨i0, hi, hz0, hz1, hz2⟩ := info_parts info_bool
  refine wpList_plain hgd fun _ hK => wp_append_any w s x 97 ho base 4 i0 _ 1 1 Try.underlying97 hi hz0 hz1 hz2 rfl (by omega) v L.length (L.map Value.bool) hs hown B A m c (news.map Value.bool) hx hr (fun u hu => by obtain ⟨x, _, rfl⟩ := List.mem_map.mp hu; rfl)
    (by simp only [maxLen]; omega) (by omega) hbase fun v' w' h2 h3 h4 => hK _ _ (h v' w' ?_ h3)
  unfold BRow
  rw [List.length_append, List.map_append, hm]
  exact h2
theorem wpl_make_bools (hgd : o.guard = none) (x y : Operand)
    (ho : o.op = .makeSlice 97 x y) (base : Nat) (n : Nat) (hx : a.eval x = .int .i64 n) (hy : a.eval y = .int .i64 n) (hn : n ≤ 140737488355328) (hbase : base ≤ w.heap.size)
    (h : ∀ w', BRow w' base (.slice (some ⟨w.heap.size, 0, none⟩) n n) (List.replicate n false) → Below w.heap.size w w' → wpList Try.prog ops Q rest (a.put o.dst (.slice (some ⟨w.heap.size, 0, none⟩) n n)) w') : wpList Try.prog ops Q (o :: rest) a w := by
  obtain ⟨i0, hi, hz0, hz1, hz2⟩ := info_parts info_bool
  refine wpList_make_full w hgd x y 97 ho base 4 i0 _ 1 Try.underlying97 hi hz0 hz1 .i64 .i64 n n n hx hy rfl rfl (by rw [hz2]; omega) (by simp only [maxLen]; omega) hbase fun w' h1 h2 => h w' ?_ ((Below.refl _ _).grown h2 (Nat.le_refl _) (fun _ hk => by cases hk))
  unfold BRow
  rw [List.length_replicate, List.map_replicate]
  have e : (madeCells (Value.bool false).cells (n * 1)).toList = List.replicate n (Value.bool false) := by
    rw [Nat.mul_one]; exact toList_madeCells_one _ n
  rw [e] at h1
  exact h1
end
/-- one value that was just laid, as a source -/
theorem Reads.lit1 (w : World) (a : Value) (t : TypeId) (B : Nat) (hB : w.heap.size < B) : Reads (w.alloc (.cells #[a] t)) B 1 (some ⟨w.heap.size, 0, none⟩) 1 [a] :=
  ⟨rfl, fun _ => ⟨_, rfl, hB, World.news_of_block (heap_alloc_new w _) |> fun hh j u hu => hh j u hu⟩⟩
end Go.Proofs.Ytfjhdcppehfiiaa
