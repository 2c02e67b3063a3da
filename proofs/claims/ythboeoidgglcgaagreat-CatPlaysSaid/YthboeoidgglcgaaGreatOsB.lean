/- Rows of texts of the call's own. -/
import Derived.Test.YthboeoidgglcgaaGreatBytes
import Derived.Test.YthboeoidgglcgaaGreatTyp
namespace Go.Proofs.YthboeoidgglcgaaGreat
set_option linter.unusedVariables false
open Go Go.RowKit
theorem info_str : (Tryz.prog.info? 9).map (fun i => (i.zero, i.size, i.bytes)) = some (some (.string ⟨#[]⟩), 1, 16) := by kernel_rfl
def sV (k : List UInt8) : Value := .string (bs k)
/-- v is a row of texts of the call's own (from block base on) that holds l -/
def OS (l : List (List UInt8)) (v : Value) (base : Nat) (w : World) : Prop := w.ownsRow base 9 1 v l.length (l.map sV)
theorem strs_one (l : List (List UInt8)) : ∀ v ∈ l.map sV, v.oneCell' = true := fun v hv => by
  obtain ⟨j, -, rfl⟩ := List.mem_map.mp hv
  rfl
theorem sV_lit (w : World) (k : List UInt8) : Reads (w.alloc (.cells #[.string (bs k)] 9)) (w.heap.size + 1) 1 (some ⟨w.heap.size, 0, none⟩) 1 [sV k] := by
  have hh := World.news_of_block (heap_alloc_new w (.cells #[.string (bs k)] 9))
  exact ⟨rfl, fun _ => ⟨_, rfl, Nat.lt_succ_self _, fun j u hu => hh j u hu⟩⟩
theorem wp_appS {w : World} {o : Oper} {a : Act} {Q : Exit → Act → World → Prop} {K : Act → World → Prop} (s x : Operand)
    (ho : o.op = .call { callee := .builtin .append, args := #[s, x], argTypes := #[65, 65] })
    (base : Nat) (v : Value) (l : List (List UInt8)) (hs : a.eval s = v) (hown : OS l v base w) (A : Option Addr) (c B : Nat) (k : List UInt8) (hx : a.eval x = .slice A 1 c) (hr : Reads w B 1 A 1 [sV k])
    (hlen : l.length ≤ 100000000) (hbase : base ≤ w.heap.size)
    (h : ∀ v' w', OS (l ++ [k]) v' base w' → w.grownBy w' v.ownBlock → K (a.put o.dst v') w') : Oper.wp Tryz.prog o a w K Q := by
  obtain ⟨i0, hi, hz0, hz1, hz2⟩ := info_parts info_str
  refine wp_append_any w s x 65 ho base 9 i0 _ 1 16 Tryz.underlying65 hi hz0 hz1 hz2 rfl (by omega) v l.length (l.map sV) hs hown B A 1 c [sV k] hx hr (strs_one [k])
    (by simp only [maxLen]; omega) (by omega) hbase fun v' w' h2 h3 h4 => h v' w' ?_ h3
  unfold OS
  rw [List.length_append, List.map_append]; exact h2
theorem wpl_appS {w : World} {ops : Array Oper} {rest : List Oper} {o : Oper} {a : Act} {Q : Exit → Act → World → Prop} (hgd : o.guard = none) (s x : Operand)
    (ho : o.op = .call { callee := .builtin .append, args := #[s, x], argTypes := #[65, 65] })
    (base : Nat) (v : Value) (l : List (List UInt8)) (hs : a.eval s = v) (hown : OS l v base w) (A : Option Addr) (c B : Nat) (k : List UInt8) (hx : a.eval x = .slice A 1 c) (hr : Reads w B 1 A 1 [sV k])
    (hlen : l.length ≤ 100000000) (hbase : base ≤ w.heap.size)
    (h : ∀ v' w', OS (l ++ [k]) v' base w' → w.grownBy w' v.ownBlock → wpList Tryz.prog ops Q rest (a.put o.dst v') w') : wpList Tryz.prog ops Q (o :: rest) a w :=
  wpList_plain hgd fun _ hK => wp_appS s x ho base v l hs hown A c B k hx hr hlen hbase fun v' w' h2 h3 => hK _ _ (h v' w' h2 h3)
theorem OS.nil_ (w : World) (base : Nat) : OS [] (.slice none 0 0) base w := World.ownsRow_nil w base _ 1
theorem OS.below {w w' : World} {l : List (List UInt8)} {v : Value} {base : Nat} (hb : Below w.heap.size w w') (h : OS l v base w) : OS l v base w' := row_below h hb
theorem OS.form {w : World} {l : List (List UInt8)} {v : Value} {base : Nat} (h : OS l v base w) : ∃ A c, v = .slice A l.length c ∧ l.length ≤ c ∧ c ≤ maxLen := row_form h
theorem OS.at_ {w : World} {l : List (List UInt8)} {A : Option Addr} {n c base : Nat} (h : OS l (.slice A n c) base w) (hn : 0 < l.length) : ∃ g, A = some ⟨g, 0, none⟩ ∧ n = l.length ∧ base ≤ g ∧ g < w.heap.size ∧ ∀ j k, l[j]? = some k → w.cell? ⟨g, j, none⟩ = some (.string (bs k)) := by
  obtain ⟨g, c', e, -, -, hb, hg, -, -, hc, -⟩ := row_at h hn
  injection e with e1 e2 e3
  exact ⟨g, e1, e2, hb, hg, fun j k hk => hc j _ (by rw [List.getElem?_map, hk]; rfl)⟩
end Go.Proofs.YthboeoidgglcgaaGreat
