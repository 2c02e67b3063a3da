/- Slices of bytes, more: make and copy, strings. -/
import Derived.Test.YtiliggleplpjbaaBytes
import Derived.Laws.CopyOwn
import Derived.Lib.AppendStr
namespace Go.Proofs.Ytiliggleplpjbaa
open Go Go.RowKit

theorem wpl_make {w : World} {ops : Array Oper} {rest : List Oper} {o : Oper} {a : Act} {Q : Exit → Act → World → Prop} (hgd : o.guard = none) (x y : Operand)
    (ho : o.op = .makeSlice 35 x y) (base : Nat) (n : Nat) (hx : a.eval x = .int .i64 n) (hy : a.eval y = .int .i64 n) (hn : n ≤ 140737488355328) (hbase : base ≤ w.heap.size)
    (h : ∀ w', OB w' base (.slice (some ⟨w.heap.size, 0, none⟩) n n) (List.replicate n 0) → Below w.heap.size w w' → wpList Try.prog ops Q rest (a.put o.dst (.slice (some ⟨w.heap.size, 0, none⟩) n n)) w') : wpList Try.prog ops Q (o :: rest) a w := by
  obtain ⟨i0, hi, hz0, hz1, hz2⟩ := info_parts info_u8
  refine wpList_make_full w hgd x y 35 ho base 5 i0 _ 1 Try.underlying35 hi hz0 hz1 .i64 .i64 n n n hx hy rfl rfl (by rw [hz2]; omega) (by simp only [maxLen]; omega) hbase fun w' h1 h2 => h w' ?_ ((Below.refl _ _).grown h2 (Nat.le_refl _) (fun _ hk => by cases hk))
  unfold OB
  rw [List.length_replicate, List.map_replicate]
  have e : (madeCells (Value.int .u8 0).cells (n * 1)).toList = List.replicate n (vb 0) := by
    rw [Nat.mul_one]; exact toList_madeCells_one _ n
  rw [e] at h1
  exact h1
theorem info8s : (Try.prog.info? 5).map (·.size) = some 1 := by kernel_rfl
theorem wpl_copy_full {w : World} {ops : Array Oper} {rest : List Oper} {o : Oper} {a : Act} {Q : Exit → Act → World → Prop} (hgd : o.guard = none) (d s : Operand)
    (ho : o.op = .call { callee := .builtin .copy, args := #[d, s], argTypes := #[35, 35] })
    (base g n : Nat) (zs : List UInt8) (hown : OB w base (.slice (some ⟨g, 0, none⟩) n n) zs) (B : Nat) (A : Option Addr) (c : Nat) (l : List UInt8) (hn : l.length = n)
    (hd : a.eval d = .slice (some ⟨g, 0, none⟩) n n) (hs : a.eval s = .slice A n c) (hr : Rd w B A l)
    (h : ∀ w', OB w' base (.slice (some ⟨g, 0, none⟩) n n) l → Below base w w' → wpList Try.prog ops Q rest (a.put o.dst (goInt n)) w') : wpList Try.prog ops Q (o :: rest) a w := by
  rcases hown.2 with ⟨hv, hz⟩ | ⟨g', cap, cur, hv, hb, hh, hnc, hcm, hcs, ht⟩
  · injection hv with h1; cases h1
  · injection hv with h1 h2 h3
    injection h1 with h1
    injection h1 with h1
    subst h1
    subst h3
    have hlen : (l.map vb).length = n := by simp [hn]
    refine wpList_copy_splice hgd d s 35 35 ho 5 Try.underlying35 info8s (some ⟨g, 0, none⟩) A n n n c hd hs g 0 cur.toList 5 (by simpa using hh) (l.map vb) (by rw [hlen]; exact (Nat.min_self n).symm)
      (fun hp => ?_) (by rw [hlen]; simp; omega) (vb_one l) base w (Below.refl _ _) hb (fun w' hw hb' => ?_)
    · rw [hlen] at hp
      obtain ⟨ad, e, _, hc⟩ := hr.2 (by omega)
      exact ⟨rfl, ad, e, hc⟩
    · rw [hlen]
      refine h w' ?_ hb'
      have hsp : splice cur.toList 0 (l.map vb) = l.map vb := by
        unfold splice
        rw [List.take_zero, List.nil_append, Nat.zero_add, List.drop_eq_nil_of_le (by rw [hlen]; simp; omega), List.append_nil]
      have hw := hw.out
      rw [hsp] at hw
      exact ⟨by simp, .inr ⟨g, n, (l.map vb).toArray, by rw [hn], hb, hw, by omega, hcm, by simp [hn], by rw [List.take_of_length_le (by simp)]⟩⟩
@[go_sem] theorem bs_size (l : List UInt8) : (bs l).size = l.length := by show l.toArray.size = l.length; simp
theorem bs_of (s : ByteArray) : ∃ l, s = bs l ∧ l.length = s.size := ⟨s.data.toList, by unfold bs; simp, by rw [Array.length_toList]; rfl⟩
theorem strCells_bs (l : List UInt8) : Lib.strCells (bs l) = l.map vb := by
  unfold Lib.strCells bs
  rfl
theorem wpl_append_str {w : World} {ops : Array Oper} {rest : List Oper} {o : Oper} {a : Act} {Q : Exit → Act → World → Prop} (hgd : o.guard = none) (s x : Operand)
    (ho : o.op = .call { callee := .builtin .append, args := #[s, x], argTypes := #[35, 9] })
    (base : Nat) (v : Value) (l : List UInt8) (hs : a.eval s = v) (hown : OB w base v l) (m : List UInt8) (hx : a.eval x = .string (bs m))
    (hlen : l.length + m.length ≤ 140737488355328) (hbase : base ≤ w.heap.size)
    (h : ∀ v' w', OB w' base v' (l ++ m) → w.grownBy w' v.ownBlock → wpList Try.prog ops Q rest (a.put o.dst v') w') : wpList Try.prog ops Q (o :: rest) a w := by
  obtain ⟨i0, hi, hz0, hz1, hz2⟩ := info_parts info_u8
  have hsz := bs_size m
  refine Lib.wpList_append_own_string w hgd s x 35 9 ho base 5 i0 Try.underlying35 Try.underlying9 hi hz0 hz1 hz2 v l.length (l.map vb) hs hown (bs m) hx
    (by simp only [maxLen]; omega) (by omega) hbase fun v' w' h1 h2 _ => h v' w' ?_ h2
  unfold OB
  rw [List.length_append, List.map_append]
  rw [hsz, strCells_bs] at h1
  exact h1
end Go.Proofs.Ytiliggleplpjbaa
