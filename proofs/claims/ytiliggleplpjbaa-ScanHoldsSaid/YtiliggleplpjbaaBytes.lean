/- Slices of bytes of the call's own, over this program. -/
import Derived.Test.YtiliggleplpjbaaChecked
import Derived.Test.YtiliggleplpjbaaCls
namespace Go.Proofs.Ytiliggleplpjbaa
open Go Go.RowKit

theorem info_u8 : (Try.prog.info? 5).map (fun i => (i.zero, i.size, i.bytes)) = some (some (.int .u8 0), 1, 1) := by kernel_rfl
/-- v is a slice of bytes of the call's own (from block base on) that holds l -/
def OB (w : World) (base : Nat) (v : Value) (l : List UInt8) : Prop := w.ownsRow base 5 1 v l.length (l.map vb)
section
variable {w w' : World} {base : Nat} {v : Value} {l : List UInt8}
theorem OB.form (h : OB w base v l) : ∃ A c, v = .slice A l.length c ∧ l.length ≤ c ∧ c ≤ maxLen ∧ Rd w w.heap.size A l ∧ (∀ ad, A = some ad → base ≤ ad.block) := by
  rcases h.2 with ⟨rfl, hn⟩ | ⟨g, cap, cur, rfl, hb, hh, hnc, hcm, _⟩
  · have hl : l = [] := List.eq_nil_of_length_eq_zero hn
    subst hl
    exact ⟨none, 0, rfl, Nat.zero_le _, Nat.zero_le _, Rd.nil_, fun _ h => by cases h⟩
  · exact ⟨_, cap, rfl, hnc, hcm, Reads.of_own h, fun ad h => by injection h with h; subst h; exact hb⟩
theorem OB.empty (w : World) (base : Nat) (hb : base ≤ w.heap.size) : OB (w.alloc (.cells #[] 5)) base (.slice (some ⟨w.heap.size, 0, none⟩) 0 0) [] :=
  World.ownsRow_made w #[] 0 hb (by simp [maxLen]) rfl
theorem OB.nil_ (w : World) (base : Nat) : OB w base (.slice none 0 0) [] := World.ownsRow_nil w base _ 1
theorem OB.alloc (h : OB w base v l) (o : Obj) : OB (w.alloc o) base v l := World.ownsRow.alloc h o
theorem OB.drew (h : OB w base v l) : OB w.drew base v l := World.ownsRow.drew h
theorem OB.below (h : OB w base v l) (hb : Below w.heap.size w w') : OB w' base v l :=
  h.kept (row := none) ⟨hb.os, hb.tape, hb.output, hb.size, fun k hk _ => hb.block k hk⟩ (by cases hv : v.ownBlock <;> simp)
theorem OB.lt (h : OB w base v l) : ∀ k, v.ownBlock = some k → base ≤ k ∧ k < w.heap.size := World.ownsRow.lt h
theorem OB.up (h : OB w base v l) : ∀ k, v.ownBlock = some k → base ≤ k := fun k hk => (h.lt k hk).1
theorem OB.more {base' : Nat} (h : OB w base v l) (hb : base' ≤ base) : OB w base' v l := by
  refine ⟨h.1, ?_⟩
  rcases h.2 with hn | ⟨g, cap, cur, e, hg, r⟩
  · exact .inl hn
  · exact .inr ⟨g, cap, cur, e, by omega, r⟩
/-- behind an append: what was new is new -/
theorem below_app {w0 : World} (h : OB w base v l) (hb : Below base w0 w) (hbase : base ≤ w.heap.size) (hg : w.grownBy w' v.ownBlock) : Below base w0 w' :=
  hb.grown hg hbase h.up
end
theorem wpl_append {w : World} {ops : Array Oper} {rest : List Oper} {o : Oper} {a : Act} {Q : Exit → Act → World → Prop} (hgd : o.guard = none) (s x : Operand)
    (ho : o.op = .call { callee := .builtin .append, args := #[s, x], argTypes := #[35, 35] })
    (base : Nat) (v : Value) (l : List UInt8) (hs : a.eval s = v) (hown : OB w base v l)
    (B : Nat) (A : Option Addr) (c : Nat) (news : List UInt8) (hx : a.eval x = .slice A news.length c) (hr : Rd w B A news)
    (hlen : l.length + news.length ≤ 140737488355328) (hbase : base ≤ w.heap.size)
    (h : ∀ v' w', OB w' base v' (l ++ news) → w.grownBy w' v.ownBlock → (v'.ownBlock = v.ownBlock ∨ v'.ownBlock = some w.heap.size) → wpList Try.prog ops Q rest (a.put o.dst v') w') : wpList Try.prog ops Q (o :: rest) a w := by
  obtain ⟨i0, hi, hz0, hz1, hz2⟩ := info_parts info_u8
  refine wpList_plain hgd fun _ hK => wp_append_any w s x 35 ho base 5 i0 _ 1 1 Try.underlying35 hi hz0 hz1 hz2 rfl (by omega) v l.length (l.map vb) hs hown B A news.length c (news.map vb) hx hr (vb_one news)
    (by simp only [maxLen]; omega) (by omega) hbase fun v' w' h2 h3 h4 => hK _ _ (h v' w' ?_ h3 h4)
  unfold OB
  rw [List.length_append, List.map_append]
  exact h2

/-- .. at a step of a region that draws its order -/
theorem step_append {w : World} {ops : Array Oper} {o : Oper} {a : Act} {K : Act → World → Prop} {Q : Exit → Act → World → Prop} {E : Prop} (hgd : o.guard = none) (s x : Operand)
    (ho : o.op = .call { callee := .builtin .append, args := #[s, x], argTypes := #[35, 35] })
    (base : Nat) (v : Value) (l : List UInt8) (hs : a.eval s = v) (hown : OB w base v l)
    (B : Nat) (A : Option Addr) (c : Nat) (news : List UInt8) (hx : a.eval x = .slice A news.length c) (hr : Rd w B A news)
    (hlen : l.length + news.length ≤ 140737488355328) (hbase : base ≤ w.heap.size)
    (h : ∀ v' w', OB w' base v' (l ++ news) → w.grownBy w' v.ownBlock → (v'.ownBlock = v.ownBlock ∨ v'.ownBlock = some w.heap.size) → K (a.put o.dst v') w') :
    if Region.wanted o (yielded ops a.tmps) = true then Oper.wp Try.prog o a w K Q else E := by
  have hw : Region.wanted o (yielded ops a.tmps) = true := by simp [Region.wanted, hgd]
  rw [if_pos hw]
  obtain ⟨i0, hi, hz0, hz1, hz2⟩ := info_parts info_u8
  refine wp_append_any w s x 35 ho base 5 i0 _ 1 1 Try.underlying35 hi hz0 hz1 hz2 rfl (by omega) v l.length (l.map vb) hs hown B A news.length c (news.map vb) hx hr (vb_one news)
    (by simp only [maxLen]; omega) (by omega) hbase fun v' w' h2 h3 h4 => h v' w' ?_ h3 h4
  unfold OB
  rw [List.length_append, List.map_append]
  exact h2
/-- the string of these bytes -/
def bs (l : List UInt8) : ByteArray := ⟨l.toArray⟩
theorem bs_inj {l m : List UInt8} (h : bs l = bs m) : l = m := by
  unfold bs at h
  injection h with h
  simpa using congrArg Array.toList h
@[go_sem] theorem bs_toList (l : List UInt8) : (bs l).toList = l := by rw [ByteArray.toList_eq]; simp [bs]
theorem run_str {w : World} {B : Nat} {A : Option Addr} {l : List UInt8} (c : Nat) (h : Rd w B A l) :
    (convert 35 9 (.slice A l.length c)).run Try.prog w = .ok (.string (bs l)) w := by
  rcases A with _ | ad
  · have hl : l = [] := by
      rcases l with _ | ⟨x, l⟩
      · rfl
      · obtain ⟨_, h, _⟩ := h.at_ (k := 0) (by simp)
        cases h
    subst hl
    rw [run_convert_bytes_string w _ 9 5 none _ c Try.underlying35 Try.underlying5 Try.underlying9]
    rfl
  · exact run_convert_bytes_back w _ _ _ ad c l Try.underlying35 Try.underlying5 Try.underlying9 (fun j hj => by
      obtain ⟨ad', e, _, hc⟩ := h.at_ hj
      injection e with e
      subst e
      exact hc)
theorem run_str_at {w : World} {B n : Nat} {A : Option Addr} {l : List UInt8} (c : Nat) (h : Rd w B A l) (hn : l.length = n) :
    (convert 35 9 (.slice A n c)).run Try.prog w = .ok (.string (bs l)) w := by
  subst hn; exact run_str c h
/-- a store into a slice of the call's own -/
theorem OB.store {w : World} {base n : Nat} {A : Option Addr} {c : Nat} {l : List UInt8} (h : OB w base (.slice A n c) l) {k : Nat} (hk : k < l.length) :
    ∃ g, A = some ⟨g, 0, none⟩ ∧ base ≤ g ∧ g < w.heap.size ∧ w.cell? ⟨g, k, none⟩ = some (.int .u8 (U l[k])) ∧ w.frozen? ⟨g, k, none⟩ = false ∧
      ∀ u, OB (w.setCell ⟨g, k, none⟩ (.int .u8 (U u))) base (.slice A n c) (l.set k u) := by
  rcases h.2 with ⟨hv, hn⟩ | ⟨g, cap, cur, hv, hb, hg, hnc, hcm, hcs, ht⟩
  · exact absurd hn (by omega)
  · injection hv with h1 h2 h3
    subst h1
    subst h2
    subst h3
    have ho : w.ownsRow base 5 1 (.slice (some ⟨g, 0, none⟩) l.length c) l.length (l.map vb) := h
    refine ⟨g, rfl, hb, (Array.getElem?_eq_some_iff.1 hg).1, ?_, ho.frozenAt k, fun u => ?_⟩
    · rw [ho.cellAt k (by omega), List.getElem?_map, List.getElem?_eq_getElem hk]; rfl
    · have := (ho.stored k (.int .u8 (U u))).1
      unfold OB
      rw [List.length_set, List.map_set]
      exact this
theorem OB.rd {w : World} {base n : Nat} {A : Option Addr} {c : Nat} {l : List UInt8} (h : OB w base (.slice A n c) l) : Rd w w.heap.size A l ∧ l.length ≤ c := by
  obtain ⟨A', c', hv, hc, _, hr, _⟩ := h.form
  injection hv with h1 h2 h3
  subst h1
  subst h3
  exact ⟨hr, hc⟩
end Go.Proofs.Ytiliggleplpjbaa
