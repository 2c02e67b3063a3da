/- place: lists of cartridges and of numbers in memory. -/
import Derived.Test.YtfiaedhdgbnfiaaPkM
import Derived.Test.YtfiaedhdgbnfiaaTyp6
import Derived.Test.YtfiaedhdgbnfiaaTab
import Derived.LoopTactic
import Derived.WalkSpells
import Derived.Deep.DeepMust
import Derived.Deep.QuietTactic
import Derived.BigQuiet
namespace Go.Proofs.Ytfiaedhdgbnfiaa
set_option linter.unusedVariables false
set_option linter.unusedSimpArgs false
open Go Go.RowKit
def Gr (w w' : World) : Prop := Below w.heap.size w w'
theorem Gr.refl (w : World) : Gr w w := Below.refl _ w
theorem Gr.trans {x y z : World} (h1 : Gr x y) (h2 : Gr y z) : Gr x z := Below.trans h1 (Below.mono h2 (Below.size h1))
theorem Gr.road : Road Gr := ⟨fun x => Below.refl _ x, fun h1 h2 => h1.trans h2⟩
theorem Gr.alloc (w : World) (o : Obj) : Gr w (w.alloc o) := (Below.refl _ w).alloc (Nat.le_refl _) o
theorem Gr.on {a w w' : World} (hr : Gr w w') (h : Hid (Gr a w)) : Hid (Gr a w') := Lib.hid (h.out.trans hr)
theorem i64_wrap_id {m : Int} (h1 : -9223372036854775808 ≤ m) (h2 : m ≤ 9223372036854775807) : IntKind.i64.wrap m = m := by
  rw [IntKind.wrap_i64]; omega
def icells (l : List Int) : List Value := l.map (Value.int .i64)
def encF (x : Fr) : List Value := [.int .i64 x.1, .int .i64 x.2]
def flatF (l : List Fr) : List Value := l.flatMap encF
theorem icells_len (l : List Int) : (icells l).length = l.length := List.length_map _
theorem icells_app (l m : List Int) : icells (l ++ m) = icells l ++ icells m := List.map_append
theorem icells_at {l : List Int} {i : Nat} {x : Int} (h : l[i]? = some x) : (icells l)[i]? = some (.int .i64 x) := by unfold icells; rw [List.getElem?_map, h]; rfl
theorem icells_one (l : List Int) : ∀ v ∈ icells l, v.oneCell' = true := fun v hv => by
  unfold icells at hv
  obtain ⟨j, -, rfl⟩ := List.mem_map.mp hv
  rfl
theorem flatF_len (l : List Fr) : (flatF l).length = l.length * 2 := by
  induction l with
  | nil => rfl
  | cons q l ih => simp [flatF, encF] at *; omega
theorem flatF_app (l m : List Fr) : flatF (l ++ m) = flatF l ++ flatF m := by simp [flatF]
theorem flatF_at {l : List Fr} {i : Nat} {x : Fr} (h : l[i]? = some x) : (flatF l)[i * 2]? = some (.int .i64 x.1) ∧ (flatF l)[i * 2 + 1]? = some (.int .i64 x.2) := by
  induction l generalizing i with
  | nil => simp at h
  | cons p l ih =>
    cases i with
    | zero => simp at h; subst h; exact ⟨rfl, rfl⟩
    | succ i =>
      have h' : l[i]? = some x := by simpa using h
      obtain ⟨a, b⟩ := ih h'
      rw [show (i + 1) * 2 = i * 2 + 2 from by omega]
      exact ⟨a, b⟩
theorem flatF_one (l : List Fr) : ∀ v ∈ flatF l, v.oneCell' = true := fun v hv => by
  unfold flatF at hv
  obtain ⟨x, -, h⟩ := List.mem_flatMap.mp hv
  simp [encF] at h
  rcases h with rfl | rfl <;> rfl
/-- a slice of numbers that reads as l -/
def Ints (l : List Int) (v : Value) (w : World) : Prop := ∃ A c, v = .slice A l.length c ∧ l.length ≤ c ∧ c ≤ maxLen ∧
  (0 < l.length → ∃ b o, A = some ⟨b, o, none⟩ ∧ b < w.heap.size ∧ ∀ i x, l[i]? = some x → w.cell? ⟨b, o + i, none⟩ = some (.int .i64 x)) ∧ ∀ x ∈ l, I64 x
/-- a slice of cartridges that reads as l -/
def Frs (l : List Fr) (v : Value) (w : World) : Prop := ∃ A c, v = .slice A l.length c ∧ l.length ≤ c ∧ c ≤ maxLen ∧
  (0 < l.length → ∃ b o, A = some ⟨b, o, none⟩ ∧ b < w.heap.size ∧ ∀ i x, l[i]? = some x → w.cell? ⟨b, o + i * 2, none⟩ = some (.int .i64 x.1) ∧ w.cell? ⟨b, o + i * 2 + 1, none⟩ = some (.int .i64 x.2)) ∧ ∀ x ∈ l, I64 x.1 ∧ I64 x.2
theorem cellGr {w w' : World} (hr : Gr w w') {a : Addr} (hb : a.block < w.heap.size) : w'.cell? a = w.cell? a := Below.cell hr hb
theorem Ints.gr {l : List Int} {v : Value} {w w' : World} (hr : Gr w w') (h : Hid (Ints l v w)) : Hid (Ints l v w') := Lib.hid (by
  obtain ⟨A, c, e, h1, h2, h3, h4⟩ := h.out
  refine ⟨A, c, e, h1, h2, fun hp => ?_, h4⟩
  obtain ⟨b, o, e, hb, hc⟩ := h3 hp
  exact ⟨b, o, e, Nat.lt_of_lt_of_le hb (Below.size hr), fun i x hx => (cellGr hr hb).trans (hc i x hx)⟩)
theorem Frs.gr {l : List Fr} {v : Value} {w w' : World} (hr : Gr w w') (h : Hid (Frs l v w)) : Hid (Frs l v w') := Lib.hid (by
  obtain ⟨A, c, e, h1, h2, h3, h4⟩ := h.out
  refine ⟨A, c, e, h1, h2, fun hp => ?_, h4⟩
  obtain ⟨b, o, e, hb, hc⟩ := h3 hp
  exact ⟨b, o, e, Nat.lt_of_lt_of_le hb (Below.size hr), fun i x hx => ⟨(cellGr hr hb).trans (hc i x hx).1, (cellGr hr hb).trans (hc i x hx).2⟩⟩)
theorem Ints.of_tab {w : World} {A : Option Addr} {n c : Nat} {F : Nat → Nat → Int} (h : Tab w w.heap.size 1 A n F) (hc : n ≤ c) (hm : c ≤ maxLen) : Ints ((List.range n).map fun i => F i 0) (.slice A n c) w := by
  have hl : ((List.range n).map fun i => F i 0).length = n := by simp
  refine ⟨A, c, by rw [hl], by omega, hm, fun hp => ?_, fun x hx => ?_⟩
  · obtain ⟨b, o, e, hb, ht⟩ := h.1 (by omega)
    refine ⟨b, o, e, hb, fun i x hx => ?_⟩
    obtain ⟨hi, hx⟩ := List.getElem?_eq_some_iff.mp hx
    have := ht i 0 (by omega) (by omega)
    rw [show o + i * 1 + 0 = o + i from by omega] at this
    rw [this, ← hx]; simp
  · obtain ⟨i, hi, rfl⟩ := List.mem_map.mp hx
    exact h.2 i 0 (List.mem_range.mp hi) (by omega)
theorem Frs.of_tab {w : World} {A : Option Addr} {n c : Nat} {F : Nat → Nat → Int} (h : Tab w w.heap.size 2 A n F) (hc : n ≤ c) (hm : c ≤ maxLen) : Frs ((List.range n).map fun i => (F i 0, F i 1)) (.slice A n c) w := by
  have hl : ((List.range n).map fun i => (F i 0, F i 1)).length = n := by simp
  refine ⟨A, c, by rw [hl], by omega, hm, fun hp => ?_, fun x hx => ?_⟩
  · obtain ⟨b, o, e, hb, ht⟩ := h.1 (by omega)
    refine ⟨b, o, e, hb, fun i x hx => ?_⟩
    obtain ⟨hi, hx⟩ := List.getElem?_eq_some_iff.mp hx
    have h0 := ht i 0 (by omega) (by omega)
    have h1 := ht i 1 (by omega) (by omega)
    rw [Nat.add_zero] at h0
    rw [h0, h1, ← hx]; simp
  · obtain ⟨i, hi, rfl⟩ := List.mem_map.mp hx
    exact ⟨h.2 i 0 (List.mem_range.mp hi) (by omega), h.2 i 1 (List.mem_range.mp hi) (by omega)⟩
theorem Ints.nil_ (w : World) (A : Option Addr) (c : Nat) (h : c ≤ maxLen) : Ints [] (.slice A 0 c) w := ⟨A, c, rfl, Nat.zero_le _, h, fun h => absurd h (by simp), fun x h => by cases h⟩
theorem Frs.nil_ (w : World) (A : Option Addr) (c : Nat) (h : c ≤ maxLen) : Frs [] (.slice A 0 c) w := ⟨A, c, rfl, Nat.zero_le _, h, fun h => absurd h (by simp), fun x h => by cases h⟩
/-- a slice of numbers of the call's own -/
def OI (l : List Int) (v : Value) (base : Nat) (w : World) : Prop := w.ownsRow base 3 1 v l.length (icells l) ∧ ∀ x ∈ l, I64 x
/-- a slice of cartridges of the call's own -/
def OF (l : List Fr) (v : Value) (base : Nat) (w : World) : Prop := w.ownsRow base 32 2 v l.length (flatF l) ∧ ∀ x ∈ l, I64 x.1 ∧ I64 x.2
theorem info_int : (Try.prog.info? 3).map (fun i => (i.zero, i.size, i.bytes)) = some (some (.int .i64 0), 1, 8) := by kernel_rfl
theorem info_free : (Try.prog.info? 32).map (fun i => (i.zero, i.size, i.bytes)) = some (some (.agg #[.int .i64 0, .int .i64 0]), 2, 16) := by kernel_rfl
section
variable {w w' : World} {base : Nat} {v : Value} {l : List Int} {m : List Fr}
theorem OI.nil_ (w : World) (base : Nat) : OI [] (.slice none 0 0) base w := ⟨World.ownsRow_nil w base _ 1, fun x h => by cases h⟩
theorem OF.nil_ (w : World) (base : Nat) : OF [] (.slice none 0 0) base w := ⟨World.ownsRow_nil w base _ 2, fun x h => by cases h⟩
theorem OI.empty (w : World) (base : Nat) (hb : base ≤ w.heap.size) : OI [] (.slice (some ⟨w.heap.size, 0, none⟩) 0 0) base (w.alloc (.cells #[] 3)) := ⟨World.ownsRow_made w #[] 0 hb (by simp [maxLen]) rfl, fun x h => by cases h⟩
theorem OF.empty (w : World) (base : Nat) (hb : base ≤ w.heap.size) : OF [] (.slice (some ⟨w.heap.size, 0, none⟩) 0 0) base (w.alloc (.cells #[] 32)) := ⟨World.ownsRow_made w #[] 0 hb (by simp [maxLen]) rfl, fun x h => by cases h⟩
theorem OI.gr (hr : Gr w w') (h : Hid (OI l v base w)) : Hid (OI l v base w') := Lib.hid ⟨row_below h.out.1 hr, h.out.2⟩
theorem OF.gr (hr : Gr w w') (h : Hid (OF m v base w)) : Hid (OF m v base w') := Lib.hid ⟨row_below h.out.1 hr, h.out.2⟩
theorem OI.up (h : OI l v base w) : ∀ k, v.ownBlock = some k → base ≤ k := fun k hk => (World.ownsRow.lt h.1 k hk).1
theorem OF.up (h : OF m v base w) : ∀ k, v.ownBlock = some k → base ≤ k := fun k hk => (World.ownsRow.lt h.1 k hk).1
theorem OI.lo {base' : Nat} (h : OI l v base w) (hb : base' ≤ base) : OI l v base' w := by
  refine ⟨⟨h.1.1, ?_⟩, h.2⟩
  rcases h.1.2 with hn | ⟨g, cap, cur, e, hg, r⟩
  · exact .inl hn
  · exact .inr ⟨g, cap, cur, e, by omega, r⟩
theorem OI.form (h : OI l v base w) : ∃ A c, v = .slice A l.length c ∧ l.length ≤ c ∧ c ≤ maxLen := row_form h.1
theorem OF.form (h : OF m v base w) : ∃ A c, v = .slice A m.length c ∧ m.length ≤ c ∧ c ≤ maxLen := row_form h.1
theorem addr0 (b j : Nat) : (⟨b, 0, none⟩ : Addr).add j = ⟨b, j, none⟩ := by unfold Addr.add; split <;> simp_all
theorem OI.ints (h : OI l v base w) : Ints l v w := by
  obtain ⟨A, c, rfl, h1, h2⟩ := h.form
  refine ⟨A, c, rfl, h1, h2, fun hp => ?_, h.2⟩
  have hr := Reads.of_own h.1
  obtain ⟨g, cap, hv, _, hlt⟩ := World.ownsRow.form h.1 hp
  have hA : A = some ⟨g, 0, none⟩ := by injection hv
  subst hA
  obtain ⟨ad, e, hb, hc⟩ := hr.2 hp
  injection e with e
  subst e
  refine ⟨g, 0, rfl, hb, fun i x hx => ?_⟩
  have := hc i _ (icells_at hx)
  rwa [addr0, ← Nat.zero_add i] at this
theorem OF.frs (h : OF m v base w) : Frs m v w := by
  obtain ⟨A, c, rfl, h1, h2⟩ := h.form
  refine ⟨A, c, rfl, h1, h2, fun hp => ?_, h.2⟩
  have hr := Reads.of_own h.1
  obtain ⟨g, cap, hv, _, hlt⟩ := World.ownsRow.form h.1 hp
  have hA : A = some ⟨g, 0, none⟩ := by injection hv
  subst hA
  obtain ⟨ad, e, hb, hc⟩ := hr.2 hp
  injection e with e
  subst e
  refine ⟨g, 0, rfl, hb, fun i x hx => ?_⟩
  have a := hc _ _ (flatF_at hx).1
  have b := hc _ _ (flatF_at hx).2
  rw [addr0] at a b
  rw [Nat.zero_add]
  exact ⟨a, b⟩
theorem Ints.reads (h : Ints l v w) : ∃ A c, v = .slice A l.length c ∧ Reads w w.heap.size 1 A l.length (icells l) := by
  obtain ⟨A, c, e, h1, h2, h3, h4⟩ := h
  refine ⟨A, c, e, by rw [icells_len]; omega, fun hp => ?_⟩
  obtain ⟨b, o, e, hb, hc⟩ := h3 hp
  refine ⟨_, e, hb, fun j u hu => ?_⟩
  unfold icells at hu
  rw [List.getElem?_map, Option.map_eq_some_iff] at hu
  obtain ⟨x, hx, rfl⟩ := hu
  have := hc j x hx
  rw [← this]
  congr 1
  unfold Addr.add; split <;> simp_all
theorem Frs.reads (h : Frs m v w) : ∃ A c, v = .slice A m.length c ∧ Reads w w.heap.size 2 A m.length (flatF m) := by
  obtain ⟨A, c, e, h1, h2, h3, h4⟩ := h
  refine ⟨A, c, e, by rw [flatF_len], fun hp => ?_⟩
  obtain ⟨b, o, e, hb, hc⟩ := h3 hp
  refine ⟨_, e, hb, fun j u hu => ?_⟩
  have hj : j < m.length * 2 := by rw [← flatF_len]; exact (List.getElem?_eq_some_iff.mp hu).1
  obtain ⟨x, hx⟩ : ∃ x, m[j / 2]? = some x := ⟨_, List.getElem?_eq_getElem (by omega)⟩
  have e1 : ∀ i, (⟨b, o, none⟩ : Addr).add i = ⟨b, o + i, none⟩ := fun i => by unfold Addr.add; split <;> simp_all
  rw [e1]
  rcases (by omega : j = j / 2 * 2 ∨ j = j / 2 * 2 + 1) with e2 | e2
  · have a := (flatF_at hx).1
    rw [← e2, hu] at a
    injection a with a
    have := (hc _ x hx).1
    rw [← e2] at this
    rw [this, a]
  · have a := (flatF_at hx).2
    rw [← e2, hu] at a
    injection a with a
    have := (hc _ x hx).2
    rw [Nat.add_assoc, ← e2] at this
    rw [this, a]
end
theorem Ints.one (w : World) (x : Int) (hx : I64 x) (t : TypeId) : Ints [x] (.slice (some ⟨w.heap.size, 0, none⟩) 1 1) (w.alloc (.cells #[.int .i64 x] t)) :=
  ⟨_, _, rfl, Nat.le_refl _, by decide, fun _ => ⟨_, _, rfl, by simp, fun i y hy => by
    match i, hy with
    | 0, hy => simp at hy; subst hy; exact cell_new w _ t rfl⟩, fun y hy => by simp at hy; subst hy; exact hx⟩
theorem Frs.one (w : World) (x : Fr) (hx : I64 x.1 ∧ I64 x.2) (t : TypeId) : Frs [x] (.slice (some ⟨w.heap.size, 0, none⟩) 1 1) (w.alloc (.cells #[.int .i64 x.1, .int .i64 x.2] t)) :=
  ⟨_, _, rfl, Nat.le_refl _, by decide, fun _ => ⟨_, _, rfl, by simp, fun i y hy => by
    match i, hy with
    | 0, hy => simp at hy; subst hy; exact ⟨cell_new w _ t rfl, cell_new w _ t rfl⟩⟩, fun y hy => by simp at hy; subst hy; exact hx⟩
theorem wpl_appI {w : World} {ops : Array Oper} {rest : List Oper} {o : Oper} {a : Act} {Q : Exit → Act → World → Prop} (hgd : o.guard = none) (s x : Operand)
    (ho : o.op = .call { callee := .builtin .append, args := #[s, x], argTypes := #[23, 23] })
    (base : Nat) (v u : Value) (l news : List Int) (hs : a.eval s = v) (hown : OI l v base w) (hx : a.eval x = u) (hr : Ints news u w)
    (hlen : l.length + news.length ≤ 100000000) (hbase : base ≤ w.heap.size)
    (h : ∀ v' w', OI (l ++ news) v' base w' → Below base w w' → wpList Try.prog ops Q rest (a.put o.dst v') w') : wpList Try.prog ops Q (o :: rest) a w := by
  obtain ⟨i0, hi, hz0, hz1, hz2⟩ := info_parts info_int
  obtain ⟨A, c, rfl, hrd⟩ := hr.reads
  refine wpList_plain hgd fun _ hK => wp_append_any w s x 23 ho base 3 i0 _ 1 8 Try.underlying23 hi hz0 hz1 hz2 rfl (by omega) v l.length (icells l) hs hown.1 w.heap.size A news.length c (icells news) hx hrd (icells_one news)
    (by simp only [maxLen]; omega) (by omega) hbase fun v' w' h2 h3 h4 => hK _ _ (h v' w' ⟨?_, ?_⟩ ((Below.refl base w).grown h3 hbase hown.up))
  · rw [List.length_append, icells_app]; exact h2
  · intro y hy
    obtain ⟨_, _, _, _, _, _, h9⟩ := hr
    rcases List.mem_append.mp hy with h | h
    · exact hown.2 y h
    · exact h9 y h
theorem wpl_appF {w : World} {ops : Array Oper} {rest : List Oper} {o : Oper} {a : Act} {Q : Exit → Act → World → Prop} (hgd : o.guard = none) (s x : Operand)
    (ho : o.op = .call { callee := .builtin .append, args := #[s, x], argTypes := #[22, 22] })
    (base : Nat) (v u : Value) (l news : List Fr) (hs : a.eval s = v) (hown : OF l v base w) (hx : a.eval x = u) (hr : Frs news u w)
    (hlen : l.length + news.length ≤ 100000000) (hbase : base ≤ w.heap.size)
    (h : ∀ v' w', OF (l ++ news) v' base w' → w.grownBy w' v.ownBlock → (v'.ownBlock = v.ownBlock ∨ v'.ownBlock = some w.heap.size) → wpList Try.prog ops Q rest (a.put o.dst v') w') : wpList Try.prog ops Q (o :: rest) a w := by
  obtain ⟨i0, hi, hz0, hz1, hz2⟩ := info_parts info_free
  obtain ⟨A, c, rfl, hrd⟩ := hr.reads
  refine wpList_plain hgd fun _ hK => wp_append_any w s x 22 ho base 32 i0 _ 2 16 Try.underlying22 hi hz0 hz1 hz2 rfl (by omega) v l.length (flatF l) hs hown.1 w.heap.size A news.length c (flatF news) hx hrd (flatF_one news)
    (by simp only [maxLen]; omega) (by omega) hbase fun v' w' h2 h3 h4 => hK _ _ (h v' w' ⟨?_, ?_⟩ h3 h4)
  · rw [List.length_append, flatF_app]; exact h2
  · intro y hy
    obtain ⟨_, _, _, _, _, _, h9⟩ := hr
    rcases List.mem_append.mp hy with h | h
    · exact hown.2 y h
    · exact h9 y h
end Go.Proofs.Ytfiaedhdgbnfiaa
