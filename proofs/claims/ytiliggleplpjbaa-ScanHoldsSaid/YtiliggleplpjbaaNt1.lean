/- Notes of the journal in memory: places, bytes; the walk of valid. -/
import Derived.Test.YtiliggleplpjbaaJrM
import Derived.Test.YtiliggleplpjbaaTyp
import Derived.Test.YtiliggleplpjbaaTab
import Derived.Test.YtiliggleplpjbaaClone
import Derived.Test.YtiliggleplpjbaaBytes2
import Derived.Test.YtiliggleplpjbaaRegRd
import Derived.LoopTactic
import Derived.WalkSpells
import Derived.Deep.DeepMust
import Derived.Deep.QuietTactic
import Derived.Deep.DeepCutAuto
import Derived.BigQuiet
import Derived.IntWalk
namespace Go.Proofs.Ytiliggleplpjbaa
set_option linter.unusedVariables false
set_option linter.unusedSimpArgs false
open Go Go.RowKit
def Gr (w w' : World) : Prop := Below w.heap.size w w'
theorem Gr.refl (w : World) : Gr w w := Below.refl _ w
theorem Gr.trans {x y z : World} (h1 : Gr x y) (h2 : Gr y z) : Gr x z := Below.trans h1 (Below.mono h2 (Below.size h1))
theorem Gr.road : Road Gr := ⟨fun x => Below.refl _ x, fun h1 h2 => h1.trans h2⟩
theorem Gr.alloc (w : World) (o : Obj) : Gr w (w.alloc o) := (Below.refl _ w).alloc (Nat.le_refl _) o
theorem Gr.on {a w w' : World} (hr : Gr w w') (h : Hid (Gr a w)) : Hid (Gr a w') := Lib.hid (h.out.trans hr)
theorem i64_wrap_id {m : Int} (h1 : -9223372036854775808 ≤ m) (h2 : m ≤ 9223372036854775807) : IntKind.i64.wrap m = m := by
  rw [IntKind.wrap_i64]; omega
def encPl (x : (Int × Int)) : List Value := [.int .i64 x.1, .int .i64 x.2]
def flatPl (l : List (Int × Int)) : List Value := l.flatMap encPl
theorem flatPl_len (l : List (Int × Int)) : (flatPl l).length = l.length * 2 := by
  induction l with
  | nil => rfl
  | cons q l ih => simp [flatPl, encPl] at *; omega
theorem flatPl_app (l m : List (Int × Int)) : flatPl (l ++ m) = flatPl l ++ flatPl m := by simp [flatPl]
theorem flatPl_at {l : List (Int × Int)} {i : Nat} {x : Int × Int} (h : l[i]? = some x) : (flatPl l)[i * 2]? = some (.int .i64 x.1) ∧ (flatPl l)[i * 2 + 1]? = some (.int .i64 x.2) := by
  induction l generalizing i with
  | nil => simp at h
  | cons p l ih =>
    cases i with
    | zero => simp at h; subst h; exact ⟨rfl, rfl⟩
    | succ i =>
      have h' : l[i]? = some x := by simpa using h
      obtain ⟨a, b⟩ := ih h'
      rw [show (i + 1) * 2 = i * 2 + 2 from by omega]
      exact ⟨a, b⟩
theorem flatPl_one (l : List (Int × Int)) : ∀ v ∈ flatPl l, v.oneCell' = true := fun v hv => by
  unfold flatPl at hv
  obtain ⟨x, -, h⟩ := List.mem_flatMap.mp hv
  simp [encPl] at h
  rcases h with rfl | rfl <;> rfl
/-- a slice of cartridges that reads as l -/
def Pls (l : List (Int × Int)) (v : Value) (w : World) : Prop := ∃ A c, v = .slice A l.length c ∧ l.length ≤ c ∧ c ≤ maxLen ∧
  (0 < l.length → ∃ b o, A = some ⟨b, o, none⟩ ∧ b < w.heap.size ∧ ∀ i x, l[i]? = some x → w.cell? ⟨b, o + i * 2, none⟩ = some (.int .i64 x.1) ∧ w.cell? ⟨b, o + i * 2 + 1, none⟩ = some (.int .i64 x.2)) ∧ ∀ x ∈ l, I64 x.1 ∧ I64 x.2
theorem cellGr {w w' : World} (hr : Gr w w') {a : Addr} (hb : a.block < w.heap.size) : w'.cell? a = w.cell? a := Below.cell hr hb
theorem Pls.gr {l : List (Int × Int)} {v : Value} {w w' : World} (hr : Gr w w') (h : Hid (Pls l v w)) : Hid (Pls l v w') := Lib.hid (by
  obtain ⟨A, c, e, h1, h2, h3, h4⟩ := h.out
  refine ⟨A, c, e, h1, h2, fun hp => ?_, h4⟩
  obtain ⟨b, o, e, hb, hc⟩ := h3 hp
  exact ⟨b, o, e, Nat.lt_of_lt_of_le hb (Below.size hr), fun i x hx => ⟨(cellGr hr hb).trans (hc i x hx).1, (cellGr hr hb).trans (hc i x hx).2⟩⟩)
theorem Pls.of_tab {w : World} {A : Option Addr} {n c : Nat} {F : Nat → Nat → Int} (h : Tab w w.heap.size 2 A n F) (hc : n ≤ c) (hm : c ≤ maxLen) : Pls ((List.range n).map fun i => (F i 0, F i 1)) (.slice A n c) w := by
  have hl : ((List.range n).map fun i => (F i 0, F i 1)).length = n := by simp
  refine ⟨A, c, by rw [hl], by omega, hm, fun hp => ?_, fun x hx => ?_⟩
  · obtain ⟨b, o, e, hb, ht⟩ := h.1 (by omega)
    refine ⟨b, o, e, hb, fun i x hx => ?_⟩
    obtain ⟨hi, hx⟩ := List.getElem?_eq_some_iff.mp hx
    have h0 := ht i 0 (by omega) (by omega)
    have h1 := ht i 1 (by omega) (by omega)
    rw [Nat.add_zero] at h0
    rw [h0, h1, ← hx]; simp
  · obtain ⟨i, hi, rfl⟩ := List.mem_map.mp hx
    exact ⟨h.2 i 0 (List.mem_range.mp hi) (by omega), h.2 i 1 (List.mem_range.mp hi) (by omega)⟩
theorem Pls.nil_ (w : World) (A : Option Addr) (c : Nat) (h : c ≤ maxLen) : Pls [] (.slice A 0 c) w := ⟨A, c, rfl, Nat.zero_le _, h, fun h => absurd h (by simp), fun x h => by cases h⟩
/-- a slice of cartridges of the call's own -/
def OP (l : List (Int × Int)) (v : Value) (base : Nat) (w : World) : Prop := w.ownsRow base 34 2 v l.length (flatPl l) ∧ ∀ x ∈ l, I64 x.1 ∧ I64 x.2
theorem info_place : (Try.prog.info? 34).map (fun i => (i.zero, i.size, i.bytes)) = some (some (.agg #[.int .i64 0, .int .i64 0]), 2, 16) := by kernel_rfl
section
variable {w w' : World} {base : Nat} {v : Value} {m : List (Int × Int)}
theorem OP.nil_ (w : World) (base : Nat) : OP [] (.slice none 0 0) base w := ⟨World.ownsRow_nil w base _ 2, fun x h => by cases h⟩
theorem OP.empty (w : World) (base : Nat) (hb : base ≤ w.heap.size) : OP [] (.slice (some ⟨w.heap.size, 0, none⟩) 0 0) base (w.alloc (.cells #[] 34)) := ⟨World.ownsRow_made w #[] 0 hb (by simp [maxLen]) rfl, fun x h => by cases h⟩
theorem OP.gr (hr : Gr w w') (h : Hid (OP m v base w)) : Hid (OP m v base w') := Lib.hid ⟨row_below h.out.1 hr, h.out.2⟩
theorem OP.up (h : OP m v base w) : ∀ k, v.ownBlock = some k → base ≤ k := fun k hk => (World.ownsRow.lt h.1 k hk).1
theorem OP.form (h : OP m v base w) : ∃ A c, v = .slice A m.length c ∧ m.length ≤ c ∧ c ≤ maxLen := row_form h.1
theorem addr0 (b j : Nat) : (⟨b, 0, none⟩ : Addr).add j = ⟨b, j, none⟩ := by unfold Addr.add; split <;> simp_all
theorem OP.pls (h : OP m v base w) : Pls m v w := by
  obtain ⟨A, c, rfl, h1, h2⟩ := h.form
  refine ⟨A, c, rfl, h1, h2, fun hp => ?_, h.2⟩
  have hr := Reads.of_own h.1
  obtain ⟨g, cap, hv, _, hlt⟩ := World.ownsRow.form h.1 hp
  have hA : A = some ⟨g, 0, none⟩ := by injection hv
  subst hA
  obtain ⟨ad, e, hb, hc⟩ := hr.2 hp
  injection e with e
  subst e
  refine ⟨g, 0, rfl, hb, fun i x hx => ?_⟩
  have a := hc _ _ (flatPl_at hx).1
  have b := hc _ _ (flatPl_at hx).2
  rw [addr0] at a b
  rw [Nat.zero_add]
  exact ⟨a, b⟩
theorem Pls.reads (h : Pls m v w) : ∃ A c, v = .slice A m.length c ∧ Reads w w.heap.size 2 A m.length (flatPl m) := by
  obtain ⟨A, c, e, h1, h2, h3, h4⟩ := h
  refine ⟨A, c, e, by rw [flatPl_len], fun hp => ?_⟩
  obtain ⟨b, o, e, hb, hc⟩ := h3 hp
  refine ⟨_, e, hb, fun j u hu => ?_⟩
  have hj : j < m.length * 2 := by rw [← flatPl_len]; exact (List.getElem?_eq_some_iff.mp hu).1
  obtain ⟨x, hx⟩ : ∃ x, m[j / 2]? = some x := ⟨_, List.getElem?_eq_getElem (by omega)⟩
  have e1 : ∀ i, (⟨b, o, none⟩ : Addr).add i = ⟨b, o + i, none⟩ := fun i => by unfold Addr.add; split <;> simp_all
  rw [e1]
  rcases (by omega : j = j / 2 * 2 ∨ j = j / 2 * 2 + 1) with e2 | e2
  · have a := (flatPl_at hx).1
    rw [← e2, hu] at a
    injection a with a
    have := (hc _ x hx).1
    rw [← e2] at this
    rw [this, a]
  · have a := (flatPl_at hx).2
    rw [← e2, hu] at a
    injection a with a
    have := (hc _ x hx).2
    rw [Nat.add_assoc, ← e2] at this
    rw [this, a]
end
theorem Pls.one (w : World) (x : (Int × Int)) (hx : I64 x.1 ∧ I64 x.2) (t : TypeId) : Pls [x] (.slice (some ⟨w.heap.size, 0, none⟩) 1 1) (w.alloc (.cells #[.int .i64 x.1, .int .i64 x.2] t)) :=
  ⟨_, _, rfl, Nat.le_refl _, by decide, fun _ => ⟨_, _, rfl, by simp, fun i y hy => by
    match i, hy with
    | 0, hy => simp at hy; subst hy; exact ⟨cell_new w _ t rfl, cell_new w _ t rfl⟩⟩, fun y hy => by simp at hy; subst hy; exact hx⟩
theorem wpl_appP {w : World} {ops : Array Oper} {rest : List Oper} {o : Oper} {a : Act} {Q : Exit → Act → World → Prop} (hgd : o.guard = none) (s x : Operand)
    (ho : o.op = .call { callee := .builtin .append, args := #[s, x], argTypes := #[30, 30] })
    (base : Nat) (v u : Value) (l news : List (Int × Int)) (hs : a.eval s = v) (hown : OP l v base w) (hx : a.eval x = u) (hr : Pls news u w)
    (hlen : l.length + news.length ≤ 100000000) (hbase : base ≤ w.heap.size)
    (h : ∀ v' w', OP (l ++ news) v' base w' → w.grownBy w' v.ownBlock → (v'.ownBlock = v.ownBlock ∨ v'.ownBlock = some w.heap.size) → wpList Try.prog ops Q rest (a.put o.dst v') w') : wpList Try.prog ops Q (o :: rest) a w := by
  obtain ⟨i0, hi, hz0, hz1, hz2⟩ := info_parts info_place
  obtain ⟨A, c, rfl, hrd⟩ := hr.reads
  refine wpList_plain hgd fun _ hK => wp_append_any w s x 30 ho base 34 i0 _ 2 16 Try.underlying30 hi hz0 hz1 hz2 rfl (by omega) v l.length (flatPl l) hs hown.1 w.heap.size A news.length c (flatPl news) hx hrd (flatPl_one news)
    (by simp only [maxLen]; omega) (by omega) hbase fun v' w' h2 h3 h4 => hK _ _ (h v' w' ⟨?_, ?_⟩ h3 h4)
  · rw [List.length_append, flatPl_app]; exact h2
  · intro y hy
    obtain ⟨_, _, _, _, _, _, h9⟩ := hr
    rcases List.mem_append.mp hy with h | h
    · exact hown.2 y h
    · exact h9 y h

/-- a slice of bytes that reads as l -/
def Byt (l : List UInt8) (v : Value) (w : World) : Prop := ∃ A c, v = .slice A l.length c ∧ l.length ≤ c ∧ c ≤ maxLen ∧ Rd w w.heap.size A l
theorem Byt.gr {l : List UInt8} {v : Value} {w w' : World} (hr : Gr w w') (h : Hid (Byt l v w)) : Hid (Byt l v w') := Lib.hid (by
  obtain ⟨A, c, e, h1, h2, h3⟩ := h.out
  exact ⟨A, c, e, h1, h2, h3.up hr⟩)
theorem Byt.ob {l : List UInt8} {v : Value} {w : World} {base : Nat} (h : OB w base v l) : Byt l v w := by
  obtain ⟨A, c, e, h1, h2, h3, -⟩ := h.form
  exact ⟨A, c, e, h1, h2, h3⟩
theorem Byt.nil_ (w : World) : Byt [] (.slice none 0 0) w := ⟨none, 0, rfl, Nat.le_refl _, Nat.zero_le _, Rd.nil_⟩
theorem bs_beq (l m : List UInt8) : (bs l == bs m) = (l == m) := by
  have h : (bs l == bs m) = (l.toArray == m.toArray) := rfl
  rw [h]
  simp
def Nt.agg (n : Nt) (A : Option Addr) (c : Nat) (A2 : Option Addr) (c2 : Nat) : Value := .agg #[.int .i64 n.kind, .string (bs n.key), .int .i64 n.gen, .int .i64 n.cart, .slice A n.data.length c, .string (bs n.sum), .int .i64 n.size, .slice A2 n.places.length c2]
def Nt.cells (n : Nt) (A : Option Addr) (c : Nat) (A2 : Option Addr) (c2 : Nat) : Array Value := #[.int .i64 n.kind, .string (bs n.key), .int .i64 n.gen, .int .i64 n.cart, .slice A n.data.length c, .string (bs n.sum), .int .i64 n.size, .slice A2 n.places.length c2]
structure Nt.Ok (n : Nt) : Prop where
  kind : R64 n.kind
  gen : R64 n.gen
  cart : R64 n.cart
  size : R64 n.size
  key : n.key.length ≤ maxLen
  sum : n.sum.length ≤ maxLen
/-- a note's value, with its bytes and its places in memory -/
def NtV (n : Nt) (v : Value) (w : World) : Prop := ∃ A c A2 c2, v = n.agg A c A2 c2 ∧ Byt n.data (.slice A n.data.length c) w ∧ Pls n.places (.slice A2 n.places.length c2) w
theorem NtV.gr {n : Nt} {v : Value} {w w' : World} (hr : Gr w w') (h : Hid (NtV n v w)) : Hid (NtV n v w') := Lib.hid (by
  obtain ⟨A, c, A2, c2, e, h1, h2⟩ := h.out
  exact ⟨A, c, A2, c2, e, (Byt.gr hr (Lib.hid h1)).out, (Pls.gr hr (Lib.hid h2)).out⟩)
theorem in_any (n lo hi : Int) (w : World) : Calls Try.prog 34 #[.int .i64 n, .int .i64 lo, .int .i64 hi] w fun e w' => e = .returned (.bool (inB n lo hi)) ∧ w' = w := by
  unfold inB
  by_cases h1 : lo ≤ n
  · have d1 : decide (lo ≤ n) = true := decide_eq_true h1
    rw [d1]
    go_enter Try.func34, Try.ntmps34
    go_wp2
    go_ret
    exact ⟨by first | rfl | (rw [Bool.true_and]; rfl), rfl⟩
  · have d1 : decide (lo ≤ n) = false := decide_eq_false h1
    rw [d1]
    go_enter Try.func34, Try.ntmps34
    go_wp2
    go_ret
    exact ⟨by first | rfl | (rw [Bool.false_and]; rfl), rfl⟩
end Go.Proofs.Ytiliggleplpjbaa
