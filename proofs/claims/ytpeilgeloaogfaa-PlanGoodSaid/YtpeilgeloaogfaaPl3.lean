/- plan: lists of bools and of ints; marked, said. -/
import Derived.Test.YtpeilgeloaogfaaPl1
namespace Go.Proofs.Ytpeilgeloaogfaa
set_option linter.unusedVariables false
set_option linter.unusedSimpArgs false
open Go Go.RowKit
/-- a list of bools that is read -/
def Bl (w : World) (A : Option Addr) (n : Nat) (l : List Bool) : Prop := Reads w w.heap.size 1 A n (l.map Value.bool)
theorem Bl.gr {w w' : World} {A : Option Addr} {n : Nat} {l : List Bool} (hr : Gr w w') (h : Hid (Bl w A n l)) : Hid (Bl w' A n l) := Lib.hid (Reads.more (Reads.below h.out hr) (Below.size hr))
theorem Bl.len {w : World} {A : Option Addr} {n : Nat} {l : List Bool} (h : Bl w A n l) : l.length = n := by have := h.1; rw [List.length_map] at this; omega
theorem Bl.at_ {w : World} {A : Option Addr} {n : Nat} {l : List Bool} (h : Bl w A n l) {k : Nat} (hk : k < n) : ∃ ad, A = some ad ∧ w.cell? (ad.add k) = some (.bool (l.getD k false)) := by
  obtain ⟨ad, u, e, -, hu, hc⟩ := Reads.at_ h hk
  have hl : k < l.length := by rw [h.len]; exact hk
  rw [List.getElem?_map, List.getElem?_eq_getElem hl] at hu
  injection hu with hu
  refine ⟨ad, e, ?_⟩
  rw [hc, ← hu, List.getD_eq_getElem?_getD, List.getElem?_eq_getElem hl]
  rfl
/-- what a list says of a slot -/
def markB (l : List Bool) (k : Nat) : Bool := decide (k < l.length) && l.getD k false
set_option maxHeartbeats 4000000 in
theorem marked_any (A : Option Addr) (n c : Nat) (l : List Bool) (k : Nat) (hk : k ≤ 1000000) (w : World) (h : Hid (Bl w A n l)) : Calls Try.prog 115 #[.slice A n c, .int .i64 k] w fun e w' => e = .returned (.bool (markB l k)) ∧ w' = w := by
  have hl := h.out.len
  unfold markB
  by_cases h1 : k < n
  · have i1 : (k : Int) < (n : Int) := by omega
    obtain ⟨ad, rfl, hc⟩ := h.out.at_ h1
    rw [hl, decide_eq_true h1, Bool.true_and]
    generalize l.getD k false = b at hc
    go_enter Try.func115, Try.ntmps115
    go_wp2_with fail
    go_ret
    exact ⟨rfl, rfl⟩
  · have i1 : decide ((k : Int) < (n : Int)) = false := decide_eq_false (by omega)
    have i2 : (n : Int) ≤ (k : Int) := by omega
    rw [hl, decide_eq_false h1, Bool.false_and]
    go_enter Try.func115, Try.ntmps115
    go_wp2_with fail
    go_ret
    exact ⟨rfl, rfl⟩
set_option maxHeartbeats 4000000 in
theorem said_any (A : Option Addr) (n c : Nat) (l : List Bool) (k : Nat) (hk : k ≤ 1000000) (w : World) (h : Hid (Bl w A n l)) : Calls Try.prog 114 #[.slice A n c, .int .i64 k] w fun e w' => e = .returned (.bool (markB l k)) ∧ w' = w := by
  have hl := h.out.len
  unfold markB
  by_cases h1 : k < n
  · have i1 : ¬ ((n : Int) ≤ (k : Int)) := by omega
    have i2 : (k : Int) < (n : Int) := by omega
    obtain ⟨ad, rfl, hc⟩ := h.out.at_ h1
    rw [hl, decide_eq_true h1, Bool.true_and]
    generalize l.getD k false = b at hc
    go_enter Try.func114, Try.ntmps114
    go_wp2_with fail
    go_ret
    exact ⟨rfl, rfl⟩
  · have i2 : (n : Int) ≤ (k : Int) := by omega
    rw [hl, decide_eq_false h1, Bool.false_and]
    go_enter Try.func114, Try.ntmps114
    go_wp2_with fail
    go_ret
    exact ⟨rfl, rfl⟩
/-! ### slices of ints of the call's own -/
def icells (l : List Nat) : List Value := l.map (fun (j : Nat) => Value.int .i64 (j : Int))
theorem icells_one (l : List Nat) : ∀ v ∈ icells l, v.oneCell' = true := fun v hv => by
  unfold icells at hv
  obtain ⟨j, -, rfl⟩ := List.mem_map.mp hv
  rfl
theorem info_int : (Try.prog.info? 3).map (fun i => (i.zero, i.size, i.bytes)) = some (some (.int .i64 0), 1, 8) := by kernel_rfl
def OI (w : World) (base : Nat) (v : Value) (l : List Nat) : Prop := w.ownsRow base 3 1 v l.length (icells l)
theorem OI.nil_ (w : World) (base : Nat) : OI w base (.slice none 0 0) [] := World.ownsRow_nil w base _ 1
theorem OI.below {w w' : World} {base : Nat} {v : Value} {l : List Nat} (h : OI w base v l) (hb : Below w.heap.size w w') : OI w' base v l :=
  h.kept (row := none) ⟨hb.os, hb.tape, hb.output, hb.size, fun k hk _ => hb.block k hk⟩ (by cases hv : v.ownBlock <;> simp)
theorem OI.gr {w w' : World} {base : Nat} {v : Value} {l : List Nat} (hr : Gr w w') (h : Hid (OI w base v l)) : Hid (OI w' base v l) := Lib.hid (h.out.below hr)
theorem OI.form {w : World} {base : Nat} {v : Value} {l : List Nat} (h : OI w base v l) : ∃ A c, v = .slice A l.length c ∧ l.length ≤ c ∧ c ≤ maxLen ∧ Reads w w.heap.size 1 A l.length (icells l) := by
  rcases h.2 with ⟨rfl, hn⟩ | ⟨g, cap, cur, rfl, hb, hh, hnc, hcm, _⟩
  · have hl : l = [] := List.eq_nil_of_length_eq_zero hn
    subst hl
    exact ⟨none, 0, rfl, Nat.zero_le _, Nat.zero_le _, ⟨rfl, fun h => absurd h (Nat.lt_irrefl _)⟩⟩
  · exact ⟨_, cap, rfl, hnc, hcm, Reads.of_own h⟩
theorem OI.up {w : World} {base : Nat} {v : Value} {l : List Nat} (h : OI w base v l) : ∀ k, v.ownBlock = some k → base ≤ k := fun k hk => (World.ownsRow.lt h k hk).1
theorem wpl_appI {w : World} {ops : Array Oper} {rest : List Oper} {o : Oper} {a : Act} {Q : Exit → Act → World → Prop} (hgd : o.guard = none) (s x : Operand)
    (ho : o.op = .call { callee := .builtin .append, args := #[s, x], argTypes := #[83, 83] })
    (base : Nat) (v : Value) (l : List Nat) (hs : a.eval s = v) (hown : OI w base v l)
    (A : Option Addr) (m c : Nat) (news : List Nat) (hx : a.eval x = .slice A m c) (hr : Reads w w.heap.size 1 A m (icells news))
    (hlen : l.length + m ≤ 100000) (hbase : base ≤ w.heap.size)
    (h : ∀ v' w', OI w' base v' (l ++ news) → Below base w w' → wpList Try.prog ops Q rest (a.put o.dst v') w') : wpList Try.prog ops Q (o :: rest) a w := by
  obtain ⟨i0, hi, hz0, hz1, hz2⟩ := info_parts info_int
  have hm : news.length = m := by have := hr.1; unfold icells at this; rw [List.length_map] at this; omega
  refine wpList_plain hgd fun _ hK => wp_append_any w s x 83 ho base 3 i0 _ 1 8 Try.underlying83 hi hz0 hz1 hz2 rfl (by omega) v l.length (icells l) hs hown w.heap.size A m c (icells news) hx hr (icells_one news)
    (by simp only [maxLen]; omega) (by omega) hbase fun v' w' h2 h3 h4 => hK _ _ (h v' w' ?_ ((Below.refl base w).grown h3 hbase hown.up))
  unfold OI
  rw [List.length_append, hm]
  unfold icells at h2 ⊢
  rw [List.map_append]
  exact h2
end Go.Proofs.Ytpeilgeloaogfaa
