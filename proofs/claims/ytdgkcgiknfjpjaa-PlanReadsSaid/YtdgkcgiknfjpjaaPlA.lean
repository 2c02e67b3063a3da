/- plan: entries; Good, the program's and the reference's. -/
import Derived.Test.YtdgkcgiknfjpjaaRcA
namespace Go.Proofs.Ytdgkcgiknfjpjaa
set_option linter.unusedVariables false
set_option linter.unusedSimpArgs false
open Go Go.RowKit
structure En where
  key : List UInt8
  gen : Int
  size : Int
  sum : List UInt8
def En.cells (e : En) (A : Option Addr) (n c : Nat) : Array Value := #[.string (bs e.key), .int .i64 e.gen, .int .i64 e.size, .string (bs e.sum), .slice A n c]
def En.agg (e : En) (A : Option Addr) (n c : Nat) : Value := .agg #[.string (bs e.key), .int .i64 e.gen, .int .i64 e.size, .string (bs e.sum), .slice A n c]
def slotB (z : Int) (n : Nat) : Bool := decide (0 ≤ z) && decide (z < n)
def goodN (e : En) (n k : Nat) (q : Rc) : Bool := (q.kind == 2) && (q.key == e.key) && (q.gen == e.gen) && (q.size == e.size) && (q.sum == e.sum) && (q.group == ((k / 10 : Nat) : Int)) && (q.index == ((k % 10 : Nat) : Int)) && (q.groups == ((n / 10 : Nat) : Int)) && ((q.data.length : Int) == 16)
def goodE (e : En) (n : Nat) (z : Int) (q : Rc) : Bool := slotB z n && goodN e n z.toNat q
theorem wrap64_nat (k : Nat) (h : k ≤ 9223372036854775807) : wrap64 (k : Int) = (k : Int) := by unfold wrap64; omega
theorem tdiv10 (k : Nat) : Int.tdiv (k : Int) 10 = ((k / 10 : Nat) : Int) := by rw [Int.tdiv_eq_ediv_of_nonneg (by omega)]; omega
theorem tmod10 (k : Nat) : Int.tmod (k : Int) 10 = ((k % 10 : Nat) : Int) := Int.ofNat_tmod k 10
set_option maxHeartbeats 4000000 in
theorem hasSlot_any (e : En) (A : Option Addr) (n c : Nat) (z : Int) (w : World) :
    Calls Try.prog 59 #[.agg #[.string (bs e.key), .int .i64 e.gen, .int .i64 e.size, .string (bs e.sum), .slice A n c], .int .i64 z] w fun r w' => r = .returned (.bool (slotB z n)) ∧ Gr w w' := by
  have hb : Gr w (w.alloc (.cells #[.string (bs e.key), .int .i64 e.gen, .int .i64 e.size, .string (bs e.sum), .slice A n c] 55)) := (Below.refl _ _).alloc (Nat.le_refl _) _
  replace hb := Lib.hid hb
  unfold slotB
  by_cases h1 : 0 ≤ z
  · have d1 : decide (0 ≤ z) = true := decide_eq_true h1
    rw [d1, Bool.true_and]
    go_enter Try.func59, Try.ntmps59
    go_wp2_with fail
    go_ret
    exact ⟨rfl, hb.out⟩
  · have d1 : decide (0 ≤ z) = false := decide_eq_false h1
    rw [d1, Bool.false_and]
    go_enter Try.func59, Try.ntmps59
    go_wp2_with fail
    go_ret
    exact ⟨rfl, hb.out⟩
set_option maxHeartbeats 8000000 in
set_option maxRecDepth 20000 in
theorem good_any (e : En) (A : Option Addr) (n c : Nat) (z : Int) (q : Rc) (A2 : Option Addr) (c2 : Nat) (hn : n ≤ 9223372036854775807) (w : World) :
    Calls Try.prog 34 #[.agg #[.string (bs e.key), .int .i64 e.gen, .int .i64 e.size, .string (bs e.sum), .slice A n c], .int .i64 z, .agg #[.int .i64 q.kind, .int .i64 q.cart, .string (bs q.key), .int .i64 q.gen, .int .i64 q.group, .int .i64 q.groups, .int .i64 q.index, .int .i64 q.size, .string (bs q.sum), .slice A2 q.data.length c2]] w fun r w' => r = .returned (.bool (goodE e n z q)) ∧ Gr w w' := by
  obtain ⟨res, hres⟩ : ∃ r, goodE e n z q = r := ⟨_, rfl⟩
  rw [hres]
  replace hres := Lib.hid hres
  have hb1 : Gr w (w.alloc (.cells #[.string (bs e.key), .int .i64 e.gen, .int .i64 e.size, .string (bs e.sum), .slice A n c] 55)) := (Below.refl _ _).alloc (Nat.le_refl _) _
  have hb2 : Gr (w.alloc (.cells #[.string (bs e.key), .int .i64 e.gen, .int .i64 e.size, .string (bs e.sum), .slice A n c] 55)) ((w.alloc (.cells #[.string (bs e.key), .int .i64 e.gen, .int .i64 e.size, .string (bs e.sum), .slice A n c] 55)).alloc (.cells #[.int .i64 q.kind, .int .i64 q.cart, .string (bs q.key), .int .i64 q.gen, .int .i64 q.group, .int .i64 q.groups, .int .i64 q.index, .int .i64 q.size, .string (bs q.sum), .slice A2 q.data.length c2] 41)) := (Below.refl _ _).alloc (Nat.le_refl _) _
  have x1 := heap_alloc_new w (.cells #[.string (bs e.key), .int .i64 e.gen, .int .i64 e.size, .string (bs e.sum), .slice A n c] 55)
  have x2 := heap_alloc_new (w.alloc (.cells #[.string (bs e.key), .int .i64 e.gen, .int .i64 e.size, .string (bs e.sum), .slice A n c] 55)) (.cells #[.int .i64 q.kind, .int .i64 q.cart, .string (bs q.key), .int .i64 q.gen, .int .i64 q.group, .int .i64 q.groups, .int .i64 q.index, .int .i64 q.size, .string (bs q.sum), .slice A2 q.data.length c2] 41)
  replace x1 := (hb2.block w.heap.size (by simp)).trans x1
  have hq : Gr w ((w.alloc (.cells #[.string (bs e.key), .int .i64 e.gen, .int .i64 e.size, .string (bs e.sum), .slice A n c] 55)).alloc (.cells #[.int .i64 q.kind, .int .i64 q.cart, .string (bs q.key), .int .i64 q.gen, .int .i64 q.group, .int .i64 q.groups, .int .i64 q.index, .int .i64 q.size, .string (bs q.sum), .slice A2 q.data.length c2] 41)) := hb1.trans hb2
  rw [World.size_alloc] at x2
  clear hb1 hb2
  obtain ⟨w2, hw2⟩ : ∃ x, (w.alloc (.cells #[.string (bs e.key), .int .i64 e.gen, .int .i64 e.size, .string (bs e.sum), .slice A n c] 55)).alloc (.cells #[.int .i64 q.kind, .int .i64 q.cart, .string (bs q.key), .int .i64 q.gen, .int .i64 q.group, .int .i64 q.groups, .int .i64 q.index, .int .i64 q.size, .string (bs q.sum), .slice A2 q.data.length c2] 41) = x := ⟨_, rfl⟩
  rw [hw2] at x1 x2 hq
  replace x1 := Lib.hid x1
  replace x2 := Lib.hid x2
  replace hq := Lib.hid hq
  go_enter Try.func34, Try.ntmps34
  have c0 := blk_cell (j := 0) x1.out rfl
  have c1 := blk_cell (j := 1) x1.out rfl
  have c2 := blk_cell (j := 2) x1.out rfl
  have c3 := blk_cell (j := 3) x1.out rfl
  have c4 := blk_cell (j := 4) x1.out rfl
  have d0 := blk_cell (j := 0) x2.out rfl
  have d1 := blk_cell (j := 1) x2.out rfl
  have d2 := blk_cell (j := 2) x2.out rfl
  have d3 := blk_cell (j := 3) x2.out rfl
  have d4 := blk_cell (j := 4) x2.out rfl
  have d5 := blk_cell (j := 5) x2.out rfl
  have d6 := blk_cell (j := 6) x2.out rfl
  have d7 := blk_cell (j := 7) x2.out rfl
  have d8 := blk_cell (j := 8) x2.out rfl
  have d9 := blk_cell (j := 9) x2.out rfl
  go_wp2_with fail
  try rw [hw2]
  refine (hasSlot_any e A n c z _).mono ?_
  rintro r w3 ⟨rfl, hr⟩
  replace hw2 := Lib.hid hw2
  clear c0 c1 c2 c3 c4 d0 d1 d2 d3 d4 d5 d6 d7 d8 d9
  replace x1 := Lib.hid ((hr.block _ (Array.getElem?_eq_some_iff.mp x1.out).1).trans x1.out)
  replace x2 := Lib.hid ((hr.block _ (Array.getElem?_eq_some_iff.mp x2.out).1).trans x2.out)
  replace hq := Gr.onP hr hq
  clear hr
  have c0 := blk_cell (j := 0) x1.out rfl
  have c1 := blk_cell (j := 1) x1.out rfl
  have c2 := blk_cell (j := 2) x1.out rfl
  have c3 := blk_cell (j := 3) x1.out rfl
  have c4 := blk_cell (j := 4) x1.out rfl
  have d0 := blk_cell (j := 0) x2.out rfl
  have d1 := blk_cell (j := 1) x2.out rfl
  have d2 := blk_cell (j := 2) x2.out rfl
  have d3 := blk_cell (j := 3) x2.out rfl
  have d4 := blk_cell (j := 4) x2.out rfl
  have d5 := blk_cell (j := 5) x2.out rfl
  have d6 := blk_cell (j := 6) x2.out rfl
  have d7 := blk_cell (j := 7) x2.out rfl
  have d8 := blk_cell (j := 8) x2.out rfl
  have d9 := blk_cell (j := 9) x2.out rfl
  cases hs : slotB z n with
  | false =>
    obtain rfl : res = false := by rw [← hres.out]; unfold goodE; rw [hs, Bool.false_and]
    go_wp2_with fail
    go_ret
    exact ⟨rfl, hq.out⟩
  | true =>
    have hz : 0 ≤ z ∧ z < n := by unfold slotB at hs; simpa using hs
    obtain ⟨k, rfl⟩ := Int.eq_ofNat_of_zero_le hz.1
    have hkn : k < n := by omega
    have hv : res = goodN e n k q := by rw [← hres.out]; unfold goodE; rw [hs, Bool.true_and, Int.toNat_natCast]
    unfold goodN at hv
    clear hres
    obtain ⟨k0, hk0⟩ : ∃ b, (q.kind == 2) = b := ⟨_, rfl⟩
    rw [hk0] at hv
    obtain ⟨k1, hk1⟩ : ∃ b, (q.key == e.key) = b := ⟨_, rfl⟩
    rw [hk1] at hv
    have hk12 : (bs q.key == bs e.key) = k1 := by rw [bs_beq, hk1]
    obtain ⟨k2, hk2⟩ : ∃ b, (q.gen == e.gen) = b := ⟨_, rfl⟩
    rw [hk2] at hv
    obtain ⟨k3, hk3⟩ : ∃ b, (q.size == e.size) = b := ⟨_, rfl⟩
    rw [hk3] at hv
    obtain ⟨k4, hk4⟩ : ∃ b, (q.sum == e.sum) = b := ⟨_, rfl⟩
    rw [hk4] at hv
    have hk42 : (bs q.sum == bs e.sum) = k4 := by rw [bs_beq, hk4]
    obtain ⟨k5, hk5⟩ : ∃ b, (q.group == ((k / 10 : Nat) : Int)) = b := ⟨_, rfl⟩
    rw [hk5] at hv
    obtain ⟨k6, hk6⟩ : ∃ b, (q.index == ((k % 10 : Nat) : Int)) = b := ⟨_, rfl⟩
    rw [hk6] at hv
    obtain ⟨k7, hk7⟩ : ∃ b, (q.groups == ((n / 10 : Nat) : Int)) = b := ⟨_, rfl⟩
    rw [hk7] at hv
    obtain ⟨k8, hk8⟩ : ∃ b, ((q.data.length : Int) == 16) = b := ⟨_, rfl⟩
    rw [hk8] at hv
    have t1 := tdiv10 k
    have t2 := tmod10 k
    have t3 := tdiv10 n
    obtain ⟨p1, hp1⟩ : ∃ p, k / 10 = p := ⟨_, rfl⟩
    obtain ⟨p2, hp2⟩ : ∃ p, k % 10 = p := ⟨_, rfl⟩
    obtain ⟨p3, hp3⟩ : ∃ p, n / 10 = p := ⟨_, rfl⟩
    rw [hp1] at t1 hk5
    rw [hp2] at t2 hk6
    rw [hp3] at t3 hk7
    have u1 := wrap64_nat p1 (by omega)
    have u3 := wrap64_nat p3 (by omega)
    replace hp1 := Lib.hid hp1
    replace hp2 := Lib.hid hp2
    replace hp3 := Lib.hid hp3
    replace hv := Lib.hid hv
    go_wp2_with fail
    all_goals
      go_ret
      exact ⟨by rw [hv.out]; first | rfl | (simp; done) | (simp [*]; done), hq.out⟩
end Go.Proofs.Ytdgkcgiknfjpjaa
/- plan: lists of bools and of ints; marked, said. -/
namespace Go.Proofs.Ytdgkcgiknfjpjaa
set_option linter.unusedVariables false
set_option linter.unusedSimpArgs false
open Go Go.RowKit
/-- a list of bools that is read -/
def Bl (w : World) (A : Option Addr) (n : Nat) (l : List Bool) : Prop := Reads w w.heap.size 1 A n (l.map Value.bool)
theorem Bl.gr {w w' : World} {A : Option Addr} {n : Nat} {l : List Bool} (hr : Gr w w') (h : Hid (Bl w A n l)) : Hid (Bl w' A n l) := Lib.hid (Reads.more (Reads.below h.out hr) (Below.size hr))
theorem Bl.len {w : World} {A : Option Addr} {n : Nat} {l : List Bool} (h : Bl w A n l) : l.length = n := by have := h.1; rw [List.length_map] at this; omega
theorem Bl.at_ {w : World} {A : Option Addr} {n : Nat} {l : List Bool} (h : Bl w A n l) {k : Nat} (hk : k < n) : ∃ ad, A = some ad ∧ w.cell? (ad.add k) = some (.bool (l.getD k false)) := by
  obtain ⟨ad, u, e, -, hu, hc⟩ := Reads.at_ h hk
  have hl : k < l.length := by rw [h.len]; exact hk
  rw [List.getElem?_map, List.getElem?_eq_getElem hl] at hu
  injection hu with hu
  refine ⟨ad, e, ?_⟩
  rw [hc, ← hu, List.getD_eq_getElem?_getD, List.getElem?_eq_getElem hl]
  rfl
/-- what a list says of a slot -/
def markB (l : List Bool) (k : Nat) : Bool := decide (k < l.length) && l.getD k false
set_option maxHeartbeats 4000000 in
theorem marked_any (A : Option Addr) (n c : Nat) (l : List Bool) (k : Nat) (hk : k ≤ 1000000) (w : World) (h : Hid (Bl w A n l)) : Calls Try.prog 61 #[.slice A n c, .int .i64 k] w fun e w' => e = .returned (.bool (markB l k)) ∧ w' = w := by
  have hl := h.out.len
  unfold markB
  by_cases h1 : k < n
  · have i1 : (k : Int) < (n : Int) := by omega
    obtain ⟨ad, rfl, hc⟩ := h.out.at_ h1
    rw [hl, decide_eq_true h1, Bool.true_and]
    generalize l.getD k false = b at hc
    go_enter Try.func61, Try.ntmps61
    go_wp2_with fail
    go_ret
    exact ⟨rfl, rfl⟩
  · have i1 : decide ((k : Int) < (n : Int)) = false := decide_eq_false (by omega)
    have i2 : (n : Int) ≤ (k : Int) := by omega
    rw [hl, decide_eq_false h1, Bool.false_and]
    go_enter Try.func61, Try.ntmps61
    go_wp2_with fail
    go_ret
    exact ⟨rfl, rfl⟩
def icells (l : List Nat) : List Value := l.map (fun (j : Nat) => Value.int .i64 (j : Int))
theorem icells_one (l : List Nat) : ∀ v ∈ icells l, v.oneCell' = true := fun v hv => by
  unfold icells at hv
  obtain ⟨j, -, rfl⟩ := List.mem_map.mp hv
  rfl
theorem info_int : (Try.prog.info? 3).map (fun i => (i.zero, i.size, i.bytes)) = some (some (.int .i64 0), 1, 8) := by kernel_rfl
def OIp (w : World) (base : Nat) (v : Value) (l : List Nat) : Prop := w.ownsRow base 3 1 v l.length (icells l)
theorem OIp.nil_ (w : World) (base : Nat) : OIp w base (.slice none 0 0) [] := World.ownsRow_nil w base _ 1
theorem OIp.below {w w' : World} {base : Nat} {v : Value} {l : List Nat} (h : OIp w base v l) (hb : Below w.heap.size w w') : OIp w' base v l :=
  h.kept (row := none) ⟨hb.os, hb.tape, hb.output, hb.size, fun k hk _ => hb.block k hk⟩ (by cases hv : v.ownBlock <;> simp)
theorem OIp.gr {w w' : World} {base : Nat} {v : Value} {l : List Nat} (hr : Gr w w') (h : Hid (OIp w base v l)) : Hid (OIp w' base v l) := Lib.hid (h.out.below hr)
theorem OIp.form {w : World} {base : Nat} {v : Value} {l : List Nat} (h : OIp w base v l) : ∃ A c, v = .slice A l.length c ∧ l.length ≤ c ∧ c ≤ maxLen ∧ Reads w w.heap.size 1 A l.length (icells l) := by
  rcases h.2 with ⟨rfl, hn⟩ | ⟨g, cap, cur, rfl, hb, hh, hnc, hcm, _⟩
  · have hl : l = [] := List.eq_nil_of_length_eq_zero hn
    subst hl
    exact ⟨none, 0, rfl, Nat.zero_le _, Nat.zero_le _, ⟨rfl, fun h => absurd h (Nat.lt_irrefl _)⟩⟩
  · exact ⟨_, cap, rfl, hnc, hcm, Reads.of_own h⟩
theorem OIp.up {w : World} {base : Nat} {v : Value} {l : List Nat} (h : OIp w base v l) : ∀ k, v.ownBlock = some k → base ≤ k := fun k hk => (World.ownsRow.lt h k hk).1
theorem wpl_appI {w : World} {ops : Array Oper} {rest : List Oper} {o : Oper} {a : Act} {Q : Exit → Act → World → Prop} (hgd : o.guard = none) (s x : Operand)
    (ho : o.op = .call { callee := .builtin .append, args := #[s, x], argTypes := #[67, 67] })
    (base : Nat) (v : Value) (l : List Nat) (hs : a.eval s = v) (hown : OIp w base v l)
    (A : Option Addr) (m c : Nat) (news : List Nat) (hx : a.eval x = .slice A m c) (hr : Reads w w.heap.size 1 A m (icells news))
    (hlen : l.length + m ≤ 100000) (hbase : base ≤ w.heap.size)
    (h : ∀ v' w', OIp w' base v' (l ++ news) → Below base w w' → wpList Try.prog ops Q rest (a.put o.dst v') w') : wpList Try.prog ops Q (o :: rest) a w := by
  obtain ⟨i0, hi, hz0, hz1, hz2⟩ := info_parts info_int
  have hm : news.length = m := by have := hr.1; unfold icells at this; rw [List.length_map] at this; omega
  refine wpList_plain hgd fun _ hK => wp_append_any w s x 67 ho base 3 i0 _ 1 8 Try.underlying67 hi hz0 hz1 hz2 rfl (by omega) v l.length (icells l) hs hown w.heap.size A m c (icells news) hx hr (icells_one news)
    (by simp only [maxLen]; omega) (by omega) hbase fun v' w' h2 h3 h4 => hK _ _ (h v' w' ?_ ((Below.refl base w).grown h3 hbase hown.up))
  unfold OIp
  rw [List.length_append, hm]
  unfold icells at h2 ⊢
  rw [List.map_append]
  exact h2
end Go.Proofs.Ytdgkcgiknfjpjaa
