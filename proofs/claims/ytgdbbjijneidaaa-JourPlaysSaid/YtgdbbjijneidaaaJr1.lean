/- Notes of the journal in memory: places, bytes; the walk of valid. -/
import Derived.Test.YtgdbbjijneidaaaJrM
import Derived.Test.YtgdbbjijneidaaaTyp
import Derived.Test.YtgdbbjijneidaaaTab
import Derived.Test.YtgdbbjijneidaaaClone
import Derived.Test.YtgdbbjijneidaaaBytes2
import Derived.Test.YtgdbbjijneidaaaRegRd
import Derived.LoopTactic
import Derived.WalkSpells
import Derived.Deep.DeepMust
import Derived.Deep.QuietTactic
import Derived.Deep.DeepCutAuto
import Derived.BigQuiet
import Derived.IntWalk
namespace Go.Proofs.Ytgdbbjijneidaaa
set_option linter.unusedVariables false
set_option linter.unusedSimpArgs false
open Go Go.RowKit
def Gr (w w' : World) : Prop := Below w.heap.size w w'
theorem Gr.refl (w : World) : Gr w w := Below.refl _ w
theorem Gr.trans {x y z : World} (h1 : Gr x y) (h2 : Gr y z) : Gr x z := Below.trans h1 (Below.mono h2 (Below.size h1))
theorem Gr.road : Road Gr := ⟨fun x => Below.refl _ x, fun h1 h2 => h1.trans h2⟩
theorem Gr.alloc (w : World) (o : Obj) : Gr w (w.alloc o) := (Below.refl _ w).alloc (Nat.le_refl _) o
theorem Gr.on {a w w' : World} (hr : Gr w w') (h : Hid (Gr a w)) : Hid (Gr a w') := Lib.hid (h.out.trans hr)
theorem i64_wrap_id {m : Int} (h1 : -9223372036854775808 ≤ m) (h2 : m ≤ 9223372036854775807) : IntKind.i64.wrap m = m := by
  rw [IntKind.wrap_i64]; omega
def encPl (x : (Int × Int)) : List Value := [.int .i64 x.1, .int .i64 x.2]
def flatPl (l : List (Int × Int)) : List Value := l.flatMap encPl
theorem flatPl_len (l : List (Int × Int)) : (flatPl l).length = l.length * 2 := by
  induction l with
  | nil => rfl
  | cons q l ih => simp [flatPl, encPl] at *; omega
theorem flatPl_app (l m : List (Int × Int)) : flatPl (l ++ m) = flatPl l ++ flatPl m := by simp [flatPl]
theorem flatPl_at {l : List (Int × Int)} {i : Nat} {x : Int × Int} (h : l[i]? = some x) : (flatPl l)[i * 2]? = some (.int .i64 x.1) ∧ (flatPl l)[i * 2 + 1]? = some (.int .i64 x.2) := by
  induction l generalizing i with
  | nil => simp at h
  | cons p l ih =>
    cases i with
    | zero => simp at h; subst h; exact ⟨rfl, rfl⟩
    | succ i =>
      have h' : l[i]? = some x := by simpa using h
      obtain ⟨a, b⟩ := ih h'
      rw [show (i + 1) * 2 = i * 2 + 2 from by omega]
      exact ⟨a, b⟩
theorem flatPl_one (l : List (Int × Int)) : ∀ v ∈ flatPl l, v.oneCell' = true := fun v hv => by
  unfold flatPl at hv
  obtain ⟨x, -, h⟩ := List.mem_flatMap.mp hv
  simp [encPl] at h
  rcases h with rfl | rfl <;> rfl
/-- a slice of cartridges that reads as l -/
def Pls (l : List (Int × Int)) (v : Value) (w : World) : Prop := ∃ A c, v = .slice A l.length c ∧ l.length ≤ c ∧ c ≤ maxLen ∧
  (0 < l.length → ∃ b o, A = some ⟨b, o, none⟩ ∧ b < w.heap.size ∧ ∀ i x, l[i]? = some x → w.cell? ⟨b, o + i * 2, none⟩ = some (.int .i64 x.1) ∧ w.cell? ⟨b, o + i * 2 + 1, none⟩ = some (.int .i64 x.2)) ∧ ∀ x ∈ l, I64 x.1 ∧ I64 x.2
theorem cellGr {w w' : World} (hr : Gr w w') {a : Addr} (hb : a.block < w.heap.size) : w'.cell? a = w.cell? a := Below.cell hr hb
theorem Pls.gr {l : List (Int × Int)} {v : Value} {w w' : World} (hr : Gr w w') (h : Hid (Pls l v w)) : Hid (Pls l v w') := Lib.hid (by
  obtain ⟨A, c, e, h1, h2, h3, h4⟩ := h.out
  refine ⟨A, c, e, h1, h2, fun hp => ?_, h4⟩
  obtain ⟨b, o, e, hb, hc⟩ := h3 hp
  exact ⟨b, o, e, Nat.lt_of_lt_of_le hb (Below.size hr), fun i x hx => ⟨(cellGr hr hb).trans (hc i x hx).1, (cellGr hr hb).trans (hc i x hx).2⟩⟩)
theorem Pls.of_tab {w : World} {A : Option Addr} {n c : Nat} {F : Nat → Nat → Int} (h : Tab w w.heap.size 2 A n F) (hc : n ≤ c) (hm : c ≤ maxLen) : Pls ((List.range n).map fun i => (F i 0, F i 1)) (.slice A n c) w := by
  have hl : ((List.range n).map fun i => (F i 0, F i 1)).length = n := by simp
  refine ⟨A, c, by rw [hl], by omega, hm, fun hp => ?_, fun x hx => ?_⟩
  · obtain ⟨b, o, e, hb, ht⟩ := h.1 (by omega)
    refine ⟨b, o, e, hb, fun i x hx => ?_⟩
    obtain ⟨hi, hx⟩ := List.getElem?_eq_some_iff.mp hx
    have h0 := ht i 0 (by omega) (by omega)
    have h1 := ht i 1 (by omega) (by omega)
    rw [Nat.add_zero] at h0
    rw [h0, h1, ← hx]; simp
  · obtain ⟨i, hi, rfl⟩ := List.mem_map.mp hx
    exact ⟨h.2 i 0 (List.mem_range.mp hi) (by omega), h.2 i 1 (List.mem_range.mp hi) (by omega)⟩
theorem Pls.nil_ (w : World) (A : Option Addr) (c : Nat) (h : c ≤ maxLen) : Pls [] (.slice A 0 c) w := ⟨A, c, rfl, Nat.zero_le _, h, fun h => absurd h (by simp), fun x h => by cases h⟩
/-- a slice of cartridges of the call's own -/
def OP (l : List (Int × Int)) (v : Value) (base : Nat) (w : World) : Prop := w.ownsRow base 85 2 v l.length (flatPl l) ∧ ∀ x ∈ l, I64 x.1 ∧ I64 x.2
theorem info_place : (Try.prog.info? 85).map (fun i => (i.zero, i.size, i.bytes)) = some (some (.agg #[.int .i64 0, .int .i64 0]), 2, 16) := by kernel_rfl
section
variable {w w' : World} {base : Nat} {v : Value} {m : List (Int × Int)}
theorem OP.nil_ (w : World) (base : Nat) : OP [] (.slice none 0 0) base w := ⟨World.ownsRow_nil w base _ 2, fun x h => by cases h⟩
theorem OP.empty (w : World) (base : Nat) (hb : base ≤ w.heap.size) : OP [] (.slice (some ⟨w.heap.size, 0, none⟩) 0 0) base (w.alloc (.cells #[] 85)) := ⟨World.ownsRow_made w #[] 0 hb (by simp [maxLen]) rfl, fun x h => by cases h⟩
theorem OP.gr (hr : Gr w w') (h : Hid (OP m v base w)) : Hid (OP m v base w') := Lib.hid ⟨row_below h.out.1 hr, h.out.2⟩
theorem OP.up (h : OP m v base w) : ∀ k, v.ownBlock = some k → base ≤ k := fun k hk => (World.ownsRow.lt h.1 k hk).1
theorem OP.form (h : OP m v base w) : ∃ A c, v = .slice A m.length c ∧ m.length ≤ c ∧ c ≤ maxLen := row_form h.1
theorem addr0 (b j : Nat) : (⟨b, 0, none⟩ : Addr).add j = ⟨b, j, none⟩ := by unfold Addr.add; split <;> simp_all
theorem OP.pls (h : OP m v base w) : Pls m v w := by
  obtain ⟨A, c, rfl, h1, h2⟩ := h.form
  refine ⟨A, c, rfl, h1, h2, fun hp => ?_, h.2⟩
  have hr := Reads.of_own h.1
  obtain ⟨g, cap, hv, _, hlt⟩ := World.ownsRow.form h.1 hp
  have hA : A = some ⟨g, 0, none⟩ := by injection hv
  subst hA
  obtain ⟨ad, e, hb, hc⟩ := hr.2 hp
  injection e with e
  subst e
  refine ⟨g, 0, rfl, hb, fun i x hx => ?_⟩
  have a := hc _ _ (flatPl_at hx).1
  have b := hc _ _ (flatPl_at hx).2
  rw [addr0] at a b
  rw [Nat.zero_add]
  exact ⟨a, b⟩
theorem Pls.reads (h : Pls m v w) : ∃ A c, v = .slice A m.length c ∧ Reads w w.heap.size 2 A m.length (flatPl m) := by
  obtain ⟨A, c, e, h1, h2, h3, h4⟩ := h
  refine ⟨A, c, e, by rw [flatPl_len], fun hp => ?_⟩
  obtain ⟨b, o, e, hb, hc⟩ := h3 hp
  refine ⟨_, e, hb, fun j u hu => ?_⟩
  have hj : j < m.length * 2 := by rw [← flatPl_len]; exact (List.getElem?_eq_some_iff.mp hu).1
  obtain ⟨x, hx⟩ : ∃ x, m[j / 2]? = some x := ⟨_, List.getElem?_eq_getElem (by omega)⟩
  have e1 : ∀ i, (⟨b, o, none⟩ : Addr).add i = ⟨b, o + i, none⟩ := fun i => by unfold Addr.add; split <;> simp_all
  rw [e1]
  rcases (by omega : j = j / 2 * 2 ∨ j = j / 2 * 2 + 1) with e2 | e2
  · have a := (flatPl_at hx).1
    rw [← e2, hu] at a
    injection a with a
    have := (hc _ x hx).1
    rw [← e2] at this
    rw [this, a]
  · have a := (flatPl_at hx).2
    rw [← e2, hu] at a
    injection a with a
    have := (hc _ x hx).2
    rw [Nat.add_assoc, ← e2] at this
    rw [this, a]
end
theorem Pls.one (w : World) (x : (Int × Int)) (hx : I64 x.1 ∧ I64 x.2) (t : TypeId) : Pls [x] (.slice (some ⟨w.heap.size, 0, none⟩) 1 1) (w.alloc (.cells #[.int .i64 x.1, .int .i64 x.2] t)) :=
  ⟨_, _, rfl, Nat.le_refl _, by decide, fun _ => ⟨_, _, rfl, by simp, fun i y hy => by
    match i, hy with
    | 0, hy => simp at hy; subst hy; exact ⟨cell_new w _ t rfl, cell_new w _ t rfl⟩⟩, fun y hy => by simp at hy; subst hy; exact hx⟩
theorem wpl_appP {w : World} {ops : Array Oper} {rest : List Oper} {o : Oper} {a : Act} {Q : Exit → Act → World → Prop} (hgd : o.guard = none) (s x : Operand)
    (ho : o.op = .call { callee := .builtin .append, args := #[s, x], argTypes := #[23, 23] })
    (base : Nat) (v u : Value) (l news : List (Int × Int)) (hs : a.eval s = v) (hown : OP l v base w) (hx : a.eval x = u) (hr : Pls news u w)
    (hlen : l.length + news.length ≤ 100000000) (hbase : base ≤ w.heap.size)
    (h : ∀ v' w', OP (l ++ news) v' base w' → w.grownBy w' v.ownBlock → (v'.ownBlock = v.ownBlock ∨ v'.ownBlock = some w.heap.size) → wpList Try.prog ops Q rest (a.put o.dst v') w') : wpList Try.prog ops Q (o :: rest) a w := by
  obtain ⟨i0, hi, hz0, hz1, hz2⟩ := info_parts info_place
  obtain ⟨A, c, rfl, hrd⟩ := hr.reads
  refine wpList_plain hgd fun _ hK => wp_append_any w s x 23 ho base 85 i0 _ 2 16 Try.underlying23 hi hz0 hz1 hz2 rfl (by omega) v l.length (flatPl l) hs hown.1 w.heap.size A news.length c (flatPl news) hx hrd (flatPl_one news)
    (by simp only [maxLen]; omega) (by omega) hbase fun v' w' h2 h3 h4 => hK _ _ (h v' w' ⟨?_, ?_⟩ h3 h4)
  · rw [List.length_append, flatPl_app]; exact h2
  · intro y hy
    obtain ⟨_, _, _, _, _, _, h9⟩ := hr
    rcases List.mem_append.mp hy with h | h
    · exact hown.2 y h
    · exact h9 y h

/-- a slice of bytes that reads as l -/
def Byt (l : List UInt8) (v : Value) (w : World) : Prop := ∃ A c, v = .slice A l.length c ∧ l.length ≤ c ∧ c ≤ maxLen ∧ Rd w w.heap.size A l
theorem Byt.gr {l : List UInt8} {v : Value} {w w' : World} (hr : Gr w w') (h : Hid (Byt l v w)) : Hid (Byt l v w') := Lib.hid (by
  obtain ⟨A, c, e, h1, h2, h3⟩ := h.out
  exact ⟨A, c, e, h1, h2, h3.up hr⟩)
theorem Byt.ob {l : List UInt8} {v : Value} {w : World} {base : Nat} (h : OB w base v l) : Byt l v w := by
  obtain ⟨A, c, e, h1, h2, h3, -⟩ := h.form
  exact ⟨A, c, e, h1, h2, h3⟩
theorem Byt.nil_ (w : World) : Byt [] (.slice none 0 0) w := ⟨none, 0, rfl, Nat.le_refl _, Nat.zero_le _, Rd.nil_⟩
theorem bs_beq (l m : List UInt8) : (bs l == bs m) = (l == m) := by
  have h : (bs l == bs m) = (l.toArray == m.toArray) := rfl
  rw [h]
  simp
def Nt.agg (n : Nt) (A : Option Addr) (c : Nat) (A2 : Option Addr) (c2 : Nat) : Value := .agg #[.int .i64 n.kind, .string (bs n.key), .int .i64 n.gen, .int .i64 n.cart, .slice A n.data.length c, .string (bs n.sum), .int .i64 n.size, .slice A2 n.places.length c2]
def Nt.cells (n : Nt) (A : Option Addr) (c : Nat) (A2 : Option Addr) (c2 : Nat) : Array Value := #[.int .i64 n.kind, .string (bs n.key), .int .i64 n.gen, .int .i64 n.cart, .slice A n.data.length c, .string (bs n.sum), .int .i64 n.size, .slice A2 n.places.length c2]
structure Nt.Ok (n : Nt) : Prop where
  kind : R64 n.kind
  gen : R64 n.gen
  cart : R64 n.cart
  size : R64 n.size
  key : n.key.length ≤ maxLen
  sum : n.sum.length ≤ maxLen
/-- a note's value, with its bytes and its places in memory -/
def NtV (n : Nt) (v : Value) (w : World) : Prop := ∃ A c A2 c2, v = n.agg A c A2 c2 ∧ Byt n.data (.slice A n.data.length c) w ∧ Pls n.places (.slice A2 n.places.length c2) w
theorem NtV.gr {n : Nt} {v : Value} {w w' : World} (hr : Gr w w') (h : Hid (NtV n v w)) : Hid (NtV n v w') := Lib.hid (by
  obtain ⟨A, c, A2, c2, e, h1, h2⟩ := h.out
  exact ⟨A, c, A2, c2, e, (Byt.gr hr (Lib.hid h1)).out, (Pls.gr hr (Lib.hid h2)).out⟩)
theorem in_any (n lo hi : Int) (w : World) : Calls Try.prog 67 #[.int .i64 n, .int .i64 lo, .int .i64 hi] w fun e w' => e = .returned (.bool (inB n lo hi)) ∧ w' = w := by
  unfold inB
  by_cases h1 : lo ≤ n
  · have d1 : decide (lo ≤ n) = true := decide_eq_true h1
    rw [d1]
    go_enter Try.func67, Try.ntmps67
    go_wp2
    go_ret
    exact ⟨by first | rfl | (rw [Bool.true_and]; rfl), rfl⟩
  · have d1 : decide (lo ≤ n) = false := decide_eq_false h1
    rw [d1]
    go_enter Try.func67, Try.ntmps67
    go_wp2
    go_ret
    exact ⟨by first | rfl | (rw [Bool.false_and]; rfl), rfl⟩
set_option maxRecDepth 10000 in
theorem valid1_any (p : Int × Int) (w : World) : Calls Try.prog 69 #[.agg #[.int .i64 p.1, .int .i64 p.2]] w fun e w' => e = .returned (.bool (!plOk p)) ∧ Gr w w' := by
  have hb := Lib.hid (Gr.alloc w (.cells #[.int .i64 p.1, .int .i64 p.2] 85))
  obtain ⟨a, b⟩ := p
  unfold plOk
  simp only at hb ⊢
  obtain ⟨k0, d0⟩ : ∃ k, inB a 0 31 = k := ⟨_, rfl⟩
  obtain ⟨k1, d1⟩ : ∃ k, inB b 0 1024 = k := ⟨_, rfl⟩
  rw [d0, d1]
  replace d0 := Lib.hid d0
  replace d1 := Lib.hid d1
  go_enter Try.func69, Try.ntmps69
  go_wp2_with (go_at_call 67; refine (in_any _ _ _ _).mono ?_; (try rw [d0.out]); (try rw [d1.out]); rintro e w' ⟨rfl, rfl⟩)
  all_goals (first | go_ret | (go_wp2; go_ret))
  all_goals refine ⟨congrArg (fun z => Ending.returned (Value.bool z)) ?_, hb.out⟩
  all_goals simp_all
def badF : Value := .func (.func 69) #[] #[]
set_option maxRecDepth 10000 in
theorem indexBad_any (l : List (Int × Int)) (v : Value) (w : World) (h : Pls l v w) :
    Calls Try.prog 82 #[v, badF] w fun e w' => ∃ z : Int, e = .returned (.int .i64 z) ∧ -1 ≤ z ∧ z ≤ 9223372036854775807 ∧ decide (z ≥ 0) = !(l.all plOk) ∧ Gr w w' := by
  obtain ⟨A, c, rfl, hc1, hc2, hp, hz⟩ := h
  obtain ⟨n, hn⟩ : ∃ n, l.length = n := ⟨_, rfl⟩
  rw [hn] at hc1 hp ⊢
  have hnm : n ≤ 9223372036854775807 := by simp only [maxLen] at hc2; omega
  replace hp := Lib.hid hp
  replace hn := Lib.hid hn
  clear hc1 hc2 hz
  unfold badF
  go_enter Try.func82, Try.ntmps82
  go_wp2_with fail
  go_loopw [8] (fun i wr => ∃ k : Nat, i = .int .i64 k ∧ k ≤ n ∧ Hid (∀ j p, j < k → l[j]? = some p → plOk p = true) ∧ Hid (Gr w wr)) (fun i _ => n - (intOf i).toNat)
  case atStart => exact ⟨0, rfl, Nat.zero_le _, Lib.hid (fun j p hj => absurd hj (by omega)), Lib.hid (Gr.refl _)⟩
  case round =>
    obtain ⟨k, rfl, hk, hall, hb⟩ := hrel
    by_cases hlt : k < n
    · obtain ⟨q, hq⟩ : ∃ q, l[k]? = some q := ⟨_, List.getElem?_eq_getElem (by rw [hn.out]; exact hlt)⟩
      obtain ⟨b, o, e, hbl, hcell⟩ := hp.out (by omega)
      subst e
      obtain ⟨y0, y1⟩ := hcell k q hq
      have x0 := (cellGr hb.out (a := ⟨b, o + k * 2, none⟩) hbl).trans y0
      have x1 := (cellGr hb.out (a := ⟨b, o + k * 2 + 1, none⟩) hbl).trans y1
      clear y0 y1 hcell hbl
      have hd1 := valid1_any q wr
      replace hq := Lib.hid hq
      obtain ⟨q1, q2⟩ := q
      simp only at x0 x1
      cases hj : plOk (q1, q2) with
      | false =>
        rw [hj] at hd1
        replace hd1 := Lib.hid hd1
        replace hj := Lib.hid hj
        go_wp2_with fail
        refine hd1.out.mono ?_
        rintro e w1 ⟨rfl, hb1⟩
        have hb2 := Lib.hid (hb.out.trans hb1)
        clear hb1
        go_wp2_with fail
        go_ret
        refine ⟨k, rfl, by omega, by omega, ?_, hb2.out⟩
        rw [decide_eq_true (by omega)]
        have : l.all plOk = false := by rw [List.all_eq_false]; exact ⟨(q1, q2), List.mem_of_getElem? hq.out, by rw [hj.out]; decide⟩
        rw [this]; rfl
      | true =>
        rw [hj] at hd1
        replace hd1 := Lib.hid hd1
        replace hj := Lib.hid hj
        go_wp2_with fail
        refine hd1.out.mono ?_
        rintro e w1 ⟨rfl, hb1⟩
        have hb2 := Lib.hid (hb.out.trans hb1)
        clear hb1
        go_wp2_with fail
        go_roundw
        case rel => exact ⟨k + 1, by go_num, by omega, Lib.hid (fun j p hjk hp => by
          by_cases hjk' : j < k
          · exact hall.out j p hjk' hp
          · have : j = k := by omega
            subst this
            rw [hq.out] at hp
            injection hp with hp
            rw [← hp]; exact hj.out), hb2⟩
        case measure => simp [intOf]; omega
    · obtain rfl : k = n := by omega
      clear hlt
      go_wp2_with fail
      go_ret
      refine ⟨-1, rfl, by omega, by omega, ?_, hb.out⟩
      have : l.all plOk = true := by
        rw [List.all_eq_true]
        intro p hp
        obtain ⟨j, hj, rfl⟩ := List.mem_iff_getElem.mp hp
        exact hall.out j _ (by rw [← hn.out]; exact hj) (List.getElem?_eq_getElem hj)
      rw [this]; rfl
set_option maxRecDepth 10000 in
theorem containsBad_any (l : List (Int × Int)) (v : Value) (w : World) (h : Pls l v w) :
    Calls Try.prog 68 #[v, badF] w fun e w' => e = .returned (.bool (!(l.all plOk))) ∧ Gr w w' := by
  have hi := indexBad_any l v w h
  obtain ⟨k, hk⟩ : ∃ k, (!(l.all plOk)) = k := ⟨_, rfl⟩
  rw [hk] at hi ⊢
  replace hi := Lib.hid hi
  unfold badF at hi ⊢
  clear h hk
  go_enter Try.func68, Try.ntmps68
  go_wp2_with fail
  refine hi.out.mono ?_
  rintro e w1 ⟨z, rfl, h1, h2, h3, hg⟩
  replace hg := Lib.hid hg
  go_wp2_with fail
  go_ret
  exact ⟨rfl, hg.out⟩
set_option maxHeartbeats 8000000 in
set_option maxRecDepth 10000 in
theorem valid_any (n : Nt) (v : Value) (w : World) (h : NtV n v w) :
    Calls Try.prog 43 #[v] w fun e w' => e = .returned (.bool (goodN n)) ∧ Gr w w' := by
  obtain ⟨A, c, A2, c2, rfl, -, hP⟩ := h
  have hb := Lib.hid (Gr.alloc w (.cells (n.cells A c A2 c2) 25))
  have hP1 := Pls.gr hb.out (Lib.hid hP)
  have hcb := Lib.hid (containsBad_any _ _ _ hP1.out)
  obtain ⟨kind, key, gen, cart, data, sum, size, places⟩ := n
  unfold goodN
  unfold Nt.cells at hb hP1 hcb
  unfold Nt.agg
  simp only at hb hP1 hcb ⊢
  obtain ⟨k0, d0⟩ : ∃ k, inB kind 1 6 = k := ⟨_, rfl⟩
  obtain ⟨k1, d1⟩ : ∃ k, decide (key.length ≤ 16) = k := ⟨_, rfl⟩
  obtain ⟨k2, d2⟩ : ∃ k, inB gen 0 1099511627776 = k := ⟨_, rfl⟩
  obtain ⟨k3, d3⟩ : ∃ k, inB cart 0 31 = k := ⟨_, rfl⟩
  obtain ⟨k4, d4⟩ : ∃ k, decide (data.length ≤ 512) = k := ⟨_, rfl⟩
  obtain ⟨k5, d5⟩ : ∃ k, decide (sum.length ≤ 32) = k := ⟨_, rfl⟩
  obtain ⟨k6, d6⟩ : ∃ k, inB size 0 512 = k := ⟨_, rfl⟩
  obtain ⟨k7, d7⟩ : ∃ k, decide (places.length ≤ 40) = k := ⟨_, rfl⟩
  obtain ⟨k8, d8⟩ : ∃ k, places.all plOk = k := ⟨_, rfl⟩
  rw [d8] at hcb
  rw [d0, d1, d2, d3, d4, d5, d6, d7, d8]
  have e1 : decide ((key.length : Int) ≤ 16) = k1 := by rw [← d1]; exact decide_eq_decide.mpr (by omega)
  have e4 : decide ((data.length : Int) ≤ 512) = k4 := by rw [← d4]; exact decide_eq_decide.mpr (by omega)
  have e5 : decide ((sum.length : Int) ≤ 32) = k5 := by rw [← d5]; exact decide_eq_decide.mpr (by omega)
  have e7 : decide ((places.length : Int) ≤ 40) = k7 := by rw [← d7]; exact decide_eq_decide.mpr (by omega)
  replace d0 := Lib.hid d0
  replace d2 := Lib.hid d2
  replace d3 := Lib.hid d3
  replace d6 := Lib.hid d6
  clear hP hP1 d1 d4 d5 d7 d8
  unfold badF at hcb
  go_enter Try.func43, Try.ntmps43
  go_wp2_with (first
    | (go_at_call 67; refine (in_any _ _ _ _).mono ?_; (try rw [d0.out]); (try rw [d2.out]); (try rw [d3.out]); (try rw [d6.out]); rintro e w' ⟨rfl, rfl⟩)
    | (go_at_call 68; refine hcb.out.mono ?_; rintro e w' ⟨rfl, hb2⟩; replace hb2 := Lib.hid hb2))
  all_goals (first | go_ret | (go_wp2; go_ret))
  all_goals first
    | refine ⟨congrArg (fun z => Ending.returned (Value.bool z)) ?_, hb.out.trans hb2.out⟩
    | refine ⟨congrArg (fun z => Ending.returned (Value.bool z)) ?_, hb.out⟩
  all_goals simp_all
end Go.Proofs.Ytgdbbjijneidaaa
