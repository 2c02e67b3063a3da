/- The simulated disk: its state, what its methods come to. -/
import Derived.Test.YtgdbbjijneidaaaBytes2
import Derived.Test.YtgdbbjijneidaaaBlk
import Derived.Test.YtgdbbjijneidaaaRegRd
import Derived.BigRegion
import Derived.Outline
namespace Go.Proofs.Ytgdbbjijneidaaa
set_option linter.unusedVariables false
set_option linter.unusedSimpArgs false
open Go Go.RowKit

/-- a disk's state -/
structure DS where
  c : List UInt8
  dur : Nat
  fused : Bool
  left : Int
/-- may one more operation be done; the state behind it -/
def DS.op (s : DS) : Bool × DS := if s.fused = true then (if s.left = 0 then (false, s) else (true, { s with left := s.left - 1 })) else (true, s)
def DS.append (s : DS) (b : List UInt8) : Int × DS := if 262144 < s.c.length + b.length then (16, s) else if s.op.1 = true then (0, { s.op.2 with c := s.c ++ b }) else (11, s)
def DS.sync (s : DS) : Int × DS := if s.op.1 = true then (0, { s.op.2 with dur := s.c.length }) else (11, s)
def DS.swap (s : DS) (b : List UInt8) : Int × DS := if 262144 < b.length then (16, s) else if s.op.1 = true then (0, { s.op.2 with c := b, dur := b.length }) else (11, s)
def DS.fuse (s : DS) (n : Int) : DS := { s with fused := true, left := max n 0 }
def DS.kept (s : DS) (keep : Int) : Nat := s.dur + (min (max keep 0) ((s.c.length : Int) - s.dur)).toNat
def DS.crash (s : DS) (keep : Int) : DS := { s with c := s.c.take (s.kept keep), dur := s.kept keep, fused := false }
def DS.wipe : DS := { c := [], dur := 0, fused := false, left := 0 }
structure DS.Ok (s : DS) : Prop where
  dur : s.dur ≤ s.c.length
  len : s.c.length ≤ 262144
  lo : 0 ≤ s.left
  hi : s.left ≤ 9223372036854775807
theorem DS.op_c (s : DS) : s.op.2.c = s.c ∧ s.op.2.dur = s.dur ∧ s.op.2.fused = s.fused := by unfold DS.op; split <;> (try split) <;> exact ⟨rfl, rfl, rfl⟩
theorem DS.Ok.op {s : DS} (h : s.Ok) : s.op.2.Ok := by
  unfold DS.op
  have := h.lo
  have := h.hi
  split
  · split
    · exact h
    · exact ⟨h.dur, h.len, by show 0 ≤ s.left - 1; omega, by show s.left - 1 ≤ _; omega⟩
  · exact h
theorem DS.op_false {s : DS} (h : s.op.1 = false) : s.op.2 = s := by
  unfold DS.op at *
  split
  · rename_i h1
    rw [if_pos h1] at h
    split
    · rfl
    · rename_i h2; rw [if_neg h2] at h; cases h
  · rfl
/-- the block of a disk in this state; its bytes' block; both lie from lo on and below hi -/
def Dk (w : World) (lo hi g : Nat) (s : DS) : Prop :=
  ∃ v, w.heap[g]? = some (.cells #[v, .int .i64 s.dur, .bool s.fused, .int .i64 s.left] 97 (0, 0)) ∧ lo ≤ g ∧ g < hi ∧ hi ≤ w.heap.size ∧ OB w lo v s.c ∧ (∀ k, v.ownBlock = some k → k < hi) ∧ s.Ok
/-- what a disk's methods may turn: its own block, and blocks of bytes, from lo on -/
def Chg (lo g : Nat) (w w' : World) : Prop := Upd (fun k => lo ≤ k ∧ (k = g ∨ ∃ cs, w.heap[k]? = some (.cells cs 5 (0, 0)))) w w'
theorem Chg.refl (lo g : Nat) (w : World) : Chg lo g w w := Upd.refl _ _
theorem Chg.trans {lo g : Nat} {x y z : World} (h1 : Chg lo g x y) (h2 : Chg lo g y z) : Chg lo g x z := by
  refine ⟨h1.1.trans h2.1, h1.2.1.trans h2.2.1, h1.2.2.1.trans h2.2.2.1, Nat.le_trans h1.2.2.2.1 h2.2.2.2.1, fun k hk hs => ?_⟩
  have e := h1.2.2.2.2 k hk hs
  refine (h2.2.2.2.2 k (Nat.lt_of_lt_of_le hk h1.2.2.2.1) (fun hs2 => hs ⟨hs2.1, ?_⟩)).trans e
  rcases hs2.2 with h | ⟨cs, h⟩
  · exact .inl h
  · exact .inr ⟨cs, e ▸ h⟩
theorem Chg.size {lo g : Nat} {w w' : World} (h : Chg lo g w w') : w.heap.size ≤ w'.heap.size := h.2.2.2.1
theorem Chg.below {lo g : Nat} {w w' : World} (h : Chg lo g w w') (hl : lo ≤ w.heap.size) : Below lo w w' :=
  Upd.to_below (Below.refl lo w) h hl (fun k hk => hk.1)
theorem Chg.block {lo g k : Nat} {w w' : World} {cs : Array Value} {T : TypeId} (h : Chg lo g w w') (hh : w.heap[k]? = some (.cells cs T (0, 0))) (hg : k ≠ g) (hT : T ≠ 5) : w'.heap[k]? = some (.cells cs T (0, 0)) := by
  rw [← hh]
  refine h.2.2.2.2 k (blk_lt hh) (fun hs => ?_)
  rcases hs.2 with e | ⟨cs', e⟩
  · exact hg e
  · rw [hh] at e
    injection e with e
    injection e with _ e _
    exact hT e
theorem Chg.of_below {lo g : Nat} {w w' : World} (h : Below w.heap.size w w') : Chg lo g w w' := Upd.of_below h
theorem Chg.of_set {lo g : Nat} (w : World) (j : Nat) (u : Value) (hl : lo ≤ g) : Chg lo g w (w.setCell ⟨g, j, none⟩ u) := Upd.of_grown (blk_grown w g j u) ⟨hl, .inl rfl⟩
theorem Chg.of_app {lo g : Nat} {w w' : World} {v : Value} {l : List UInt8} (ho : OB w lo v l) (hg : w.grownBy w' v.ownBlock) : Chg lo g w w' := by
  obtain ⟨h1, h2, h3, h4, hk⟩ := hg
  refine ⟨h1.symm, h2.symm, h3.symm, h4, fun k hlt hn => hk k hlt (fun e => hn ?_)⟩
  rcases ho.2 with ⟨rfl, -⟩ | ⟨g', cap, cur, rfl, hb, hh, -⟩
  · cases e
  · injection e with e
    subst e
    exact ⟨hb, .inr ⟨cur, hh⟩⟩
section
variable {w w' : World} {lo hi g : Nat} {s : DS}
theorem Dk.keep (h : Dk w lo hi g s) (hz : w.heap.size ≤ w'.heap.size) (hk : ∀ k, lo ≤ k → k < hi → w'.heap[k]? = w.heap[k]?) : Dk w' lo hi g s := by
  obtain ⟨v, h1, h2, h3, h4, h5, h6, h7⟩ := h
  refine ⟨v, (hk g h2 h3).trans h1, h2, h3, Nat.le_trans h4 hz, ⟨h5.1, ?_⟩, h6, h7⟩
  rcases h5.2 with h | ⟨k, cap, cur, rfl, hb, hh, h⟩
  · exact .inl h
  · exact .inr ⟨k, cap, cur, rfl, hb, (hk k hb (h6 k rfl)).trans hh, h⟩
theorem Dk.below (h : Dk w lo hi g s) (hb : Below w.heap.size w w') : Dk w' lo hi g s := h.keep hb.size (fun k _ hk => by
  obtain ⟨v, _, _, _, h4, _⟩ := h
  exact hb.block k (by omega))
theorem Dk.set (h : Dk w lo hi g s) (p : Addr) (hp : p.block < lo ∨ hi ≤ p.block) (u : Value) : Dk (w.setCell p u) lo hi g s :=
  h.keep (by simp [World.setCell]) (fun k h1 h2 => Below.heap_setCell _ _ _ _ (by omega))
theorem Dk.more {hi' : Nat} (h : Dk w lo hi g s) (h1 : hi ≤ hi') (h2 : hi' ≤ w.heap.size) : Dk w lo hi' g s := by
  obtain ⟨v, a, b, c, d, e, f, i⟩ := h
  exact ⟨v, a, b, by omega, h2, e, fun k hk => by have := f k hk; omega, i⟩
theorem Dk.ok (h : Dk w lo hi g s) : s.Ok := by obtain ⟨v, a, b, c, d, e, f, i⟩ := h; exact i
theorem Dk.bounds (h : Dk w lo hi g s) : lo ≤ g ∧ g < hi ∧ hi ≤ w.heap.size := by obtain ⟨v, a, b, c, d, e, f, i⟩ := h; exact ⟨b, c, d⟩
theorem Dk.drew (h : Dk w lo hi g s) : Dk w.drew lo hi g s := h
theorem Dk.drewN (h : Dk w lo hi g s) (n : Nat) : Dk (w.drewN n) lo hi g s := h
/-- a disk whose block is stored anew, its bytes as they were -/
theorem Dk.redo {v v' : Value} {cs : Array Value} {s s' : DS} (ho : OB w lo v s.c) (hv : ∀ k, v.ownBlock = some k → k < hi) (hg : lo ≤ g ∧ g < hi ∧ hi ≤ w.heap.size) (hh : w.heap[g]? = some (.cells #[v, .int .i64 s.dur, .bool s.fused, .int .i64 s.left] 97 (0, 0))) (hok : s.Ok) : Dk w lo hi g s :=
  ⟨v, hh, hg.1, hg.2.1, hg.2.2, ho, hv, hok⟩
theorem OB.ne_blk {v : Value} {l : List UInt8} {cs : Array Value} {T : TypeId} (ho : OB w lo v l) (hh : w.heap[g]? = some (.cells cs T (0, 0))) (hT : T ≠ 5) : v.ownBlock ≠ some g := by
  rcases ho.2 with ⟨rfl, -⟩ | ⟨k, cap, cur, rfl, hb, hk, -⟩
  · intro e; cases e
  · intro e
    injection e with e
    have e : k = g := e
    subst e
    rw [hh] at hk
    injection hk with hk
    injection hk with _ e _
    exact hT e
theorem OB.set_other {v : Value} {l : List UInt8} (ho : OB w lo v l) (j : Nat) (u : Value) (hn : v.ownBlock ≠ some g) : OB (w.setCell ⟨g, j, none⟩ u) lo v l := by
  refine ⟨ho.1, ?_⟩
  rcases ho.2 with h | ⟨k, cap, cur, rfl, hb, hk, h⟩
  · exact .inl h
  · exact .inr ⟨k, cap, cur, rfl, hb, (blk_other (fun e => hn (congrArg some e)) j u).trans hk, h⟩
/-- bytes that lie below block B stay -/
theorem OB.under {v : Value} {l : List UInt8} {base B : Nat} (ho : OB w base v l) (hl : ∀ k, v.ownBlock = some k → base ≤ k ∧ k < B) (hb : Below B w w') : OB w' base v l := by
  refine ⟨ho.1, ?_⟩
  rcases ho.2 with h | ⟨k, cap, cur, rfl, h0, hk, h⟩
  · exact .inl h
  · exact .inr ⟨k, cap, cur, rfl, h0, (hb.block k (hl k rfl).2).trans hk, h⟩
theorem OB.cut {A : Option Addr} {n c : Nat} {l : List UInt8} (ho : OB w lo (.slice A n c) l) {m : Nat} (hm : m ≤ n) : OB w lo (.slice A m c) (l.take m) := by
  have hn : l.length = n := by
    rcases ho.2 with ⟨e, h0⟩ | ⟨g, cap, cur, e, -⟩
    · injection e with _ e _; omega
    · injection e with _ e _; exact e.symm
  subst hn
  unfold OB
  have hl : (l.take m).length = m := by rw [List.length_take]; omega
  rw [hl]
  refine ⟨by simp; omega, ?_⟩
  rcases ho.2 with ⟨e, h0⟩ | ⟨g, cap, cur, e, h1, h2, h3, h4, h5, h6⟩
  · injection e with e1 e2 e3
    subst e1
    subst e3
    have : m = 0 := by omega
    subst this
    exact .inl ⟨rfl, rfl⟩
  · injection e with e1 e2 e3
    subst e1
    subst e3
    refine .inr ⟨g, c, cur, rfl, h1, h2, by omega, h4, h5, ?_⟩
    rw [List.map_take, ← h6, List.take_take]
    congr 1
    omega
end
set_option maxRecDepth 10000 in
theorem dcopied_any (A : Option Addr) (n c : Nat) (l : List UInt8) (hn : l.length = n) (hl : n ≤ 140737488355328) (w : World) (hr : Rd w w.heap.size A l) :
    Calls Try.prog 63 #[.slice A n c] w fun e w' => ∃ v, e = .returned v ∧ OB w' w.heap.size v l ∧ Below w.heap.size w w' := by
  replace hr := Lib.hid hr
  replace hn := Lib.hid hn
  go_enter Try.func63, Try.ntmps63
  go_wp2_with (first
    | (refine wpl_make rfl (.tmp 5) (.tmp 5) rfl w.heap.size n rfl rfl hl (Nat.le_refl _) ?_; intro w1 hown1 hb1)
    | (with_reducible refine wpl_copy_full rfl (.tmp 7) (.tmp 8) rfl w.heap.size w.heap.size n _ hown1 w1.heap.size A c l hn.out rfl rfl (hr.out.up hb1) ?_; intro w2 hown2 hb2))
  go_ret
  exact ⟨_, rfl, hown2, hb1.trans hb2⟩
theorem Dk.set3 {w : World} {lo hi g : Nat} {s : DS} (h : Dk w lo hi g s) (z : Int) (hz : 0 ≤ z ∧ z ≤ 9223372036854775807) : Dk (w.setCell ⟨g, 3, none⟩ (.int .i64 z)) lo hi g { s with left := z } := by
  obtain ⟨v, a, b, c, d, e, f, i⟩ := h
  exact ⟨v, blk_set a 3 _, b, c, by simp [World.setCell]; exact d, e.set_other 3 _ (e.ne_blk a (by decide)), f, ⟨i.dur, i.len, hz.1, hz.2⟩⟩
theorem Dk.set2 {w : World} {lo hi g : Nat} {s : DS} (h : Dk w lo hi g s) (z : Bool) : Dk (w.setCell ⟨g, 2, none⟩ (.bool z)) lo hi g { s with fused := z } := by
  obtain ⟨v, a, b, c, d, e, f, i⟩ := h
  exact ⟨v, blk_set a 2 _, b, c, by simp [World.setCell]; exact d, e.set_other 2 _ (e.ne_blk a (by decide)), f, ⟨i.dur, i.len, i.lo, i.hi⟩⟩
theorem Dk.set1 {w : World} {lo hi g : Nat} {s : DS} (h : Dk w lo hi g s) (z : Nat) (hz : z ≤ s.c.length) : Dk (w.setCell ⟨g, 1, none⟩ (.int .i64 z)) lo hi g { s with dur := z } := by
  obtain ⟨v, a, b, c, d, e, f, i⟩ := h
  exact ⟨v, blk_set a 1 _, b, c, by simp [World.setCell]; exact d, e.set_other 1 _ (e.ne_blk a (by decide)), f, ⟨hz, i.len, i.lo, i.hi⟩⟩
/-- what the walk reads of a disk -/
theorem Dk.open_ {w : World} {lo hi g : Nat} {s : DS} (h : Dk w lo hi g s) : ∃ A c, OB w lo (.slice A s.c.length c) s.c ∧ s.c.length ≤ c ∧ c ≤ maxLen ∧ Rd w w.heap.size A s.c ∧ (∀ k, (Value.slice A s.c.length c).ownBlock = some k → k < hi) ∧ w.heap[g]? = some (.cells #[.slice A s.c.length c, .int .i64 s.dur, .bool s.fused, .int .i64 s.left] 97 (0, 0)) ∧
    w.cell? ⟨g, 0, none⟩ = some (.slice A s.c.length c) ∧ w.cell? ⟨g, 1, none⟩ = some (.int .i64 s.dur) ∧ w.cell? ⟨g, 2, none⟩ = some (.bool s.fused) ∧ w.cell? ⟨g, 3, none⟩ = some (.int .i64 s.left) := by
  obtain ⟨v, a, b, c, d, e, f, i⟩ := h
  obtain ⟨A, n, rfl, h1, h2, h3, h4⟩ := e.form
  exact ⟨A, n, e, h1, h2, h3, f, a, blk_cell a rfl, blk_cell a rfl, blk_cell a rfl, blk_cell a rfl⟩
theorem Dk.free {w : World} {lo hi g : Nat} {s : DS} (h : Dk w lo hi g s) (j : Nat) : w.frozen? ⟨g, j, none⟩ = false := by
  obtain ⟨v, a, -⟩ := h
  exact blk_free a j
theorem Chg.of_upd {lo g : Nat} {w w' : World} (h : Upd (· = g) w w') (hl : lo ≤ g) : Chg lo g w w' :=
  ⟨h.1, h.2.1, h.2.2.1, h.2.2.2.1, fun k hk hs => h.2.2.2.2 k hk (fun e => hs ⟨e ▸ hl, .inl e⟩)⟩
theorem Rd.ne_dk {w : World} {lo hi g B : Nat} {s : DS} {A : Option Addr} {l : List UInt8} (h : Dk w lo hi g s) (hr : Rd w B A l) : ∀ ad, A = some ad → 0 < l.length → ¬ (ad.block = g) := fun ad e hn hg => by
  obtain ⟨ad', e', -, hc⟩ := hr.at_ hn
  rw [e] at e'
  injection e' with e'
  subst e'
  obtain ⟨A0, c0, -, -, -, -, -, hh, -⟩ := h.open_
  unfold World.cell? at hc
  rw [block_of_add, hg, hh] at hc
  simp only at hc
  split at hc
  · cases hc
  · rcases ho : (ad.add 0).off with _ | _ | _ | _ | k
    · rw [ho] at hc; simp at hc
    · rw [ho] at hc; simp at hc
    · rw [ho] at hc; simp at hc
    · rw [ho] at hc; simp at hc
    · rw [ho] at hc; simp at hc
theorem Dk.set0 {w : World} {lo g : Nat} {s : DS} {vold v' : Value} {l' : List UInt8} (hh : w.heap[g]? = some (.cells #[vold, .int .i64 s.dur, .bool s.fused, .int .i64 s.left] 97 (0, 0))) (hl : lo ≤ g) (ho : OB w lo v' l') (hok : DS.Ok { s with c := l' }) : Dk (w.setCell ⟨g, 0, none⟩ v') lo w.heap.size g { s with c := l' } :=
  ⟨v', blk_set hh 0 v', hl, blk_lt hh, by simp [World.setCell], ho.set_other 0 _ (ho.ne_blk hh (by decide)), fun k hk => (ho.lt k hk).2, hok⟩
theorem upd_cell {S : Nat → Prop} {w w' : World} {g j : Nat} {v : Value} (h : w.cell? ⟨g, j, none⟩ = some v) (hu : w'.heap[g]? = w.heap[g]?) : w'.cell? ⟨g, j, none⟩ = some v := (World.cell?_of_block hu).trans h
set_option maxRecDepth 10000 in
theorem operate_any (lo hi g : Nat) (s : DS) (w : World) (h : Dk w lo hi g s) :
    Calls Try.prog 59 #[.pointer (some ⟨g, 0, none⟩)] w fun e w' => e = .returned (.bool s.op.1) ∧ Dk w' lo hi g s.op.2 ∧ Upd (· = g) w w' := by
  obtain ⟨A, c, -, -, -, -, -, -, h0, h1, h2, h3⟩ := h.open_
  have hf3 := h.free 3
  have hok := h.ok
  have hlo := hok.lo
  have hhi := hok.hi
  have hg := h.bounds.1
  cases hfu : s.fused with
  | false =>
    have e : s.op = (true, s) := by unfold DS.op; rw [hfu]; rfl
    rw [e]
    rw [hfu] at h2
    replace h := Lib.hid h
    clear e hok
    go_enter Try.func59, Try.ntmps59
    go_wp2
    go_ret
    exact ⟨rfl, h.out, Upd.refl _ _⟩
  | true =>
    rw [hfu] at h2
    by_cases hl : s.left = 0
    · have e : s.op = (false, s) := by unfold DS.op; rw [hfu, if_pos rfl, if_pos hl]
      rw [e]
      rw [hl] at h3
      replace h := Lib.hid h
      clear e hok hl
      go_enter Try.func59, Try.ntmps59
      go_wp2
      go_ret
      exact ⟨rfl, h.out, Upd.refl _ _⟩
    · have e : s.op = (true, { s with left := s.left - 1 }) := by unfold DS.op; rw [hfu, if_pos rfl, if_neg hl]
      rw [e]
      have hd : (s.left == 0) = false := beq_eq_false_iff_ne.mpr hl
      have hs := Lib.hid (h.set3 (s.left - 1) (by omega))
      replace h := Lib.hid h
      have hl1 : 0 ≤ s.left - 1 := by omega
      clear e hok hl
      go_enter Try.func59, Try.ntmps59
      go_wp2
      go_ret
      exact ⟨rfl, hs.out, Upd.of_grown (S := (· = g)) (blk_grown _ _ _ _) rfl⟩
end Go.Proofs.Ytgdbbjijneidaaa
