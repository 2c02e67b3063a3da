/- The queue of requests: its state, New, add, Len, Push. -/
import Derived.Test.YtppclmidnomkjabTyp6
import Derived.Test.YtppclmidnomkjabTab
import Derived.BigRegion
import Derived.Outline
import Derived.WalkSpells
import Derived.Deep.DeepMust
import Derived.Deep.QuietTactic
import Derived.BigQuiet
namespace Go.Proofs.Ytppclmidnomkjab
set_option linter.unusedVariables false
set_option linter.unusedSimpArgs false
open Go Go.RowKit
/-- a request -/
structure AskR where
  a : Int
  b : Int
  c : Int
  d : Int
  e : Int
  f : Int
def AskR.cells (q : AskR) : List Value := [.int .i64 q.a, .int .i64 q.b, .int .i64 q.c, .int .i64 q.d, .int .i64 q.e, .int .i64 q.f]
def AskR.agg (q : AskR) : Value := .agg #[.int .i64 q.a, .int .i64 q.b, .int .i64 q.c, .int .i64 q.d, .int .i64 q.e, .int .i64 q.f]
def AskR.Ok (q : AskR) : Prop := I64 q.a ∧ I64 q.b ∧ I64 q.c ∧ I64 q.d ∧ I64 q.e ∧ I64 q.f
def ask0 : AskR := ⟨0, 0, 0, 0, 0, 0⟩
theorem AskR.one (q : AskR) : ∀ u ∈ q.cells, u.oneCell' = true := fun u hu => by
  simp [AskR.cells] at hu
  rcases hu with rfl | rfl | rfl | rfl | rfl | rfl <;> rfl
def flatA (l : List AskR) : List Value := l.flatMap AskR.cells
theorem flatA_len (l : List AskR) : (flatA l).length = l.length * 6 := by
  induction l with
  | nil => rfl
  | cons q l ih => simp [flatA, AskR.cells] at *; omega
theorem flatA_app (l m : List AskR) : flatA (l ++ m) = flatA l ++ flatA m := by simp [flatA]
theorem flatA_one (q : AskR) : flatA [q] = q.cells := by simp [flatA]
theorem flatA_at (l : List AskR) {i : Nat} {q : AskR} (h : l[i]? = some q) : ∀ j, j < 6 → (flatA l)[i * 6 + j]? = q.cells[j]? := by
  induction l generalizing i with
  | nil => simp at h
  | cons p l ih =>
    intro j hj
    have hp : p.cells.length = 6 := rfl
    cases i with
    | zero =>
      simp at h; subst h
      show (p.cells ++ flatA l)[0 * 6 + j]? = _
      rw [List.getElem?_append_left (by omega)]
      congr 1; omega
    | succ i =>
      simp at h
      show (p.cells ++ flatA l)[(i + 1) * 6 + j]? = _
      rw [List.getElem?_append_right (by omega), hp, show (i + 1) * 6 + j - 6 = i * 6 + j by omega]
      exact ih h j hj
theorem flatA_take (l : List AskR) (k : Nat) : (flatA l).take (k * 6) = flatA (l.take k) := by
  induction l generalizing k with
  | nil => simp [flatA]
  | cons p l ih =>
    cases k with
    | zero => simp [flatA]
    | succ k =>
      have hp : p.cells.length = 6 := rfl
      show (p.cells ++ flatA l).take ((k + 1) * 6) = p.cells ++ flatA (l.take k)
      rw [List.take_append, List.take_of_length_le (by omega), hp, show (k + 1) * 6 - 6 = k * 6 by omega, ih]
theorem flatA_drop (l : List AskR) (k : Nat) : (flatA l).drop (k * 6) = flatA (l.drop k) := by
  induction l generalizing k with
  | nil => simp [flatA]
  | cons p l ih =>
    cases k with
    | zero => simp
    | succ k =>
      have hp : p.cells.length = 6 := rfl
      show (p.cells ++ flatA l).drop ((k + 1) * 6) = flatA (l.drop k)
      rw [List.drop_append, List.drop_eq_nil_of_le (by omega), hp, show (k + 1) * 6 - 6 = k * 6 by omega, ih]
      rfl
/-- v is a slice of requests of the call's own -/
def ARow (w : World) (base : Nat) (v : Value) (l : List AskR) : Prop := w.ownsRow base 28 6 v l.length (flatA l)
theorem info_ask : (Try.prog.info? 28).map (fun i => (i.zero, i.size, i.bytes)) = some (some (.agg #[.int .i64 0, .int .i64 0, .int .i64 0, .int .i64 0, .int .i64 0, .int .i64 0]), 6, 48) := by kernel_rfl
theorem Reads.lit6 (w : World) (q : AskR) (t : TypeId) (B : Nat) (hB : w.heap.size < B) : Reads (w.alloc (.cells #[.int .i64 q.a, .int .i64 q.b, .int .i64 q.c, .int .i64 q.d, .int .i64 q.e, .int .i64 q.f] t)) B 6 (some ⟨w.heap.size, 0, none⟩) 1 q.cells :=
  ⟨rfl, fun _ => ⟨_, rfl, hB, World.news_of_block (heap_alloc_new w _) |> fun hh j u hu => hh j u hu⟩⟩
/-- block g is a queue of these requests, whose slice is v -/
structure Qu (w : World) (lo g : Nat) (v : Value) (l : List AskR) (most : Nat) : Prop where
  blk : w.heap[g]? = some (.cells #[v, .int .i64 most] 63 (0, 0))
  low : lo ≤ g
  row : ARow w lo v l
  len : l.length ≤ most
  most : most ≤ 4096
  ok : ∀ q ∈ l, q.Ok
/-- what a queue's methods may turn -/
def QS (g : Nat) (v : Value) (k : Nat) : Prop := k = g ∨ v.ownBlock = some k
/-- the slice is where it was, or in a new block -/
def Moved (v v' : Value) (n : Nat) : Prop := v'.ownBlock = v.ownBlock ∨ ∀ k, v'.ownBlock = some k → n ≤ k
section
variable {w w' : World} {lo g : Nat} {v : Value} {l : List AskR} {most : Nat} {S : Nat → Prop}
theorem row_upd {base e size n : Nat} {u : Value} {xs : List Value} (h : w.ownsRow base e size u n xs) (hu : Upd S w w') (hn : ∀ k, u.ownBlock = some k → ¬ S k) : w'.ownsRow base e size u n xs :=
  row_keep h (fun k hk => hu.2.2.2.2 k (h.lt k hk).2 (hn k hk))
theorem Upd.mono {S' : Nat → Prop} (h : Upd S w w') (hs : ∀ k, S k → S' k) : Upd S' w w' := ⟨h.1, h.2.1, h.2.2.1, h.2.2.2.1, fun k hk hn => h.2.2.2.2 k hk (fun h' => hn (hs k h'))⟩
theorem Qu.upd (h : Qu w lo g v l most) (hu : Upd S w w') (hn : ∀ k, QS g v k → ¬ S k) : Qu w' lo g v l most :=
  ⟨(hu.2.2.2.2 g (blk_lt h.blk) (hn g (.inl rfl))).trans h.blk, h.low, row_upd h.row hu (fun k hk => hn k (.inr hk)), h.len, h.most, h.ok⟩
theorem Qu.below (h : Qu w lo g v l most) (hb : Below w.heap.size w w') : Qu w' lo g v l most := h.upd (S := fun _ => False) (Upd.of_below hb) (fun _ _ h => h)
theorem Qu.lt (h : Qu w lo g v l most) : g < w.heap.size := blk_lt h.blk
theorem Qu.lw (h : Qu w lo g v l most) : lo ≤ w.heap.size := by have := h.lt; have := h.low; omega
theorem Qu.qs (h : Qu w lo g v l most) : ∀ k, QS g v k → lo ≤ k ∧ k < w.heap.size := fun k hk => by
  rcases hk with rfl | hk
  · exact ⟨h.low, h.lt⟩
  · exact h.row.lt k hk
theorem Qu.frame (h : Qu w lo g v l most) (hu : Upd (QS g v) w w') : Below lo w w' := Upd.to_below (Below.refl lo w) hu h.lw (fun k hk => (h.qs k hk).1)
theorem Qu.form (h : Qu w lo g v l most) : ∃ A c, v = .slice A l.length c ∧ l.length ≤ c ∧ c ≤ maxLen := row_form h.row
theorem Qu.drewN (h : Qu w lo g v l most) (n : Nat) : Qu (w.drewN n) lo g v l most := ⟨h.blk, h.low, h.row, h.len, h.most, h.ok⟩
theorem Qu.free (h : Qu w lo g v l most) (j : Nat) : w.frozen? ⟨g, j, none⟩ = false := blk_free h.blk j
end
set_option maxRecDepth 10000 in
theorem qnew_any (z : Int) (hz : I64 z) (w : World) :
    Calls Try.prog 12 #[.int .i64 z] w fun e w' => e = .returned (.pointer (some ⟨w.heap.size, 0, none⟩)) ∧ Qu w' w.heap.size w.heap.size (.slice none 0 0) [] (min (max z 0) 4096).toNat ∧ Below w.heap.size w w' := by
  obtain ⟨m, hm⟩ : ∃ m : Nat, (m : Int) = min (max z 0) 4096 := ⟨(min (max z 0) 4096).toNat, by omega⟩
  have hm2 : (min (max z 0) 4096).toNat = m := by omega
  rw [hm2]
  have hm3 : m ≤ 4096 := by omega
  replace hm := Lib.hid hm
  replace hm2 := Lib.hid hm2
  rcases (by have := hm.out; omega : (z < 0 ∧ (m : Int) = 0) ∨ (0 ≤ z ∧ z ≤ 4096 ∧ (m : Int) = z) ∨ (4096 < z ∧ (m : Int) = 4096)) with ⟨h1, hme⟩ | ⟨h1, h2, hme⟩ | ⟨h1, hme⟩
  all_goals
    replace hme := Lib.hid hme
    go_enter Try.func12, Try.ntmps12
    go_wp2
    try rw [← hme.out]
    go_ret
    exact ⟨rfl, ⟨by first | exact heap_alloc_new w _ | (rw [hme.out]; exact heap_alloc_new w _), Nat.le_refl _, World.ownsRow_nil _ _ _ 6, Nat.zero_le _, hm3, fun q h => (by cases h)⟩, (Below.refl _ _).alloc (Nat.le_refl _) _⟩
set_option maxRecDepth 10000 in
theorem qlen_any (lo g : Nat) (v : Value) (l : List AskR) (most : Nat) (w : World) (h : Qu w lo g v l most) :
    Calls Try.prog 21 #[.pointer (some ⟨g, 0, none⟩)] w fun e w' => e = .returned (.int .i64 l.length) ∧ w' = w := by
  obtain ⟨A, c, rfl, hc, hm⟩ := h.form
  have c0 := blk_cell (j := 0) h.blk rfl
  have hlen := h.len
  have hmo := h.most
  replace h := Lib.hid h
  go_enter Try.func21, Try.ntmps21
  go_wp2
  go_ret
  exact ⟨rfl, rfl⟩
set_option maxHeartbeats 1000000 in
set_option maxRecDepth 10000 in
theorem qadd_any (lo g : Nat) (v : Value) (l : List AskR) (most : Nat) (q : AskR) (hq : q.Ok) (hroom : l.length < most) (w : World) (h : Qu w lo g v l most) :
    Calls Try.prog 33 #[.pointer (some ⟨g, 0, none⟩), q.agg] w fun e w' => e = .returned (.tuple #[]) ∧ ∃ v', Qu w' lo g v' (l ++ [q]) most ∧ Moved v v' w.heap.size ∧ Upd (QS g v) w w' := by
  obtain ⟨i0, hi0, hz0, hz1, hz2⟩ := info_parts info_ask
  obtain ⟨A, c, rfl, hc, hm⟩ := h.form
  obtain ⟨n, hn⟩ : ∃ n, l.length = n := ⟨_, rfl⟩
  have hlow := h.low
  have hmo := h.most
  have hgw := h.lt
  have hrow := h.row
  have hqs := Lib.hid h.qs
  unfold ARow at hrow
  have hh := h.blk
  rw [hn] at hroom hc hh hrow ⊢
  have hn1 := Lib.hid (row_ne hrow hh (by decide))
  have hn2 : Hid ((Value.slice A n c).ownBlock ≠ some w.heap.size) := Lib.hid (fun e => by have := (hrow.lt _ e).2; omega)
  have hba := (Below.refl w.heap.size w).alloc (Nat.le_refl _) (.cells #[.int .i64 q.a, .int .i64 q.b, .int .i64 q.c, .int .i64 q.d, .int .i64 q.e, .int .i64 q.f] 28)
  have hnew := heap_alloc_new w (.cells #[.int .i64 q.a, .int .i64 q.b, .int .i64 q.c, .int .i64 q.d, .int .i64 q.e, .int .i64 q.f] 28)
  have hws : (w.alloc (.cells #[.int .i64 q.a, .int .i64 q.b, .int .i64 q.c, .int .i64 q.d, .int .i64 q.e, .int .i64 q.f] 28)).heap.size = w.heap.size + 1 := by simp
  replace h := Lib.hid h
  replace hh := Lib.hid hh
  replace hrow := Lib.hid hrow
  replace hn := Lib.hid hn
  replace hq := Lib.hid hq
  unfold AskR.agg
  go_enter Try.func33, Try.ntmps33
  go_wp2_with fail
  obtain ⟨w1, hw1⟩ : ∃ w1, w.alloc (.cells #[.int .i64 q.a, .int .i64 q.b, .int .i64 q.c, .int .i64 q.d, .int .i64 q.e, .int .i64 q.f] 28) = w1 := ⟨_, rfl⟩
  rw [hw1] at hba hnew hws ⊢
  obtain ⟨N, hN⟩ : ∃ N, w.heap.size = N := ⟨_, rfl⟩
  rw [hN] at hnew hws hn2 hgw ⊢
  have hh1 := (hba.block g (by omega)).trans hh.out
  have hrow1 := Lib.hid (row_below hrow.out hba)
  have c0 := blk_cell (j := 0) hh1 rfl
  have k0 := blk_cell (j := 0) hnew rfl
  have k1 := blk_cell (j := 1) hnew rfl
  have k2 := blk_cell (j := 2) hnew rfl
  have k3 := blk_cell (j := 3) hnew rfl
  have k4 := blk_cell (j := 4) hnew rfl
  have k5 := blk_cell (j := 5) hnew rfl
  have hgl : g < w1.heap.size := by omega
  have hgn : N < w1.heap.size := by omega
  have hlw : lo ≤ w1.heap.size := by omega
  have hsrc : Hid (Reads (w1.alloc (.cells #[.int .i64 q.a, .int .i64 q.b, .int .i64 q.c, .int .i64 q.d, .int .i64 q.e, .int .i64 q.f] 28)) (N + 2) 6 (some ⟨N + 1, 0, none⟩) 1 q.cells) := Lib.hid (by
    have := Reads.lit6 w1 q 28 (N + 2) (by omega)
    rw [hws] at this
    exact this)
  have hhW : Hid ((w1.alloc (.cells #[.int .i64 q.a, .int .i64 q.b, .int .i64 q.c, .int .i64 q.d, .int .i64 q.e, .int .i64 q.f] 28)).drew.heap[g]? = some (.cells #[.slice A n c, .int .i64 most] 63 (0, 0))) := Lib.hid (blk_alloc hh1 _)
  have hu1 : Hid (Upd (QS g (.slice A n c)) w (w1.alloc (.cells #[.int .i64 q.a, .int .i64 q.b, .int .i64 q.c, .int .i64 q.d, .int .i64 q.e, .int .i64 q.f] 28)).drew) := Lib.hid (Upd.of_below ((hba.alloc (by omega) _).drew))
  replace hba := Lib.hid hba
  replace hh1 := Lib.hid hh1
  replace hnew := Lib.hid hnew
  replace hw1 := Lib.hid hw1
  refine wpR_region (Upd (fun k => (Value.slice A n c).ownBlock = some k)) 10 (by kernel_rfl) ?_
  refine wpR_take (i := 0) (v := ?_) (Upd.road _) (some 4) rfl (by kernel_rfl) (by kernel_rfl) (by kernel_rfl) (by kernel_rfl) (by kernel_rfl) (fun _ _ _ h => h) (by kernel_rfl) (fun w' hw' => ?_) ?_
  rotate_left
  · go_simp; with_reducible rfl
  simp only [Act.put, List.setIfInBounds_toArray, List.set_cons_zero, List.set_cons_succ]
  refine wpR_take (i := 1) (v := ?_) (Upd.road _) (some 5) rfl (by kernel_rfl) (by kernel_rfl) (by kernel_rfl) (by kernel_rfl) (by kernel_rfl) (fun _ _ _ h => h) (by kernel_rfl) (fun w' hw' => ?_) ?_
  rotate_left
  · go_simp; with_reducible rfl
  simp only [Act.put, List.setIfInBounds_toArray, List.set_cons_zero, List.set_cons_succ]
  refine wpR_take (i := 2) (v := ?_) (Upd.road _) (some 6) rfl (by kernel_rfl) (by kernel_rfl) (by kernel_rfl) (by kernel_rfl) (by kernel_rfl) (fun _ _ _ h => h) (by kernel_rfl) (fun w' hw' => ?_) ?_
  rotate_left
  · go_simp; with_reducible rfl
  simp only [Act.put, List.setIfInBounds_toArray, List.set_cons_zero, List.set_cons_succ]
  refine wpR_take (i := 3) (v := ?_) (Upd.road _) (some 7) rfl (by kernel_rfl) (by kernel_rfl) (by kernel_rfl) (by kernel_rfl) (by kernel_rfl) (fun _ _ _ h => h) (by kernel_rfl) (fun w' hw' => ?_) ?_
  rotate_left
  · go_simp; with_reducible rfl
  simp only [Act.put, List.setIfInBounds_toArray, List.set_cons_zero, List.set_cons_succ]
  refine wpR_take (i := 4) (v := ?_) (Upd.road _) (some 8) rfl (by kernel_rfl) (by kernel_rfl) (by kernel_rfl) (by kernel_rfl) (by kernel_rfl) (fun _ _ _ h => h) (by kernel_rfl) (fun w' hw' => ?_) ?_
  rotate_left
  · have q := (World.cell?_of_block (a := ⟨g, 0, none⟩) (hw'.2.2.2.2 g hgl hn1.out)).trans c0; go_simp; with_reducible rfl
  simp only [Act.put, List.setIfInBounds_toArray, List.set_cons_zero, List.set_cons_succ]
  refine wpR_take (i := 5) (v := ?_) (Upd.road _) (some 9) rfl (by kernel_rfl) (by kernel_rfl) (by kernel_rfl) (by kernel_rfl) (by kernel_rfl) (fun _ _ _ h => h) (by kernel_rfl) (fun w' hw' => ?_) ?_
  rotate_left
  · have q0 := (World.cell?_of_block (a := ⟨N, 0, none⟩) (hw'.2.2.2.2 N hgn hn2.out)).trans k0; have q1 := (World.cell?_of_block (a := ⟨N, 1, none⟩) (hw'.2.2.2.2 N hgn hn2.out)).trans k1; have q2 := (World.cell?_of_block (a := ⟨N, 2, none⟩) (hw'.2.2.2.2 N hgn hn2.out)).trans k2; have q3 := (World.cell?_of_block (a := ⟨N, 3, none⟩) (hw'.2.2.2.2 N hgn hn2.out)).trans k3; have q4 := (World.cell?_of_block (a := ⟨N, 4, none⟩) (hw'.2.2.2.2 N hgn hn2.out)).trans k4; have q5 := (World.cell?_of_block (a := ⟨N, 5, none⟩) (hw'.2.2.2.2 N hgn hn2.out)).trans k5; go_simp; with_reducible rfl
  simp only [Act.put, List.setIfInBounds_toArray, List.set_cons_zero, List.set_cons_succ]
  refine wpR_one 6 rfl (by kernel_rfl) (by kernel_rfl) (fun K hK => ?_)
  go_simp
  refine hK _ _ (fun _ => Upd.of_below ((Below.refl _ _).alloc (Nat.le_refl _) _)) ?_
  clear hK K
  try simp only [Act.put, List.setIfInBounds_toArray, List.set_cons_zero, List.set_cons_succ]
  refine wpR_one 7 rfl (by kernel_rfl) (by kernel_rfl) (fun K hK => ?_)
  refine wp_append_any _ (.tmp 8) (.tmp 10) 37 rfl lo 28 i0 _ 6 48 Try.underlying37 hi0 hz0 hz1 hz2 rfl (by omega) (.slice A n c) n (flatA l) rfl (hrow1.out.alloc _) _ _ 1 1 q.cells rfl hsrc.out q.one (by unfold maxLen; omega) (by omega) (by simp; omega) ?_
  intro v2 w2 hrow2 hg2 hv2
  obtain ⟨A2, c2, rfl, hc2, hm2⟩ := row_form hrow2
  refine hK _ _ (fun _ => Upd.of_own hg2) ?_
  clear hK K
  have hh2 := blk_grow hhW.out hg2 hn1.out
  have q0 := blk_cell (j := 0) hh2 rfl
  have q1 := blk_free hh2 0
  have hws2 := hg2.size
  have hu2 := Lib.hid (Upd.of_own hg2)
  have hv2' := Lib.hid hv2
  replace hrow2 := Lib.hid hrow2
  clear hv2 hg2
  replace hh2 := Lib.hid hh2
  try simp only [Act.put, List.setIfInBounds_toArray, List.set_cons_zero, List.set_cons_succ]
  refine wpR_one 8 rfl (by kernel_rfl) (by kernel_rfl) (fun K hK => ?_)
  go_simp
  refine hK _ _ (fun _ => Upd.refl _ _) ?_
  clear hK K
  try simp only [Act.put, List.setIfInBounds_toArray, List.set_cons_zero, List.set_cons_succ]
  refine wpR_take (i := 9) (v := ?_) (Upd.road _) (some 13) rfl (by kernel_rfl) (by kernel_rfl) (by kernel_rfl) (by kernel_rfl) (by kernel_rfl) (fun _ _ _ h => h) (by kernel_rfl) (fun w' hw' => ?_) ?_
  rotate_left
  · go_simp; with_reducible rfl
  simp only [Act.put, List.setIfInBounds_toArray, List.set_cons_zero, List.set_cons_succ]
  refine wpR_one 10 rfl (by kernel_rfl) (by kernel_rfl) (fun K hK => ?_)
  go_simp
  refine hK _ _ (fun h => absurd rfl h) ?_
  clear hK K
  try simp only [Act.put, List.setIfInBounds_toArray, List.set_cons_zero, List.set_cons_succ]
  refine wpR_done (by kernel_rfl) ?_ _
  go_end0
  have hset := blk_set hh2.out 0 (.slice A2 (n + 1) c2)
  refine ⟨rfl, _, ⟨hset, hlow, ?_, ?_, hmo, fun p hp => ?_⟩, ?_, (hu1.out.trans (hu2.out.mono (fun k hk => .inr hk))).trans (Upd.of_grown (S := QS g (.slice A n c)) (blk_grown _ g 0 _) (.inl rfl))⟩
  · unfold ARow
    rw [List.length_append, hn.out, flatA_app, flatA_one]
    exact row_set_other hrow2.out g 0 _ (row_ne hrow2.out hh2.out (by decide))
  · rw [List.length_append, hn.out]; exact hroom
  · rcases List.mem_append.1 hp with hp | hp
    · exact h.out.ok p hp
    · simp at hp; subst hp; exact hq.out
  · rcases hv2'.out with e | e
    · exact .inl e
    · refine .inr (fun k hk => ?_)
      rw [hk] at e
      injection e with e
      have : k = w1.heap.size + 1 := by rw [e]; simp
      omega
set_option maxHeartbeats 1000000 in
set_option maxRecDepth 10000 in
theorem qpush_full (lo g : Nat) (v : Value) (l : List AskR) (most : Nat) (q : AskR) (hfull : most ≤ l.length) (w : World) (h : Qu w lo g v l most) :
    Calls Try.prog 19 #[.pointer (some ⟨g, 0, none⟩), q.agg] w fun e w' => e = .returned (.bool false) ∧ Below w.heap.size w w' := by
  have hQ := Lib.hid (h.below ((Below.refl w.heap.size w).alloc (Nat.le_refl _) (.cells #[.int .i64 q.a, .int .i64 q.b, .int .i64 q.c, .int .i64 q.d, .int .i64 q.e, .int .i64 q.f] 28)))
  have hb := Lib.hid ((Below.refl w.heap.size w).alloc (Nat.le_refl _) (.cells #[.int .i64 q.a, .int .i64 q.b, .int .i64 q.c, .int .i64 q.d, .int .i64 q.e, .int .i64 q.f] 28))
  have c1 := blk_cell (j := 1) hQ.out.blk rfl
  replace h := Lib.hid h
  unfold AskR.agg
  have hd : decide ((most : Int) ≤ (l.length : Int)) = true := decide_eq_true (by omega)
  go_enter Try.func19, Try.ntmps19
  go_wp2_with fail
  go_quiet ((go_at_call 21; exact Calls.quiet_of_same (qlen_any lo g v l most _ (hQ.out.drewN _))))
  go_wp2
  go_ret
  exact ⟨rfl, ⟨hb.out.os, hb.out.tape, hb.out.output, hb.out.size, hb.out.block⟩⟩
set_option maxHeartbeats 1000000 in
set_option maxRecDepth 10000 in
theorem qpush_ok (lo g : Nat) (v : Value) (l : List AskR) (most : Nat) (q : AskR) (hq : q.Ok) (hroom : l.length < most) (w : World) (h : Qu w lo g v l most) :
    Calls Try.prog 19 #[.pointer (some ⟨g, 0, none⟩), q.agg] w fun e w' => e = .returned (.bool true) ∧ ∃ v', Qu w' lo g v' (l ++ [q]) most ∧ Moved v v' w.heap.size ∧ Upd (QS g v) w w' := by
  have hnew := heap_alloc_new w (.cells #[.int .i64 q.a, .int .i64 q.b, .int .i64 q.c, .int .i64 q.d, .int .i64 q.e, .int .i64 q.f] 28)
  have hQ := Lib.hid (h.below ((Below.refl w.heap.size w).alloc (Nat.le_refl _) (.cells #[.int .i64 q.a, .int .i64 q.b, .int .i64 q.c, .int .i64 q.d, .int .i64 q.e, .int .i64 q.f] 28)))
  have hu0 : Hid (Upd (QS g v) w (w.alloc (.cells #[.int .i64 q.a, .int .i64 q.b, .int .i64 q.c, .int .i64 q.d, .int .i64 q.e, .int .i64 q.f] 28))) := Lib.hid (Upd.of_below ((Below.refl w.heap.size w).alloc (Nat.le_refl _) _))
  have hNn : Hid (¬ QS g v w.heap.size) := Lib.hid (fun hk => by have := (h.qs _ hk).2; omega)
  have hNw : Hid (w.heap.size < (w.alloc (.cells #[.int .i64 q.a, .int .i64 q.b, .int .i64 q.c, .int .i64 q.d, .int .i64 q.e, .int .i64 q.f] 28)).heap.size) := Lib.hid (by simp)
  have c1 := blk_cell (j := 1) hQ.out.blk rfl
  replace h := Lib.hid h
  replace hq := Lib.hid hq
  unfold AskR.agg
  have hd : decide ((most : Int) ≤ (l.length : Int)) = false := decide_eq_false (by omega)
  go_enter Try.func19, Try.ntmps19
  go_wp2_with fail
  go_quiet ((go_at_call 21; exact Calls.quiet_of_same (qlen_any lo g v l most _ (hQ.out.drewN _))))
  go_wp2_with fail
  obtain ⟨w1, hw1⟩ : ∃ w1, w.alloc (.cells #[.int .i64 q.a, .int .i64 q.b, .int .i64 q.c, .int .i64 q.d, .int .i64 q.e, .int .i64 q.f] 28) = w1 := ⟨_, rfl⟩
  rw [hw1] at hnew hQ hu0 c1 hNw ⊢
  obtain ⟨N, hN⟩ : ∃ N, w.heap.size = N := ⟨_, rfl⟩
  rw [hN] at hnew hNn hNw ⊢
  obtain ⟨wd, hwd⟩ : ∃ wd, wd = (w1.drewN nq).drew := ⟨_, rfl⟩
  replace hnew : wd.heap[N]? = some (.cells #[.int .i64 q.a, .int .i64 q.b, .int .i64 q.c, .int .i64 q.d, .int .i64 q.e, .int .i64 q.f] 28 (0, 0)) := by rw [hwd]; exact hnew
  replace hQ : Hid (Qu wd lo g v l most) := Lib.hid (by rw [hwd]; exact hQ.out.drewN (nq + 1))
  replace hu0 : Hid (Upd (QS g v) w wd) := Lib.hid (by rw [hwd]; exact hu0.out)
  replace hNw : Hid (N < wd.heap.size) := Lib.hid (by rw [hwd]; exact hNw.out)
  have k0 := blk_cell (j := 0) hnew rfl
  have k1 := blk_cell (j := 1) hnew rfl
  have k2 := blk_cell (j := 2) hnew rfl
  have k3 := blk_cell (j := 3) hnew rfl
  have k4 := blk_cell (j := 4) hnew rfl
  have k5 := blk_cell (j := 5) hnew rfl
  replace hnew := Lib.hid hnew
  have hsz := hu0.out.size
  clear c1
  refine wpR_region (Upd (QS g v)) 9999 (by kernel_rfl) ?_
  (rw [← hwd]; replace hwd := Lib.hid hwd)
  refine wpR_take (i := 0) (v := ?_) (Upd.road _) (some 16) rfl (by kernel_rfl) (by kernel_rfl) (by kernel_rfl) (by kernel_rfl) (by kernel_rfl) (fun _ _ _ h => h) (by kernel_rfl) (fun w' hw' => ?_) ?_
  rotate_left
  · go_simp; with_reducible rfl
  simp only [Act.put, List.setIfInBounds_toArray, List.set_cons_zero, List.set_cons_succ]
  refine wpR_take (i := 1) (v := ?_) (Upd.road _) (some 17) rfl (by kernel_rfl) (by kernel_rfl) (by kernel_rfl) (by kernel_rfl) (by kernel_rfl) (fun _ _ _ h => h) (by kernel_rfl) (fun w' hw' => ?_) ?_
  rotate_left
  · go_simp; with_reducible rfl
  simp only [Act.put, List.setIfInBounds_toArray, List.set_cons_zero, List.set_cons_succ]
  refine wpR_take (i := 2) (v := ?_) (Upd.road _) (some 18) rfl (by kernel_rfl) (by kernel_rfl) (by kernel_rfl) (by kernel_rfl) (by kernel_rfl) (fun _ _ _ h => h) (by kernel_rfl) (fun w' hw' => ?_) ?_
  rotate_left
  · go_simp; with_reducible rfl
  simp only [Act.put, List.setIfInBounds_toArray, List.set_cons_zero, List.set_cons_succ]
  refine wpR_take (i := 3) (v := ?_) (Upd.road _) (some 19) rfl (by kernel_rfl) (by kernel_rfl) (by kernel_rfl) (by kernel_rfl) (by kernel_rfl) (fun _ _ _ h => h) (by kernel_rfl) (fun w' hw' => ?_) ?_
  rotate_left
  · have p0 := (World.cell?_of_block (a := ⟨N, 0, none⟩) (hw'.2.2.2.2 N hNw.out hNn.out)).trans k0; have p1 := (World.cell?_of_block (a := ⟨N, 1, none⟩) (hw'.2.2.2.2 N hNw.out hNn.out)).trans k1; have p2 := (World.cell?_of_block (a := ⟨N, 2, none⟩) (hw'.2.2.2.2 N hNw.out hNn.out)).trans k2; have p3 := (World.cell?_of_block (a := ⟨N, 3, none⟩) (hw'.2.2.2.2 N hNw.out hNn.out)).trans k3; have p4 := (World.cell?_of_block (a := ⟨N, 4, none⟩) (hw'.2.2.2.2 N hNw.out hNn.out)).trans k4; have p5 := (World.cell?_of_block (a := ⟨N, 5, none⟩) (hw'.2.2.2.2 N hNw.out hNn.out)).trans k5; go_simp; with_reducible rfl
  simp only [Act.put, List.setIfInBounds_toArray, List.set_cons_zero, List.set_cons_succ]
  refine wpR_one 4 rfl (by kernel_rfl) (by kernel_rfl) (fun K hK => ?_)
  go_simp
  refine (qadd_any lo g v l most q hq.out hroom _ hQ.out).mono ?_
  rintro e w3 ⟨rfl, v3, hq3, hm3, hu3⟩
  refine hK _ _ (fun _ => hu3) ?_
  clear hK K
  replace hq3 := Lib.hid hq3
  replace hm3 := Lib.hid hm3
  replace hu3 := Lib.hid hu3
  try simp only [Act.put, List.setIfInBounds_toArray, List.set_cons_zero, List.set_cons_succ]
  refine wpR_done (by kernel_rfl) ?_ _
  go_wp2
  go_ret
  refine ⟨rfl, v3, hq3.out, ?_, hu0.out.trans hu3.out⟩
  rcases hm3.out with e | e
  · exact .inl e
  · exact .inr (fun k hk => by have := e k hk; omega)
end Go.Proofs.Ytppclmidnomkjab
