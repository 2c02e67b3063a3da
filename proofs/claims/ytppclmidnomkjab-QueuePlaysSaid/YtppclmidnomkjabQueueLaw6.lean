/- The laws of queue: QueuePlays. -/
import Derived.Test.YtppclmidnomkjabQueueRef4
import Derived.Test.YtppclmidnomkjabOpenAct6
import Derived.IntWalk
namespace Go.Proofs.Ytppclmidnomkjab
set_option linter.unusedVariables false
set_option linter.unusedSimpArgs false
open Go Go.RowKit
/-- the queue and the reference's, apart from each other -/
structure Bq (w : World) (lo g gr : Nat) (v vr : Value) (l lr : List AskR) (most : Nat) : Prop where
  x : Qu w lo g v l most
  r : Rq w lo gr vr lr most
  ap : ∀ k, QS g v k → ¬ QS gr vr k
section
variable {w w' w0 : World} {lo g gr most : Nat} {v v' vr vr' : Value} {l l' lr lr' : List AskR}
theorem Bq.stepX (h : Bq w lo g gr v vr l lr most) (hx : Qu w' lo g v' l' most) (hm : Moved v v' w.heap.size) (hu : Upd (QS g v) w w') : Bq w' lo g gr v' vr l' lr most :=
  ⟨hx, h.r.upd hu (fun k hk hq => h.ap k hq hk), fun k hk hr => by
    rcases hk with rfl | hk
    · exact h.ap k (.inl rfl) hr
    · rcases hm with e | e
      · exact h.ap k (.inr (e ▸ hk)) hr
      · have := e k hk
        have := (h.r.qs k hr).2
        omega⟩
theorem Bq.stepR (h : Bq w lo g gr v vr l lr most) (hr : Rq w' lo gr vr' lr' most) (hm : ∀ k, vr'.ownBlock = some k → w.heap.size ≤ k) (hu : Upd (· = gr) w w') : Bq w' lo g gr v vr' l lr' most :=
  ⟨h.x.upd hu (fun k hk e => h.ap k hk (.inl e)), hr, fun k hk hq => by
    rcases hq with rfl | hq
    · exact h.ap k hk (.inl rfl)
    · have := hm k hq
      have := (h.x.qs k hk).2
      omega⟩
theorem Bq.below (h : Bq w lo g gr v vr l lr most) (hb : Below w.heap.size w w') : Bq w' lo g gr v vr l lr most := ⟨h.x.below hb, h.r.below hb, h.ap⟩
theorem Bq.fromX (h : Bq w lo g gr v vr l lr most) (hu : Upd (QS g v) w w') (hb : Below w0.heap.size w0 w) (hl : w0.heap.size ≤ lo) : Below w0.heap.size w0 w' := hb.trans ((h.x.frame hu).mono hl)
theorem Bq.fromR (h : Bq w lo g gr v vr l lr most) (hu : Upd (· = gr) w w') (hb : Below w0.heap.size w0 w) (hl : w0.heap.size ≤ lo) : Below w0.heap.size w0 w' := hb.trans ((h.r.frame hu).mono hl)
theorem Bq.size (h : Bq w lo g gr v vr l lr most) : lo ≤ w.heap.size := h.x.lw
theorem Bq.drewN (h : Bq w lo g gr v vr l lr most) (n : Nat) : Bq (w.drewN n) lo g gr v vr l lr most := ⟨h.x.drewN n, h.r.drewN n, h.ap⟩
/-- a block made since is none of theirs -/
theorem Bq.new {x : Nat} (h : Bq w lo g gr v vr l lr most) (hx : w.heap.size ≤ x) : (¬ QS g v x) ∧ ¬ (x = gr) :=
  ⟨fun hk => by have := (h.x.qs x hk).2; omega, fun e => by have := h.r.lt; omega⟩
end


def tk (l : List AskR) (z : Int) : AskR × Bool × List AskR := if h : 0 ≤ z ∧ z < l.length then (l[z.toNat]'(by omega), true, l.eraseIdx z.toNat) else (ask0, false, l)
def pu (l : List AskR) (q : AskR) (most : Nat) : Bool × List AskR := if l.length < most then (true, l ++ [q]) else (false, l)
section
variable {w : World} {lo g gr most : Nat} {v vr : Value} {l lr : List AskR}
theorem tkx (h : Bq w lo g gr v vr l lr most) (z : Int) :
    Calls Try.prog 14 #[.pointer (some ⟨g, 0, none⟩), .int .i64 z] w fun e w' => e = .returned (.tuple #[(tk l z).1.agg, .bool (tk l z).2.1]) ∧ ∃ v', Bq w' lo g gr v' vr (tk l z).2.2 lr most ∧ Upd (QS g v) w w' := by
  unfold tk
  split
  · rename_i hz
    obtain ⟨i, rfl⟩ := Int.eq_ofNat_of_zero_le hz.1
    simp only [Int.toNat_natCast]
    refine (qtake_some lo g v l most i _ (List.getElem?_eq_getElem (by omega)) w h.x).mono ?_
    rintro e w' ⟨rfl, v', h1, hm, hu⟩
    exact ⟨rfl, v', h.stepX h1 (.inl hm) hu, hu⟩
  · rename_i hz
    refine (qtake_none lo g v l most z (by omega) w h.x).mono ?_
    rintro e w' ⟨rfl, hb⟩
    exact ⟨rfl, v, h.below hb, Upd.of_below hb⟩
theorem tkr (h : Bq w lo g gr v vr l lr most) (z : Int) :
    Calls Try.prog 15 #[.pointer (some ⟨gr, 0, none⟩), .int .i64 z] w fun e w' => e = .returned (.tuple #[(tk lr z).1.agg, .bool (tk lr z).2.1]) ∧ ∃ vr', Bq w' lo g gr v vr' l (tk lr z).2.2 most ∧ Upd (· = gr) w w' := by
  unfold tk
  split
  · rename_i hz
    obtain ⟨i, rfl⟩ := Int.eq_ofNat_of_zero_le hz.1
    simp only [Int.toNat_natCast]
    refine (rtake_some lo gr vr lr most i _ (List.getElem?_eq_getElem (by omega)) w h.r).mono ?_
    rintro e w' ⟨rfl, v', h1, hm, hu⟩
    exact ⟨rfl, v', h.stepR h1 hm hu, hu⟩
  · rename_i hz
    refine (rtake_none lo gr vr lr most z (by omega) w h.r).mono ?_
    rintro e w' ⟨rfl, hb⟩
    exact ⟨rfl, vr, h.below hb, Upd.of_below hb⟩
theorem pux (h : Bq w lo g gr v vr l lr most) (q : AskR) (hq : q.Ok) :
    Calls Try.prog 19 #[.pointer (some ⟨g, 0, none⟩), q.agg] w fun e w' => e = .returned (.bool (pu l q most).1) ∧ ∃ v', Bq w' lo g gr v' vr (pu l q most).2 lr most ∧ Upd (QS g v) w w' := by
  unfold pu
  split
  · rename_i hz
    refine (qpush_ok lo g v l most q hq hz w h.x).mono ?_
    rintro e w' ⟨rfl, v', h1, hm, hu⟩
    exact ⟨rfl, v', h.stepX h1 hm hu, hu⟩
  · rename_i hz
    refine (qpush_full lo g v l most q (by omega) w h.x).mono ?_
    rintro e w' ⟨rfl, hb⟩
    exact ⟨rfl, v, h.below hb, Upd.of_below hb⟩
theorem pur (h : Bq w lo g gr v vr l lr most) (q : AskR) (hq : q.Ok) :
    Calls Try.prog 20 #[.pointer (some ⟨gr, 0, none⟩), q.agg] w fun e w' => e = .returned (.bool (pu lr q most).1) ∧ ∃ vr', Bq w' lo g gr v vr' l (pu lr q most).2 most ∧ Upd (· = gr) w w' := by
  unfold pu
  split
  · rename_i hz
    refine (rpush_ok lo gr vr lr most q hq hz w h.r).mono ?_
    rintro e w' ⟨rfl, v', h1, hm, hu⟩
    exact ⟨rfl, v', h.stepR h1 hm hu, hu⟩
  · rename_i hz
    refine (rpush_full lo gr vr lr most q (by omega) w h.r).mono ?_
    rintro e w' ⟨rfl, hb⟩
    exact ⟨rfl, vr, h.below hb, Upd.of_below hb⟩
theorem Rq.raat {w : World} {lo g most : Nat} {A : Option Addr} {n c : Nat} {l : List AskR} (h : Rq w lo g (.slice A n c) l most) : AAt w A l := fun hl => by
  obtain ⟨A', c', e, -, -⟩ := h.form
  have h1 := h.row
  rw [e] at h1
  obtain ⟨b, o, e2, r⟩ := h1.aat hl
  injection e with e _ _
  exact ⟨b, o, e.trans e2, r⟩
end
theorem QActsAt.below {w w' : World} {b o n B : Nat} {f : Nat → QAct} (h : QActsAt w b o n f) (hB : b < B) (hb : Below B w w') : QActsAt w' b o n f := fun i hi => by
  obtain ⟨h0, h1, h2⟩ := h i hi
  exact ⟨(hb.cell (p := ⟨b, _, none⟩) hB).trans h0, (hb.cell (p := ⟨b, _, none⟩) hB).trans h1, fun j u hu => (hb.cell (p := ⟨b, _, none⟩) hB).trans (h2 j u hu)⟩
theorem tmod_nat (x : UInt8) (n : Nat) : (U x).tmod (n : Int) = ((x.toNat % n : Nat) : Int) := by
  unfold U
  rw [Int.tmod_eq_emod_of_nonneg (by omega)]
  rfl
set_option maxHeartbeats 8000000 in
set_option maxRecDepth 10000 in
theorem queuePlays_any (most : Int) (hmost : I64 most) (A : Option Addr) (n c : Nat) (hnc : n ≤ c) (hcm : c ≤ maxLen) (f : Nat → QAct) (w : World) (ha : QActs w w.heap.size A n f) :
    Calls Try.prog 3 #[.int .i64 most, .slice A n c] w fun e w' => e = .returned (.bool true) ∧ Below w.heap.size w w' := by
  replace ha := Lib.hid ha
  unfold maxLen at hcm
  go_enter Try.func3, Try.ntmps3
  go_wp2_with fail
  refine (qnew_any most hmost w).mono ?_
  rintro e w1 ⟨rfl, hd1, hb1⟩
  replace hd1 := Lib.hid hd1
  replace hb1 := Lib.hid hb1
  go_wp2_with fail
  refine (rnew15_any most hmost w1).mono ?_
  rintro e w2 ⟨rfl, hr2, hb2⟩
  replace hr2 := Lib.hid hr2
  replace hb2 := Lib.hid hb2
  obtain ⟨lo, hlo⟩ : ∃ lo, lo = w.heap.size := ⟨_, rfl⟩
  rw [← hlo] at hd1 ⊢
  have hlw : w.heap.size ≤ lo := by omega
  obtain ⟨M, hM⟩ : ∃ M, (min (max most 0) 4096).toNat = M := ⟨_, rfl⟩
  rw [hM] at hd1 hr2
  have hlo1 : lo ≤ w1.heap.size := hd1.out.lw
  obtain ⟨gr, hgr⟩ : ∃ gr, w1.heap.size = gr := ⟨_, rfl⟩
  rw [hgr] at hr2 ⊢
  have h2 : Hid (Bq w2 lo lo gr (.slice none 0 0) (.slice none 0 0) [] [] M) := Lib.hid ⟨hd1.out.below hb2.out, ⟨hr2.out.blk, by omega, World.ownsRow_nil _ _ _ 6, hr2.out.len, hr2.out.most, hr2.out.ok⟩, fun k hk hr => by
    have h1 := (hd1.out.qs k hk).2
    rcases hr with rfl | hr
    · omega
    · cases hr⟩
  have hb3 := Lib.hid (hb1.out.trans (hb2.out.mono hb1.out.size))
  rw [hlo]
  rw [← hlo]
  replace hlo := Lib.hid hlo
  replace hM := Lib.hid hM
  replace hgr := Lib.hid hgr
  clear hd1 hb1 hr2 hb2 hlo1
  go_wp2_with fail
  go_loopw [7] (fun i wr => ∃ (k : Nat) (v vr : Value) (l : List AskR), i = .int .i64 k ∧ k ≤ n ∧ k ≤ 80 ∧ Hid (Bq wr lo lo gr v vr l l M) ∧ Hid (Below w.heap.size w wr)) (fun i _ => n - (intOf i).toNat)
  case atStart => exact ⟨0, _, _, _, rfl, Nat.zero_le _, by decide, h2, hb3⟩
  case round =>
    obtain ⟨k, v, vr, l, rfl, hk, hk80, h3, hb4⟩ := hrel
    clear h2 hb3
    by_cases hlt : k < n
    · by_cases h80 : k < 80
      · obtain ⟨b, o, rfl, hbB, hat⟩ := ha.out.1 (by omega)
        obtain ⟨c0, c1, cc⟩ := (hat.below hbB hb4.out) k hlt
        obtain ⟨hz, hqo⟩ := ha.out.2 k hlt
        replace hat := Lib.hid hat
        obtain ⟨qq, hqq⟩ : ∃ qq, f k = qq := ⟨_, rfl⟩
        rw [hqq] at c0 c1 cc hz hqo
        obtain ⟨d, z, q⟩ := qq
        clear hqq
        simp only at c0 c1 cc hz hqo
        have c2 : wr.cell? ⟨b, o + k * 8 + 2, none⟩ = some (.int .i64 q.a) := cc 0 _ rfl
        have c3 : wr.cell? ⟨b, o + k * 8 + 3, none⟩ = some (.int .i64 q.b) := cc 1 _ rfl
        have c4 : wr.cell? ⟨b, o + k * 8 + 4, none⟩ = some (.int .i64 q.c) := cc 2 _ rfl
        have c5 : wr.cell? ⟨b, o + k * 8 + 5, none⟩ = some (.int .i64 q.d) := cc 3 _ rfl
        have c6 : wr.cell? ⟨b, o + k * 8 + 6, none⟩ = some (.int .i64 q.e) := cc 4 _ rfl
        have c7 : wr.cell? ⟨b, o + k * 8 + 7, none⟩ = some (.int .i64 q.f) := cc 5 _ rfl
        clear cc
        replace hz := Lib.hid hz
        replace hqo := Lib.hid hqo
        have hmod : (U d).tmod 8 = ((d.toNat % 8 : Nat) : Int) := tmod_nat d 8
        have hmlt : d.toNat % 8 < 8 := Nat.mod_lt _ (by decide)
        generalize d.toNat % 8 = m at hmod hmlt
        have hk0 := h3.out.x.len
        have hkM := h3.out.x.most
        obtain ⟨x, hx⟩ : ∃ x, x = wr.heap.size := ⟨_, rfl⟩
        have hbq := Lib.hid (h3.out.new (Nat.le_of_eq hx.symm))
        replace hx := Lib.hid hx
        rcases (by omega : m = 2 ∨ (m = 0 ∨ m = 1) ∨ 3 ≤ m) with h0 | h0 | h0
        · replace hmod := hmod.trans (by rw [h0]; rfl : ((m : Nat) : Int) = 2)
          clear h0 hmlt
          have hbx := Lib.hid (show (wr.alloc (.cells #[.int .u8 (U d), .int .i64 z, .int .i64 q.a, .int .i64 q.b, .int .i64 q.c, .int .i64 q.d, .int .i64 q.e, .int .i64 q.f] 30)).heap[x]? = some (.cells #[.int .u8 (U d), .int .i64 z, .int .i64 q.a, .int .i64 q.b, .int .i64 q.c, .int .i64 q.d, .int .i64 q.e, .int .i64 q.f] 30 (0, 0)) by rw [hx.out]; exact heap_alloc_new wr _)
          have h4 := Lib.hid (h3.out.below ((Below.refl wr.heap.size wr).alloc (Nat.le_refl _) (.cells #[.int .u8 (U d), .int .i64 z, .int .i64 q.a, .int .i64 q.b, .int .i64 q.c, .int .i64 q.d, .int .i64 q.e, .int .i64 q.f] 30)))
          have hb5 := Lib.hid (hb4.out.alloc hb4.out.size (.cells #[.int .u8 (U d), .int .i64 z, .int .i64 q.a, .int .i64 q.b, .int .i64 q.c, .int .i64 q.d, .int .i64 q.e, .int .i64 q.f] 30))
          obtain ⟨w4, hw4⟩ : ∃ w4, wr.alloc (.cells #[.int .u8 (U d), .int .i64 z, .int .i64 q.a, .int .i64 q.b, .int .i64 q.c, .int .i64 q.d, .int .i64 q.e, .int .i64 q.f] 30) = w4 := ⟨_, rfl⟩
          rw [hw4] at hbx h4 hb5
          replace hw4 := Lib.hid hw4
          go_wp2_with fail
          rw [← hx.out, hw4.out]
          clear c0 c1 c2 c3 c4 c5 c6 c7 h3 hb4
          obtain ⟨wd, hwd⟩ : ∃ wd, wd = w4.drew := ⟨_, rfl⟩
          replace hbx : Hid (wd.heap[x]? = some (.cells #[.int .u8 (U d), .int .i64 z, .int .i64 q.a, .int .i64 q.b, .int .i64 q.c, .int .i64 q.d, .int .i64 q.e, .int .i64 q.f] 30 (0, 0))) := Lib.hid (by rw [hwd]; exact hbx.out)
          replace h4 : Hid (Bq wd lo lo gr v vr l l M) := Lib.hid (by rw [hwd]; exact h4.out.drewN 1)
          replace hb5 : Hid (Below w.heap.size w wd) := Lib.hid (by rw [hwd]; exact hb5.out.drew)
          refine wpR_region (Upd (fun k => QS lo v k ∨ k = gr)) 9999 (by kernel_rfl) ?_
          (rw [← hwd]; replace hwd := Lib.hid hwd)
          refine wpR_take (i := 0) (v := ?_) (Upd.road _) (some 71) rfl (by kernel_rfl) (by kernel_rfl) (by kernel_rfl) (by kernel_rfl) (by kernel_rfl) (fun _ _ _ h => h) (by kernel_rfl) (fun w' hw' => ?_) ?_
          rotate_left
          · go_simp; with_reducible rfl
          simp only [Act.put, List.setIfInBounds_toArray, List.set_cons_zero, List.set_cons_succ]
          refine wpR_take (i := 1) (v := ?_) (Upd.road _) (some 72) rfl (by kernel_rfl) (by kernel_rfl) (by kernel_rfl) (by kernel_rfl) (by kernel_rfl) (fun _ _ _ h => h) (by kernel_rfl) (fun w' hw' => ?_) ?_
          rotate_left
          · go_simp; with_reducible rfl
          simp only [Act.put, List.setIfInBounds_toArray, List.set_cons_zero, List.set_cons_succ]
          refine wpR_take (i := 2) (v := ?_) (Upd.road _) (some 73) rfl (by kernel_rfl) (by kernel_rfl) (by kernel_rfl) (by kernel_rfl) (by kernel_rfl) (fun _ _ _ h => h) (by kernel_rfl) (fun w' hw' => ?_) ?_
          rotate_left
          · have q1 := blk_cell (j := 1) (hw'.2.2.2.2 x (blk_lt hbx.out) (fun h => h.elim (fun h => hbq.out.1 h) (fun h => hbq.out.2 h)) |>.trans hbx.out) rfl; go_simp; with_reducible rfl
          simp only [Act.put, List.setIfInBounds_toArray, List.set_cons_zero, List.set_cons_succ]
          refine wpR_take (i := 4) (v := ?_) (Upd.road _) (some 75) rfl (by kernel_rfl) (by kernel_rfl) (by kernel_rfl) (by kernel_rfl) (by kernel_rfl) (fun _ _ _ h => h) (by kernel_rfl) (fun w' hw' => ?_) ?_
          rotate_left
          · go_simp; with_reducible rfl
          simp only [Act.put, List.setIfInBounds_toArray, List.set_cons_zero, List.set_cons_succ]
          refine wpR_take (i := 5) (v := ?_) (Upd.road _) (some 76) rfl (by kernel_rfl) (by kernel_rfl) (by kernel_rfl) (by kernel_rfl) (by kernel_rfl) (fun _ _ _ h => h) (by kernel_rfl) (fun w' hw' => ?_) ?_
          rotate_left
          · go_simp; with_reducible rfl
          simp only [Act.put, List.setIfInBounds_toArray, List.set_cons_zero, List.set_cons_succ]
          refine wpR_take (i := 6) (v := ?_) (Upd.road _) (some 77) rfl (by kernel_rfl) (by kernel_rfl) (by kernel_rfl) (by kernel_rfl) (by kernel_rfl) (fun _ _ _ h => h) (by kernel_rfl) (fun w' hw' => ?_) ?_
          rotate_left
          · have q1 := blk_cell (j := 1) (hw'.2.2.2.2 x (blk_lt hbx.out) (fun h => h.elim (fun h => hbq.out.1 h) (fun h => hbq.out.2 h)) |>.trans hbx.out) rfl; go_simp; with_reducible rfl
          simp only [Act.put, List.setIfInBounds_toArray, List.set_cons_zero, List.set_cons_succ]
          refine wpR_one 3 rfl (by kernel_rfl) (by kernel_rfl) (fun K hK => ?_)
          go_simp
          refine (qdrop_any lo lo z v l M _ h4.out.x).mono ?_
          rintro e w6 ⟨rfl, v6, h6, hm6, hu6⟩
          refine hK _ _ (fun _ => hu6.mono (fun k h => .inl h)) ?_
          clear hK K
          have hb6 := Lib.hid (h4.out.fromX hu6 hb5.out hlw)
          replace h6 := Lib.hid (h4.out.stepX h6 (.inl hm6) hu6)
          clear hm6 hu6
          try simp only [Act.put, List.setIfInBounds_toArray, List.set_cons_zero, List.set_cons_succ]
          refine wpR_one 7 rfl (by kernel_rfl) (by kernel_rfl) (fun K hK => ?_)
          go_simp
          refine (rdrop_any lo gr z vr l M _ h6.out.r).mono ?_
          rintro e w7 ⟨rfl, vr7, h7, hm7, hu7⟩
          refine hK _ _ (fun _ => hu7.mono (fun k h => .inr h)) ?_
          clear hK K
          have hb7 := Lib.hid (h6.out.fromR hu7 hb6.out hlw)
          replace h7 := Lib.hid (h6.out.stepR h7 hm7 hu7)
          clear hm7 hu7
          try simp only [Act.put, List.setIfInBounds_toArray, List.set_cons_zero, List.set_cons_succ]
          refine wpR_take (i := 8) (v := ?_) (Upd.road _) (some 79) rfl (by kernel_rfl) (by kernel_rfl) (by kernel_rfl) (by kernel_rfl) (by kernel_rfl) (fun _ _ _ h => h) (by kernel_rfl) (fun w' hw' => ?_) ?_
          rotate_left
          · go_simp; with_reducible rfl
          simp only [Act.put, List.setIfInBounds_toArray, List.set_cons_zero, List.set_cons_succ]
          refine wpR_done (by kernel_rfl) ?_ _
          go_wp2_with fail
          obtain ⟨Ar, cr, rfl, -, -⟩ := h7.out.r.form
          obtain ⟨we, hwe⟩ : ∃ we, we = w7.drew := ⟨_, rfl⟩
          replace h7 : Hid (Bq we lo lo gr v6 (.slice Ar (fil z l).length cr) (fil z l) (fil z l) M) := Lib.hid (by rw [hwe]; exact h7.out.drewN 1)
          replace hb7 : Hid (Below w.heap.size w we) := Lib.hid (by rw [hwe]; exact hb7.out.drew)
          have hl7 := h7.out.x.len
          refine wpR_region (Upd (fun _ => False)) 9999 (by kernel_rfl) ?_
          (rw [← hwe]; replace hwe := Lib.hid hwe)
          refine wpR_take (i := 0) (v := ?_) (Upd.road _) (some 80) rfl (by kernel_rfl) (by kernel_rfl) (by kernel_rfl) (by kernel_rfl) (by kernel_rfl) (fun _ _ _ h => h) (by kernel_rfl) (fun w' hw' => ?_) ?_
          rotate_left
          · go_simp; with_reducible rfl
          simp only [Act.put, List.setIfInBounds_toArray, List.set_cons_zero, List.set_cons_succ]
          refine wpR_take (i := 2) (v := ?_) (Upd.road _) (some 82) rfl (by kernel_rfl) (by kernel_rfl) (by kernel_rfl) (by kernel_rfl) (by kernel_rfl) (fun _ _ _ h => h) (by kernel_rfl) (fun w' hw' => ?_) ?_
          rotate_left
          · go_simp; with_reducible rfl
          simp only [Act.put, List.setIfInBounds_toArray, List.set_cons_zero, List.set_cons_succ]
          refine wpR_take (i := 3) (v := ?_) (Upd.road _) (some 83) rfl (by kernel_rfl) (by kernel_rfl) (by kernel_rfl) (by kernel_rfl) (by kernel_rfl) (fun _ _ _ h => h) (by kernel_rfl) (fun w' hw' => ?_) ?_
          rotate_left
          · go_simp; with_reducible rfl
          simp only [Act.put, List.setIfInBounds_toArray, List.set_cons_zero, List.set_cons_succ]
          refine wpR_take (i := 4) (v := ?_) (Upd.road _) (some 84) rfl (by kernel_rfl) (by kernel_rfl) (by kernel_rfl) (by kernel_rfl) (by kernel_rfl) (fun _ _ _ h => h) (by kernel_rfl) (fun w' hw' => ?_) ?_
          rotate_left
          · go_simp; with_reducible rfl
          simp only [Act.put, List.setIfInBounds_toArray, List.set_cons_zero, List.set_cons_succ]
          refine wpR_take (i := 5) (v := ?_) (Upd.road _) (some 85) rfl (by kernel_rfl) (by kernel_rfl) (by kernel_rfl) (by kernel_rfl) (by kernel_rfl) (fun _ _ _ h => h) (by kernel_rfl) (fun w' hw' => ?_) ?_
          rotate_left
          · have r0 := blk_cell (j := 0) ((hw'.2.2.2.2 gr h7.out.r.lt (fun h => h)).trans h7.out.r.blk) rfl; go_simp; with_reducible rfl
          simp only [Act.put, List.setIfInBounds_toArray, List.set_cons_zero, List.set_cons_succ]
          refine wpR_take (i := 6) (v := ?_) (Upd.road _) (some 86) rfl (by kernel_rfl) (by kernel_rfl) (by kernel_rfl) (by kernel_rfl) (by kernel_rfl) (fun _ _ _ h => h) (by kernel_rfl) (fun w' hw' => ?_) ?_
          rotate_left
          · go_simp; with_reducible rfl
          simp only [Act.put, List.setIfInBounds_toArray, List.set_cons_zero, List.set_cons_succ]
          refine wpR_one 1 rfl (by kernel_rfl) (by kernel_rfl) (fun K hK => ?_)
          go_simp
          refine (qlen_any lo lo v6 (fil z l) M _ h7.out.x).mono ?_
          rintro e w8 ⟨rfl, rfl⟩
          refine hK _ _ (fun _ => Upd.refl _ _) ?_
          clear hK K
          try simp only [Act.put, List.setIfInBounds_toArray, List.set_cons_zero, List.set_cons_succ]
          refine wpR_take (i := 7) (v := ?_) (Upd.road _) (some 87) rfl (by kernel_rfl) (by kernel_rfl) (by kernel_rfl) (by kernel_rfl) (by kernel_rfl) (fun _ _ _ h => h) (by kernel_rfl) (fun w' hw' => ?_) ?_
          rotate_left
          · go_simp; with_reducible rfl
          simp only [Act.put, List.setIfInBounds_toArray, List.set_cons_zero, List.set_cons_succ]
          refine wpR_take (i := 8) (v := ?_) (Upd.road _) (some 88) rfl (by kernel_rfl) (by kernel_rfl) (by kernel_rfl) (by kernel_rfl) (by kernel_rfl) (fun _ _ _ h => h) (by kernel_rfl) (fun w' hw' => ?_) ?_
          rotate_left
          · go_simp; with_reducible rfl
          simp only [Act.put, List.setIfInBounds_toArray, List.set_cons_zero, List.set_cons_succ]
          refine wpR_take (i := 9) (v := ?_) (Upd.road _) (some 89) rfl (by kernel_rfl) (by kernel_rfl) (by kernel_rfl) (by kernel_rfl) (by kernel_rfl) (fun _ _ _ h => h) (by kernel_rfl) (fun w' hw' => ?_) ?_
          rotate_left
          · go_simp; with_reducible rfl
          simp only [Act.put, List.setIfInBounds_toArray, List.set_cons_zero, List.set_cons_succ]
          refine wpR_take (i := 11) (v := ?_) (Upd.road _) (some 91) rfl (by kernel_rfl) (by kernel_rfl) (by kernel_rfl) (by kernel_rfl) (by kernel_rfl) (fun _ _ _ h => h) (by kernel_rfl) (fun w' hw' => ?_) ?_
          rotate_left
          · go_simp; with_reducible rfl
          simp only [Act.put, List.setIfInBounds_toArray, List.set_cons_zero, List.set_cons_succ]
          refine wpR_take (i := 12) (v := ?_) (Upd.road _) (some 92) rfl (by kernel_rfl) (by kernel_rfl) (by kernel_rfl) (by kernel_rfl) (by kernel_rfl) (fun _ _ _ h => h) (by kernel_rfl) (fun w' hw' => ?_) ?_
          rotate_left
          · go_simp; with_reducible rfl
          simp only [Act.put, List.setIfInBounds_toArray, List.set_cons_zero, List.set_cons_succ]
          refine wpR_take (i := 13) (v := ?_) (Upd.road _) (some 93) rfl (by kernel_rfl) (by kernel_rfl) (by kernel_rfl) (by kernel_rfl) (by kernel_rfl) (fun _ _ _ h => h) (by kernel_rfl) (fun w' hw' => ?_) ?_
          rotate_left
          · go_simp; with_reducible rfl
          simp only [Act.put, List.setIfInBounds_toArray, List.set_cons_zero, List.set_cons_succ]
          refine wpR_take (i := 14) (v := ?_) (Upd.road _) (some 94) rfl (by kernel_rfl) (by kernel_rfl) (by kernel_rfl) (by kernel_rfl) (by kernel_rfl) (fun _ _ _ h => h) (by kernel_rfl) (fun w' hw' => ?_) ?_
          rotate_left
          · have r0 := blk_cell (j := 0) ((hw'.2.2.2.2 gr h7.out.r.lt (fun h => h)).trans h7.out.r.blk) rfl; go_simp; with_reducible rfl
          simp only [Act.put, List.setIfInBounds_toArray, List.set_cons_zero, List.set_cons_succ]
          refine wpR_one 10 rfl (by kernel_rfl) (by kernel_rfl) (fun K hK => ?_)
          go_simp
          refine (qall_any lo lo v6 (fil z l) M _ h7.out.x).mono ?_
          rintro e w9 ⟨v9, rfl, ho9, hbb⟩
          obtain ⟨A9, c9, rfl, -, -⟩ := row_form ho9
          refine hK _ _ (fun _ => Upd.of_below hbb) ?_
          clear hK K
          have h9 := Lib.hid (h7.out.below hbb)
          have hb9 := Lib.hid (hb7.out.trans (hbb.mono hb7.out.size))
          replace ho9 := Lib.hid ho9
          clear hbb
          try simp only [Act.put, List.setIfInBounds_toArray, List.set_cons_zero, List.set_cons_succ]
          refine wpR_one 15 rfl (by kernel_rfl) (by kernel_rfl) (fun K hK => ?_)
          go_simp
          refine (alike_any _ _ _ _ _ (fil z l) rfl (by have := h9.out.x.len; have := h9.out.x.most; omega) _ ho9.out.aat h9.out.r.raat).mono ?_
          rintro e w10 ⟨rfl, hbb⟩
          refine hK _ _ (fun _ => Upd.of_below hbb) ?_
          clear hK K
          have h10 := Lib.hid (h9.out.below hbb)
          have hb10 := Lib.hid (hb9.out.trans (hbb.mono hb9.out.size))
          clear hbb
          try simp only [Act.put, List.setIfInBounds_toArray, List.set_cons_zero, List.set_cons_succ]
          refine wpR_take (i := 16) (v := ?_) (Upd.road _) (some 96) rfl (by kernel_rfl) (by kernel_rfl) (by kernel_rfl) (by kernel_rfl) (by kernel_rfl) (fun _ _ _ h => h) (by kernel_rfl) (fun w' hw' => ?_) ?_
          rotate_left
          · go_simp; with_reducible rfl
          simp only [Act.put, List.setIfInBounds_toArray, List.set_cons_zero, List.set_cons_succ]
          refine wpR_take (i := 17) (v := ?_) (Upd.road _) (some 97) rfl (by kernel_rfl) (by kernel_rfl) (by kernel_rfl) (by kernel_rfl) (by kernel_rfl) (fun _ _ _ h => h) (by kernel_rfl) (fun w' hw' => ?_) ?_
          rotate_left
          · go_simp; with_reducible rfl
          simp only [Act.put, List.setIfInBounds_toArray, List.set_cons_zero, List.set_cons_succ]
          refine wpR_done (by kernel_rfl) ?_ _
          go_wp2_with fail
          go_roundw
          case rel => exact ⟨k + 1, v6, _, _, by go_num, by omega, by omega, h10, hb10⟩
          case measure => simp [intOf]; omega
        · rcases h0 with h0 | h0
          all_goals
            rw [h0] at hmod
            have e0 : ((0 : Nat) : Int) = 0 := rfl
            have e1 : ((1 : Nat) : Int) = 1 := rfl
            simp only [e0, e1] at hmod
            clear h0 hmlt e0 e1
            have hbx := Lib.hid (show (wr.alloc (.cells #[.int .u8 (U d), .int .i64 z, .int .i64 q.a, .int .i64 q.b, .int .i64 q.c, .int .i64 q.d, .int .i64 q.e, .int .i64 q.f] 30)).heap[x]? = some (.cells #[.int .u8 (U d), .int .i64 z, .int .i64 q.a, .int .i64 q.b, .int .i64 q.c, .int .i64 q.d, .int .i64 q.e, .int .i64 q.f] 30 (0, 0)) by rw [hx.out]; exact heap_alloc_new wr _)
            have h4 := Lib.hid (h3.out.below ((Below.refl wr.heap.size wr).alloc (Nat.le_refl _) (.cells #[.int .u8 (U d), .int .i64 z, .int .i64 q.a, .int .i64 q.b, .int .i64 q.c, .int .i64 q.d, .int .i64 q.e, .int .i64 q.f] 30)))
            have hb5 := Lib.hid (hb4.out.alloc hb4.out.size (.cells #[.int .u8 (U d), .int .i64 z, .int .i64 q.a, .int .i64 q.b, .int .i64 q.c, .int .i64 q.d, .int .i64 q.e, .int .i64 q.f] 30))
            obtain ⟨w4, hw4⟩ : ∃ w4, wr.alloc (.cells #[.int .u8 (U d), .int .i64 z, .int .i64 q.a, .int .i64 q.b, .int .i64 q.c, .int .i64 q.d, .int .i64 q.e, .int .i64 q.f] 30) = w4 := ⟨_, rfl⟩
            rw [hw4] at hbx h4 hb5
            replace hw4 := Lib.hid hw4
            go_wp2_with fail
            rw [← hx.out, hw4.out]
            clear c0 c1 c2 c3 c4 c5 c6 c7 h3 hb4
            obtain ⟨t, htk⟩ : ∃ t, tk l z = t := ⟨_, rfl⟩
            replace htk := Lib.hid htk
            obtain ⟨p, ok, l'⟩ := t
            refine (tkx h4.out z).mono ?_
            rw [htk.out]
            unfold AskR.agg
            rintro e w5 ⟨rfl, v6, h6, hu6⟩
            have hb6 := h4.out.fromX hu6 hb5.out hlw
            have hbx6 := (hu6.2.2.2.2 x (blk_lt hbx.out) hbq.out.1).trans hbx.out
            have hgw5 := h6.r.lt
            clear hu6 h4 hb5 hbx
            have hal := (Below.refl w5.heap.size w5).alloc (Nat.le_refl _) (.cells #[.int .i64 p.a, .int .i64 p.b, .int .i64 p.c, .int .i64 p.d, .int .i64 p.e, .int .i64 p.f] 28)
            replace hbx6 := Lib.hid (blk_below hbx6 hal)
            replace h6 := Lib.hid (h6.below hal)
            replace hb6 := Lib.hid (hb6.alloc hb6.size (.cells #[.int .i64 p.a, .int .i64 p.b, .int .i64 p.c, .int .i64 p.d, .int .i64 p.e, .int .i64 p.f] 28))
            have hp6 := Lib.hid (heap_alloc_new w5 (.cells #[.int .i64 p.a, .int .i64 p.b, .int .i64 p.c, .int .i64 p.d, .int .i64 p.e, .int .i64 p.f] 28))
            obtain ⟨y, hy⟩ : ∃ y, w5.heap.size = y := ⟨_, rfl⟩
            have hyl : Hid (y < (w5.alloc (.cells #[.int .i64 p.a, .int .i64 p.b, .int .i64 p.c, .int .i64 p.d, .int .i64 p.e, .int .i64 p.f] 28)).heap.size) := Lib.hid (by rw [← hy]; simp)
            have hyq : Hid (¬ y = gr) := Lib.hid (fun e => by
              have h1 := hgw5
              omega)
            have q1 := blk_cell (j := 1) hbx6.out rfl
            rw [hy] at hp6
            replace hy := Lib.hid hy
            go_wp2_with fail
            clear q1
            rw [hy.out]
            obtain ⟨w6, hw6⟩ : ∃ w6, w5.alloc (.cells #[.int .i64 p.a, .int .i64 p.b, .int .i64 p.c, .int .i64 p.d, .int .i64 p.e, .int .i64 p.f] 28) = w6 := ⟨_, rfl⟩
            rw [hw6] at hbx6 h6 hb6 hp6 hyl ⊢
            replace hw6 := Lib.hid hw6
            refine (tkr h6.out z).mono ?_
            rw [htk.out]
            unfold AskR.agg
            rintro e w7a ⟨rfl, vr7, h7, hu7⟩
            have hb7 := h6.out.fromR hu7 hb6.out hlw
            have hp7 := (hu7.2.2.2.2 y hyl.out hyq.out).trans hp6.out
            clear hu7 h6 hb6 hbx6 hp6 hyl
            have hal := (Below.refl w7a.heap.size w7a).alloc (Nat.le_refl _) (.cells #[.int .i64 p.a, .int .i64 p.b, .int .i64 p.c, .int .i64 p.d, .int .i64 p.e, .int .i64 p.f] 28)
            replace h7 := Lib.hid (h7.below hal)
            replace hb7 := Lib.hid (hb7.alloc hb7.size (.cells #[.int .i64 p.a, .int .i64 p.b, .int .i64 p.c, .int .i64 p.d, .int .i64 p.e, .int .i64 p.f] 28))
            replace hp7 := blk_below hp7 hal
            have z0 := blk_cell (j := 0) hp7 rfl
            have z1 := blk_cell (j := 1) hp7 rfl
            have z2 := blk_cell (j := 2) hp7 rfl
            have z3 := blk_cell (j := 3) hp7 rfl
            have z4 := blk_cell (j := 4) hp7 rfl
            have z5 := blk_cell (j := 5) hp7 rfl
            clear hal hp7
            have hok : (ok != ok) = false := by cases ok <;> rfl
            go_wp2_with fail
            clear z0 z1 z2 z3 z4 z5 hok
            obtain ⟨w8a, hw8⟩ : ∃ w8a, w7a.alloc (.cells #[.int .i64 p.a, .int .i64 p.b, .int .i64 p.c, .int .i64 p.d, .int .i64 p.e, .int .i64 p.f] 28) = w8a := ⟨_, rfl⟩
            rw [hw8] at h7 hb7 ⊢
            replace hw8 := Lib.hid hw8
            refine (same_self p w8a).mono ?_
            rintro e w7 ⟨rfl, hbb⟩
            replace h7 := Lib.hid (h7.out.below hbb)
            replace hb7 := Lib.hid (hb7.out.trans (hbb.mono hb7.out.size))
            clear hbb
            go_wp2_with fail
            obtain ⟨Ar, cr, rfl, -, -⟩ := h7.out.r.form
            obtain ⟨we, hwe⟩ : ∃ we, we = w7.drew := ⟨_, rfl⟩
            replace h7 : Hid (Bq we lo lo gr v6 (.slice Ar l'.length cr) l' l' M) := Lib.hid (by rw [hwe]; exact h7.out.drewN 1)
            replace hb7 : Hid (Below w.heap.size w we) := Lib.hid (by rw [hwe]; exact hb7.out.drew)
            have hl7 := h7.out.x.len
            refine wpR_region (Upd (fun _ => False)) 9999 (by kernel_rfl) ?_
            (rw [← hwe]; replace hwe := Lib.hid hwe)
            refine wpR_take (i := 0) (v := ?_) (Upd.road _) (some 80) rfl (by kernel_rfl) (by kernel_rfl) (by kernel_rfl) (by kernel_rfl) (by kernel_rfl) (fun _ _ _ h => h) (by kernel_rfl) (fun w' hw' => ?_) ?_
            rotate_left
            · go_simp; with_reducible rfl
            simp only [Act.put, List.setIfInBounds_toArray, List.set_cons_zero, List.set_cons_succ]
            refine wpR_take (i := 2) (v := ?_) (Upd.road _) (some 82) rfl (by kernel_rfl) (by kernel_rfl) (by kernel_rfl) (by kernel_rfl) (by kernel_rfl) (fun _ _ _ h => h) (by kernel_rfl) (fun w' hw' => ?_) ?_
            rotate_left
            · go_simp; with_reducible rfl
            simp only [Act.put, List.setIfInBounds_toArray, List.set_cons_zero, List.set_cons_succ]
            refine wpR_take (i := 3) (v := ?_) (Upd.road _) (some 83) rfl (by kernel_rfl) (by kernel_rfl) (by kernel_rfl) (by kernel_rfl) (by kernel_rfl) (fun _ _ _ h => h) (by kernel_rfl) (fun w' hw' => ?_) ?_
            rotate_left
            · go_simp; with_reducible rfl
            simp only [Act.put, List.setIfInBounds_toArray, List.set_cons_zero, List.set_cons_succ]
            refine wpR_take (i := 4) (v := ?_) (Upd.road _) (some 84) rfl (by kernel_rfl) (by kernel_rfl) (by kernel_rfl) (by kernel_rfl) (by kernel_rfl) (fun _ _ _ h => h) (by kernel_rfl) (fun w' hw' => ?_) ?_
            rotate_left
            · go_simp; with_reducible rfl
            simp only [Act.put, List.setIfInBounds_toArray, List.set_cons_zero, List.set_cons_succ]
            refine wpR_take (i := 5) (v := ?_) (Upd.road _) (some 85) rfl (by kernel_rfl) (by kernel_rfl) (by kernel_rfl) (by kernel_rfl) (by kernel_rfl) (fun _ _ _ h => h) (by kernel_rfl) (fun w' hw' => ?_) ?_
            rotate_left
            · have r0 := blk_cell (j := 0) ((hw'.2.2.2.2 gr h7.out.r.lt (fun h => h)).trans h7.out.r.blk) rfl; go_simp; with_reducible rfl
            simp only [Act.put, List.setIfInBounds_toArray, List.set_cons_zero, List.set_cons_succ]
            refine wpR_take (i := 6) (v := ?_) (Upd.road _) (some 86) rfl (by kernel_rfl) (by kernel_rfl) (by kernel_rfl) (by kernel_rfl) (by kernel_rfl) (fun _ _ _ h => h) (by kernel_rfl) (fun w' hw' => ?_) ?_
            rotate_left
            · go_simp; with_reducible rfl
            simp only [Act.put, List.setIfInBounds_toArray, List.set_cons_zero, List.set_cons_succ]
            refine wpR_one 1 rfl (by kernel_rfl) (by kernel_rfl) (fun K hK => ?_)
            go_simp
            refine (qlen_any lo lo v6 l' M _ h7.out.x).mono ?_
            rintro e w8 ⟨rfl, rfl⟩
            refine hK _ _ (fun _ => Upd.refl _ _) ?_
            clear hK K
            try simp only [Act.put, List.setIfInBounds_toArray, List.set_cons_zero, List.set_cons_succ]
            refine wpR_take (i := 7) (v := ?_) (Upd.road _) (some 87) rfl (by kernel_rfl) (by kernel_rfl) (by kernel_rfl) (by kernel_rfl) (by kernel_rfl) (fun _ _ _ h => h) (by kernel_rfl) (fun w' hw' => ?_) ?_
            rotate_left
            · go_simp; with_reducible rfl
            simp only [Act.put, List.setIfInBounds_toArray, List.set_cons_zero, List.set_cons_succ]
            refine wpR_take (i := 8) (v := ?_) (Upd.road _) (some 88) rfl (by kernel_rfl) (by kernel_rfl) (by kernel_rfl) (by kernel_rfl) (by kernel_rfl) (fun _ _ _ h => h) (by kernel_rfl) (fun w' hw' => ?_) ?_
            rotate_left
            · go_simp; with_reducible rfl
            simp only [Act.put, List.setIfInBounds_toArray, List.set_cons_zero, List.set_cons_succ]
            refine wpR_take (i := 9) (v := ?_) (Upd.road _) (some 89) rfl (by kernel_rfl) (by kernel_rfl) (by kernel_rfl) (by kernel_rfl) (by kernel_rfl) (fun _ _ _ h => h) (by kernel_rfl) (fun w' hw' => ?_) ?_
            rotate_left
            · go_simp; with_reducible rfl
            simp only [Act.put, List.setIfInBounds_toArray, List.set_cons_zero, List.set_cons_succ]
            refine wpR_take (i := 11) (v := ?_) (Upd.road _) (some 91) rfl (by kernel_rfl) (by kernel_rfl) (by kernel_rfl) (by kernel_rfl) (by kernel_rfl) (fun _ _ _ h => h) (by kernel_rfl) (fun w' hw' => ?_) ?_
            rotate_left
            · go_simp; with_reducible rfl
            simp only [Act.put, List.setIfInBounds_toArray, List.set_cons_zero, List.set_cons_succ]
            refine wpR_take (i := 12) (v := ?_) (Upd.road _) (some 92) rfl (by kernel_rfl) (by kernel_rfl) (by kernel_rfl) (by kernel_rfl) (by kernel_rfl) (fun _ _ _ h => h) (by kernel_rfl) (fun w' hw' => ?_) ?_
            rotate_left
            · go_simp; with_reducible rfl
            simp only [Act.put, List.setIfInBounds_toArray, List.set_cons_zero, List.set_cons_succ]
            refine wpR_take (i := 13) (v := ?_) (Upd.road _) (some 93) rfl (by kernel_rfl) (by kernel_rfl) (by kernel_rfl) (by kernel_rfl) (by kernel_rfl) (fun _ _ _ h => h) (by kernel_rfl) (fun w' hw' => ?_) ?_
            rotate_left
            · go_simp; with_reducible rfl
            simp only [Act.put, List.setIfInBounds_toArray, List.set_cons_zero, List.set_cons_succ]
            refine wpR_take (i := 14) (v := ?_) (Upd.road _) (some 94) rfl (by kernel_rfl) (by kernel_rfl) (by kernel_rfl) (by kernel_rfl) (by kernel_rfl) (fun _ _ _ h => h) (by kernel_rfl) (fun w' hw' => ?_) ?_
            rotate_left
            · have r0 := blk_cell (j := 0) ((hw'.2.2.2.2 gr h7.out.r.lt (fun h => h)).trans h7.out.r.blk) rfl; go_simp; with_reducible rfl
            simp only [Act.put, List.setIfInBounds_toArray, List.set_cons_zero, List.set_cons_succ]
            refine wpR_one 10 rfl (by kernel_rfl) (by kernel_rfl) (fun K hK => ?_)
            go_simp
            refine (qall_any lo lo v6 l' M _ h7.out.x).mono ?_
            rintro e w9 ⟨v9, rfl, ho9, hbb⟩
            obtain ⟨A9, c9, rfl, -, -⟩ := row_form ho9
            refine hK _ _ (fun _ => Upd.of_below hbb) ?_
            clear hK K
            have h9 := Lib.hid (h7.out.below hbb)
            have hb9 := Lib.hid (hb7.out.trans (hbb.mono hb7.out.size))
            replace ho9 := Lib.hid ho9
            clear hbb
            try simp only [Act.put, List.setIfInBounds_toArray, List.set_cons_zero, List.set_cons_succ]
            refine wpR_one 15 rfl (by kernel_rfl) (by kernel_rfl) (fun K hK => ?_)
            go_simp
            refine (alike_any _ _ _ _ _ l' rfl (by have := h9.out.x.len; have := h9.out.x.most; omega) _ ho9.out.aat h9.out.r.raat).mono ?_
            rintro e w10 ⟨rfl, hbb⟩
            refine hK _ _ (fun _ => Upd.of_below hbb) ?_
            clear hK K
            have h10 := Lib.hid (h9.out.below hbb)
            have hb10 := Lib.hid (hb9.out.trans (hbb.mono hb9.out.size))
            clear hbb
            try simp only [Act.put, List.setIfInBounds_toArray, List.set_cons_zero, List.set_cons_succ]
            refine wpR_take (i := 16) (v := ?_) (Upd.road _) (some 96) rfl (by kernel_rfl) (by kernel_rfl) (by kernel_rfl) (by kernel_rfl) (by kernel_rfl) (fun _ _ _ h => h) (by kernel_rfl) (fun w' hw' => ?_) ?_
            rotate_left
            · go_simp; with_reducible rfl
            simp only [Act.put, List.setIfInBounds_toArray, List.set_cons_zero, List.set_cons_succ]
            refine wpR_take (i := 17) (v := ?_) (Upd.road _) (some 97) rfl (by kernel_rfl) (by kernel_rfl) (by kernel_rfl) (by kernel_rfl) (by kernel_rfl) (fun _ _ _ h => h) (by kernel_rfl) (fun w' hw' => ?_) ?_
            rotate_left
            · go_simp; with_reducible rfl
            simp only [Act.put, List.setIfInBounds_toArray, List.set_cons_zero, List.set_cons_succ]
            refine wpR_done (by kernel_rfl) ?_ _
            go_wp2_with fail
            go_roundw
            case rel => exact ⟨k + 1, v6, _, _, by go_num, by omega, by omega, h10, hb10⟩
            case measure => simp [intOf]; omega
        · have hm0 : (((m : Nat) : Int) == 0) = false := beq_eq_false_iff_ne.mpr (by omega)
          have hm1 : (((m : Nat) : Int) == 1) = false := beq_eq_false_iff_ne.mpr (by omega)
          have hm2 : (((m : Nat) : Int) == 2) = false := beq_eq_false_iff_ne.mpr (by omega)
          clear h0 hmlt
          obtain ⟨t, hpq⟩ : ∃ t, pu l q M = t := ⟨_, rfl⟩
          replace hpq := Lib.hid hpq
          obtain ⟨ok, l'⟩ := t
          have hok : (ok != ok) = false := by cases ok <;> rfl
          have hbx := Lib.hid (show (wr.alloc (.cells #[.int .u8 (U d), .int .i64 z, .int .i64 q.a, .int .i64 q.b, .int .i64 q.c, .int .i64 q.d, .int .i64 q.e, .int .i64 q.f] 30)).heap[x]? = some (.cells #[.int .u8 (U d), .int .i64 z, .int .i64 q.a, .int .i64 q.b, .int .i64 q.c, .int .i64 q.d, .int .i64 q.e, .int .i64 q.f] 30 (0, 0)) by rw [hx.out]; exact heap_alloc_new wr _)
          have h4 := Lib.hid (h3.out.below ((Below.refl wr.heap.size wr).alloc (Nat.le_refl _) (.cells #[.int .u8 (U d), .int .i64 z, .int .i64 q.a, .int .i64 q.b, .int .i64 q.c, .int .i64 q.d, .int .i64 q.e, .int .i64 q.f] 30)))
          have hb5 := Lib.hid (hb4.out.alloc hb4.out.size (.cells #[.int .u8 (U d), .int .i64 z, .int .i64 q.a, .int .i64 q.b, .int .i64 q.c, .int .i64 q.d, .int .i64 q.e, .int .i64 q.f] 30))
          obtain ⟨w4, hw4⟩ : ∃ w4, wr.alloc (.cells #[.int .u8 (U d), .int .i64 z, .int .i64 q.a, .int .i64 q.b, .int .i64 q.c, .int .i64 q.d, .int .i64 q.e, .int .i64 q.f] 30) = w4 := ⟨_, rfl⟩
          rw [hw4] at hbx h4 hb5
          replace hw4 := Lib.hid hw4
          go_wp2_with fail
          rw [← hx.out, hw4.out]
          clear c0 c1 c2 c3 c4 c5 c6 c7 h3 hb4
          obtain ⟨wd, hwd⟩ : ∃ wd, wd = w4.drew := ⟨_, rfl⟩
          replace hbx : Hid (wd.heap[x]? = some (.cells #[.int .u8 (U d), .int .i64 z, .int .i64 q.a, .int .i64 q.b, .int .i64 q.c, .int .i64 q.d, .int .i64 q.e, .int .i64 q.f] 30 (0, 0))) := Lib.hid (by rw [hwd]; exact hbx.out)
          replace h4 : Hid (Bq wd lo lo gr v vr l l M) := Lib.hid (by rw [hwd]; exact h4.out.drewN 1)
          replace hb5 : Hid (Below w.heap.size w wd) := Lib.hid (by rw [hwd]; exact hb5.out.drew)
          refine wpR_region (Upd (fun k => QS lo v k ∨ k = gr)) 9999 (by kernel_rfl) ?_
          (rw [← hwd]; replace hwd := Lib.hid hwd)
          refine wpR_take (i := 0) (v := ?_) (Upd.road _) (some 34) rfl (by kernel_rfl) (by kernel_rfl) (by kernel_rfl) (by kernel_rfl) (by kernel_rfl) (fun _ _ _ h => h) (by kernel_rfl) (fun w' hw' => ?_) ?_
          rotate_left
          · go_simp; with_reducible rfl
          simp only [Act.put, List.setIfInBounds_toArray, List.set_cons_zero, List.set_cons_succ]
          refine wpR_take (i := 1) (v := ?_) (Upd.road _) (some 35) rfl (by kernel_rfl) (by kernel_rfl) (by kernel_rfl) (by kernel_rfl) (by kernel_rfl) (fun _ _ _ h => h) (by kernel_rfl) (fun w' hw' => ?_) ?_
          rotate_left
          · go_simp; with_reducible rfl
          simp only [Act.put, List.setIfInBounds_toArray, List.set_cons_zero, List.set_cons_succ]
          refine wpR_take (i := 2) (v := ?_) (Upd.road _) (some 36) rfl (by kernel_rfl) (by kernel_rfl) (by kernel_rfl) (by kernel_rfl) (by kernel_rfl) (fun _ _ _ h => h) (by kernel_rfl) (fun w' hw' => ?_) ?_
          rotate_left
          · have hb' := (hw'.2.2.2.2 x (blk_lt hbx.out) (fun h => h.elim (fun h => hbq.out.1 h) (fun h => hbq.out.2 h))).trans hbx.out; have q2 := blk_cell (j := 2) hb' rfl; have q3 := blk_cell (j := 3) hb' rfl; have q4 := blk_cell (j := 4) hb' rfl; have q5 := blk_cell (j := 5) hb' rfl; have q6 := blk_cell (j := 6) hb' rfl; have q7 := blk_cell (j := 7) hb' rfl; clear hb'; go_simp; with_reducible rfl
          simp only [Act.put, List.setIfInBounds_toArray, List.set_cons_zero, List.set_cons_succ]
          refine wpR_take (i := 4) (v := ?_) (Upd.road _) (some 38) rfl (by kernel_rfl) (by kernel_rfl) (by kernel_rfl) (by kernel_rfl) (by kernel_rfl) (fun _ _ _ h => h) (by kernel_rfl) (fun w' hw' => ?_) ?_
          rotate_left
          · go_simp; with_reducible rfl
          simp only [Act.put, List.setIfInBounds_toArray, List.set_cons_zero, List.set_cons_succ]
          refine wpR_take (i := 5) (v := ?_) (Upd.road _) (some 39) rfl (by kernel_rfl) (by kernel_rfl) (by kernel_rfl) (by kernel_rfl) (by kernel_rfl) (fun _ _ _ h => h) (by kernel_rfl) (fun w' hw' => ?_) ?_
          rotate_left
          · go_simp; with_reducible rfl
          simp only [Act.put, List.setIfInBounds_toArray, List.set_cons_zero, List.set_cons_succ]
          refine wpR_take (i := 6) (v := ?_) (Upd.road _) (some 40) rfl (by kernel_rfl) (by kernel_rfl) (by kernel_rfl) (by kernel_rfl) (by kernel_rfl) (fun _ _ _ h => h) (by kernel_rfl) (fun w' hw' => ?_) ?_
          rotate_left
          · have hb' := (hw'.2.2.2.2 x (blk_lt hbx.out) (fun h => h.elim (fun h => hbq.out.1 h) (fun h => hbq.out.2 h))).trans hbx.out; have q2 := blk_cell (j := 2) hb' rfl; have q3 := blk_cell (j := 3) hb' rfl; have q4 := blk_cell (j := 4) hb' rfl; have q5 := blk_cell (j := 5) hb' rfl; have q6 := blk_cell (j := 6) hb' rfl; have q7 := blk_cell (j := 7) hb' rfl; clear hb'; go_simp; with_reducible rfl
          simp only [Act.put, List.setIfInBounds_toArray, List.set_cons_zero, List.set_cons_succ]
          refine wpR_one 3 rfl (by kernel_rfl) (by kernel_rfl) (fun K hK => ?_)
          go_simp
          refine (pux h4.out q hqo.out).mono ?_
          rw [hpq.out]
          rintro e w6 ⟨rfl, v6, h6, hu6⟩
          refine hK _ _ (fun _ => hu6.mono (fun k h => .inl h)) ?_
          clear hK K
          have hb6 := Lib.hid (h4.out.fromX hu6 hb5.out hlw)
          replace h6 := Lib.hid h6
          clear hu6
          try simp only [Act.put, List.setIfInBounds_toArray, List.set_cons_zero, List.set_cons_succ]
          refine wpR_one 7 rfl (by kernel_rfl) (by kernel_rfl) (fun K hK => ?_)
          go_simp
          refine (pur h6.out q hqo.out).mono ?_
          rw [hpq.out]
          rintro e w7 ⟨rfl, vr7, h7, hu7⟩
          refine hK _ _ (fun _ => hu7.mono (fun k h => .inr h)) ?_
          clear hK K
          have hb7 := Lib.hid (h6.out.fromR hu7 hb6.out hlw)
          replace h7 := Lib.hid h7
          clear hu7
          try simp only [Act.put, List.setIfInBounds_toArray, List.set_cons_zero, List.set_cons_succ]
          refine wpR_take (i := 8) (v := ?_) (Upd.road _) (some 42) rfl (by kernel_rfl) (by kernel_rfl) (by kernel_rfl) (by kernel_rfl) (by kernel_rfl) (fun _ _ _ h => h) (by kernel_rfl) (fun w' hw' => ?_) ?_
          rotate_left
          · go_simp; with_reducible rfl
          simp only [Act.put, List.setIfInBounds_toArray, List.set_cons_zero, List.set_cons_succ]
          refine wpR_done (by kernel_rfl) ?_ _
          go_wp2_with fail
          obtain ⟨Ar, cr, rfl, -, -⟩ := h7.out.r.form
          obtain ⟨we, hwe⟩ : ∃ we, we = w7.drew := ⟨_, rfl⟩
          replace h7 : Hid (Bq we lo lo gr v6 (.slice Ar l'.length cr) l' l' M) := Lib.hid (by rw [hwe]; exact h7.out.drewN 1)
          replace hb7 : Hid (Below w.heap.size w we) := Lib.hid (by rw [hwe]; exact hb7.out.drew)
          have hl7 := h7.out.x.len
          refine wpR_region (Upd (fun _ => False)) 9999 (by kernel_rfl) ?_
          (rw [← hwe]; replace hwe := Lib.hid hwe)
          refine wpR_take (i := 0) (v := ?_) (Upd.road _) (some 80) rfl (by kernel_rfl) (by kernel_rfl) (by kernel_rfl) (by kernel_rfl) (by kernel_rfl) (fun _ _ _ h => h) (by kernel_rfl) (fun w' hw' => ?_) ?_
          rotate_left
          · go_simp; with_reducible rfl
          simp only [Act.put, List.setIfInBounds_toArray, List.set_cons_zero, List.set_cons_succ]
          refine wpR_take (i := 2) (v := ?_) (Upd.road _) (some 82) rfl (by kernel_rfl) (by kernel_rfl) (by kernel_rfl) (by kernel_rfl) (by kernel_rfl) (fun _ _ _ h => h) (by kernel_rfl) (fun w' hw' => ?_) ?_
          rotate_left
          · go_simp; with_reducible rfl
          simp only [Act.put, List.setIfInBounds_toArray, List.set_cons_zero, List.set_cons_succ]
          refine wpR_take (i := 3) (v := ?_) (Upd.road _) (some 83) rfl (by kernel_rfl) (by kernel_rfl) (by kernel_rfl) (by kernel_rfl) (by kernel_rfl) (fun _ _ _ h => h) (by kernel_rfl) (fun w' hw' => ?_) ?_
          rotate_left
          · go_simp; with_reducible rfl
          simp only [Act.put, List.setIfInBounds_toArray, List.set_cons_zero, List.set_cons_succ]
          refine wpR_take (i := 4) (v := ?_) (Upd.road _) (some 84) rfl (by kernel_rfl) (by kernel_rfl) (by kernel_rfl) (by kernel_rfl) (by kernel_rfl) (fun _ _ _ h => h) (by kernel_rfl) (fun w' hw' => ?_) ?_
          rotate_left
          · go_simp; with_reducible rfl
          simp only [Act.put, List.setIfInBounds_toArray, List.set_cons_zero, List.set_cons_succ]
          refine wpR_take (i := 5) (v := ?_) (Upd.road _) (some 85) rfl (by kernel_rfl) (by kernel_rfl) (by kernel_rfl) (by kernel_rfl) (by kernel_rfl) (fun _ _ _ h => h) (by kernel_rfl) (fun w' hw' => ?_) ?_
          rotate_left
          · have r0 := blk_cell (j := 0) ((hw'.2.2.2.2 gr h7.out.r.lt (fun h => h)).trans h7.out.r.blk) rfl; go_simp; with_reducible rfl
          simp only [Act.put, List.setIfInBounds_toArray, List.set_cons_zero, List.set_cons_succ]
          refine wpR_take (i := 6) (v := ?_) (Upd.road _) (some 86) rfl (by kernel_rfl) (by kernel_rfl) (by kernel_rfl) (by kernel_rfl) (by kernel_rfl) (fun _ _ _ h => h) (by kernel_rfl) (fun w' hw' => ?_) ?_
          rotate_left
          · go_simp; with_reducible rfl
          simp only [Act.put, List.setIfInBounds_toArray, List.set_cons_zero, List.set_cons_succ]
          refine wpR_one 1 rfl (by kernel_rfl) (by kernel_rfl) (fun K hK => ?_)
          go_simp
          refine (qlen_any lo lo v6 l' M _ h7.out.x).mono ?_
          rintro e w8 ⟨rfl, rfl⟩
          refine hK _ _ (fun _ => Upd.refl _ _) ?_
          clear hK K
          try simp only [Act.put, List.setIfInBounds_toArray, List.set_cons_zero, List.set_cons_succ]
          refine wpR_take (i := 7) (v := ?_) (Upd.road _) (some 87) rfl (by kernel_rfl) (by kernel_rfl) (by kernel_rfl) (by kernel_rfl) (by kernel_rfl) (fun _ _ _ h => h) (by kernel_rfl) (fun w' hw' => ?_) ?_
          rotate_left
          · go_simp; with_reducible rfl
          simp only [Act.put, List.setIfInBounds_toArray, List.set_cons_zero, List.set_cons_succ]
          refine wpR_take (i := 8) (v := ?_) (Upd.road _) (some 88) rfl (by kernel_rfl) (by kernel_rfl) (by kernel_rfl) (by kernel_rfl) (by kernel_rfl) (fun _ _ _ h => h) (by kernel_rfl) (fun w' hw' => ?_) ?_
          rotate_left
          · go_simp; with_reducible rfl
          simp only [Act.put, List.setIfInBounds_toArray, List.set_cons_zero, List.set_cons_succ]
          refine wpR_take (i := 9) (v := ?_) (Upd.road _) (some 89) rfl (by kernel_rfl) (by kernel_rfl) (by kernel_rfl) (by kernel_rfl) (by kernel_rfl) (fun _ _ _ h => h) (by kernel_rfl) (fun w' hw' => ?_) ?_
          rotate_left
          · go_simp; with_reducible rfl
          simp only [Act.put, List.setIfInBounds_toArray, List.set_cons_zero, List.set_cons_succ]
          refine wpR_take (i := 11) (v := ?_) (Upd.road _) (some 91) rfl (by kernel_rfl) (by kernel_rfl) (by kernel_rfl) (by kernel_rfl) (by kernel_rfl) (fun _ _ _ h => h) (by kernel_rfl) (fun w' hw' => ?_) ?_
          rotate_left
          · go_simp; with_reducible rfl
          simp only [Act.put, List.setIfInBounds_toArray, List.set_cons_zero, List.set_cons_succ]
          refine wpR_take (i := 12) (v := ?_) (Upd.road _) (some 92) rfl (by kernel_rfl) (by kernel_rfl) (by kernel_rfl) (by kernel_rfl) (by kernel_rfl) (fun _ _ _ h => h) (by kernel_rfl) (fun w' hw' => ?_) ?_
          rotate_left
          · go_simp; with_reducible rfl
          simp only [Act.put, List.setIfInBounds_toArray, List.set_cons_zero, List.set_cons_succ]
          refine wpR_take (i := 13) (v := ?_) (Upd.road _) (some 93) rfl (by kernel_rfl) (by kernel_rfl) (by kernel_rfl) (by kernel_rfl) (by kernel_rfl) (fun _ _ _ h => h) (by kernel_rfl) (fun w' hw' => ?_) ?_
          rotate_left
          · go_simp; with_reducible rfl
          simp only [Act.put, List.setIfInBounds_toArray, List.set_cons_zero, List.set_cons_succ]
          refine wpR_take (i := 14) (v := ?_) (Upd.road _) (some 94) rfl (by kernel_rfl) (by kernel_rfl) (by kernel_rfl) (by kernel_rfl) (by kernel_rfl) (fun _ _ _ h => h) (by kernel_rfl) (fun w' hw' => ?_) ?_
          rotate_left
          · have r0 := blk_cell (j := 0) ((hw'.2.2.2.2 gr h7.out.r.lt (fun h => h)).trans h7.out.r.blk) rfl; go_simp; with_reducible rfl
          simp only [Act.put, List.setIfInBounds_toArray, List.set_cons_zero, List.set_cons_succ]
          refine wpR_one 10 rfl (by kernel_rfl) (by kernel_rfl) (fun K hK => ?_)
          go_simp
          refine (qall_any lo lo v6 l' M _ h7.out.x).mono ?_
          rintro e w9 ⟨v9, rfl, ho9, hbb⟩
          obtain ⟨A9, c9, rfl, -, -⟩ := row_form ho9
          refine hK _ _ (fun _ => Upd.of_below hbb) ?_
          clear hK K
          have h9 := Lib.hid (h7.out.below hbb)
          have hb9 := Lib.hid (hb7.out.trans (hbb.mono hb7.out.size))
          replace ho9 := Lib.hid ho9
          clear hbb
          try simp only [Act.put, List.setIfInBounds_toArray, List.set_cons_zero, List.set_cons_succ]
          refine wpR_one 15 rfl (by kernel_rfl) (by kernel_rfl) (fun K hK => ?_)
          go_simp
          refine (alike_any _ _ _ _ _ l' rfl (by have := h9.out.x.len; have := h9.out.x.most; omega) _ ho9.out.aat h9.out.r.raat).mono ?_
          rintro e w10 ⟨rfl, hbb⟩
          refine hK _ _ (fun _ => Upd.of_below hbb) ?_
          clear hK K
          have h10 := Lib.hid (h9.out.below hbb)
          have hb10 := Lib.hid (hb9.out.trans (hbb.mono hb9.out.size))
          clear hbb
          try simp only [Act.put, List.setIfInBounds_toArray, List.set_cons_zero, List.set_cons_succ]
          refine wpR_take (i := 16) (v := ?_) (Upd.road _) (some 96) rfl (by kernel_rfl) (by kernel_rfl) (by kernel_rfl) (by kernel_rfl) (by kernel_rfl) (fun _ _ _ h => h) (by kernel_rfl) (fun w' hw' => ?_) ?_
          rotate_left
          · go_simp; with_reducible rfl
          simp only [Act.put, List.setIfInBounds_toArray, List.set_cons_zero, List.set_cons_succ]
          refine wpR_take (i := 17) (v := ?_) (Upd.road _) (some 97) rfl (by kernel_rfl) (by kernel_rfl) (by kernel_rfl) (by kernel_rfl) (by kernel_rfl) (fun _ _ _ h => h) (by kernel_rfl) (fun w' hw' => ?_) ?_
          rotate_left
          · go_simp; with_reducible rfl
          simp only [Act.put, List.setIfInBounds_toArray, List.set_cons_zero, List.set_cons_succ]
          refine wpR_done (by kernel_rfl) ?_ _
          go_wp2_with fail
          go_roundw
          case rel => exact ⟨k + 1, v6, _, _, by go_num, by omega, by omega, h10, hb10⟩
          case measure => simp [intOf]; omega
      · go_wp2_with fail
        refine (awake15_any _).mono ?_
        rintro e w9 ⟨rfl, hb9⟩
        replace hb9 := Lib.hid hb9
        go_wp2_with fail
        go_ret
        exact ⟨rfl, hb4.out.trans (hb9.out.mono hb4.out.size)⟩
    · go_wp2_with fail
      refine (awake15_any _).mono ?_
      rintro e w9 ⟨rfl, hb9⟩
      replace hb9 := Lib.hid hb9
      go_wp2_with fail
      go_ret
      exact ⟨rfl, hb4.out.trans (hb9.out.mono hb4.out.size)⟩
end Go.Proofs.Ytppclmidnomkjab
