/- The laws of dsk: DskPlays. -/
import Derived.Test.YtppclmidnomkjaaDskRef
import Derived.Test.YtppclmidnomkjaaOpenActs
namespace Go.Proofs.Ytppclmidnomkjaa
set_option linter.unusedVariables false
set_option linter.unusedSimpArgs false
open Go Go.RowKit

def DS.lf (s : DS) : Int := if s.fused = true then s.left else -1
/-- the reference in the state of s -/
def RkS (w : World) (g : Nat) (s : DS) : Prop := Rk w g (s.c.take s.dur) (s.c.drop s.dur) s.lf
theorem lf_bd (s : DS) (h : s.Ok) : -1 ≤ s.lf ∧ s.lf ≤ 9223372036854775807 := by
  unfold DS.lf
  have := h.lo
  have := h.hi
  split <;> omega
theorem step_eq (s : DS) (h : s.Ok) : stepL s.lf = (s.op.1, s.op.2.lf) := by
  unfold stepL DS.lf DS.op
  have := h.lo
  cases hf : s.fused with
  | false => simp [hf]
  | true =>
    simp only [if_true]
    by_cases hl : s.left = 0
    · simp [hl, hf]
    · rw [if_neg hl, if_neg hl, if_pos (by omega)]
      simp [hf]
theorem tl_len (s : DS) (h : s.Ok) : (s.c.take s.dur).length = s.dur ∧ (s.c.drop s.dur).length = s.c.length - s.dur ∧ (s.c.take s.dur).length + (s.c.drop s.dur).length = s.c.length := by
  have := h.dur
  simp
  omega
section
variable {w w' : World} {lo hi g gr : Nat} {s : DS}
theorem RkS.ne (h : RkS w gr s) {s' : DS} (hd : Dk w lo hi g s') : gr ≠ g := fun e => by
  obtain ⟨v, hh, -⟩ := hd
  subst e
  have := h.symm.trans hh
  injection this with this
  injection this with _ this _
  exact absurd this (by decide)
/-- what the reference turns is none of the disk's -/
theorem Dk.updG (hd : Dk w lo hi g s) {s' : DS} (h : RkS w gr s') (hu : UpdG gr w w') : Dk w' lo hi g s := by
  have hne := h.ne hd
  obtain ⟨v, h1, h2, h3, h4, h5, h6, h7⟩ := hd
  have ho : v.ownBlock ≠ some gr := h5.ne_blk h (by decide)
  refine ⟨v, (hu.2.2.2.2 g (blk_lt h1) (fun e => hne e.symm)).trans h1, h2, h3, Nat.le_trans h4 hu.2.2.2.1, ⟨h5.1, ?_⟩, h6, h7⟩
  rcases h5.2 with h | ⟨k, cap, cur, rfl, hb, hh, h⟩
  · exact .inl h
  · exact .inr ⟨k, cap, cur, rfl, hb, (hu.2.2.2.2 k (blk_lt hh) (fun e => ho (congrArg some e))).trans hh, h⟩
end
theorem chg_only {w w' : World} {lo g bx : Nat} {cs : Array Value} {T : TypeId} (h : Chg lo g w w') (hx : w.heap[bx]? = some (.cells cs T (0, 0))) (hg : bx ≠ g) (hT : T ≠ 5) : Upd (· ≠ bx) w w' :=
  ⟨h.1, h.2.1, h.2.2.1, h.2.2.2.1, fun k hk hn => by
    have e : k = bx := Classical.not_not.mp hn
    subst e
    exact (h.block hx hg hT).trans hx.symm⟩
theorem updg_only {w w' : World} {gr bx : Nat} (h : UpdG gr w w') (hg : ¬ bx = gr) : Upd (· ≠ bx) w w' :=
  ⟨h.1, h.2.1, h.2.2.1, h.2.2.2.1, fun k hk hn => by
    have e : k = bx := Classical.not_not.mp hn
    subst e
    exact h.2.2.2.2 k hk hg⟩
/-- one act on both -/
structure Both (w0 w : World) (lo g gr : Nat) (s : DS) : Prop where
  dk : Dk w lo w.heap.size g s
  rk : RkS w gr s
  below : Below w0.heap.size w0 w
  low : w0.heap.size ≤ lo
  grl : lo ≤ gr
theorem crash_rk (s : DS) (z : Int) (hok : s.Ok) {w : World} {gr : Nat} (h : Rk w gr (s.c.take s.dur ++ (s.c.drop s.dur).take (s.kept z - s.dur)) [] (-1)) : RkS w gr (s.crash z) := by
  obtain ⟨-, h1, h2⟩ := DS.kept_int s hok z
  have e1 : (s.crash z).c.take (s.crash z).dur = s.c.take s.dur ++ (s.c.drop s.dur).take (s.kept z - s.dur) := by
    show (s.c.take (s.kept z)).take (s.kept z) = _
    rw [List.take_take, Nat.min_self]
    have e : s.kept z = s.dur + (s.kept z - s.dur) := by omega
    calc s.c.take (s.kept z) = s.c.take (s.dur + (s.kept z - s.dur)) := by rw [← e]
      _ = _ := List.take_add
  have e2 : (s.crash z).c.drop (s.crash z).dur = [] := by
    show (s.c.take (s.kept z)).drop (s.kept z) = []
    exact List.drop_eq_nil_of_le (by rw [List.length_take]; omega)
  unfold RkS
  rw [e1, e2]
  exact h
theorem sync_rk (s : DS) (hok : s.Ok) {w : World} {gr : Nat} {e : Ending} (h1 : (stepL s.lf).1 = false → e = .returned (.int .i64 11) ∧ Rk w gr (s.c.take s.dur) (s.c.drop s.dur) (stepL s.lf).2)
    (h2 : (stepL s.lf).1 = true → e = .returned (.int .i64 0) ∧ Rk w gr (s.c.take s.dur ++ s.c.drop s.dur) [] (stepL s.lf).2) : e = .returned (.int .i64 s.sync.1) ∧ RkS w gr s.sync.2 := by
  rw [step_eq s hok] at h1 h2
  unfold DS.sync
  cases hb : s.op.1 with
  | false =>
    obtain ⟨he, hr⟩ := h1 hb
    rw [if_neg (by decide)]
    refine ⟨he, ?_⟩
    rw [DS.op_false hb] at hr
    exact hr
  | true =>
    obtain ⟨he, hr⟩ := h2 hb
    rw [if_pos rfl]
    refine ⟨he, ?_⟩
    unfold RkS
    rw [List.take_append_drop] at hr
    have e1 : ({ s.op.2 with dur := s.c.length } : DS).c = s.c := s.op_c.1
    show Rk w gr (List.take s.c.length s.op.2.c) (List.drop s.c.length s.op.2.c) _
    rw [s.op_c.1, List.take_length, List.drop_length]
    exact hr
theorem append_rk (s : DS) (hok : s.Ok) {n : Nat} {l : List UInt8} (hn : l.length = n) {w : World} {gr : Nat} {e : Ending} (h0 : 262144 < (s.c.take s.dur).length + (s.c.drop s.dur).length + n → e = .returned (.int .i64 16) ∧ Rk w gr (s.c.take s.dur) (s.c.drop s.dur) s.lf)
    (h1 : (s.c.take s.dur).length + (s.c.drop s.dur).length + n ≤ 262144 → (stepL s.lf).1 = false → e = .returned (.int .i64 11) ∧ Rk w gr (s.c.take s.dur) (s.c.drop s.dur) (stepL s.lf).2)
    (h2 : (s.c.take s.dur).length + (s.c.drop s.dur).length + n ≤ 262144 → (stepL s.lf).1 = true → e = .returned (.int .i64 0) ∧ Rk w gr (s.c.take s.dur) (s.c.drop s.dur ++ l) (stepL s.lf).2) : e = .returned (.int .i64 (s.append l).1) ∧ RkS w gr (s.append l).2 := by
  rw [(tl_len s hok).2.2] at h0 h1 h2
  rw [step_eq s hok] at h1 h2
  unfold DS.append
  rw [hn]
  by_cases hov : 262144 < s.c.length + n
  · rw [if_pos hov]
    exact h0 hov
  · rw [if_neg hov]
    cases hb : s.op.1 with
    | false =>
      obtain ⟨he, hr⟩ := h1 (by omega) hb
      rw [if_neg (by decide)]
      rw [DS.op_false hb] at hr
      exact ⟨he, hr⟩
    | true =>
      obtain ⟨he, hr⟩ := h2 (by omega) hb
      rw [if_pos rfl]
      refine ⟨he, ?_⟩
      show Rk w gr (List.take s.op.2.dur (s.c ++ l)) (List.drop s.op.2.dur (s.c ++ l)) _
      rw [s.op_c.2.1, List.take_append_of_le_length hok.dur, List.drop_append_of_le_length hok.dur]
      exact hr
theorem swap_rk (s : DS) (hok : s.Ok) {n : Nat} {l : List UInt8} (hn : l.length = n) {w : World} {gr : Nat} {e : Ending} (h0 : 262144 < n → e = .returned (.int .i64 16) ∧ Rk w gr (s.c.take s.dur) (s.c.drop s.dur) s.lf)
    (h1 : n ≤ 262144 → (stepL s.lf).1 = false → e = .returned (.int .i64 11) ∧ Rk w gr (s.c.take s.dur) (s.c.drop s.dur) (stepL s.lf).2)
    (h2 : n ≤ 262144 → (stepL s.lf).1 = true → e = .returned (.int .i64 0) ∧ Rk w gr l [] (stepL s.lf).2) : e = .returned (.int .i64 (s.swap l).1) ∧ RkS w gr (s.swap l).2 := by
  rw [step_eq s hok] at h1 h2
  unfold DS.swap
  rw [hn]
  by_cases hov : 262144 < n
  · rw [if_pos hov]
    exact h0 hov
  · rw [if_neg hov]
    cases hb : s.op.1 with
    | false =>
      obtain ⟨he, hr⟩ := h1 (by omega) hb
      rw [if_neg (by decide)]
      rw [DS.op_false hb] at hr
      exact ⟨he, hr⟩
    | true =>
      obtain ⟨he, hr⟩ := h2 (by omega) hb
      rw [if_pos rfl]
      refine ⟨he, ?_⟩
      show Rk w gr (List.take n l) (List.drop n l) _
      rw [← hn, List.take_length, List.drop_length]
      exact hr
set_option maxHeartbeats 4000000 in
set_option maxRecDepth 10000 in
theorem does_fuse (w0 : World) (lo g gr : Nat) (s : DS) (d : UInt8) (z : Int) (hz : -9223372036854775808 ≤ z ∧ z ≤ 9223372036854775807) (hm : d.toNat % 12 = 0) (A : Option Addr) (n c : Nat) (l : List UInt8) (hn : l.length = n) (hnm : n ≤ 140737488355328) (w : World) (hra : Rd w lo A l) (h : Both w0 w lo g gr s) :
    Calls Try.prog 31 #[.pointer (some ⟨g, 0, none⟩), .pointer (some ⟨gr, 0, none⟩), .agg #[.int .u8 (U d), .int .i64 z, .slice A n c]] w fun e w' => e = .returned (.bool true) ∧ ∃ s', Both w0 w' lo g gr s' := by
  have hgr := (Array.getElem?_eq_some_iff.1 h.rk).1
  have hlow := Lib.hid h.low
  have hgrl := Lib.hid h.grl
  have hneg := Lib.hid (h.rk.ne h.dk)
  have hlw := Lib.hid h.dk.lw
  have hgs : g < w.heap.size := h.dk.bounds.2.1
  have hgl := Lib.hid h.dk.bounds.1
  obtain ⟨wa, hwa⟩ : ∃ wa, w.alloc (.cells #[.int .u8 (U d), .int .i64 z, .slice A n c] 59) = wa := ⟨_, rfl⟩
  have hba : Below w.heap.size w wa := by rw [← hwa]; exact (Below.refl _ _).alloc (Nat.le_refl _) _
  have hd1 := Lib.hid (h.dk.below hba)
  have hr1 : Hid (RkS wa gr s) := Lib.hid (Rk.below h.rk hba hgr)
  have hb1 := Lib.hid (h.below.trans (hba.mono h.below.size))
  have hok := Lib.hid h.dk.ok
  have hra1 := Lib.hid (hra.below (hba.mono hlw.out))
  have hx : wa.heap[w.heap.size]? = some (.cells #[.int .u8 (U d), .int .i64 z, .slice A n c] 59 (0, 0)) := by rw [← hwa]; exact heap_alloc_new w _
  obtain ⟨bx, hbx⟩ : ∃ bx, bx = w.heap.size := ⟨_, rfl⟩
  rw [← hbx] at hx hgr hgs
  have c0 := blk_cell hx (j := 0) rfl
  have c1 := blk_cell hx (j := 1) (v := .int .i64 z) rfl
  have c2 := blk_cell hx (j := 2) (v := .slice A n c) rfl
  replace c0 : wa.cell? ⟨bx, 0, none⟩ = some (.int .u8 (U d)) := c0
  replace hx := Lib.hid hx
  have hxg : Hid (bx ≠ g) := Lib.hid (by omega)
  have hxr : Hid (¬ bx = gr) := Lib.hid (by omega)
  have hbx' : w.heap.size = bx := hbx.symm
  clear hbx
  replace hba := Lib.hid hba
  replace h := Lib.hid h
  have hq : (U d).tmod 12 = 0 := by rw [Int.tmod_eq_emod_of_nonneg (U_lo d)]; unfold U; omega
  all_goals
    go_enter Try.func31, Try.ntmps31
    go_wp2_with fail
    refine (fuse_any lo _ g s z hz _ hd1.out).mono ?_
    rintro e w1 ⟨rfl, hd2, hch⟩
    have hx2 := hch.block hx.out hxg.out (by decide)
    have e1 := blk_cell hx2 (j := 1) (v := .int .i64 z) rfl
    replace hx2 := Lib.hid hx2
    have hr2 := Lib.hid (Rk.chg hr1.out hch hneg.out)
    have hb2 := Lib.hid (hch.from_ hb1.out hlow.out hd1.out.lw)
    have hd2' := Lib.hid (hd2.more hd2.bounds.2.2 (Nat.le_refl _))
    clear hch hd2
    go_wp2_with fail
    refine (rfuse_any gr _ _ _ z hz _ hr2.out).mono ?_
    rintro e w2 ⟨rfl, hr3, hu⟩
    have hd3 := Lib.hid (Dk.updG hd2'.out (s' := s) hr2.out hu)
    have hb3 := Lib.hid (Upd.to_below hb2.out hu (Nat.le_trans hlow.out hd2'.out.lw) (fun k hk => by have := hlow.out; have := hgrl.out; omega))
    replace hr3 : Hid (RkS w2 gr (s.fuse z)) := Lib.hid hr3
    replace hu := Lib.hid hu
    go_wp2
    go_ret
    exact ⟨rfl, s.fuse z, hd3.out.more hd3.out.bounds.2.2 (Nat.le_refl _), hr3.out, hb3.out, hlow.out, hgrl.out⟩
set_option maxHeartbeats 4000000 in
set_option maxRecDepth 10000 in
theorem does_crash (w0 : World) (lo g gr : Nat) (s : DS) (d : UInt8) (z : Int) (hz : -9223372036854775808 ≤ z ∧ z ≤ 9223372036854775807) (hm : d.toNat % 12 = 1) (A : Option Addr) (n c : Nat) (l : List UInt8) (hn : l.length = n) (hnm : n ≤ 140737488355328) (w : World) (hra : Rd w lo A l) (h : Both w0 w lo g gr s) :
    Calls Try.prog 31 #[.pointer (some ⟨g, 0, none⟩), .pointer (some ⟨gr, 0, none⟩), .agg #[.int .u8 (U d), .int .i64 z, .slice A n c]] w fun e w' => e = .returned (.bool true) ∧ ∃ s', Both w0 w' lo g gr s' := by
  have hgr := (Array.getElem?_eq_some_iff.1 h.rk).1
  have hlow := Lib.hid h.low
  have hgrl := Lib.hid h.grl
  have hneg := Lib.hid (h.rk.ne h.dk)
  have hlw := Lib.hid h.dk.lw
  have hgs : g < w.heap.size := h.dk.bounds.2.1
  have hgl := Lib.hid h.dk.bounds.1
  obtain ⟨wa, hwa⟩ : ∃ wa, w.alloc (.cells #[.int .u8 (U d), .int .i64 z, .slice A n c] 59) = wa := ⟨_, rfl⟩
  have hba : Below w.heap.size w wa := by rw [← hwa]; exact (Below.refl _ _).alloc (Nat.le_refl _) _
  have hd1 := Lib.hid (h.dk.below hba)
  have hr1 : Hid (RkS wa gr s) := Lib.hid (Rk.below h.rk hba hgr)
  have hb1 := Lib.hid (h.below.trans (hba.mono h.below.size))
  have hok := Lib.hid h.dk.ok
  have hra1 := Lib.hid (hra.below (hba.mono hlw.out))
  have hx : wa.heap[w.heap.size]? = some (.cells #[.int .u8 (U d), .int .i64 z, .slice A n c] 59 (0, 0)) := by rw [← hwa]; exact heap_alloc_new w _
  obtain ⟨bx, hbx⟩ : ∃ bx, bx = w.heap.size := ⟨_, rfl⟩
  rw [← hbx] at hx hgr hgs
  have c0 := blk_cell hx (j := 0) rfl
  have c1 := blk_cell hx (j := 1) (v := .int .i64 z) rfl
  have c2 := blk_cell hx (j := 2) (v := .slice A n c) rfl
  replace c0 : wa.cell? ⟨bx, 0, none⟩ = some (.int .u8 (U d)) := c0
  replace hx := Lib.hid hx
  have hxg : Hid (bx ≠ g) := Lib.hid (by omega)
  have hxr : Hid (¬ bx = gr) := Lib.hid (by omega)
  have hbx' : w.heap.size = bx := hbx.symm
  clear hbx
  replace hba := Lib.hid hba
  replace h := Lib.hid h
  have hq : (U d).tmod 12 = 1 := by rw [Int.tmod_eq_emod_of_nonneg (U_lo d)]; unfold U; omega
  all_goals
    go_enter Try.func31, Try.ntmps31
    go_wp2_with fail
    refine (crash_any lo _ g s z hz _ hd1.out).mono ?_
    rintro e w1 ⟨rfl, hd2, hch⟩
    have hx2 := hch.block hx.out hxg.out (by decide)
    have e1 := blk_cell hx2 (j := 1) (v := .int .i64 z) rfl
    replace hx2 := Lib.hid hx2
    have hr2 := Lib.hid (Rk.chg hr1.out hch hneg.out)
    have hb2 := Lib.hid (hch.from_ hb1.out hlow.out hd1.out.lw)
    have hd2' := Lib.hid (hd2.more hd2.bounds.2.2 (Nat.le_refl _))
    clear hch hd2
    go_wp2_with fail
    refine (rcrash_any gr _ _ _ z hz (by rw [(tl_len s hok.out).2.2]; exact hok.out.len) (s.kept z - s.dur) (by have h1 := (DS.kept_int s hok.out z).1; have h2 := (DS.kept_int s hok.out z).2.2; rw [(tl_len s hok.out).2.1]; have := hok.out.dur; omega) _ hr2.out).mono ?_
    rintro e w2 ⟨rfl, hr3, hu⟩
    have hd3 := Lib.hid (Dk.updG hd2'.out (s' := s) hr2.out hu)
    have hb3 := Lib.hid (Upd.to_below hb2.out hu (Nat.le_trans hlow.out hd2'.out.lw) (fun k hk => by have := hlow.out; have := hgrl.out; omega))
    replace hr3 : Hid (RkS w2 gr (s.crash z)) := Lib.hid (crash_rk s z hok.out hr3)
    replace hu := Lib.hid hu
    go_wp2
    go_ret
    exact ⟨rfl, s.crash z, hd3.out.more hd3.out.bounds.2.2 (Nat.le_refl _), hr3.out, hb3.out, hlow.out, hgrl.out⟩
set_option maxHeartbeats 4000000 in
set_option maxRecDepth 10000 in
theorem does_sync (w0 : World) (lo g gr : Nat) (s : DS) (d : UInt8) (z : Int) (hz : -9223372036854775808 ≤ z ∧ z ≤ 9223372036854775807) (hm : d.toNat % 12 = 4 ∨ d.toNat % 12 = 5 ∨ d.toNat % 12 = 6) (A : Option Addr) (n c : Nat) (l : List UInt8) (hn : l.length = n) (hnm : n ≤ 140737488355328) (w : World) (hra : Rd w lo A l) (h : Both w0 w lo g gr s) :
    Calls Try.prog 31 #[.pointer (some ⟨g, 0, none⟩), .pointer (some ⟨gr, 0, none⟩), .agg #[.int .u8 (U d), .int .i64 z, .slice A n c]] w fun e w' => e = .returned (.bool true) ∧ ∃ s', Both w0 w' lo g gr s' := by
  have hgr := (Array.getElem?_eq_some_iff.1 h.rk).1
  have hlow := Lib.hid h.low
  have hgrl := Lib.hid h.grl
  have hneg := Lib.hid (h.rk.ne h.dk)
  have hlw := Lib.hid h.dk.lw
  have hgs : g < w.heap.size := h.dk.bounds.2.1
  have hgl := Lib.hid h.dk.bounds.1
  obtain ⟨wa, hwa⟩ : ∃ wa, w.alloc (.cells #[.int .u8 (U d), .int .i64 z, .slice A n c] 59) = wa := ⟨_, rfl⟩
  have hba : Below w.heap.size w wa := by rw [← hwa]; exact (Below.refl _ _).alloc (Nat.le_refl _) _
  have hd1 := Lib.hid (h.dk.below hba)
  have hr1 : Hid (RkS wa gr s) := Lib.hid (Rk.below h.rk hba hgr)
  have hb1 := Lib.hid (h.below.trans (hba.mono h.below.size))
  have hok := Lib.hid h.dk.ok
  have hra1 := Lib.hid (hra.below (hba.mono hlw.out))
  have hx : wa.heap[w.heap.size]? = some (.cells #[.int .u8 (U d), .int .i64 z, .slice A n c] 59 (0, 0)) := by rw [← hwa]; exact heap_alloc_new w _
  obtain ⟨bx, hbx⟩ : ∃ bx, bx = w.heap.size := ⟨_, rfl⟩
  rw [← hbx] at hx hgr hgs
  have c0 := blk_cell hx (j := 0) rfl
  have c1 := blk_cell hx (j := 1) (v := .int .i64 z) rfl
  have c2 := blk_cell hx (j := 2) (v := .slice A n c) rfl
  replace c0 : wa.cell? ⟨bx, 0, none⟩ = some (.int .u8 (U d)) := c0
  replace hx := Lib.hid hx
  have hxg : Hid (bx ≠ g) := Lib.hid (by omega)
  have hxr : Hid (¬ bx = gr) := Lib.hid (by omega)
  have hbx' : w.heap.size = bx := hbx.symm
  clear hbx
  replace hba := Lib.hid hba
  replace h := Lib.hid h
  have hq : (U d).tmod 12 = 4 ∨ (U d).tmod 12 = 5 ∨ (U d).tmod 12 = 6 := by rw [Int.tmod_eq_emod_of_nonneg (U_lo d)]; unfold U; omega
  rcases hq with hq | hq | hq
  all_goals
    go_enter Try.func31, Try.ntmps31
    go_wp2_with fail
    refine (sync_any lo _ g s _ hd1.out).mono ?_
    rintro e w1 ⟨rfl, hd2, hch⟩
    have hx2 := hch.block hx.out hxg.out (by decide)
    have e1 := blk_cell hx2 (j := 1) (v := .int .i64 z) rfl
    replace hx2 := Lib.hid hx2
    have hr2 := Lib.hid (Rk.chg hr1.out hch hneg.out)
    have hb2 := Lib.hid (hch.from_ hb1.out hlow.out hd1.out.lw)
    have hd2' := Lib.hid (hd2.more hd2.bounds.2.2 (Nat.le_refl _))
    clear hch hd2
    go_wp2_with fail
    refine (rsync_any gr _ _ _ (lf_bd s hok.out) (by rw [(tl_len s hok.out).2.2]; exact hok.out.len) _ hr2.out).mono ?_
    rintro e w2 ⟨hs1, hs2, hu⟩
    obtain ⟨rfl, hr3⟩ := sync_rk s hok.out hs1 hs2
    have hd3 := Lib.hid (Dk.updG hd2'.out (s' := s) hr2.out hu)
    have hb3 := Lib.hid (Upd.to_below hb2.out hu (Nat.le_trans hlow.out hd2'.out.lw) (fun k hk => by have := hlow.out; have := hgrl.out; omega))
    replace hr3 : Hid (RkS w2 gr (s.sync.2)) := Lib.hid (hr3)
    replace hu := Lib.hid hu
    go_wp2
    go_ret
    exact ⟨rfl, s.sync.2, hd3.out.more hd3.out.bounds.2.2 (Nat.le_refl _), hr3.out, hb3.out, hlow.out, hgrl.out⟩
set_option maxHeartbeats 4000000 in
set_option maxRecDepth 10000 in
theorem does_wipe (w0 : World) (lo g gr : Nat) (s : DS) (d : UInt8) (z : Int) (hz : -9223372036854775808 ≤ z ∧ z ≤ 9223372036854775807) (hm : d.toNat % 12 = 2 ∧ z.tmod 4 = 0) (A : Option Addr) (n c : Nat) (l : List UInt8) (hn : l.length = n) (hnm : n ≤ 140737488355328) (w : World) (hra : Rd w lo A l) (h : Both w0 w lo g gr s) :
    Calls Try.prog 31 #[.pointer (some ⟨g, 0, none⟩), .pointer (some ⟨gr, 0, none⟩), .agg #[.int .u8 (U d), .int .i64 z, .slice A n c]] w fun e w' => e = .returned (.bool true) ∧ ∃ s', Both w0 w' lo g gr s' := by
  have hgr := (Array.getElem?_eq_some_iff.1 h.rk).1
  have hlow := Lib.hid h.low
  have hgrl := Lib.hid h.grl
  have hneg := Lib.hid (h.rk.ne h.dk)
  have hlw := Lib.hid h.dk.lw
  have hgs : g < w.heap.size := h.dk.bounds.2.1
  have hgl := Lib.hid h.dk.bounds.1
  obtain ⟨wa, hwa⟩ : ∃ wa, w.alloc (.cells #[.int .u8 (U d), .int .i64 z, .slice A n c] 59) = wa := ⟨_, rfl⟩
  have hba : Below w.heap.size w wa := by rw [← hwa]; exact (Below.refl _ _).alloc (Nat.le_refl _) _
  have hd1 := Lib.hid (h.dk.below hba)
  have hr1 : Hid (RkS wa gr s) := Lib.hid (Rk.below h.rk hba hgr)
  have hb1 := Lib.hid (h.below.trans (hba.mono h.below.size))
  have hok := Lib.hid h.dk.ok
  have hra1 := Lib.hid (hra.below (hba.mono hlw.out))
  have hx : wa.heap[w.heap.size]? = some (.cells #[.int .u8 (U d), .int .i64 z, .slice A n c] 59 (0, 0)) := by rw [← hwa]; exact heap_alloc_new w _
  obtain ⟨bx, hbx⟩ : ∃ bx, bx = w.heap.size := ⟨_, rfl⟩
  rw [← hbx] at hx hgr hgs
  have c0 := blk_cell hx (j := 0) rfl
  have c1 := blk_cell hx (j := 1) (v := .int .i64 z) rfl
  have c2 := blk_cell hx (j := 2) (v := .slice A n c) rfl
  replace c0 : wa.cell? ⟨bx, 0, none⟩ = some (.int .u8 (U d)) := c0
  replace hx := Lib.hid hx
  have hxg : Hid (bx ≠ g) := Lib.hid (by omega)
  have hxr : Hid (¬ bx = gr) := Lib.hid (by omega)
  have hbx' : w.heap.size = bx := hbx.symm
  clear hbx
  replace hba := Lib.hid hba
  replace h := Lib.hid h
  have hq : (U d).tmod 12 = 2 := by rw [Int.tmod_eq_emod_of_nonneg (U_lo d)]; unfold U; omega
  have hz4 : z.tmod 4 = 0 := hm.2
  all_goals
    go_enter Try.func31, Try.ntmps31
    go_wp2_with fail
    refine (wipe_any lo _ g s _ hd1.out).mono ?_
    rintro e w1 ⟨rfl, hd2, hch⟩
    have hx2 := hch.block hx.out hxg.out (by decide)
    have e1 := blk_cell hx2 (j := 1) (v := .int .i64 z) rfl
    replace hx2 := Lib.hid hx2
    have hr2 := Lib.hid (Rk.chg hr1.out hch hneg.out)
    have hb2 := Lib.hid (hch.from_ hb1.out hlow.out hd1.out.lw)
    have hd2' := Lib.hid (hd2.more hd2.bounds.2.2 (Nat.le_refl _))
    clear hch hd2
    go_wp2_with fail
    refine (rwipe_any gr _ _ _ _ hr2.out).mono ?_
    rintro e w2 ⟨rfl, hr3, hu⟩
    have hd3 := Lib.hid (Dk.updG hd2'.out (s' := s) hr2.out hu)
    have hb3 := Lib.hid (Upd.to_below hb2.out hu (Nat.le_trans hlow.out hd2'.out.lw) (fun k hk => by have := hlow.out; have := hgrl.out; omega))
    replace hr3 : Hid (RkS w2 gr (DS.wipe)) := Lib.hid (hr3)
    replace hu := Lib.hid hu
    go_wp2
    go_ret
    exact ⟨rfl, DS.wipe, hd3.out.more hd3.out.bounds.2.2 (Nat.le_refl _), hr3.out, hb3.out, hlow.out, hgrl.out⟩
set_option maxHeartbeats 4000000 in
set_option maxRecDepth 10000 in
theorem does_nowipe (w0 : World) (lo g gr : Nat) (s : DS) (d : UInt8) (z : Int) (hz : -9223372036854775808 ≤ z ∧ z ≤ 9223372036854775807) (hm : d.toNat % 12 = 2 ∧ ¬ z.tmod 4 = 0) (A : Option Addr) (n c : Nat) (l : List UInt8) (hn : l.length = n) (hnm : n ≤ 140737488355328) (w : World) (hra : Rd w lo A l) (h : Both w0 w lo g gr s) :
    Calls Try.prog 31 #[.pointer (some ⟨g, 0, none⟩), .pointer (some ⟨gr, 0, none⟩), .agg #[.int .u8 (U d), .int .i64 z, .slice A n c]] w fun e w' => e = .returned (.bool true) ∧ ∃ s', Both w0 w' lo g gr s' := by
  have hgr := (Array.getElem?_eq_some_iff.1 h.rk).1
  have hlow := Lib.hid h.low
  have hgrl := Lib.hid h.grl
  have hneg := Lib.hid (h.rk.ne h.dk)
  have hlw := Lib.hid h.dk.lw
  have hgs : g < w.heap.size := h.dk.bounds.2.1
  have hgl := Lib.hid h.dk.bounds.1
  obtain ⟨wa, hwa⟩ : ∃ wa, w.alloc (.cells #[.int .u8 (U d), .int .i64 z, .slice A n c] 59) = wa := ⟨_, rfl⟩
  have hba : Below w.heap.size w wa := by rw [← hwa]; exact (Below.refl _ _).alloc (Nat.le_refl _) _
  have hd1 := Lib.hid (h.dk.below hba)
  have hr1 : Hid (RkS wa gr s) := Lib.hid (Rk.below h.rk hba hgr)
  have hb1 := Lib.hid (h.below.trans (hba.mono h.below.size))
  have hok := Lib.hid h.dk.ok
  have hra1 := Lib.hid (hra.below (hba.mono hlw.out))
  have hx : wa.heap[w.heap.size]? = some (.cells #[.int .u8 (U d), .int .i64 z, .slice A n c] 59 (0, 0)) := by rw [← hwa]; exact heap_alloc_new w _
  obtain ⟨bx, hbx⟩ : ∃ bx, bx = w.heap.size := ⟨_, rfl⟩
  rw [← hbx] at hx hgr hgs
  have c0 := blk_cell hx (j := 0) rfl
  have c1 := blk_cell hx (j := 1) (v := .int .i64 z) rfl
  have c2 := blk_cell hx (j := 2) (v := .slice A n c) rfl
  replace c0 : wa.cell? ⟨bx, 0, none⟩ = some (.int .u8 (U d)) := c0
  replace hx := Lib.hid hx
  have hxg : Hid (bx ≠ g) := Lib.hid (by omega)
  have hxr : Hid (¬ bx = gr) := Lib.hid (by omega)
  have hbx' : w.heap.size = bx := hbx.symm
  clear hbx
  replace hba := Lib.hid hba
  replace h := Lib.hid h
  have hq : (U d).tmod 12 = 2 := by rw [Int.tmod_eq_emod_of_nonneg (U_lo d)]; unfold U; omega
  have hz4 : (z.tmod 4 == 0) = false := beq_eq_false_iff_ne.mpr hm.2
  all_goals
    go_enter Try.func31, Try.ntmps31
    go_wp2_with fail
    go_ret
    exact ⟨rfl, s, hd1.out.more (Nat.le_trans hd1.out.bounds.2.2 (Nat.le_refl _)) (Nat.le_refl _), hr1.out, hb1.out, hlow.out, hgrl.out⟩
set_option maxHeartbeats 4000000 in
set_option maxRecDepth 10000 in
theorem does_swap (w0 : World) (lo g gr : Nat) (s : DS) (d : UInt8) (z : Int) (hz : -9223372036854775808 ≤ z ∧ z ≤ 9223372036854775807) (hm : d.toNat % 12 = 3) (A : Option Addr) (n c : Nat) (l : List UInt8) (hn : l.length = n) (hnm : n ≤ 140737488355328) (w : World) (hra : Rd w lo A l) (h : Both w0 w lo g gr s) :
    Calls Try.prog 31 #[.pointer (some ⟨g, 0, none⟩), .pointer (some ⟨gr, 0, none⟩), .agg #[.int .u8 (U d), .int .i64 z, .slice A n c]] w fun e w' => e = .returned (.bool true) ∧ ∃ s', Both w0 w' lo g gr s' := by
  have hgr := (Array.getElem?_eq_some_iff.1 h.rk).1
  have hlow := Lib.hid h.low
  have hgrl := Lib.hid h.grl
  have hneg := Lib.hid (h.rk.ne h.dk)
  have hlw := Lib.hid h.dk.lw
  have hgs : g < w.heap.size := h.dk.bounds.2.1
  have hgl := Lib.hid h.dk.bounds.1
  obtain ⟨wa, hwa⟩ : ∃ wa, w.alloc (.cells #[.int .u8 (U d), .int .i64 z, .slice A n c] 59) = wa := ⟨_, rfl⟩
  have hba : Below w.heap.size w wa := by rw [← hwa]; exact (Below.refl _ _).alloc (Nat.le_refl _) _
  have hd1 := Lib.hid (h.dk.below hba)
  have hr1 : Hid (RkS wa gr s) := Lib.hid (Rk.below h.rk hba hgr)
  have hb1 := Lib.hid (h.below.trans (hba.mono h.below.size))
  have hok := Lib.hid h.dk.ok
  have hra1 := Lib.hid (hra.below (hba.mono hlw.out))
  have hnegr : Hid (∀ ad, A = some ad → 0 < l.length → ¬ ad.block = gr) := Lib.hid (fun ad e h0 => by
    obtain ⟨ad', e', hlt, -⟩ := hra.2 h0
    rw [e] at e'
    injection e' with e'
    subst e'
    have := h.grl
    omega)
  replace hn := Lib.hid hn
  have hx : wa.heap[w.heap.size]? = some (.cells #[.int .u8 (U d), .int .i64 z, .slice A n c] 59 (0, 0)) := by rw [← hwa]; exact heap_alloc_new w _
  obtain ⟨bx, hbx⟩ : ∃ bx, bx = w.heap.size := ⟨_, rfl⟩
  rw [← hbx] at hx hgr hgs
  have c0 := blk_cell hx (j := 0) rfl
  have c1 := blk_cell hx (j := 1) (v := .int .i64 z) rfl
  have c2 := blk_cell hx (j := 2) (v := .slice A n c) rfl
  replace c0 : wa.cell? ⟨bx, 0, none⟩ = some (.int .u8 (U d)) := c0
  replace hx := Lib.hid hx
  have hxg : Hid (bx ≠ g) := Lib.hid (by omega)
  have hxr : Hid (¬ bx = gr) := Lib.hid (by omega)
  have hbx' : w.heap.size = bx := hbx.symm
  clear hbx
  replace hba := Lib.hid hba
  replace h := Lib.hid h
  have hq : (U d).tmod 12 = 3 := by rw [Int.tmod_eq_emod_of_nonneg (U_lo d)]; unfold U; omega
  all_goals
    go_enter Try.func31, Try.ntmps31
    go_wp2_with fail
    have hdd : Hid (Dk wa.drew lo w.heap.size g s) := hd1
    have hraw : Hid (Rd wa.drew wa.drew.heap.size A l) := Lib.hid (hra1.out.more hd1.out.lw)
    have hxd : Hid (wa.drew.heap[bx]? = some (.cells #[.int .u8 (U d), .int .i64 z, .slice A n c] 59 (0, 0))) := hx
    have hbs : Hid (bx < wa.drew.heap.size) := Lib.hid (blk_lt hx.out)
    refine wpR_region (Upd (· ≠ bx)) 9999 (by kernel_rfl) ?_
    refine wpR_take (i := 0) (v := ?_) (Upd.road _) (some 51) rfl (by kernel_rfl) (by kernel_rfl) (by kernel_rfl) (by kernel_rfl) (by kernel_rfl) (fun _ _ _ h => h) (by kernel_rfl) (fun w' hw' => ?_) ?_
    rotate_left
    · go_simp; with_reducible rfl
    simp only [Act.put, List.setIfInBounds_toArray, List.set_cons_zero, List.set_cons_succ]
    refine wpR_take (i := 1) (v := ?_) (Upd.road _) (some 52) rfl (by kernel_rfl) (by kernel_rfl) (by kernel_rfl) (by kernel_rfl) (by kernel_rfl) (fun _ _ _ h => h) (by kernel_rfl) (fun w' hw' => ?_) ?_
    rotate_left
    · go_simp; with_reducible rfl
    simp only [Act.put, List.setIfInBounds_toArray, List.set_cons_zero, List.set_cons_succ]
    refine wpR_take (i := 2) (v := ?_) (Upd.road _) (some 53) rfl (by kernel_rfl) (by kernel_rfl) (by kernel_rfl) (by kernel_rfl) (by kernel_rfl) (fun _ _ _ h => h) (by kernel_rfl) (fun w' hw' => ?_) ?_
    rotate_left
    · have c2' := (hw'.cell (p := ⟨bx, 2, none⟩) hbs.out (fun h => h rfl)).trans c2; go_simp; with_reducible rfl
    simp only [Act.put, List.setIfInBounds_toArray, List.set_cons_zero, List.set_cons_succ]
    refine wpR_take (i := 4) (v := ?_) (Upd.road _) (some 55) rfl (by kernel_rfl) (by kernel_rfl) (by kernel_rfl) (by kernel_rfl) (by kernel_rfl) (fun _ _ _ h => h) (by kernel_rfl) (fun w' hw' => ?_) ?_
    rotate_left
    · go_simp; with_reducible rfl
    simp only [Act.put, List.setIfInBounds_toArray, List.set_cons_zero, List.set_cons_succ]
    refine wpR_take (i := 5) (v := ?_) (Upd.road _) (some 56) rfl (by kernel_rfl) (by kernel_rfl) (by kernel_rfl) (by kernel_rfl) (by kernel_rfl) (fun _ _ _ h => h) (by kernel_rfl) (fun w' hw' => ?_) ?_
    rotate_left
    · go_simp; with_reducible rfl
    simp only [Act.put, List.setIfInBounds_toArray, List.set_cons_zero, List.set_cons_succ]
    refine wpR_take (i := 6) (v := ?_) (Upd.road _) (some 57) rfl (by kernel_rfl) (by kernel_rfl) (by kernel_rfl) (by kernel_rfl) (by kernel_rfl) (fun _ _ _ h => h) (by kernel_rfl) (fun w' hw' => ?_) ?_
    rotate_left
    · have c2' := (hw'.cell (p := ⟨bx, 2, none⟩) hbs.out (fun h => h rfl)).trans c2; go_simp; with_reducible rfl
    simp only [Act.put, List.setIfInBounds_toArray, List.set_cons_zero, List.set_cons_succ]
    refine wpR_one 3 rfl (by kernel_rfl) (by kernel_rfl) (fun K hK => ?_)
    go_simp
    refine (swap_any lo _ g s A n c l hn.out hnm _ hdd.out hraw.out).mono ?_
    rintro e w1 ⟨rfl, hd2, hch⟩
    refine hK _ _ (fun _ => chg_only hch hxd.out hxg.out (by decide)) ?_
    clear hK K
    have hr2 := Lib.hid (Rk.chg hr1.out hch hneg.out)
    have hb2 := Lib.hid (hch.from_ hb1.out.drew hlow.out hd1.out.lw)
    have hraw2 := Lib.hid ((((show Rd wa.drew lo A l from hra1.out)).below (hch.below (Nat.le_trans hd1.out.lw (Nat.le_refl _)))).more (Nat.le_trans hd1.out.lw hch.size))
    have hd2' := Lib.hid hd2
    have hxd2 := Lib.hid (hch.block hxd.out hxg.out (by decide))
    clear hch hd2
    try simp only [Act.put, List.setIfInBounds_toArray, List.set_cons_zero, List.set_cons_succ]
    refine wpR_one 7 rfl (by kernel_rfl) (by kernel_rfl) (fun K hK => ?_)
    go_simp
    refine (rswap_any gr _ _ _ (lf_bd s hok.out) A n c l hn.out hnm _ hr2.out hraw2.out hnegr.out).mono ?_
    rintro e w2 ⟨hs0, hs1, hs2, hu⟩
    obtain ⟨rfl, hr3⟩ := swap_rk s hok.out hn.out hs0 hs1 hs2
    refine hK _ _ (fun _ => updg_only hu hxr.out) ?_
    clear hK K
    have hd3 := Lib.hid (Dk.updG hd2'.out (s' := s) hr2.out hu)
    have hb3 := Lib.hid (Upd.to_below hb2.out hu (Nat.le_trans hlow.out hd2'.out.lw) (fun k hk => by have := hlow.out; have := hgrl.out; omega))
    replace hr3 := Lib.hid hr3
    clear hs0 hs1 hs2 hu
    try simp only [Act.put, List.setIfInBounds_toArray, List.set_cons_zero, List.set_cons_succ]
    refine wpR_take (i := 8) (v := ?_) (Upd.road _) (some 59) rfl (by kernel_rfl) (by kernel_rfl) (by kernel_rfl) (by kernel_rfl) (by kernel_rfl) (fun _ _ _ h => h) (by kernel_rfl) (fun w' hw' => ?_) ?_
    rotate_left
    · go_simp; with_reducible rfl
    simp only [Act.put, List.setIfInBounds_toArray, List.set_cons_zero, List.set_cons_succ]
    refine wpR_take (i := 9) (v := ?_) (Upd.road _) (some 6) rfl (by kernel_rfl) (by kernel_rfl) (by kernel_rfl) (by kernel_rfl) (by kernel_rfl) (fun _ _ _ h => h) (by kernel_rfl) (fun w' hw' => ?_) ?_
    rotate_left
    · go_simp; with_reducible rfl
    simp only [Act.put, List.setIfInBounds_toArray, List.set_cons_zero, List.set_cons_succ]
    refine wpR_done (by kernel_rfl) ?_ _
    go_wp2_with fail
    go_ret
    exact ⟨rfl, (s.swap l).2, hd3.out.more hd3.out.bounds.2.2 (Nat.le_refl _), hr3.out, hb3.out, hlow.out, hgrl.out⟩
set_option maxHeartbeats 4000000 in
set_option maxRecDepth 10000 in
theorem does_append (w0 : World) (lo g gr : Nat) (s : DS) (d : UInt8) (z : Int) (hz : -9223372036854775808 ≤ z ∧ z ≤ 9223372036854775807) (hm : 7 ≤ d.toNat % 12) (A : Option Addr) (n c : Nat) (l : List UInt8) (hn : l.length = n) (hnm : n ≤ 140737488355328) (w : World) (hra : Rd w lo A l) (h : Both w0 w lo g gr s) :
    Calls Try.prog 31 #[.pointer (some ⟨g, 0, none⟩), .pointer (some ⟨gr, 0, none⟩), .agg #[.int .u8 (U d), .int .i64 z, .slice A n c]] w fun e w' => e = .returned (.bool true) ∧ ∃ s', Both w0 w' lo g gr s' := by
  have hgr := (Array.getElem?_eq_some_iff.1 h.rk).1
  have hlow := Lib.hid h.low
  have hgrl := Lib.hid h.grl
  have hneg := Lib.hid (h.rk.ne h.dk)
  have hlw := Lib.hid h.dk.lw
  have hgs : g < w.heap.size := h.dk.bounds.2.1
  have hgl := Lib.hid h.dk.bounds.1
  obtain ⟨wa, hwa⟩ : ∃ wa, w.alloc (.cells #[.int .u8 (U d), .int .i64 z, .slice A n c] 59) = wa := ⟨_, rfl⟩
  have hba : Below w.heap.size w wa := by rw [← hwa]; exact (Below.refl _ _).alloc (Nat.le_refl _) _
  have hd1 := Lib.hid (h.dk.below hba)
  have hr1 : Hid (RkS wa gr s) := Lib.hid (Rk.below h.rk hba hgr)
  have hb1 := Lib.hid (h.below.trans (hba.mono h.below.size))
  have hok := Lib.hid h.dk.ok
  have hra1 := Lib.hid (hra.below (hba.mono hlw.out))
  have hnegr : Hid (∀ ad, A = some ad → 0 < l.length → ¬ ad.block = gr) := Lib.hid (fun ad e h0 => by
    obtain ⟨ad', e', hlt, -⟩ := hra.2 h0
    rw [e] at e'
    injection e' with e'
    subst e'
    have := h.grl
    omega)
  replace hn := Lib.hid hn
  have hx : wa.heap[w.heap.size]? = some (.cells #[.int .u8 (U d), .int .i64 z, .slice A n c] 59 (0, 0)) := by rw [← hwa]; exact heap_alloc_new w _
  obtain ⟨bx, hbx⟩ : ∃ bx, bx = w.heap.size := ⟨_, rfl⟩
  rw [← hbx] at hx hgr hgs
  have c0 := blk_cell hx (j := 0) rfl
  have c1 := blk_cell hx (j := 1) (v := .int .i64 z) rfl
  have c2 := blk_cell hx (j := 2) (v := .slice A n c) rfl
  replace c0 : wa.cell? ⟨bx, 0, none⟩ = some (.int .u8 (U d)) := c0
  replace hx := Lib.hid hx
  have hxg : Hid (bx ≠ g) := Lib.hid (by omega)
  have hxr : Hid (¬ bx = gr) := Lib.hid (by omega)
  have hbx' : w.heap.size = bx := hbx.symm
  clear hbx
  replace hba := Lib.hid hba
  replace h := Lib.hid h
  have hq : (U d).tmod 12 = 7 ∨ (U d).tmod 12 = 8 ∨ (U d).tmod 12 = 9 ∨ (U d).tmod 12 = 10 ∨ (U d).tmod 12 = 11 := by rw [Int.tmod_eq_emod_of_nonneg (U_lo d)]; unfold U; omega
  rcases hq with hq | hq | hq | hq | hq
  all_goals
    go_enter Try.func31, Try.ntmps31
    go_wp2_with fail
    have hdd : Hid (Dk wa.drew lo w.heap.size g s) := hd1
    have hraw : Hid (Rd wa.drew wa.drew.heap.size A l) := Lib.hid (hra1.out.more hd1.out.lw)
    have hxd : Hid (wa.drew.heap[bx]? = some (.cells #[.int .u8 (U d), .int .i64 z, .slice A n c] 59 (0, 0))) := hx
    have hbs : Hid (bx < wa.drew.heap.size) := Lib.hid (blk_lt hx.out)
    refine wpR_region (Upd (· ≠ bx)) 9999 (by kernel_rfl) ?_
    refine wpR_take (i := 0) (v := ?_) (Upd.road _) (some 10) rfl (by kernel_rfl) (by kernel_rfl) (by kernel_rfl) (by kernel_rfl) (by kernel_rfl) (fun _ _ _ h => h) (by kernel_rfl) (fun w' hw' => ?_) ?_
    rotate_left
    · go_simp; with_reducible rfl
    simp only [Act.put, List.setIfInBounds_toArray, List.set_cons_zero, List.set_cons_succ]
    refine wpR_take (i := 1) (v := ?_) (Upd.road _) (some 11) rfl (by kernel_rfl) (by kernel_rfl) (by kernel_rfl) (by kernel_rfl) (by kernel_rfl) (fun _ _ _ h => h) (by kernel_rfl) (fun w' hw' => ?_) ?_
    rotate_left
    · go_simp; with_reducible rfl
    simp only [Act.put, List.setIfInBounds_toArray, List.set_cons_zero, List.set_cons_succ]
    refine wpR_take (i := 2) (v := ?_) (Upd.road _) (some 12) rfl (by kernel_rfl) (by kernel_rfl) (by kernel_rfl) (by kernel_rfl) (by kernel_rfl) (fun _ _ _ h => h) (by kernel_rfl) (fun w' hw' => ?_) ?_
    rotate_left
    · have c2' := (hw'.cell (p := ⟨bx, 2, none⟩) hbs.out (fun h => h rfl)).trans c2; go_simp; with_reducible rfl
    simp only [Act.put, List.setIfInBounds_toArray, List.set_cons_zero, List.set_cons_succ]
    refine wpR_take (i := 4) (v := ?_) (Upd.road _) (some 14) rfl (by kernel_rfl) (by kernel_rfl) (by kernel_rfl) (by kernel_rfl) (by kernel_rfl) (fun _ _ _ h => h) (by kernel_rfl) (fun w' hw' => ?_) ?_
    rotate_left
    · go_simp; with_reducible rfl
    simp only [Act.put, List.setIfInBounds_toArray, List.set_cons_zero, List.set_cons_succ]
    refine wpR_take (i := 5) (v := ?_) (Upd.road _) (some 15) rfl (by kernel_rfl) (by kernel_rfl) (by kernel_rfl) (by kernel_rfl) (by kernel_rfl) (fun _ _ _ h => h) (by kernel_rfl) (fun w' hw' => ?_) ?_
    rotate_left
    · go_simp; with_reducible rfl
    simp only [Act.put, List.setIfInBounds_toArray, List.set_cons_zero, List.set_cons_succ]
    refine wpR_take (i := 6) (v := ?_) (Upd.road _) (some 16) rfl (by kernel_rfl) (by kernel_rfl) (by kernel_rfl) (by kernel_rfl) (by kernel_rfl) (fun _ _ _ h => h) (by kernel_rfl) (fun w' hw' => ?_) ?_
    rotate_left
    · have c2' := (hw'.cell (p := ⟨bx, 2, none⟩) hbs.out (fun h => h rfl)).trans c2; go_simp; with_reducible rfl
    simp only [Act.put, List.setIfInBounds_toArray, List.set_cons_zero, List.set_cons_succ]
    refine wpR_one 3 rfl (by kernel_rfl) (by kernel_rfl) (fun K hK => ?_)
    go_simp
    refine (append_any lo _ g s A n c l hn.out hnm _ hdd.out hraw.out).mono ?_
    rintro e w1 ⟨rfl, hd2, hch⟩
    refine hK _ _ (fun _ => chg_only hch hxd.out hxg.out (by decide)) ?_
    clear hK K
    have hr2 := Lib.hid (Rk.chg hr1.out hch hneg.out)
    have hb2 := Lib.hid (hch.from_ hb1.out.drew hlow.out hd1.out.lw)
    have hraw2 := Lib.hid ((((show Rd wa.drew lo A l from hra1.out)).below (hch.below (Nat.le_trans hd1.out.lw (Nat.le_refl _)))).more (Nat.le_trans hd1.out.lw hch.size))
    have hd2' := Lib.hid hd2
    have hxd2 := Lib.hid (hch.block hxd.out hxg.out (by decide))
    clear hch hd2
    try simp only [Act.put, List.setIfInBounds_toArray, List.set_cons_zero, List.set_cons_succ]
    refine wpR_one 7 rfl (by kernel_rfl) (by kernel_rfl) (fun K hK => ?_)
    go_simp
    refine (rappend_any gr _ _ _ (lf_bd s hok.out) (by rw [(tl_len s hok.out).2.2]; exact hok.out.len) A n c l hn.out hnm _ hr2.out hraw2.out hnegr.out).mono ?_
    rintro e w2 ⟨hs0, hs1, hs2, hu⟩
    obtain ⟨rfl, hr3⟩ := append_rk s hok.out hn.out hs0 hs1 hs2
    refine hK _ _ (fun _ => updg_only hu hxr.out) ?_
    clear hK K
    have hd3 := Lib.hid (Dk.updG hd2'.out (s' := s) hr2.out hu)
    have hb3 := Lib.hid (Upd.to_below hb2.out hu (Nat.le_trans hlow.out hd2'.out.lw) (fun k hk => by have := hlow.out; have := hgrl.out; omega))
    replace hr3 := Lib.hid hr3
    clear hs0 hs1 hs2 hu
    try simp only [Act.put, List.setIfInBounds_toArray, List.set_cons_zero, List.set_cons_succ]
    refine wpR_take (i := 8) (v := ?_) (Upd.road _) (some 18) rfl (by kernel_rfl) (by kernel_rfl) (by kernel_rfl) (by kernel_rfl) (by kernel_rfl) (fun _ _ _ h => h) (by kernel_rfl) (fun w' hw' => ?_) ?_
    rotate_left
    · go_simp; with_reducible rfl
    simp only [Act.put, List.setIfInBounds_toArray, List.set_cons_zero, List.set_cons_succ]
    refine wpR_take (i := 9) (v := ?_) (Upd.road _) (some 6) rfl (by kernel_rfl) (by kernel_rfl) (by kernel_rfl) (by kernel_rfl) (by kernel_rfl) (fun _ _ _ h => h) (by kernel_rfl) (fun w' hw' => ?_) ?_
    rotate_left
    · go_simp; with_reducible rfl
    simp only [Act.put, List.setIfInBounds_toArray, List.set_cons_zero, List.set_cons_succ]
    refine wpR_done (by kernel_rfl) ?_ _
    go_wp2_with fail
    go_ret
    exact ⟨rfl, (s.append l).2, hd3.out.more hd3.out.bounds.2.2 (Nat.le_refl _), hr3.out, hb3.out, hlow.out, hgrl.out⟩
end Go.Proofs.Ytppclmidnomkjaa
