/- The reference disk: its state, what its methods come to. -/
import Derived.Test.YtgdbbjijneidaaaJr9
import Derived.Deep.QuietTactic
import Derived.BigQuiet
namespace Go.Proofs.Ytgdbbjijneidaaa
set_option linter.unusedVariables false
set_option linter.unusedSimpArgs false
open Go Go.RowKit

@[go_sem] theorem bs_app (a b : List UInt8) : bs a ++ bs b = bs (a ++ b) := by
  unfold bs
  apply ByteArray.ext
  simp
@[go_sem] theorem bs_take (l : List UInt8) (k : Nat) : (bs l).extract 0 k = bs (l.take k) := by
  unfold bs
  apply ByteArray.ext
  simp
theorem bs_nil : (Value.string { data := #[] }) = .string (bs []) := rfl
def Rk (w : World) (g : Nat) (su mo : List UInt8) (lf : Int) : Prop := w.heap[g]? = some (.cells #[.string (bs su), .string (bs mo), .int .i64 lf] 70 (0, 0))
def stepL (lf : Int) : Bool × Int := if lf = 0 then (false, 0) else if 0 < lf then (true, lf - 1) else (true, lf)
theorem Rk.cells {w : World} {g : Nat} {su mo : List UInt8} {lf : Int} (h : Rk w g su mo lf) : w.cell? ⟨g, 0, none⟩ = some (.string (bs su)) ∧ w.cell? ⟨g, 1, none⟩ = some (.string (bs mo)) ∧ w.cell? ⟨g, 2, none⟩ = some (.int .i64 lf) ∧ (∀ j, w.frozen? ⟨g, j, none⟩ = false) :=
  ⟨blk_cell h rfl, blk_cell h rfl, blk_cell h rfl, fun j => blk_free h j⟩
theorem Rk.upd {w w' : World} {g : Nat} {su mo : List UInt8} {lf : Int} {S : Nat → Prop} (h : Rk w g su mo lf) (hu : Upd S w w') (hS : ¬ S g) : Rk w' g su mo lf := (hu.2.2.2.2 g (blk_lt h) hS).trans h
theorem Rk.chg {w w' : World} {g lo gd : Nat} {su mo : List UInt8} {lf : Int} (h : Rk w g su mo lf) (hu : Chg lo gd w w') (hg : g ≠ gd) : Rk w' g su mo lf := hu.block h hg (by decide)
theorem Rk.below {w w' : World} {g B : Nat} {su mo : List UInt8} {lf : Int} (h : Rk w g su mo lf) (hb : Below B w w') (hg : g < B) : Rk w' g su mo lf := (hb.block g hg).trans h
def UpdG (g : Nat) (w w' : World) : Prop := Upd (· = g) w w'
theorem UpdG.set (w : World) (g j : Nat) (u : Value) : UpdG g w (w.setCell ⟨g, j, none⟩ u) := Upd.of_grown (S := (· = g)) (blk_grown _ _ _ _) rfl
set_option maxRecDepth 10000 in
theorem rnew_any (w : World) :
    Calls Try.prog 27 #[] w fun e w' => e = .returned (.pointer (some ⟨w.heap.size, 0, none⟩)) ∧ Rk w' w.heap.size [] [] (-1) ∧ w.heap.size < w'.heap.size ∧ Below w.heap.size w w' := by
  go_enter Try.func27, Try.ntmps27
  go_wp2
  go_ret
  exact ⟨rfl, heap_alloc_new w _, by simp, (Below.refl _ _).alloc (Nat.le_refl _) _⟩
set_option maxRecDepth 10000 in
theorem step_any (g : Nat) (su mo : List UInt8) (lf : Int) (hlf : -1 ≤ lf ∧ lf ≤ 9223372036854775807) (w : World) (h : Rk w g su mo lf) :
    Calls Try.prog 60 #[.pointer (some ⟨g, 0, none⟩)] w fun e w' => e = .returned (.bool (stepL lf).1) ∧ Rk w' g su mo (stepL lf).2 ∧ UpdG g w w' := by
  obtain ⟨h0, h1, h2, hf⟩ := h.cells
  have f2 := hf 2
  clear hf
  unfold stepL
  by_cases hz : lf = 0
  · subst hz
    rw [if_pos rfl]
    replace h := Lib.hid h
    go_enter Try.func60, Try.ntmps60
    go_wp2
    go_ret
    exact ⟨rfl, h.out, Upd.refl _ _⟩
  · rw [if_neg hz]
    have hd : (lf == 0) = false := beq_eq_false_iff_ne.mpr hz
    by_cases hp : 0 < lf
    · rw [if_pos hp]
      have hl1 : 0 ≤ lf - 1 := by omega
      have hs := Lib.hid (blk_set h 2 (.int .i64 (lf - 1)))
      replace h := Lib.hid h
      clear hz
      go_enter Try.func60, Try.ntmps60
      go_wp2
      go_ret
      exact ⟨rfl, hs.out, UpdG.set _ _ _ _⟩
    · rw [if_neg hp]
      have hl1 : lf ≤ 0 := by omega
      replace h := Lib.hid h
      clear hz hp
      go_enter Try.func60, Try.ntmps60
      go_wp2
      go_ret
      exact ⟨rfl, h.out, Upd.refl _ _⟩
set_option maxHeartbeats 1000000 in
set_option maxRecDepth 10000 in
theorem rappend_any (g : Nat) (su mo : List UInt8) (lf : Int) (hlf : -1 ≤ lf ∧ lf ≤ 9223372036854775807) (hlen : su.length + mo.length ≤ 262144) (A : Option Addr) (n c : Nat) (b : List UInt8) (hn : b.length = n) (hnm : n ≤ 140737488355328) (w : World) (h : Rk w g su mo lf) (hr : Rd w w.heap.size A b) (hne : ∀ ad, A = some ad → 0 < b.length → ¬ ad.block = g) :
    Calls Try.prog 29 #[.pointer (some ⟨g, 0, none⟩), .slice A n c] w fun e w' =>
      (262144 < su.length + mo.length + n → e = .returned (.int .i64 16) ∧ Rk w' g su mo lf) ∧ (su.length + mo.length + n ≤ 262144 → (stepL lf).1 = false → e = .returned (.int .i64 11) ∧ Rk w' g su mo (stepL lf).2) ∧
      (su.length + mo.length + n ≤ 262144 → (stepL lf).1 = true → e = .returned (.int .i64 0) ∧ Rk w' g su (mo ++ b) (stepL lf).2) ∧ UpdG g w w' := by
  obtain ⟨h0, h1, h2, hf⟩ := h.cells
  have hst := Lib.hid (step_any g su mo lf hlf w h)
  have hl1 : su.length ≤ 262144 := by omega
  have hl2 : mo.length ≤ 262144 := by omega
  have hlen' : (su.length : Int) + mo.length ≤ 262144 := by omega
  replace h := Lib.hid h
  replace hr := Lib.hid hr
  replace hn := Lib.hid hn
  replace hne := Lib.hid hne
  replace hf := Lib.hid hf
  by_cases hov : 262144 < su.length + mo.length + n
  · have hP : Hid ((262144 < su.length + mo.length + n → (Ending.returned (.int .i64 16)) = .returned (.int .i64 16) ∧ Rk w g su mo lf)) := Lib.hid (fun _ => ⟨rfl, h.out⟩)
    by_cases hbig : 262144 < n
    · have hd : decide (262144 < (n : Int)) = true := decide_eq_true (by omega)
      have hov2 := Lib.hid hov
      clear hov
      go_enter Try.func29, Try.ntmps29
      go_wp2_with fail
      go_quiet (fail)
      go_wp2
      go_ret
      exact ⟨fun _ => ⟨rfl, h.out⟩, fun hh => absurd hov2.out (by omega), fun hh => absurd hov2.out (by omega), Upd.drewN _ _⟩
    · have hd : decide (262144 < (n : Int)) = false := decide_eq_false (by omega)
      have hd2 : decide (262144 < (su.length : Int) + mo.length + n) = true := decide_eq_true (by omega)
      have hn6 : n ≤ 262144 := by omega
      have hov2 := Lib.hid hov
      clear hov
      have hw1 : IntKind.i64.wrap ((su.length : Int) + mo.length) = (su.length : Int) + mo.length := by rw [IntKind.wrap_i64]; omega
      have hw2 : IntKind.i64.wrap ((su.length : Int) + mo.length + n) = (su.length : Int) + mo.length + n := by rw [IntKind.wrap_i64]; omega
      go_enter Try.func29, Try.ntmps29
      go_wp2_with fail
      go_quiet (fail)
      go_wp2
      go_ret
      exact ⟨fun _ => ⟨rfl, h.out⟩, fun hh => absurd hov2.out (by omega), fun hh => absurd hov2.out (by omega), Upd.drewN _ _⟩
  · have hd : decide (262144 < (n : Int)) = false := decide_eq_false (by omega)
    have hd2 : decide (262144 < (su.length : Int) + mo.length + n) = false := decide_eq_false (by omega)
    have hn6 : n ≤ 262144 := by omega
    have hw1 : IntKind.i64.wrap ((su.length : Int) + mo.length) = (su.length : Int) + mo.length := by rw [IntKind.wrap_i64]; omega
    have hw2 : IntKind.i64.wrap ((su.length : Int) + mo.length + n) = (su.length : Int) + mo.length + n := by rw [IntKind.wrap_i64]; omega
    have hov2 := Lib.hid hov
    clear hov
    go_enter Try.func29, Try.ntmps29
    go_wp2_with fail
    go_quiet (fail)
    go_wp2_with fail
    refine (step_any g su mo lf hlf _ (show Rk (w.drewN nq) g su mo lf from h.out)).mono ?_
    rintro e w1 ⟨rfl, hk1, hu1⟩
    have hu2 : UpdG g w w1 := Upd.trans (Upd.drewN w nq) hu1
    have hr1 := Lib.hid (hr.out.upd hne.out hu2)
    have hcv : (convert 22 9 (.slice A n c)).run Try.prog w1.drew = .ok (.string (bs b)) w1.drew := run_str_at c (show Rd w1.drew w1.drew.heap.size A b from hr1.out) hn.out
    obtain ⟨g0, g1, g2, gf⟩ := hk1.cells
    have f1 := gf 1
    have hbl : b.length ≤ 262144 := by rw [hn.out]; exact hn6
    clear gf h0 h1 h2 hu1 hst
    replace hu2 := Lib.hid hu2
    replace hk1 := Lib.hid hk1
    cases hb : (stepL lf).1 with
    | false =>
      clear hcv
      replace hb := Lib.hid hb
      go_wp2
      go_ret
      exact ⟨fun hh => absurd hh hov2.out, fun _ _ => ⟨rfl, hk1.out⟩, fun _ hh => absurd (hb.out.symm.trans hh) (by decide), hu2.out⟩
    | true =>
      have hset := Lib.hid (blk_set hk1.out 1 (.string (bs (mo ++ b))))
      replace hb := Lib.hid hb
      go_wp2_with fail
      go_region
      go_wp2
      go_ret
      exact ⟨fun hh => absurd hh hov2.out, fun _ hh => absurd (hb.out.symm.trans hh) (by decide), fun _ _ => ⟨rfl, hset.out⟩, Upd.trans hu2.out (Upd.trans (Upd.drewN w1 1) (UpdG.set _ _ _ _))⟩
set_option maxHeartbeats 1000000 in
set_option maxRecDepth 10000 in
theorem rsync_any (g : Nat) (su mo : List UInt8) (lf : Int) (hlf : -1 ≤ lf ∧ lf ≤ 9223372036854775807) (hlen : su.length + mo.length ≤ 262144) (w : World) (h : Rk w g su mo lf) :
    Calls Try.prog 66 #[.pointer (some ⟨g, 0, none⟩)] w fun e w' =>
      ((stepL lf).1 = false → e = .returned (.int .i64 11) ∧ Rk w' g su mo (stepL lf).2) ∧
      ((stepL lf).1 = true → e = .returned (.int .i64 0) ∧ Rk w' g (su ++ mo) [] (stepL lf).2) ∧ UpdG g w w' := by
  have hst := Lib.hid (step_any g su mo lf hlf w h)
  have hl1 : su.length ≤ 262144 := by omega
  have hl2 : mo.length ≤ 262144 := by omega
  have hlen' : (su.length : Int) + mo.length ≤ 262144 := by omega
  replace h := Lib.hid h
  go_enter Try.func66, Try.ntmps66
  go_wp2_with fail
  refine (hst.out).mono ?_
  rintro e w1 ⟨rfl, hk1, hu2⟩
  obtain ⟨g0, g1, g2, gf⟩ := hk1.cells
  have f0 := gf 0
  have f1 := gf 1
  clear gf hst
  replace hu2 := Lib.hid hu2
  replace hk1 := Lib.hid hk1
  cases hb : (stepL lf).1 with
  | false =>
    replace hb := Lib.hid hb
    go_wp2
    go_ret
    exact ⟨fun _ => ⟨rfl, hk1.out⟩, fun hh => absurd (hb.out.symm.trans hh) (by decide), hu2.out⟩
  | true =>
    have hset := Lib.hid (blk_set (blk_set hk1.out 0 (.string (bs (su ++ mo)))) 1 (.string (bs [])))
    replace hb := Lib.hid hb
    go_wp2_with fail
    go_region
    go_wp2
    go_ret
    exact ⟨fun hh => absurd (hb.out.symm.trans hh) (by decide), fun _ => ⟨rfl, hset.out⟩, Upd.trans hu2.out (Upd.trans (Upd.trans (UpdG.set w1 _ _ _) (UpdG.set _ _ _ _)) (Upd.drewN _ 1))⟩
set_option maxHeartbeats 1000000 in
set_option maxRecDepth 10000 in
theorem rswap_any (g : Nat) (su mo : List UInt8) (lf : Int) (hlf : -1 ≤ lf ∧ lf ≤ 9223372036854775807) (A : Option Addr) (n c : Nat) (b : List UInt8) (hn : b.length = n) (hnm : n ≤ 140737488355328) (w : World) (h : Rk w g su mo lf) (hr : Rd w w.heap.size A b) (hne : ∀ ad, A = some ad → 0 < b.length → ¬ ad.block = g) :
    Calls Try.prog 62 #[.pointer (some ⟨g, 0, none⟩), .slice A n c] w fun e w' =>
      (262144 < n → e = .returned (.int .i64 16) ∧ Rk w' g su mo lf) ∧ (n ≤ 262144 → (stepL lf).1 = false → e = .returned (.int .i64 11) ∧ Rk w' g su mo (stepL lf).2) ∧
      (n ≤ 262144 → (stepL lf).1 = true → e = .returned (.int .i64 0) ∧ Rk w' g b [] (stepL lf).2) ∧ UpdG g w w' := by
  have hst := Lib.hid (step_any g su mo lf hlf w h)
  replace h := Lib.hid h
  replace hr := Lib.hid hr
  replace hn := Lib.hid hn
  replace hne := Lib.hid hne
  by_cases hbig : 262144 < n
  · have hd : decide (262144 < (n : Int)) = true := decide_eq_true (by omega)
    go_enter Try.func62, Try.ntmps62
    go_wp2
    go_ret
    exact ⟨fun _ => ⟨rfl, h.out⟩, fun hh => absurd hbig (by omega), fun hh => absurd hbig (by omega), Upd.refl _ _⟩
  · have hd : decide (262144 < (n : Int)) = false := decide_eq_false (by omega)
    have hbig2 := Lib.hid hbig
    clear hbig
    go_enter Try.func62, Try.ntmps62
    go_wp2_with fail
    refine (hst.out).mono ?_
    rintro e w1 ⟨rfl, hk1, hu2⟩
    have hr1 := Lib.hid (hr.out.upd hne.out hu2)
    have hcv := run_str_at c hr1.out hn.out
    obtain ⟨g0, g1, g2, gf⟩ := hk1.cells
    have f0 := gf 0
    have f1 := gf 1
    clear gf hst
    replace hu2 := Lib.hid hu2
    replace hk1 := Lib.hid hk1
    cases hb : (stepL lf).1 with
    | false =>
      replace hb := Lib.hid hb
      clear hcv
      go_wp2
      go_ret
      exact ⟨fun hh => absurd hh hbig2.out, fun _ _ => ⟨rfl, hk1.out⟩, fun _ hh => absurd (hb.out.symm.trans hh) (by decide), hu2.out⟩
    | true =>
      have hset := Lib.hid (blk_set (blk_set hk1.out 0 (.string (bs b))) 1 (.string (bs [])))
      replace hb := Lib.hid hb
      go_wp2
      go_ret
      exact ⟨fun hh => absurd hh hbig2.out, fun _ hh => absurd (hb.out.symm.trans hh) (by decide), fun _ _ => ⟨rfl, hset.out⟩, Upd.trans hu2.out (Upd.trans (UpdG.set w1 _ _ _) (UpdG.set _ _ _ _))⟩
set_option maxRecDepth 10000 in
theorem rfuse_any (g : Nat) (su mo : List UInt8) (lf n : Int) (hn : -9223372036854775808 ≤ n ∧ n ≤ 9223372036854775807) (w : World) (h : Rk w g su mo lf) :
    Calls Try.prog 33 #[.pointer (some ⟨g, 0, none⟩), .int .i64 n] w fun e w' => e = .returned (.tuple #[]) ∧ Rk w' g su mo (max n 0) ∧ UpdG g w w' := by
  obtain ⟨g0, g1, g2, gf⟩ := h.cells
  have f2 := gf 2
  clear gf
  have hset := Lib.hid (blk_set h 2 (.int .i64 n))
  have hset2 := Lib.hid (blk_set hset.out 2 (.int .i64 0))
  replace h := Lib.hid h
  by_cases hn0 : n < 0
  · rw [show max n 0 = 0 from by omega]
    go_enter Try.func33, Try.ntmps33
    go_wp2
    go_end0
    exact ⟨rfl, hset2.out, Upd.trans (UpdG.set w _ _ _) (UpdG.set _ _ _ _)⟩
  · rw [show max n 0 = n from by omega]
    have hn1 : 0 ≤ n := by omega
    go_enter Try.func33, Try.ntmps33
    go_wp2
    go_end0
    exact ⟨rfl, hset.out, UpdG.set w _ _ _⟩
set_option maxHeartbeats 1000000 in
set_option maxRecDepth 10000 in
theorem rcrash_any (g : Nat) (su mo : List UInt8) (lf keep : Int) (hn : -9223372036854775808 ≤ keep ∧ keep ≤ 9223372036854775807) (hlen : su.length + mo.length ≤ 262144) (k : Nat) (hk : (k : Int) = min (max keep 0) mo.length) (w : World) (h : Rk w g su mo lf) :
    Calls Try.prog 35 #[.pointer (some ⟨g, 0, none⟩), .int .i64 keep] w fun e w' => e = .returned (.tuple #[]) ∧ Rk w' g (su ++ mo.take k) [] (-1) ∧ UpdG g w w' := by
  obtain ⟨g0, g1, g2, gf⟩ := h.cells
  have f0 := gf 0
  have f1 := gf 1
  have f2 := gf 2
  clear gf
  have hl1 : su.length ≤ 262144 := by omega
  have hl2 : mo.length ≤ 262144 := by omega
  have hset := Lib.hid (blk_set (blk_set (blk_set h 0 (.string (bs (su ++ mo.take k)))) 1 (.string (bs []))) 2 (.int .i64 (-1)))
  replace h := Lib.hid h
  by_cases hk0 : keep < 0
  · obtain rfl : k = 0 := by omega
    have e0 : su ++ List.take 0 mo = su := by simp
    rw [e0] at hset
    rw [e0]
    clear e0
    replace hk := Lib.hid hk
    go_enter Try.func35, Try.ntmps35
    go_wp2_with fail
    go_region
    go_wp2
    go_end0
    exact ⟨rfl, hset.out, Upd.trans (Upd.trans (Upd.trans (UpdG.set w _ _ _) (UpdG.set _ _ _ _)) (UpdG.set _ _ _ _)) (Upd.drewN _ 1)⟩
  · by_cases hk1 : (mo.length : Int) < keep
    · obtain rfl : k = mo.length := by omega
      have hk2 : 0 ≤ keep := by omega
      rw [List.take_length] at hset
      rw [List.take_length]
      replace hk := Lib.hid hk
      go_enter Try.func35, Try.ntmps35
      go_wp2_with fail
      go_region
      go_wp2
      go_end0
      exact ⟨rfl, hset.out, Upd.trans (Upd.trans (Upd.trans (UpdG.set w _ _ _) (UpdG.set _ _ _ _)) (UpdG.set _ _ _ _)) (Upd.drewN _ 1)⟩
    · obtain rfl : keep = (k : Int) := by omega
      have hk2 : (k : Int) ≤ mo.length := by omega
      clear hk0 hk1
      replace hk := Lib.hid hk
      go_enter Try.func35, Try.ntmps35
      go_wp2_with fail
      go_region
      go_wp2
      go_end0
      exact ⟨rfl, hset.out, Upd.trans (Upd.trans (Upd.trans (UpdG.set w _ _ _) (UpdG.set _ _ _ _)) (UpdG.set _ _ _ _)) (Upd.drewN _ 1)⟩
def DS.lf (s : DS) : Int := if s.fused = true then s.left else -1
/-- the reference in the state of s -/
def RkS (w : World) (g : Nat) (s : DS) : Prop := Rk w g (s.c.take s.dur) (s.c.drop s.dur) s.lf
theorem lf_bd (s : DS) (h : s.Ok) : -1 ≤ s.lf ∧ s.lf ≤ 9223372036854775807 := by
  unfold DS.lf
  have := h.lo
  have := h.hi
  split <;> omega
theorem step_eq (s : DS) (h : s.Ok) : stepL s.lf = (s.op.1, s.op.2.lf) := by
  unfold stepL DS.lf DS.op
  have := h.lo
  cases hf : s.fused with
  | false => simp [hf]
  | true =>
    simp only [if_true]
    by_cases hl : s.left = 0
    · simp [hl, hf]
    · rw [if_neg hl, if_neg hl, if_pos (by omega)]
      simp [hf]
theorem tl_len (s : DS) (h : s.Ok) : (s.c.take s.dur).length = s.dur ∧ (s.c.drop s.dur).length = s.c.length - s.dur ∧ (s.c.take s.dur).length + (s.c.drop s.dur).length = s.c.length := by
  have := h.dur
  simp
  omega
section
variable {w w' : World} {lo hi g gr : Nat} {s : DS}
theorem RkS.ne (h : RkS w gr s) {s' : DS} (hd : Dk w lo hi g s') : gr ≠ g := fun e => by
  obtain ⟨v, hh, -⟩ := hd
  subst e
  have := h.symm.trans hh
  injection this with this
  injection this with _ this _
  exact absurd this (by decide)
/-- what the reference turns is none of the disk's -/
theorem Dk.updG (hd : Dk w lo hi g s) {s' : DS} (h : RkS w gr s') (hu : UpdG gr w w') : Dk w' lo hi g s := by
  have hne := h.ne hd
  obtain ⟨v, h1, h2, h3, h4, h5, h6, h7⟩ := hd
  have ho : v.ownBlock ≠ some gr := h5.ne_blk h (by decide)
  refine ⟨v, (hu.2.2.2.2 g (blk_lt h1) (fun e => hne e.symm)).trans h1, h2, h3, Nat.le_trans h4 hu.2.2.2.1, ⟨h5.1, ?_⟩, h6, h7⟩
  rcases h5.2 with h | ⟨k, cap, cur, rfl, hb, hh, h⟩
  · exact .inl h
  · exact .inr ⟨k, cap, cur, rfl, hb, (hu.2.2.2.2 k (blk_lt hh) (fun e => ho (congrArg some e))).trans hh, h⟩
end
theorem chg_only {w w' : World} {lo g bx : Nat} {cs : Array Value} {T : TypeId} (h : Chg lo g w w') (hx : w.heap[bx]? = some (.cells cs T (0, 0))) (hg : bx ≠ g) (hT : T ≠ 5) : Upd (· ≠ bx) w w' :=
  ⟨h.1, h.2.1, h.2.2.1, h.2.2.2.1, fun k hk hn => by
    have e : k = bx := Classical.not_not.mp hn
    subst e
    exact (h.block hx hg hT).trans hx.symm⟩
theorem updg_only {w w' : World} {gr bx : Nat} (h : UpdG gr w w') (hg : ¬ bx = gr) : Upd (· ≠ bx) w w' :=
  ⟨h.1, h.2.1, h.2.2.1, h.2.2.2.1, fun k hk hn => by
    have e : k = bx := Classical.not_not.mp hn
    subst e
    exact h.2.2.2.2 k hk hg⟩
/-- one act on both -/
structure Both (w0 w : World) (lo g gr : Nat) (s : DS) : Prop where
  dk : Dk w lo w.heap.size g s
  rk : RkS w gr s
  below : Below w0.heap.size w0 w
  low : w0.heap.size ≤ lo
  grl : lo ≤ gr
theorem crash_rk (s : DS) (z : Int) (hok : s.Ok) {w : World} {gr : Nat} (h : Rk w gr (s.c.take s.dur ++ (s.c.drop s.dur).take (s.kept z - s.dur)) [] (-1)) : RkS w gr (s.crash z) := by
  obtain ⟨-, h1, h2⟩ := DS.kept_int s hok z
  have e1 : (s.crash z).c.take (s.crash z).dur = s.c.take s.dur ++ (s.c.drop s.dur).take (s.kept z - s.dur) := by
    show (s.c.take (s.kept z)).take (s.kept z) = _
    rw [List.take_take, Nat.min_self]
    have e : s.kept z = s.dur + (s.kept z - s.dur) := by omega
    calc s.c.take (s.kept z) = s.c.take (s.dur + (s.kept z - s.dur)) := by rw [← e]
      _ = _ := List.take_add
  have e2 : (s.crash z).c.drop (s.crash z).dur = [] := by
    show (s.c.take (s.kept z)).drop (s.kept z) = []
    exact List.drop_eq_nil_of_le (by rw [List.length_take]; omega)
  unfold RkS
  rw [e1, e2]
  exact h
theorem sync_rk (s : DS) (hok : s.Ok) {w : World} {gr : Nat} {e : Ending} (h1 : (stepL s.lf).1 = false → e = .returned (.int .i64 11) ∧ Rk w gr (s.c.take s.dur) (s.c.drop s.dur) (stepL s.lf).2)
    (h2 : (stepL s.lf).1 = true → e = .returned (.int .i64 0) ∧ Rk w gr (s.c.take s.dur ++ s.c.drop s.dur) [] (stepL s.lf).2) : e = .returned (.int .i64 s.sync.1) ∧ RkS w gr s.sync.2 := by
  rw [step_eq s hok] at h1 h2
  unfold DS.sync
  cases hb : s.op.1 with
  | false =>
    obtain ⟨he, hr⟩ := h1 hb
    rw [if_neg (by decide)]
    refine ⟨he, ?_⟩
    rw [DS.op_false hb] at hr
    exact hr
  | true =>
    obtain ⟨he, hr⟩ := h2 hb
    rw [if_pos rfl]
    refine ⟨he, ?_⟩
    unfold RkS
    rw [List.take_append_drop] at hr
    have e1 : ({ s.op.2 with dur := s.c.length } : DS).c = s.c := s.op_c.1
    show Rk w gr (List.take s.c.length s.op.2.c) (List.drop s.c.length s.op.2.c) _
    rw [s.op_c.1, List.take_length, List.drop_length]
    exact hr
theorem append_rk (s : DS) (hok : s.Ok) {n : Nat} {l : List UInt8} (hn : l.length = n) {w : World} {gr : Nat} {e : Ending} (h0 : 262144 < (s.c.take s.dur).length + (s.c.drop s.dur).length + n → e = .returned (.int .i64 16) ∧ Rk w gr (s.c.take s.dur) (s.c.drop s.dur) s.lf)
    (h1 : (s.c.take s.dur).length + (s.c.drop s.dur).length + n ≤ 262144 → (stepL s.lf).1 = false → e = .returned (.int .i64 11) ∧ Rk w gr (s.c.take s.dur) (s.c.drop s.dur) (stepL s.lf).2)
    (h2 : (s.c.take s.dur).length + (s.c.drop s.dur).length + n ≤ 262144 → (stepL s.lf).1 = true → e = .returned (.int .i64 0) ∧ Rk w gr (s.c.take s.dur) (s.c.drop s.dur ++ l) (stepL s.lf).2) : e = .returned (.int .i64 (s.append l).1) ∧ RkS w gr (s.append l).2 := by
  rw [(tl_len s hok).2.2] at h0 h1 h2
  rw [step_eq s hok] at h1 h2
  unfold DS.append
  rw [hn]
  by_cases hov : 262144 < s.c.length + n
  · rw [if_pos hov]
    exact h0 hov
  · rw [if_neg hov]
    cases hb : s.op.1 with
    | false =>
      obtain ⟨he, hr⟩ := h1 (by omega) hb
      rw [if_neg (by decide)]
      rw [DS.op_false hb] at hr
      exact ⟨he, hr⟩
    | true =>
      obtain ⟨he, hr⟩ := h2 (by omega) hb
      rw [if_pos rfl]
      refine ⟨he, ?_⟩
      show Rk w gr (List.take s.op.2.dur (s.c ++ l)) (List.drop s.op.2.dur (s.c ++ l)) _
      rw [s.op_c.2.1, List.take_append_of_le_length hok.dur, List.drop_append_of_le_length hok.dur]
      exact hr
theorem swap_rk (s : DS) (hok : s.Ok) {n : Nat} {l : List UInt8} (hn : l.length = n) {w : World} {gr : Nat} {e : Ending} (h0 : 262144 < n → e = .returned (.int .i64 16) ∧ Rk w gr (s.c.take s.dur) (s.c.drop s.dur) s.lf)
    (h1 : n ≤ 262144 → (stepL s.lf).1 = false → e = .returned (.int .i64 11) ∧ Rk w gr (s.c.take s.dur) (s.c.drop s.dur) (stepL s.lf).2)
    (h2 : n ≤ 262144 → (stepL s.lf).1 = true → e = .returned (.int .i64 0) ∧ Rk w gr l [] (stepL s.lf).2) : e = .returned (.int .i64 (s.swap l).1) ∧ RkS w gr (s.swap l).2 := by
  rw [step_eq s hok] at h1 h2
  unfold DS.swap
  rw [hn]
  by_cases hov : 262144 < n
  · rw [if_pos hov]
    exact h0 hov
  · rw [if_neg hov]
    cases hb : s.op.1 with
    | false =>
      obtain ⟨he, hr⟩ := h1 (by omega) hb
      rw [if_neg (by decide)]
      rw [DS.op_false hb] at hr
      exact ⟨he, hr⟩
    | true =>
      obtain ⟨he, hr⟩ := h2 (by omega) hb
      rw [if_pos rfl]
      refine ⟨he, ?_⟩
      show Rk w gr (List.take n l) (List.drop n l) _
      rw [← hn, List.take_length, List.drop_length]
      exact hr
end Go.Proofs.Ytgdbbjijneidaaa
