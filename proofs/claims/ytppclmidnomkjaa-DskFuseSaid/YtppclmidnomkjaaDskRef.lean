/- The reference disk: its state, what its methods come to. -/
import Derived.Test.YtppclmidnomkjaaDskLaw
import Derived.Deep.QuietTactic
import Derived.BigQuiet
namespace Go.Proofs.Ytppclmidnomkjaa
set_option linter.unusedVariables false
set_option linter.unusedSimpArgs false
open Go Go.RowKit

@[go_sem] theorem bs_app (a b : List UInt8) : bs a ++ bs b = bs (a ++ b) := by
  unfold bs
  apply ByteArray.ext
  simp
@[go_sem] theorem bs_take (l : List UInt8) (k : Nat) : (bs l).extract 0 k = bs (l.take k) := by
  unfold bs
  apply ByteArray.ext
  simp
theorem bs_nil : (Value.string { data := #[] }) = .string (bs []) := rfl
def Rk (w : World) (g : Nat) (su mo : List UInt8) (lf : Int) : Prop := w.heap[g]? = some (.cells #[.string (bs su), .string (bs mo), .int .i64 lf] 87 (0, 0))
def stepL (lf : Int) : Bool × Int := if lf = 0 then (false, 0) else if 0 < lf then (true, lf - 1) else (true, lf)
theorem Rk.cells {w : World} {g : Nat} {su mo : List UInt8} {lf : Int} (h : Rk w g su mo lf) : w.cell? ⟨g, 0, none⟩ = some (.string (bs su)) ∧ w.cell? ⟨g, 1, none⟩ = some (.string (bs mo)) ∧ w.cell? ⟨g, 2, none⟩ = some (.int .i64 lf) ∧ (∀ j, w.frozen? ⟨g, j, none⟩ = false) :=
  ⟨blk_cell h rfl, blk_cell h rfl, blk_cell h rfl, fun j => blk_free h j⟩
theorem Rk.upd {w w' : World} {g : Nat} {su mo : List UInt8} {lf : Int} {S : Nat → Prop} (h : Rk w g su mo lf) (hu : Upd S w w') (hS : ¬ S g) : Rk w' g su mo lf := (hu.2.2.2.2 g (blk_lt h) hS).trans h
theorem Rk.chg {w w' : World} {g lo gd : Nat} {su mo : List UInt8} {lf : Int} (h : Rk w g su mo lf) (hu : Chg lo gd w w') (hg : g ≠ gd) : Rk w' g su mo lf := hu.block h hg (by decide)
theorem Rk.below {w w' : World} {g B : Nat} {su mo : List UInt8} {lf : Int} (h : Rk w g su mo lf) (hb : Below B w w') (hg : g < B) : Rk w' g su mo lf := (hb.block g hg).trans h
def UpdG (g : Nat) (w w' : World) : Prop := Upd (· = g) w w'
theorem UpdG.set (w : World) (g j : Nat) (u : Value) : UpdG g w (w.setCell ⟨g, j, none⟩ u) := Upd.of_grown (S := (· = g)) (blk_grown _ _ _ _) rfl
set_option maxRecDepth 10000 in
theorem rnew_any (w : World) :
    Calls Try.prog 30 #[] w fun e w' => e = .returned (.pointer (some ⟨w.heap.size, 0, none⟩)) ∧ Rk w' w.heap.size [] [] (-1) ∧ w.heap.size < w'.heap.size ∧ Below w.heap.size w w' := by
  go_enter Try.func30, Try.ntmps30
  go_wp2
  go_ret
  exact ⟨rfl, heap_alloc_new w _, by simp, (Below.refl _ _).alloc (Nat.le_refl _) _⟩
set_option maxRecDepth 10000 in
theorem step_any (g : Nat) (su mo : List UInt8) (lf : Int) (hlf : -1 ≤ lf ∧ lf ≤ 9223372036854775807) (w : World) (h : Rk w g su mo lf) :
    Calls Try.prog 60 #[.pointer (some ⟨g, 0, none⟩)] w fun e w' => e = .returned (.bool (stepL lf).1) ∧ Rk w' g su mo (stepL lf).2 ∧ UpdG g w w' := by
  obtain ⟨h0, h1, h2, hf⟩ := h.cells
  have f2 := hf 2
  clear hf
  unfold stepL
  by_cases hz : lf = 0
  · subst hz
    rw [if_pos rfl]
    replace h := Lib.hid h
    go_enter Try.func60, Try.ntmps60
    go_wp2
    go_ret
    exact ⟨rfl, h.out, Upd.refl _ _⟩
  · rw [if_neg hz]
    have hd : (lf == 0) = false := beq_eq_false_iff_ne.mpr hz
    by_cases hp : 0 < lf
    · rw [if_pos hp]
      have hl1 : 0 ≤ lf - 1 := by omega
      have hs := Lib.hid (blk_set h 2 (.int .i64 (lf - 1)))
      replace h := Lib.hid h
      clear hz
      go_enter Try.func60, Try.ntmps60
      go_wp2
      go_ret
      exact ⟨rfl, hs.out, UpdG.set _ _ _ _⟩
    · rw [if_neg hp]
      have hl1 : lf ≤ 0 := by omega
      replace h := Lib.hid h
      clear hz hp
      go_enter Try.func60, Try.ntmps60
      go_wp2
      go_ret
      exact ⟨rfl, h.out, Upd.refl _ _⟩
set_option maxHeartbeats 1000000 in
set_option maxRecDepth 10000 in
theorem rappend_any (g : Nat) (su mo : List UInt8) (lf : Int) (hlf : -1 ≤ lf ∧ lf ≤ 9223372036854775807) (hlen : su.length + mo.length ≤ 262144) (A : Option Addr) (n c : Nat) (b : List UInt8) (hn : b.length = n) (hnm : n ≤ 140737488355328) (w : World) (h : Rk w g su mo lf) (hr : Rd w w.heap.size A b) (hne : ∀ ad, A = some ad → 0 < b.length → ¬ ad.block = g) :
    Calls Try.prog 57 #[.pointer (some ⟨g, 0, none⟩), .slice A n c] w fun e w' =>
      (262144 < su.length + mo.length + n → e = .returned (.int .i64 16) ∧ Rk w' g su mo lf) ∧ (su.length + mo.length + n ≤ 262144 → (stepL lf).1 = false → e = .returned (.int .i64 11) ∧ Rk w' g su mo (stepL lf).2) ∧
      (su.length + mo.length + n ≤ 262144 → (stepL lf).1 = true → e = .returned (.int .i64 0) ∧ Rk w' g su (mo ++ b) (stepL lf).2) ∧ UpdG g w w' := by
  obtain ⟨h0, h1, h2, hf⟩ := h.cells
  have hst := Lib.hid (step_any g su mo lf hlf w h)
  have hl1 : su.length ≤ 262144 := by omega
  have hl2 : mo.length ≤ 262144 := by omega
  have hlen' : (su.length : Int) + mo.length ≤ 262144 := by omega
  replace h := Lib.hid h
  replace hr := Lib.hid hr
  replace hn := Lib.hid hn
  replace hne := Lib.hid hne
  replace hf := Lib.hid hf
  by_cases hov : 262144 < su.length + mo.length + n
  · have hP : Hid ((262144 < su.length + mo.length + n → (Ending.returned (.int .i64 16)) = .returned (.int .i64 16) ∧ Rk w g su mo lf)) := Lib.hid (fun _ => ⟨rfl, h.out⟩)
    by_cases hbig : 262144 < n
    · have hd : decide (262144 < (n : Int)) = true := decide_eq_true (by omega)
      have hov2 := Lib.hid hov
      clear hov
      go_enter Try.func57, Try.ntmps57
      go_wp2_with fail
      go_quiet (fail)
      go_wp2
      go_ret
      exact ⟨fun _ => ⟨rfl, h.out⟩, fun hh => absurd hov2.out (by omega), fun hh => absurd hov2.out (by omega), Upd.drewN _ _⟩
    · have hd : decide (262144 < (n : Int)) = false := decide_eq_false (by omega)
      have hd2 : decide (262144 < (su.length : Int) + mo.length + n) = true := decide_eq_true (by omega)
      have hn6 : n ≤ 262144 := by omega
      have hov2 := Lib.hid hov
      clear hov
      have hw1 : IntKind.i64.wrap ((su.length : Int) + mo.length) = (su.length : Int) + mo.length := by rw [IntKind.wrap_i64]; omega
      have hw2 : IntKind.i64.wrap ((su.length : Int) + mo.length + n) = (su.length : Int) + mo.length + n := by rw [IntKind.wrap_i64]; omega
      go_enter Try.func57, Try.ntmps57
      go_wp2_with fail
      go_quiet (fail)
      go_wp2
      go_ret
      exact ⟨fun _ => ⟨rfl, h.out⟩, fun hh => absurd hov2.out (by omega), fun hh => absurd hov2.out (by omega), Upd.drewN _ _⟩
  · have hd : decide (262144 < (n : Int)) = false := decide_eq_false (by omega)
    have hd2 : decide (262144 < (su.length : Int) + mo.length + n) = false := decide_eq_false (by omega)
    have hn6 : n ≤ 262144 := by omega
    have hw1 : IntKind.i64.wrap ((su.length : Int) + mo.length) = (su.length : Int) + mo.length := by rw [IntKind.wrap_i64]; omega
    have hw2 : IntKind.i64.wrap ((su.length : Int) + mo.length + n) = (su.length : Int) + mo.length + n := by rw [IntKind.wrap_i64]; omega
    have hov2 := Lib.hid hov
    clear hov
    go_enter Try.func57, Try.ntmps57
    go_wp2_with fail
    go_quiet (fail)
    go_wp2_with fail
    refine (step_any g su mo lf hlf _ (show Rk (w.drewN nq) g su mo lf from h.out)).mono ?_
    rintro e w1 ⟨rfl, hk1, hu1⟩
    have hu2 : UpdG g w w1 := Upd.trans (Upd.drewN w nq) hu1
    have hr1 := Lib.hid (hr.out.upd hne.out hu2)
    have hcv : (convert 28 9 (.slice A n c)).run Try.prog w1.drew = .ok (.string (bs b)) w1.drew := run_str_at c (show Rd w1.drew w1.drew.heap.size A b from hr1.out) hn.out
    obtain ⟨g0, g1, g2, gf⟩ := hk1.cells
    have f1 := gf 1
    have hbl : b.length ≤ 262144 := by rw [hn.out]; exact hn6
    clear gf h0 h1 h2 hu1 hst
    replace hu2 := Lib.hid hu2
    replace hk1 := Lib.hid hk1
    cases hb : (stepL lf).1 with
    | false =>
      clear hcv
      replace hb := Lib.hid hb
      go_wp2
      go_ret
      exact ⟨fun hh => absurd hh hov2.out, fun _ _ => ⟨rfl, hk1.out⟩, fun _ hh => absurd (hb.out.symm.trans hh) (by decide), hu2.out⟩
    | true =>
      have hset := Lib.hid (blk_set hk1.out 1 (.string (bs (mo ++ b))))
      replace hb := Lib.hid hb
      go_wp2_with fail
      go_region
      go_wp2
      go_ret
      exact ⟨fun hh => absurd hh hov2.out, fun _ hh => absurd (hb.out.symm.trans hh) (by decide), fun _ _ => ⟨rfl, hset.out⟩, Upd.trans hu2.out (Upd.trans (Upd.drewN w1 1) (UpdG.set _ _ _ _))⟩
set_option maxHeartbeats 1000000 in
set_option maxRecDepth 10000 in
theorem rsync_any (g : Nat) (su mo : List UInt8) (lf : Int) (hlf : -1 ≤ lf ∧ lf ≤ 9223372036854775807) (hlen : su.length + mo.length ≤ 262144) (w : World) (h : Rk w g su mo lf) :
    Calls Try.prog 56 #[.pointer (some ⟨g, 0, none⟩)] w fun e w' =>
      ((stepL lf).1 = false → e = .returned (.int .i64 11) ∧ Rk w' g su mo (stepL lf).2) ∧
      ((stepL lf).1 = true → e = .returned (.int .i64 0) ∧ Rk w' g (su ++ mo) [] (stepL lf).2) ∧ UpdG g w w' := by
  have hst := Lib.hid (step_any g su mo lf hlf w h)
  have hl1 : su.length ≤ 262144 := by omega
  have hl2 : mo.length ≤ 262144 := by omega
  have hlen' : (su.length : Int) + mo.length ≤ 262144 := by omega
  replace h := Lib.hid h
  go_enter Try.func56, Try.ntmps56
  go_wp2_with fail
  refine (hst.out).mono ?_
  rintro e w1 ⟨rfl, hk1, hu2⟩
  obtain ⟨g0, g1, g2, gf⟩ := hk1.cells
  have f0 := gf 0
  have f1 := gf 1
  clear gf hst
  replace hu2 := Lib.hid hu2
  replace hk1 := Lib.hid hk1
  cases hb : (stepL lf).1 with
  | false =>
    replace hb := Lib.hid hb
    go_wp2
    go_ret
    exact ⟨fun _ => ⟨rfl, hk1.out⟩, fun hh => absurd (hb.out.symm.trans hh) (by decide), hu2.out⟩
  | true =>
    have hset := Lib.hid (blk_set (blk_set hk1.out 0 (.string (bs (su ++ mo)))) 1 (.string (bs [])))
    replace hb := Lib.hid hb
    go_wp2_with fail
    go_region
    go_wp2
    go_ret
    exact ⟨fun hh => absurd (hb.out.symm.trans hh) (by decide), fun _ => ⟨rfl, hset.out⟩, Upd.trans hu2.out (Upd.trans (Upd.trans (UpdG.set w1 _ _ _) (UpdG.set _ _ _ _)) (Upd.drewN _ 1))⟩
set_option maxHeartbeats 1000000 in
set_option maxRecDepth 10000 in
theorem rswap_any (g : Nat) (su mo : List UInt8) (lf : Int) (hlf : -1 ≤ lf ∧ lf ≤ 9223372036854775807) (A : Option Addr) (n c : Nat) (b : List UInt8) (hn : b.length = n) (hnm : n ≤ 140737488355328) (w : World) (h : Rk w g su mo lf) (hr : Rd w w.heap.size A b) (hne : ∀ ad, A = some ad → 0 < b.length → ¬ ad.block = g) :
    Calls Try.prog 55 #[.pointer (some ⟨g, 0, none⟩), .slice A n c] w fun e w' =>
      (262144 < n → e = .returned (.int .i64 16) ∧ Rk w' g su mo lf) ∧ (n ≤ 262144 → (stepL lf).1 = false → e = .returned (.int .i64 11) ∧ Rk w' g su mo (stepL lf).2) ∧
      (n ≤ 262144 → (stepL lf).1 = true → e = .returned (.int .i64 0) ∧ Rk w' g b [] (stepL lf).2) ∧ UpdG g w w' := by
  have hst := Lib.hid (step_any g su mo lf hlf w h)
  replace h := Lib.hid h
  replace hr := Lib.hid hr
  replace hn := Lib.hid hn
  replace hne := Lib.hid hne
  by_cases hbig : 262144 < n
  · have hd : decide (262144 < (n : Int)) = true := decide_eq_true (by omega)
    go_enter Try.func55, Try.ntmps55
    go_wp2
    go_ret
    exact ⟨fun _ => ⟨rfl, h.out⟩, fun hh => absurd hbig (by omega), fun hh => absurd hbig (by omega), Upd.refl _ _⟩
  · have hd : decide (262144 < (n : Int)) = false := decide_eq_false (by omega)
    have hbig2 := Lib.hid hbig
    clear hbig
    go_enter Try.func55, Try.ntmps55
    go_wp2_with fail
    refine (hst.out).mono ?_
    rintro e w1 ⟨rfl, hk1, hu2⟩
    have hr1 := Lib.hid (hr.out.upd hne.out hu2)
    have hcv := run_str_at c hr1.out hn.out
    obtain ⟨g0, g1, g2, gf⟩ := hk1.cells
    have f0 := gf 0
    have f1 := gf 1
    clear gf hst
    replace hu2 := Lib.hid hu2
    replace hk1 := Lib.hid hk1
    cases hb : (stepL lf).1 with
    | false =>
      replace hb := Lib.hid hb
      clear hcv
      go_wp2
      go_ret
      exact ⟨fun hh => absurd hh hbig2.out, fun _ _ => ⟨rfl, hk1.out⟩, fun _ hh => absurd (hb.out.symm.trans hh) (by decide), hu2.out⟩
    | true =>
      have hset := Lib.hid (blk_set (blk_set hk1.out 0 (.string (bs b))) 1 (.string (bs [])))
      replace hb := Lib.hid hb
      go_wp2
      go_ret
      exact ⟨fun hh => absurd hh hbig2.out, fun _ hh => absurd (hb.out.symm.trans hh) (by decide), fun _ _ => ⟨rfl, hset.out⟩, Upd.trans hu2.out (Upd.trans (UpdG.set w1 _ _ _) (UpdG.set _ _ _ _))⟩
set_option maxRecDepth 10000 in
theorem rfuse_any (g : Nat) (su mo : List UInt8) (lf n : Int) (hn : -9223372036854775808 ≤ n ∧ n ≤ 9223372036854775807) (w : World) (h : Rk w g su mo lf) :
    Calls Try.prog 52 #[.pointer (some ⟨g, 0, none⟩), .int .i64 n] w fun e w' => e = .returned (.tuple #[]) ∧ Rk w' g su mo (max n 0) ∧ UpdG g w w' := by
  obtain ⟨g0, g1, g2, gf⟩ := h.cells
  have f2 := gf 2
  clear gf
  have hset := Lib.hid (blk_set h 2 (.int .i64 n))
  have hset2 := Lib.hid (blk_set hset.out 2 (.int .i64 0))
  replace h := Lib.hid h
  by_cases hn0 : n < 0
  · rw [show max n 0 = 0 from by omega]
    go_enter Try.func52, Try.ntmps52
    go_wp2
    go_end0
    exact ⟨rfl, hset2.out, Upd.trans (UpdG.set w _ _ _) (UpdG.set _ _ _ _)⟩
  · rw [show max n 0 = n from by omega]
    have hn1 : 0 ≤ n := by omega
    go_enter Try.func52, Try.ntmps52
    go_wp2
    go_end0
    exact ⟨rfl, hset.out, UpdG.set w _ _ _⟩
set_option maxRecDepth 10000 in
theorem rwipe_any (g : Nat) (su mo : List UInt8) (lf : Int) (w : World) (h : Rk w g su mo lf) :
    Calls Try.prog 54 #[.pointer (some ⟨g, 0, none⟩)] w fun e w' => e = .returned (.tuple #[]) ∧ Rk w' g [] [] (-1) ∧ UpdG g w w' := by
  obtain ⟨g0, g1, g2, gf⟩ := h.cells
  have f0 := gf 0
  have f1 := gf 1
  have f2 := gf 2
  clear gf
  have hset := Lib.hid (blk_set (blk_set (blk_set h 0 (.string (bs []))) 1 (.string (bs []))) 2 (.int .i64 (-1)))
  replace h := Lib.hid h
  go_enter Try.func54, Try.ntmps54
  go_wp2
  go_end0
  exact ⟨rfl, hset.out, Upd.trans (Upd.trans (UpdG.set w _ _ _) (UpdG.set _ _ _ _)) (UpdG.set _ _ _ _)⟩
set_option maxHeartbeats 1000000 in
set_option maxRecDepth 10000 in
theorem rcrash_any (g : Nat) (su mo : List UInt8) (lf keep : Int) (hn : -9223372036854775808 ≤ keep ∧ keep ≤ 9223372036854775807) (hlen : su.length + mo.length ≤ 262144) (k : Nat) (hk : (k : Int) = min (max keep 0) mo.length) (w : World) (h : Rk w g su mo lf) :
    Calls Try.prog 53 #[.pointer (some ⟨g, 0, none⟩), .int .i64 keep] w fun e w' => e = .returned (.tuple #[]) ∧ Rk w' g (su ++ mo.take k) [] (-1) ∧ UpdG g w w' := by
  obtain ⟨g0, g1, g2, gf⟩ := h.cells
  have f0 := gf 0
  have f1 := gf 1
  have f2 := gf 2
  clear gf
  have hl1 : su.length ≤ 262144 := by omega
  have hl2 : mo.length ≤ 262144 := by omega
  have hset := Lib.hid (blk_set (blk_set (blk_set h 0 (.string (bs (su ++ mo.take k)))) 1 (.string (bs []))) 2 (.int .i64 (-1)))
  replace h := Lib.hid h
  by_cases hk0 : keep < 0
  · obtain rfl : k = 0 := by omega
    have e0 : su ++ List.take 0 mo = su := by simp
    rw [e0] at hset
    rw [e0]
    clear e0
    replace hk := Lib.hid hk
    go_enter Try.func53, Try.ntmps53
    go_wp2_with fail
    go_region
    go_wp2
    go_end0
    exact ⟨rfl, hset.out, Upd.trans (Upd.trans (Upd.trans (UpdG.set w _ _ _) (UpdG.set _ _ _ _)) (UpdG.set _ _ _ _)) (Upd.drewN _ 1)⟩
  · by_cases hk1 : (mo.length : Int) < keep
    · obtain rfl : k = mo.length := by omega
      have hk2 : 0 ≤ keep := by omega
      rw [List.take_length] at hset
      rw [List.take_length]
      replace hk := Lib.hid hk
      go_enter Try.func53, Try.ntmps53
      go_wp2_with fail
      go_region
      go_wp2
      go_end0
      exact ⟨rfl, hset.out, Upd.trans (Upd.trans (Upd.trans (UpdG.set w _ _ _) (UpdG.set _ _ _ _)) (UpdG.set _ _ _ _)) (Upd.drewN _ 1)⟩
    · obtain rfl : keep = (k : Int) := by omega
      have hk2 : (k : Int) ≤ mo.length := by omega
      clear hk0 hk1
      replace hk := Lib.hid hk
      go_enter Try.func53, Try.ntmps53
      go_wp2_with fail
      go_region
      go_wp2
      go_end0
      exact ⟨rfl, hset.out, Upd.trans (Upd.trans (Upd.trans (UpdG.set w _ _ _) (UpdG.set _ _ _ _)) (UpdG.set _ _ _ _)) (Upd.drewN _ 1)⟩
end Go.Proofs.Ytppclmidnomkjaa
