/- The walks of lift. -/
import Derived.Test.YtppclmidnomkjabChecked
import Derived.Test.YtppclmidnomkjabTab
import Derived.Test.YtppclmidnomkjabCls
import Derived.Test.YtppclmidnomkjabLiftMath
import Derived.BigRegion
import Derived.Outline
import Derived.Deep.QuietTactic
import Derived.BigQuiet
import Derived.Deep.DeepCutAuto
namespace Go.Proofs.Ytppclmidnomkjab
set_option linter.unusedVariables false
set_option linter.unusedSimpArgs false
open Go Go.RowKit

set_option maxHeartbeats 1000000 in
set_option maxRecDepth 10000 in
theorem oldest_any (A : Option Addr) (n c : Nat) (F : Nat → Nat → Int) (hn : 0 < n) (hn2 : n ≤ 1000000000) (w : World) (hr : Tab w w.heap.size 6 A n F) :
    Calls Try.prog 35 #[.slice A n c] w fun e w' => e = .returned (.int .i64 (oldTo F n)) ∧ Below w.heap.size w w' := by
  obtain ⟨b, o, rfl, hb, hc⟩ := hr.1 hn
  have hrange := Lib.hid hr.2
  replace hc := Lib.hid hc
  clear hr
  go_enter Try.func35, Try.ntmps35
  go_wp2_with fail
  go_loopw [3, 8] (fun f i wr => ∃ k : Nat, k ≤ n ∧ i = .int .i64 k ∧ f = .int .i64 (oldTo F k) ∧ Hid (Below w.heap.size w wr)) (fun _ i _ => n - (intOf i).toNat)
  case atStart => exact ⟨0, Nat.zero_le _, rfl, rfl, Lib.hid (Below.refl _ _)⟩
  case round =>
    obtain ⟨k, hk, rfl, rfl, hbw⟩ := hrel
    by_cases hlt : k < n
    · have hcw := hc.out.below hb hbw.out
      obtain ⟨h0, h1, h2, h3, h4, h5⟩ := hcw.row6 hlt
      have hol := oldTo_le F k
      have g5 := hcw.one (i := oldTo F k) (j := 5) (by omega) (by omega)
      have hbs : b < wr.heap.size := by have := hbw.out.size; omega
      have hqn : oldTo F k < n := by omega
      have H : Hid (oldTo F (k + 1) = if F k 5 < F (oldTo F k) 5 then k else oldTo F k) := Lib.hid (oldTo_succ F k)
      replace hcw := Lib.hid hcw
      generalize oldTo F k = q at *
      go_wp2_with fail
      go_region
      go_wp2
      all_goals
        go_roundw
        case rel => exact ⟨k + 1, by omega, by go_num, by rw [H.out]; first | rw [if_pos ‹_›] | rw [if_neg (by omega)], Lib.hid (hbw.out.alloc hbw.out.size _).drew⟩
        case measure => simp [intOf]; omega
    · obtain rfl : k = n := by omega
      go_wp2
      go_ret
      exact ⟨rfl, hbw.out⟩

set_option maxHeartbeats 1000000 in
set_option maxRecDepth 10000 in
theorem roldest_any (A : Option Addr) (n c : Nat) (F : Nat → Nat → Int) (hn : 0 < n) (hn2 : n ≤ 1000000000) (w : World) (hr : Tab w w.heap.size 6 A n F) :
    Calls Try.prog 38 #[.slice A n c] w fun e w' => e = .returned (.int .i64 (oldTo F n)) ∧ Below w.heap.size w w' := by
  obtain ⟨b, o, rfl, hb, hc⟩ := hr.1 hn
  have hrange := Lib.hid hr.2
  replace hc := Lib.hid hc
  clear hr
  go_enter Try.func38, Try.ntmps38
  go_wp2_with fail
  go_loopw [3, 4] (fun f i wr => ∃ k : Nat, 1 ≤ k ∧ k ≤ n ∧ i = .int .i64 k ∧ f = .int .i64 (oldTo F k) ∧ Hid (Below w.heap.size w wr)) (fun _ i _ => n - (intOf i).toNat)
  case atStart => exact ⟨1, Nat.le_refl _, hn, rfl, by rw [oldTo_one]; rfl, Lib.hid (Below.refl _ _)⟩
  case round =>
    obtain ⟨k, hk1, hk, rfl, rfl, hbw⟩ := hrel
    by_cases hlt : k < n
    · have hcw := hc.out.below hb hbw.out
      have hol := oldTo_le F k
      have h5 := hcw.one (i := k) (j := 5) hlt (by omega)
      have g5 := hcw.one (i := oldTo F k) (j := 5) (by omega) (by omega)
      have hbs : b < wr.heap.size := by have := hbw.out.size; omega
      have hqn : oldTo F k < n := by omega
      have H : Hid (oldTo F (k + 1) = if F k 5 < F (oldTo F k) 5 then k else oldTo F k) := Lib.hid (oldTo_succ F k)
      replace hcw := Lib.hid hcw
      generalize oldTo F k = q at *
      go_wp2_with fail
      go_region
      go_wp2
      all_goals
        go_roundw
        case rel => exact ⟨k + 1, by omega, by omega, by go_num, by rw [H.out]; first | rw [if_pos ‹_›] | rw [if_neg (by omega)], Lib.hid hbw.out.drew⟩
        case measure => simp [intOf]; omega
    · obtain rfl : k = n := by omega
      go_wp2
      go_ret
      exact ⟨rfl, hbw.out⟩

theorem u64_small (x : Int) (h : 0 ≤ x) (h2 : x ≤ 18446744073709551615) : IntKind.u64.wrap x = x := by
  unfold IntKind.wrap
  simp only [IntKind.signed, IntKind.bits]
  simp
  omega
theorem u64_diff (a b : Int) (ha : I64 a) (hb : I64 b) (h : b ≤ a) : IntKind.u64.wrap (IntKind.u64.wrap a - IntKind.u64.wrap b) = a - b := by
  unfold I64 at *
  unfold IntKind.wrap
  simp only [IntKind.signed, IntKind.bits]
  simp
  omega
set_option maxHeartbeats 1000000 in
set_option maxRecDepth 10000 in
theorem overdue_any (born now age : Int) (hb : I64 born) (hn : I64 now) (ha : I64 age) (w : World) :
    Calls Try.prog 36 #[.int .i64 born, .int .i64 now, .int .i64 age] w fun e w' => e = .returned (.bool (overD born now age)) ∧ w = w' := by
  have H := Lib.hid (u64_diff now born hn hb)
  unfold I64 at hb hn ha
  by_cases hle : born ≤ now
  · have h1 := Lib.hid (H.out hle)
    have h2 := Lib.hid (u64_small (max age 0) (by omega) (by omega))
    have hd : decide (born ≤ now) = true := decide_eq_true hle
    go_enter Try.func36, Try.ntmps36
    go_wp2_with fail
    · have e : overD born now age = true := by unfold overD; simp; omega
      rw [e]
      go_ret
      exact ⟨rfl, rfl⟩
    · have e : overD born now age = decide (age ≤ IntKind.u64.wrap (IntKind.u64.wrap now - IntKind.u64.wrap born)) := by
        rw [h1.out]
        unfold overD
        rw [hd, Bool.true_and]
        have : max age 0 = age := by omega
        rw [this]
      rw [e]
      go_ret
      exact ⟨rfl, rfl⟩
  · have hd : decide (born ≤ now) = false := decide_eq_false hle
    go_enter Try.func36, Try.ntmps36
    go_wp2
    go_ret
    exact ⟨by unfold overD; rw [hd]; rfl, rfl⟩
set_option maxHeartbeats 1000000 in
set_option maxRecDepth 10000 in
theorem far_any (now born age : Int) (hb : I64 born) (hn : I64 now) (ha : I64 age) (w : World) :
    Calls Try.prog 39 #[.int .i64 now, .int .i64 born, .int .i64 age] w fun e w' => e = .returned (.bool (overD born now age)) ∧ w = w' := by
  unfold I64 at hb hn ha
  by_cases hle : born ≤ now
  · by_cases ha0 : age ≤ 0
    · have e : overD born now age = true := by unfold overD; simp; omega
      rw [e]
      go_enter Try.func39, Try.ntmps39
      go_wp2
      go_ret
      exact ⟨rfl, rfl⟩
    · by_cases hc : 0 ≤ born ∨ now < 0
      · have e : overD born now age = decide (age ≤ now - born) := by
          unfold overD
          have h1 : decide (born ≤ now) = true := decide_eq_true hle
          have : max age 0 = age := by omega
          rw [h1, Bool.true_and, this]
        rw [e]
        rcases hc with hc | hc
        · have hd : decide (0 ≤ born) = true := decide_eq_true hc
          go_enter Try.func39, Try.ntmps39
          go_wp2
          go_ret
          exact ⟨rfl, rfl⟩
        · have hd : decide (0 ≤ born) = false := decide_eq_false (by omega)
          have hd2 : decide (now < 0) = true := decide_eq_true hc
          go_enter Try.func39, Try.ntmps39
          go_wp2
          go_ret
          exact ⟨rfl, rfl⟩
      · have hd : decide (0 ≤ born) = false := decide_eq_false (by omega)
        have hd2 : decide (now < 0) = false := decide_eq_false (by omega)
        have e : overD born now age = decide (age ≤ now - born) := by
          unfold overD
          have h1 : decide (born ≤ now) = true := decide_eq_true hle
          have : max age 0 = age := by omega
          rw [h1, Bool.true_and, this]
        have H := Lib.hid e
        clear e
        go_enter Try.func39, Try.ntmps39
        go_wp2
        rw [H.out, show now - born = now + -(born + 1) + 1 from by omega]
        go_ret
        exact ⟨rfl, rfl⟩
  · have e : overD born now age = false := by unfold overD; rw [decide_eq_false hle]; rfl
    rw [e]
    go_enter Try.func39, Try.ntmps39
    go_wp2
    go_ret
    exact ⟨rfl, rfl⟩
set_option maxHeartbeats 1000000 in
theorem sooner_any (a b p : Int) (w : World) :
    Calls Try.prog 43 #[.int .i64 a, .int .i64 b, .int .i64 p] w fun e w' => e = .returned (.bool (soon a b p)) ∧ w' = w := by
  unfold soon
  by_cases h1 : p ≤ a <;> by_cases h2 : p ≤ b
  all_goals
    go_enter Try.func43, Try.ntmps43
    go_wp2
    all_goals
      go_ret
      exact ⟨by simp [h1, h2], rfl⟩
theorem below_drewN {B : Nat} {w w' : World} (h : Below B w w') (n : Nat) : Below B w (w'.drewN n) := ⟨h.os, h.tape, h.output, h.size, h.block⟩
/-- an option as Go has it: -1 for none -/
def optI : Option Nat → Int | none => -1 | some k => k
set_option maxHeartbeats 2000000 in
set_option maxRecDepth 10000 in
theorem met_any (A : Option Addr) (n c : Nat) (F : Nat → Nat → Int) (hn2 : n ≤ 1000000000) (x y : Int) (w : World) (hr : Tab w w.heap.size 6 A n F) :
    Calls Try.prog 37 #[.slice A n c, .agg #[.int .i64 x, .int .i64 y]] w fun e w' => e = .returned (.int .i64 (optI (metTo F x y n))) ∧ Below w.heap.size w w' := by
  replace hr := Lib.hid hr
  go_enter Try.func37, Try.ntmps37
  go_wp2_with fail
  go_loopw [5, 10] (fun f i wr => ∃ k : Nat, k ≤ n ∧ i = .int .i64 k ∧ f = .int .i64 (optI (metTo F x y k)) ∧ Hid (wr.cell? ⟨w.heap.size, 0, none⟩ = some (.int .i64 x) ∧ wr.cell? ⟨w.heap.size, 1, none⟩ = some (.int .i64 y)) ∧ Hid (Below w.heap.size w wr) ∧ w.heap.size < wr.heap.size) (fun _ i _ => n - (intOf i).toNat)
  case atStart => exact ⟨0, Nat.zero_le _, rfl, rfl, Lib.hid ⟨cell_new w #[.int .i64 x, .int .i64 y] _ rfl, cell_new w #[.int .i64 x, .int .i64 y] _ rfl⟩, Lib.hid ((Below.refl _ _).alloc (Nat.le_refl _) _), by simp⟩
  case round =>
    obtain ⟨k, hk, rfl, rfl, hhd, hbw, hsz⟩ := hrel
    by_cases hlt : k < n
    · obtain ⟨b, o, rfl, hb, hc⟩ := hr.out.1 (by omega)
      have hcw := hc.below hb hbw.out
      obtain ⟨h0, h1, h2, h3, h4, h5⟩ := hcw.row6 hlt
      obtain ⟨q0, q1⟩ := hhd.out
      have hbs : b < wr.heap.size := by omega
      have H : Hid (metTo F x y (k + 1) = match metTo F x y k with | none => if F k 2 = x then some k else none | some f => if F k 2 = x ∧ soon (F k 3) (F f 3) y = true then some k else some f) := Lib.hid rfl
      have hbe := Lib.hid hbw.out.size
      by_cases hx : F k 2 = x
      · have hd : (F k 2 == x) = true := beq_iff_eq.mpr hx
        cases hm : metTo F x y k with
        | none =>
          rw [hm] at H
          rw [show optI none = (-1 : Int) from rfl]
          have hx' := Lib.hid hx
          clear hx hm
          replace hcw := Lib.hid hcw
          clear hc
          have hfin : Hid (optI (metTo F x y (k + 1)) = (k : Int)) := Lib.hid (by rw [H.out]; simp only; rw [if_pos hx'.out]; rfl)
          clear H
          go_wp2_with fail
          go_quiet (fail)
          go_wp2
          go_roundw
          case rel => exact ⟨k + 1, by omega, by go_num, by rw [hfin.out], Lib.hid ⟨(World.cell?_alloc_lt wr _ _ hsz).trans q0, (World.cell?_alloc_lt wr _ _ hsz).trans q1⟩, Lib.hid (below_drewN (hbw.out.alloc hbe.out _) _), by simp; omega⟩
          case measure => simp [intOf]; omega
        | some f =>
          rw [hm] at H
          rw [show optI (some f) = (f : Int) from rfl]
          have hf := metTo_lt F x y k f hm
          have hfn : f < n := by omega
          have g3 := hcw.one (i := f) (j := 3) hfn (by omega)
          have hx' := Lib.hid hx
          clear hx hm hf
          replace hcw := Lib.hid hcw
          clear hc
          have hne : ((f : Int) == -1) = false := beq_eq_false_iff_ne.mpr (by omega)
          by_cases hs : soon (F k 3) (F f 3) y = true
          · have hfin : Hid (optI (metTo F x y (k + 1)) = (k : Int)) := Lib.hid (by rw [H.out]; simp only; rw [if_pos ⟨hx'.out, hs⟩]; rfl)
            have hso := fun W => sooner_any (F k 3) (F f 3) y W
            rw [hs] at hso
            replace hso := Lib.hid hso
            replace hs := Lib.hid hs
            clear H
            go_wp2_with fail
            go_quiet ((go_at_call 43; exact Calls.quiet_of_same (hso.out _)))
            go_wp2
            go_roundw
            case rel => exact ⟨k + 1, by omega, by go_num, by rw [hfin.out], Lib.hid ⟨(World.cell?_alloc_lt wr _ _ hsz).trans q0, (World.cell?_alloc_lt wr _ _ hsz).trans q1⟩, Lib.hid (below_drewN (hbw.out.alloc hbe.out _) _), by simp; omega⟩
            case measure => simp [intOf]; omega
          · rw [Bool.not_eq_true] at hs
            have hfin : Hid (optI (metTo F x y (k + 1)) = (f : Int)) := Lib.hid (by rw [H.out]; simp only; rw [if_neg (by rw [hs]; simp)]; rfl)
            have hso := fun W => sooner_any (F k 3) (F f 3) y W
            rw [hs] at hso
            replace hso := Lib.hid hso
            replace hs := Lib.hid hs
            clear H
            go_wp2_with fail
            go_quiet ((go_at_call 43; exact Calls.quiet_of_same (hso.out _)))
            go_wp2
            go_roundw
            case rel => exact ⟨k + 1, by omega, by go_num, by rw [hfin.out], Lib.hid ⟨(World.cell?_alloc_lt wr _ _ hsz).trans q0, (World.cell?_alloc_lt wr _ _ hsz).trans q1⟩, Lib.hid (below_drewN (hbw.out.alloc hbe.out _) _), by simp; omega⟩
            case measure => simp [intOf]; omega
      · have hd : (F k 2 == x) = false := beq_eq_false_iff_ne.mpr hx
        have hfin : Hid (metTo F x y (k + 1) = metTo F x y k) := Lib.hid (by
          rw [H.out]
          cases metTo F x y k with
          | none => simp only; rw [if_neg hx]
          | some f => simp only; rw [if_neg (fun h => hx h.1)])
        have hx' := Lib.hid hx
        clear hx H
        replace hcw := Lib.hid hcw
        clear hc
        generalize metTo F x y k = q at *
        go_wp2_with fail
        go_quiet (fail)
        go_wp2
        go_roundw
        case rel => exact ⟨k + 1, by omega, by go_num, by rw [hfin.out], Lib.hid ⟨(World.cell?_alloc_lt wr _ _ hsz).trans q0, (World.cell?_alloc_lt wr _ _ hsz).trans q1⟩, Lib.hid (below_drewN (hbw.out.alloc hbe.out _) _), by simp; omega⟩
        case measure => simp [intOf]; omega
    · obtain rfl : k = n := by omega
      go_wp2
      go_ret
      exact ⟨rfl, hbw.out⟩
def upC (F : Nat → Nat → Int) (c p : Int) (k : Nat) : Bool := decide (p ≤ F k 3) && (match upTo F c p k with | none => true | some f => decide (F k 3 < F f 3))
def lowC (F : Nat → Nat → Int) (c : Int) (k : Nat) : Bool := match lowTo F c k with | none => true | some f => decide (F k 3 < F f 3)
theorem upTo_succ (F : Nat → Nat → Int) (c p : Int) (k : Nat) (hx : F k 2 = c) : upTo F c p (k + 1) = if upC F c p k = true then some k else upTo F c p k := by
  show (if F k 2 = c ∧ p ≤ F k 3 then (match upTo F c p k with | none => some k | some f => if F k 3 < F f 3 then some k else some f) else upTo F c p k) = _
  unfold upC
  by_cases hp : p ≤ F k 3
  · rw [if_pos ⟨hx, hp⟩]
    cases upTo F c p k with
    | none => simp [hp]
    | some f => by_cases h : F k 3 < F f 3 <;> simp [hp, h]
  · rw [if_neg (fun h => hp h.2)]
    simp [hp]
theorem upTo_other (F : Nat → Nat → Int) (c p : Int) (k : Nat) (hx : ¬ F k 2 = c) : upTo F c p (k + 1) = upTo F c p k := if_neg (fun h => hx h.1)
theorem lowTo_succ (F : Nat → Nat → Int) (c : Int) (k : Nat) (hx : F k 2 = c) : lowTo F c (k + 1) = if lowC F c k = true then some k else lowTo F c k := by
  show (if F k 2 = c then (match lowTo F c k with | none => some k | some f => if F k 3 < F f 3 then some k else some f) else lowTo F c k) = _
  unfold lowC
  rw [if_pos hx]
  cases lowTo F c k with
  | none => simp
  | some f => by_cases h : F k 3 < F f 3 <;> simp [h]
theorem lowTo_other (F : Nat → Nat → Int) (c : Int) (k : Nat) (hx : ¬ F k 2 = c) : lowTo F c (k + 1) = lowTo F c k := if_neg hx
set_option maxHeartbeats 4000000 in
set_option maxRecDepth 10000 in
theorem rmeets_any (A : Option Addr) (n c : Nat) (F : Nat → Nat → Int) (hn2 : n ≤ 1000000000) (x y : Int) (w : World) (hr : Tab w w.heap.size 6 A n F) :
    Calls Try.prog 40 #[.slice A n c, .agg #[.int .i64 x, .int .i64 y]] w fun e w' => e = .returned (.int .i64 (optI (metTo F x y n))) ∧ Below w.heap.size w w' := by
  replace hr := Lib.hid hr
  go_enter Try.func40, Try.ntmps40
  go_wp2_with fail
  go_loopw [5, 6, 7] (fun u l i wr => ∃ k : Nat, k ≤ n ∧ i = .int .i64 k ∧ u = .int .i64 (optI (upTo F x y k)) ∧ l = .int .i64 (optI (lowTo F x k)) ∧ Hid (wr.cell? ⟨w.heap.size, 0, none⟩ = some (.int .i64 x) ∧ wr.cell? ⟨w.heap.size, 1, none⟩ = some (.int .i64 y)) ∧ Hid (Below w.heap.size w wr)) (fun _ _ i _ => n - (intOf i).toNat)
  case atStart => exact ⟨0, Nat.zero_le _, rfl, rfl, rfl, Lib.hid ⟨cell_new w #[.int .i64 x, .int .i64 y] _ rfl, cell_new w #[.int .i64 x, .int .i64 y] _ rfl⟩, Lib.hid ((Below.refl _ _).alloc (Nat.le_refl _) _)⟩
  case round =>
    obtain ⟨k, hk, rfl, rfl, rfl, hhd, hbw⟩ := hrel
    have HE := Lib.hid (metTo_eq F x y k)
    by_cases hlt : k < n
    · obtain ⟨b, o, rfl, hb, hc⟩ := hr.out.1 (by omega)
      have hcw := hc.below hb hbw.out
      have h2 := hcw.one (i := k) (j := 2) hlt (by omega)
      have h3 := hcw.one (i := k) (j := 3) hlt (by omega)
      obtain ⟨q0, q1⟩ := hhd.out
      by_cases hx : F k 2 = x
      · have hd : (F k 2 != x) = false := by rw [hx]; simp
        have HU := Lib.hid (upTo_succ F x y k hx)
        have HL := Lib.hid (lowTo_succ F x k hx)
        clear hx
        replace hcw := Lib.hid hcw
        replace hc := Lib.hid hc
        obtain ⟨uv, huv⟩ : ∃ uv, Hid (optI (upTo F x y k) = uv) := ⟨_, Lib.hid rfl⟩
        obtain ⟨lv, hlv⟩ : ∃ lv, Hid (optI (lowTo F x k) = lv) := ⟨_, Lib.hid rfl⟩
        rw [huv.out, hlv.out]
        go_wp2_with fail
        go_region
        go_upto_region 6 with (fail)
        go_cut [46] (fun v wx => v = .bool (upC F x y k) ∧ Hid (wx.cell? ⟨w.heap.size, 0, none⟩ = some (.int .i64 x) ∧ wx.cell? ⟨w.heap.size, 1, none⟩ = some (.int .i64 y)) ∧ Hid (Below w.heap.size w wx))
        case first =>
          by_cases hp : y ≤ F k 3
          · have hdp : decide (y ≤ F k 3) = true := decide_eq_true hp
            cases hu : upTo F x y k with
            | none =>
              obtain rfl : uv = -1 := by rw [← huv.out, hu]; rfl
              have hfin : Hid (upC F x y k = true) := Lib.hid (by unfold upC; rw [hu, hdp]; rfl)
              clear hp hu
              go_quiet (fail)
              go_wp2
              go_meet
              exact ⟨by rw [hfin.out], Lib.hid ⟨q0, q1⟩, Lib.hid (below_drewN hbw.out.drew _)⟩
            | some f =>
              obtain rfl : uv = (f : Int) := by rw [← huv.out, hu]; rfl
              have hf := (HE.out.2.1 f hu).2.1
              have hfn : f < n := by omega
              have g3 := hcw.out.one (i := f) (j := 3) hfn (by omega)
              have hf0 : decide ((f : Int) < 0) = false := decide_eq_false (by omega)
              have hfin : Hid (upC F x y k = decide (F k 3 < F f 3)) := Lib.hid (by unfold upC; rw [hu, hdp]; rfl)
              clear hp hu hf
              go_quiet (fail)
              go_wp2
              go_meet
              exact ⟨by rw [hfin.out], Lib.hid ⟨q0, q1⟩, Lib.hid (below_drewN hbw.out.drew _)⟩
          · have hdp : decide (y ≤ F k 3) = false := decide_eq_false hp
            have hfin : Hid (upC F x y k = false) := Lib.hid (by unfold upC; rw [hdp]; rfl)
            clear hp
            go_quiet (fail)
            go_wp2
            go_meet
            exact ⟨by rw [hfin.out], Lib.hid ⟨q0, q1⟩, Lib.hid (below_drewN hbw.out.drew _)⟩
        case rest =>
          obtain ⟨rfl, hhd2, hbw2⟩ := hcut
          clear h2 h3 q0 q1 hhd hbw
          obtain ⟨uu, huu⟩ : ∃ uu, Hid (optI (upTo F x y (k + 1)) = uu) := ⟨_, Lib.hid rfl⟩
          obtain ⟨ub, hub⟩ : ∃ ub, Hid (upC F x y k = ub) := ⟨_, Lib.hid rfl⟩
          rw [hub.out]
          go_upto_if 46 with (fail)
          go_cut [5] (fun v wx => v = .int .i64 uu ∧ Hid (wx.cell? ⟨w.heap.size, 0, none⟩ = some (.int .i64 x) ∧ wx.cell? ⟨w.heap.size, 1, none⟩ = some (.int .i64 y)) ∧ Hid (Below w.heap.size w wx))
          case first =>
            cases ub with
            | true =>
              obtain rfl : uu = (k : Int) := by rw [← huu.out, HU.out, hub.out]; rfl
              go_wp2
              go_meet
              exact ⟨rfl, hhd2, hbw2⟩
            | false =>
              obtain rfl : uu = uv := by rw [← huu.out, HU.out, hub.out, ← huv.out]; rfl
              go_wp2
              go_meet
              exact ⟨rfl, hhd2, hbw2⟩
          case rest =>
            obtain ⟨rfl, hhd3, hbw3⟩ := hcut
            have hcw3 := hc.out.below hb hbw3.out
            have h3 := hcw3.one (i := k) (j := 3) hlt (by omega)
            cases hu : lowTo F x k with
            | none =>
              obtain rfl : lv = -1 := by rw [← hlv.out, hu]; rfl
              have hfin : Hid (optI (lowTo F x (k + 1)) = (k : Int)) := Lib.hid (by rw [HL.out]; unfold lowC; rw [hu]; rfl)
              replace hcw3 := Lib.hid hcw3
              clear hu
              go_wp2_with fail
              go_quiet (fail)
              go_wp2
              go_roundw
              case rel => exact ⟨k + 1, by omega, by go_num, by rw [huu.out], by rw [hfin.out], hhd3, Lib.hid (below_drewN hbw3.out _)⟩
              case measure => simp [intOf]; omega
            | some f =>
              obtain rfl : lv = (f : Int) := by rw [← hlv.out, hu]; rfl
              have hf := HE.out.2.2.2 f hu
              have hfn : f < n := by omega
              have g3 := hcw3.one (i := f) (j := 3) hfn (by omega)
              have hf0 : decide ((f : Int) < 0) = false := decide_eq_false (by omega)
              have hfin : Hid (optI (lowTo F x (k + 1)) = if F k 3 < F f 3 then (k : Int) else (f : Int)) := Lib.hid (by
                rw [HL.out]; unfold lowC; rw [hu]
                by_cases hl : F k 3 < F f 3 <;> simp [hl, optI])
              replace hcw3 := Lib.hid hcw3
              clear hu hf
              go_wp2_with fail
              go_quiet (fail)
              go_wp2
              all_goals
                go_roundw
                case rel => exact ⟨k + 1, by omega, by go_num, by rw [huu.out], by rw [hfin.out]; first | rw [if_pos ‹_›] | rw [if_neg (by omega)], hhd3, Lib.hid (below_drewN hbw3.out _)⟩
                case measure => simp [intOf]; omega
      · have hd : (F k 2 != x) = true := by rw [bne_iff_ne]; exact hx
        have HU := Lib.hid (upTo_other F x y k hx)
        have HL := Lib.hid (lowTo_other F x k hx)
        clear hx
        replace hcw := Lib.hid hcw
        replace hc := Lib.hid hc
        obtain ⟨uv, huv⟩ : ∃ uv, Hid (optI (upTo F x y k) = uv) := ⟨_, Lib.hid rfl⟩
        obtain ⟨lv, hlv⟩ : ∃ lv, Hid (optI (lowTo F x k) = lv) := ⟨_, Lib.hid rfl⟩
        rw [huv.out, hlv.out]
        go_wp2_with fail
        go_region
        go_wp2
        go_roundw
        case rel => exact ⟨k + 1, by omega, by go_num, by rw [HU.out, huv.out], by rw [HL.out, hlv.out], hhd, Lib.hid hbw.out.drew⟩
        case measure => simp [intOf]; omega
    · obtain rfl : k = n := by omega
      have hM : Hid (optI (metTo F x y k) = if 0 ≤ optI (upTo F x y k) then optI (upTo F x y k) else optI (lowTo F x k)) := Lib.hid (by
        rw [HE.out.1]
        cases upTo F x y k with
        | none => rfl
        | some f => simp [optI])
      obtain ⟨uv, huv⟩ : ∃ uv, Hid (optI (upTo F x y k) = uv) := ⟨_, Lib.hid rfl⟩
      obtain ⟨lv, hlv⟩ : ∃ lv, Hid (optI (lowTo F x k) = lv) := ⟨_, Lib.hid rfl⟩
      rw [huv.out, hlv.out] at hM
      rw [huv.out, hlv.out]
      go_wp2
      all_goals
        rw [hM.out]
        first | rw [if_pos ‹_›] | rw [if_neg (by omega)]
        go_ret
        exact ⟨rfl, hbw.out⟩
set_option maxHeartbeats 4000000 in
set_option maxRecDepth 10000 in
theorem next_any (A : Option Addr) (n c : Nat) (F : Nat → Nat → Int) (hn2 : n ≤ 1000000000) (A2 : Option Addr) (m c2 : Nat) (G : Nat → Nat → Int) (hm2 : m ≤ 1000000000) (now age : Int) (hnow : I64 now) (hage : I64 age) (w : World) (hr : Tab w w.heap.size 6 A n F) (hg : Tab w w.heap.size 2 A2 m G) :
    Calls Try.prog 27 #[.slice A n c, .slice A2 m c2, .int .i64 now, .int .i64 age] w fun e w' => e = .returned (.tuple #[.int .i64 (nextOf F n G m now age).1, .bool (nextOf F n G m now age).2]) ∧ Below w.heap.size w w' := by
  replace hr := Lib.hid hr
  replace hg := Lib.hid hg
  by_cases hn : n = 0
  · subst hn
    rw [show nextOf F 0 G m now age = (0, false) from rfl]
    go_enter Try.func27, Try.ntmps27
    go_wp2
    go_ret2
    exact ⟨rfl, Below.refl _ _⟩
  · obtain ⟨b, o, rfl, hb, hc⟩ := hr.out.1 (by omega)
    have hlt := oldTo_lt F (k := n) (by omega)
    have h64 := Lib.hid (hr.out.2 (oldTo F n) 5 hlt (by omega))
    have hold := Lib.hid (fun W => oldest_any (some ⟨b, o, none⟩) n c F (by omega) hn2 W)
    have hN : Hid (nextOf F n G m now age = if overD (F (oldTo F n) 5) now age = true then (oldTo F n, true) else match pickTo F n G m with | some f => (f, true) | none => (oldTo F n, true)) := Lib.hid (if_neg hn)
    have hbn : ((n : Int) == 0) = false := beq_eq_false_iff_ne.mpr (by omega)
    obtain ⟨q, hq⟩ : ∃ q, Hid (oldTo F n = q) := ⟨_, Lib.hid rfl⟩
    rw [hq.out] at hlt h64 hold hN
    replace hc := Lib.hid hc
    replace hn := Lib.hid hn
    go_enter Try.func27, Try.ntmps27
    go_wp2_with fail
    refine (hold.out _ hr.out).mono ?_
    rintro e w1 ⟨rfl, hb1⟩
    have g5 := (hc.out.below hb hb1).one (i := q) (j := 5) hlt (by omega)
    replace hb1 := Lib.hid hb1
    obtain ⟨bo, hbo⟩ : ∃ bo, Hid (overD (F q 5) now age = bo) := ⟨_, Lib.hid rfl⟩
    have hov := Lib.hid (fun W => overdue_any (F q 5) now age h64.out hnow hage W)
    rw [hbo.out] at hov
    go_wp2_with fail
    refine (hov.out _).mono ?_
    rintro e w1' ⟨rfl, rfl⟩
    cases bo with
    | true =>
      have hfin := Lib.hid (show nextOf F n G m now age = (q, true) by rw [hN.out, hbo.out]; rfl)
      go_wp2
      rw [hfin.out]
      go_ret2
      exact ⟨rfl, hb1.out⟩
    | false =>
      have hN2 : Hid (nextOf F n G m now age = match pickTo F n G m with | some f => (f, true) | none => (q, true)) := Lib.hid (by rw [hN.out, hbo.out]; rfl)
      clear hN
      go_wp2_with fail
      go_loopw [30] (fun i wr => ∃ k : Nat, k ≤ m ∧ i = .int .i64 k ∧ Hid (pickTo F n G k = none) ∧ Hid (Below w.heap.size w wr)) (fun i _ => m - (intOf i).toNat)
      case atStart => exact ⟨0, Nat.zero_le _, rfl, Lib.hid rfl, hb1⟩
      case round =>
        obtain ⟨k, hk, rfl, hpk, hbw⟩ := hrel
        clear g5
        by_cases hlt2 : k < m
        · obtain ⟨b2, o2, rfl, hbb, hc2⟩ := hg.out.1 (by omega)
          obtain ⟨h0, h1⟩ := (hc2.below hbb hbw.out).row2 hlt2
          have hP : Hid (pickTo F n G (k + 1) = metTo F (G k 0) (G k 1) n) := Lib.hid (by show (match pickTo F n G k with | some f => some f | none => metTo F (G k 0) (G k 1) n) = _; rw [hpk.out])
          replace hc2 := Lib.hid hc2
          have hz := Lib.hid hbw.out.size
          go_wp2_with fail
          refine (met_any (some ⟨b, o, none⟩) n c F hn2 (G k 0) (G k 1) _ ?_).mono ?_
          · exact ((hr.out.below hbw.out).alloc hz.out _).more (by simp; have := hz.out; omega)
          rintro e w2 ⟨rfl, hb2⟩
          have hb3 : Below w.heap.size w w2 := (hbw.out.alloc hz.out _).trans (hb2.mono (by simp; have := hz.out; omega))
          replace hb3 := Lib.hid hb3
          clear hb2
          cases hm : metTo F (G k 0) (G k 1) n with
          | none =>
            rw [show optI none = (-1 : Int) from rfl]
            rw [hm] at hP
            clear hm
            go_wp2
            go_roundw
            case rel => exact ⟨k + 1, by omega, by go_num, hP, hb3⟩
            case measure => simp [intOf]; omega
          | some f =>
            rw [show optI (some f) = (f : Int) from rfl]
            rw [hm] at hP
            clear hm
            have hpm : pickTo F n G m = some f := by
              have := pickTo_stay F n G hP.out (m - (k + 1))
              rwa [show k + 1 + (m - (k + 1)) = m from by omega] at this
            have hfin := Lib.hid (show nextOf F n G m now age = (f, true) by rw [hN2.out, hpm])
            clear hpm
            have hne : ((f : Int) != -1) = true := by rw [bne_iff_ne]; omega
            go_wp2
            rw [hfin.out]
            go_ret2
            exact ⟨rfl, hb3.out⟩
        · obtain rfl : k = m := by omega
          have hfin := Lib.hid (show nextOf F n G k now age = (q, true) by rw [hN2.out, hpk.out])
          go_wp2
          rw [hfin.out]
          go_ret2
          exact ⟨rfl, hbw.out⟩
set_option maxHeartbeats 4000000 in
set_option maxRecDepth 10000 in
theorem rnext_any (A : Option Addr) (n c : Nat) (F : Nat → Nat → Int) (hn2 : n ≤ 1000000000) (A2 : Option Addr) (m c2 : Nat) (G : Nat → Nat → Int) (hm2 : m ≤ 1000000000) (now age : Int) (hnow : I64 now) (hage : I64 age) (w : World) (hr : Tab w w.heap.size 6 A n F) (hg : Tab w w.heap.size 2 A2 m G) :
    Calls Try.prog 28 #[.slice A n c, .slice A2 m c2, .int .i64 now, .int .i64 age] w fun e w' => e = .returned (.tuple #[.int .i64 (nextOf F n G m now age).1, .bool (nextOf F n G m now age).2]) ∧ Below w.heap.size w w' := by
  replace hr := Lib.hid hr
  replace hg := Lib.hid hg
  by_cases hn : n = 0
  · subst hn
    rw [show nextOf F 0 G m now age = (0, false) from rfl]
    go_enter Try.func28, Try.ntmps28
    go_wp2
    go_ret2
    exact ⟨rfl, Below.refl _ _⟩
  · obtain ⟨b, o, rfl, hb, hc⟩ := hr.out.1 (by omega)
    have hlt := oldTo_lt F (k := n) (by omega)
    have h64 := Lib.hid (hr.out.2 (oldTo F n) 5 hlt (by omega))
    have hold := Lib.hid (fun W => roldest_any (some ⟨b, o, none⟩) n c F (by omega) hn2 W)
    have hN : Hid (nextOf F n G m now age = if overD (F (oldTo F n) 5) now age = true then (oldTo F n, true) else match pickTo F n G m with | some f => (f, true) | none => (oldTo F n, true)) := Lib.hid (if_neg hn)
    have hbn : ((n : Int) == 0) = false := beq_eq_false_iff_ne.mpr (by omega)
    obtain ⟨q, hq⟩ : ∃ q, Hid (oldTo F n = q) := ⟨_, Lib.hid rfl⟩
    rw [hq.out] at hlt h64 hold hN
    replace hc := Lib.hid hc
    replace hn := Lib.hid hn
    go_enter Try.func28, Try.ntmps28
    go_wp2_with fail
    refine (hold.out _ hr.out).mono ?_
    rintro e w1 ⟨rfl, hb1⟩
    have g5 := (hc.out.below hb hb1).one (i := q) (j := 5) hlt (by omega)
    replace hb1 := Lib.hid hb1
    obtain ⟨bo, hbo⟩ : ∃ bo, Hid (overD (F q 5) now age = bo) := ⟨_, Lib.hid rfl⟩
    have hov := Lib.hid (fun W => far_any now (F q 5) age h64.out hnow hage W)
    rw [hbo.out] at hov
    go_wp2_with fail
    refine (hov.out _).mono ?_
    rintro e w1' ⟨rfl, rfl⟩
    cases bo with
    | true =>
      have hfin := Lib.hid (show nextOf F n G m now age = (q, true) by rw [hN.out, hbo.out]; rfl)
      go_wp2
      rw [hfin.out]
      go_ret2
      exact ⟨rfl, hb1.out⟩
    | false =>
      have hN2 : Hid (nextOf F n G m now age = match pickTo F n G m with | some f => (f, true) | none => (q, true)) := Lib.hid (by rw [hN.out, hbo.out]; rfl)
      clear hN
      go_wp2_with fail
      go_loopw [11] (fun i wr => ∃ k : Nat, k ≤ m ∧ i = .int .i64 k ∧ Hid (pickTo F n G k = none) ∧ Hid (Below w.heap.size w wr)) (fun i _ => m - (intOf i).toNat)
      case atStart => exact ⟨0, Nat.zero_le _, rfl, Lib.hid rfl, hb1⟩
      case round =>
        obtain ⟨k, hk, rfl, hpk, hbw⟩ := hrel
        clear g5
        by_cases hlt2 : k < m
        · obtain ⟨b2, o2, rfl, hbb, hc2⟩ := hg.out.1 (by omega)
          obtain ⟨h0, h1⟩ := (hc2.below hbb hbw.out).row2 hlt2
          have hP : Hid (pickTo F n G (k + 1) = metTo F (G k 0) (G k 1) n) := Lib.hid (by show (match pickTo F n G k with | some f => some f | none => metTo F (G k 0) (G k 1) n) = _; rw [hpk.out])
          replace hc2 := Lib.hid hc2
          have hz := Lib.hid hbw.out.size
          go_wp2_with fail
          refine (rmeets_any (some ⟨b, o, none⟩) n c F hn2 (G k 0) (G k 1) _ ?_).mono ?_
          · exact (hr.out.below hbw.out).more hz.out
          rintro e w2 ⟨rfl, hb2⟩
          have hb3 : Below w.heap.size w w2 := hbw.out.trans (hb2.mono hz.out)
          replace hb3 := Lib.hid hb3
          clear hb2
          cases hm : metTo F (G k 0) (G k 1) n with
          | none =>
            rw [show optI none = (-1 : Int) from rfl]
            rw [hm] at hP
            clear hm
            go_wp2
            go_roundw
            case rel => exact ⟨k + 1, by omega, by go_num, hP, hb3⟩
            case measure => simp [intOf]; omega
          | some f =>
            rw [show optI (some f) = (f : Int) from rfl]
            rw [hm] at hP
            clear hm
            have hpm : pickTo F n G m = some f := by
              have := pickTo_stay F n G hP.out (m - (k + 1))
              rwa [show k + 1 + (m - (k + 1)) = m from by omega] at this
            have hfin := Lib.hid (show nextOf F n G m now age = (f, true) by rw [hN2.out, hpm])
            clear hpm
            have hne : decide (0 ≤ (f : Int)) = true := decide_eq_true (by omega)
            go_wp2
            rw [hfin.out]
            go_ret2
            exact ⟨rfl, hb3.out⟩
        · obtain rfl : k = m := by omega
          have hfin := Lib.hid (show nextOf F n G k now age = (q, true) by rw [hN2.out, hpk.out])
          go_wp2
          rw [hfin.out]
          go_ret2
          exact ⟨rfl, hbw.out⟩
end Go.Proofs.Ytppclmidnomkjab
