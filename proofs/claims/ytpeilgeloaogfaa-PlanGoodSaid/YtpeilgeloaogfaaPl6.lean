/- plan: More, the program's and the reference's. -/
import Derived.Test.YtpeilgeloaogfaaPl4
namespace Go.Proofs.Ytpeilgeloaogfaa
set_option linter.unusedVariables false
set_option linter.unusedSimpArgs false
open Go Go.RowKit
/-- the first of the ten of s that is not asked -/
def MoreIs (asked : List Bool) (n s : Nat) (r : Nat) (b : Bool) : Prop :=
  (b = true → r < n ∧ r / 10 = s / 10 ∧ markB asked r = false ∧ ∀ k, k < r → k / 10 = s / 10 → markB asked k = true) ∧ (b = false → r = 0 ∧ ∀ k, k < n → k / 10 = s / 10 → markB asked k = true)
theorem MoreIs.one {asked : List Bool} {n s r r2 : Nat} {b b2 : Bool} (h : MoreIs asked n s r b) (h2 : MoreIs asked n s r2 b2) : r = r2 ∧ b = b2 := by
  cases b <;> cases b2
  · exact ⟨(h.2 rfl).1.trans (h2.2 rfl).1.symm, rfl⟩
  · obtain ⟨a1, a2, a3, a4⟩ := h2.1 rfl
    have := (h.2 rfl).2 r2 a1 a2
    rw [a3] at this
    cases this
  · obtain ⟨a1, a2, a3, a4⟩ := h.1 rfl
    have := (h2.2 rfl).2 r a1 a2
    rw [a3] at this
    cases this
  · obtain ⟨a1, a2, a3, a4⟩ := h.1 rfl
    obtain ⟨b1, b2, b3, b4⟩ := h2.1 rfl
    refine ⟨?_, rfl⟩
    rcases Nat.lt_trichotomy r r2 with hlt | heq | hgt
    · have := b4 r hlt a2
      rw [a3] at this
      cases this
    · exact heq
    · have := a4 r2 hgt b2
      rw [b3] at this
      cases this
/-- what More says of a slot -/
def MoreOf (asked : List Bool) (n : Nat) (z : Int) (r : Nat) (b : Bool) : Prop := if slotB z n = true then MoreIs asked n z.toNat r b else r = 0 ∧ b = false
theorem MoreOf.one {asked : List Bool} {n r r2 : Nat} {z : Int} {b b2 : Bool} (h : MoreOf asked n z r b) (h2 : MoreOf asked n z r2 b2) : r = r2 ∧ b = b2 := by
  unfold MoreOf at h h2
  by_cases hs : slotB z n = true
  · rw [if_pos hs] at h h2
    exact h.one h2
  · rw [if_neg hs] at h h2
    exact ⟨h.1.trans h2.1.symm, h.2.trans h2.2.symm⟩
set_option maxHeartbeats 4000000 in
set_option maxRecDepth 10000 in
theorem more_any (e : En) (A : Option Addr) (n c : Nat) (hn : n ≤ 1000) (A2 : Option Addr) (n2 c2 : Nat) (asked : List Bool) (z : Int) (w : World) (h : Hid (Bl w A2 n2 asked)) :
    Calls Try.prog 73 #[.agg #[.string (bs e.key), .int .i64 e.gen, .int .i64 e.size, .string (bs e.sum), .slice A n c], .slice A2 n2 c2, .int .i64 z] w fun r w' => ∃ (k : Nat) (b : Bool), r = .returned (.tuple #[.int .i64 k, .bool b]) ∧ Hid (MoreOf asked n z k b) ∧ Gr w w' := by
  have hb1 : Gr w (w.alloc (.cells #[.string (bs e.key), .int .i64 e.gen, .int .i64 e.size, .string (bs e.sum), .slice A n c] 79)) := (Below.refl _ _).alloc (Nat.le_refl _) _
  have x1 := Lib.hid (heap_alloc_new w (.cells #[.string (bs e.key), .int .i64 e.gen, .int .i64 e.size, .string (bs e.sum), .slice A n c] 79))
  have h1 := Bl.gr hb1 h
  have c0 := blk_cell (j := 0) x1.out rfl
  have c1 := blk_cell (j := 1) x1.out rfl
  have c2' := blk_cell (j := 2) x1.out rfl
  have c3 := blk_cell (j := 3) x1.out rfl
  have c4 := blk_cell (j := 4) x1.out rfl
  replace hb1 := Lib.hid hb1
  go_enter Try.func73, Try.ntmps73
  go_wp2_with fail
  refine (hasSlot_any e A n c z _).mono ?_
  rintro r w3 ⟨rfl, hr⟩
  clear c0 c1 c2' c3 c4
  replace x1 := Lib.hid ((hr.block _ (Array.getElem?_eq_some_iff.mp x1.out).1).trans x1.out)
  replace h1 := Bl.gr hr h1
  have hq := Lib.hid (hb1.out.trans hr)
  clear hr hb1
  have c4 := blk_cell (j := 4) x1.out rfl
  cases hs : slotB z n with
  | false =>
    have hfin : MoreOf asked n z 0 false := by unfold MoreOf; rw [if_neg (by rw [hs]; decide)]; exact ⟨rfl, rfl⟩
    replace hs := Lib.hid hs
    replace hfin := Lib.hid hfin
    go_wp2_with fail
    go_ret2
    first | exact ⟨0, false, rfl, hfin, hq.out⟩ | exact ⟨0, .inl ⟨rfl, hfin, hq.out⟩⟩
  | true =>
    have hz : 0 ≤ z ∧ z < n := by unfold slotB at hs; simpa using hs
    obtain ⟨s, rfl⟩ := Int.eq_ofNat_of_zero_le hz.1
    have hsn : s < n := by omega
    have hof : ∀ k b, MoreIs asked n s k b → MoreOf asked n (s : Int) k b := fun k b hk => by unfold MoreOf; rw [if_pos hs, Int.toNat_natCast]; exact hk
    replace hs := Lib.hid hs
    replace hof := Lib.hid hof
    have t2 := tmod10 s
    obtain ⟨p, hp⟩ : ∃ p, s % 10 = p := ⟨_, rfl⟩
    rw [hp] at t2
    obtain ⟨a, ha⟩ : ∃ a, s - p = a := ⟨_, rfl⟩
    have e1 : IntKind.i64.wrap ((s : Int) - (p : Int)) = (a : Int) := by rw [i64_wrap_idP (by omega) (by omega)]; omega
    have e1' : (s : Int) - (p : Int) = (a : Int) := by omega
    obtain ⟨a1, ha1⟩ : ∃ x, a + 10 = x := ⟨_, rfl⟩
    have e2 : IntKind.i64.wrap ((a : Int) + 10) = (a1 : Int) := by rw [i64_wrap_idP (by omega) (by omega)]; omega
    have e2' : (a : Int) + 10 = (a1 : Int) := by omega
    obtain ⟨m, hm⟩ : ∃ x, min a1 n = x := ⟨_, rfl⟩
    have hmin : (if n < a1 then (n : Int) else (a1 : Int)) = (m : Int) := by split <;> omega
    have hmin2 : (if a1 < n then (a1 : Int) else (n : Int)) = (m : Int) := by split <;> omega
    have hmin3 : (if a1 ≤ n then (a1 : Int) else (n : Int)) = (m : Int) := by split <;> omega
    have ha10 : ∀ k, k / 10 = s / 10 ↔ a ≤ k ∧ k < a1 := fun k => by omega
    have hms : m ≤ n ∧ m ≤ a1 ∧ (m = n ∨ m = a1) ∧ a ≤ m := by omega
    replace hp := Lib.hid hp
    replace ha := Lib.hid ha
    replace ha1 := Lib.hid ha1
    replace hm := Lib.hid hm
    replace ha10 := Lib.hid ha10
    replace hms := Lib.hid hms
    go_wp2_with fail
    go_loopw [9] (fun v wr => ∃ k : Nat, a ≤ k ∧ k ≤ m ∧ v = .int .i64 k ∧ Hid (∀ j, a ≤ j → j < k → markB asked j = true) ∧ wr = w3) (fun v _ => (m - intOf v).toNat)
    case atStart => exact ⟨a, Nat.le_refl _, by have := hms.out; omega, rfl, Lib.hid (fun j h1 h2 => absurd h2 (by omega)), rfl⟩
    case round =>
      obtain ⟨k, hk1, hk2, rfl, hall, rfl⟩ := hrel
      by_cases hkm : k < m
      · have i1 : (k : Int) < (m : Int) := by omega
        have hm2 := hms.out
        go_wp2_with fail
        refine (marked_any A2 n2 c2 asked k (by omega) _ h1).mono ?_
        rintro r wr ⟨rfl, rfl⟩
        cases hmk : markB asked k with
        | true =>
          have hnext : Hid (∀ j, a ≤ j → j < k + 1 → markB asked j = true) := Lib.hid (fun j h1 h2 => by
            by_cases e : j = k
            · rw [e]; exact hmk
            · exact hall.out j h1 (by omega))
          replace hmk := Lib.hid hmk
          go_wp2_with fail
          go_roundw
          case rel => exact ⟨k + 1, by omega, by omega, by go_num, hnext, by first | trivial | rfl⟩
          case measure => simp [intOf]; omega
        | false =>
          have hfin := hof.out k true ⟨fun _ => ⟨by omega, (ha10.out k).mpr ⟨hk1, by omega⟩, hmk, fun j hj hj2 => hall.out j ((ha10.out j).mp hj2).1 hj⟩, fun h => by cases h⟩
          replace hmk := Lib.hid hmk
          replace hfin := Lib.hid hfin
          go_wp2_with fail
          go_ret2
          first | exact ⟨k, true, rfl, hfin, hq.out⟩ | exact ⟨k, .inr ⟨rfl, hfin, hq.out⟩⟩
      · have i1 : decide ((k : Int) < (m : Int)) = false := decide_eq_false (by omega)
        have i1' : ¬ ((k : Int) < (m : Int)) := by omega
        have hfin := hof.out 0 false ⟨fun h => (by cases h), fun _ => ⟨rfl, fun j hj hj2 => hall.out j ((ha10.out j).mp hj2).1 (by have := (ha10.out j).mp hj2; have := hms.out; omega)⟩⟩
        replace hfin := Lib.hid hfin
        go_wp2_with fail
        go_ret2
        first | exact ⟨0, false, rfl, hfin, hq.out⟩ | exact ⟨0, .inl ⟨rfl, hfin, hq.out⟩⟩
end Go.Proofs.Ytpeilgeloaogfaa
