/- plan: the reference's More. -/
import Derived.Test.YtpeilgeloaogfaaPl6
import Derived.Test.YtpeilgeloaogfaaPl7
namespace Go.Proofs.Ytpeilgeloaogfaa
set_option linter.unusedVariables false
set_option linter.unusedSimpArgs false
open Go Go.RowKit
def MorePost (asked : List Bool) (n : Nat) (z : Int) (w : World) (r : Ending) (w' : World) : Prop := ∃ (k : Nat) (b : Bool), r = .returned (.tuple #[.int .i64 k, .bool b]) ∧ Hid (MoreOf asked n z k b) ∧ Gr w w'
set_option maxHeartbeats 8000000 in
set_option maxRecDepth 10000 in
theorem rmore_any (e : En) (A : Option Addr) (n c : Nat) (hn : n ≤ 1000) (A2 : Option Addr) (n2 c2 : Nat) (asked : List Bool) (z : Int) (w : World) (h : Hid (Bl w A2 n2 asked)) :
    Calls Try.prog 74 #[.agg #[.string (bs e.key), .int .i64 e.gen, .int .i64 e.size, .string (bs e.sum), .slice A n c], .slice A2 n2 c2, .int .i64 z] w fun r w' => MorePost asked n z w r w' := by
  have hb1 : Gr w (w.alloc (.cells #[.string (bs e.key), .int .i64 e.gen, .int .i64 e.size, .string (bs e.sum), .slice A n c] 79)) := (Below.refl _ _).alloc (Nat.le_refl _) _
  have x1 := heap_alloc_new w (.cells #[.string (bs e.key), .int .i64 e.gen, .int .i64 e.size, .string (bs e.sum), .slice A n c] 79)
  have h1 := Bl.gr hb1 h
  have c4 := blk_cell (j := 4) x1 rfl
  replace hb1 := Lib.hid hb1
  replace x1 := Lib.hid x1
  cases hs : slotB z n with
  | false =>
    have hfin : MoreOf asked n z 0 false := by unfold MoreOf; rw [if_neg (by rw [hs]; decide)]; exact ⟨rfl, rfl⟩
    replace hfin := Lib.hid hfin
    by_cases h0 : z < 0
    · replace hs := Lib.hid hs
      go_enter Try.func74, Try.ntmps74
      go_wp2_with fail
      go_ret2
      unfold MorePost
      exact ⟨0, false, rfl, hfin, hb1.out⟩
    · have h2 : (n : Int) ≤ z := by unfold slotB at hs; simp at hs; omega
      have h0' : 0 ≤ z := by omega
      replace hs := Lib.hid hs
      go_enter Try.func74, Try.ntmps74
      go_wp2_with fail
      go_ret2
      unfold MorePost
      exact ⟨0, false, rfl, hfin, hb1.out⟩
  | true =>
    have hz : 0 ≤ z ∧ z < n := by unfold slotB at hs; simpa using hs
    obtain ⟨s, rfl⟩ := Int.eq_ofNat_of_zero_le hz.1
    have hsn : s < n := by omega
    have hof : ∀ k b, MoreIs asked n s k b → MoreOf asked n (s : Int) k b := fun k b hk => by unfold MoreOf; rw [if_pos hs, Int.toNat_natCast]; exact hk
    replace hs := Lib.hid hs
    replace hof := Lib.hid hof
    have g1 : ¬ ((n : Int) ≤ (s : Int)) := by omega
    have g2 : (s : Int) < (n : Int) := by omega
    have t1 := tdiv10 s
    obtain ⟨p, hp⟩ : ∃ p, s / 10 = p := ⟨_, rfl⟩
    rw [hp] at t1
    have u1 := wrap64_nat p (by omega)
    replace hp := Lib.hid hp
    go_enter Try.func74, Try.ntmps74
    go_wp2_with fail
    generalize w.alloc (.cells #[.string (bs e.key), .int .i64 e.gen, .int .i64 e.size, .string (bs e.sum), .slice A n c] 79) = w1 at x1 hb1 h1 c4 ⊢
    go_loopw [8] (fun v wr => ∃ k : Nat, k ≤ n ∧ v = .int .i64 k ∧ Hid (∀ j, j < k → j / 10 = s / 10 → markB asked j = true) ∧ wr = w1) (fun v _ => (n - (intOf v).toNat))
    case atStart => exact ⟨0, Nat.zero_le _, rfl, Lib.hid (fun j h1 => absurd h1 (by omega)), rfl⟩
    case round =>
      obtain ⟨k, hk2, rfl, hall, rfl⟩ := hrel
      by_cases hkn : k < n
      · have i1 : (k : Int) < (n : Int) := by omega
        have t2 := tdiv10 k
        obtain ⟨q, hq⟩ : ∃ q, k / 10 = q := ⟨_, rfl⟩
        rw [hq] at t2
        have u2 := wrap64_nat q (by omega)
        have hnext : ∀ _ : (k / 10 = s / 10 → markB asked k = true), Hid (∀ j, j < k + 1 → j / 10 = s / 10 → markB asked j = true) := fun hk => Lib.hid (fun j h1 h2 => by
          by_cases e : j = k
          · subst e; exact hk h2
          · exact hall.out j (by omega) h2)
        by_cases hqp : q = p
        · have e1 : ((q : Int) == (p : Int)) = true := by rw [hqp]; exact beq_self_eq_true _
          have hks : Hid (k / 10 = s / 10) := Lib.hid (by rw [hq, hp.out, hqp])
          replace hq := Lib.hid hq
          replace hqp := Lib.hid hqp
          go_wp2_with fail
          refine (said_any A2 n2 c2 asked k (by omega) _ h1).mono ?_
          rintro r wr ⟨rfl, rfl⟩
          cases hmk : markB asked k with
          | true =>
            have hn2 := hnext (fun _ => hmk)
            clear hnext
            replace hmk := Lib.hid hmk
            go_wp2_with fail
            go_roundw
            case rel => exact ⟨k + 1, by omega, by go_num, hn2, by first | trivial | rfl⟩
            case measure => simp [intOf]; omega
          | false =>
            have hfin := hof.out k true ⟨fun _ => ⟨hkn, hks.out, hmk, hall.out⟩, fun h => by cases h⟩
            replace hmk := Lib.hid hmk
            replace hfin := Lib.hid hfin
            clear hnext
            go_wp2_with fail
            go_ret2
            unfold MorePost
            exact ⟨k, true, rfl, hfin, hb1.out⟩
        · have e1 : ((q : Int) == (p : Int)) = false := by rw [beq_eq_false_iff_ne]; omega
          have hn2 := hnext (fun h => absurd (by rw [hq, hp.out] at h; exact h) hqp)
          clear hnext
          replace hq := Lib.hid hq
          replace hqp := Lib.hid hqp
          go_wp2_with fail
          go_roundw
          case rel => exact ⟨k + 1, by omega, by go_num, hn2, by first | trivial | rfl⟩
          case measure => simp [intOf]; omega
      · obtain rfl : k = n := by omega
        have i1 : decide ((k : Int) < (k : Int)) = false := decide_eq_false (by omega)
        have i1' : ¬ ((k : Int) < (k : Int)) := by omega
        clear hkn
        have hfin := hof.out 0 false ⟨fun h => (by cases h), fun _ => ⟨rfl, hall.out⟩⟩
        replace hfin := Lib.hid hfin
        go_wp2_with fail
        go_ret2
        unfold MorePost
        exact ⟨0, false, rfl, hfin, hb1.out⟩
end Go.Proofs.Ytpeilgeloaogfaa
