/- hold: HoldNone. -/
import Derived.Test.YthhggojpmilmdaaHo9
namespace Go.Proofs.Ythhggojpmilmdaa
set_option linter.unusedVariables false
set_option linter.unusedSimpArgs false
open Go Go.RowKit
theorem byt_nil (lo : Nat) (A : Option Addr) (w : World) : Hid (BytH lo [] A w) := Lib.hid ⟨Rd.nil_, fun _ _ h => by simp at h⟩
theorem fin17 {w w5 w6 : World} {lo : Nat} {ts : List TypeId} (h : GrM w w5) (ht : TChg lo ts w5 w6) (hl : w.heap.size ≤ lo) (h5 : lo ≤ w5.heap.size) : GrM w w6 := Below.trans h ((ht.below h5).mono hl)
set_option maxHeartbeats 4000000 in
set_option maxRecDepth 10000 in
theorem holdNone_any (qt : Int) (k : List UInt8) (A : Option Addr) (l : List UInt8) (n c : Nat) (hn : l.length = n) (w : World) :
    Calls Try.prog 7 #[.int .i64 qt, .string (bs k), .slice A n c] w fun e w' => e = .returned (.bool true) ∧ GrM w w' := by
  have hget := Lib.hid (fun w1 => get17_nil (.string (bs k)) w1)
  have hput := Lib.hid (fun w1 => put17_nil (.string (bs k)) (.slice A n c) w1)
  have hdrop := Lib.hid (fun w1 => drop17_nil (.string (bs k)) w1)
  have hkeys := Lib.hid keys17_nil
  have hused := Lib.hid used_nil
  have hn0 := Lib.hid (new17_any 0 w)
  rw [show quotaOf 0 = 0 from rfl] at hn0
  have hnq : Hid (qt < 0 → ∀ w1, Calls Try.prog 8 #[.int .i64 qt] w1 fun e w' => ∃ g r, e = .returned (.pointer (some ⟨g, 0, none⟩)) ∧ Hid (Hd w' w1.heap.size g r 0 []) ∧ GrM w1 w') := Lib.hid (fun h w1 => by
    have := new17_any qt w1
    rw [show quotaOf qt = 0 from by unfold quotaOf; omega] at this
    exact this)
  have haw := Lib.hid (fun w1 => awake17_any w1)
  by_cases hq : qt < 0
  · replace hnq := Lib.hid (hnq.out hq)
    by_cases he : n = 0
    · subst he
      have hl : l = [] := List.eq_nil_of_length_eq_zero hn
      clear hn
      go_enter Try.func7, Try.ntmps7
      go_wp2_with (first
        | (go_at_call 10; go_must (refine (hget.out _).mono ?_); rintro e w' ⟨rfl, hee⟩; rw [hee]; clear hee)
        | (go_at_call 8; refine hn0.out.mono ?_; rintro e w1 ⟨g0, r0, rfl, hh1, hg1⟩; clear hn0; replace hnq := Lib.hid (hnq.out w1))
        | (go_at_call 8; refine hnq.out.mono ?_; rintro e w2 ⟨g, r, rfl, hh2, hg2⟩; clear hnq; have hlo := Lib.hid (Nat.le_refl _ |> fun (h : w1.heap.size ≤ w1.heap.size) => Nat.le_trans h (Below.size hg2)); have hg02 := Lib.hid (GrM.trans hg1 hg2))
        | (go_at_call 21; go_must (refine (haw.out _).mono ?_); rintro e w5 ⟨rfl, hg5⟩; clear haw; have hp := Lib.hid (put17_yes _ g r 0 [] k [] A 0 c (Lib.hid rfl) (Nat.le_refl _) w5 (Lib.hid (Nat.le_trans hlo.out (Below.size hg5))) (Hd.gr hg5 hh2) (byt_nil _ A w5)))
        | (go_at_call 14; refine hp.out.mono ?_; clear hp; rintro e w6 ⟨rfl, ⟨p, v, -, hh6, -⟩, ht6⟩; have hu := Lib.hid (used_any _ g r 0 _ w6 hh6); have hk6 := Lib.hid (keys17_any _ g r 0 _ (by simp [trimN, dropN]) w6 hh6))
        | (go_at_call 14; go_must (refine (hput.out _).mono ?_); rintro e w' ⟨rfl, hee⟩; rw [hee]; clear hee)
        | (go_at_call 12; go_must (refine (hdrop.out _).mono ?_); rintro e w' ⟨rfl, hee⟩; rw [hee]; clear hee)
        | (go_at_call 16; refine hu.out.mono ?_; rintro e w' ⟨rfl, hee⟩; rw [hee]; clear hee)
        | (go_at_call 16; go_must (refine (hused.out _).mono ?_); rintro e w' ⟨rfl, hee⟩; rw [hee]; clear hee)
        | (go_at_call 19; refine hk6.out.mono ?_; rintro e w7 ⟨v7, rfl, ho7, hg7⟩; obtain ⟨A7, c7, rfl, -, -⟩ := ho7.out.form)
        | (go_at_call 19; go_must (refine (hkeys.out _).mono ?_); rintro e w' ⟨rfl, hee⟩; rw [hee]; clear hee))
      go_ret
      exact ⟨rfl, GrM.trans (fin17 (GrM.trans hg02.out hg5) ht6 (Below.size hg1) (Nat.le_trans hlo.out (Below.size hg5))) hg7⟩
    · have i1 : ((n : Int) == 0) = false := beq_false_of_ne (by omega)
      have i1n : (n == 0) = false := beq_false_of_ne he
      have hpos : Hid (0 < n) := Lib.hid (by omega)
      replace hn := Lib.hid hn
      replace he := Lib.hid he
      go_enter Try.func7, Try.ntmps7
      go_wp2_with (first
        | (go_at_call 10; go_must (refine (hget.out _).mono ?_); rintro e w' ⟨rfl, hee⟩; rw [hee]; clear hee)
        | (go_at_call 8; refine hn0.out.mono ?_; rintro e w1 ⟨g0, r0, rfl, hh1, hg1⟩; clear hn0; replace hnq := Lib.hid (hnq.out w1))
        | (go_at_call 8; refine hnq.out.mono ?_; rintro e w2 ⟨g, r, rfl, hh2, hg2⟩; clear hnq; have hlo := Lib.hid (Nat.le_refl _ |> fun (h : w1.heap.size ≤ w1.heap.size) => Nat.le_trans h (Below.size hg2)); have hg02 := Lib.hid (GrM.trans hg1 hg2))
        | (go_at_call 21; go_must (refine (haw.out _).mono ?_); rintro e w5 ⟨rfl, hg5⟩; clear haw; have hp := Lib.hid (put17_no _ g r 0 [] k l A n c hn.out hpos.out w5 (Hd.gr hg5 hh2)))
        | (go_at_call 14; refine hp.out.mono ?_; clear hp; rintro e w6 ⟨rfl, hh6, ht6⟩; have hu := Lib.hid (used_any _ g r 0 _ w6 hh6); have hk6 := Lib.hid (keys17_any _ g r 0 _ (by simp [trimN, dropN]) w6 hh6))
        | (go_at_call 14; go_must (refine (hput.out _).mono ?_); rintro e w' ⟨rfl, hee⟩; rw [hee]; clear hee)
        | (go_at_call 12; go_must (refine (hdrop.out _).mono ?_); rintro e w' ⟨rfl, hee⟩; rw [hee]; clear hee)
        | (go_at_call 16; refine hu.out.mono ?_; rintro e w' ⟨rfl, hee⟩; rw [hee]; clear hee)
        | (go_at_call 16; go_must (refine (hused.out _).mono ?_); rintro e w' ⟨rfl, hee⟩; rw [hee]; clear hee)
        | (go_at_call 19; refine hk6.out.mono ?_; rintro e w7 ⟨v7, rfl, ho7, hg7⟩; obtain ⟨A7, c7, rfl, -, -⟩ := ho7.out.form)
        | (go_at_call 19; go_must (refine (hkeys.out _).mono ?_); rintro e w' ⟨rfl, hee⟩; rw [hee]; clear hee))
      go_ret
      exact ⟨rfl, GrM.trans (fin17 (GrM.trans hg02.out hg5) ht6 (Below.size hg1) (Nat.le_trans hlo.out (Below.size hg5))) hg7⟩
  · have i0 : decide (qt < 0) = false := decide_eq_false hq
    replace hq : Hid (¬ qt < 0) := Lib.hid hq
    by_cases he : n = 0
    · subst he
      have hl : l = [] := List.eq_nil_of_length_eq_zero hn
      clear hn
      go_enter Try.func7, Try.ntmps7
      go_wp2_with (first
        | (go_at_call 10; go_must (refine (hget.out _).mono ?_); rintro e w' ⟨rfl, hee⟩; rw [hee]; clear hee)
        | (go_at_call 8; refine hn0.out.mono ?_; rintro e w2 ⟨g, r, rfl, hh2, hg2⟩; clear hn0; have hlo := Lib.hid (Below.size hg2); have hg02 := Lib.hid hg2)
        | (go_at_call 21; go_must (refine (haw.out _).mono ?_); rintro e w5 ⟨rfl, hg5⟩; clear haw; have hp := Lib.hid (put17_yes _ g r 0 [] k [] A 0 c (Lib.hid rfl) (Nat.le_refl _) w5 (Lib.hid (Nat.le_trans hlo.out (Below.size hg5))) (Hd.gr hg5 hh2) (byt_nil _ A w5)))
        | (go_at_call 14; refine hp.out.mono ?_; clear hp; rintro e w6 ⟨rfl, ⟨p, v, -, hh6, -⟩, ht6⟩; have hu := Lib.hid (used_any _ g r 0 _ w6 hh6); have hk6 := Lib.hid (keys17_any _ g r 0 _ (by simp [trimN, dropN]) w6 hh6))
        | (go_at_call 14; go_must (refine (hput.out _).mono ?_); rintro e w' ⟨rfl, hee⟩; rw [hee]; clear hee)
        | (go_at_call 12; go_must (refine (hdrop.out _).mono ?_); rintro e w' ⟨rfl, hee⟩; rw [hee]; clear hee)
        | (go_at_call 16; refine hu.out.mono ?_; rintro e w' ⟨rfl, hee⟩; rw [hee]; clear hee)
        | (go_at_call 16; go_must (refine (hused.out _).mono ?_); rintro e w' ⟨rfl, hee⟩; rw [hee]; clear hee)
        | (go_at_call 19; refine hk6.out.mono ?_; rintro e w7 ⟨v7, rfl, ho7, hg7⟩; obtain ⟨A7, c7, rfl, -, -⟩ := ho7.out.form)
        | (go_at_call 19; go_must (refine (hkeys.out _).mono ?_); rintro e w' ⟨rfl, hee⟩; rw [hee]; clear hee))
      go_ret
      exact ⟨rfl, GrM.trans (fin17 (GrM.trans hg02.out hg5) ht6 (Nat.le_refl _) (Nat.le_trans hlo.out (Below.size hg5))) hg7⟩
    · have i1 : ((n : Int) == 0) = false := beq_false_of_ne (by omega)
      have i1n : (n == 0) = false := beq_false_of_ne he
      have hpos : Hid (0 < n) := Lib.hid (by omega)
      replace hn := Lib.hid hn
      replace he := Lib.hid he
      go_enter Try.func7, Try.ntmps7
      go_wp2_with (first
        | (go_at_call 10; go_must (refine (hget.out _).mono ?_); rintro e w' ⟨rfl, hee⟩; rw [hee]; clear hee)
        | (go_at_call 8; refine hn0.out.mono ?_; rintro e w2 ⟨g, r, rfl, hh2, hg2⟩; clear hn0; have hlo := Lib.hid (Below.size hg2); have hg02 := Lib.hid hg2)
        | (go_at_call 21; go_must (refine (haw.out _).mono ?_); rintro e w5 ⟨rfl, hg5⟩; clear haw; have hp := Lib.hid (put17_no _ g r 0 [] k l A n c hn.out hpos.out w5 (Hd.gr hg5 hh2)))
        | (go_at_call 14; refine hp.out.mono ?_; clear hp; rintro e w6 ⟨rfl, hh6, ht6⟩; have hu := Lib.hid (used_any _ g r 0 _ w6 hh6); have hk6 := Lib.hid (keys17_any _ g r 0 _ (by simp [trimN, dropN]) w6 hh6))
        | (go_at_call 14; go_must (refine (hput.out _).mono ?_); rintro e w' ⟨rfl, hee⟩; rw [hee]; clear hee)
        | (go_at_call 12; go_must (refine (hdrop.out _).mono ?_); rintro e w' ⟨rfl, hee⟩; rw [hee]; clear hee)
        | (go_at_call 16; refine hu.out.mono ?_; rintro e w' ⟨rfl, hee⟩; rw [hee]; clear hee)
        | (go_at_call 16; go_must (refine (hused.out _).mono ?_); rintro e w' ⟨rfl, hee⟩; rw [hee]; clear hee)
        | (go_at_call 19; refine hk6.out.mono ?_; rintro e w7 ⟨v7, rfl, ho7, hg7⟩; obtain ⟨A7, c7, rfl, -, -⟩ := ho7.out.form)
        | (go_at_call 19; go_must (refine (hkeys.out _).mono ?_); rintro e w' ⟨rfl, hee⟩; rw [hee]; clear hee))
      go_ret
      exact ⟨rfl, GrM.trans (fin17 (GrM.trans hg02.out hg5) ht6 (Nat.le_refl _) (Nat.le_trans hlo.out (Below.size hg5))) hg7⟩
end Go.Proofs.Ythhggojpmilmdaa
