/- The laws of word: WordNone. -/
import Derived.Test.YtpenmeddbpgkmaaWordLaw
import Derived.Test.YtpenmeddbpgkmaaAsk
namespace Go.Proofs.Ytpenmeddbpgkmaa
set_option linter.unusedVariables false
open Go Go.RowKit

theorem rget_neg (l : List UInt8) : rget (some l) (-1) = (0, none) := by
  unfold rget
  simp only
  split
  · rfl
  · rw [if_neg (by omega)]
theorem cell_beside1 {w : World} {a : Addr} {v v0 : Value} (h0 : w.cell? a = some v0) (h : w.cell? (a.add 1) = some v) : w.cell? ⟨a.block, a.off + 1, none⟩ = some v := by
  obtain ⟨b, o, s⟩ := a
  cases s with
  | none =>
    have hadd : (⟨b, o, none⟩ : Addr).add 1 = ⟨b, o + 1, none⟩ := by unfold Addr.add; split <;> simp_all
    rw [hadd] at h
    exact h
  | some s =>
    unfold World.cell? at h0
    simp only [Option.isSome_some, if_true] at h0
    split at h0
    · cases h0
    · cases h0
set_option maxHeartbeats 1000000 in
set_option maxRecDepth 10000 in
theorem wordNone_any (A : Option Addr) (k c : Nat) (l : List UInt8) (hk : l.length = k) (hl : k ≤ 140737488355328) (most : Int) (A2 : Option Addr) (n c2 : Nat) (t : Nat → Bool) (z : Nat → Int) (w : World) (hr : Rd w w.heap.size A l) (ha : Asks w w.heap.size A2 n t z) :
    Calls Try.prog 15 #[.slice A k c, .int .i64 most, .slice A2 n c2] w fun e w' => e = .returned (.bool true) ∧ Below w.heap.size w w' := by
  replace hr := Lib.hid hr
  replace hk := Lib.hid hk
  replace ha := Lib.hid ha
  go_enter Try.func15, Try.ntmps15
  go_wp2_with fail
  refine (get_nil most _).mono ?_
  rintro e w' ⟨rfl, rfl⟩
  go_wp2_with fail
  refine (text_nil most _).mono ?_
  rintro e w' ⟨rfl, rfl⟩
  go_wp2_with fail
  refine (end_nil _).mono ?_
  rintro e w' ⟨rfl, rfl⟩
  go_wp2_with fail
  refine (new_any A k c l hk.out hl _ hr.out).mono ?_
  rintro e w1 ⟨g, rfl, hg, hr1, hb1⟩
  go_wp2_with fail
  refine (get_any g _ (-1) (by decide) (by decide) _ hr1 (fun l' e => by injection e with e; subst e; rw [hk.out]; exact hl)).mono ?_
  rw [rget_neg]
  rintro e w2 ⟨rfl, hr2, hgr⟩
  have hb2 := Lib.hid (below_grown hb1 hb1.size hgr hg)
  replace hr2 := Lib.hid hr2
  clear hr1 hb1 hgr
  go_wp2_with fail
  refine (end_any g _ _ hr2.out).mono ?_
  rw [show rend none = false from rfl]
  rintro e w' ⟨rfl, rfl⟩
  go_wp2_with fail
  go_loopw [9] (fun i wr => ∃ j : Nat, i = .int .i64 j ∧ j ≤ n ∧ Hid (Rdr wr g none) ∧ Hid (Below w.heap.size w wr)) (fun i _ => n - (intOf i).toNat)
  case atStart => exact ⟨0, rfl, Nat.zero_le _, hr2, hb2⟩
  case round =>
    obtain ⟨j, rfl, hjn, hrd, hb⟩ := hrel
    by_cases hlt : j < n ∧ j < 40
    · obtain ⟨hj1, hj2⟩ := hlt
      obtain ⟨ad, rfl, -, hall⟩ := ha.out (by omega)
      have hz := (hall j hj1).2.2
      have hc : wr.cell? ⟨(ad.add (j * 2)).block, (ad.add (j * 2)).off + 1, none⟩ = some (.int .i64 (z j)) := by
        obtain ⟨ad', e, -, hall'⟩ := (ha.out.below hb.out) (by omega)
        injection e with e; subst e
        refine cell_beside1 (hall' j hj1).1 ?_
        rw [add_of_add]
        exact (hall' j hj1).2.1
      clear hall
      go_wp2_with fail
      refine (get_any g _ (z j) hz.1 hz.2 _ hrd.out (fun l' e => by cases e)).mono ?_
      rintro e w3 ⟨rfl, hr3, hgr⟩
      have hb3 := Lib.hid (below_grown hb.out hb.out.size hgr hg)
      replace hr3 := Lib.hid (show Rdr w3 g none from hr3)
      clear hgr hc
      have hc : w3.cell? ⟨(ad.add (j * 2)).block, (ad.add (j * 2)).off + 1, none⟩ = some (.int .i64 (z j)) := by
        obtain ⟨ad', e, -, hall'⟩ := (ha.out.below hb3.out) (by omega)
        injection e with e; subst e
        refine cell_beside1 (hall' j hj1).1 ?_
        rw [add_of_add]
        exact (hall' j hj1).2.1
      rw [show (rget none (z j)).1 = 0 from rfl]
      go_wp2_with fail
      refine (rtext_any g _ (z j) hz.1 hz.2 _ hr3.out (fun l' e => by cases e)).mono ?_
      rintro e w4 ⟨rfl, hr4, hgr⟩
      have hb4 := Lib.hid (below_grown hb3.out hb3.out.size hgr hg)
      replace hr4 := Lib.hid (show Rdr w4 g none from hr4)
      clear hgr hc
      rw [show (rtext none (z j)).1 = [] from rfl]
      go_wp2_with fail
      refine (end_any g _ _ hr4.out).mono ?_
      rw [show rend none = false from rfl]
      rintro e w' ⟨rfl, rfl⟩
      go_wp2_with fail
      go_roundw
      case rel => exact ⟨j + 1, by go_num, by omega, hr4, hb4⟩
      case measure => simp [intOf]; omega
    · have hend : j = n ∨ (j < n ∧ 40 ≤ j) := by omega
      clear hlt
      rcases hend with rfl | ⟨h1, h2⟩
      all_goals
        go_wp2_with fail
        refine (awake_any _).mono ?_
        rintro e w5 ⟨rfl, hb5⟩
        go_wp2_with fail
        go_ret
        exact ⟨rfl, hb.out.trans (hb5.mono hb.out.size)⟩
end Go.Proofs.Ytpenmeddbpgkmaa
