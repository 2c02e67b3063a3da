/- place: PlacePicks: the code and the reference pick the same. -/
import Derived.Test.YtfiaedhdgbnfiaaPk10
import Derived.Deep.DeepCutAuto
namespace Go.Proofs.Ytfiaedhdgbnfiaa
set_option linter.unusedVariables false
set_option linter.unusedSimpArgs false
open Go Go.RowKit
theorem pickR_len (l : List Fr) (n : Int) (but : List Int) : (pickR l n but).length ≤ (mayL but l).length := by
  unfold pickR
  split
  · unfold pickL; rw [List.length_map, List.length_take, srt_len]; omega
  · exact Nat.zero_le _
set_option maxHeartbeats 8000000 in
set_option maxRecDepth 10000 in
theorem placePicks_any (L : List Fr) (but : List Int) (v u : Value) (n : Int) (hn : I64 n) (w : World) (hv : Hid (Frs L v w)) (hu : Hid (Ints but u w)) :
    Calls Try.prog 3 #[v, .int .i64 n, u] w fun e w' => e = .returned (.bool true) ∧ Gr w w' := by
  obtain ⟨A2, cap2, rfl, hc2, hm2, -, -⟩ := hu.out
  obtain ⟨nb, hnb⟩ : ∃ nb, but.length = nb := ⟨_, rfl⟩
  rw [hnb] at hu hc2 ⊢
  replace hnb := Lib.hid hnb
  have hfew := Lib.hid (few_any L v w hv)
  replace hn := Lib.hid hn
  go_enter Try.func3, Try.ntmps3
  go_upto_if 16 with (go_at_call 7; go_must (refine hfew.out.mono ?_); rintro e w' ⟨v2, rfl, hv2, hee⟩; rw [hee]; clear hee)
  replace hv2 := Lib.hid hv2
  go_cut [2] (fun u2 wq => Hid (Ints (but.take 60) u2 w) ∧ w = wq)
  case first =>
    by_cases h60 : 60 < nb
    · have i1 : (60 : Int) < (nb : Int) := by omega
      have hT := Lib.hid (hu.out.take 60 (by rw [hnb.out]; omega))
      go_wp2_with fail
      go_meet
      exact ⟨hT, rfl⟩
    · have i1 : decide ((60 : Int) < (nb : Int)) = false := decide_eq_false (by omega)
      have hT : Hid (Ints (but.take 60) (.slice A2 nb cap2) w) := Lib.hid (by rw [List.take_of_length_le (by rw [hnb.out]; omega)]; exact hu.out)
      clear h60
      simp only [i1]
      go_wp2_with fail
      go_meet
      exact ⟨hT, rfl⟩
  case rest =>
    obtain ⟨hu2, rfl⟩ := hcut
    obtain ⟨l, hl⟩ : ∃ l, L.take 60 = l := ⟨_, rfl⟩
    obtain ⟨b, hb⟩ : ∃ b, but.take 60 = b := ⟨_, rfl⟩
    rw [hl] at hv2
    rw [hb] at hu2
    have hl60 : l.length ≤ 60 := by rw [← hl, List.length_take]; omega
    have hb60 : b.length ≤ 60 := by rw [← hb, List.length_take]; omega
    clear hl hb hfew hv hu
    have hp := Lib.hid (pick_any l n hn.out b v2 u2 w hv2 hu2 hl60 (by omega))
    have hr : Hid (∀ w1, Gr w w1 → Calls Try.prog 9 #[v2, .int .i64 n, u2] w1 fun e w' => PickPost l n b w1 e w') := Lib.hid (fun w1 hg => rpick_any l n hn.out b v2 u2 w1 (Frs.gr hg hv2) (Ints.gr hg hu2) hl60 (by omega))
    have hlen : (pickR l n b).length ≤ 1000000 := Nat.le_trans (pickR_len _ _ _) (Nat.le_trans (mayL_le _ _) (by omega))
    obtain ⟨ok, hok⟩ : ∃ ok, pickOk l n b = ok := ⟨_, rfl⟩
    obtain ⟨r, hr0⟩ : ∃ r, pickR l n b = r := ⟨_, rfl⟩
    unfold PickPost at hp hr
    rw [hok, hr0] at hp hr
    rw [hr0] at hlen
    replace hok := Lib.hid hok
    replace hr0 := Lib.hid hr0
    have i1 : (ok == ok) = true := by cases ok <;> rfl
    have i2 : (r == r) = true := by simp
    go_upto_region 5 with (go_at_call 8; go_must (refine hp.out.mono ?_); rintro e w1 ⟨va, rfl, ha, hg1⟩)
    replace hr := Lib.hid (hr.out w1 hg1)
    go_upto_region 6 with (go_at_call 9; go_must (refine hr.out.mono ?_); rintro e w2 ⟨vb, rfl, hb, hg2⟩)
    replace ha := OI.gr hg2 ha
    have haw := Lib.hid (awake14_any w2)
    have hsame : Hid (∀ w3, Gr w2 w3 → Calls Try.prog 11 #[va, vb] w3 fun e w' => e = .returned (.bool (r == r)) ∧ Gr w3 w') := Lib.hid (fun w3 hg => same_any r r va vb w3 (Lib.hid (OI.ints (OI.gr hg ha).out)) (Lib.hid (OI.ints (OI.gr hg hb).out)) hlen hlen)
    rw [i2] at hsame
    have hg := Lib.hid (hg1.trans hg2)
    clear hp hr ha hb hg1 hg2 i2
    go_wp2_with (first
      | (go_at_call 10; go_must (refine haw.out.mono ?_); clear haw; rintro e w3 ⟨rfl, hg3⟩; replace hg3 := Lib.hid hg3; replace hsame := Lib.hid (hsame.out w3 hg3.out))
      | (go_at_call 11; go_must (refine hsame.out.mono ?_); rintro e w4 ⟨rfl, hg4⟩; replace hg4 := Lib.hid hg4))
    go_ret
    exact ⟨rfl, hg.out.trans (hg3.out.trans hg4.out)⟩
end Go.Proofs.Ytfiaedhdgbnfiaa
