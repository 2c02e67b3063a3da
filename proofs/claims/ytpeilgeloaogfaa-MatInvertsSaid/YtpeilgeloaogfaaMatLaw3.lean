/- mat's laws: Inverts, Back. -/
import Derived.Test.YtpeilgeloaogfaaMatLaw2
namespace Go.Proofs.Ytpeilgeloaogfaa
set_option linter.unusedVariables false
set_option linter.unusedSimpArgs false
open Go Go.RowKit
set_option maxHeartbeats 16000000 in
set_option maxRecDepth 20000 in
theorem matInverts_any {La : List (List UInt8)} {va : Value} (w : World) (ha : Hid (Tbl La va w)) : Calls Try.prog 4 #[va] w fun e w' => e = .returned (.bool true) ∧ Below w.heap.size w w' := by
  have hq : Hid (Gr w w) := Lib.hid (Below.refl _ _)
  go_enter Try.func4, Try.ntmps4
  go_wp2_with fail
  refine (inv_p ha).mono ?_
  rintro e w1 ⟨u1, Lu1, bu1, rfl, hu1, hansu1, hr⟩
  replace ha := Tbl.gr hr ha
  replace hq := Gr.go hq hr
  clear hr
  rcases hansu1 with ⟨rfl, hsq, X, rfl, h1, h2⟩ | ⟨rfl, rfl, hk⟩
  · obtain ⟨q1, q2, q3, q4, q5⟩ := sq_of hsq
    obtain ⟨f1, p1, f2, p2⟩ := prod_sq hsq X
    rw [tabM_congr h2] at p1
    rw [tabM_congr h1] at p2
    have hno : Hid (NoKer La.length (ent La)) := Lib.hid (noKer_of_left h1)
    clear h1 h2
    obtain ⟨b0, o0, c0, rfl⟩ := ha.out.form0 (by omega)
    have q4' : La.length ≤ 32 := q4
    replace q1 := Lib.hid q1
    replace q2 := Lib.hid q2
    replace q5 := Lib.hid q5
    replace f1 := Lib.hid f1
    replace f2 := Lib.hid f2
    replace p1 := Lib.hid p1
    replace p2 := Lib.hid p2
    replace hsq := Lib.hid hsq
    go_wp2_with fail
    refine (rtable_p ha).mono ?_
    rintro e w2 ⟨rfl, hr⟩
    replace ha := Tbl.gr hr ha
    replace hu1 := Tbl.gr hr hu1
    replace hq := Gr.go hq hr
    clear hr
    rw [q1.out]
    obtain ⟨A0, cc0, hcell⟩ := ha.out.cell0 (by omega)
    have d1 : ((La.length : Int) == (width La : Int)) = true := by rw [← q2.out]; simp
    go_wp2_with fail
    refine (rfull_p hsq.out ha).mono ?_
    rintro e w3 ⟨b2, rfl, hfull, hr⟩
    replace ha := Tbl.gr hr ha
    replace hu1 := Tbl.gr hr hu1
    replace hq := Gr.go hq hr
    clear hr
    obtain rfl : b2 = true := by
      cases hb : b2 with
      | true => rfl
      | false => exact (not_both hno.out (hfull.out.2 hb)).elim
    clear hfull hno hcell d1
    go_wp2_with fail
    refine (rtimes_p ha hu1).mono ?_
    rintro e w4 ⟨u2, rfl, hu2, hr⟩
    replace ha := Tbl.gr hr ha
    replace hu1 := Tbl.gr hr hu1
    replace hq := Gr.go hq hr
    clear hr
    rw [f1.out]
    rw [p1.out] at hu2
    go_wp2_with fail
    refine (rtimes_p hu1 ha).mono ?_
    rintro e w5 ⟨u3, rfl, hu3, hr⟩
    replace ha := Tbl.gr hr ha
    replace hu2 := Tbl.gr hr hu2
    replace hq := Gr.go hq hr
    clear hr
    rw [f2.out]
    rw [p2.out] at hu3
    clear f1 f2 p1 p2
    go_wp2_with fail
    refine (awake_p _).mono ?_
    rintro e w6 ⟨rfl, hr⟩
    replace ha := Tbl.gr hr ha
    replace hu2 := Tbl.gr hr hu2
    replace hu3 := Tbl.gr hr hu3
    replace hq := Gr.go hq hr
    clear hr
    go_wp2_with fail
    refine (rone_p La.length q4 _).mono ?_
    rintro e w7 ⟨u4, rfl, hu4, hr⟩
    replace hu2 := Tbl.gr hr hu2
    replace hu3 := Tbl.gr hr hu3
    replace hq := Gr.go hq hr
    clear hr
    go_wp2_with fail
    refine (same_p hu2 hu4).mono ?_
    rintro e w8 ⟨rfl, hr⟩
    replace hu3 := Tbl.gr hr hu3
    replace hq := Gr.go hq hr
    clear hr
    rw [beqTT]
    go_wp2_with fail
    refine (rone_p La.length q4 _).mono ?_
    rintro e w9 ⟨u5, rfl, hu5, hr⟩
    replace hu3 := Tbl.gr hr hu3
    replace hq := Gr.go hq hr
    clear hr
    go_wp2_with fail
    refine (same_p hu3 hu5).mono ?_
    rintro e w10 ⟨rfl, hr⟩
    replace hq := Gr.go hq hr
    clear hr
    rw [beqTT]
    go_wp2_with fail
    go_ret
    exact ⟨rfl, hq.out⟩
  · replace hk := Lib.hid hk
    cases ht : isTab La with
    | false =>
      replace ht := Lib.hid ht
      go_wp2_with fail
      refine (rtable_p ha).mono ?_
      rintro e w2 ⟨rfl, hr⟩
      replace ha := Tbl.gr hr ha
      replace hu1 := Tbl.gr hr hu1
      replace hq := Gr.go hq hr
      clear hr
      rw [ht.out]
      go_wp2_with fail
      refine (awake_p _).mono ?_
      rintro e wa ⟨rfl, hr⟩
      replace hu1 := Tbl.gr hr hu1
      replace hq := Gr.go hq hr
      clear hr
      obtain ⟨A9, c9, rfl⟩ := hu1.out.form
      go_wp2_with fail
      go_ret
      exact ⟨rfl, hq.out⟩
    | true =>
      obtain ⟨i1, -⟩ := isTab_iff.mp ht
      obtain ⟨b0, o0, c0, rfl⟩ := ha.out.form0 (by omega)
      replace ht := Lib.hid ht
      go_wp2_with fail
      refine (rtable_p ha).mono ?_
      rintro e w2 ⟨rfl, hr⟩
      replace ha := Tbl.gr hr ha
      replace hu1 := Tbl.gr hr hu1
      replace hq := Gr.go hq hr
      clear hr
      rw [ht.out]
      obtain ⟨A0, cc0, hcell⟩ := ha.out.cell0 (by omega)
      by_cases hl : La.length = width La
      · have hsq : square La = true := by unfold square; rw [ht.out, hl]; simp
        have hk2 := Lib.hid (hk.out hsq)
        have d1 : ((La.length : Int) == (width La : Int)) = true := by rw [← hl]; simp
        replace hl := Lib.hid hl
        replace hsq := Lib.hid hsq
        go_wp2_with fail
        refine (rfull_p hsq.out ha).mono ?_
        rintro e w3 ⟨b2, rfl, hfull, hr⟩
        replace hu1 := Tbl.gr hr hu1
        replace hq := Gr.go hq hr
        clear hr
        obtain rfl : b2 = false := by
          cases hb : b2 with
          | false => rfl
          | true => exact (not_both (hfull.out.1 hb) hk2.out).elim
        clear hfull hk2 hcell d1
        go_wp2_with fail
        refine (awake_p _).mono ?_
        rintro e wa ⟨rfl, hr⟩
        replace hu1 := Tbl.gr hr hu1
        replace hq := Gr.go hq hr
        clear hr
        obtain ⟨A9, c9, rfl⟩ := hu1.out.form
        go_wp2_with fail
        go_ret
        exact ⟨rfl, hq.out⟩
      · have d1 : ((La.length : Int) == (width La : Int)) = false := by simp; omega
        replace hl := Lib.hid hl
        go_wp2_with fail
        refine (awake_p _).mono ?_
        rintro e wa ⟨rfl, hr⟩
        replace hu1 := Tbl.gr hr hu1
        replace hq := Gr.go hq hr
        clear hr
        obtain ⟨A9, c9, rfl⟩ := hu1.out.form
        go_wp2_with fail
        go_ret
        exact ⟨rfl, hq.out⟩
end Go.Proofs.Ytpeilgeloaogfaa
