/- mat's laws: Back. -/
import Derived.Test.YtpeilgeloaogfaaMatLaw2
namespace Go.Proofs.Ytpeilgeloaogfaa
set_option linter.unusedVariables false
set_option linter.unusedSimpArgs false
open Go Go.RowKit
set_option maxHeartbeats 16000000 in
set_option maxRecDepth 20000 in
theorem matBack_any {La Lb : List (List UInt8)} {va vb : Value} (w : World) (ha : Hid (Tbl La va w)) (hb : Hid (Tbl Lb vb w)) : Calls Try.prog 8 #[va, vb] w fun e w' => e = .returned (.bool true) ∧ Below w.heap.size w w' := by
  have hq : Hid (Gr w w) := Lib.hid (Below.refl _ _)
  go_enter Try.func8, Try.ntmps8
  go_wp2_with fail
  refine (inv_p ha).mono ?_
  rintro e w1 ⟨u1, Lu1, bu1, rfl, hu1, hansu1, hr⟩
  replace ha := Tbl.gr hr ha
  replace hb := Tbl.gr hr hb
  replace hq := Gr.go hq hr
  clear hr
  go_wp2_with fail
  refine (inv_p hb).mono ?_
  rintro e w2 ⟨u2, Lu2, bu2, rfl, hu2, hansu2, hr⟩
  replace ha := Tbl.gr hr ha
  replace hb := Tbl.gr hr hb
  replace hu1 := Tbl.gr hr hu1
  replace hq := Gr.go hq hr
  clear hr
  rcases hansu1 with ⟨rfl, hsq, X, rfl, h1, h2⟩ | ⟨rfl, rfl, hk⟩
  · replace hsq := Lib.hid hsq
    replace h1 := Lib.hid h1
    replace h2 := Lib.hid h2
    replace hansu2 := Lib.hid hansu2
    go_wp2_with fail
    refine (inv_p hu1).mono ?_
    rintro e w3 ⟨u3, Lu3, bu3, rfl, hu3, hansu3, hr⟩
    replace ha := Tbl.gr hr ha
    replace hb := Tbl.gr hr hb
    replace hu1 := Tbl.gr hr hu1
    replace hu2 := Tbl.gr hr hu2
    replace hq := Gr.go hq hr
    clear hr
    obtain ⟨rfl, rfl⟩ := ans_back hsq.out hansu3 h1.out h2.out
    clear hansu3
    go_wp2_with fail
    refine (same_p hu3 ha).mono ?_
    rintro e w4 ⟨rfl, hr⟩
    replace ha := Tbl.gr hr ha
    replace hb := Tbl.gr hr hb
    replace hu1 := Tbl.gr hr hu1
    replace hu2 := Tbl.gr hr hu2
    replace hq := Gr.go hq hr
    clear hr
    rw [beqTT]
    clear hu3
    go_wp2_with fail
    refine (times_p ha hb).mono ?_
    rintro e w5 ⟨u4, rfl, hu4, hr⟩
    replace ha := Tbl.gr hr ha
    replace hb := Tbl.gr hr hb
    replace hu1 := Tbl.gr hr hu1
    replace hu2 := Tbl.gr hr hu2
    replace hq := Gr.go hq hr
    clear hr
    rcases hansu2.out with ⟨rfl, hsq2, Y, rfl, g1, g2⟩ | ⟨rfl, rfl, hk⟩
    · cases hf : fits Lu3 Lb with
      | false =>
        replace hf := Lib.hid hf
        replace hsq2 := Lib.hid hsq2
        replace g1 := Lib.hid g1
        replace g2 := Lib.hid g2
        go_wp2_with fail
        refine (awake_p _).mono ?_
        rintro e w6 ⟨rfl, hr⟩
        replace hq := Gr.go hq hr
        clear hr
        go_wp2_with fail
        go_ret
        exact ⟨rfl, hq.out⟩
      | true =>
        have hn : Lb.length = Lu3.length := by rw [← (fits_iff.mp hf).2.2, (sq_of hsq.out).2.1]
        replace hn := Lib.hid hn
        replace hf := Lib.hid hf
        replace hsq2 := Lib.hid hsq2
        replace g1 := Lib.hid g1
        replace g2 := Lib.hid g2
        go_wp2_with fail
        refine (inv_p hu4).mono ?_
        rintro e w6 ⟨u5, Lu5, bu5, rfl, hu5, hansu5, hr⟩
        replace hu1 := Tbl.gr hr hu1
        replace hu2 := Tbl.gr hr hu2
        replace hq := Gr.go hq hr
        clear hr
        obtain ⟨rfl, z1, z2⟩ := ans_both hsq.out hn.out hsq2.out hansu5 h1.out h2.out g1.out g2.out
        replace hansu5 := Lib.hid hansu5
        go_wp2_with fail
        refine (times_p hu2 hu1).mono ?_
        rintro e w7 ⟨u6, rfl, hu6, hr⟩
        replace hu5 := Tbl.gr hr hu5
        replace hq := Gr.go hq hr
        clear hr
        rw [z1]
        rw [z2] at hu6
        replace z1 := Lib.hid z1
        replace z2 := Lib.hid z2
        go_wp2_with fail
        refine (awake_p _).mono ?_
        rintro e w8 ⟨rfl, hr⟩
        replace hu5 := Tbl.gr hr hu5
        replace hu6 := Tbl.gr hr hu6
        replace hq := Gr.go hq hr
        clear hr
        go_wp2_with fail
        refine (same_p hu5 hu6).mono ?_
        rintro e w9 ⟨rfl, hr⟩
        replace hq := Gr.go hq hr
        clear hr
        rw [beqTT]
        go_wp2_with fail
        go_ret
        exact ⟨rfl, hq.out⟩
    · replace hk := Lib.hid hk
      go_wp2_with fail
      refine (awake_p _).mono ?_
      rintro e w6 ⟨rfl, hr⟩
      replace hq := Gr.go hq hr
      clear hr
      go_wp2_with fail
      go_ret
      exact ⟨rfl, hq.out⟩
  · replace hk := Lib.hid hk
    replace hansu2 := Lib.hid hansu2
    go_wp2_with fail
    refine (awake_p _).mono ?_
    rintro e w3 ⟨rfl, hr⟩
    replace hq := Gr.go hq hr
    clear hr
    go_wp2_with fail
    go_ret
    exact ⟨rfl, hq.out⟩
end Go.Proofs.Ytpeilgeloaogfaa
