/- rs: the shards of any bytes are the reference's. -/
import Derived.Test.YtpeilgeloaogfaaRs8
namespace Go.Proofs.Ytpeilgeloaogfaa
set_option linter.unusedVariables false
set_option linter.unusedSimpArgs false
open Go Go.RowKit
theorem enc_t {A : Option Addr} {c : Nat} {l : List UInt8} (w : World) (hc : 128 ≤ c) (hcm : c ≤ maxLen) (hl : Hid (l.length = 128)) (h : Rd w w.heap.size A l) :
    Calls Try.prog 40 #[.slice A 128 c] w fun e w' => ∃ A' c', e = .returned (.tuple #[.slice A' 10 c', .int .i64 0]) ∧ Hid (Tbl (tabM 10 16 (encM l)) (.slice A' 10 c') w') ∧ Gr w w' := by
  refine (rsenc_ok A c l hc hcm hl.out w h).mono ?_
  rintro e w' ⟨g, G, C, rfl, h1, h2⟩
  exact ⟨_, _, rfl, Lib.hid (h1.tbl (by decide) _ (Nat.le_refl _) (by decide)), h2⟩
theorem ob_bd {w : World} {base n : Nat} {A : Option Addr} {c : Nat} {l : List UInt8} (h : OB w base (.slice A n c) l) : l.length ≤ c ∧ c ≤ maxLen := by
  obtain ⟨A2, c2, e2, k1, k2, -⟩ := h.form
  injection e2 with e21 e22 e23
  subst e23
  exact ⟨k1, k2⟩
theorem tbl0 {w : World} : Hid (Tbl [] (.slice none 0 0) w) := Lib.hid tbl_nil
set_option maxHeartbeats 16000000 in
set_option maxRecDepth 20000 in
theorem rsEncodes_any (A : Option Addr) (n c : Nat) (l : List UInt8) (hn : Hid (l.length = n)) (hc : n ≤ c) (hcm : c ≤ 9223372036854775807) (w : World) (h : Hid (Rd w w.heap.size A l)) : Calls Try.prog 9 #[.slice A n c] w fun e w' => e = .returned (.bool true) ∧ Below w.heap.size w w' := by
  have hq : Hid (Gr w w) := Lib.hid (Below.refl _ _)
  have hcm' : c ≤ maxLen := hcm
  by_cases h128 : n = 128
  · subst h128
    go_enter Try.func9, Try.ntmps9
    go_wp2_with fail
    refine (enc_t _ hc hcm' hn (h.out.up hq.out)).mono ?_
    rintro e w1 ⟨A1, c1, rfl, hx, hr⟩
    replace hq := Gr.go hq hr
    clear hr
    go_wp2_with fail
    refine (rrsenc_ok A c l hc hcm hn _ (h.out.up hq.out)).mono ?_
    rintro e w2 ⟨A2, c2, rfl, hy, hr⟩
    replace hx := Tbl.gr hr hx
    replace hq := Gr.go hq hr
    clear hr
    go_wp2_with fail
    refine (group_p A 128 c l hn hc hcm w _ hq h).mono ?_
    rintro e w3 ⟨AX, cX, rfl, hX, hr⟩
    replace hx := Tbl.gr hr hx
    replace hy := Tbl.gr hr hy
    replace hq := Gr.go hq hr
    clear hr
    have hlx : Hid ((grp l).length = 128) := Lib.hid (grp_length l)
    obtain ⟨kX, mX⟩ := ob_bd hX.out
    rw [hlx.out] at kX
    go_wp2_with fail
    refine (enc_t _ kX mX hlx (OB.rd hX.out).1).mono ?_
    rintro e w4 ⟨A3, c3, rfl, ha, hr⟩
    replace hx := Tbl.gr hr hx
    replace hy := Tbl.gr hr hy
    replace hq := Gr.go hq hr
    clear hr
    go_wp2_with fail
    refine (group_p A 128 c l hn hc hcm w _ hq h).mono ?_
    rintro e w5 ⟨AY, cY, rfl, hY, hr⟩
    replace hx := Tbl.gr hr hx
    replace hy := Tbl.gr hr hy
    replace ha := Tbl.gr hr ha
    replace hq := Gr.go hq hr
    clear hr
    obtain ⟨kY, mY⟩ := ob_bd hY.out
    rw [grp_length] at kY
    have mY' : cY ≤ 9223372036854775807 := mY
    go_wp2_with fail
    refine (rrsenc_ok AY cY (grp l) kY mY' (Lib.hid (grp_length l)) _ (OB.rd hY.out).1).mono ?_
    rintro e w6 ⟨A4, c4, rfl, hb, hr⟩
    replace hx := Tbl.gr hr hx
    replace hy := Tbl.gr hr hy
    replace ha := Tbl.gr hr ha
    replace hq := Gr.go hq hr
    clear hr
    go_wp2_with fail
    refine (awake3_p _).mono ?_
    rintro e w7 ⟨rfl, hr⟩
    replace hx := Tbl.gr hr hx
    replace hy := Tbl.gr hr hy
    replace ha := Tbl.gr hr ha
    replace hb := Tbl.gr hr hb
    replace hq := Gr.go hq hr
    clear hr
    go_wp2_with fail
    refine (same_p hx hy).mono ?_
    rintro e w8 ⟨rfl, hr⟩
    replace hq := Gr.go hq hr
    replace ha := Tbl.gr hr ha
    replace hb := Tbl.gr hr hb
    clear hr
    rw [beqTT]
    go_wp2_with fail
    refine (same_p ha hb).mono ?_
    rintro e w9 ⟨rfl, hr⟩
    replace hq := Gr.go hq hr
    clear hr
    rw [beqTT]
    go_wp2_with fail
    go_ret
    exact ⟨rfl, hq.out⟩
  · have hnm : n ≤ 9223372036854775807 := by omega
    have e1 := Lib.hid (rsenc_no A n c h128 hnm w)
    have e2 := Lib.hid (rrsenc_no0 A n c h128 hnm w)
    have hy0 : Hid (Tbl [] (.slice (some ⟨w.heap.size, 0, none⟩) 0 0) (w.alloc (.cells #[] 29))) := Lib.hid ⟨_, _, rfl, Nat.le_refl _, Nat.zero_le _, rfl, fun h => absurd h (by decide)⟩
    replace h128 := Lib.hid h128
    go_enter Try.func9, Try.ntmps9
    go_wp2_with fail
    refine e1.out.mono ?_
    rintro e w1 ⟨rfl, rfl⟩
    clear e1
    go_wp2_with fail
    refine e2.out.mono ?_
    rintro e w2 ⟨rfl, rfl⟩
    have hr : Gr w1 (w1.alloc (.cells #[] 29)) := (Below.refl _ _).alloc (Nat.le_refl _) _
    have hx : Hid (Tbl [] (.slice none 0 0) (w1.alloc (.cells #[] 29))) := tbl0
    have hy := hy0
    have hq : Hid (Gr w1 (w1.alloc (.cells #[] 29))) := Lib.hid hr
    clear e2 hy0 hr
    go_wp2_with fail
    refine (group_p A n c l hn hc hcm w1 _ hq h).mono ?_
    rintro e w3 ⟨AX, cX, rfl, hX, hr⟩
    replace hx := Tbl.gr hr hx
    replace hy := Tbl.gr hr hy
    replace hq := Gr.go hq hr
    clear hr
    have hlx : Hid ((grp l).length = 128) := Lib.hid (grp_length l)
    obtain ⟨kX, mX⟩ := ob_bd hX.out
    rw [hlx.out] at kX
    go_wp2_with fail
    refine (enc_t _ kX mX hlx (OB.rd hX.out).1).mono ?_
    rintro e w4 ⟨A3, c3, rfl, ha, hr⟩
    replace hx := Tbl.gr hr hx
    replace hy := Tbl.gr hr hy
    replace hq := Gr.go hq hr
    clear hr
    go_wp2_with fail
    refine (group_p A n c l hn hc hcm w1 _ hq h).mono ?_
    rintro e w5 ⟨AY, cY, rfl, hY, hr⟩
    replace hx := Tbl.gr hr hx
    replace hy := Tbl.gr hr hy
    replace ha := Tbl.gr hr ha
    replace hq := Gr.go hq hr
    clear hr
    obtain ⟨kY, mY⟩ := ob_bd hY.out
    rw [grp_length] at kY
    have mY' : cY ≤ 9223372036854775807 := mY
    go_wp2_with fail
    refine (rrsenc_ok AY cY (grp l) kY mY' (Lib.hid (grp_length l)) _ (OB.rd hY.out).1).mono ?_
    rintro e w6 ⟨A4, c4, rfl, hb, hr⟩
    replace hx := Tbl.gr hr hx
    replace hy := Tbl.gr hr hy
    replace ha := Tbl.gr hr ha
    replace hq := Gr.go hq hr
    clear hr
    go_wp2_with fail
    refine (awake3_p _).mono ?_
    rintro e w7 ⟨rfl, hr⟩
    replace hx := Tbl.gr hr hx
    replace hy := Tbl.gr hr hy
    replace ha := Tbl.gr hr ha
    replace hb := Tbl.gr hr hb
    replace hq := Gr.go hq hr
    clear hr
    go_wp2_with fail
    refine (same_p hx hy).mono ?_
    rintro e w8 ⟨rfl, hr⟩
    replace hq := Gr.go hq hr
    replace ha := Tbl.gr hr ha
    replace hb := Tbl.gr hr hb
    clear hr
    rw [beqTT]
    go_wp2_with fail
    refine (same_p ha hb).mono ?_
    rintro e w9 ⟨rfl, hr⟩
    replace hq := Gr.go hq hr
    clear hr
    rw [beqTT]
    go_wp2_with fail
    go_ret
    exact ⟨rfl, hq.out⟩
end Go.Proofs.Ytpeilgeloaogfaa
