/- mat's laws: Times, Code, Groups. -/
import Derived.Test.YtpeilgeloaogfaaMatAw
import Derived.Test.YtpeilgeloaogfaaMatPick
namespace Go.Proofs.Ytpeilgeloaogfaa
set_option linter.unusedVariables false
set_option linter.unusedSimpArgs false
open Go Go.RowKit
theorem Tbl.gr {w w' : World} {L : List (List UInt8)} {v : Value} (hr : Gr w w') (h : Hid (Tbl L v w)) : Hid (Tbl L v w') := Lib.hid ((tbP L).st hr h.out)
theorem Gr.go {x y z : World} (h1 : Hid (Gr x y)) (h2 : Gr y z) : Hid (Gr x z) := Lib.hid (h1.out.trans h2)
def prod (La Lb : List (List UInt8)) : List (List UInt8) := if fits La Lb = true then tabM La.length (width Lb) (mm Lb.length (ent La) (ent Lb)) else []
theorem times_p {w : World} {La Lb : List (List UInt8)} {va vb : Value} (ha : Hid (Tbl La va w)) (hb : Hid (Tbl Lb vb w)) :
    Calls Try.prog 29 #[va, vb] w fun e w' => ∃ u, e = .returned (.tuple #[u, .bool (fits La Lb)]) ∧ Hid (Tbl (prod La Lb) u w') ∧ Gr w w' := by
  refine (times_tbl ha.out hb.out).mono ?_
  rintro e w' ⟨u, L, b, rfl, h1, h2, rfl, rfl⟩
  exact ⟨u, rfl, Lib.hid h1, h2⟩
theorem rtimes_p {w : World} {La Lb : List (List UInt8)} {va vb : Value} (ha : Hid (Tbl La va w)) (hb : Hid (Tbl Lb vb w)) :
    Calls Try.prog 30 #[va, vb] w fun e w' => ∃ u, e = .returned (.tuple #[u, .bool (fits La Lb)]) ∧ Hid (Tbl (prod La Lb) u w') ∧ Gr w w' := by
  obtain ⟨A, c, rfl, a1, a2, a3⟩ := ha.out
  obtain ⟨A2, c2, rfl, b1, b2, b3⟩ := hb.out
  have hm : maxLen = 9223372036854775807 := rfl
  cases hf : fits La Lb with
  | true =>
    refine (rtimes_ok A _ c La a1 A2 _ c2 Lb b1 w a3 b3 hf).mono ?_
    rintro e w' ⟨A', c', rfl, h1, h2, h3, h4⟩
    have hp : prod La Lb = tabM La.length (width Lb) (mm Lb.length (ent La) (ent Lb)) := if_pos hf
    refine ⟨_, rfl, Lib.hid ⟨A', c', ?_, ?_, h2, ?_⟩, h4⟩
    · rw [hp, tabM_length]
    · rw [hp, tabM_length]; exact h1
    · rw [hp, tabM_length]; exact h3
  | false =>
    refine (rtimes_no A _ c La a1 (by rw [← hm]; exact a2) A2 _ c2 Lb b1 (by rw [← hm]; exact b2) w a3 b3 hf).mono ?_
    rintro e w' ⟨rfl, hb⟩
    have hp : prod La Lb = [] := if_neg (by rw [hf]; decide)
    exact ⟨_, rfl, Lib.hid (by rw [hp]; exact tbl_nil), hb⟩
theorem same_p {w : World} {La Lb : List (List UInt8)} {va vb : Value} (ha : Hid (Tbl La va w)) (hb : Hid (Tbl Lb vb w)) :
    Calls Try.prog 32 #[va, vb] w fun e w' => e = .returned (.bool (La == Lb)) ∧ Gr w w' := same_tbl ha.out hb.out
theorem beqTT (L : List (List UInt8)) : (L == L) = true := by simp
theorem awake_p (w : World) : Calls Try.prog 31 #[] w fun e w' => e = .returned (.bool true) ∧ Gr w w' := awake02_any w
theorem mcode_p (m n : Int) (hm : -9223372036854775808 ≤ m ∧ m ≤ 9223372036854775807) (w : World) :
    Calls Try.prog 37 #[.int .i64 m, .int .i64 n] w fun e w' => ∃ u, e = .returned u ∧ Hid (Tbl (if m < 1 ∨ n < m ∨ 32 < n then [] else tabM n.toNat m.toNat (codeE m.toNat)) u w') ∧ Gr w w' := by
  by_cases h : m < 1 ∨ n < m ∨ 32 < n
  · refine (code_no m n hm h w).mono ?_
    rintro e w' ⟨rfl, rfl⟩
    rw [if_pos h]
    exact ⟨_, rfl, Lib.hid tbl_nil, Below.refl _ _⟩
  · have e1 : m = (m.toNat : Int) := by omega
    have e2 : n = (n.toNat : Int) := by omega
    rw [if_neg h, e1, e2]
    refine (code_tbl m.toNat n.toNat (by omega) (by omega) (by omega) w).mono ?_
    rintro e w' ⟨u, rfl, h1, h2⟩
    rw [Int.toNat_natCast, Int.toNat_natCast]
    exact ⟨u, rfl, Lib.hid h1, h2⟩
theorem rmcode_p (m n : Int) (w : World) :
    Calls Try.prog 38 #[.int .i64 m, .int .i64 n] w fun e w' => ∃ u, e = .returned u ∧ Hid (Tbl (if m < 1 ∨ n < m ∨ 32 < n then [] else tabM n.toNat m.toNat (codeE m.toNat)) u w') ∧ Gr w w' := by
  by_cases h : m < 1 ∨ n < m ∨ 32 < n
  · refine (rcode_no m n h w).mono ?_
    rintro e w' ⟨A, c, rfl, h0, h1, h2⟩
    rw [if_pos h]
    exact ⟨_, rfl, Lib.hid ⟨A, c, rfl, Nat.zero_le _, h0, h1⟩, h2⟩
  · have e1 : m = (m.toNat : Int) := by omega
    have e2 : n = (n.toNat : Int) := by omega
    rw [if_neg h, e1, e2]
    refine (rcode_ok m.toNat n.toNat (by omega) (by omega) (by omega) w).mono ?_
    rintro e w' ⟨A, c, rfl, h1, h2, h3, h4⟩
    rw [Int.toNat_natCast, Int.toNat_natCast]
    exact ⟨_, rfl, Lib.hid ⟨A, c, by rw [tabM_length], by rw [tabM_length]; exact h1, h2, by rw [tabM_length]; exact h3⟩, h4⟩
set_option maxHeartbeats 16000000 in
set_option maxRecDepth 20000 in
theorem matTimes_any {La Lb : List (List UInt8)} {va vb : Value} (w : World) (ha : Hid (Tbl La va w)) (hb : Hid (Tbl Lb vb w)) : Calls Try.prog 3 #[va, vb] w fun e w' => e = .returned (.bool true) ∧ Below w.heap.size w w' := by
  have hq : Hid (Gr w w) := Lib.hid (Below.refl _ _)
  go_enter Try.func3, Try.ntmps3
  go_wp2_with fail
  refine (times_p ha hb).mono ?_
  rintro e w1 ⟨u1, rfl, hu1, hr⟩
  replace ha := Tbl.gr hr ha
  replace hb := Tbl.gr hr hb
  replace hq := Gr.go hq hr
  clear hr
  go_wp2_with fail
  refine (rtimes_p ha hb).mono ?_
  rintro e w2 ⟨u2, rfl, hu2, hr⟩
  replace ha := Tbl.gr hr ha
  replace hb := Tbl.gr hr hb
  replace hu1 := Tbl.gr hr hu1
  replace hq := Gr.go hq hr
  clear hr
  generalize fits La Lb = bt
  go_wp2_with fail
  refine (awake_p _).mono ?_
  rintro e w3 ⟨rfl, hr⟩
  replace hu1 := Tbl.gr hr hu1
  replace hu2 := Tbl.gr hr hu2
  replace hq := Gr.go hq hr
  clear hr
  go_wp2_with fail
  refine (same_p hu1 hu2).mono ?_
  rintro e w4 ⟨rfl, hr⟩
  replace hq := Gr.go hq hr
  clear hr
  rw [beqTT]
  go_wp2_with fail
  go_ret
  exact ⟨rfl, hq.out⟩
set_option maxHeartbeats 16000000 in
set_option maxRecDepth 20000 in
theorem matCode_any (m n : Int) (hm : -9223372036854775808 ≤ m ∧ m ≤ 9223372036854775807) (w : World) : Calls Try.prog 5 #[.int .i64 m, .int .i64 n] w fun e w' => e = .returned (.bool true) ∧ Below w.heap.size w w' := by
  have hq : Hid (Gr w w) := Lib.hid (Below.refl _ _)
  go_enter Try.func5, Try.ntmps5
  go_wp2_with fail
  refine (awake_p _).mono ?_
  rintro e w1 ⟨rfl, hr⟩
  replace hq := Gr.go hq hr
  clear hr
  go_wp2_with fail
  refine (mcode_p m n hm _).mono ?_
  rintro e w2 ⟨u1, rfl, hu1, hr⟩
  replace hq := Gr.go hq hr
  clear hr
  go_wp2_with fail
  refine (rmcode_p m n _).mono ?_
  rintro e w3 ⟨u2, rfl, hu2, hr⟩
  replace hu1 := Tbl.gr hr hu1
  replace hq := Gr.go hq hr
  clear hr
  go_wp2_with fail
  refine (same_p hu1 hu2).mono ?_
  rintro e w4 ⟨rfl, hr⟩
  replace hq := Gr.go hq hr
  clear hr
  rw [beqTT]
  go_wp2_with fail
  go_ret
  exact ⟨rfl, hq.out⟩
theorem fits_iff {La Lb : List (List UInt8)} : fits La Lb = true ↔ (isTab La = true ∧ isTab Lb = true ∧ width La = Lb.length) := by
  unfold fits
  rw [Bool.and_eq_true, Bool.and_eq_true, beq_iff_eq, and_assoc]
theorem prod_tab {La Lb : List (List UInt8)} (h : fits La Lb = true) : isTab (prod La Lb) = true ∧ width (prod La Lb) = width Lb ∧ (prod La Lb).length = La.length := by
  obtain ⟨h1, h2, h3⟩ := fits_iff.mp h
  obtain ⟨a1, a2, a3, a4, -⟩ := isTab_iff.mp h1
  obtain ⟨b1, b2, b3, b4, -⟩ := isTab_iff.mp h2
  have hp : prod La Lb = tabM La.length (width Lb) (mm Lb.length (ent La) (ent Lb)) := if_pos h
  obtain ⟨i1, i2⟩ := isTab_tabM a1 a2 b3 b4 (mm Lb.length (ent La) (ent Lb))
  rw [hp]
  exact ⟨i1, i2, tabM_length _ _ _⟩
theorem prod_ent {La Lb : List (List UInt8)} (h : fits La Lb = true) {i j : Nat} (hi : i < La.length) (hj : j < width Lb) : ent (prod La Lb) i j = mm Lb.length (ent La) (ent Lb) i j := by
  have hp : prod La Lb = tabM La.length (width Lb) (mm Lb.length (ent La) (ent Lb)) := if_pos h
  rw [hp, ent_tabM hi hj]
theorem prod_assoc {La Lb Lc : List (List UInt8)} (h1 : fits La Lb = true) (h2 : fits Lb Lc = true) : fits (prod La Lb) Lc = true ∧ fits La (prod Lb Lc) = true ∧ prod (prod La Lb) Lc = prod La (prod Lb Lc) := by
  obtain ⟨p1, p2, p3⟩ := prod_tab h1
  obtain ⟨q1, q2, q3⟩ := prod_tab h2
  obtain ⟨a1, a2, a3⟩ := fits_iff.mp h1
  obtain ⟨b1, b2, b3⟩ := fits_iff.mp h2
  have f1 : fits (prod La Lb) Lc = true := fits_iff.mpr ⟨p1, b2, by rw [p2]; exact b3⟩
  have f2 : fits La (prod Lb Lc) = true := fits_iff.mpr ⟨a1, q1, by rw [q3]; exact a3⟩
  refine ⟨f1, f2, ?_⟩
  rw [show prod (prod La Lb) Lc = tabM (prod La Lb).length (width Lc) (mm Lc.length (ent (prod La Lb)) (ent Lc)) from if_pos f1, show prod La (prod Lb Lc) = tabM La.length (width (prod Lb Lc)) (mm (prod Lb Lc).length (ent La) (ent (prod Lb Lc))) from if_pos f2, p3, q2, q3]
  refine tabM_congr (fun i j hi hj => ?_)
  rw [mm_congr (A' := mm Lb.length (ent La) (ent Lb)) (B' := ent Lc) (fun k hk => prod_ent h1 hi (by rw [b3]; exact hk)) (fun _ _ => rfl), mm_assoc]
  exact (mm_congr (fun _ _ => rfl) (fun k hk => prod_ent h2 hk hj)).symm
set_option maxHeartbeats 16000000 in
set_option maxRecDepth 20000 in
theorem matGroups_any {La Lb Lc : List (List UInt8)} {va vb vc : Value} (w : World) (ha : Hid (Tbl La va w)) (hb : Hid (Tbl Lb vb w)) (hc : Hid (Tbl Lc vc w)) : Calls Try.prog 7 #[va, vb, vc] w fun e w' => e = .returned (.bool true) ∧ Below w.heap.size w w' := by
  have hq : Hid (Gr w w) := Lib.hid (Below.refl _ _)
  go_enter Try.func7, Try.ntmps7
  go_wp2_with fail
  refine (times_p ha hb).mono ?_
  rintro e w1 ⟨u1, rfl, hu1, hr⟩
  replace ha := Tbl.gr hr ha
  replace hb := Tbl.gr hr hb
  replace hc := Tbl.gr hr hc
  replace hq := Gr.go hq hr
  clear hr
  go_wp2_with fail
  refine (times_p hb hc).mono ?_
  rintro e w2 ⟨u2, rfl, hu2, hr⟩
  replace ha := Tbl.gr hr ha
  replace hb := Tbl.gr hr hb
  replace hc := Tbl.gr hr hc
  replace hu1 := Tbl.gr hr hu1
  replace hq := Gr.go hq hr
  clear hr
  cases h1 : fits La Lb with
  | false =>
    go_wp2_with fail
    refine (awake_p _).mono ?_
    rintro e w3 ⟨rfl, hr⟩
    replace hq := Gr.go hq hr
    clear hr
    go_wp2_with fail
    go_ret
    exact ⟨rfl, hq.out⟩
  | true =>
    cases h2 : fits Lb Lc with
    | false =>
      go_wp2_with fail
      refine (awake_p _).mono ?_
      rintro e w3 ⟨rfl, hr⟩
      replace hq := Gr.go hq hr
      clear hr
      go_wp2_with fail
      go_ret
      exact ⟨rfl, hq.out⟩
    | true =>
      obtain ⟨e1, e2, e3⟩ := prod_assoc h1 h2
      go_wp2_with fail
      refine (times_p hu1 hc).mono ?_
      rintro e w3 ⟨u3, rfl, hu3, hr⟩
      replace ha := Tbl.gr hr ha
      replace hu2 := Tbl.gr hr hu2
      replace hq := Gr.go hq hr
      clear hr
      rw [e1]
      replace e1 := Lib.hid e1
      go_wp2_with fail
      refine (times_p ha hu2).mono ?_
      rintro e w4 ⟨u4, rfl, hu4, hr⟩
      replace hu3 := Tbl.gr hr hu3
      replace hq := Gr.go hq hr
      clear hr
      rw [e2]
      replace e2 := Lib.hid e2
      rw [e3] at hu3
      replace e3 := Lib.hid e3
      go_wp2_with fail
      refine (awake_p _).mono ?_
      rintro e w5 ⟨rfl, hr⟩
      replace hu3 := Tbl.gr hr hu3
      replace hu4 := Tbl.gr hr hu4
      replace hq := Gr.go hq hr
      clear hr
      go_wp2_with fail
      refine (same_p hu3 hu4).mono ?_
      rintro e w6 ⟨rfl, hr⟩
      replace hq := Gr.go hq hr
      clear hr
      rw [beqTT]
      go_wp2_with fail
      go_ret
      exact ⟨rfl, hq.out⟩
end Go.Proofs.Ytpeilgeloaogfaa
