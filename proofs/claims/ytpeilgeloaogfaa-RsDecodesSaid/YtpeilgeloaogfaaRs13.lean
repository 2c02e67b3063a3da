/- rs: Decode and Fill are the reference's. -/
import Derived.Test.YtpeilgeloaogfaaRs12
import Derived.Test.YtpeilgeloaogfaaOpenTabs
namespace Go.Proofs.Ytpeilgeloaogfaa
set_option linter.unusedVariables false
set_option linter.unusedSimpArgs false
open Go Go.RowKit
theorem tbl_of3 {W : World} {A : Option Addr} {n c : Nat} {L : List (List UInt8)} (h : RT W W.heap.size A n L) (hc : n ≤ c) (hm : c ≤ maxLen) : Hid (Tbl L (.slice A n c) W) :=
  Lib.hid ⟨A, c, by rw [h.1], by rw [h.1]; exact hc, hm, by rw [h.1]; exact h⟩
theorem Tbl.ten {w : World} {L : List (List UInt8)} {v : Value} (h : Tbl L v w) (hl : L.length = 10) : ∃ b o c, v = .slice (some ⟨b, o, none⟩) 10 c ∧ 10 ≤ c ∧ RT w w.heap.size (some ⟨b, o, none⟩) 10 L := by
  obtain ⟨A, c, rfl, h1, -, h3⟩ := h
  rw [hl] at h1 h3 ⊢
  obtain ⟨b, o, A0, c0, l0, rfl, -⟩ := h3.at_ (i := 0) (by decide)
  exact ⟨b, o, c, rfl, h1, h3⟩
set_option maxHeartbeats 4000000 in
set_option maxRecDepth 20000 in
theorem rsdec_len {A : Option Addr} {n c : Nat} (hn : n ≠ 10) (hm : n ≤ 9223372036854775807) (w : World) : Calls Try.prog 44 #[.slice A n c] w fun e w' => e = .returned (.tuple #[.slice none 0 0, .int .i64 1]) ∧ w' = w := by
  have d1 : ((n : Int) != 10) = true := by simp; omega
  replace hn := Lib.hid hn
  go_enter Try.func44, Try.ntmps44
  go_wp2_with fail
  go_ret2
  exact ⟨rfl, rfl⟩
set_option maxHeartbeats 4000000 in
set_option maxRecDepth 20000 in
theorem rrdec_len {A : Option Addr} {n c : Nat} (hn : n ≠ 10) (hm : n ≤ 9223372036854775807) (w : World) : Calls Try.prog 45 #[.slice A n c] w fun e w' => e = .returned (.tuple #[.slice none 0 0, .int .i64 1]) ∧ w' = w := by
  have d1 : ((n : Int) != 10) = true := by simp; omega
  replace hn := Lib.hid hn
  go_enter Try.func45, Try.ntmps45
  go_wp2_with fail
  go_ret2
  exact ⟨rfl, rfl⟩
set_option maxHeartbeats 4000000 in
set_option maxRecDepth 20000 in
theorem rsfill_len {A : Option Addr} {n c : Nat} (hn : n ≠ 10) (hm : n ≤ 9223372036854775807) (w : World) : Calls Try.prog 46 #[.slice A n c] w fun e w' => e = .returned (.tuple #[.slice none 0 0, .int .i64 1]) ∧ w' = w := by
  have h1 := Lib.hid (rsdec_len (A := A) (c := c) hn hm w)
  replace hn := Lib.hid hn
  go_enter Try.func46, Try.ntmps46
  go_wp2_with fail
  refine h1.out.mono ?_
  rintro e w' ⟨rfl, rfl⟩
  clear h1
  go_wp2_with fail
  go_ret2
  exact ⟨rfl, rfl⟩
set_option maxHeartbeats 16000000 in
set_option maxRecDepth 20000 in
theorem rsDecodes_any {L : List (List UInt8)} {v : Value} (w : World) (hL : Hid (Tbl L v w)) : Calls Try.prog 10 #[v] w fun e w' => e = .returned (.bool true) ∧ Below w.heap.size w w' := by
  have hq : Hid (Gr w w) := Lib.hid (Below.refl _ _)
  by_cases h10 : L.length = 10
  · obtain ⟨b, o, c, rfl, hc, hRT⟩ := hL.out.ten h10
    have hd := Lib.hid (rsdec_any h10 w hL)
    have hR := Lib.hid hRT
    have hl10 := Lib.hid h10
    clear hRT h10
    go_enter Try.func10, Try.ntmps10
    go_wp2_with fail
    refine hd.out.mono ?_
    rintro e w1 ⟨hr, ⟨k1, k2, A, c1, D, rfl, hob, hsol⟩ | ⟨k1, k2, rfl⟩ | ⟨k1, rfl⟩⟩
    · replace hq := Gr.go hq hr
      have hR1 := Lib.hid (hR.out.up hr)
      have hrr := Lib.hid (rrdec_any (D := D) hl10 hc (Lib.hid (fun _ _ => hsol)) w1 hR1)
      have hob1 := hob
      replace k1 := Lib.hid k1
      replace k2 := Lib.hid k2
      replace hsol := Lib.hid hsol
      clear hd hr hR
      go_wp2_with fail
      refine hrr.out.mono ?_
      rintro e w2 ⟨hr, ⟨m1, m2, A2, c2, rfl, hob2⟩ | ⟨m1, m2, rfl⟩ | ⟨m1, rfl⟩⟩
      rotate_left
      · exact absurd k2.out (by omega)
      · exact absurd k1.out m1
      clear hrr m1
      clear m2
      have hA := OB.gr hr hob
      have hB := hob2
      replace hq := Gr.go hq hr
      clear hob hob1 hob2 hr
      go_wp2_with fail
      refine (awake3_p _).mono ?_
      rintro e w3 ⟨rfl, hr⟩
      replace hA := OB.gr hr hA
      replace hB := OB.gr hr hB
      replace hq := Gr.go hq hr
      clear hr
      have hfl : Hid ((flat 8 16 D).length = 128) := Lib.hid (flat_length _ _ _)
      have cv1 := run_str_at (n := 128) c1 (OB.rd hA.out).1 hfl.out
      have cv2 := run_str_at (n := 128) c2 (OB.rd hB.out).1 hfl.out
      generalize flat 8 16 D = fl at *
      have hbb : (fl == fl) = true := by simp
      go_wp2_with fail
      go_ret
      exact ⟨rfl, hq.out⟩
    · replace hq := Gr.go hq hr
      have hR1 := Lib.hid (hR.out.up hr)
      have hrr := Lib.hid (rrdec_any (D := fun _ _ => 0) hl10 hc (Lib.hid (fun _ h => absurd h (by omega))) w1 hR1)
      replace k1 := Lib.hid k1
      replace k2 := Lib.hid k2
      clear hd hr hR
      go_wp2_with fail
      refine hrr.out.mono ?_
      rintro e w2 ⟨hr, ⟨m1, m2, A2, c2, rfl, hob2⟩ | ⟨m1, m2, rfl⟩ | ⟨m1, rfl⟩⟩
      · exact absurd k2.out (by omega)
      rotate_left
      · exact absurd k1.out m1
      clear hrr m1
      clear m2
      replace hq := Gr.go hq hr
      clear hr
      go_wp2_with fail
      refine (awake3_p _).mono ?_
      rintro e w3 ⟨rfl, hr⟩
      replace hq := Gr.go hq hr
      clear hr
      have cv1 := run_str_at (w := w3) (B := w3.heap.size) (A := none) (l := []) (n := 0) 0 Rd.nil_ rfl
      go_wp2_with fail
      go_ret
      exact ⟨rfl, hq.out⟩
    · replace hq := Gr.go hq hr
      have hR1 := Lib.hid (hR.out.up hr)
      have hrr := Lib.hid (rrdec_any (D := fun _ _ => 0) hl10 hc (Lib.hid (fun h _ => absurd h k1)) w1 hR1)
      replace k1 := Lib.hid k1
      clear hd hr hR
      go_wp2_with fail
      refine hrr.out.mono ?_
      rintro e w2 ⟨hr, ⟨m1, m2, A2, c2, rfl, hob2⟩ | ⟨m1, m2, rfl⟩ | ⟨m1, rfl⟩⟩
      · exact absurd m1 k1.out
      · exact absurd m1 k1.out
      clear hrr m1
      replace hq := Gr.go hq hr
      clear hr
      go_wp2_with fail
      refine (awake3_p _).mono ?_
      rintro e w3 ⟨rfl, hr⟩
      replace hq := Gr.go hq hr
      clear hr
      have cv1 := run_str_at (w := w3) (B := w3.heap.size) (A := none) (l := []) (n := 0) 0 Rd.nil_ rfl
      go_wp2_with fail
      go_ret
      exact ⟨rfl, hq.out⟩
  · obtain ⟨A, c, rfl, n1, n2, -⟩ := hL.out
    obtain ⟨n, hn⟩ : ∃ n, L.length = n := ⟨_, rfl⟩
    rw [hn] at n1 h10 ⊢
    have hm9 : maxLen = 9223372036854775807 := rfl
    have hnm : n ≤ 9223372036854775807 := by omega
    have e1 := Lib.hid (rsdec_len (A := A) (c := c) h10 hnm w)
    have e2 := Lib.hid (rrdec_len (A := A) (c := c) h10 hnm w)
    replace h10 := Lib.hid h10
    replace hn := Lib.hid hn
    replace hm9 := Lib.hid hm9
    clear hL
    go_enter Try.func10, Try.ntmps10
    go_wp2_with fail
    refine e1.out.mono ?_
    rintro e w1 ⟨rfl, rfl⟩
    clear e1
    go_wp2_with fail
    refine e2.out.mono ?_
    rintro e w2 ⟨rfl, rfl⟩
    clear e2
    go_wp2_with fail
    refine (awake3_p _).mono ?_
    rintro e w3 ⟨rfl, hr⟩
    replace hq := Gr.go hq hr
    clear hr
    have cv1 := run_str_at (w := w3) (B := w3.heap.size) (A := none) (l := []) (n := 0) 0 Rd.nil_ rfl
    go_wp2_with fail
    go_ret
    exact ⟨rfl, hq.out⟩
set_option maxHeartbeats 16000000 in
set_option maxRecDepth 20000 in
theorem rsFills_any {L : List (List UInt8)} {v : Value} (w : World) (hL : Hid (Tbl L v w)) : Calls Try.prog 11 #[v] w fun e w' => e = .returned (.bool true) ∧ Below w.heap.size w w' := by
  have hq : Hid (Gr w w) := Lib.hid (Below.refl _ _)
  by_cases h10 : L.length = 10
  · obtain ⟨b, o, c, rfl, hc, hRT⟩ := hL.out.ten h10
    have hd := Lib.hid (rsfill_any h10 w hL)
    have hR := Lib.hid hRT
    have hl10 := Lib.hid h10
    clear hRT h10
    go_enter Try.func11, Try.ntmps11
    go_wp2_with fail
    refine hd.out.mono ?_
    rintro e w1 ⟨hr, ⟨k1, k2, g, G, C, D, rfl, htb, hsol⟩ | ⟨k1, k2, rfl⟩ | ⟨k1, rfl⟩⟩
    · have hT1 : Hid (Tbl (tabM 10 16 (encD D)) (.slice (some ⟨g, 0, none⟩) 10 10) w1) := Lib.hid (htb.tbl (by decide) _ (Nat.le_refl _) (by decide))
      clear htb
      replace hq := Gr.go hq hr
      have hR1 := Lib.hid (hR.out.up hr)
      have hrr := Lib.hid (rrdec_any (D := D) hl10 hc (Lib.hid (fun _ _ => hsol)) w1 hR1)
      replace k1 := Lib.hid k1
      replace k2 := Lib.hid k2
      replace hsol := Lib.hid hsol
      clear hd hr hR
      go_wp2_with fail
      refine hrr.out.mono ?_
      rintro e w2 ⟨hr, ⟨m1, m2, A2, c2, rfl, hob2⟩ | ⟨m1, m2, rfl⟩ | ⟨m1, rfl⟩⟩
      rotate_left
      · exact absurd k2.out (by omega)
      · exact absurd k1.out m1
      clear hrr m1
      clear m2
      replace hT1 := Tbl.gr hr hT1
      replace hq := Gr.go hq hr
      clear hr
      have hfl : Hid ((flat 8 16 D).length = 128) := Lib.hid (flat_length _ _ _)
      obtain ⟨A9, c9, e9, q1, q2, q3, -⟩ := hob2.out.form
      injection e9 with e91 e92 e93
      rw [hfl.out] at q1
      subst e91 e93
      have q2' : c2 ≤ 9223372036854775807 := q2
      clear e92
      go_wp2_with fail
      refine (rrsenc_ok A2 c2 (flat 8 16 D) q1 q2' hfl _ q3).mono ?_
      rintro e w3 ⟨A3, c3, rfl, hT2, hr⟩
      replace hT1 := Tbl.gr hr hT1
      replace hq := Gr.go hq hr
      clear hr
      have hee : tabM 10 16 (encM (flat 8 16 D)) = tabM 10 16 (encD D) := by
        rw [encM_eq]
        exact tabM_congr (encD_congr (part_flat (n := 8) (m := 16)))
      rw [hee] at hT2
      clear hee hob2 q1 q2 q2' q3
      go_wp2_with fail
      refine (awake3_p _).mono ?_
      rintro e w4 ⟨rfl, hr⟩
      replace hT1 := Tbl.gr hr hT1
      replace hT2 := Tbl.gr hr hT2
      replace hq := Gr.go hq hr
      clear hr
      go_wp2_with fail
      refine (same_p hT1 hT2).mono ?_
      rintro e w5 ⟨rfl, hr⟩
      replace hq := Gr.go hq hr
      clear hr
      rw [beqTT]
      go_wp2_with fail
      go_ret
      exact ⟨rfl, hq.out⟩
    · replace hq := Gr.go hq hr
      have hR1 := Lib.hid (hR.out.up hr)
      have hrr := Lib.hid (rrdec_any (D := fun _ _ => 0) hl10 hc (Lib.hid (fun _ h => absurd h (by omega))) w1 hR1)
      replace k1 := Lib.hid k1
      replace k2 := Lib.hid k2
      clear hd hr hR
      go_wp2_with fail
      refine hrr.out.mono ?_
      rintro e w2 ⟨hr, ⟨m1, m2, A2, c2, rfl, hob2⟩ | ⟨m1, m2, rfl⟩ | ⟨m1, rfl⟩⟩
      · exact absurd k2.out (by omega)
      rotate_left
      · exact absurd k1.out m1
      clear hrr m1
      clear m2
      replace hq := Gr.go hq hr
      clear hr
      go_wp2_with fail
      refine (awake3_p _).mono ?_
      rintro e w3 ⟨rfl, hr⟩
      replace hq := Gr.go hq hr
      clear hr
      go_wp2_with fail
      go_ret
      exact ⟨rfl, hq.out⟩
    · replace hq := Gr.go hq hr
      have hR1 := Lib.hid (hR.out.up hr)
      have hrr := Lib.hid (rrdec_any (D := fun _ _ => 0) hl10 hc (Lib.hid (fun h _ => absurd h k1)) w1 hR1)
      replace k1 := Lib.hid k1
      clear hd hr hR
      go_wp2_with fail
      refine hrr.out.mono ?_
      rintro e w2 ⟨hr, ⟨m1, m2, A2, c2, rfl, hob2⟩ | ⟨m1, m2, rfl⟩ | ⟨m1, rfl⟩⟩
      · exact absurd m1 k1.out
      · exact absurd m1 k1.out
      clear hrr m1
      replace hq := Gr.go hq hr
      clear hr
      go_wp2_with fail
      refine (awake3_p _).mono ?_
      rintro e w3 ⟨rfl, hr⟩
      replace hq := Gr.go hq hr
      clear hr
      go_wp2_with fail
      go_ret
      exact ⟨rfl, hq.out⟩
  · obtain ⟨A, c, rfl, n1, n2, -⟩ := hL.out
    obtain ⟨n, hn⟩ : ∃ n, L.length = n := ⟨_, rfl⟩
    rw [hn] at n1 h10 ⊢
    have hm9 : maxLen = 9223372036854775807 := rfl
    have hnm : n ≤ 9223372036854775807 := by omega
    have e1 := Lib.hid (rsfill_len (A := A) (c := c) h10 hnm w)
    have e2 := Lib.hid (rrdec_len (A := A) (c := c) h10 hnm w)
    replace h10 := Lib.hid h10
    replace hn := Lib.hid hn
    replace hm9 := Lib.hid hm9
    clear hL
    go_enter Try.func11, Try.ntmps11
    go_wp2_with fail
    refine e1.out.mono ?_
    rintro e w1 ⟨rfl, rfl⟩
    clear e1
    go_wp2_with fail
    refine e2.out.mono ?_
    rintro e w2 ⟨rfl, rfl⟩
    clear e2
    go_wp2_with fail
    refine (awake3_p _).mono ?_
    rintro e w3 ⟨rfl, hr⟩
    replace hq := Gr.go hq hr
    clear hr
    go_wp2_with fail
    go_ret
    exact ⟨rfl, hq.out⟩
end Go.Proofs.Ytpeilgeloaogfaa
