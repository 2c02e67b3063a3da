/- rs: any eight shards bring a group back. -/
import Derived.Test.YtpeilgeloaogfaaRs5
namespace Go.Proofs.Ytpeilgeloaogfaa
set_option linter.unusedVariables false
set_option linter.unusedSimpArgs false
open Go Go.RowKit
def lackP (lk : Nat) (i : Nat) : Bool := bits BinOp.and .u16 ((lk : Int) / 2 ^ i) 1 == 1
theorem tabN_snoc (k m : Nat) (M : Mx) (P : Nat → Bool) : tabN k m M P ++ [if P k = true then [] else row m (M k)] = tabN (k + 1) m M P := by
  unfold tabN; rw [List.range_succ, List.map_append]; rfl
theorem cnt_succ (P : Nat → Bool) (k : Nat) : ((List.range (k + 1)).filter P).length = ((List.range k).filter P).length + (if P k = true then 1 else 0) := by
  rw [List.range_succ, List.filter_append, List.length_append]
  congr 1
  by_cases h : P k = true
  · rw [List.filter_cons_of_pos h, if_pos h]; rfl
  · rw [List.filter_cons_of_neg h, if_neg h]; rfl
set_option maxHeartbeats 16000000 in
set_option maxRecDepth 20000 in
theorem without_p {M : Mx} {A : Option Addr} {c : Nat} (lk : Nat) (hlk : lk < 65536) (w : World) (h : Hid (RT w w.heap.size A 10 (tabM 10 16 M))) (hc : 10 ≤ c) :
    Calls Try.prog 47 #[.slice A 10 c, .int .u16 lk] w fun e w' => ∃ A1 c1 cnt, e = .returned (.tuple #[.slice A1 10 c1, .int .i64 (cnt : Nat)]) ∧ cnt ≤ 10 ∧ Hid (cnt = ((List.range 10).filter (lackP lk)).length) ∧ Hid (Tbl (tabN 10 16 M (lackP lk)) (.slice A1 10 c1) w') ∧ Gr w w' := by
  have hat := Lib.hid (AT.empty w w.heap.size (Nat.le_refl _))
  have hq := Lib.hid ((Below.refl w.heap.size w).alloc (Nat.le_refl _) (.cells #[] 29))
  go_enter Try.func47, Try.ntmps47
  go_wp2_with fail
  obtain ⟨w3, hw3⟩ : ∃ w3, w.alloc (.cells #[] 29) = w3 := ⟨_, rfl⟩
  rw [hw3] at hat hq ⊢
  replace hw3 := Lib.hid hw3
  go_loopw [6, 7, 8] (fun v n i wr => ∃ (k cnt : Nat) (A1 : Option Addr) (c1 : Nat), k ≤ 10 ∧ cnt ≤ k ∧ i = .int .i64 k ∧ n = .int .i64 cnt ∧ v = .slice A1 k c1 ∧ Hid (cnt = ((List.range k).filter (lackP lk)).length) ∧ Hid (AT wr w.heap.size (.slice A1 k c1) (tabN k 16 M (lackP lk))) ∧ Hid (Below w.heap.size w wr)) (fun _ _ i _ => 10 - (intOf i).toNat)
  case atStart => exact ⟨0, 0, _, _, Nat.zero_le _, Nat.le_refl _, rfl, rfl, rfl, Lib.hid rfl, hat, hq⟩
  case round =>
    obtain ⟨k, cnt, A1, c1, hk, hck, rfl, rfl, rfl, hcnt, hat1, hq1⟩ := hrel
    clear hat hq
    obtain ⟨wo, hwo⟩ : ∃ wo, wo = wr := ⟨_, rfl⟩
    subst hwo
    by_cases hlt : k < 10
    · have ik : (k : Int) < 10 := by omega
      have hwsz : w.heap.size ≤ wo.heap.size := hq1.out.size
      have hcs := cnt_succ (lackP lk) k
      have hsn := tabN_snoc k 16 M (lackP lk)
      cases hP : lackP lk k with
      | true =>
        rw [hP, if_pos rfl] at hcs hsn
        have hcnt2 : Hid (cnt + 1 = ((List.range (k + 1)).filter (lackP lk)).length) := Lib.hid (by rw [hcs, ← hcnt.out])
        replace hsn := Lib.hid hsn
        have hb : (bits BinOp.and .u16 ((lk : Int) / 2 ^ k) 1 == 1) = true := hP
        replace hP := Lib.hid hP
        have ho := OB.empty wo w.heap.size hwsz
        have hb1 : Below wo.heap.size wo (wo.alloc (.cells #[] 5)) := (Below.refl _ _).alloc (Nat.le_refl _) _
        have hat5 := hat1.out.below hb1 hwsz
        have hq5 := hq1.out.trans (hb1.mono hwsz)
        have hbb : Below (wo.alloc (.cells #[] 5)).heap.size (wo.alloc (.cells #[] 5)) ((wo.alloc (.cells #[] 5)).alloc (.cells #[.slice (some ⟨wo.heap.size, 0, none⟩) 0 0] 29)) := (Below.refl _ _).alloc (Nat.le_refl _) _
        have hat3 := Lib.hid (hat5.below hbb hq5.size)
        have hrok2 := Lib.hid (RowOk.below (.inl ho : RowOk (wo.alloc (.cells #[] 5)) w.heap.size (some ⟨wo.heap.size, 0, none⟩) 0 []) hbb hq5.size)
        have hq9 := Lib.hid (hq5.trans (hbb.mono hq5.size))
        have hrd9 : Hid (Reads ((wo.alloc (.cells #[] 5)).alloc (.cells #[.slice (some ⟨wo.heap.size, 0, none⟩) 0 0] 29)) ((wo.alloc (.cells #[] 5)).alloc (.cells #[.slice (some ⟨wo.heap.size, 0, none⟩) 0 0] 29)).heap.size 1 (some ⟨wo.heap.size + 1, 0, none⟩) 1 [.slice (some ⟨wo.heap.size, 0, none⟩) ([] : List UInt8).length 0]) := Lib.hid (by
          have h0 := reads_one (wo.alloc (.cells #[] 5)) 29 (.slice (some ⟨wo.heap.size, 0, none⟩) 0 0)
          rw [show wo.heap.size + 1 = (wo.alloc (.cells #[] 5)).heap.size from by simp]
          exact h0)
        clear ho hb1 hat5 hq5 hbb hcs
        go_wp2_with (at_builtin; go_must (refine wpl_append_row rfl (.tmp 26) (.tmp 28) rfl w.heap.size (.slice A1 k c1) (tabN k 16 M (lackP lk)) rfl hat3.out (some ⟨wo.heap.size, 0, none⟩) 0 [] hrok2.out _ _ 1 rfl hrd9.out (by rw [tabN_length]; omega) hq9.out.size ?_); intro v8 w8 hat8 hg8; have hq8 := Lib.hid (hq9.out.grown hg8 hq9.out.size hat3.out.up); rw [hsn.out] at hat8; obtain ⟨A8, c8, rfl, -, -, -⟩ := hat8.form hq8.out.size; rw [tabN_length] at hat8 ⊢; replace hat8 := Lib.hid hat8; clear hg8)
        go_roundw
        case rel => first | exact ⟨k + 1, cnt + 1, A8, c8, by omega, by omega, by go_num, by go_num, rfl, hcnt2, hat8, hq8⟩ | ((repeat apply Exists.intro); exact ⟨⟨k + 1, cnt + 1, A8, c8, by omega, by omega, by go_num, by go_num, rfl, hcnt2, hat8, hq8⟩, rfl⟩)
        case measure => simp [intOf]; omega
      | false =>
        rw [hP, if_neg (by decide)] at hcs hsn
        have hcnt2 : Hid (cnt = ((List.range (k + 1)).filter (lackP lk)).length) := Lib.hid (by rw [hcs, ← hcnt.out]; rfl)
        replace hsn := Lib.hid hsn
        have hb : (bits BinOp.and .u16 ((lk : Int) / 2 ^ k) 1 == 1) = false := hP
        replace hP := Lib.hid hP
        obtain ⟨ba, oa, A3, c3, l, rfl, hba3, hla3, hca3, hlc3, hcm3, hrd3⟩ := h.out.at_ (i := k) hlt
        rw [tabM_get hlt] at hla3
        injection hla3 with hla3
        rw [← hla3] at hrd3
        rw [← hla3, row_length] at hca3 hlc3
        have ho := Lib.hid (OB.empty wo wo.heap.size (Nat.le_refl _))
        have hb1 := (Below.refl wo.heap.size wo).alloc (Nat.le_refl _) (.cells #[] 5)
        have z1 := ((hq1.out.trans (hb1.mono hwsz)).cell (p := ⟨ba, oa + k, none⟩) hba3).trans hca3
        have hrd4 := Lib.hid ((hrd3.keep (fun p hp => (hq1.out.trans (hb1.mono hwsz)).cell hp)).more (B' := (wo.alloc (.cells #[] 5)).heap.size) (hq1.out.trans (hb1.mono hwsz)).size)
        replace hb1 := Lib.hid hb1
        clear hcs hla3 hca3 hrd3
        go_wp2_with (first | (at_builtin; (refine wpl_append rfl (.tmp 33) (.tmp 37) rfl wo.heap.size (.slice (some ⟨wo.heap.size, 0, none⟩) 0 0) [] rfl ho.out _ A3 c3 (row 16 (M k)) (by rw [row_length]; rfl) hrd4.out (by rw [row_length]; decide) hb1.out.size ?_); intro v5 w5 ho5 hg5 _; have hb5 := below_row ho.out hb1.out hb1.out.size hg5; rw [List.nil_append] at ho5; obtain ⟨A5, c5, rfl, -, -, -, -⟩ := ho5.form; rw [row_length] at ho5 ⊢; have hrow := Lib.hid ho5; have hat5 := Lib.hid (hat1.out.below hb5 hwsz); have hq5 := Lib.hid (hq1.out.trans (hb5.mono hwsz)); clear ho5 hg5 hb5; have hrok : RowOk w5 w.heap.size A5 c5 (row 16 (M k)) := .inl (by rw [row_length]; exact hrow.out.more hwsz); have hbb : Below w5.heap.size w5 (w5.alloc (.cells #[.slice A5 16 c5] 29)) := (Below.refl _ _).alloc (Nat.le_refl _) _; have hat3 := Lib.hid (hat5.out.below hbb hq5.out.size); have hrok2 := Lib.hid (hrok.below hbb hq5.out.size); have hq9 := Lib.hid (hq5.out.trans (hbb.mono hq5.out.size)); have hrd9 : Hid (Reads (w5.alloc (.cells #[.slice A5 16 c5] 29)) (w5.alloc (.cells #[.slice A5 16 c5] 29)).heap.size 1 (some ⟨w5.heap.size, 0, none⟩) 1 [.slice A5 (row 16 (M k)).length c5]) := Lib.hid (by rw [row_length]; exact reads_one w5 29 (.slice A5 16 c5)); clear hbb hrok hrow hat5 hq5) | (at_builtin; go_must (refine wpl_append_row rfl (.tmp 32) (.tmp 39) rfl w.heap.size (.slice A1 k c1) (tabN k 16 M (lackP lk)) rfl hat3.out A5 c5 (row 16 (M k)) hrok2.out _ _ 1 rfl hrd9.out (by rw [tabN_length]; omega) hq9.out.size ?_); intro v8 w8 hat8 hg8; have hq8 := Lib.hid (hq9.out.grown hg8 hq9.out.size hat3.out.up); rw [hsn.out] at hat8; obtain ⟨A8, c8, rfl, -, -, -⟩ := hat8.form hq8.out.size; rw [tabN_length] at hat8 ⊢; replace hat8 := Lib.hid hat8; clear hg8))
        go_roundw
        case rel => first | exact ⟨k + 1, cnt, A8, c8, by omega, by omega, by go_num, rfl, rfl, hcnt2, hat8, hq8⟩ | ((repeat apply Exists.intro); exact ⟨⟨k + 1, cnt, A8, c8, by omega, by omega, by go_num, rfl, rfl, hcnt2, hat8, hq8⟩, rfl⟩)
        case measure => simp [intOf]; omega
    · obtain rfl : k = 10 := by omega
      obtain ⟨A8, c8, e8, h8, h9, h10⟩ := hat1.out.form hq1.out.size
      have hfin : Hid (Tbl (tabN 10 16 M (lackP lk)) (.slice A1 10 c1) wo) := Lib.hid ⟨A8, c8, e8, h8, h9, h10⟩
      have i10 : decide (((10 : Nat) : Int) < 10) = false := by decide
      clear e8 h8 h9 h10
      go_wp2_with fail
      go_ret2
      exact ⟨A1, c1, cnt, rfl, hck, hcnt, hfin, hq1.out⟩
set_option maxHeartbeats 16000000 in
set_option maxRecDepth 20000 in
theorem rsAny_any (A : Option Addr) (n c : Nat) (l : List UInt8) (hn : Hid (l.length = n)) (hc : n ≤ c) (hcm : c ≤ 9223372036854775807) (lk : Nat) (hlk : lk < 65536) (w : World) (h : Hid (Rd w w.heap.size A l)) : Calls Try.prog 12 #[.slice A n c, .int .u16 lk] w fun e w' => e = .returned (.bool true) ∧ Below w.heap.size w w' := by
  have hq : Hid (Gr w w) := Lib.hid (Below.refl _ _)
  go_enter Try.func12, Try.ntmps12
  go_wp2_with fail
  refine (group_p A n c l hn hc hcm w _ hq h).mono ?_
  rintro e w1 ⟨AX, cX, rfl, hX, hr⟩
  replace hq := Gr.go hq hr
  clear hr
  have hlx : Hid ((grp l).length = 128) := Lib.hid (grp_length l)
  generalize grp l = lx at *
  go_wp2_with fail
  refine (enc_p w _ hq hlx hX).mono ?_
  rintro e w2 ⟨g1, G1, C1, rfl, hP, hr⟩
  replace hX := OB.gr hr hX
  replace hq := Gr.go hq hr
  clear hr
  have hRT : Hid (RT w2 w2.heap.size (some ⟨g1, 0, none⟩) 10 (tabM 10 16 (encM lx))) := Lib.hid hP.out.rt
  go_wp2_with fail
  refine (without_p lk hlk _ hRT (Nat.le_refl _)).mono ?_
  rintro e w3 ⟨AW, cW, cnt, rfl, hc10, hcnt, hW, hr⟩
  replace hX := OB.gr hr hX
  replace hP := TB.gr hr hP
  replace hq := Gr.go hq hr
  clear hr
  clear hRT
  have hpl : Hid ((pidx (tabN 10 16 (encM lx) (lackP lk)) 10).length + cnt = 10) := Lib.hid (by
    rw [tabN_pidx 10 (Nat.le_refl _), hcnt.out]
    have := filt_len (lackP lk) (List.range 10)
    rw [List.length_range] at this
    omega)
  have hdec := Lib.hid (rsdec_any (tabN_length _ _ _ _) w3 hW)
  go_wp2_with fail
  refine hdec.out.mono ?_
  rintro e w4 ⟨hr, hcase⟩
  replace hX := OB.gr hr hX
  replace hP := TB.gr hr hP
  replace hW := Tbl.gr hr hW
  have hq3 := hq.out
  replace hq := Gr.go hq hr
  clear hr hdec
  have hfill := Lib.hid (rsfill_any (tabN_length _ _ _ _) w4 hW)
  rcases hcase with ⟨-, h8, A5, c5, D, rfl, hob, hsol⟩ | ⟨-, h8, rfl⟩ | ⟨h8, -⟩
  · have hfl := dec_back hlx.out h8 hsol
    rw [hfl] at hob
    have hob2 : Hid (OB w4 w.heap.size (.slice A5 128 c5) lx) := Lib.hid (hob.out.more hq3.size)
    replace hfl := Lib.hid hfl
    have i2 : decide ((2 : Int) < (cnt : Int)) = false := decide_eq_false (by have := hpl.out; omega)
    have i2' : (cnt : Int) ≤ 2 := by have := hpl.out; omega
    replace h8 := Lib.hid h8
    replace hsol := Lib.hid hsol
    clear hob
    go_wp2_with fail
    refine hfill.out.mono ?_
    rintro e w5 ⟨hr, hcase2⟩
    rcases hcase2 with ⟨-, h9, g2, G2, C2, D2, rfl, ht2, hsol2⟩ | ⟨-, h9, -⟩ | ⟨h9, -⟩
    rotate_left
    · exact absurd h9 (by have := h8.out; omega)
    · exact absurd tabN_ok h9
    have hT2 : Hid (Tbl (tabM 10 16 (encM lx)) (.slice (some ⟨g2, 0, none⟩) 10 10) w5) := Lib.hid (by
      have e : tabM 10 16 (encD D2) = tabM 10 16 (encM lx) := by
        rw [encM_eq] at hsol2
        rw [encM_eq]
        exact tabM_congr (encD_congr (solves_unique h9 hsol2 (tabN_solves h9)))
      rw [← e]
      exact ht2.tbl (by decide) _ (Nat.le_refl _) (by decide))
    replace hX := OB.gr hr hX
    replace hob2 := OB.gr hr hob2
    replace hP := TB.gr hr hP
    replace hq := Gr.go hq hr
    have hT1 : Hid (Tbl (tabM 10 16 (encM lx)) (.slice (some ⟨g1, 0, none⟩) 10 10) w5) := Lib.hid (hP.out.tbl (by decide) _ (Nat.le_refl _) (by decide))
    clear hr h9 hfill ht2 hsol2 hP
    go_wp2_with fail
    refine (awake3_p _).mono ?_
    rintro e w6 ⟨rfl, hr⟩
    replace hX := OB.gr hr hX
    replace hob2 := OB.gr hr hob2
    replace hT1 := Tbl.gr hr hT1
    replace hT2 := Tbl.gr hr hT2
    replace hq := Gr.go hq hr
    clear hr
    have cv1 := run_str_at (n := 128) cX (OB.rd hX.out).1 hlx.out
    have cv2 := run_str_at (n := 128) c5 (OB.rd hob2.out).1 hlx.out
    have hbb : (lx == lx) = true := by simp
    go_wp2_with fail
    refine (same_p hT2 hT1).mono ?_
    rintro e w7 ⟨rfl, hr⟩
    replace hq := Gr.go hq hr
    clear hr
    rw [beqTT]
    go_wp2_with fail
    go_ret
    exact ⟨rfl, hq.out⟩
  · have i2 : (2 : Int) < (cnt : Int) := by have := hpl.out; omega
    replace h8 := Lib.hid h8
    go_wp2_with fail
    refine hfill.out.mono ?_
    rintro e w5 ⟨hr, hcase2⟩
    rcases hcase2 with ⟨-, h9, -⟩ | ⟨-, h9, rfl⟩ | ⟨h9, -⟩
    · exact absurd h9 (by have := h8.out; omega)
    rotate_left
    · exact absurd tabN_ok h9
    replace hq := Gr.go hq hr
    clear hr h9 hfill
    go_wp2_with fail
    refine (awake3_p _).mono ?_
    rintro e w6 ⟨rfl, hr⟩
    replace hq := Gr.go hq hr
    clear hr
    go_wp2_with fail
    go_ret
    exact ⟨rfl, hq.out⟩
  · exact absurd tabN_ok h8
end Go.Proofs.Ytpeilgeloaogfaa
