/- The reference of mat: Times. -/
import Derived.Test.YtpeilgeloaogfaaMatRef
namespace Go.Proofs.Ytpeilgeloaogfaa
set_option linter.unusedVariables false
set_option linter.unusedSimpArgs false
open Go Go.RowKit
theorem row_snoc (k : Nat) (f : Nat → UInt8) : row k f ++ [f k] = row (k + 1) f := by unfold row; rw [List.range_succ, List.map_append]; rfl
theorem tabM_snoc (k m : Nat) (M : Mx) : tabM k m M ++ [row m (M k)] = tabM (k + 1) m M := by unfold tabM; rw [List.range_succ, List.map_append]; rfl
theorem below_row {w w1 w' : World} {B : Nat} {v : Value} {l : List UInt8} (ho : OB w B v l) (hb : Below B w1 w) (hs : B ≤ w.heap.size) (hg : w.grownBy w' v.ownBlock) : Below B w1 w' := hb.grown hg hs ho.up
set_option maxHeartbeats 8000000 in
set_option maxRecDepth 20000 in
theorem rtimes_ok (A : Option Addr) (n c : Nat) (La : List (List UInt8)) (hc : n ≤ c) (A2 : Option Addr) (n2 c2 : Nat) (Lb : List (List UInt8)) (hc2 : n2 ≤ c2) (w : World) (h : RT w w.heap.size A n La) (h2 : RT w w.heap.size A2 n2 Lb) (hf : fits La Lb = true) :
    Calls Try.prog 30 #[.slice A n c, .slice A2 n2 c2] w fun e w' => ∃ A' c', e = .returned (.tuple #[.slice A' n c', .bool true]) ∧ n ≤ c' ∧ c' ≤ maxLen ∧ RT w' w'.heap.size A' n (tabM n (width Lb) (mm n2 (ent La) (ent Lb))) ∧ Below w.heap.size w w' := by
  unfold fits at hf
  rw [Bool.and_eq_true, Bool.and_eq_true, beq_iff_eq] at hf
  obtain ⟨⟨hta, htb⟩, hw⟩ := hf
  have hn := h.1
  have hn2 := h2.1
  obtain ⟨b1, b2, b3, b4, -⟩ := isTab_iff.mp hta
  obtain ⟨b5, b6, b7, b8, -⟩ := isTab_iff.mp htb
  rw [hn] at b1 b2
  rw [hn2] at b5 b6 hw
  rw [hw] at b3 b4
  have i1 := rtable_any A n c La hc (by omega) w h
  have i2 : Hid (∀ W, Below w.heap.size w W → Calls Try.prog 34 #[.slice A2 n2 c2] W fun e w' => e = .returned (.bool true) ∧ Below W.heap.size W w') := Lib.hid (fun W hW => by
    have := rtable_any A2 n2 c2 Lb hc2 (by omega) W (h2.up hW)
    rw [htb] at this
    exact this)
  rw [hta] at i1
  obtain ⟨ba, oa, A0, c0, la0, rfl, hba, hla0, hca0, -, -, -⟩ := h.at_ (i := 0) (by omega)
  obtain ⟨bb, ob, B0, d0, lb0, rfl, hbb0, hlb0, hcb0, -, -, -⟩ := h2.at_ (i := 0) (by omega)
  have hla := tab_len hta hla0
  have hlb := tab_len htb hlb0
  rw [Nat.add_zero] at hca0 hcb0
  rw [hla, hw] at hca0
  obtain ⟨m, hm⟩ : ∃ m, width Lb = m := ⟨_, rfl⟩
  rw [hlb, hm] at hcb0
  rw [hm] at b7 b8 ⊢
  have hne : ((n2 : Int) != (n2 : Int)) = false := by simp
  have ia0 : (0 : Int) < (n : Int) := by omega
  have ib0 : (0 : Int) < (n2 : Int) := by omega
  have hRa := Lib.hid h
  have hRb := Lib.hid h2
  replace i1 := Lib.hid i1
  replace hta := Lib.hid hta
  replace htb := Lib.hid htb
  replace hw := Lib.hid hw
  replace hm := Lib.hid hm
  replace hn := Lib.hid hn
  replace hn2 := Lib.hid hn2
  replace hla := Lib.hid hla
  replace hlb := Lib.hid hlb
  replace hla0 := Lib.hid hla0
  replace hlb0 := Lib.hid hlb0
  replace hca0 := Lib.hid hca0
  replace hcb0 := Lib.hid hcb0
  have hq := Lib.hid (Below.refl w.heap.size w)
  clear h h2
  go_enter Try.func30, Try.ntmps30
  go_wp2_with fail
  refine i1.out.mono ?_
  rintro e w1 ⟨rfl, hbb⟩
  replace hq := Lib.hid (hq.out.trans (hbb.mono hq.out.size))
  clear hbb
  go_wp2_with fail
  refine (i2.out _ hq.out).mono ?_
  rintro e w2 ⟨rfl, hbb⟩
  replace hq := Lib.hid (hq.out.trans (hbb.mono hq.out.size))
  have x1 := (hq.out.cell (p := ⟨ba, oa, none⟩) hba).trans hca0.out
  have hat := Lib.hid (AT.empty w2 w.heap.size hq.out.size)
  have hq3 := Lib.hid (hq.out.alloc hq.out.size (.cells #[] 29))
  clear hbb
  go_wp2_with fail
  clear x1
  obtain ⟨w3, hw3⟩ : ∃ w3, w2.alloc (.cells #[] 29) = w3 := ⟨_, rfl⟩
  rw [hw3] at hat hq3 ⊢
  replace hw3 := Lib.hid hw3
  clear hq
  go_loopw [6, 7] (fun v i wr => ∃ (k : Nat) (A1 : Option Addr) (c1 : Nat), k ≤ n ∧ i = .int .i64 k ∧ v = .slice A1 k c1 ∧ Hid (AT wr w.heap.size (.slice A1 k c1) (tabM k m (mm n2 (ent La) (ent Lb)))) ∧ Hid (Below w.heap.size w wr)) (fun _ i _ => n - (intOf i).toNat)
  case atStart => exact ⟨0, _, _, Nat.zero_le _, rfl, rfl, hat, hq3⟩
  case round =>
    obtain ⟨k, A1, c1, hk, rfl, rfl, hat1, hq1⟩ := hrel
    clear hat hq3
    obtain ⟨wo, hwo⟩ : ∃ wo, wo = wr := ⟨_, rfl⟩
    subst hwo
    by_cases hlt : k < n
    · obtain ⟨ba', oa', A3, c3, la, ea, hba3, hla3, hca3, hlc3, hcm3, hrd3⟩ := hRa.out.at_ (i := k) hlt
      injection ea with ea
      injection ea with ea1 ea2 _
      subst ea1 ea2
      have hl3 := tab_len hta.out hla3
      rw [hw.out] at hl3
      rw [hl3] at hca3 hlc3
      replace hca3 := Lib.hid hca3
      replace hrd3 := Lib.hid hrd3
      replace hl3 := Lib.hid hl3
      replace hla3 := Lib.hid hla3
      have hrow := Lib.hid (OB.empty wo wo.heap.size (Nat.le_refl _))
      have hb1 := Lib.hid ((Below.refl wo.heap.size wo).alloc (Nat.le_refl _) (.cells #[] 5))
      have hq4 := Lib.hid (hq1.out.alloc hq1.out.size (.cells #[] 5))
      have ik : (k : Int) < (n : Int) := by omega
      have hwsz : w.heap.size ≤ wo.heap.size := hq1.out.size
      go_wp2_with fail
      obtain ⟨w4, hw4⟩ : ∃ w4, wo.alloc (.cells #[] 5) = w4 := ⟨_, rfl⟩
      rw [hw4] at hrow hb1 hq4 ⊢
      replace hw4 := Lib.hid hw4
      go_loopw [8, 9] (fun v i wi => ∃ (j : Nat) (A4 : Option Addr) (c4 : Nat), j ≤ m ∧ i = .int .i64 j ∧ v = .slice A4 j c4 ∧ Hid (OB wi wo.heap.size (.slice A4 j c4) (row j (mm n2 (ent La) (ent Lb) k))) ∧ Hid (Below wo.heap.size wo wi) ∧ Hid (Below w.heap.size w wi)) (fun _ i _ => m - (intOf i).toNat)
      case atStart => exact ⟨0, _, _, Nat.zero_le _, rfl, rfl, hrow, hb1, hq4⟩
      case round =>
        obtain ⟨j, A4, c4, hj, rfl, rfl, hrow2, hb2, hq2⟩ := hrel
        obtain ⟨wi, hwi⟩ : ∃ wi, wi = wr := ⟨_, rfl⟩
        subst hwi
        clear hrow hb1 hq4
        have xb := (hq2.out.cell (p := ⟨bb, ob, none⟩) hbb0).trans hcb0.out
        by_cases hlj : j < m
        · have ij : (j : Int) < (m : Int) := by omega
          have hz : (0 : UInt8) = gsum 0 (fun t => gmul (ent La k t) (ent Lb t j)) := rfl
          go_wp2_with fail
          clear xb
          go_loopw [10, 11] (fun v i wt => ∃ t : Nat, t ≤ n2 ∧ i = .int .i64 t ∧ v = .int .u8 (U (gsum t (fun t => gmul (ent La k t) (ent Lb t j)))) ∧ Hid (OB wt wo.heap.size (.slice A4 j c4) (row j (mm n2 (ent La) (ent Lb) k))) ∧ Hid (Below wo.heap.size wo wt) ∧ Hid (Below w.heap.size w wt)) (fun _ i _ => n2 - (intOf i).toNat)
          case atStart => exact ⟨0, Nat.zero_le _, rfl, rfl, hrow2, hb2, hq2⟩
          case round =>
            obtain ⟨t, ht, rfl, rfl, hrow3, hb3, hq3⟩ := hrel
            clear hrow2 hb2 hq2
            obtain ⟨wt, hwt⟩ : ∃ wt, wt = wr := ⟨_, rfl⟩
            subst hwt
            obtain ⟨sm, hsm⟩ : ∃ sm, gsum t (fun t => gmul (ent La k t) (ent Lb t j)) = sm := ⟨_, rfl⟩
            by_cases hlt2 : t < n2
            · obtain ⟨x, hx⟩ : ∃ x, la[t]? = some x := ⟨la[t]'(by rw [hl3.out]; exact hlt2), List.getElem?_eq_getElem (by rw [hl3.out]; exact hlt2)⟩
              obtain ⟨ad, rfl, hadb, hcx⟩ := hrd3.out.get hx
              obtain ⟨bb', ob', B4, d4, lb4, eb, -, hlb4, hcb4, hlc4, hcm4, hrd4⟩ := hRb.out.at_ (i := t) hlt2
              injection eb with eb
              injection eb with eb1 eb2 _
              subst eb1 eb2
              have hl5 := tab_len htb.out hlb4
              rw [hm.out] at hl5
              rw [hl5] at hcb4
              obtain ⟨y, hy⟩ : ∃ y, lb4[j]? = some y := ⟨lb4[j]'(by rw [hl5]; exact hlj), List.getElem?_eq_getElem (by rw [hl5]; exact hlj)⟩
              obtain ⟨ad2, rfl, hadb2, hcy⟩ := hrd4.get hy
              have hnx : Hid (gsum (t + 1) (fun t => gmul (ent La k t) (ent Lb t j)) = sm ^^^ gmul x y) := Lib.hid (by rw [gsum_succ, hsm, ent_get hla3.out hx, ent_get hlb4 hy])
              have z1 := (hq3.out.cell (p := ⟨ba, oa + k, none⟩) hba).trans hca3.out
              have z2 := (hq3.out.cell (p := ad.add t) (by rw [block_of_add]; exact hadb)).trans hcx
              have z3 := (hq3.out.cell (p := ⟨bb, ob + t, none⟩) hbb0).trans hcb4
              have z4 := (hq3.out.cell (p := ad2.add j) (by rw [block_of_add]; exact hadb2)).trans hcy
              have it : (t : Int) < (n2 : Int) := by omega
              replace hx := Lib.hid hx
              replace hy := Lib.hid hy
              replace hcx := Lib.hid hcx
              replace hcy := Lib.hid hcy
              replace hcb4 := Lib.hid hcb4
              replace hlb4 := Lib.hid hlb4
              replace hrd4 := Lib.hid hrd4
              replace hl5 := Lib.hid hl5
              replace hsm := Lib.hid hsm
              replace hadb := Lib.hid hadb
              replace hadb2 := Lib.hid hadb2
              rw [hsm.out]
              go_wp2_with fail
              go_quiet ((go_at_call 81; exact Calls.quiet_of_same ((rmul_any _ _ _).mono (fun e w' hh => ⟨hh.1, hh.2.symm⟩))))
              rename_i nq
              have hbb : Below wt.heap.size wt (wt.drewN nq) := belowN (Below.refl _ _) nq
              have hrow4 := Lib.hid (hrow3.out.below hbb)
              have hb4 := Lib.hid (belowN hb3.out nq)
              have hq4 := Lib.hid (belowN hq3.out nq)
              go_wp2
              go_roundw
              case rel => exact ⟨t + 1, by omega, by go_num, by rw [hnx.out], hrow4, hb4, hq4⟩
              case measure => simp [intOf]; omega
            · obtain rfl : t = n2 := by omega
              have hx : Hid (mm t (ent La) (ent Lb) k j = sm) := Lib.hid hsm
              replace hsm := Lib.hid hsm
              rw [hsm.out]
              have hlit := Lib.hid (Rd.lit wt #[.int .u8 (U sm)] 5 [sm] rfl ((wt.alloc (.cells #[.int .u8 (U sm)] 5)).heap.size) (by simp))
              have ho7 := Lib.hid (hrow3.out.alloc (.cells #[.int .u8 (U sm)] 5))
              have hb7 := Lib.hid (hb3.out.alloc hb3.out.size (.cells #[.int .u8 (U sm)] 5))
              have hq7 := Lib.hid (hq3.out.alloc hq3.out.size (.cells #[.int .u8 (U sm)] 5))
              go_wp2_with (at_builtin; go_must (refine wpl_append rfl (.tmp 68) (.tmp 70) rfl wo.heap.size (.slice A4 j c4) (row j (mm t (ent La) (ent Lb) k)) rfl ho7.out _ _ 1 [sm] rfl hlit.out (by rw [row_length]; simp; omega) hb7.out.size ?_); intro v8 w8 ho8 hg8 _; have hb8 := Lib.hid (below_row ho7.out hb7.out hb7.out.size hg8); have hq8 := Lib.hid (below_row (ho7.out.more hwsz) hq7.out hq7.out.size hg8); rw [← hx.out, row_snoc] at ho8; obtain ⟨A8, c8, rfl, -, -, -, -⟩ := ho8.form; rw [row_length] at ho8 ⊢; replace ho8 := Lib.hid ho8; clear hg8)
              go_roundw
              case rel => exact ⟨j + 1, A8, c8, by omega, by go_num, rfl, ho8, hb8, hq8⟩
              case measure => simp [intOf]; omega
        · obtain rfl : j = m := by omega
          have hrc := hrow2.out.rd
          have hat2 := Lib.hid (hat1.out.below hb2.out hwsz)
          have hrok : RowOk wi w.heap.size A4 c4 (row j (mm n2 (ent La) (ent Lb) k)) := .inl (by rw [row_length]; exact hrow2.out.more hwsz)
          have hrd8 := reads_one wi 29 (.slice A4 j c4)
          have hbb : Below wi.heap.size wi (wi.alloc (.cells #[.slice A4 j c4] 29)) := (Below.refl _ _).alloc (Nat.le_refl _) _
          have hat3 := Lib.hid (hat2.out.below hbb hq2.out.size)
          have hrok2 := Lib.hid (hrok.below hbb hq2.out.size)
          have hq9 := Lib.hid (hq2.out.trans (hbb.mono hq2.out.size))
          have hrd9 : Hid (Reads (wi.alloc (.cells #[.slice A4 j c4] 29)) (wi.alloc (.cells #[.slice A4 j c4] 29)).heap.size 1 (some ⟨wi.heap.size, 0, none⟩) 1 [.slice A4 (row j (mm n2 (ent La) (ent Lb) k)).length c4]) := Lib.hid (by rw [row_length]; exact hrd8)
          clear hrd8 hbb hrok hrc
          have ij : decide ((j : Int) < (j : Int)) = false := decide_eq_false (by omega)
          go_wp2_with (at_builtin; go_must (refine wpl_append_row rfl (.tmp 72) (.tmp 74) rfl w.heap.size (.slice A1 k c1) (tabM k j (mm n2 (ent La) (ent Lb))) rfl hat3.out A4 c4 (row j (mm n2 (ent La) (ent Lb) k)) hrok2.out _ _ 1 rfl hrd9.out (by rw [tabM_length]; omega) hq9.out.size ?_); intro v8 w8 hat8 hg8; have hq8 := Lib.hid (hq9.out.grown hg8 hq9.out.size hat3.out.up); rw [tabM_snoc] at hat8; obtain ⟨A8, c8, rfl, -, -, -⟩ := hat8.form hq8.out.size; rw [tabM_length] at hat8 ⊢; replace hat8 := Lib.hid hat8; clear hg8)
          go_roundw
          case rel => exact ⟨k + 1, A8, c8, by omega, by go_num, rfl, hat8, hq8⟩
          case measure => simp [intOf]; omega
    · obtain rfl : k = n := by omega
      obtain ⟨A8, c8, e8, h8, h9, h10⟩ := hat1.out.form hq1.out.size
      injection e8 with e81 e82 e83
      clear e82
      subst e81 e83
      rw [tabM_length] at h8 h10
      replace h10 := Lib.hid h10
      go_wp2_with fail
      go_ret2
      exact ⟨A1, c1, rfl, h8, h9, h10.out, hq1.out⟩
end Go.Proofs.Ytpeilgeloaogfaa
