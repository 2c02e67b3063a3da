/- The law of the journal: frames of which one byte is changed. -/
import Derived.Test.YtgdbbjijneidaaaJr22
namespace Go.Proofs.Ytgdbbjijneidaaa
set_option linter.unusedVariables false
set_option linter.unusedSimpArgs false
open Go Go.RowKit
set_option maxHeartbeats 8000000 in
set_option maxRecDepth 20000 in
theorem jourTurned_any (L : List Nt) (v : Value) (pl : Nat) (hpl : pl ≤ 65535) (tu : UInt8) (w : World) (h : NsV L v w) :
    Calls Try.prog 9 #[v, .int .u16 pl, .int .u8 (U tu)] w fun e w' => e = .returned (.bool true) ∧ Gr w w' := by
  obtain ⟨A, c, rfl, -, -⟩ := h.len
  obtain ⟨n0, hn0⟩ : ∃ n, L.length = n := ⟨_, rfl⟩
  rw [hn0] at h ⊢
  replace hn0 := Lib.hid hn0
  have hsm := Lib.hid (some_any L (.slice A n0 c) 12 (by decide) w h)
  clear h
  go_enter Try.func9, Try.ntmps9
  go_wp2_with fail
  refine hsm.out.mono ?_
  clear hsm
  rintro e w2 ⟨u, E, rfl, hE, ho, hg2⟩
  obtain ⟨G, hG⟩ : ∃ G, (L.take 12).filter goodN = G := ⟨_, rfl⟩
  rw [hG] at hE
  have hGg : ∀ n ∈ G, goodN n = true := fun n hn => by
    rw [← hG] at hn
    exact (List.mem_filter.mp hn).2
  have hGl : G.length ≤ 12 := by
    rw [← hG]
    refine Nat.le_trans (List.length_filter_le _ _) ?_
    rw [List.length_take]
    omega
  have hns := ho.ns
  rw [hE] at hns
  have hfr := Lib.hid (frames_any G u hGg (by omega) w2 hns)
  have hfl := framesB_len hGg
  obtain ⟨Au, cu, rfl, -, -⟩ := hns.len
  obtain ⟨s, hs⟩ : ∃ s, G.length = s := ⟨_, rfl⟩
  rw [hs] at hns hfr hfl hGl ⊢
  replace hns := Lib.hid hns
  replace hg2 := Lib.hid hg2
  have hs2w := Lib.hid hg2.out.size
  clear ho hE hG
  go_wp2_with fail
  refine hfr.out.mono ?_
  clear hfr
  rintro e w3 ⟨v3, a3, rfl, ho3, hi3, hg3⟩
  have hg23 := Lib.hid hg3
  replace hg2 := Lib.hid (hg2.out.trans hg3)
  obtain ⟨P, hP⟩ : ∃ P : Nat → Nat, P = fun i => (framesB (G.take i)).length := ⟨_, rfl⟩
  have hPs : P s = (framesB G).length := by rw [hP, ← hs]; simp
  have hPm : ∀ k, P k ≤ P s := fun k => by rw [hPs, hP]; exact framesB_mono G k
  have hP0 : P 0 = 0 := by rw [hP]; rfl
  have hcut : ∀ p k, k < s → P k ≤ p → p < P (k + 1) → ∀ y : UInt8, (framesB G)[p]? ≠ some y → scanN ((framesB G).set p y) = (G.take k, P k) := fun p k h1 h2 h3 y hy => by
    have := scan_turned hGg (p := p) (k := k) (by rw [hs]; exact h1) (by rw [hP] at h2; exact h2) (by rw [hP] at h3; exact h3) hy
    rw [this, hP]
  have hwhole : scanN (framesB G) = (G, P s) := by
    have := scan_frames hGg []
    rw [List.append_nil, scan_nil, List.append_nil] at this
    rw [this, hPs]
    rfl
  have hati : ∀ i, i < s → (atL G)[i]? = some ((P i : Nat) : Int) := fun i hi => by rw [hP]; exact atL_get G (by rw [hs]; exact hi)
  obtain ⟨FB, hFB⟩ : ∃ FB, framesB G = FB := ⟨_, rfl⟩
  rw [hFB] at ho3 hfl hPs hcut hwhole
  obtain ⟨A3, c3, rfl, hc31, hc32, -, -⟩ := ho3.form
  have hals : (atL G).length = s := by unfold atL; simp [hs]
  obtain ⟨ps, hps⟩ : ∃ ps, P s = ps := ⟨_, rfl⟩
  have hFl : FB.length = ps := by rw [← hps, hPs]
  obtain ⟨Aa, ma, ca, rfl⟩ : ∃ A m c, a3 = .slice A m c := by obtain ⟨A, c, e, -, -⟩ := hi3.form; exact ⟨A, _, c, e⟩
  have hma : ma = s := by
    obtain ⟨A', c', e', -, -⟩ := hi3.form
    injection e' with _ e' _
    rw [e', hals]
  subst hma
  rw [hFl] at ho3 hfl hc31 ⊢
  rw [hps] at hwhole
  have hsu : ma ≤ cu := by
    obtain ⟨A', c', e', h1, h2⟩ := hns.out.len
    injection e' with e1 e2 e3
    rw [e3]
    omega
  have hfl2 : ps ≤ 24096 := by omega
  replace hps := Lib.hid hps
  replace hs := Lib.hid hs
  replace hFB := Lib.hid hFB
  replace hFl := Lib.hid hFl
  replace hP := Lib.hid hP
  replace hcut := Lib.hid hcut
  replace hwhole := Lib.hid hwhole
  replace hati := Lib.hid hati
  replace hals := Lib.hid hals
  replace ho3 := Lib.hid ho3
  clear hg3 hPs hPm
  by_cases hz : ps = 0
  · have hz' : (ps : Int) = 0 := by omega
    have hz2 : ((ps : Int) == 0) = true := beq_iff_eq.mpr hz'
    clear hcut hwhole hati hP0 hi3 ho3 hns hg23 hc31
    subst hz
    go_wp2_with fail
    refine (awake_any _).mono ?_
    rintro e w6 ⟨rfl, hg6⟩
    replace hg2 := Lib.hid (hg2.out.trans hg6)
    go_wp2_with fail
    go_ret
    exact ⟨rfl, hg2.out⟩
  · have hs1 : 0 < ma := by
      by_cases h0 : ma = 0
      · exfalso
        apply hz
        have h1 := hps.out
        rw [h0, hP0] at h1
        exact h1.symm
      · omega
    obtain ⟨p, hp0⟩ : ∃ p, pl % ps = p := ⟨_, rfl⟩
    have hp : p < ps := by rw [← hp0]; exact Nat.mod_lt pl (by omega)
    have q1 : ((pl : Int)).tmod (ps : Int) = (p : Int) := by
      rw [← hp0, Int.tmod_eq_emod_of_nonneg (by omega)]
      simp
    have q2 : (ps : Int) ≠ 0 := by omega
    have q3 : ¬ ((ps : Int) = 0) := q2
    obtain ⟨g, eg, hg1, hg2', hcell, hfr, hset⟩ := OB.store ho3.out (k := p) (by rw [hFl.out]; exact hp)
    obtain ⟨x, hx⟩ : ∃ x, FB[p]'(by rw [hFl.out]; exact hp) = x := ⟨_, rfl⟩
    rw [hx] at hcell
    have hFx : Hid (FB[p]? = some x) := Lib.hid (by rw [← hx]; exact List.getElem?_eq_getElem _)
    subst eg
    have ho4 := Lib.hid (hset (x ^^^ tu))
    have hb4 : Below w2.heap.size w3 (w3.setCell ⟨g, p, none⟩ (.int .u8 (U (x ^^^ tu)))) := (Below.refl _ w3).setCell (p := ⟨g, p, none⟩) hg1 _
    have hgw : Gr w2 (w3.setCell ⟨g, p, none⟩ (.int .u8 (U (x ^^^ tu)))) := (show Below w2.heap.size w2 _ from Below.trans hg23.out hb4)
    have hns4 := NsV.gr hgw hns
    have hi4 : OI (atL G) (.slice Aa ma ca) w2.heap.size (w3.setCell ⟨g, p, none⟩ (.int .u8 (U (x ^^^ tu)))) := ⟨row_set_other hi3.1 g p _ (fun e => (row_ne2 hi3.1 ho3.out (by decide)) g rfl e), hi3.2⟩
    obtain ⟨Aa', ca', ea, -, -, hia3, -⟩ := hi4.ints
    injection ea with ea1 ea2 ea3
    subst ea1
    obtain ⟨bi, oi, ei, hbi, hia⟩ := hia3 (by rw [hals.out]; exact hs1)
    subst ei
    have hg4 : Gr w (w3.setCell ⟨g, p, none⟩ (.int .u8 (U (x ^^^ tu)))) := by
      have h := hg2.out
      have hs2 : w.heap.size ≤ w2.heap.size := hs2w.out
      unfold Gr at *
      exact h.trans (hb4.mono hs2)
    obtain ⟨w4, hw4⟩ : ∃ w4, w3.setCell ⟨g, p, none⟩ (.int .u8 (U (x ^^^ tu))) = w4 := ⟨_, rfl⟩
    rw [hw4] at ho4 hns4 hbi hia hg4
    replace hw4 := Lib.hid hw4
    replace hp0 := Lib.hid hp0
    have hns := hns4
    have hg2 := Lib.hid hg4
    replace hia := Lib.hid hia
    have i0 : (p : Int) < (ps : Int) := by omega
    clear hset hi3 hi4 hia3 hns4 hgw hb4 hg4 hx ea2 ea3
    go_upto_region 7 with (fail)
    rw [hw4.out]
    clear hw4 hcell hfr q1 q2 i0
    have hpp : p < ps := hp
    go_wp2_with fail
    go_loopw [11] (fun i wr => ∃ k : Nat, i = .int .i64 k ∧ k < ma ∧ P k ≤ p ∧ Hid (wr = w4)) (fun i _ => ma - (intOf i).toNat)
    case atStart => exact ⟨0, rfl, hs1, by rw [hP0]; exact Nat.zero_le _, Lib.hid rfl⟩
    case round =>
      obtain ⟨k, rfl, hks, hpm, hww⟩ := hrel
      replace hww := hww.out
      subst hww
      by_cases hk1 : k + 1 = ma
      · have h2 : ¬ ((k : Int) + 1 < (ma : Int)) := by omega
        have hlast : p < P (k + 1) := by rw [hk1, hps.out]; exact hpp
        obtain ⟨pk, hpk⟩ : ∃ pk, P k = pk := ⟨_, rfl⟩
        have hpkk := hcut.out p k hks hpm hlast (x ^^^ tu)
        rw [hFx.out] at hpkk
        rw [hpk] at hpkk
        have cI := hia.out k _ (hati.out k hks)
        rw [hpk] at cI
        have i1 : k < ma := hks
        have i2 : (k : Int) < (ma : Int) := by omega
        have kk1 : (k : Int) ≤ (cu : Int) := by omega
        obtain ⟨S, hS⟩ : ∃ S, scanN (FB.set p (x ^^^ tu)) = S := ⟨_, rfl⟩
        have hsc := scan_any (FB.set p (x ^^^ tu)) (.slice (some ⟨g, 0, none⟩) ps c3) _ (by rw [List.length_set, hFl.out]; omega) wr ho4.out
        rw [hS] at hsc
        obtain ⟨S1, S2⟩ := S
        simp only at hsc
        replace hsc := Lib.hid hsc
        replace hpk := Lib.hid hpk
        replace hlast := Lib.hid hlast
        replace hpkk := Lib.hid hpkk
        replace hS := Lib.hid hS
        replace cI := Lib.hid cI
        go_wp2_with fail
        refine hsc.out.mono ?_
        clear hsc
        rintro e w5 ⟨u5, E5, rfl, hE5, ho5, hg5⟩
        replace hg2 := Lib.hid (hg2.out.trans hg5)
        replace hns := NsV.gr hg5 hns
        have cI5 := (cellGr hg5 (a := ⟨bi, oi + k, none⟩) hbi).trans cI.out
        have hbi5 : bi < w5.heap.size := Nat.lt_of_lt_of_le hbi hg5.size
        have hn5 := ho5.ns
        rw [hE5] at hn5
        replace hn5 := Lib.hid hn5
        obtain ⟨A5, m5, c5, rfl⟩ : ∃ A m c, u5 = .slice A m c := by obtain ⟨A, c, e, -⟩ := ho5.form; exact ⟨A, _, c, e⟩
        clear hg5 ho5 hE5
        by_cases ht : tu = 0
        · subst ht
          have hx0 : x ^^^ (0 : UInt8) = x := by simp
          have hS' := hS.out
          rw [hx0] at hS'
          have hset : FB.set p x = FB := by
            have h1 := hFx.out
            obtain ⟨hlt, h2⟩ := List.getElem?_eq_some_iff.mp h1
            rw [← h2]
            exact List.set_getElem_self hlt
          rw [hset, hwhole.out] at hS'
          injection hS' with hS1 hS2
          subst hS1
          subst hS2
          replace cI5 := Lib.hid cI5
          have u0 : U 0 = 0 := rfl
          go_wp2_with fail
          refine (awake_any _).mono ?_
          rintro e w6 ⟨rfl, hg6⟩
          replace hg2 := Lib.hid (hg2.out.trans hg6)
          replace hns := NsV.gr hg6 hns
          replace hn5 := NsV.gr hg6 hn5
          have hal := alike_any G G _ _ w6 hn5.out hns.out
          rw [decide_eq_true (rfl : G = G)] at hal
          replace hal := Lib.hid hal
          clear hg6
          go_wp2_with fail
          refine hal.out.mono ?_
          rintro e w8 ⟨rfl, hg6⟩
          replace hg2 := Lib.hid (hg2.out.trans hg6)
          go_wp2_with fail
          go_ret
          exact ⟨rfl, hg2.out⟩
        · have htn : x ^^^ tu ≠ x := fun e => ht (by
            have := congrArg (fun z => x ^^^ z) e
            simp only [← UInt8.xor_assoc, UInt8.xor_self, UInt8.zero_xor] at this
            exact this)
          have hS' := hpkk.out (fun e => htn (by injection e with e; exact e.symm))
          rw [hS.out] at hS'
          injection hS' with hS1 hS2
          subst hS1
          subst hS2
          have u1 : ¬ (U tu = 0) := fun e => ht (by unfold U at e; exact UInt8.toNat_inj.mp (by simpa using e))
          have u2 : (U tu == 0) = false := beq_eq_false_iff_ne.mpr u1
          go_wp2_with fail
          refine (awake_any _).mono ?_
          rintro e w6 ⟨rfl, hg6⟩
          replace hg2 := Lib.hid (hg2.out.trans hg6)
          replace hns := NsV.gr hg6 hns
          replace hn5 := NsV.gr hg6 hn5
          have hal := alike_any (G.take k) (G.take k) _ _ w6 hn5.out (hns.out.cut (k := k) (by rw [hs.out]; omega))
          rw [decide_eq_true (rfl : G.take k = G.take k)] at hal
          replace hal := Lib.hid hal
          have cI6 := (cellGr hg6 (a := ⟨bi, oi + k, none⟩) hbi5).trans cI5
          clear hg6
          go_wp2_with fail
          refine hal.out.mono ?_
          rintro e w8 ⟨rfl, hg6⟩
          replace hg2 := Lib.hid (hg2.out.trans hg6)
          go_wp2_with fail
          go_ret
          exact ⟨rfl, hg2.out⟩
      · have cJ := hia.out (k + 1) _ (hati.out (k + 1) (by omega))
        obtain ⟨pk1, hpk1⟩ : ∃ pk1, P (k + 1) = pk1 := ⟨_, rfl⟩
        rw [hpk1] at cJ
        have h2 : (k : Int) + 1 < (ma : Int) := by omega
        have h5 : k + 1 < ma := by omega
        have h6 : ((k : Int) + 1).toNat = k + 1 := by omega
        have h7 : (0 : Int) ≤ (k : Int) + 1 := by omega
        by_cases hle : pk1 ≤ p
        · have h4 : (pk1 : Int) ≤ (p : Int) := by omega
          have hpm2 : P (k + 1) ≤ p := by rw [hpk1]; exact hle
          replace hpk1 := Lib.hid hpk1
          go_wp2_with fail
          go_roundw
          case rel => exact ⟨k + 1, by go_num, by omega, hpm2, Lib.hid (by first | rfl | trivial)⟩
          case measure => simp [intOf]; omega
        · have h4 : ¬ ((pk1 : Int) ≤ (p : Int)) := by omega
          have hlast : p < P (k + 1) := by rw [hpk1]; omega
          replace hpk1 := Lib.hid hpk1
          obtain ⟨pk, hpk⟩ : ∃ pk, P k = pk := ⟨_, rfl⟩
          have hpkk := hcut.out p k hks hpm hlast (x ^^^ tu)
          rw [hFx.out] at hpkk
          rw [hpk] at hpkk
          have cI := hia.out k _ (hati.out k hks)
          rw [hpk] at cI
          have i1 : k < ma := hks
          have i2 : (k : Int) < (ma : Int) := by omega
          have kk1 : (k : Int) ≤ (cu : Int) := by omega
          obtain ⟨S, hS⟩ : ∃ S, scanN (FB.set p (x ^^^ tu)) = S := ⟨_, rfl⟩
          have hsc := scan_any (FB.set p (x ^^^ tu)) (.slice (some ⟨g, 0, none⟩) ps c3) _ (by rw [List.length_set, hFl.out]; omega) wr ho4.out
          rw [hS] at hsc
          obtain ⟨S1, S2⟩ := S
          simp only at hsc
          replace hsc := Lib.hid hsc
          replace hpk := Lib.hid hpk
          replace hlast := Lib.hid hlast
          replace hpkk := Lib.hid hpkk
          replace hS := Lib.hid hS
          replace cI := Lib.hid cI
          go_wp2_with fail
          refine hsc.out.mono ?_
          clear hsc
          rintro e w5 ⟨u5, E5, rfl, hE5, ho5, hg5⟩
          replace hg2 := Lib.hid (hg2.out.trans hg5)
          replace hns := NsV.gr hg5 hns
          have cI5 := (cellGr hg5 (a := ⟨bi, oi + k, none⟩) hbi).trans cI.out
          have hbi5 : bi < w5.heap.size := Nat.lt_of_lt_of_le hbi hg5.size
          have hn5 := ho5.ns
          rw [hE5] at hn5
          replace hn5 := Lib.hid hn5
          obtain ⟨A5, m5, c5, rfl⟩ : ∃ A m c, u5 = .slice A m c := by obtain ⟨A, c, e, -⟩ := ho5.form; exact ⟨A, _, c, e⟩
          clear hg5 ho5 hE5
          by_cases ht : tu = 0
          · subst ht
            have hx0 : x ^^^ (0 : UInt8) = x := by simp
            have hS' := hS.out
            rw [hx0] at hS'
            have hset : FB.set p x = FB := by
              have h1 := hFx.out
              obtain ⟨hlt, h2⟩ := List.getElem?_eq_some_iff.mp h1
              rw [← h2]
              exact List.set_getElem_self hlt
            rw [hset, hwhole.out] at hS'
            injection hS' with hS1 hS2
            subst hS1
            subst hS2
            replace cI5 := Lib.hid cI5
            have u0 : U 0 = 0 := rfl
            go_wp2_with fail
            refine (awake_any _).mono ?_
            rintro e w6 ⟨rfl, hg6⟩
            replace hg2 := Lib.hid (hg2.out.trans hg6)
            replace hns := NsV.gr hg6 hns
            replace hn5 := NsV.gr hg6 hn5
            have hal := alike_any G G _ _ w6 hn5.out hns.out
            rw [decide_eq_true (rfl : G = G)] at hal
            replace hal := Lib.hid hal
            clear hg6
            go_wp2_with fail
            refine hal.out.mono ?_
            rintro e w8 ⟨rfl, hg6⟩
            replace hg2 := Lib.hid (hg2.out.trans hg6)
            go_wp2_with fail
            go_ret
            exact ⟨rfl, hg2.out⟩
          · have htn : x ^^^ tu ≠ x := fun e => ht (by
              have := congrArg (fun z => x ^^^ z) e
              simp only [← UInt8.xor_assoc, UInt8.xor_self, UInt8.zero_xor] at this
              exact this)
            have hS' := hpkk.out (fun e => htn (by injection e with e; exact e.symm))
            rw [hS.out] at hS'
            injection hS' with hS1 hS2
            subst hS1
            subst hS2
            have u1 : ¬ (U tu = 0) := fun e => ht (by unfold U at e; exact UInt8.toNat_inj.mp (by simpa using e))
            have u2 : (U tu == 0) = false := beq_eq_false_iff_ne.mpr u1
            go_wp2_with fail
            refine (awake_any _).mono ?_
            rintro e w6 ⟨rfl, hg6⟩
            replace hg2 := Lib.hid (hg2.out.trans hg6)
            replace hns := NsV.gr hg6 hns
            replace hn5 := NsV.gr hg6 hn5
            have hal := alike_any (G.take k) (G.take k) _ _ w6 hn5.out (hns.out.cut (k := k) (by rw [hs.out]; omega))
            rw [decide_eq_true (rfl : G.take k = G.take k)] at hal
            replace hal := Lib.hid hal
            have cI6 := (cellGr hg6 (a := ⟨bi, oi + k, none⟩) hbi5).trans cI5
            clear hg6
            go_wp2_with fail
            refine hal.out.mono ?_
            rintro e w8 ⟨rfl, hg6⟩
            replace hg2 := Lib.hid (hg2.out.trans hg6)
            go_wp2_with fail
            go_ret
            exact ⟨rfl, hg2.out⟩
end Go.Proofs.Ytgdbbjijneidaaa
