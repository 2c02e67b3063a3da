/- The law of the journal: frames that are cut off anywhere. -/
import Derived.Test.YtgdbbjijneidaaaJr20
namespace Go.Proofs.Ytgdbbjijneidaaa
set_option linter.unusedVariables false
set_option linter.unusedSimpArgs false
open Go Go.RowKit
set_option maxHeartbeats 8000000 in
set_option maxRecDepth 20000 in
theorem jourCuts_any (L : List Nt) (v : Value) (ct : Nat) (hct : ct ≤ 65535) (w : World) (h : NsV L v w) :
    Calls Try.prog 8 #[v, .int .u16 ct] w fun e w' => e = .returned (.bool true) ∧ Gr w w' := by
  obtain ⟨A, c, rfl, -, -⟩ := h.len
  obtain ⟨n0, hn0⟩ : ∃ n, L.length = n := ⟨_, rfl⟩
  rw [hn0] at h ⊢
  replace hn0 := Lib.hid hn0
  have hsm := Lib.hid (some_any L (.slice A n0 c) 12 (by decide) w h)
  clear h
  go_enter Try.func8, Try.ntmps8
  go_wp2_with fail
  refine hsm.out.mono ?_
  clear hsm
  rintro e w2 ⟨u, E, rfl, hE, ho, hg2⟩
  obtain ⟨G, hG⟩ : ∃ G, (L.take 12).filter goodN = G := ⟨_, rfl⟩
  rw [hG] at hE
  have hGg : ∀ n ∈ G, goodN n = true := fun n hn => by
    rw [← hG] at hn
    exact (List.mem_filter.mp hn).2
  have hGl : G.length ≤ 12 := by
    rw [← hG]
    refine Nat.le_trans (List.length_filter_le _ _) ?_
    rw [List.length_take]
    omega
  have hns := ho.ns
  rw [hE] at hns
  have hfr := Lib.hid (frames_any G u hGg (by omega) w2 hns)
  have hfl := framesB_len hGg
  obtain ⟨Au, cu, rfl, -, -⟩ := hns.len
  obtain ⟨s, hs⟩ : ∃ s, G.length = s := ⟨_, rfl⟩
  rw [hs] at hns hfr hfl hGl ⊢
  replace hns := Lib.hid hns
  replace hg2 := Lib.hid hg2
  clear ho hE hG
  go_wp2_with fail
  refine hfr.out.mono ?_
  clear hfr
  rintro e w3 ⟨v3, a3, rfl, ho3, hi3, hg3⟩
  replace hns := NsV.gr hg3 hns
  replace hg2 := Lib.hid (hg2.out.trans hg3)
  obtain ⟨P, hP⟩ : ∃ P : Nat → Nat, P = fun i => (framesB (G.take i)).length := ⟨_, rfl⟩
  have hPs : P s = (framesB G).length := by rw [hP, ← hs]; simp
  have hPm : ∀ k, P k ≤ P s := fun k => by rw [hPs, hP]; exact framesB_mono G k
  have hP0 : P 0 = 0 := by rw [hP]; rfl
  have hcut : ∀ m k, m ≤ P s → k ≤ s → P k ≤ m → (k < s → m < P (k + 1)) → scanN ((framesB G).take m) = (G.take k, P k) := fun m k h1 h2 h3 h4 => by
    have := scan_cut hGg (m := m) (k := k) (by rw [← hPs]; exact h1) (by rw [hs]; exact h2) (by rw [hP] at h3; exact h3) (fun hk => by have := h4 (by rw [← hs]; exact hk); rw [hP] at this; exact this)
    rw [this, hP]
  have hati : ∀ i, i < s → (atL G)[i]? = some ((P i : Nat) : Int) := fun i hi => by rw [hP]; exact atL_get G (by rw [hs]; exact hi)
  obtain ⟨FB, hFB⟩ : ∃ FB, framesB G = FB := ⟨_, rfl⟩
  rw [hFB] at ho3 hfl hPs hcut
  obtain ⟨A3, c3, rfl, hc31, hc32, -, -⟩ := ho3.form
  have hals : (atL G).length = s := by unfold atL; simp [hs]
  obtain ⟨Aa, ca, ea, hia1, hia2, hia3, -⟩ := hi3.ints
  subst ea
  obtain ⟨ps, hps⟩ : ∃ ps, P s = ps := ⟨_, rfl⟩
  have hFl : FB.length = ps := by rw [← hps, hPs]
  rw [hals] at hia3 ⊢
  rw [hFl] at ho3 hfl hc31 ⊢
  have hps' : Hid (P s = ps) := Lib.hid hps
  rw [hps] at hcut hPm
  have hsu : s ≤ cu := by
    obtain ⟨A', c', e', h1, h2⟩ := hns.out.len
    injection e' with e1 e2 e3
    rw [e3]
    omega
  have hia : Hid (0 < s → ∃ b o, Aa = some ⟨b, o, none⟩ ∧ b < w3.heap.size ∧ ∀ (i : Nat) (x : Int), (atL G)[i]? = some x → w3.cell? ⟨b, o + i, none⟩ = some (.int .i64 x)) := Lib.hid hia3
  have hfl2 : ps ≤ 24096 := by omega
  replace hps := hps'
  replace hs := Lib.hid hs
  replace hFB := Lib.hid hFB
  replace hFl := Lib.hid hFl
  replace hP := Lib.hid hP
  replace hcut := Lib.hid hcut
  replace hati := Lib.hid hati
  replace hals := Lib.hid hals
  replace ho3 := Lib.hid ho3
  clear hia3 hi3 hg3 hps' hia1 hia2 hPs
  by_cases hz : ps = 0
  · have hs0 : s = 0 := by
      by_cases h0 : s = 0
      · exact h0
      · exfalso
        cases hGc : G with
        | nil => have := hs.out; rw [hGc] at this; simp at this; omega
        | cons n R =>
          have h1 := hFl.out
          rw [← hFB.out, hGc, framesB_cons, List.length_append, frameB_len] at h1
          omega
    subst hz
    subst hs0
    have hFn : FB = [] := List.eq_nil_of_length_eq_zero hFl.out
    have hGn : G = [] := List.eq_nil_of_length_eq_zero hs.out
    subst hFn
    subst hGn
    have hsc := scan_any [] (.slice A3 0 c3) _ (by decide) w3 ho3.out
    rw [scan_nil] at hsc
    replace hsc := Lib.hid hsc
    clear hP0 hPm hia hcut hati hals hps hP
    go_wp2_with fail
    refine hsc.out.mono ?_
    clear hsc
    rintro e w4 ⟨u5, E5, rfl, hE5, ho5, hg5⟩
    replace hg2 := Lib.hid (hg2.out.trans hg5)
    replace hns := NsV.gr hg5 hns
    have hn5 := ho5.ns
    rw [hE5] at hn5
    replace hn5 := Lib.hid hn5
    obtain ⟨A5, m5, c5, rfl⟩ : ∃ A m c, u5 = .slice A m c := by obtain ⟨A, c, e, -⟩ := ho5.form; exact ⟨A, _, c, e⟩
    clear hg5 ho5 hE5
    go_wp2_with fail
    go_loopw [11] (fun i wr => i = .int .i64 0 ∧ Hid (wr = w4)) (fun _ _ => 0)
    case atStart => exact ⟨rfl, Lib.hid rfl⟩
    case round =>
      obtain ⟨rfl, hww⟩ := hrel
      replace hww := hww.out
      subst hww
      go_wp2_with fail
      refine (awake_any _).mono ?_
      rintro e w6 ⟨rfl, hg6⟩
      replace hg2 := Lib.hid (hg2.out.trans hg6)
      replace hns := NsV.gr hg6 hns
      replace hn5 := NsV.gr hg6 hn5
      have hal := alike_any [] [] _ _ w6 hn5.out hns.out
      rw [decide_eq_true (rfl : ([] : List Nt) = [])] at hal
      replace hal := Lib.hid hal
      clear hg6
      go_wp2_with fail
      refine hal.out.mono ?_
      rintro e w8 ⟨rfl, hg6⟩
      replace hg2 := Lib.hid (hg2.out.trans hg6)
      go_wp2_with fail
      go_ret
      exact ⟨rfl, hg2.out⟩
  · obtain ⟨m, hm0⟩ : ∃ m, ct % (ps + 1) = m := ⟨_, rfl⟩
    have hm : m ≤ ps := by rw [← hm0]; have := Nat.mod_lt ct (show 0 < ps + 1 by omega); omega
    have q1 : ((ct : Int)).tmod ((ps : Int) + 1) = (m : Int) := by
      rw [← hm0, Int.tmod_eq_emod_of_nonneg (by omega)]
      simp
    have q2 : (ps : Int) + 1 ≠ 0 := by omega
    have q3 : (0 : Int) < (ps : Int) := by omega
    have q4 : (m : Int) ≤ (c3 : Int) := by omega
    have hsc := scan_any (FB.take m) (.slice A3 m c3) _ (by rw [List.length_take, hFl.out]; omega) w3 (OB.cut ho3.out hm)
    obtain ⟨S, hS⟩ : ∃ S, scanN (FB.take m) = S := ⟨_, rfl⟩
    rw [hS] at hsc
    obtain ⟨S1, S2⟩ := S
    simp only at hsc
    replace hsc := Lib.hid hsc
    replace hm0 := Lib.hid hm0
    go_wp2_with fail
    refine hsc.out.mono ?_
    clear hsc q1 q2 q4
    rintro e w4 ⟨u5, E5, rfl, hE5, ho5, hg5⟩
    replace hg2 := Lib.hid (hg2.out.trans hg5)
    replace hns := NsV.gr hg5 hns
    have hia4 : Hid (0 < s → ∃ b o, Aa = some ⟨b, o, none⟩ ∧ b < w3.heap.size ∧ ∀ (i : Nat) (x : Int), (atL G)[i]? = some x → w4.cell? ⟨b, o + i, none⟩ = some (.int .i64 x)) := Lib.hid (fun h0 => by
      obtain ⟨b, o, e, hb, hc⟩ := hia.out h0
      exact ⟨b, o, e, hb, fun i x hx => (cellGr hg5 (a := ⟨b, o + i, none⟩) hb).trans (hc i x hx)⟩)
    have hn5 := ho5.ns
    rw [hE5] at hn5
    replace hn5 := Lib.hid hn5
    obtain ⟨A5, m5, c5, rfl⟩ : ∃ A m c, u5 = .slice A m c := by obtain ⟨A, c, e, -⟩ := ho5.form; exact ⟨A, _, c, e⟩
    have hia := hia4
    have hw : ∃ wx, wx = w4 := ⟨_, rfl⟩
    replace hS := Lib.hid hS
    clear hia4 hg5 ho5 hE5 hw
    go_wp2_with fail
    go_loopw [11] (fun i wr => ∃ k : Nat, i = .int .i64 k ∧ k ≤ s ∧ P k ≤ m ∧ Hid (wr = w4)) (fun i _ => s - (intOf i).toNat)
    case atStart => exact ⟨0, rfl, Nat.zero_le _, by rw [hP0]; exact Nat.zero_le _, Lib.hid rfl⟩
    case round =>
      obtain ⟨k, rfl, hk, hpm, hww⟩ := hrel
      replace hww := hww.out
      subst hww
      replace hS := hS.out
      by_cases hks : k = s
      · subst hks
        have hlast : k < k → m < P (k + 1) := fun h => absurd h (by omega)
        have hSk := hcut.out m k hm (by omega) hpm hlast
        rw [hSk] at hS
        obtain ⟨pk, hpk⟩ : ∃ pk, P k = pk := ⟨_, rfl⟩
        rw [hpk] at hS hpm
        have hS' := hS
        injection hS' with hS1 hS2
        subst hS1
        subst hS2
        clear hSk hS
        have hkps : pk = ps := by rw [← hpk, hps.out]
        have i0 : ¬ ((k : Int) < (k : Int)) := by omega
        replace hpk := Lib.hid hpk
        replace hlast := Lib.hid hlast
        go_wp2_with fail
        refine (awake_any _).mono ?_
        rintro e w6 ⟨rfl, hg6⟩
        replace hg2 := Lib.hid (hg2.out.trans hg6)
        replace hns := NsV.gr hg6 hns
        replace hn5 := NsV.gr hg6 hn5
        have hal := alike_any (G.take k) (G.take k) _ _ w6 hn5.out (hns.out.cut (k := k) (by rw [hs.out]; omega))
        rw [decide_eq_true (rfl : G.take k = G.take k)] at hal
        replace hal := Lib.hid hal
        have kk1 : (k : Int) ≤ (cu : Int) := by omega
        subst hkps
        clear hg6
        go_wp2_with fail
        refine hal.out.mono ?_
        rintro e w8 ⟨rfl, hg6⟩
        replace hg2 := Lib.hid (hg2.out.trans hg6)
        go_wp2_with fail
        go_ret
        exact ⟨rfl, hg2.out⟩
      · by_cases hk1 : k + 1 = s
        · by_cases hle : ps ≤ m
          · have h1 : (k : Int) < (s : Int) := by omega
            have h2 : ¬ ((k : Int) + 1 < (s : Int)) := by omega
            have h3 : (k : Int) + 1 = (s : Int) := by omega
            have h4 : (ps : Int) ≤ (m : Int) := by omega
            have hpm2 : P (k + 1) ≤ m := by rw [hk1, hps.out]; exact hle
            replace hS := Lib.hid hS
            go_wp2_with fail
            go_roundw
            case rel => exact ⟨k + 1, by go_num, by omega, hpm2, Lib.hid (by first | rfl | trivial)⟩
            case measure => simp [intOf]; omega
          · have h1 : (k : Int) < (s : Int) := by omega
            have h2 : ¬ ((k : Int) + 1 < (s : Int)) := by omega
            have h3 : (k : Int) + 1 = (s : Int) := by omega
            have h4 : ¬ ((ps : Int) ≤ (m : Int)) := by omega
            have hlast : k < s → m < P (k + 1) := fun _ => by rw [hk1, hps.out]; omega
            have hSk := hcut.out m k hm (by omega) hpm hlast
            rw [hSk] at hS
            obtain ⟨pk, hpk⟩ : ∃ pk, P k = pk := ⟨_, rfl⟩
            rw [hpk] at hS hpm
            have hS' := hS
            injection hS' with hS1 hS2
            subst hS1
            subst hS2
            clear hSk hS
            have i0 : (k : Int) < (s : Int) := by omega
            obtain ⟨bi, oi, ei, hbi, hci⟩ := hia.out (by omega)
            subst ei
            have cI := hci k _ (hati.out k (by omega))
            rw [hpk] at cI
            have i1 : k < s := by omega
            clear hci
            replace hpk := Lib.hid hpk
            replace hlast := Lib.hid hlast
            go_wp2_with fail
            refine (awake_any _).mono ?_
            rintro e w6 ⟨rfl, hg6⟩
            replace hg2 := Lib.hid (hg2.out.trans hg6)
            replace hns := NsV.gr hg6 hns
            replace hn5 := NsV.gr hg6 hn5
            have hal := alike_any (G.take k) (G.take k) _ _ w6 hn5.out (hns.out.cut (k := k) (by rw [hs.out]; omega))
            rw [decide_eq_true (rfl : G.take k = G.take k)] at hal
            replace hal := Lib.hid hal
            have kk1 : (k : Int) ≤ (cu : Int) := by omega
            clear hg6
            go_wp2_with fail
            refine hal.out.mono ?_
            rintro e w8 ⟨rfl, hg6⟩
            replace hg2 := Lib.hid (hg2.out.trans hg6)
            go_wp2_with fail
            go_ret
            exact ⟨rfl, hg2.out⟩
        · obtain ⟨bj, oj, ej, hbj, hcj⟩ := hia.out (by omega)
          have cJ := hcj (k + 1) _ (hati.out (k + 1) (by omega))
          obtain ⟨pk1, hpk1⟩ : ∃ pk1, P (k + 1) = pk1 := ⟨_, rfl⟩
          rw [hpk1] at cJ
          have h1 : (k : Int) < (s : Int) := by omega
          have h2 : (k : Int) + 1 < (s : Int) := by omega
          have h5 : k + 1 < s := by omega
          have h6 : ((k : Int) + 1).toNat = k + 1 := by omega
          have h7 : (0 : Int) ≤ (k : Int) + 1 := by omega
          have h8 : ¬ ((k : Int) + 1 = (s : Int)) := by omega
          clear hcj hbj
          by_cases hle : pk1 ≤ m
          · have h4 : (pk1 : Int) ≤ (m : Int) := by omega
            have hpm2 : P (k + 1) ≤ m := by rw [hpk1]; exact hle
            replace hS := Lib.hid hS
            replace hpk1 := Lib.hid hpk1
            subst ej
            go_wp2_with fail
            go_roundw
            case rel => exact ⟨k + 1, by go_num, by omega, hpm2, Lib.hid (by first | rfl | trivial)⟩
            case measure => simp [intOf]; omega
          · have h4 : ¬ ((pk1 : Int) ≤ (m : Int)) := by omega
            have hlast : k < s → m < P (k + 1) := fun _ => by rw [hpk1]; omega
            replace hpk1 := Lib.hid hpk1
            have hSk := hcut.out m k hm (by omega) hpm hlast
            rw [hSk] at hS
            obtain ⟨pk, hpk⟩ : ∃ pk, P k = pk := ⟨_, rfl⟩
            rw [hpk] at hS hpm
            have hS' := hS
            injection hS' with hS1 hS2
            subst hS1
            subst hS2
            clear hSk hS
            have i0 : (k : Int) < (s : Int) := by omega
            subst ej
            obtain ⟨bi, oi, ei, hbi, hci⟩ := hia.out (by omega)
            injection ei with ei
            injection ei with ei1 ei2 _
            subst ei1
            subst ei2
            have cI := hci k _ (hati.out k (by omega))
            rw [hpk] at cI
            have i1 : k < s := by omega
            clear hci
            replace hpk := Lib.hid hpk
            replace hlast := Lib.hid hlast
            go_wp2_with fail
            refine (awake_any _).mono ?_
            rintro e w6 ⟨rfl, hg6⟩
            replace hg2 := Lib.hid (hg2.out.trans hg6)
            replace hns := NsV.gr hg6 hns
            replace hn5 := NsV.gr hg6 hn5
            have hal := alike_any (G.take k) (G.take k) _ _ w6 hn5.out (hns.out.cut (k := k) (by rw [hs.out]; omega))
            rw [decide_eq_true (rfl : G.take k = G.take k)] at hal
            replace hal := Lib.hid hal
            have kk1 : (k : Int) ≤ (cu : Int) := by omega
            clear hg6
            go_wp2_with fail
            refine hal.out.mono ?_
            rintro e w8 ⟨rfl, hg6⟩
            replace hg2 := Lib.hid (hg2.out.trans hg6)
            go_wp2_with fail
            go_ret
            exact ⟨rfl, hg2.out⟩
end Go.Proofs.Ytgdbbjijneidaaa
