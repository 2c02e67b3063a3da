/- The law of the journal: the notes that any bytes begin with. -/
import Derived.Test.YtgdbbjijneidaaaJr10
import Derived.Test.YtgdbbjijneidaaaJr18
namespace Go.Proofs.Ytgdbbjijneidaaa
set_option linter.unusedVariables false
set_option linter.unusedSimpArgs false
open Go Go.RowKit
set_option maxHeartbeats 4000000 in
set_option maxRecDepth 20000 in
theorem jourScans_any (L : List Nt) (v : Value) (B1 : Option Addr) (nb cb : Nat) (b : List UInt8) (hnb : b.length = nb) (hbc : nb ≤ cb) (hbm : cb ≤ maxLen) (w : World) (h : NsV L v w) (h1 : Rd w w.heap.size B1 b) :
    Calls Try.prog 7 #[v, .slice B1 nb cb] w fun e w' => e = .returned (.bool true) ∧ Gr w w' := by
  have hy : Hid (Byt b (.slice B1 nb cb) w) := Lib.hid ⟨B1, cb, by rw [hnb], by rw [hnb]; exact hbc, hbm, h1⟩
  obtain ⟨A, c, rfl, -, -⟩ := h.len
  obtain ⟨n, hn⟩ : ∃ n, L.length = n := ⟨_, rfl⟩
  rw [hn] at h ⊢
  replace hn := Lib.hid hn
  replace hnb := Lib.hid hnb
  by_cases hbig : 3000 < nb
  · have d1 : (3000 : Int) < (nb : Int) := by omega
    clear h1 h hy
    go_enter Try.func7, Try.ntmps7
    go_wp2_with fail
    refine (awake_any _).mono ?_
    rintro e w2 ⟨rfl, hg2⟩
    go_wp2_with fail
    go_ret
    exact ⟨rfl, hg2⟩
  · have d1 : ¬ ((3000 : Int) < (nb : Int)) := by omega
    have hsm := Lib.hid (some_any L (.slice A n c) 12 (by decide) w h)
    clear h1
    go_enter Try.func7, Try.ntmps7
    go_wp2_with fail
    refine hsm.out.mono ?_
    clear hsm h
    rintro e w2 ⟨u, E, rfl, hE, ho, hg2⟩
    replace hy := Byt.gr hg2 hy
    obtain ⟨G, hG⟩ : ∃ G, (L.take 12).filter goodN = G := ⟨_, rfl⟩
    rw [hG] at hE
    have hGg : ∀ n ∈ G, goodN n = true := fun n hn => by
      rw [← hG] at hn
      exact (List.mem_filter.mp hn).2
    have hGl : G.length ≤ 12 := by
      rw [← hG]
      refine Nat.le_trans (List.length_filter_le _ _) ?_
      rw [List.length_take]
      omega
    have hns := ho.ns
    rw [hE] at hns
    have hfr := Lib.hid (frames_any G u hGg (by omega) w2 hns)
    have hfl := framesB_len hGg
    obtain ⟨Au, mu, cu, rfl⟩ : ∃ A m c, u = .slice A m c := by obtain ⟨A, c, e, -⟩ := ho.form; exact ⟨A, _, c, e⟩
    have hs2w := Lib.hid hg2.size
    replace hg2 := Lib.hid hg2
    clear ho hE hG hns
    go_wp2_with fail
    refine hfr.out.mono ?_
    clear hfr
    rintro e w3 ⟨v3, a3, rfl, ho3, hi3, hg3⟩
    replace hy := Byt.gr hg3 hy
    have hg := Lib.hid (hg2.out.trans hg3)
    have hs3 := hg3.size
    obtain ⟨FB, hFB⟩ : ∃ FB, framesB G = FB := ⟨_, rfl⟩
    rw [hFB] at ho3 hfl
    obtain ⟨A3, c3, rfl, -⟩ := ho3.form
    obtain ⟨Aa, ma, ca, rfl⟩ : ∃ A m c, a3 = .slice A m c := by obtain ⟨A, c, e, -⟩ := hi3.form; exact ⟨A, _, c, e⟩
    obtain ⟨nf, hnf⟩ : ∃ nf, FB.length = nf := ⟨_, rfl⟩
    rw [hnf] at ho3 hfl ⊢
    have hyR : Rd w3 w3.heap.size B1 b := by
      obtain ⟨A', c', e', -, -, hR'⟩ := hy.out
      injection e' with e1 e2 e3
      subst e1
      exact hR'
    replace ho3 := Lib.hid ho3
    replace hyR := Lib.hid hyR
    replace hnf := Lib.hid hnf
    replace hFB := Lib.hid hFB
    clear hi3 hg3 hg2
    go_wp2_with (at_builtin; go_must (refine wpl_append rfl (.tmp 21) (.tmp 22) rfl w2.heap.size (.slice A3 nf c3) FB rfl ho3.out _ B1 cb b (by rw [hnb.out]; rfl) hyR.out (by rw [hnf.out, hnb.out]; omega) hs3 ?_); intro v4 w4 ho4 hg4 _; have hl4 : Below w2.heap.size w3 w4 := (Below.refl _ _).grown hg4 hs3 (fun k hk => (ho3.out.lt k hk).1))
    have hg5 : Hid (Gr w w4) := Lib.hid (by
      have h := hg.out
      have hs : w.heap.size ≤ w2.heap.size := by
        have := hs2w.out
        exact this
      unfold Gr at *
      exact h.trans (hl4.mono hs))
    obtain ⟨S, hS⟩ : ∃ S, scanN (FB ++ b) = S := ⟨_, rfl⟩
    have hlS : (FB ++ b).length ≤ 1000000 := by rw [List.length_append, hnf.out, hnb.out]; omega
    have hsc := scan_any (FB ++ b) v4 _ (by omega) w4 ho4
    rw [hS] at hsc
    replace hsc := Lib.hid hsc
    have ho4' := Lib.hid ho4
    obtain ⟨A4, m4, c4, rfl⟩ := ho4.shape
    clear hg4 hl4 hg ho4
    refine hsc.out.mono ?_
    clear hsc
    rintro e w5 ⟨u5, E5, rfl, hE5, ho5, hg6⟩
    replace hg5 := Lib.hid (hg5.out.trans hg6)
    replace ho4' := OB.gr hg6 ho4'
    have hrs := rscan_any (FB ++ b) (.slice A4 m4 c4) _ hlS w5 ho4'.out
    rw [hS] at hrs
    replace hrs := Lib.hid hrs
    have hn5 := ho5.ns
    rw [hE5] at hn5
    replace hn5 := Lib.hid hn5
    obtain ⟨A5, m5, c5, rfl⟩ : ∃ A m c, u5 = .slice A m c := by obtain ⟨A, c, e, -⟩ := ho5.form; exact ⟨A, _, c, e⟩
    clear hg6 ho5 hE5
    go_wp2_with fail
    refine hrs.out.mono ?_
    clear hrs
    rintro e w6 ⟨u6, E6, rfl, hE6, ho6, hg6⟩
    replace hg5 := Lib.hid (hg5.out.trans hg6)
    replace hn5 := NsV.gr hg6 hn5
    have hn6 := ho6.ns
    rw [hE6] at hn6
    replace hn6 := Lib.hid hn6
    obtain ⟨A6, m6, c6, rfl⟩ : ∃ A m c, u6 = .slice A m c := by obtain ⟨A, c, e, -⟩ := ho6.form; exact ⟨A, _, c, e⟩
    obtain ⟨k, hk⟩ : ∃ k, S.2 = k := ⟨_, rfl⟩
    rw [hk]
    clear hg6 ho6 hE6
    go_wp2_with fail
    refine (awake_any _).mono ?_
    rintro e w7 ⟨rfl, hg6⟩
    replace hg5 := Lib.hid (hg5.out.trans hg6)
    replace hn5 := NsV.gr hg6 hn5
    replace hn6 := NsV.gr hg6 hn6
    have hal := alike_any S.1 S.1 _ _ w7 hn5.out hn6.out
    rw [decide_eq_true (rfl : S.1 = S.1)] at hal
    replace hal := Lib.hid hal
    clear hg6
    go_wp2_with fail
    refine hal.out.mono ?_
    rintro e w8 ⟨rfl, hg6⟩
    replace hg5 := Lib.hid (hg5.out.trans hg6)
    go_wp2_with fail
    go_ret
    exact ⟨rfl, hg5.out⟩
end Go.Proofs.Ytgdbbjijneidaaa
