/- The law of blob: the groups of any bytes. -/
import Derived.Test.YtdgkcgiknfjpjaaBl7
namespace Go.Proofs.Ytdgkcgiknfjpjaa
set_option linter.unusedVariables false
set_option linter.unusedSimpArgs false
open Go Go.RowKit
set_option maxHeartbeats 4000000 in
set_option maxRecDepth 20000 in
theorem blobSplits_any (z : Int) (hz : R64 z) (A : Option Addr) (n c : Nat) (l : List UInt8) (hn : l.length = n) (hnc : n ≤ c) (hcm : c ≤ maxLen) (w : World) (hr : Rd w w.heap.size A l) :
    Calls Try.prog 3 #[.int .i64 z, .slice A n c] w fun e w' => e = .returned (.bool true) ∧ Gr w w' := by
  have hsh := Lib.hid (short18_any A n c l 600 (by decide) (by decide) (Lib.hid hn) hnc (by simp only [maxLen] at hcm; omega) w (Lib.hid hr))
  have hl6 : (l.take 600).length ≤ 600 := by rw [List.length_take]; omega
  obtain ⟨d, hd⟩ : ∃ d, l.take 600 = d := ⟨_, rfl⟩
  rw [hd] at hsh hl6
  replace hd := Lib.hid hd
  replace hz := Lib.hid hz
  clear hn hnc hcm hr
  go_enter Try.func3, Try.ntmps3
  go_wp2_with fail
  refine hsh.out.mono ?_
  clear hsh
  rintro e w1 ⟨A1, n1, c1, rfl, ho1, hn1, hg1⟩
  rw [hn1.out] at hl6
  obtain ⟨Ax, cx, ex, hnc1, -, -, -⟩ := ho1.out.form
  injection ex with ex1 ex2 ex3
  rw [hn1.out, ← ex3] at hnc1
  clear ex1 ex2 ex3
  replace hg1 := Lib.hid hg1
  go_wp2_with fail
  refine (awake18_any _).mono ?_
  rintro e w2 ⟨rfl, hg2⟩
  have ho2 : Hid (OB w2 w.heap.size (.slice A1 n1 c1) d) := Lib.hid (row_below ho1.out hg2)
  replace hg2 := Lib.hid (hg1.out.trans hg2)
  clear ho1 hg1
  obtain ⟨G, hG⟩ : ∃ G, groupsOf z = G := ⟨_, rfl⟩
  have hb := bgroups_any z hz.out w2
  have hrg := r18groups_any z hz.out w2
  rw [hG] at hb hrg
  replace hb := Lib.hid hb
  replace hrg := Lib.hid hrg
  replace hG := Lib.hid hG
  go_wp2_with fail
  refine hb.out.mono ?_
  clear hb
  rintro e wx ⟨rfl, hwx⟩
  rw [hwx]
  clear hwx
  go_wp2_with fail
  refine hrg.out.mono ?_
  clear hrg
  rintro e wx ⟨rfl, hwx⟩
  rw [hwx]
  clear hwx
  by_cases h5 : n1 ≤ 512
  · have hs := Lib.hid (bsplit_any A1 n1 c1 d hn1.out h5 w2 ho2.out.rd.1)
    go_wp2_with fail
    refine hs.out.mono ?_
    clear hs
    rintro e w3 ⟨u, rfl, hT, hg3⟩
    obtain ⟨Au, cu, rfl, a1, a2, a3⟩ := hT
    have ho3 : OB w3 w.heap.size (.slice A1 n1 c1) d := row_below ho2.out hg3
    have hs := Lib.hid (rsplit_any A1 n1 c1 d hn1.out hnc1 h5 w3 ho3.rd.1)
    have hT3 : Hid (RT w3 w3.heap.size Au (splD d).length (splD d)) := Lib.hid a3
    obtain ⟨m, hm⟩ : ∃ m, (splD d).length = m := ⟨_, rfl⟩
    have hm4 : m ≤ 4 := by
      rw [← hm]
      unfold splD
      rw [tabM_length, hn1.out]
      exact (ngrp_spec h5).2.2.1
    rw [hm] at hT3 ⊢
    replace hg3 := Lib.hid (hg2.out.trans hg3)
    clear a1 a2 a3 ho3 hg2 ho2
    replace hm := Lib.hid hm
    go_wp2_with fail
    refine hs.out.mono ?_
    clear hs
    rintro e w4 ⟨u, rfl, hT, hg4⟩
    obtain ⟨Av, cv, rfl, a1, a2, a3⟩ := hT
    rw [hm.out] at a1 a3 ⊢
    have hsm := Lib.hid (rsameT_any Au m cu (splD d) (by omega) Av m cv (splD d) (by omega) w4 (hT3.out.up hg4) a3)
    replace hg4 := Lib.hid (hg3.out.trans hg4)
    clear a1 a2 a3 hT3 hg3
    go_wp2_with fail
    refine hsm.out.mono ?_
    clear hsm
    rintro e w5 ⟨rfl, hg5⟩
    have hgf := Lib.hid (hg4.out.trans hg5)
    have hbe : (splD d == splD d) = true := beq_self_eq_true _
    clear hg5
    go_wp2_with fail
    go_ret
    exact ⟨rfl, hgf.out⟩
  · have hs := Lib.hid (bsplit_big A1 n1 c1 (by omega) (by omega) w2)
    go_wp2_with fail
    refine hs.out.mono ?_
    clear hs
    rintro e w3 ⟨u, rfl, hT, hg3⟩
    obtain ⟨Au, cu, rfl, a1, a2, a3⟩ := hT
    have hs := Lib.hid (rsplit_big A1 n1 c1 (by omega) w3)
    have hT3 : Hid (RT w3 w3.heap.size Au 0 []) := Lib.hid a3
    replace hg3 := Lib.hid (hg2.out.trans hg3)
    clear a1 a2 a3 hg2 ho2
    go_wp2_with fail
    refine hs.out.mono ?_
    clear hs
    rintro e w4 ⟨u, rfl, hT, hg4⟩
    obtain ⟨Av, cv, rfl, a1, a2, a3⟩ := hT
    have hsm := Lib.hid (rsameT_any Au 0 cu [] (by omega) Av 0 cv [] (by omega) w4 (hT3.out.up hg4) a3)
    replace hg4 := Lib.hid (hg3.out.trans hg4)
    clear a1 a2 a3 hT3 hg3
    go_wp2_with fail
    refine hsm.out.mono ?_
    clear hsm
    rintro e w5 ⟨rfl, hg5⟩
    have hgf := Lib.hid (hg4.out.trans hg5)
    clear hg5
    go_wp2_with fail
    go_ret
    exact ⟨rfl, hgf.out⟩
end Go.Proofs.Ytdgkcgiknfjpjaa
