/- The law of the journal: notes swapped, with and without a fuse. -/
import Derived.Test.YtgdbbjijneidaaaJr29
namespace Go.Proofs.Ytgdbbjijneidaaa
set_option linter.unusedVariables false
set_option linter.unusedSimpArgs false
open Go Go.RowKit
def dw (X : List UInt8) (b : Bool) : DS := ⟨X, X.length, b, 0⟩
theorem swap_wipe {X : List UInt8} (h : X.length ≤ 262144) : DS.wipe.swap X = (0, dw X false) := by unfold DS.swap; rw [if_neg (by omega)]; rfl
theorem swap_dw {X Y : List UInt8} (h : Y.length ≤ 262144) : (dw X false).swap Y = (0, dw Y false) := by unfold DS.swap; rw [if_neg (by omega)]; rfl
theorem swap_fused {X Y : List UInt8} (h : Y.length ≤ 262144) : (dw X true).swap Y = (11, dw X true) := by unfold DS.swap; rw [if_neg (by omega)]; rfl
theorem fuse_dw (X : List UInt8) : (dw X false).fuse 0 = dw X true := rfl
theorem crash_dw (X : List UInt8) (b : Bool) (keep : Int) : (dw X b).crash keep = dw X false := by
  have hk : (dw X b).kept keep = X.length := by
    show X.length + (min (max keep 0) ((X.length : Int) - X.length)).toNat = X.length
    omega
  unfold DS.crash
  rw [hk]
  show (DS.mk (X.take X.length) X.length false 0) = _
  rw [List.take_length]
  rfl
theorem scan_whole {G : List Nt} (h : ∀ n ∈ G, goodN n = true) : scanN (framesB G) = (G, (framesB G).length) := by
  have := scan_frames h []
  rw [List.append_nil, scan_nil, List.append_nil] at this
  exact this
theorem opS_dw {G : List Nt} (h : ∀ n ∈ G, goodN n = true) : opS (dw (framesB G) false) = (0, dw (framesB G) false) := by
  unfold opS
  rw [show (dw (framesB G) false).c = framesB G from rfl, scan_whole h, if_neg (by simp)]
theorem swZ_ok {s : DS} {X : List UInt8} {z : Nat} (h : (s.swap X).1 = 0) : swZ s X z = X.length := by unfold swZ; rw [if_pos h]
set_option maxHeartbeats 8000000 in
set_option maxRecDepth 20000 in
theorem jourSwaps_any (L M : List Nt) (v u : Value) (fu : Bool) (keep : Int) (hkp : -9223372036854775808 ≤ keep ∧ keep ≤ 9223372036854775807) (w : World) (h : NsV L v w) (h' : NsV M u w) :
    Calls Try.prog 12 #[v, u, .bool fu, .int .i64 keep] w fun e w' => e = .returned (.bool true) ∧ Gr w w' := by
  obtain ⟨A, c, rfl, -, -⟩ := h.len
  obtain ⟨A', c', rfl, -, -⟩ := h'.len
  obtain ⟨n0, hn0⟩ : ∃ n, L.length = n := ⟨_, rfl⟩
  obtain ⟨n1, hn1⟩ : ∃ n, M.length = n := ⟨_, rfl⟩
  rw [hn0] at h ⊢
  rw [hn1] at h' ⊢
  replace hn0 := Lib.hid hn0
  replace hn1 := Lib.hid hn1
  replace h := Lib.hid h
  replace h' := Lib.hid h'
  go_enter Try.func12, Try.ntmps12
  go_wp2_with fail
  refine (dnew_any w).mono ?_
  rintro e w1 ⟨rfl, hD1, hb1⟩
  obtain ⟨g, hN⟩ : ∃ g, w.heap.size = g := ⟨_, rfl⟩
  rw [hN] at hD1 hb1 ⊢
  have hop := Lib.hid (open_any g _ g _ w1 hD1)
  replace hN := Lib.hid hN
  replace hb1 := Lib.hid hb1
  replace hD1 := Lib.hid hD1
  go_wp2_with fail
  refine hop.out.mono ?_
  clear hop
  rintro e w2 ⟨hD2, hu2, hc2⟩
  rw [opS_wipe] at hD2 hc2
  rcases hc2 with ⟨-, J, u0, E0, rfl, -, -, hJ, hJN⟩ | ⟨hne, -⟩
  case inr => exact absurd rfl hne
  have ht2 := Upd.tchg hD1.out hu2
  have hb2 := Lib.hid (hb1.out.trans (ht2.below (by have := Below.size hb1.out; rw [hN.out] at this; exact this)))
  have hJg : g ≤ J := by have := Below.size hb1.out; rw [hN.out] at this; omega
  have hJ0 : (scanN DS.wipe.c).2 = 0 := by rw [show scanN DS.wipe.c = ([], 0) from scan_nil]
  rw [hJ0] at hJ
  replace hJ := Lib.hid hJ
  have hsm := Lib.hid (someO_any L (.slice A n0 c) 10 (by decide) w w2 (by unfold Gr; rw [hN.out]; exact hb2.out) h.out)
  replace hD2 := Lib.hid hD2
  clear hu2 ht2 hJ0 hJN hD1 hb1
  go_wp2_with fail
  refine hsm.out.mono ?_
  clear hsm
  rintro e w3 ⟨vx, Ex, rfl, hEx, hox, hg3, holdx⟩
  have hs2 : g ≤ w2.heap.size := by have := Below.size hb2.out; rw [hN.out] at this; exact this
  have hb3 := Lib.hid (hb2.out.trans (Below.mono hg3 hs2))
  have hs3 : g ≤ w3.heap.size := by have := Below.size hb3.out; rw [hN.out] at this; exact this
  have hsm := Lib.hid (someO_any M (.slice A' n1 c') 10 (by decide) w w3 (by unfold Gr; rw [hN.out]; exact hb3.out) h'.out)
  have hD3 := Lib.hid ((hD2.out.below hg3).more hg3.size (Nat.le_refl _))
  have hJ3 := Lib.hid (blk_below hJ.out hg3)
  replace hox : Hid (ON Ex vx g w3) := Lib.hid ⟨row_more hox.row hs2, hox.vs, hox.ap⟩
  obtain ⟨X, hX⟩ : ∃ X, (L.take 10).filter goodN = X := ⟨_, rfl⟩
  rw [hX] at hEx
  have hXg : ∀ n ∈ X, goodN n = true := fun n hn => by
    rw [← hX] at hn
    exact (List.mem_filter.mp hn).2
  have hXl : X.length ≤ 10 := by
    rw [← hX]
    refine Nat.le_trans (List.length_filter_le _ _) ?_
    rw [List.length_take]
    omega
  have hxl := framesB_len hXg
  obtain ⟨nx, hnx⟩ : ∃ n, X.length = n := ⟨_, rfl⟩
  rw [hnx] at hxl hXl
  have hElx : Ex.length = nx := by have := congrArg List.length hEx; rw [List.length_map, hnx] at this; exact this
  obtain ⟨Ax, cx, rfl, -⟩ := hox.out.form
  rw [hElx] at hox ⊢
  replace hX := Lib.hid hX
  replace hnx := Lib.hid hnx
  replace hElx := Lib.hid hElx
  replace hEx := Lib.hid hEx
  replace hXg := Lib.hid hXg
  replace holdx := Lib.hid holdx
  clear hg3 hD2 hJ hb2 hs2
  go_wp2_with fail
  refine hsm.out.mono ?_
  clear hsm
  rintro e w4 ⟨vy, Ey, rfl, hEy, hoy, hg4, holdy⟩
  have hb4 := Lib.hid (hb3.out.trans (Below.mono hg4 hs3))
  have hs4 : g ≤ w4.heap.size := by have := Below.size hb4.out; rw [hN.out] at this; exact this
  have hD4 := Lib.hid ((hD3.out.below hg4).more hg4.size (Nat.le_refl _))
  have hJ4 := Lib.hid (blk_below hJ3.out hg4)
  replace hox := ON.gr hg4 hox
  replace hoy : Hid (ON Ey vy g w4) := Lib.hid ⟨row_more hoy.row hs3, hoy.vs, hoy.ap⟩
  obtain ⟨Y, hY⟩ : ∃ Y, (M.take 10).filter goodN = Y := ⟨_, rfl⟩
  rw [hY] at hEy
  have hYg : ∀ n ∈ Y, goodN n = true := fun n hn => by
    rw [← hY] at hn
    exact (List.mem_filter.mp hn).2
  have hYl : Y.length ≤ 10 := by
    rw [← hY]
    refine Nat.le_trans (List.length_filter_le _ _) ?_
    rw [List.length_take]
    omega
  have hyl := framesB_len hYg
  obtain ⟨ny, hny⟩ : ∃ n, Y.length = n := ⟨_, rfl⟩
  rw [hny] at hyl hYl
  have hEly : Ey.length = ny := by have := congrArg List.length hEy; rw [List.length_map, hny] at this; exact this
  obtain ⟨Ay, cy, rfl, -⟩ := hoy.out.form
  rw [hEly] at hoy ⊢
  have hnsx := hox.out.ns
  rw [hEx.out] at hnsx
  have hsw := jswap_any g _ g J DS.wipe 0 X _ hXg.out (by rw [hnx.out]; omega) w4 hD4.out hJ4.out hJg hnsx
  rw [swZ_ok (by rw [swap_wipe (by omega)]), swap_wipe (by omega)] at hsw
  replace hsw := Lib.hid hsw
  replace hY := Lib.hid hY
  replace hny := Lib.hid hny
  replace hEly := Lib.hid hEly
  replace hEy := Lib.hid hEy
  replace hYg := Lib.hid hYg
  replace holdy := Lib.hid holdy
  clear hg4 hD3 hJ3 hb3 hs3 hnsx
  go_wp2_with fail
  refine hsw.out.mono ?_
  clear hsw
  rintro e w5 ⟨rfl, hD5, hJ5, ht5⟩
  have hB := Lib.hid (hb4.out.trans (ht5.below hs4))
  replace hox := ON.tchg hox holdx.out (by unfold Gr; rw [hN.out]; exact hB.out) ht5
  replace hoy := ON.tchg hoy holdy.out (by unfold Gr; rw [hN.out]; exact hB.out) ht5
  replace hD5 := Lib.hid hD5
  replace hJ5 := Lib.hid hJ5
  clear ht5 hD4 hJ4 hb4 hs4
  have hYg' := hYg.out
  cases fu with
  | false =>
    have hnsy := hoy.out.ns
    rw [hEy.out] at hnsy
    have hsw := jswap_any g _ g J _ _ Y _ hYg.out (by rw [hny.out]; omega) w5 hD5.out hJ5.out hJg hnsy
    rw [swZ_ok (by rw [swap_dw (by omega)]), swap_dw (by omega)] at hsw
    replace hsw := Lib.hid hsw
    clear hnsy
    go_wp2_with fail
    refine hsw.out.mono ?_
    clear hsw
    rintro e w6 ⟨rfl, hD6, hJ6, ht6⟩
    replace hB := Lib.hid (hB.out.trans (ht6.below (by have := Below.size hB.out; rw [hN.out] at this; exact this)))
    have ho := ON.tchg hoy holdy.out (by unfold Gr; rw [hN.out]; exact hB.out) ht6
    clear hJ6 ht6 hJ5 hD5 hox hoy
    have hcr := Lib.hid (crash_any g _ g _ keep hkp _ hD6)
    replace hD6 := Lib.hid hD6
    go_wp2_with fail
    refine hcr.out.mono ?_
    clear hcr
    rintro e w7 ⟨rfl, hD7, hc7⟩
    rw [crash_dw] at hD7
    have ht7 := Chg.tchg hD6.out hc7
    replace hB := Lib.hid (hB.out.trans (ht7.below (by have := Below.size hB.out; rw [hN.out] at this; exact this)))
    replace ho := ON.tchg ho holdy.out (by unfold Gr; rw [hN.out]; exact hB.out) ht7
    have hopA := Lib.hid (open_any g _ g _ w7 hD7)
    replace hD7 := Lib.hid hD7
    clear hc7 ht7 hD6
    go_wp2_with fail
    refine hopA.out.mono ?_
    clear hopA
    rintro e w8 ⟨hD8, hu8, hc8⟩
    rw [opS_dw hYg.out] at hD8 hc8
    rw [show (dw (framesB Y) false).c = framesB Y from rfl, scan_whole hYg.out] at hc8
    rcases hc8 with ⟨-, J8, u8, E8, rfl, hE8, ho8, hJ8, -⟩ | ⟨hne, -⟩
    case inr => exact absurd rfl hne
    have ht8 := Upd.tchg hD7.out hu8
    replace hB := Lib.hid (hB.out.trans (ht8.below (by have := Below.size hB.out; rw [hN.out] at this; exact this)))
    replace ho := ON.tchg ho holdy.out (by unfold Gr; rw [hN.out]; exact hB.out) ht8
    have hn8 := ho8.ns
    rw [hE8] at hn8
    have hns := ho.out.ns
    rw [hEy.out] at hns
    have hfr := Lib.hid (frames_any Y _ hYg.out (by rw [hny.out]; omega) w8 hns)
    obtain ⟨A8, c8, rfl, -⟩ := ho8.form
    obtain ⟨m8, hm8⟩ : ∃ m, E8.length = m := ⟨_, rfl⟩
    rw [hm8] at hn8 ⊢
    obtain ⟨FB, hFB⟩ : ∃ FB, framesB Y = FB := ⟨_, rfl⟩
    rw [hFB] at hfr hJ8
    obtain ⟨ps, hps⟩ : ∃ ps, FB.length = ps := ⟨_, rfl⟩
    simp only at hJ8
    rw [hps] at hJ8
    replace hJ8 := Lib.hid hJ8
    replace hps := Lib.hid hps
    replace hFB := Lib.hid hFB
    replace hm8 := Lib.hid hm8
    replace hn8 := Lib.hid hn8
    replace hns := Lib.hid hns
    clear hD8 hu8 hE8 ho8 ht8 hD7 ho
    go_wp2_with fail
    refine hfr.out.mono ?_
    clear hfr
    rintro e w9 ⟨v9, a9, rfl, ho9, -, hg9⟩
    obtain ⟨A9, c9, rfl, -⟩ := ho9.form
    rw [hps.out]
    replace hB := Lib.hid (hB.out.trans (Below.mono hg9 (by have := Below.size hB.out; rw [hN.out] at this; exact this)))
    replace hns := NsV.gr hg9 hns
    replace hn8 := NsV.gr hg9 hn8
    replace hJ8 := Lib.hid (blk_below hJ8.out hg9)
    clear hg9 ho9
    go_wp2_with fail
    refine (awake_any _).mono ?_
    rintro e w10 ⟨rfl, hg10⟩
    replace hB := Lib.hid (hB.out.trans (Below.mono hg10 (by have := Below.size hB.out; rw [hN.out] at this; exact this)))
    replace hns := NsV.gr hg10 hns
    replace hn8 := NsV.gr hg10 hn8
    replace hJ8 := Lib.hid (blk_below hJ8.out hg10)
    have hal := alike_any Y Y _ _ w10 hn8.out hns.out
    rw [decide_eq_true (rfl : Y = Y)] at hal
    replace hal := Lib.hid hal
    clear hg10
    go_wp2_with fail
    refine hal.out.mono ?_
    clear hal
    rintro e w11 ⟨rfl, hg11⟩
    replace hB := Lib.hid (hB.out.trans (Below.mono hg11 (by have := Below.size hB.out; rw [hN.out] at this; exact this)))
    replace hJ8 := Lib.hid (blk_below hJ8.out hg11)
    have hjs := Lib.hid (jsize_any J8 g _ w11 hJ8.out)
    clear hg11
    go_wp2_with fail
    refine hjs.out.mono ?_
    clear hjs
    rintro e w12 ⟨rfl, hw12⟩
    rw [hw12]
    clear hw12
    go_wp2_with fail
    go_ret
    exact ⟨rfl, by unfold Gr; rw [hN.out]; exact hB.out⟩
  | true =>
    have hfu := Lib.hid (fuse_any g _ g _ 0 (by omega) w5 hD5.out)
    go_wp2_with fail
    refine hfu.out.mono ?_
    clear hfu
    rintro e w5b ⟨rfl, hD5b, hc5⟩
    rw [fuse_dw] at hD5b
    have ht5 := Chg.tchg hD5.out hc5
    have hJ5b := hc5.block hJ5.out (Jn.ne hJ5.out hD5.out) (by decide)
    replace hB := Lib.hid (hB.out.trans (ht5.below (by have := Below.size hB.out; rw [hN.out] at this; exact this)))
    replace hox := ON.tchg hox holdx.out (by unfold Gr; rw [hN.out]; exact hB.out) ht5
    replace hoy := ON.tchg hoy holdy.out (by unfold Gr; rw [hN.out]; exact hB.out) ht5
    have hnsy := hoy.out.ns
    rw [hEy.out] at hnsy
    have hsw := jswap_any g _ g J _ _ Y _ hYg.out (by rw [hny.out]; omega) w5b hD5b hJ5b hJg hnsy
    rw [swap_fused (by omega)] at hsw
    replace hsw := Lib.hid hsw
    clear hnsy hc5 ht5 hJ5b hD5b hD5 hJ5
    go_wp2_with fail
    refine hsw.out.mono ?_
    clear hsw
    rintro e w6 ⟨rfl, hD6, hJ6, ht6⟩
    replace hB := Lib.hid (hB.out.trans (ht6.below (by have := Below.size hB.out; rw [hN.out] at this; exact this)))
    have ho := ON.tchg hox holdx.out (by unfold Gr; rw [hN.out]; exact hB.out) ht6
    clear hJ6 ht6 hox hoy
    have hcr := Lib.hid (crash_any g _ g _ keep hkp _ hD6)
    replace hD6 := Lib.hid hD6
    go_wp2_with fail
    refine hcr.out.mono ?_
    clear hcr
    rintro e w7 ⟨rfl, hD7, hc7⟩
    rw [crash_dw] at hD7
    have ht7 := Chg.tchg hD6.out hc7
    replace hB := Lib.hid (hB.out.trans (ht7.below (by have := Below.size hB.out; rw [hN.out] at this; exact this)))
    replace ho := ON.tchg ho holdx.out (by unfold Gr; rw [hN.out]; exact hB.out) ht7
    have hopA := Lib.hid (open_any g _ g _ w7 hD7)
    replace hD7 := Lib.hid hD7
    clear hc7 ht7 hD6
    go_wp2_with fail
    refine hopA.out.mono ?_
    clear hopA
    rintro e w8 ⟨hD8, hu8, hc8⟩
    rw [opS_dw hXg.out] at hD8 hc8
    rw [show (dw (framesB X) false).c = framesB X from rfl, scan_whole hXg.out] at hc8
    rcases hc8 with ⟨-, J8, u8, E8, rfl, hE8, ho8, hJ8, -⟩ | ⟨hne, -⟩
    case inr => exact absurd rfl hne
    have ht8 := Upd.tchg hD7.out hu8
    replace hB := Lib.hid (hB.out.trans (ht8.below (by have := Below.size hB.out; rw [hN.out] at this; exact this)))
    replace ho := ON.tchg ho holdx.out (by unfold Gr; rw [hN.out]; exact hB.out) ht8
    have hn8 := ho8.ns
    rw [hE8] at hn8
    have hns := ho.out.ns
    rw [hEx.out] at hns
    have hfr := Lib.hid (frames_any X _ hXg.out (by rw [hnx.out]; omega) w8 hns)
    obtain ⟨A8, c8, rfl, -⟩ := ho8.form
    obtain ⟨m8, hm8⟩ : ∃ m, E8.length = m := ⟨_, rfl⟩
    rw [hm8] at hn8 ⊢
    obtain ⟨FB, hFB⟩ : ∃ FB, framesB X = FB := ⟨_, rfl⟩
    rw [hFB] at hfr hJ8
    obtain ⟨ps, hps⟩ : ∃ ps, FB.length = ps := ⟨_, rfl⟩
    simp only at hJ8
    rw [hps] at hJ8
    replace hJ8 := Lib.hid hJ8
    replace hps := Lib.hid hps
    replace hFB := Lib.hid hFB
    replace hm8 := Lib.hid hm8
    replace hn8 := Lib.hid hn8
    replace hns := Lib.hid hns
    clear hD8 hu8 hE8 ho8 ht8 hD7 ho
    go_wp2_with fail
    refine hfr.out.mono ?_
    clear hfr
    rintro e w9 ⟨v9, a9, rfl, ho9, -, hg9⟩
    obtain ⟨A9, c9, rfl, -⟩ := ho9.form
    rw [hps.out]
    replace hB := Lib.hid (hB.out.trans (Below.mono hg9 (by have := Below.size hB.out; rw [hN.out] at this; exact this)))
    replace hns := NsV.gr hg9 hns
    replace hn8 := NsV.gr hg9 hn8
    replace hJ8 := Lib.hid (blk_below hJ8.out hg9)
    clear hg9 ho9
    go_wp2_with fail
    refine (awake_any _).mono ?_
    rintro e w10 ⟨rfl, hg10⟩
    replace hB := Lib.hid (hB.out.trans (Below.mono hg10 (by have := Below.size hB.out; rw [hN.out] at this; exact this)))
    replace hns := NsV.gr hg10 hns
    replace hn8 := NsV.gr hg10 hn8
    replace hJ8 := Lib.hid (blk_below hJ8.out hg10)
    have hal := alike_any X X _ _ w10 hn8.out hns.out
    rw [decide_eq_true (rfl : X = X)] at hal
    replace hal := Lib.hid hal
    clear hg10
    go_wp2_with fail
    refine hal.out.mono ?_
    clear hal
    rintro e w11 ⟨rfl, hg11⟩
    replace hB := Lib.hid (hB.out.trans (Below.mono hg11 (by have := Below.size hB.out; rw [hN.out] at this; exact this)))
    replace hJ8 := Lib.hid (blk_below hJ8.out hg11)
    have hjs := Lib.hid (jsize_any J8 g _ w11 hJ8.out)
    clear hg11
    go_wp2_with fail
    refine hjs.out.mono ?_
    clear hjs
    rintro e w12 ⟨rfl, hw12⟩
    rw [hw12]
    clear hw12
    go_wp2_with fail
    go_ret
    exact ⟨rfl, by unfold Gr; rw [hN.out]; exact hB.out⟩
end Go.Proofs.Ytgdbbjijneidaaa
