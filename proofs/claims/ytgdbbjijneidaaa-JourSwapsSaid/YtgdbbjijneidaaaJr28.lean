/- The law of the journal: the last notes before a crash. -/
import Derived.Test.YtgdbbjijneidaaaJr27
namespace Go.Proofs.Ytgdbbjijneidaaa
set_option linter.unusedVariables false
set_option linter.unusedSimpArgs false
open Go Go.RowKit
/-- the law's state: memory from g on is its own -/
structure LsSt (w0 : World) (g J : Nat) (E : List Ne) (v : Value) (s : DS) (z : Nat) (wr : World) : Prop where
  B : Below g w0 wr
  D : Dk wr g wr.heap.size g s
  Jv : Jn wr J g z
  Jg : g ≤ J
  O : ON E v g wr
  hold : ∀ x ∈ E, NeV x w0
  N : w0.heap.size = g
theorem LsSt.ns {w0 wr : World} {g J : Nat} {E : List Ne} {v : Value} {s : DS} {z : Nat} (h : LsSt w0 g J E v s z wr) : NsV (E.map (·.n)) v wr := h.O.ns
theorem LsSt.gw {w0 wr : World} {g J : Nat} {E : List Ne} {v : Value} {s : DS} {z : Nat} (h : LsSt w0 g J E v s z wr) : Gr w0 wr := by
  unfold Gr
  rw [h.N]
  exact h.B
theorem LsSt.add {w0 wr w' : World} {g J : Nat} {E : List Ne} {v : Value} {s s' : DS} {z z' : Nat} (h : LsSt w0 g J E v s z wr) (hD : Dk w' g w'.heap.size g s') (hJ : Jn w' J g z') (ht : TChg g jts wr w') : LsSt w0 g J E v s' z' w' := by
  have hB : Below g w0 w' := h.B.trans (ht.below (by have := h.D.bounds; omega))
  have hG : Gr w0 w' := by unfold Gr; rw [h.N]; exact hB
  exact ⟨hB, hD, hJ, h.Jg, (ON.tchg (Lib.hid h.O) h.hold hG ht).out, h.hold, h.N⟩
theorem ls_z {G : List Nt} {F k : Nat} {n : Nt} (hk : G[k]? = some n) (hl : (framesB G).length ≤ 262144) (hF : 2 * k + 2 ≤ F) : adZ (lsS G F k) (frameB (encN n)) (PN G k) = PN G (k + 1) := by
  unfold adZ
  rw [ls_step hk hl hF, if_pos rfl]
  unfold PN
  rw [fr_step hk, List.length_append]
theorem opS_wipe : opS DS.wipe = (0, DS.wipe) := by
  unfold opS
  have : scanN DS.wipe.c = ([], 0) := scan_nil
  rw [this, if_neg (by decide)]
theorem fuse_ls (G : List Nt) (F : Nat) : DS.wipe.fuse (F : Int) = lsS G F 0 := by
  unfold DS.fuse DS.wipe lsS PN
  have h1 : max (F : Int) 0 = (F : Int) := by omega
  have h2 : (F : Int) - 2 * ((0 : Nat) : Int) = (F : Int) := by omega
  simp only [h1, h2, List.take_zero]
  rfl
set_option maxHeartbeats 8000000 in
set_option maxRecDepth 20000 in
theorem jourLasts_any (L : List Nt) (v : Value) (fz : Nat) (hfz : fz ≤ 255) (keep : Int) (hkp : -9223372036854775808 ≤ keep ∧ keep ≤ 9223372036854775807) (w : World) (h : NsV L v w) :
    Calls Try.prog 11 #[v, .int .u8 fz, .int .i64 keep] w fun e w' => e = .returned (.bool true) ∧ Gr w w' := by
  obtain ⟨A, c, rfl, -, -⟩ := h.len
  obtain ⟨n0, hn0⟩ : ∃ n, L.length = n := ⟨_, rfl⟩
  rw [hn0] at h ⊢
  replace hn0 := Lib.hid hn0
  obtain ⟨F, hF0⟩ : ∃ F, fz % 30 = F := ⟨_, rfl⟩
  have hF30 : F < 30 := by rw [← hF0]; exact Nat.mod_lt _ (by omega)
  have q1 : ((fz : Int)).tmod 30 = (F : Int) := by
    rw [← hF0, Int.tmod_eq_emod_of_nonneg (by omega)]
    simp
  replace hF0 := Lib.hid hF0
  replace h := Lib.hid h
  go_enter Try.func11, Try.ntmps11
  go_wp2_with fail
  refine (dnew_any w).mono ?_
  rintro e w1 ⟨rfl, hD1, hb1⟩
  obtain ⟨g, hN⟩ : ∃ g, w.heap.size = g := ⟨_, rfl⟩
  rw [hN] at hD1 hb1 ⊢
  have hop := Lib.hid (open_any g _ g _ w1 hD1)
  replace hN := Lib.hid hN
  replace hb1 := Lib.hid hb1
  replace hD1 := Lib.hid hD1
  go_wp2_with fail
  refine hop.out.mono ?_
  clear hop
  rintro e w2 ⟨hD2, hu2, hc2⟩
  rw [opS_wipe] at hD2 hc2
  rcases hc2 with ⟨-, J, u, E0, rfl, -, -, hJ, hJN⟩ | ⟨hne, -⟩
  case inr => exact absurd rfl hne
  have ht2 := Upd.tchg hD1.out hu2
  have hb2 := Lib.hid (hb1.out.trans (ht2.below (by have := Below.size hb1.out; rw [hN.out] at this; exact this)))
  have hJg : g ≤ J := by have := Below.size hb1.out; rw [hN.out] at this; omega
  have hfu := Lib.hid (fuse_any g _ g _ (F : Int) (by omega) w2 hD2)
  have hJ0 : (scanN DS.wipe.c).2 = 0 := by rw [show scanN DS.wipe.c = ([], 0) from scan_nil]
  rw [hJ0] at hJ
  replace hJ := Lib.hid hJ
  replace hD2 := Lib.hid hD2
  clear hu2 ht2 hJ0 hJN
  go_wp2_with fail
  refine hfu.out.mono ?_
  clear hfu
  rintro e w3 ⟨rfl, hD3, hc3⟩
  have hJD := Jn.ne hJ.out hD2.out
  replace hJ := Lib.hid (hc3.block hJ.out hJD (by decide))
  have ht3 := Chg.tchg hD2.out hc3
  have hb3 := Lib.hid (hb2.out.trans (ht3.below (by have := Below.size hb2.out; rw [hN.out] at this; exact this)))
  have hsm := Lib.hid (someO_any L (.slice A n0 c) 14 (by decide) w w3 (by unfold Gr; rw [hN.out]; exact hb3.out) h.out)
  replace hD3 := Lib.hid hD3
  clear hc3 ht3 hD2 hD1 hJD
  go_wp2_with fail
  refine hsm.out.mono ?_
  clear hsm
  rintro e w4 ⟨v4, E, rfl, hE, ho4, hg4, hold⟩
  obtain ⟨G, hG⟩ : ∃ G, (L.take 14).filter goodN = G := ⟨_, rfl⟩
  rw [hG] at hE
  have hGg : ∀ n ∈ G, goodN n = true := fun n hn => by
    rw [← hG] at hn
    exact (List.mem_filter.mp hn).2
  have hGl : G.length ≤ 14 := by
    rw [← hG]
    refine Nat.le_trans (List.length_filter_le _ _) ?_
    rw [List.length_take]
    omega
  have hfl := framesB_len hGg
  obtain ⟨n, hs⟩ : ∃ n, G.length = n := ⟨_, rfl⟩
  rw [hs] at hfl hGl
  have hEl : E.length = n := by have := congrArg List.length hE; rw [List.length_map, hs] at this; exact this
  obtain ⟨Av, cv, rfl, hc1, hc2⟩ := ho4.form
  rw [hEl] at ho4 hc1 ⊢
  have hs3 : g ≤ w3.heap.size := by have := Below.size hb3.out; rw [hN.out] at this; exact this
  have hst0 : LsSt w g J E (.slice Av n cv) (lsS G F 0) (PN G 0) w4 := by
    have hD4 := (hD3.out.below hg4).more (by have := hD3.out.bounds; have := Below.size hg4; omega) (Nat.le_refl _)
    rw [fuse_ls G F] at hD4
    exact ⟨hb3.out.trans (Below.mono hg4 hs3), hD4, blk_below hJ.out hg4, hJg, ⟨row_more ho4.row hs3, ho4.vs, ho4.ap⟩, hold, hN.out⟩
  replace hst0 := Lib.hid hst0
  replace hE := Lib.hid hE
  replace hs := Lib.hid hs
  replace hEl := Lib.hid hEl
  replace hG := Lib.hid hG
  have hGg := Lib.hid hGg
  clear hD3 hJ hb3 hb2 hb1 ho4 hg4 hold hc2 hs3
  go_wp2_with fail
  go_loopw [12] (fun i wr => ∃ k : Nat, i = .int .i64 k ∧ k ≤ n ∧ 2 * k ≤ F ∧ Hid (LsSt w g J E (.slice Av n cv) (lsS G F k) (PN G k) wr)) (fun i _ => n - (intOf i).toNat)
  case atStart => exact ⟨0, rfl, Nat.zero_le _, Nat.zero_le _, hst0⟩
  case round =>
    clear hst0
    obtain ⟨k, rfl, hk, hkF, hst⟩ := hrel
    have hGg := hGg.out
    by_cases hlt : k < n
    · have hns := hst.out.ns
      rw [hE.out] at hns
      obtain ⟨b, o, xn, xA, xc, xA2, xc2, rfl, hq, hxv, hbl, hcx⟩ := hns.get (i := k) (by rw [hs.out]; exact hlt)
      obtain ⟨x0, x1, x2, x3, x4, x5, x6, x7⟩ := hcx wr (Gr.refl _)
      have i1 : (k : Int) < (n : Int) := by omega
      have hPle := PN_le G k
      have had := add_any g _ g J (lsS G F k) (PN G k) xn _ wr hst.out.D hst.out.Jv hst.out.Jg hxv.ntv (hGg xn (List.mem_of_getElem? hq)) (by omega)
      unfold Ne.agg Nt.agg at had
      simp only at had
      by_cases hF2 : 2 * k + 2 ≤ F
      · rw [ls_step hq (by omega) hF2, ls_z hq (by omega) hF2] at had
        replace had := Lib.hid had
        replace hq := Lib.hid hq
        clear hcx hxv hns hPle hbl
        go_wp2_with fail
        refine had.out.mono ?_
        clear had
        rintro e w5 ⟨rfl, hD5, hJ5, ht5⟩
        have hst5 := Lib.hid (hst.out.add hD5 hJ5 ht5)
        clear hD5 hJ5 ht5
        go_wp2_with fail
        go_roundw
        case rel => exact ⟨k + 1, by go_num, by omega, by omega, hst5⟩
        case measure => simp [intOf]; omega
      · obtain ⟨hR1, hend⟩ := ls_stop (F := F) hq (by omega) hkF (by omega)
        obtain ⟨R, hR⟩ : ∃ R, adS (lsS G F k) (frameB (encN xn)) = R := ⟨_, rfl⟩
        obtain ⟨z5, hz5⟩ : ∃ z, adZ (lsS G F k) (frameB (encN xn)) (PN G k) = z := ⟨_, rfl⟩
        rw [hR] at hR1 hend had
        rw [hz5, hR1] at had
        replace had := Lib.hid had
        replace hend := Lib.hid hend
        replace hq := Lib.hid hq
        replace hR := Lib.hid hR
        replace hz5 := Lib.hid hz5
        replace hR1 := Lib.hid hR1
        clear hcx hxv hns hPle hbl
        go_wp2_with fail
        refine had.out.mono ?_
        clear had x0 x1 x2 x3 x4 x5 x6 x7
        rintro e w4b ⟨rfl, hD5, hJ5, ht5⟩
        replace hst := Lib.hid (hst.out.add hD5 hJ5 ht5)
        clear hD5 hJ5 ht5
        have hok := hst.out.D.ok
        obtain ⟨i, hi, hil, hsc1, hop1, hsc2, hop2⟩ := ls_end hGg (by omega) (k := k) (by rw [hs.out]; omega) hok hend.out keep
        have hcr := Lib.hid (crash_any g _ g _ keep hkp _ hst.out.D)
        have hD := Lib.hid hst.out.D
        have hB := Lib.hid hst.out.B
        have ho := Lib.hid hst.out.O
        have hold := Lib.hid hst.out.hold
        rw [hs.out] at hi hil
        replace hsc1 := Lib.hid hsc1
        replace hop1 := Lib.hid hop1
        replace hsc2 := Lib.hid hsc2
        replace hop2 := Lib.hid hop2
        replace hi := Lib.hid hi
        clear hok hst
        have r1 : (k : Int) < (n : Int) := by omega
        have r3 : ((F : Int)).tdiv 2 = (k : Int) := by rw [Int.tdiv_eq_ediv_of_nonneg (by omega)]; omega
        go_wp2_with fail
        refine hcr.out.mono ?_
        clear hcr
        rintro e w5 ⟨rfl, hD5, hc5⟩
        have ht5 := Chg.tchg hD.out hc5
        replace hB := Lib.hid (hB.out.trans (ht5.below (by have := Below.size hB.out; rw [hN.out] at this; exact this)))
        replace ho := ON.tchg ho hold.out (by unfold Gr; rw [hN.out]; exact hB.out) ht5
        have hopA := Lib.hid (open_any g _ g _ w5 hD5)
        replace hD5 := Lib.hid hD5
        clear hc5 ht5 hD
        go_wp2_with fail
        refine hopA.out.mono ?_
        clear hopA
        rintro e w6 ⟨hD6, hu6, hc6⟩
        rcases hc6 with ⟨-, J6, u6, E6, rfl, hE6, ho6, -, -⟩ | ⟨hne, -⟩
        case inr => exact absurd hop1.out hne
        have ht6 := Upd.tchg hD5.out hu6
        replace hB := Lib.hid (hB.out.trans (ht6.below (by have := Below.size hB.out; rw [hN.out] at this; exact this)))
        replace ho := ON.tchg ho hold.out (by unfold Gr; rw [hN.out]; exact hB.out) ht6
        have hopB := Lib.hid (open_any g _ g _ w6 hD6)
        rw [hsc1.out] at hE6
        obtain ⟨A6, c6, rfl, -⟩ := ho6.form
        replace hD6 := Lib.hid hD6
        replace ho6 := Lib.hid ho6
        replace hE6 := Lib.hid hE6
        clear hu6 ht6 hD5
        go_wp2_with fail
        refine hopB.out.mono ?_
        clear hopB
        rintro e w7 ⟨hD7, hu7, hc7⟩
        rcases hc7 with ⟨-, J7, u7, E7, rfl, hE7, ho7, -, -⟩ | ⟨hne, -⟩
        case inr => exact absurd (by rw [hop2.out]) hne
        have ht7 := Upd.tchg hD6.out hu7
        replace hB := Lib.hid (hB.out.trans (ht7.below (by have := Below.size hB.out; rw [hN.out] at this; exact this)))
        replace ho := ON.tchg ho hold.out (by unfold Gr; rw [hN.out]; exact hB.out) ht7
        replace ho6 := Lib.hid (ON.updD hD6.out ho6.out hu7)
        rw [hsc2.out] at hE7
        have hn6 := ho6.out.ns
        rw [hE6.out] at hn6
        have hn7 := ho7.ns
        rw [hE7] at hn7
        have hns := ho.out.ns
        rw [hE.out] at hns
        have hl6 : E6.length = i := by have := congrArg List.length hE6.out; rw [List.length_map, List.length_take, hs.out] at this; omega
        rw [hl6] at hn6
        rw [hl6]
        obtain ⟨A7, c7, rfl, -⟩ := ho7.form
        have hal := alike_any (G.take i) (G.take i) _ _ w7 hn6 hn7
        rw [decide_eq_true (rfl : G.take i = G.take i)] at hal
        replace hal := Lib.hid hal
        replace hn6 := Lib.hid hn6
        replace hns := Lib.hid hns
        replace hl6 := Lib.hid hl6
        clear hn7 hE7 ho7 hD7 hu7 ht7 ho6 hE6 hD6 ho
        go_wp2_with fail
        refine hal.out.mono ?_
        clear hal
        rintro e w7b ⟨rfl, hg7⟩
        replace hB := Lib.hid (hB.out.trans (Below.mono hg7 (by have := Below.size hB.out; rw [hN.out] at this; exact this)))
        replace hns := NsV.gr hg7 hns
        replace hn6 := NsV.gr hg7 hn6
        clear hg7
        rcases hi.out with rfl | ⟨rfl, -⟩
        · have r2 : (i : Int) ≤ (cv : Int) := by omega
          have r4 : ¬ ((i : Int) = (i : Int) + 1) := by omega
          have r5 : ((i : Int) == (i : Int) + 1) = false := beq_eq_false_iff_ne.mpr r4
          go_wp2_with fail
          refine (awake_any _).mono ?_
          rintro e w8 ⟨rfl, hg8⟩
          replace hB := Lib.hid (hB.out.trans (Below.mono hg8 (by have := Below.size hB.out; rw [hN.out] at this; exact this)))
          replace hns := NsV.gr hg8 hns
          replace hn6 := NsV.gr hg8 hn6
          have hal := alike_any (G.take (i)) (G.take (i)) _ _ w8 hn6.out (hns.out.cut (k := i) (by rw [hs.out]; omega))
          rw [decide_eq_true (rfl : G.take (i) = G.take (i))] at hal
          replace hal := Lib.hid hal
          
          clear hg8
          go_wp2_with fail
          refine hal.out.mono ?_
          rintro e w9 ⟨rfl, hg9⟩
          replace hB := Lib.hid (hB.out.trans (Below.mono hg9 (by have := Below.size hB.out; rw [hN.out] at this; exact this)))
          go_wp2_with fail
          go_ret
          exact ⟨rfl, by unfold Gr; rw [hN.out]; exact hB.out⟩
        · have r2 : (k : Int) + 1 ≤ (cv : Int) := by omega
          have r4 : (((k + 1 : Nat) : Int) == (k : Int) + 1) = true := beq_iff_eq.mpr (by omega)
          have r5 : ((k + 1 : Nat) : Int) = (k : Int) + 1 := by omega
          have r6 : ((k : Int) + 1).toNat = k + 1 := by omega
          go_wp2_with fail
          refine (awake_any _).mono ?_
          rintro e w8 ⟨rfl, hg8⟩
          replace hB := Lib.hid (hB.out.trans (Below.mono hg8 (by have := Below.size hB.out; rw [hN.out] at this; exact this)))
          replace hns := NsV.gr hg8 hns
          replace hn6 := NsV.gr hg8 hn6
          have hal := alike_any (G.take (k + 1)) (G.take (k + 1)) _ _ w8 hn6.out (hns.out.cut (k := k + 1) (by rw [hs.out]; omega))
          rw [decide_eq_true (rfl : G.take (k + 1) = G.take (k + 1))] at hal
          replace hal := Lib.hid hal
          
          clear hg8
          go_wp2_with fail
          refine hal.out.mono ?_
          rintro e w9 ⟨rfl, hg9⟩
          replace hB := Lib.hid (hB.out.trans (Below.mono hg9 (by have := Below.size hB.out; rw [hN.out] at this; exact this)))
          go_wp2_with fail
          go_ret
          exact ⟨rfl, by unfold Gr; rw [hN.out]; exact hB.out⟩
    · obtain rfl : k = n := by omega
      have hend := Lib.hid (ls_all G F k)
      have hok := hst.out.D.ok
      obtain ⟨i, hi, hil, hsc1, hop1, hsc2, hop2⟩ := ls_end hGg (by omega) (k := k) (by rw [hs.out]; omega) hok hend.out keep
      have hcr := Lib.hid (crash_any g _ g _ keep hkp _ hst.out.D)
      have hD := Lib.hid hst.out.D
      have hB := Lib.hid hst.out.B
      have ho := Lib.hid hst.out.O
      have hold := Lib.hid hst.out.hold
      rw [hs.out] at hi hil
      replace hsc1 := Lib.hid hsc1
      replace hop1 := Lib.hid hop1
      replace hsc2 := Lib.hid hsc2
      replace hop2 := Lib.hid hop2
      replace hi := Lib.hid hi
      clear hok hst
      have r1 : ¬ ((k : Int) < (k : Int)) := by omega
      go_wp2_with fail
      refine hcr.out.mono ?_
      clear hcr
      rintro e w5 ⟨rfl, hD5, hc5⟩
      have ht5 := Chg.tchg hD.out hc5
      replace hB := Lib.hid (hB.out.trans (ht5.below (by have := Below.size hB.out; rw [hN.out] at this; exact this)))
      replace ho := ON.tchg ho hold.out (by unfold Gr; rw [hN.out]; exact hB.out) ht5
      have hopA := Lib.hid (open_any g _ g _ w5 hD5)
      replace hD5 := Lib.hid hD5
      clear hc5 ht5 hD
      go_wp2_with fail
      refine hopA.out.mono ?_
      clear hopA
      rintro e w6 ⟨hD6, hu6, hc6⟩
      rcases hc6 with ⟨-, J6, u6, E6, rfl, hE6, ho6, -, -⟩ | ⟨hne, -⟩
      case inr => exact absurd hop1.out hne
      have ht6 := Upd.tchg hD5.out hu6
      replace hB := Lib.hid (hB.out.trans (ht6.below (by have := Below.size hB.out; rw [hN.out] at this; exact this)))
      replace ho := ON.tchg ho hold.out (by unfold Gr; rw [hN.out]; exact hB.out) ht6
      have hopB := Lib.hid (open_any g _ g _ w6 hD6)
      rw [hsc1.out] at hE6
      obtain ⟨A6, c6, rfl, -⟩ := ho6.form
      replace hD6 := Lib.hid hD6
      replace ho6 := Lib.hid ho6
      replace hE6 := Lib.hid hE6
      clear hu6 ht6 hD5
      go_wp2_with fail
      refine hopB.out.mono ?_
      clear hopB
      rintro e w7 ⟨hD7, hu7, hc7⟩
      rcases hc7 with ⟨-, J7, u7, E7, rfl, hE7, ho7, -, -⟩ | ⟨hne, -⟩
      case inr => exact absurd (by rw [hop2.out]) hne
      have ht7 := Upd.tchg hD6.out hu7
      replace hB := Lib.hid (hB.out.trans (ht7.below (by have := Below.size hB.out; rw [hN.out] at this; exact this)))
      replace ho := ON.tchg ho hold.out (by unfold Gr; rw [hN.out]; exact hB.out) ht7
      replace ho6 := Lib.hid (ON.updD hD6.out ho6.out hu7)
      rw [hsc2.out] at hE7
      have hn6 := ho6.out.ns
      rw [hE6.out] at hn6
      have hn7 := ho7.ns
      rw [hE7] at hn7
      have hns := ho.out.ns
      rw [hE.out] at hns
      have hl6 : E6.length = i := by have := congrArg List.length hE6.out; rw [List.length_map, List.length_take, hs.out] at this; omega
      rw [hl6] at hn6
      rw [hl6]
      obtain ⟨A7, c7, rfl, -⟩ := ho7.form
      have hal := alike_any (G.take i) (G.take i) _ _ w7 hn6 hn7
      rw [decide_eq_true (rfl : G.take i = G.take i)] at hal
      replace hal := Lib.hid hal
      replace hn6 := Lib.hid hn6
      replace hns := Lib.hid hns
      replace hl6 := Lib.hid hl6
      clear hn7 hE7 ho7 hD7 hu7 ht7 ho6 hE6 hD6 ho
      go_wp2_with fail
      refine hal.out.mono ?_
      clear hal
      rintro e w7b ⟨rfl, hg7⟩
      replace hB := Lib.hid (hB.out.trans (Below.mono hg7 (by have := Below.size hB.out; rw [hN.out] at this; exact this)))
      replace hns := NsV.gr hg7 hns
      replace hn6 := NsV.gr hg7 hn6
      clear hg7
      obtain rfl : i = k := by rcases hi.out with h | ⟨-, h⟩ <;> omega
      have r2 : (i : Int) ≤ (cv : Int) := by omega
      go_wp2_with fail
      refine (awake_any _).mono ?_
      rintro e w8 ⟨rfl, hg8⟩
      replace hB := Lib.hid (hB.out.trans (Below.mono hg8 (by have := Below.size hB.out; rw [hN.out] at this; exact this)))
      replace hns := NsV.gr hg8 hns
      replace hn6 := NsV.gr hg8 hn6
      have hal := alike_any (G.take (i)) (G.take (i)) _ _ w8 hn6.out (hns.out.cut (k := i) (by rw [hs.out]; omega))
      rw [decide_eq_true (rfl : G.take (i) = G.take (i))] at hal
      replace hal := Lib.hid hal

      clear hg8
      go_wp2_with fail
      refine hal.out.mono ?_
      rintro e w9 ⟨rfl, hg9⟩
      replace hB := Lib.hid (hB.out.trans (Below.mono hg9 (by have := Below.size hB.out; rw [hN.out] at this; exact this)))
      go_wp2_with fail
      go_ret
      exact ⟨rfl, by unfold Gr; rw [hN.out]; exact hB.out⟩
end Go.Proofs.Ytgdbbjijneidaaa
