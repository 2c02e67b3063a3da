/- The law of the journal: any acts. -/
import Derived.Test.YtgdbbjijneidaaaJrA
import Derived.Test.YtgdbbjijneidaaaOpenA
import Derived.Deep.CutBlock
namespace Go.Proofs.Ytgdbbjijneidaaa
set_option linter.unusedVariables false
set_option linter.unusedSimpArgs false
open Go Go.RowKit
theorem ActsN.at_ {w w' : World} {A : Option Addr} {n : Nat} {f : Nat → ActN} (h : ActsN w A n f) (hg : Gr w w') {i : Nat} (hi : i < n) :
    ∃ b o, A = some ⟨b, o, none⟩ ∧ w'.cell? ⟨b, o + i * 11, none⟩ = some (.int .u8 (U (f i).d)) ∧ w'.cell? ⟨b, o + i * 11 + 1, none⟩ = some (.int .i64 (f i).z) ∧ w'.cell? ⟨b, o + i * 11 + 2, none⟩ = some (.int .i64 (f i).x.n.kind) ∧ w'.cell? ⟨b, o + i * 11 + 3, none⟩ = some (.string (bs (f i).x.n.key)) ∧ w'.cell? ⟨b, o + i * 11 + 4, none⟩ = some (.int .i64 (f i).x.n.gen) ∧ w'.cell? ⟨b, o + i * 11 + 5, none⟩ = some (.int .i64 (f i).x.n.cart) ∧ w'.cell? ⟨b, o + i * 11 + 6, none⟩ = some (.slice (f i).x.A (f i).x.n.data.length (f i).x.c) ∧ w'.cell? ⟨b, o + i * 11 + 7, none⟩ = some (.string (bs (f i).x.n.sum)) ∧ w'.cell? ⟨b, o + i * 11 + 8, none⟩ = some (.int .i64 (f i).x.n.size) ∧ w'.cell? ⟨b, o + i * 11 + 9, none⟩ = some (.slice (f i).x.A2 (f i).x.n.places.length (f i).x.c2) ∧ w'.cell? ⟨b, o + i * 11 + 10, none⟩ = some (.slice (f i).A (f i).m (f i).c) := by
  obtain ⟨b, o, rfl, hb, hc⟩ := h.1 (by omega)
  have q := fun j u hu => (cellGr hg (a := ⟨b, o + i * 11 + j, none⟩) hb).trans (hc i hi j u hu)
  exact ⟨b, o, rfl, q 0 _ rfl, q 1 _ rfl, q 2 _ rfl, q 3 _ rfl, q 4 _ rfl, q 5 _ rfl, q 6 _ rfl, q 7 _ rfl, q 8 _ rfl, q 9 _ rfl, q 10 _ rfl⟩
theorem rfu_any (gr : Nat) (s : DS) (z : Int) (hz : I64 z) (w : World) (h : RkS w gr s) :
    Calls Try.prog 33 #[.pointer (some ⟨gr, 0, none⟩), .int .i64 z] w fun e w' => e = .returned (.tuple #[]) ∧ RkS w' gr (s.fuse z) ∧ UpdG gr w w' :=
  (rfuse_any gr _ _ _ z hz _ h).mono fun e w' h => ⟨h.1, h.2.1, h.2.2⟩
theorem rcr_any (gr : Nat) (s : DS) (hok : s.Ok) (z : Int) (hz : I64 z) (w : World) (h : RkS w gr s) :
    Calls Try.prog 35 #[.pointer (some ⟨gr, 0, none⟩), .int .i64 z] w fun e w' => e = .returned (.tuple #[]) ∧ RkS w' gr (s.crash z) ∧ UpdG gr w w' :=
  (rcrash_any gr _ _ _ z hz (by rw [(tl_len s hok).2.2]; exact hok.len) (s.kept z - s.dur) (by have h1 := (DS.kept_int s hok z).1; have h2 := (DS.kept_int s hok z).2.2; rw [(tl_len s hok).2.1]; have := hok.dur; omega) _ h).mono fun e w' h => ⟨h.1, crash_rk s z hok h.2.1, h.2.2⟩
theorem NsV.nil_ (w : World) : NsV [] (.slice none 0 0) w := ⟨[], none, 0, rfl, rfl, Nat.le_refl _, Nat.zero_le _, fun h => absurd h (by simp), fun x hx => (by cases hx)⟩
theorem cells10 {w : World} {g : Nat} {T : TypeId} {v0 v1 v2 v3 v4 v5 v6 v7 v8 v9 v10 : Value} (hh : w.heap[g]? = some (.cells #[v0, v1, v2, v3, v4, v5, v6, v7, v8, v9, v10] T (0, 0))) :
    w.cell? ⟨g, 2, none⟩ = some v2 ∧ w.cell? ⟨g, 3, none⟩ = some v3 ∧ w.cell? ⟨g, 4, none⟩ = some v4 ∧ w.cell? ⟨g, 5, none⟩ = some v5 ∧ w.cell? ⟨g, 6, none⟩ = some v6 ∧ w.cell? ⟨g, 7, none⟩ = some v7 ∧ w.cell? ⟨g, 8, none⟩ = some v8 ∧ w.cell? ⟨g, 9, none⟩ = some v9 :=
  ⟨blk_cell hh rfl, blk_cell hh rfl, blk_cell hh rfl, blk_cell hh rfl, blk_cell hh rfl, blk_cell hh rfl, blk_cell hh rfl, blk_cell hh rfl⟩
set_option maxHeartbeats 8000000 in
set_option maxRecDepth 20000 in
theorem jourPlays_any (B : Option Addr) (nb cb : Nat) (b : List UInt8) (hnb : b.length = nb) (hbc : nb ≤ cb) (hbm : cb ≤ maxLen) (A : Option Addr) (n c : Nat) (f : Nat → ActN) (w : World) (hb : Rd w w.heap.size B b) (hA : ActsN w A n f) :
    Calls Try.prog 10 #[.slice B nb cb, .slice A n c] w fun e w' => e = .returned (.bool true) ∧ Gr w w' := by
  replace hA := Lib.hid hA
  replace hb := Lib.hid hb
  replace hnb := Lib.hid hnb
  clear hbc hbm
  go_enter Try.func10, Try.ntmps10
  go_wp2_with fail
  refine (dnew_any w).mono ?_
  rintro e w1 ⟨rfl, hD1, hb1⟩
  obtain ⟨g, hN⟩ : ∃ g, w.heap.size = g := ⟨_, rfl⟩
  rw [hN] at hD1 hb1 ⊢
  replace hD1 := Lib.hid hD1
  replace hb1 := Lib.hid hb1
  replace hN := Lib.hid hN
  go_wp2_with fail
  refine (rnew_any w1).mono ?_
  rintro e w2 ⟨rfl, hR2, hgr2, hb2⟩
  have hst : Hid (∃ s : DS, s.fused = false ∧ s.c.length ≤ 262144 ∧ BSt w g w1.heap.size s s w2) := Lib.hid (by
    have hs1 : g < w1.heap.size := by have := hD1.out.bounds; omega
    exact ⟨DS.wipe, rfl, Nat.zero_le _, ⟨by unfold Gr; rw [hN.out]; exact hb1.out.trans (Below.mono hb2 (Nat.le_of_lt hs1)), by rw [hN.out]; exact (hD1.out.below hb2).more (by have := hD1.out.bounds; omega) (Nat.le_refl _), hR2, by rw [hN.out]; exact Nat.le_of_lt hs1⟩⟩)
  obtain ⟨gr, hgr⟩ : ∃ gr, w1.heap.size = gr := ⟨_, rfl⟩
  rw [hgr] at hst ⊢
  clear hgr hR2 hgr2 hb2 hD1 hb1
  go_upto_if 20 with (fail)
  go_cut [] from 18 to 26 (fun wx => Hid (∃ s : DS, s.fused = false ∧ s.c.length ≤ 262144 ∧ BSt w g gr s s wx))
  case first =>
    by_cases hsm : nb < 3000
    · have d1 : (nb : Int) < 3000 := by omega
      obtain ⟨s, hf, hl, hB⟩ := hst.out
      have hb2 := Lib.hid (hb.out.up hB.B)
      have hap := append_any _ _ g s B nb cb b hnb.out (by omega) w2 hB.D hb2.out
      have hrd : ∀ w', Gr w w' → Rd w' w'.heap.size B b := fun w' hg => hb.out.up hg
      have hok := hB.D.ok
      have hR := hB.R
      have hapr := fun w' hg (hr : RkS w' gr s) => rapp_any gr s hok B nb cb b hnb.out (by omega) w' hr (hrd w' hg) (Rd.ne_rk hr (hrd w' hg))
      have hf2 : (s.append b).2.fused = false := by
        unfold DS.append DS.op
        rw [hf]
        split
        · exact hf
        · exact hf
      replace hap := Lib.hid hap
      replace hapr := Lib.hid hapr
      replace hB := Lib.hid hB
      replace hf2 := Lib.hid hf2
      clear hsm hb2 hrd hR hf hl hst hok
      go_wp2_with fail
      refine hap.out.mono ?_
      clear hap
      rintro e w3 ⟨rfl, hD3, hc3⟩
      have hB3 := hB.out.prog hD3 (Chg.tchg hB.out.D hc3)
      replace hapr := Lib.hid (hapr.out w3 hB3.B hB3.R)
      replace hB3 := Lib.hid hB3
      clear hD3 hc3
      go_wp2_with fail
      refine hapr.out.mono ?_
      clear hapr
      rintro e w4 ⟨rfl, hR4, hu4⟩
      have hB4 := Lib.hid (hB3.out.updG hR4 hu4)
      clear hR4 hu4
      go_wp2_with fail
      go_meet
      case rel => exact Lib.hid ⟨_, hf2.out, hB4.out.D.ok.len, hB4.out⟩
    · have d1 : ¬ ((nb : Int) < 3000) := by omega
      clear hsm
      go_wp2_with fail
      go_meet
      case rel => exact hst
  case rest =>
    clear hst hnb hb
    obtain ⟨s, hf, hl, hB⟩ := hcut.out
    have hz := opS_free hB.D.ok hf
    have hop := Lib.hid (open_any _ _ g s wc hB.D)
    have hok := Lib.hid hB.D.ok
    have hzl := opS_z hz
    replace hz := Lib.hid hz
    replace hB := Lib.hid hB
    clear hcut hf hl
    go_wp2_with fail
    refine hop.out.mono ?_
    clear hop
    rintro e w3 ⟨hD3, hu3, hc3⟩
    rcases hc3 with ⟨-, J, u, E, rfl, hE, ho, hJ, hJN⟩ | ⟨hne, -⟩
    case inr => exact absurd hz.out hne
    have hB3 := hB.out.prog hD3 (Upd.tchg hB.out.D hu3)
    obtain ⟨Au, mu, cu, rfl⟩ : ∃ A m c, u = .slice A m c := by obtain ⟨A, c, e, -⟩ := ho.form; exact ⟨A, _, c, e⟩
    have hro := Lib.hid (ropen_any gr s hok.out w3 hB3.R)
    have hJl : Hid (w.heap.size ≤ J) := Lib.hid (Nat.le_trans hB.out.lw hJN)
    replace hB3 := Lib.hid hB3
    replace ho := Lib.hid ho
    replace hJ := Lib.hid hJ
    replace hE := Lib.hid hE
    clear hD3 hu3 hJN
    go_wp2_with fail
    refine hro.out.mono ?_
    clear hro
    rintro e w4 ⟨hR4, hu4, hc4⟩
    rcases hc4 with ⟨-, K, u2, E2, rfl, hE2, ho2, hK, hKN⟩ | ⟨hne, -⟩
    case inr => exact absurd hz.out hne
    have hP4 : PSt w g gr J K (opS s).2 (opS s).2 (scanN s.c).2 (scanN s.c).2 w4 := by
      have ht := UpdG.tchg hB3.out.R hB3.out.grl hu4
      exact ⟨hB3.out.ref hR4 ht, ht.block hJ.out (by decide), hK, hJl.out, Nat.le_trans hB3.out.lw hKN⟩
    have ho4 := ON.updG hB3.out.R ho.out hu4
    have hn4 := ho4.ns
    rw [hE.out] at hn4
    have hn5 := ho2.ns
    rw [hE2] at hn5
    obtain ⟨A2, m2, c2, rfl⟩ : ∃ A m c, u2 = .slice A m c := by obtain ⟨A, c, e, -⟩ := ho2.form; exact ⟨A, _, c, e⟩
    have hal := alike_any _ _ _ _ w4 hn4 hn5
    rw [decide_eq_true (rfl : (scanN s.c).1 = (scanN s.c).1)] at hal
    replace hal := Lib.hid hal
    obtain ⟨s0, hs0⟩ : ∃ s0, (opS s).2 = s0 := ⟨_, rfl⟩
    obtain ⟨z0, hz0⟩ : ∃ z0, (scanN s.c).2 = z0 := ⟨_, rfl⟩
    rw [hs0, hz0] at hP4
    rw [hs0, hz0] at hzl
    replace hP4 := Lib.hid hP4
    clear hs0 hz0 hn4 hn5 ho4 hE2 ho2 hK hKN hR4 hu4 hB3 hB hJ hE ho hz hok hJl
    go_wp2_with fail
    refine hal.out.mono ?_
    clear hal
    rintro e w5 ⟨rfl, hg5⟩
    have hP5 := Lib.hid (hP4.out.gr hg5)
    clear hP4 hg5
    go_wp2_with fail
    go_loopg [7, 10, 13] 30 (fun gk jv kv iv wr => ∃ (i J K z : Nat) (s : DS), jv = .pointer (some ⟨J, 0, none⟩) ∧ kv = .pointer (some ⟨K, 0, none⟩) ∧ iv = .int .i64 i ∧ gk = 30 - i ∧ i ≤ 30 ∧ i ≤ n ∧ Hid (z ≤ s.c.length) ∧ Hid (PSt w g gr J K s s z z wr))
    case atStart => exact ⟨0, J, K, z0, s0, rfl, rfl, rfl, rfl, by omega, Nat.zero_le _, Lib.hid hzl, hP5⟩
    case round =>
      clear hP5 hzl
      obtain ⟨i, J, K, z, s, rfl, rfl, rfl, rfl, hi30, hin, hzl, hP⟩ := hrel
      by_cases hlt : i < n ∧ i < 30
      · obtain ⟨h1, h2⟩ := hlt
        obtain ⟨bb, oo, rfl, x0, x1, x2, x3, x4, x5, x6, x7, x8, x9, x10⟩ := hA.out.at_ hP.out.S.B h1
        obtain ⟨hz64, hxv, hLv⟩ := hA.out.2 i h1
        generalize f i = q at x0 x1 x2 x3 x4 x5 x6 x7 x8 x9 x10 hz64 hxv hLv
        obtain ⟨ad, az, ⟨xn, xA, xc, xA2, xc2⟩, aA, am, ac, aL⟩ := q
        dsimp only at x0 x1 x2 x3 x4 x5 x6 x7 x8 x9 x10 hz64 hxv hLv
        have i1 : (i : Int) < (n : Int) := by omega
        have i2 : (i : Int) < 30 := by omega
        replace hxv := Lib.hid hxv
        replace hLv := Lib.hid hLv
        have hga := Gr.alloc wr (.cells #[.int .u8 (U ad), .int .i64 az, .int .i64 xn.kind, .string (bs xn.key), .int .i64 xn.gen, .int .i64 xn.cart, .slice xA xn.data.length xc, .string (bs xn.sum), .int .i64 xn.size, .slice xA2 xn.places.length xc2, .slice aA am ac] 66)
        have hx := heap_alloc_new wr (.cells #[.int .u8 (U ad), .int .i64 az, .int .i64 xn.kind, .string (bs xn.key), .int .i64 xn.gen, .int .i64 xn.cart, .slice xA xn.data.length xc, .string (bs xn.sum), .int .i64 xn.size, .slice xA2 xn.places.length xc2, .slice aA am ac] 66)
        have hPa := hP.out.gr hga
        go_upto_region 13 with (fail)
        obtain ⟨wa, hwa⟩ : ∃ wa, wr.alloc (.cells #[.int .u8 (U ad), .int .i64 az, .int .i64 xn.kind, .string (bs xn.key), .int .i64 xn.gen, .int .i64 xn.cart, .slice xA xn.data.length xc, .string (bs xn.sum), .int .i64 xn.size, .slice xA2 xn.places.length xc2, .slice aA am ac] 66) = wa := ⟨_, rfl⟩
        obtain ⟨X, hX⟩ : ∃ X, wr.heap.size = X := ⟨_, rfl⟩
        rw [hwa] at hPa hx ⊢
        rw [hX] at hx ⊢
        have c0 := blk_cell (j := 0) (v := .int .u8 (U ad)) hx rfl
        replace hPa := Lib.hid hPa
        have hx : Hid (wa.heap[X]? = some (.cells #[.int .u8 (U ad), .int .i64 az, .int .i64 xn.kind, .string (bs xn.key), .int .i64 xn.gen, .int .i64 xn.cart, .slice xA xn.data.length xc, .string (bs xn.sum), .int .i64 xn.size, .slice xA2 xn.places.length xc2, .slice aA am ac] 66 (0, 0))) := Lib.hid hx
        clear hwa hX hga x0 x1 x2 x3 x4 x5 x6 x7 x8 x9 x10 hP
        go_upto_block 2 with (fail)
        go_cut [7, 10] from 66 to 173 (fun jv kv wx => ∃ (J K z : Nat) (s : DS), jv = .pointer (some ⟨J, 0, none⟩) ∧ kv = .pointer (some ⟨K, 0, none⟩) ∧ Hid (z ≤ s.c.length) ∧ Hid (PSt w g gr J K s s z z wx))
        case first =>
          obtain ⟨q, hq⟩ : ∃ q, (U ad).tmod 12 = q := ⟨_, rfl⟩
          have hqb : 0 ≤ q ∧ q < 12 := by rw [← hq, Int.tmod_eq_emod_of_nonneg (U_lo ad)]; omega
          rw [hq]
          have hok := Lib.hid hPa.out.S.D.ok
          by_cases q0 : q = 0
          · subst q0
            clear hqb c0
            have hfu := Lib.hid (fuse_any _ _ g s az hz64 wa hPa.out.S.D)
            have c1 := blk_cell (j := 1) (v := .int .i64 az) hx.out rfl
            go_wp2_with fail
            refine hfu.out.mono ?_
            clear hfu c1
            rintro e w6 ⟨rfl, hD6, hc6⟩
            have hP6 := hPa.out.chg hD6 hc6
            have hx6 := (Chg.tchg hPa.out.S.D hc6).block hx.out (by decide)
            have c1 := blk_cell (j := 1) (v := .int .i64 az) hx6 rfl
            have hrf := Lib.hid (rfu_any gr s az hz64 w6 hP6.S.R)
            replace hP6 := Lib.hid hP6
            clear hD6 hc6 hx6
            go_wp2_with fail
            refine hrf.out.mono ?_
            clear hrf c1
            rintro e w7 ⟨rfl, hR7, hu7⟩
            have hP7 := Lib.hid (hP6.out.updG hR7 hu7)
            clear hR7 hu7
            go_wp2_with fail
            go_meet
            case rel => exact ⟨J, K, z, s.fuse az, rfl, rfl, hzl, hP7⟩
          · by_cases q12 : q = 1 ∨ q = 2
            · have e0 : (q == 0) = false := beq_eq_false_iff_ne.mpr q0
              clear c0
              go_upto_if 88 with (fail)
              go_cut [88] from 89 to 90 (fun v wx => v = .bool true ∧ wx = wa)
              case first =>
                rcases q12 with rfl | rfl
                all_goals
                  go_wp2_with fail
                  go_meet
                  case rel => exact ⟨rfl, rfl⟩
              case rest =>
                obtain ⟨rfl, hwc⟩ := hcut
                rw [hwc]
                clear hwc hqb q0 q12 e0
                replace hq := Lib.hid hq
                have hcr := Lib.hid (crash_any _ _ g s az hz64 wa hPa.out.S.D)
                have c1 := blk_cell (j := 1) (v := .int .i64 az) hx.out rfl
                go_wp2_with fail
                refine hcr.out.mono ?_
                clear hcr c1
                rintro e w6 ⟨rfl, hD6, hc6⟩
                have hB6 := hPa.out.S.chg hD6 hc6
                have hx6 := (Chg.tchg hPa.out.S.D hc6).block hx.out (by decide)
                have c1 := blk_cell (j := 1) (v := .int .i64 az) hx6 rfl
                have hrc := Lib.hid (rcr_any gr s hok.out az hz64 w6 hB6.R)
                replace hB6 := Lib.hid hB6
                replace hx6 := Lib.hid hx6
                clear hD6 hc6 hPa hx
                go_wp2_with fail
                refine hrc.out.mono ?_
                clear hrc c1
                rintro e w7 ⟨rfl, hR7, hu7⟩
                have hB7 := Lib.hid (hB6.out.updG hR7 hu7)
                have hx7 := (UpdG.tchg hB6.out.R hB6.out.grl hu7).block hx6.out (by decide)
                have c0 := blk_cell (j := 0) (v := .int .u8 (U ad)) hx7 rfl
                have c1 := blk_cell (j := 1) (v := .int .i64 az) hx7 rfl
                replace hx7 := Lib.hid hx7
                clear hR7 hu7 hB6 hx6 hx7
                go_upto_region 23 with (fail)
                go_cut [107] from 99 to 107 (fun v wx => (∃ cc : Bool, v = .bool cc) ∧ wx = w7)
                case first =>
                  obtain ⟨q2, hq2⟩ : ∃ q2, (U ad).tmod 2 = q2 := ⟨_, rfl⟩
                  by_cases p0 : q2 = 0
                  · subst p0
                    by_cases p2 : 40 < az
                    · go_wp2_with fail
                      go_meet
                      case rel => exact ⟨⟨_, rfl⟩, rfl⟩
                    · go_wp2_with fail
                      go_meet
                      case rel => exact ⟨⟨_, rfl⟩, rfl⟩
                  · have p1 : (q2 == 0) = false := beq_eq_false_iff_ne.mpr p0
                    clear p0
                    go_wp2_with fail
                    go_meet
                    case rel => exact ⟨⟨_, rfl⟩, rfl⟩
                case rest =>
                  obtain ⟨⟨cc, rfl⟩, hwc⟩ := hcut
                  rw [hwc]
                  clear hwc c0 c1
                  obtain ⟨s4, hs4⟩ : ∃ s4, s.crash az = s4 := ⟨_, rfl⟩
                  rw [hs4] at hB7
                  clear hs4
                  go_upto_if 107 with (fail)
                  go_cut [] from 108 to 111 (fun wx => ∃ s5 : DS, Hid (BSt w g gr s5 s5 wx))
                  case first =>
                    cases cc with
                    | false =>
                      go_wp2_with fail
                      go_meet
                      case rel => exact ⟨_, hB7⟩
                    | true =>
                      have hfu := Lib.hid (fuse_any _ _ g s4 0 (by omega) w7 hB7.out.D)
                      go_wp2_with fail
                      refine hfu.out.mono ?_
                      clear hfu
                      rintro e w8 ⟨rfl, hD8, hc8⟩
                      have hB8 := hB7.out.chg hD8 hc8
                      have hrf := Lib.hid (rfu_any gr s4 0 (by unfold I64; omega) w8 hB8.R)
                      replace hB8 := Lib.hid hB8
                      clear hD8 hc8
                      go_wp2_with fail
                      refine hrf.out.mono ?_
                      clear hrf
                      rintro e w9 ⟨rfl, hR9, hu9⟩
                      have hB9 := Lib.hid (hB8.out.updG hR9 hu9)
                      clear hR9 hu9
                      go_wp2_with fail
                      go_meet
                      case rel => exact ⟨_, hB9⟩
                  case rest =>
                    obtain ⟨s5, hB⟩ := hcut
                    have hop := Lib.hid (open_any _ _ g s5 wc hB.out.D)
                    have hok5 := Lib.hid hB.out.D.ok
                    clear hB7 hok hzl
                    go_wp2_with fail
                    refine hop.out.mono ?_
                    clear hop
                    rintro e w8 ⟨hD8, hu8, hc8⟩
                    have hB8 := hB.out.prog hD8 (Upd.tchg hB.out.D hu8)
                    have hro := Lib.hid (ropen_any gr s5 hok5.out w8 hB8.R)
                    obtain ⟨s6, hs6⟩ : ∃ s6, (opS s5).2 = s6 := ⟨_, rfl⟩
                    rcases hc8 with ⟨hz, J5, u5, E5, rfl, hE5, ho5, hJ5, hJN5⟩ | ⟨hne, rfl⟩
                    · have hzl5 := opS_z hz
                      replace hz := Lib.hid hz
                      obtain ⟨Au5, mu5, cu5, rfl⟩ : ∃ A m c, u5 = .slice A m c := by obtain ⟨A, c, e, -⟩ := ho5.form; exact ⟨A, _, c, e⟩
                      have hJl : Hid (w.heap.size ≤ J5) := Lib.hid (Nat.le_trans hB.out.lw hJN5)
                      replace hB8 := Lib.hid hB8
                      replace ho5 := Lib.hid ho5
                      replace hJ5 := Lib.hid hJ5
                      replace hE5 := Lib.hid hE5
                      replace hs6 := Lib.hid hs6
                      replace hzl5 := Lib.hid hzl5
                      clear hD8 hu8 hJN5
                      go_wp2_with fail
                      refine hro.out.mono ?_
                      clear hro
                      rintro e w9 ⟨hR9, hu9, hc9⟩
                      rcases hc9 with ⟨-, K5, u6, E6, rfl, hE6, ho6, hK6, hKN6⟩ | ⟨hne, -⟩
                      case inr => exact absurd hz.out hne
                      have hP9 : PSt w g gr J5 K5 (opS s5).2 (opS s5).2 (scanN s5.c).2 (scanN s5.c).2 w9 := by
                        have ht := UpdG.tchg hB8.out.R hB8.out.grl hu9
                        exact ⟨hB8.out.ref hR9 ht, ht.block hJ5.out (by decide), hK6, hJl.out, Nat.le_trans hB8.out.lw hKN6⟩
                      have ho9 := ON.updG hB8.out.R ho5.out hu9
                      have hn4 := ho9.ns
                      rw [hE5.out] at hn4
                      have hn5 := ho6.ns
                      rw [hE6] at hn5
                      obtain ⟨A6, m6, c6, rfl⟩ : ∃ A m c, u6 = .slice A m c := by obtain ⟨A, c, e, -⟩ := ho6.form; exact ⟨A, _, c, e⟩
                      have hal := alike_any _ _ _ _ w9 hn4 hn5
                      rw [decide_eq_true (rfl : (scanN s5.c).1 = (scanN s5.c).1)] at hal
                      replace hal := Lib.hid hal
                      rw [hs6.out] at hP9
                      obtain ⟨z5, hz5⟩ : ∃ z5, (scanN s5.c).2 = z5 := ⟨_, rfl⟩
                      have hzl6 : Hid (z5 ≤ s6.c.length) := Lib.hid (by rw [← hs6.out, ← hz5]; exact hzl5.out)
                      rw [hz5] at hP9
                      replace hP9 := Lib.hid hP9
                      clear hs6 hz5 hn4 hn5 ho9 hE6 ho6 hK6 hKN6 hR9 hu9 hB8 hB hJ5 hE5 ho5 hz hok5 hJl hzl5
                      go_wp2_with fail
                      refine hal.out.mono ?_
                      clear hal
                      rintro e w10 ⟨rfl, hg10⟩
                      have hP10 := Lib.hid (hP9.out.gr hg10)
                      clear hP9 hg10
                      go_wp2_with fail
                      go_meet
                      case rel => exact ⟨J5, K5, z5, s6, rfl, rfl, hzl6, hP10⟩
                    · obtain ⟨rc, hrc⟩ : ∃ rc, (opS s5).1 = rc := ⟨_, rfl⟩
                      rw [hrc] at hne ⊢
                      replace hB8 := Lib.hid hB8
                      replace hs6 := Lib.hid hs6
                      replace hrc := Lib.hid hrc
                      replace hne := Lib.hid hne
                      clear hD8 hu8
                      go_wp2_with fail
                      refine hro.out.mono ?_
                      clear hro
                      rintro e w9 ⟨hR9, hu9, hc9⟩
                      rw [hrc.out] at hc9
                      rcases hc9 with ⟨hz, -⟩ | ⟨-, rfl⟩
                      case inl => exact absurd hz hne.out
                      have hB9 := hB8.out.updG hR9 hu9
                      rw [hs6.out] at hB9
                      replace hB9 := Lib.hid hB9
                      have hal := alike_any [] [] _ _ w9 (NsV.nil_ w9) (NsV.nil_ w9)
                      rw [decide_eq_true (rfl : ([] : List Nt) = [])] at hal
                      replace hal := Lib.hid hal
                      clear hR9 hu9 hB8 hB hs6 hok5
                      go_wp2_with fail
                      refine hal.out.mono ?_
                      clear hal
                      rintro e w9b ⟨rfl, hg9⟩
                      have hB9b := Lib.hid (hB9.out.gr hg9)
                      clear hB9 hg9
                      go_upto_region 31 with (fail)
                      obtain ⟨wd, hwd⟩ : ∃ wd, wd = w9b.drew := ⟨_, rfl⟩
                      have hBd : Hid (BSt w g gr s6 s6 wd) := Lib.hid (by rw [hwd]; exact hB9b.out.gr ((Below.refl _ _).drew))
                      obtain ⟨su, hsu⟩ : ∃ su, s6.c.take s6.dur = su := ⟨_, rfl⟩
                      obtain ⟨mo, hmo⟩ : ∃ mo, s6.c.drop s6.dur = mo := ⟨_, rfl⟩
                      have hcat : s6.c = su ++ mo := by rw [← hsu, ← hmo, List.take_append_drop]
                      have hRs := hBd.out.R
                      have hok2 := hBd.out.D.ok
                      have hov : ¬ (9223372036854775807 < su.length + mo.length) := by
                        have h1 := hok2.len
                        rw [hcat, List.length_append] at h1
                        omega
                      have hlo : ((s6.c.length : Int) - s6.dur) = (mo.length : Int) := by
                        have h1 := hok2.dur
                        rw [← hmo, List.length_drop]
                        omega
                      have hRk : Rk wd gr su mo s6.lf := by
                        unfold RkS at hRs
                        rw [hsu, hmo] at hRs
                        exact hRs
                      obtain ⟨r0, r1, -, -⟩ := hRk.cells
                      have hgl : gr < wd.heap.size := blk_lt hRs

                      obtain ⟨nq, hnq⟩ : ∃ nq, (su ++ mo).length = nq := ⟨_, rfl⟩
                      replace hcat := Lib.hid hcat
                      replace hnq := Lib.hid hnq
                      replace hsu := Lib.hid hsu
                      replace hmo := Lib.hid hmo
                      clear hRs hok2 hRk hB9b hlo
                      refine wpR_region (Gr) 9999 (by kernel_rfl) ?_
                      (rw [← hwd]; replace hwd := Lib.hid hwd)
                      refine wpR_one 0 rfl (by kernel_rfl) (by kernel_rfl) (fun K hK => ?_)
                      go_simp
                      refine (awake_any _).mono ?_
                      rintro e w10 ⟨rfl, hg10⟩
                      refine hK _ _ (fun _ => hg10) ?_
                      clear hK K
                      have hB10 := Lib.hid (hBd.out.gr hg10)
                      have hby := Lib.hid (bytes_any _ _ g s6 w10 hB10.out.D)
                      have s0 := (cellGr hg10 (a := ⟨gr, 0, none⟩) hgl).trans r0
                      have s1 := (cellGr hg10 (a := ⟨gr, 1, none⟩) hgl).trans r1
                      replace hgl : gr < w10.heap.size := Nat.lt_of_lt_of_le hgl hg10.size
                      clear r0 r1 hg10
                      try simp only [Act.put, List.setIfInBounds_toArray, List.set_cons_zero, List.set_cons_succ]
                      refine wpR_take (i := 1) (v := ?_) (Gr.road) (some 143) rfl (by kernel_rfl) (by kernel_rfl) (by kernel_rfl) (by kernel_rfl) (by kernel_rfl) (fun _ _ _ h => h) (by kernel_rfl) (fun w' hw' => ?_) ?_
                      rotate_left
                      · go_simp; with_reducible rfl
                      simp only [Act.put, List.setIfInBounds_toArray, List.set_cons_zero, List.set_cons_succ]
                      refine wpR_take (i := 2) (v := ?_) (Gr.road) (some 144) rfl (by kernel_rfl) (by kernel_rfl) (by kernel_rfl) (by kernel_rfl) (by kernel_rfl) (fun _ _ _ h => h) (by kernel_rfl) (fun w' hw' => ?_) ?_
                      rotate_left
                      · go_simp; with_reducible rfl
                      simp only [Act.put, List.setIfInBounds_toArray, List.set_cons_zero, List.set_cons_succ]
                      refine wpR_take (i := 5) (v := ?_) (Gr.road) (some 147) rfl (by kernel_rfl) (by kernel_rfl) (by kernel_rfl) (by kernel_rfl) (by kernel_rfl) (fun _ _ _ h => h) (by kernel_rfl) (fun w' hw' => ?_) ?_
                      rotate_left
                      · go_simp; with_reducible rfl
                      simp only [Act.put, List.setIfInBounds_toArray, List.set_cons_zero, List.set_cons_succ]
                      refine wpR_take (i := 6) (v := ?_) (Gr.road) (some 148) rfl (by kernel_rfl) (by kernel_rfl) (by kernel_rfl) (by kernel_rfl) (by kernel_rfl) (fun _ _ _ h => h) (by kernel_rfl) (fun w' hw' => ?_) ?_
                      rotate_left
                      · go_simp; with_reducible rfl
                      simp only [Act.put, List.setIfInBounds_toArray, List.set_cons_zero, List.set_cons_succ]
                      refine wpR_take (i := 7) (v := ?_) (Gr.road) (some 149) rfl (by kernel_rfl) (by kernel_rfl) (by kernel_rfl) (by kernel_rfl) (by kernel_rfl) (fun _ _ _ h => h) (by kernel_rfl) (fun w' hw' => ?_) ?_
                      rotate_left
                      · go_simp; with_reducible rfl
                      simp only [Act.put, List.setIfInBounds_toArray, List.set_cons_zero, List.set_cons_succ]
                      refine wpR_take (i := 8) (v := ?_) (Gr.road) (some 150) rfl (by kernel_rfl) (by kernel_rfl) (by kernel_rfl) (by kernel_rfl) (by kernel_rfl) (fun _ _ _ h => h) (by kernel_rfl) (fun w' hw' => ?_) ?_
                      rotate_left
                      · have s0' := (cellGr hw' (a := ⟨gr, 0, none⟩) hgl).trans s0; go_simp; with_reducible rfl
                      simp only [Act.put, List.setIfInBounds_toArray, List.set_cons_zero, List.set_cons_succ]
                      refine wpR_take (i := 9) (v := ?_) (Gr.road) (some 151) rfl (by kernel_rfl) (by kernel_rfl) (by kernel_rfl) (by kernel_rfl) (by kernel_rfl) (fun _ _ _ h => h) (by kernel_rfl) (fun w' hw' => ?_) ?_
                      rotate_left
                      · go_simp; with_reducible rfl
                      simp only [Act.put, List.setIfInBounds_toArray, List.set_cons_zero, List.set_cons_succ]
                      refine wpR_take (i := 10) (v := ?_) (Gr.road) (some 152) rfl (by kernel_rfl) (by kernel_rfl) (by kernel_rfl) (by kernel_rfl) (by kernel_rfl) (fun _ _ _ h => h) (by kernel_rfl) (fun w' hw' => ?_) ?_
                      rotate_left
                      · go_simp; with_reducible rfl
                      simp only [Act.put, List.setIfInBounds_toArray, List.set_cons_zero, List.set_cons_succ]
                      refine wpR_take (i := 11) (v := ?_) (Gr.road) (some 153) rfl (by kernel_rfl) (by kernel_rfl) (by kernel_rfl) (by kernel_rfl) (by kernel_rfl) (fun _ _ _ h => h) (by kernel_rfl) (fun w' hw' => ?_) ?_
                      rotate_left
                      · go_simp; with_reducible rfl
                      simp only [Act.put, List.setIfInBounds_toArray, List.set_cons_zero, List.set_cons_succ]
                      refine wpR_take (i := 12) (v := ?_) (Gr.road) (some 154) rfl (by kernel_rfl) (by kernel_rfl) (by kernel_rfl) (by kernel_rfl) (by kernel_rfl) (fun _ _ _ h => h) (by kernel_rfl) (fun w' hw' => ?_) ?_
                      rotate_left
                      · have s1' := (cellGr hw' (a := ⟨gr, 1, none⟩) hgl).trans s1; go_simp; with_reducible rfl
                      simp only [Act.put, List.setIfInBounds_toArray, List.set_cons_zero, List.set_cons_succ]
                      refine wpR_take (i := 13) (v := ?_) (Gr.road) (some 155) rfl (by kernel_rfl) (by kernel_rfl) (by kernel_rfl) (by kernel_rfl) (by kernel_rfl) (fun _ _ _ h => h) (by kernel_rfl) (fun w' hw' => ?_) ?_
                      rotate_left
                      · go_simp; with_reducible rfl
                      simp only [Act.put, List.setIfInBounds_toArray, List.set_cons_zero, List.set_cons_succ]
                      refine wpR_one 3 rfl (by kernel_rfl) (by kernel_rfl) (fun K hK => ?_)
                      go_simp
                      refine hby.out.mono ?_
                      clear hby
                      rintro e w11 ⟨v11, rfl, ho11, hg11⟩
                      refine hK _ _ (fun _ => hg11) ?_
                      clear hK K
                      rw [hcat.out] at ho11
                      obtain ⟨A11, c11, rfl, -⟩ := ho11.form
                      rw [hnq.out] at ho11 ⊢
                      replace ho11 := Lib.hid ho11
                      have hB11 := Lib.hid (hB10.out.gr hg11)
                      clear hg11
                      try simp only [Act.put, List.setIfInBounds_toArray, List.set_cons_zero, List.set_cons_succ]
                      refine wpR_take (i := 4) (v := ?_) (Gr.road) (some 146) rfl (by kernel_rfl) (by kernel_rfl) (by kernel_rfl) (by kernel_rfl) (by kernel_rfl) (fun _ _ _ h => h) (by kernel_rfl) (fun w' hw' => ?_) ?_
                      rotate_left
                      · have cv := run_str_at c11 (OB.below ho11.out hw').rd.1 hnq.out; go_simp; with_reducible rfl
                      simp only [Act.put, List.setIfInBounds_toArray, List.set_cons_zero, List.set_cons_succ]
                      refine wpR_take (i := 14) (v := ?_) (Gr.road) (some 156) rfl (by kernel_rfl) (by kernel_rfl) (by kernel_rfl) (by kernel_rfl) (by kernel_rfl) (fun _ _ _ h => h) (by kernel_rfl) (fun w' hw' => ?_) ?_
                      rotate_left
                      · go_simp; with_reducible rfl
                      simp only [Act.put, List.setIfInBounds_toArray, List.set_cons_zero, List.set_cons_succ]
                      refine wpR_take (i := 15) (v := ?_) (Gr.road) (some 157) rfl (by kernel_rfl) (by kernel_rfl) (by kernel_rfl) (by kernel_rfl) (by kernel_rfl) (fun _ _ _ h => h) (by kernel_rfl) (fun w' hw' => ?_) ?_
                      rotate_left
                      · go_simp; with_reducible rfl
                      simp only [Act.put, List.setIfInBounds_toArray, List.set_cons_zero, List.set_cons_succ]
                      refine wpR_take (i := 16) (v := ?_) (Gr.road) (some 4) rfl (by kernel_rfl) (by kernel_rfl) (by kernel_rfl) (by kernel_rfl) (by kernel_rfl) (fun _ _ _ h => h) (by kernel_rfl) (fun w' hw' => ?_) ?_
                      rotate_left
                      · go_simp; with_reducible rfl
                      simp only [Act.put, List.setIfInBounds_toArray, List.set_cons_zero, List.set_cons_succ]
                      refine wpR_done (by kernel_rfl) ?_ _

                      go_wp2_with fail
                      go_ret
                      exact ⟨rfl, hB11.out.B⟩
            · by_cases q3 : q = 3
              · subst q3
                clear hqb c0 q0 q12
                have c10 := blk_cell (j := 10) (v := .slice aA am ac) hx.out rfl
                obtain ⟨A9, c9, e9, hlc, hlm⟩ := hLv.out.len
                injection e9 with e9a e9 e9c
                clear e9a
                by_cases h12 : 12 < am
                · have hM : Hid (∃ M : List Nt, M.length ≤ 100 ∧ NsV M (.slice aA 12 ac) w) := Lib.hid ⟨aL.take 12, take12 _, hLv.out.cut (by omega)⟩
                  have d12 : (12 : Int) < (am : Int) := by omega
                  have d13 : 12 ≤ ac := by omega
                  have d14 : (12 : Int) ≤ (ac : Int) := by omega
                  clear e9 e9c hlc hlm h12 hLv
                  obtain ⟨M, hMl, hMv⟩ := hM.out
                  have hsw := Lib.hid (swap_all hPa.out M _ (NsV.gr hPa.out.S.B (Lib.hid hMv)).out hMl)
                  replace hMv := Lib.hid hMv
                  clear hM
                  go_wp2_with fail
                  refine hsw.out.mono ?_
                  clear hsw c10
                  rintro e w6 ⟨rfl, hP6, -⟩
                  have hrs := Lib.hid (rswap_all hP6 hok.out M _ (NsV.gr hP6.S.B hMv).out hMl)
                  replace hP6 := Lib.hid hP6
                  go_wp2_with fail
                  refine hrs.out.mono ?_
                  clear hrs
                  rintro e w7 ⟨rfl, hP7, -⟩
                  replace hP7 := Lib.hid hP7
                  go_wp2_with fail
                  go_meet
                  case rel => exact ⟨J, K, swGZ s M z, (swG s M).2, rfl, rfl, Lib.hid (swG_z M hzl.out), hP7⟩

                · have hM : Hid (∃ M : List Nt, M.length ≤ 100 ∧ NsV M (.slice aA am ac) w) := Lib.hid ⟨aL, by omega, hLv.out⟩
                  have d12 : ¬ ((12 : Int) < (am : Int)) := by omega
                  clear e9 e9c hlc hlm h12 hLv
                  obtain ⟨M, hMl, hMv⟩ := hM.out
                  have hsw := Lib.hid (swap_all hPa.out M _ (NsV.gr hPa.out.S.B (Lib.hid hMv)).out hMl)
                  replace hMv := Lib.hid hMv
                  clear hM
                  go_wp2_with fail
                  refine hsw.out.mono ?_
                  clear hsw c10
                  rintro e w6 ⟨rfl, hP6, -⟩
                  have hrs := Lib.hid (rswap_all hP6 hok.out M _ (NsV.gr hP6.S.B hMv).out hMl)
                  replace hP6 := Lib.hid hP6
                  go_wp2_with fail
                  refine hrs.out.mono ?_
                  clear hrs
                  rintro e w7 ⟨rfl, hP7, -⟩
                  replace hP7 := Lib.hid hP7
                  go_wp2_with fail
                  go_meet
                  case rel => exact ⟨J, K, swGZ s M z, (swG s M).2, rfl, rfl, Lib.hid (swG_z M hzl.out), hP7⟩
              · have e0 : (q == 0) = false := beq_eq_false_iff_ne.mpr q0
                have e1 : (q == 1) = false := beq_eq_false_iff_ne.mpr (fun h => q12 (.inl h))
                have e2 : (q == 2) = false := beq_eq_false_iff_ne.mpr (fun h => q12 (.inr h))
                have e3 : (q == 3) = false := beq_eq_false_iff_ne.mpr q3
                clear hqb c0 q0 q12 q3
                go_upto_region 14 with (fail)
                obtain ⟨wd, hwd⟩ : ∃ wd, wd = wa.drew := ⟨_, rfl⟩
                have hPd : Hid (PSt w g gr J K s s z z wd) := Lib.hid (by rw [hwd]; exact hPa.out.gr ((Below.refl _ _).drew))
                have hxd : Hid (wd.heap[X]? = some (.cells #[.int .u8 (U ad), .int .i64 az, .int .i64 xn.kind, .string (bs xn.key), .int .i64 xn.gen, .int .i64 xn.cart, .slice xA xn.data.length xc, .string (bs xn.sum), .int .i64 xn.size, .slice xA2 xn.places.length xc2, .slice aA am ac] 66 (0, 0))) := Lib.hid (by rw [hwd]; exact hx.out)
                have hz262 : z ≤ 262144 := by have := hzl.out; have := hok.out.len; omega
                have had := add_all hPd.out xn _ (hxv.out.gr hPd.out.S.B).ntv hz262
                unfold Ne.agg Nt.agg at had
                simp only at had
                replace had := Lib.hid had
                clear hPa hx
                refine wpR_region (TChg w.heap.size bts) 9999 (by kernel_rfl) ?_
                (rw [← hwd]; replace hwd := Lib.hid hwd)
                refine wpR_take (i := 0) (v := ?_) (TChg.road _ _) (some 69) rfl (by kernel_rfl) (by kernel_rfl) (by kernel_rfl) (by kernel_rfl) (by kernel_rfl) (fun _ _ _ h => h) (by kernel_rfl) (fun w' hw' => ?_) ?_
                rotate_left
                · go_simp; with_reducible rfl
                simp only [Act.put, List.setIfInBounds_toArray, List.set_cons_zero, List.set_cons_succ]
                refine wpR_take (i := 1) (v := ?_) (TChg.road _ _) (some 70) rfl (by kernel_rfl) (by kernel_rfl) (by kernel_rfl) (by kernel_rfl) (by kernel_rfl) (fun _ _ _ h => h) (by kernel_rfl) (fun w' hw' => ?_) ?_
                rotate_left
                · go_simp; with_reducible rfl
                simp only [Act.put, List.setIfInBounds_toArray, List.set_cons_zero, List.set_cons_succ]
                refine wpR_take (i := 2) (v := ?_) (TChg.road _ _) (some 71) rfl (by kernel_rfl) (by kernel_rfl) (by kernel_rfl) (by kernel_rfl) (by kernel_rfl) (fun _ _ _ h => h) (by kernel_rfl) (fun w' hw' => ?_) ?_
                rotate_left
                · obtain ⟨q2, q3, q4, q5, q6, q7, q8, q9⟩ := cells10 (hw'.block hxd.out (by decide)); go_simp; with_reducible rfl
                simp only [Act.put, List.setIfInBounds_toArray, List.set_cons_zero, List.set_cons_succ]
                refine wpR_take (i := 4) (v := ?_) (TChg.road _ _) (some 73) rfl (by kernel_rfl) (by kernel_rfl) (by kernel_rfl) (by kernel_rfl) (by kernel_rfl) (fun _ _ _ h => h) (by kernel_rfl) (fun w' hw' => ?_) ?_
                rotate_left
                · go_simp; with_reducible rfl
                simp only [Act.put, List.setIfInBounds_toArray, List.set_cons_zero, List.set_cons_succ]
                refine wpR_take (i := 5) (v := ?_) (TChg.road _ _) (some 74) rfl (by kernel_rfl) (by kernel_rfl) (by kernel_rfl) (by kernel_rfl) (by kernel_rfl) (fun _ _ _ h => h) (by kernel_rfl) (fun w' hw' => ?_) ?_
                rotate_left
                · go_simp; with_reducible rfl
                simp only [Act.put, List.setIfInBounds_toArray, List.set_cons_zero, List.set_cons_succ]
                refine wpR_take (i := 6) (v := ?_) (TChg.road _ _) (some 75) rfl (by kernel_rfl) (by kernel_rfl) (by kernel_rfl) (by kernel_rfl) (by kernel_rfl) (fun _ _ _ h => h) (by kernel_rfl) (fun w' hw' => ?_) ?_
                rotate_left
                · obtain ⟨q2, q3, q4, q5, q6, q7, q8, q9⟩ := cells10 (hw'.block hxd.out (by decide)); go_simp; with_reducible rfl
                simp only [Act.put, List.setIfInBounds_toArray, List.set_cons_zero, List.set_cons_succ]
                refine wpR_one 3 rfl (by kernel_rfl) (by kernel_rfl) (fun K hK => ?_)
                go_simp
                refine had.out.mono ?_
                clear had
                rintro e w6 ⟨rfl, hP6, ht6⟩
                refine hK _ _ (fun _ => ht6) ?_
                clear hK K
                have hra := radd_all hP6 hok.out xn _ (hxv.out.gr hP6.S.B).ntv hz262
                unfold Ne.agg Nt.agg at hra
                simp only at hra
                replace hra := Lib.hid hra
                replace hP6 := Lib.hid hP6
                clear ht6
                try simp only [Act.put, List.setIfInBounds_toArray, List.set_cons_zero, List.set_cons_succ]
                refine wpR_one 7 rfl (by kernel_rfl) (by kernel_rfl) (fun K hK => ?_)
                go_simp
                refine hra.out.mono ?_
                clear hra
                rintro e w7 ⟨rfl, hP7, ht7⟩
                refine hK _ _ (fun _ => ht7) ?_
                clear hK K
                replace hP7 := Lib.hid hP7
                clear ht7
                try simp only [Act.put, List.setIfInBounds_toArray, List.set_cons_zero, List.set_cons_succ]
                refine wpR_take (i := 8) (v := ?_) (TChg.road _ _) (some 77) rfl (by kernel_rfl) (by kernel_rfl) (by kernel_rfl) (by kernel_rfl) (by kernel_rfl) (fun _ _ _ h => h) (by kernel_rfl) (fun w' hw' => ?_) ?_
                rotate_left
                · go_simp; with_reducible rfl
                simp only [Act.put, List.setIfInBounds_toArray, List.set_cons_zero, List.set_cons_succ]
                refine wpR_done (by kernel_rfl) ?_ _

                go_wp2_with fail
                go_meet
                case rel => exact ⟨J, K, adGZ s xn z, (adG s xn).2, rfl, rfl, Lib.hid (adG_z xn hzl.out), hP7⟩
        case rest =>
          clear c0 hPa hzl
          obtain ⟨J2, K2, z2, s2, rfl, rfl, hzl2, hP2⟩ := hcut
          go_upto_region 38 with (fail)
          obtain ⟨wd, hwd⟩ : ∃ wd, wd = wc.drew := ⟨_, rfl⟩
          have hPd : Hid (PSt w g gr J2 K2 s2 s2 z2 z2 wd) := Lib.hid (by rw [hwd]; exact hP2.out.gr ((Below.refl _ _).drew))
          have hJd := Lib.hid hPd.out.Jv
          have hKl : K2 < wd.heap.size := blk_lt hPd.out.Kv
          have hKc := blk_cell (j := 1) (v := .int .i64 z2) hPd.out.Kv rfl
          have hby := bytes_any _ _ g s2 wd hPd.out.S.D
          obtain ⟨su, hsu⟩ : ∃ su, s2.c.take s2.dur = su := ⟨_, rfl⟩
          obtain ⟨mo, hmo⟩ : ∃ mo, s2.c.drop s2.dur = mo := ⟨_, rfl⟩
          have hcat : s2.c = su ++ mo := by rw [← hsu, ← hmo, List.take_append_drop]
          have hRs := hPd.out.S.R
          have hok2 := hPd.out.S.D.ok
          have hov : ¬ (9223372036854775807 < su.length + mo.length) := by
            have h1 := hok2.len
            rw [hcat, List.length_append] at h1
            omega
          have hlo : ((s2.c.length : Int) - s2.dur) = (mo.length : Int) := by
            have h1 := hok2.dur
            rw [← hmo, List.length_drop]
            omega
          have hRk : Rk wd gr su mo s2.lf := by
            unfold RkS at hRs
            rw [hsu, hmo] at hRs
            exact hRs
          obtain ⟨r0, r1, -, -⟩ := hRk.cells
          have hgl : gr < wd.heap.size := blk_lt hRs
          obtain ⟨nq, hnq⟩ : ∃ nq, (su ++ mo).length = nq := ⟨_, rfl⟩
          replace hby := Lib.hid hby
          replace hcat := Lib.hid hcat
          replace hlo := Lib.hid hlo
          replace hnq := Lib.hid hnq
          replace hsu := Lib.hid hsu
          replace hmo := Lib.hid hmo
          clear hRs hok2 hRk hP2
          refine wpR_region (Gr) 9999 (by kernel_rfl) ?_
          (rw [← hwd]; replace hwd := Lib.hid hwd)
          refine wpR_take (i := 0) (v := ?_) (Gr.road) (some 174) rfl (by kernel_rfl) (by kernel_rfl) (by kernel_rfl) (by kernel_rfl) (by kernel_rfl) (fun _ _ _ h => h) (by kernel_rfl) (fun w' hw' => ?_) ?_
          rotate_left
          · go_simp; with_reducible rfl
          simp only [Act.put, List.setIfInBounds_toArray, List.set_cons_zero, List.set_cons_succ]
          refine wpR_take (i := 2) (v := ?_) (Gr.road) (some 176) rfl (by kernel_rfl) (by kernel_rfl) (by kernel_rfl) (by kernel_rfl) (by kernel_rfl) (fun _ _ _ h => h) (by kernel_rfl) (fun w' hw' => ?_) ?_
          rotate_left
          · go_simp; with_reducible rfl
          simp only [Act.put, List.setIfInBounds_toArray, List.set_cons_zero, List.set_cons_succ]
          refine wpR_take (i := 3) (v := ?_) (Gr.road) (some 177) rfl (by kernel_rfl) (by kernel_rfl) (by kernel_rfl) (by kernel_rfl) (by kernel_rfl) (fun _ _ _ h => h) (by kernel_rfl) (fun w' hw' => ?_) ?_
          rotate_left
          · go_simp; with_reducible rfl
          simp only [Act.put, List.setIfInBounds_toArray, List.set_cons_zero, List.set_cons_succ]
          refine wpR_take (i := 4) (v := ?_) (Gr.road) (some 178) rfl (by kernel_rfl) (by kernel_rfl) (by kernel_rfl) (by kernel_rfl) (by kernel_rfl) (fun _ _ _ h => h) (by kernel_rfl) (fun w' hw' => ?_) ?_
          rotate_left
          · go_simp; with_reducible rfl
          simp only [Act.put, List.setIfInBounds_toArray, List.set_cons_zero, List.set_cons_succ]
          refine wpR_take (i := 5) (v := ?_) (Gr.road) (some 179) rfl (by kernel_rfl) (by kernel_rfl) (by kernel_rfl) (by kernel_rfl) (by kernel_rfl) (fun _ _ _ h => h) (by kernel_rfl) (fun w' hw' => ?_) ?_
          rotate_left
          · have y1 := (cellGr hw' (a := ⟨K2, 1, none⟩) hKl).trans hKc; go_simp; with_reducible rfl
          simp only [Act.put, List.setIfInBounds_toArray, List.set_cons_zero, List.set_cons_succ]
          refine wpR_one 1 rfl (by kernel_rfl) (by kernel_rfl) (fun K hK => ?_)
          go_simp
          refine (jsize_any J2 g z2 _ hJd.out).mono ?_
          rintro e w5 ⟨rfl, hw5⟩
          rw [hw5]
          clear hw5
          refine hK _ _ (fun _ => Gr.refl _) ?_
          clear hK K
          try simp only [Act.put, List.setIfInBounds_toArray, List.set_cons_zero, List.set_cons_succ]
          refine wpR_take (i := 6) (v := ?_) (Gr.road) (some 180) rfl (by kernel_rfl) (by kernel_rfl) (by kernel_rfl) (by kernel_rfl) (by kernel_rfl) (fun _ _ _ h => h) (by kernel_rfl) (fun w' hw' => ?_) ?_
          rotate_left
          · go_simp; with_reducible rfl
          simp only [Act.put, List.setIfInBounds_toArray, List.set_cons_zero, List.set_cons_succ]
          refine wpR_take (i := 7) (v := ?_) (Gr.road) (some 181) rfl (by kernel_rfl) (by kernel_rfl) (by kernel_rfl) (by kernel_rfl) (by kernel_rfl) (fun _ _ _ h => h) (by kernel_rfl) (fun w' hw' => ?_) ?_
          rotate_left
          · go_simp; with_reducible rfl
          simp only [Act.put, List.setIfInBounds_toArray, List.set_cons_zero, List.set_cons_succ]
          refine wpR_take (i := 8) (v := ?_) (Gr.road) (some 182) rfl (by kernel_rfl) (by kernel_rfl) (by kernel_rfl) (by kernel_rfl) (by kernel_rfl) (fun _ _ _ h => h) (by kernel_rfl) (fun w' hw' => ?_) ?_
          rotate_left
          · go_simp; with_reducible rfl
          simp only [Act.put, List.setIfInBounds_toArray, List.set_cons_zero, List.set_cons_succ]
          refine wpR_take (i := 11) (v := ?_) (Gr.road) (some 185) rfl (by kernel_rfl) (by kernel_rfl) (by kernel_rfl) (by kernel_rfl) (by kernel_rfl) (fun _ _ _ h => h) (by kernel_rfl) (fun w' hw' => ?_) ?_
          rotate_left
          · go_simp; with_reducible rfl
          simp only [Act.put, List.setIfInBounds_toArray, List.set_cons_zero, List.set_cons_succ]
          refine wpR_take (i := 12) (v := ?_) (Gr.road) (some 186) rfl (by kernel_rfl) (by kernel_rfl) (by kernel_rfl) (by kernel_rfl) (by kernel_rfl) (fun _ _ _ h => h) (by kernel_rfl) (fun w' hw' => ?_) ?_
          rotate_left
          · go_simp; with_reducible rfl
          simp only [Act.put, List.setIfInBounds_toArray, List.set_cons_zero, List.set_cons_succ]
          refine wpR_take (i := 13) (v := ?_) (Gr.road) (some 187) rfl (by kernel_rfl) (by kernel_rfl) (by kernel_rfl) (by kernel_rfl) (by kernel_rfl) (fun _ _ _ h => h) (by kernel_rfl) (fun w' hw' => ?_) ?_
          rotate_left
          · go_simp; with_reducible rfl
          simp only [Act.put, List.setIfInBounds_toArray, List.set_cons_zero, List.set_cons_succ]
          refine wpR_take (i := 14) (v := ?_) (Gr.road) (some 188) rfl (by kernel_rfl) (by kernel_rfl) (by kernel_rfl) (by kernel_rfl) (by kernel_rfl) (fun _ _ _ h => h) (by kernel_rfl) (fun w' hw' => ?_) ?_
          rotate_left
          · have r0' := (cellGr hw' (a := ⟨gr, 0, none⟩) hgl).trans r0; go_simp; with_reducible rfl
          simp only [Act.put, List.setIfInBounds_toArray, List.set_cons_zero, List.set_cons_succ]
          refine wpR_take (i := 15) (v := ?_) (Gr.road) (some 189) rfl (by kernel_rfl) (by kernel_rfl) (by kernel_rfl) (by kernel_rfl) (by kernel_rfl) (fun _ _ _ h => h) (by kernel_rfl) (fun w' hw' => ?_) ?_
          rotate_left
          · go_simp; with_reducible rfl
          simp only [Act.put, List.setIfInBounds_toArray, List.set_cons_zero, List.set_cons_succ]
          refine wpR_take (i := 16) (v := ?_) (Gr.road) (some 190) rfl (by kernel_rfl) (by kernel_rfl) (by kernel_rfl) (by kernel_rfl) (by kernel_rfl) (fun _ _ _ h => h) (by kernel_rfl) (fun w' hw' => ?_) ?_
          rotate_left
          · go_simp; with_reducible rfl
          simp only [Act.put, List.setIfInBounds_toArray, List.set_cons_zero, List.set_cons_succ]
          refine wpR_take (i := 17) (v := ?_) (Gr.road) (some 191) rfl (by kernel_rfl) (by kernel_rfl) (by kernel_rfl) (by kernel_rfl) (by kernel_rfl) (fun _ _ _ h => h) (by kernel_rfl) (fun w' hw' => ?_) ?_
          rotate_left
          · go_simp; with_reducible rfl
          simp only [Act.put, List.setIfInBounds_toArray, List.set_cons_zero, List.set_cons_succ]
          refine wpR_take (i := 18) (v := ?_) (Gr.road) (some 192) rfl (by kernel_rfl) (by kernel_rfl) (by kernel_rfl) (by kernel_rfl) (by kernel_rfl) (fun _ _ _ h => h) (by kernel_rfl) (fun w' hw' => ?_) ?_
          rotate_left
          · have r1' := (cellGr hw' (a := ⟨gr, 1, none⟩) hgl).trans r1; go_simp; with_reducible rfl
          simp only [Act.put, List.setIfInBounds_toArray, List.set_cons_zero, List.set_cons_succ]
          refine wpR_take (i := 19) (v := ?_) (Gr.road) (some 193) rfl (by kernel_rfl) (by kernel_rfl) (by kernel_rfl) (by kernel_rfl) (by kernel_rfl) (fun _ _ _ h => h) (by kernel_rfl) (fun w' hw' => ?_) ?_
          rotate_left
          · go_simp; with_reducible rfl
          simp only [Act.put, List.setIfInBounds_toArray, List.set_cons_zero, List.set_cons_succ]
          refine wpR_one 9 rfl (by kernel_rfl) (by kernel_rfl) (fun K hK => ?_)
          go_simp
          refine hby.out.mono ?_
          clear hby
          rintro e w6 ⟨v6, rfl, ho6, hg6⟩
          refine hK _ _ (fun _ => hg6) ?_
          clear hK K
          rw [hcat.out] at ho6
          obtain ⟨A6, c6, rfl, -⟩ := ho6.form
          rw [hnq.out] at ho6 ⊢
          have hlz := loose_any _ _ g s2 w6 (hPd.out.S.gr hg6).D
          rw [hlo.out] at hlz
          replace hlz := Lib.hid hlz
          replace ho6 := Lib.hid ho6
          have hP6 := Lib.hid (hPd.out.gr hg6)
          have s0 := (cellGr hg6 (a := ⟨gr, 0, none⟩) hgl).trans r0
          have s1 := (cellGr hg6 (a := ⟨gr, 1, none⟩) hgl).trans r1
          replace hgl : gr < w6.heap.size := Nat.lt_of_lt_of_le hgl hg6.size
          clear r0 r1 hg6
          try simp only [Act.put, List.setIfInBounds_toArray, List.set_cons_zero, List.set_cons_succ]
          refine wpR_take (i := 10) (v := ?_) (Gr.road) (some 184) rfl (by kernel_rfl) (by kernel_rfl) (by kernel_rfl) (by kernel_rfl) (by kernel_rfl) (fun _ _ _ h => h) (by kernel_rfl) (fun w' hw' => ?_) ?_
          rotate_left
          · have cv := run_str_at c6 (OB.below ho6.out hw').rd.1 hnq.out; go_simp; with_reducible rfl
          simp only [Act.put, List.setIfInBounds_toArray, List.set_cons_zero, List.set_cons_succ]
          refine wpR_take (i := 20) (v := ?_) (Gr.road) (some 194) rfl (by kernel_rfl) (by kernel_rfl) (by kernel_rfl) (by kernel_rfl) (by kernel_rfl) (fun _ _ _ h => h) (by kernel_rfl) (fun w' hw' => ?_) ?_
          rotate_left
          · go_simp; with_reducible rfl
          simp only [Act.put, List.setIfInBounds_toArray, List.set_cons_zero, List.set_cons_succ]
          refine wpR_take (i := 21) (v := ?_) (Gr.road) (some 195) rfl (by kernel_rfl) (by kernel_rfl) (by kernel_rfl) (by kernel_rfl) (by kernel_rfl) (fun _ _ _ h => h) (by kernel_rfl) (fun w' hw' => ?_) ?_
          rotate_left
          · go_simp; with_reducible rfl
          simp only [Act.put, List.setIfInBounds_toArray, List.set_cons_zero, List.set_cons_succ]
          refine wpR_take (i := 22) (v := ?_) (Gr.road) (some 196) rfl (by kernel_rfl) (by kernel_rfl) (by kernel_rfl) (by kernel_rfl) (by kernel_rfl) (fun _ _ _ h => h) (by kernel_rfl) (fun w' hw' => ?_) ?_
          rotate_left
          · go_simp; with_reducible rfl
          simp only [Act.put, List.setIfInBounds_toArray, List.set_cons_zero, List.set_cons_succ]
          refine wpR_take (i := 23) (v := ?_) (Gr.road) (some 197) rfl (by kernel_rfl) (by kernel_rfl) (by kernel_rfl) (by kernel_rfl) (by kernel_rfl) (fun _ _ _ h => h) (by kernel_rfl) (fun w' hw' => ?_) ?_
          rotate_left
          · go_simp; with_reducible rfl
          simp only [Act.put, List.setIfInBounds_toArray, List.set_cons_zero, List.set_cons_succ]
          refine wpR_take (i := 25) (v := ?_) (Gr.road) (some 199) rfl (by kernel_rfl) (by kernel_rfl) (by kernel_rfl) (by kernel_rfl) (by kernel_rfl) (fun _ _ _ h => h) (by kernel_rfl) (fun w' hw' => ?_) ?_
          rotate_left
          · go_simp; with_reducible rfl
          simp only [Act.put, List.setIfInBounds_toArray, List.set_cons_zero, List.set_cons_succ]
          refine wpR_take (i := 26) (v := ?_) (Gr.road) (some 200) rfl (by kernel_rfl) (by kernel_rfl) (by kernel_rfl) (by kernel_rfl) (by kernel_rfl) (fun _ _ _ h => h) (by kernel_rfl) (fun w' hw' => ?_) ?_
          rotate_left
          · go_simp; with_reducible rfl
          simp only [Act.put, List.setIfInBounds_toArray, List.set_cons_zero, List.set_cons_succ]
          refine wpR_take (i := 27) (v := ?_) (Gr.road) (some 201) rfl (by kernel_rfl) (by kernel_rfl) (by kernel_rfl) (by kernel_rfl) (by kernel_rfl) (fun _ _ _ h => h) (by kernel_rfl) (fun w' hw' => ?_) ?_
          rotate_left
          · go_simp; with_reducible rfl
          simp only [Act.put, List.setIfInBounds_toArray, List.set_cons_zero, List.set_cons_succ]
          refine wpR_take (i := 28) (v := ?_) (Gr.road) (some 202) rfl (by kernel_rfl) (by kernel_rfl) (by kernel_rfl) (by kernel_rfl) (by kernel_rfl) (fun _ _ _ h => h) (by kernel_rfl) (fun w' hw' => ?_) ?_
          rotate_left
          · have s1' := (cellGr hw' (a := ⟨gr, 1, none⟩) hgl).trans s1; go_simp; with_reducible rfl
          simp only [Act.put, List.setIfInBounds_toArray, List.set_cons_zero, List.set_cons_succ]
          refine wpR_take (i := 29) (v := ?_) (Gr.road) (some 203) rfl (by kernel_rfl) (by kernel_rfl) (by kernel_rfl) (by kernel_rfl) (by kernel_rfl) (fun _ _ _ h => h) (by kernel_rfl) (fun w' hw' => ?_) ?_
          rotate_left
          · go_simp; with_reducible rfl
          simp only [Act.put, List.setIfInBounds_toArray, List.set_cons_zero, List.set_cons_succ]
          refine wpR_one 24 rfl (by kernel_rfl) (by kernel_rfl) (fun K hK => ?_)
          go_simp
          refine hlz.out.mono ?_
          clear hlz
          rintro e w7 ⟨rfl, kk, hk7⟩
          have hg7 : Gr w6 w7 := by rw [hk7]; exact ⟨rfl, rfl, rfl, Nat.le_refl _, fun _ _ => rfl⟩
          simp only
          refine hK _ _ (fun _ => hg7) ?_
          clear hK K
          have hP7 := Lib.hid (hP6.out.gr hg7)
          clear hg7 hk7
          try simp only [Act.put, List.setIfInBounds_toArray, List.set_cons_zero, List.set_cons_succ]
          refine wpR_take (i := 30) (v := ?_) (Gr.road) (some 204) rfl (by kernel_rfl) (by kernel_rfl) (by kernel_rfl) (by kernel_rfl) (by kernel_rfl) (fun _ _ _ h => h) (by kernel_rfl) (fun w' hw' => ?_) ?_
          rotate_left
          · go_simp; with_reducible rfl
          simp only [Act.put, List.setIfInBounds_toArray, List.set_cons_zero, List.set_cons_succ]
          refine wpR_take (i := 31) (v := ?_) (Gr.road) (some 205) rfl (by kernel_rfl) (by kernel_rfl) (by kernel_rfl) (by kernel_rfl) (by kernel_rfl) (fun _ _ _ h => h) (by kernel_rfl) (fun w' hw' => ?_) ?_
          rotate_left
          · go_simp; with_reducible rfl
          simp only [Act.put, List.setIfInBounds_toArray, List.set_cons_zero, List.set_cons_succ]
          refine wpR_done (by kernel_rfl) ?_ _

          go_wp2_with fail
          go_roundg (30 - (i + 1))
          case measure => omega
          case rel => exact ⟨i + 1, J2, K2, z2, s2, rfl, rfl, by go_num, rfl, by omega, by omega, hzl2, hP7⟩
      · have hcs : ¬ (i : Int) < (n : Int) ∨ ((i : Int) < (n : Int) ∧ ¬ (i : Int) < 30) := by omega
        replace hlt := Lib.hid hlt
        rcases hcs with i1 | ⟨i1, i2⟩
        all_goals
          go_wp2_with fail
          refine (awake_any _).mono ?_
          rintro e w9 ⟨rfl, hg9⟩
          have hgf := Lib.hid (hP.out.gr hg9).S.B
          go_wp2_with fail
          go_ret
          exact ⟨rfl, hgf.out⟩
end Go.Proofs.Ytgdbbjijneidaaa
