/- scan: the law of shards that lack. -/
import Derived.Test.YtiliggleplpjbaaSc27
import Derived.Test.YtiliggleplpjbaaSc31
import Derived.BigQuiet
import Derived.Deep.CutBlock
namespace Go.Proofs.Ytiliggleplpjbaa
set_option linter.unusedVariables false
set_option linter.unusedSimpArgs false
open Go Go.RowKit Go.Maps Go.Proofs
def RU16 (w : World) (A : Option Addr) (n : Nat) (lk : List Nat) : Prop := Reads w w.heap.size 1 A n (lk.map (fun (x : Nat) => Value.int .u16 (x : Int)))
theorem RU16.gr {w w' : World} {A : Option Addr} {n : Nat} {l : List Nat} (hr : Gr w w') (h : RU16 w A n l) : RU16 w' A n l := Reads.more (Reads.below h hr) (Below.size hr)
theorem RU16.len {w : World} {A : Option Addr} {n : Nat} {l : List Nat} (h : RU16 w A n l) : l.length = n := by have := h.1; rw [List.length_map] at this; omega
theorem RU16.at_ {w : World} {A : Option Addr} {n : Nat} {l : List Nat} (h : RU16 w A n l) {k x : Nat} (hk : l[k]? = some x) : ∃ ad, A = some ad ∧ w.cell? (ad.add k) = some (.int .u16 x) := by
  have hkn : k < n := by rw [← h.len]; exact (List.getElem?_eq_some_iff.mp hk).1
  obtain ⟨ad, u, e, -, hu, hc⟩ := Reads.at_ h hkn
  rw [List.getElem?_map, hk] at hu
  injection hu with hu
  exact ⟨ad, e, by rw [hc, ← hu]⟩
theorem kKpz {z : Int} (z0 : 0 ≤ z) (z1 : z ≤ 512) : Kp kKey 7 z (digL z) (List.replicate 16 0) 5 := ⟨by decide, by decide, by decide, by decide, z0, z1, by rfl, by decide, by decide, by decide⟩
theorem kept_succ (key : By) (gen size : Int) (sum data : By) (frm : Int) (keep : Nat → Bool) (i : Nat) : keptL key gen size sum data frm keep (i + 1) = keptL key gen size sum data frm keep i ++ (if keep i = true then [shardAt key gen size sum data frm i] else []) := by
  unfold keptL
  rw [List.range_succ, List.filter_append, List.map_append]
  congr 1
  by_cases h : keep i = true
  · rw [if_pos h, List.filter_cons_of_pos h]; rfl
  · rw [if_neg h, List.filter_cons_of_neg h]; rfl
theorem info_int9 : (Try.prog.info? 3).map (fun i => (i.zero, i.size, i.bytes)) = some (some (.int .i64 0), 1, 8) := by kernel_rfl
theorem lost_make (lk : List Nat) (q : World) : (Instr.makeSlice 48 (.int .i64 4) (.int .i64 4)).run Try.prog q = .ok (.slice (some ⟨q.heap.size, 0, none⟩) 4 4) (q.alloc (.cells (lostC lk 0) 3)) := by
  obtain ⟨i0, hi, hz0, hz1, hz2⟩ := info_parts info_int9
  have h := run_make (P := Try.prog) q 48 3 i0 _ Try.underlying48 hi hz0 .i64 .i64 4 4 (by omega) (by omega) (by rw [hz2]; omega) (by omega)
  rw [h, hz1]
  rw [show (Value.int .i64 0).cells = #[.int .i64 0] from rfl, madeCells_one]
  rfl
theorem lostN_le (lk : List Nat) (g i : Nat) : lostN lk g i ≤ i := by
  unfold lostN
  have := List.length_filter_le (fun s => decide (s / 10 = g) && goneP lk s) (List.range i)
  rwa [List.length_range] at this
theorem of_row {E : List Fe} {v : Value} {m : Nat} {w1 W : World} (hl : E.length = m) (h : W.ownsRow w1.heap.size 39 12 v m (flatF E)) (hv : ∀ x ∈ E, FeV x w1) (hg : Gr w1 W) : OF E v w1.heap.size W := by
  subst hl
  refine ⟨h, fun x hx => (hv x hx).gr hg, fun x hx => ?_⟩
  cases hu : v.ownBlock with
  | none => exact AptF.none_ _
  | some k => exact (hv x hx).fresh (World.ownsRow.lt h k hu).1
theorem copyF_at {key : By} {gen z frm : Int} {n i : Nat} (hi : i < n) : (copyF key gen z frm n)[i]? = some (shardAt key gen z (digL z) (List.replicate 16 0) frm i) := by
  unfold copyF
  rw [List.getElem?_map, List.getElem?_range hi]
  rfl
set_option maxRecDepth 100000 in
set_option maxHeartbeats 8000000 in
theorem scanFew_any (a : Nat) (ha : a < 65536) (LA : Option Addr) (lm lc : Nat) (lk : List Nat) (hlm : lm ≤ lc) (hlc : lc ≤ maxLen) (w : World) (hlk : RU16 w LA lm lk) : Calls Try.prog 7 #[.int .u16 (a : Nat), .slice LA lm lc] w fun e w' => e = .returned (.bool true) ∧ Gr w w' := by
  obtain ⟨zn, hzn⟩ : ∃ x : Nat, a % 513 = x := ⟨_, rfl⟩
  have hz512 : zn ≤ 512 := by omega
  have ez : (a : Int) % 513 = (zn : Int) := by omega
  have hlm2 : lm ≤ 9223372036854775807 := by simp only [maxLen] at hlc; omega
  clear hzn ha
  have hco := Lib.hid (copyOf_any [107] 7 (zn : Int) 5 (by omega) (by omega) (by decide) (by decide) w)
  obtain ⟨z, hz⟩ : ∃ z : Int, (zn : Int) = z := ⟨_, rfl⟩
  have hK : Kp kKey 7 z (digL z) (List.replicate 16 0) 5 := kKpz (by omega) (by omega)
  obtain ⟨G, hG1, hG4, hgs, hsl⟩ := hK.slots
  obtain ⟨gs, hgse⟩ : ∃ x, groupsOf z = x := ⟨_, rfl⟩
  rw [hz] at hco ez
  have hK' := Lib.hid hK
  clear hK hz hz512
  have hmk : ∀ q : World, (Instr.makeSlice 48 (.int .i64 4) (.int .i64 4)).run Try.prog q = .ok (.slice (some ⟨q.heap.size, 0, none⟩) 4 4) (q.alloc (.cells (lostC lk 0) 3)) := lost_make lk
  have hawk := Lib.hid awake_any
  replace hlk := Lib.hid hlk
  replace hgs := Lib.hid hgs
  replace hgse := Lib.hid hgse
  replace hsl := Lib.hid hsl
  go_enter Try.func7, Try.ntmps7
  go_upto_region 2 with (go_at_call 17; go_must (refine hco.out.mono ?_); clear hco; rintro e w1 ⟨A1, m1, c1, rfl, hm1, hcp1, hg1⟩; replace hm1 := Lib.hid hm1; replace hg1 := Lib.hid hg1)
  have hmN : m1 = 10 * G := by rw [hm1.out]; exact hsl.out
  obtain ⟨E1, hE1, hO1⟩ := hcp1.out
  have hl1 : E1.length = m1 := by have := congrArg List.length hE1; rw [List.length_map, copyF_len] at this; exact this
  have hL := Lib.hid hO1.fs
  have hE1k := hE1
  rw [copyF_kept] at hE1k
  obtain ⟨w2, hw2⟩ : ∃ x, w1.alloc (.cells #[] 39) = x := ⟨_, rfl⟩
  have hg2 : Gr w1 w2 := by rw [← hw2]; exact Gr.alloc _ _
  have hr2 := OF.lit0 hw2 (Nat.le_refl w1.heap.size)
  obtain ⟨w3, hw3⟩ : ∃ x, w2.alloc (.cells (lostC lk 0) 3) = x := ⟨_, rfl⟩
  have hg3 : Gr w2 w3 := by rw [← hw3]; exact Gr.alloc _ _
  have hLB3 : w3.heap[w2.heap.size]? = some (.cells (lostC lk 0) 3 (0, 0)) := by rw [← hw3]; exact heap_alloc_new w2 _
  have hr3 := OF.gr hg3 (Lib.hid hr2)
  obtain ⟨LB, hLBe⟩ : ∃ n, w2.heap.size = n := ⟨_, rfl⟩
  rw [hLBe] at hLB3
  have hLBw : Hid (w1.heap.size ≤ LB) := Lib.hid (by rw [← hLBe]; exact Below.size hg2)
  have hg13 : Hid (Gr w1 w3) := Lib.hid (hg2.trans hg3)
  replace hLB3 := Lib.hid hLB3
  replace hr2 := Lib.hid hr2
  replace hg2 := Lib.hid hg2
  replace hg3 := Lib.hid hg3
  replace hE1 := Lib.hid hE1
  replace hE1k := Lib.hid hE1k
  replace hl1 := Lib.hid hl1
  replace hmN := Lib.hid hmN
  replace hO1 := Lib.hid hO1
  have hm40 : m1 ≤ 40 := by have := hmN.out; omega
  clear hcp1 hm1 ez
  go_upto_region 4 with (fail)
  go_upto_region 5 with (fail)
  replace hw2 := Lib.hid hw2
  replace hw3 := Lib.hid hw3
  replace hLBe := Lib.hid hLBe
  clear hmk
  go_wp2_with fail
  go_loopw [6, 7, 9] (fun o v u wr => ∃ (i m6 most : Nat) (A6 : Option Addr) (c6 : Nat), i ≤ m1 ∧ u = .int .i64 i ∧ v = .int .i64 most ∧ o = .slice A6 m6 c6 ∧ m6 ≤ i ∧ most ≤ 40 ∧ Hid (MostI lk i most) ∧ Hid (∃ E6 : List Fe, E6.length = m6 ∧ E6.map (fun x => x.f) = keptL kKey 7 z (digL z) (List.replicate 16 0) 5 (keepF lk) i ∧ wr.ownsRow w1.heap.size 39 12 (.slice A6 m6 c6) m6 (flatF E6) ∧ ∀ x ∈ E6, FeV x w1) ∧ Hid (wr.heap[LB]? = some (.cells (lostC lk i) 3 (0, 0))) ∧ Hid (Gr w1 wr)) (fun _ _ u _ => m1 - (intOf u).toNat)
  case atStart => exact ⟨0, 0, 0, _, _, Nat.zero_le _, rfl, rfl, rfl, Nat.le_refl _, by omega, Lib.hid (MostI.zero lk), Lib.hid ⟨[], rfl, rfl, hr3.out.row, fun x h => (by cases h)⟩, hLB3, hg13⟩
  case round =>
    obtain ⟨i, m6, most, A6, c6, hi, rfl, rfl, rfl, hm6, hm40', hmo, hrow, hLB, hgr⟩ := hrel
    clear hr3 hLB3 hg13 hr2
    by_cases hlt : i < m1
    · have ii : (i : Int) < (m1 : Int) := by omega
      obtain ⟨x, hx⟩ : ∃ x, E1[i]? = some x := ⟨_, List.getElem?_eq_getElem (by rw [hl1.out]; exact hlt)⟩
      have hxf : x.f = shardAt kKey 7 z (digL z) (List.replicate 16 0) 5 i := by
        have h1 := congrArg (fun l => l[i]?) hE1.out
        have h2 : (copyF kKey 7 z 5 m1)[i]? = some (shardAt kKey 7 z (digL z) (List.replicate 16 0) 5 i) := copyF_at hlt
        simp only [List.getElem?_map, hx, Option.map_some] at h1
        have h3 : some x.f = (copyF kKey 7 z 5 m1)[i]? := h1
        rw [h2] at h3
        injection h3
      obtain ⟨b, o, rfl, hbl, hxv, hxc⟩ := hL.out.get hx
      obtain ⟨xe, hxe⟩ : ∃ y, y = x := ⟨_, rfl⟩
      obtain ⟨xf, xA, xc⟩ := x
      simp only at hxf hxc
      subst hxf
      obtain ⟨g, hg⟩ : ∃ n, i / 10 = n := ⟨_, rfl⟩
      obtain ⟨ix, hix⟩ : ∃ n, i % 10 = n := ⟨_, rfl⟩
      unfold shardAt at hxc
      simp only [hg, hix, hgse.out, List.length_replicate] at hxc
      have hg4 : g < 4 := by omega
      have hix10 : ix < 10 := by omega
      have hxcs : xe.cells.toArray = #[.int .i64 (ix : Nat), .int .i64 (5 + (g : Nat)), .int .i64 2, .int .i64 0, .string (bs kKey), .int .i64 7, .int .i64 (g : Nat), .int .i64 gs, .int .i64 (ix : Nat), .int .i64 z, .string (bs (digL z)), .slice xA 16 xc] := by
        rw [hxe]
        unfold shardAt Fe.cells
        simp only [hg, hix, hgse.out, List.length_replicate]
      have hxef : xe.f = shardAt kKey 7 z (digL z) (List.replicate 16 0) 5 i := by rw [hxe]
      have hxev : FeV xe w1 := by rw [hxe]; exact hxv
      obtain ⟨y0, y1, y2, y3, y4, y5, y6, y7, y8, y9, y10, y11⟩ := hxc wr hgr.out
      obtain ⟨W8, hW8⟩ : ∃ W8, wr.alloc (.cells #[.int .i64 2, .int .i64 0, .string (bs kKey), .int .i64 7, .int .i64 (g : Nat), .int .i64 gs, .int .i64 (ix : Nat), .int .i64 z, .string (bs (digL z)), .slice xA 16 xc] 37) = W8 := ⟨_, rfl⟩
      have hgW8 : Gr wr W8 := by rw [← hW8]; exact Gr.alloc _ _
      have hR8 : W8.heap[wr.heap.size]? = some (.cells #[.int .i64 2, .int .i64 0, .string (bs kKey), .int .i64 7, .int .i64 (g : Nat), .int .i64 gs, .int .i64 (ix : Nat), .int .i64 z, .string (bs (digL z)), .slice xA 16 xc] 37 (0, 0)) := by rw [← hW8]; exact heap_alloc_new wr _
      obtain ⟨RB, hRB⟩ : ∃ n, wr.heap.size = n := ⟨_, rfl⟩
      rw [hRB] at hR8
      replace hg := Lib.hid hg
      replace hix := Lib.hid hix
      replace hx := Lib.hid hx
      replace hxe := Lib.hid hxe
      replace hxv := Lib.hid hxv
      replace hxev := Lib.hid hxev
      replace hxef := Lib.hid hxef
      replace hxcs := Lib.hid hxcs
      replace hgW8 := Lib.hid hgW8
      replace hR8 := Lib.hid hR8
      have hxc' := Lib.hid hxc
      clear hxc
      go_upto_region 9 with (fail)
      clear y0 y1 y2 y3 y4 y5 y6 y7 y8 y9 y10 y11
      replace hW8 := Lib.hid hW8
      replace hRB := Lib.hid hRB
      have hg18 : Hid (Gr w1 W8) := Lib.hid (hgr.out.trans hgW8.out)
      have hlk8 := Lib.hid (RU16.gr (hg1.out.trans hg18.out) hlk.out)
      go_cut [51] (fun v wq => v = .bool (goneP lk i) ∧ Hid (Gr W8 wq))
      case first =>
        have z4 := blk_cell (j := 4) hR8.out rfl
        have z6 := blk_cell (j := 6) hR8.out rfl
        by_cases hgl : g < lm
        · have jj : (g : Int) < (lm : Int) := by omega
          obtain ⟨x9, hx9⟩ : ∃ x, lk[g]? = some x := ⟨_, List.getElem?_eq_getElem (by rw [hlk8.out.len]; exact hgl)⟩
          obtain ⟨ad, rfl, hc9⟩ := hlk8.out.at_ hx9
          have hgo : Hid (goneP lk i = lackP x9 ix) := Lib.hid (by unfold goneP; rw [hg.out, hx9, hix.out])
          replace hx9 := Lib.hid hx9
          cases hp : lackP x9 ix with
          | true =>
            have hb := lackP_yes9 hp
            replace hp := Lib.hid hp
            go_quiet (fail)
            go_wp2_with fail
            go_meet
            exact ⟨by rw [hgo.out, hp.out], Lib.hid (Gr.drewN _ _)⟩
          | false =>
            have hb := lackP_no9 hp
            replace hp := Lib.hid hp
            go_quiet (fail)
            go_wp2_with fail
            go_meet
            exact ⟨by rw [hgo.out, hp.out], Lib.hid (Gr.drewN _ _)⟩
        · have jj : ¬ (g : Int) < (lm : Int) := by omega
          have hgo : goneP lk i = false := by
            unfold goneP
            rw [hg.out, List.getElem?_eq_none (by rw [hlk8.out.len]; omega)]
          replace hgo := Lib.hid hgo
          go_quiet (fail)
          go_wp2_with fail
          go_meet
          exact ⟨by rw [hgo.out], Lib.hid (Gr.drewN _ _)⟩
      case rest =>
        obtain ⟨rfl, hg9⟩ := hcut
        rename World => W9
        have hgr9 : Hid (Gr wr W9) := Lib.hid (hgW8.out.trans hg9.out)
        have hg19 : Hid (Gr w1 W9) := Lib.hid (hgr.out.trans hgr9.out)
        have hR9 := Lib.hid (blk_below hR8.out hg9.out)
        have hLB9 := Lib.hid (blk_below hLB.out hgr9.out)
        cases hgo : goneP lk i with
        | true =>
          have hkp := Lib.hid (kept_succ kKey 7 z (digL z) (List.replicate 16 0) 5 (keepF lk) i)
          have hkf : Hid (keepF lk i = false) := Lib.hid (by unfold keepF; rw [hgo]; rfl)
          have hmy := MostI.yes hmo.out (by omega) hgo
          obtain ⟨L, hLn⟩ : ∃ L, lostN lk g i = L := ⟨_, rfl⟩
          have hL40 : L ≤ 39 := by have := lostN_le lk g i; omega
          have hlc := blk_cell (j := g) hLB9.out (lostC_at lk i hg4)
          have hlf := blk_free hLB9.out g
          have hly := lostC_yes hg4 hg.out hgo
          have hls : lostN lk g (i + 1) = L + 1 := by rw [lostN_succ, if_pos ⟨hg.out, hgo⟩, hLn]
          rw [hLn] at hlc hly
          rw [hg.out, hLn] at hmy
          obtain ⟨WS, hWS⟩ : ∃ x, W9.setCell ⟨LB, g, none⟩ (.int .i64 ((L : Int) + 1)) = x := ⟨_, rfl⟩
          have hLBS : WS.heap[LB]? = some (.cells (lostC lk (i + 1)) 3 (0, 0)) := by rw [← hWS, ← hly]; exact blk_set hLB9.out g _
          have hlcS := blk_cell (j := g) hLBS (lostC_at lk (i + 1) hg4)
          rw [hls] at hlcS
          have hlcS2 : WS.cell? ⟨LB, g, none⟩ = some (.int .i64 ((L : Int) + 1)) := hlcS
          clear hlcS
          have hRS : WS.heap[RB]? = some (.cells #[.int .i64 2, .int .i64 0, .string (bs kKey), .int .i64 7, .int .i64 (g : Nat), .int .i64 gs, .int .i64 (ix : Nat), .int .i64 z, .string (bs (digL z)), .slice xA 16 xc] 37 (0, 0)) := by
            rw [← hWS]
            refine (blk_other (fun e => ?_) g _).trans hR9.out
            have h1 := hR9.out
            rw [e, hLB9.out] at h1
            injection h1 with h1
            injection h1 with _ h1
            exact absurd h1 (by decide)
          have hgS : Hid (Gr w1 WS) := Lib.hid (by rw [← hWS]; exact Below.setCell hg19.out (p := ⟨LB, g, none⟩) hLBw.out _)
          have hrowS : Hid (∃ E6 : List Fe, E6.length = m6 ∧ E6.map (fun x => x.f) = keptL kKey 7 z (digL z) (List.replicate 16 0) 5 (keepF lk) (i + 1) ∧ WS.ownsRow w1.heap.size 39 12 (.slice A6 m6 c6) m6 (flatF E6) ∧ ∀ x ∈ E6, FeV x w1) := Lib.hid (by
            obtain ⟨E6, h1, h2, h3, h4⟩ := hrow.out
            refine ⟨E6, h1, by rw [hkp.out, hkf.out, h2]; simp, ?_, h4⟩
            rw [← hWS]
            have h5 := row_below h3 hgr9.out
            exact row_set_other h5 _ _ _ (fun e => row_ne h5 hLB9.out (by decide) e))
          have zg := blk_cell (j := 4) hR9.out rfl
          have zgS := blk_cell (j := 4) hRS rfl
          replace hgo := Lib.hid hgo
          replace hLn := Lib.hid hLn
          replace hly := Lib.hid hly
          replace hls := Lib.hid hls
          replace hLBS := Lib.hid hLBS
          replace hRS := Lib.hid hRS
          by_cases hm : most < L + 1
          · rw [if_pos hm] at hmy
            have jm : (most : Int) < (L : Int) + 1 := by omega
            replace hmy := Lib.hid hmy
            go_wp2_with fail
            go_roundw
            case rel => exact ⟨i + 1, m6, L + 1, A6, c6, by omega, by go_num, by go_num, rfl, by omega, by omega, hmy, hrowS, hLBS, hgS⟩
            case measure => simp [intOf]; omega
          · rw [if_neg hm] at hmy
            have jm : ¬ (most : Int) < (L : Int) + 1 := by omega
            replace hmy := Lib.hid hmy
            go_wp2_with fail
            go_roundw
            case rel => exact ⟨i + 1, m6, most, A6, c6, by omega, by go_num, rfl, rfl, by omega, by omega, hmy, hrowS, hLBS, hgS⟩
            case measure => simp [intOf]; omega
        | false =>
          have hkp := Lib.hid (kept_succ kKey 7 z (digL z) (List.replicate 16 0) 5 (keepF lk) i)
          have hkf : Hid (keepF lk i = true) := Lib.hid (by unfold keepF; rw [hgo]; rfl)
          have hmn := Lib.hid (MostI.no hmo.out hgo)
          have hlno := Lib.hid (lostC_no hgo)
          obtain ⟨E6, h61, h62, h63, h64⟩ := hrow.out
          obtain ⟨y0, y1, y2, y3, y4, y5, y6, y7, y8, y9, y10, y11⟩ := hxc'.out W9 hg19.out
          obtain ⟨W1, hW1⟩ : ∃ W1, W9.alloc (.cells #[.int .i64 (ix : Nat), .int .i64 (5 + (g : Nat)), .int .i64 2, .int .i64 0, .string (bs kKey), .int .i64 7, .int .i64 (g : Nat), .int .i64 gs, .int .i64 (ix : Nat), .int .i64 z, .string (bs (digL z)), .slice xA 16 xc] 39) = W1 := ⟨_, rfl⟩
          have hgW : Gr W9 W1 := by rw [← hW1]; exact Gr.alloc _ _
          have hrd := Lib.hid (reads_lit W9 xe hxcs.out hW1)
          have hgw1 : Hid (Gr w1 W1) := Lib.hid (hg19.out.trans hgW)
          have hO6 : OF E6 (.slice A6 m6 c6) w1.heap.size W1 := of_row h61 (row_below h63 (hgr9.out.trans hgW)) h64 hgw1.out
          have hqq : Hid (∀ y ∈ [xe], FeV y W1 ∧ AptF y (.slice A6 m6 c6 : Value).ownBlock) := Lib.hid (fun y hy => by
            rw [List.mem_singleton] at hy
            subst hy
            refine ⟨hxev.out.gr hgw1.out, ?_⟩
            cases hu : (Value.slice A6 m6 c6).ownBlock with
            | none => exact AptF.none_ _
            | some k => exact hxev.out.fresh (World.ownsRow.lt hO6.row k hu).1)
          have hbW : Hid (w1.heap.size ≤ W1.heap.size) := Lib.hid (Below.size hgw1.out)
          have hLB1 := Lib.hid (blk_below hLB9.out hgW)
          have hlm6 : E6.length ≤ 1000000 := by omega
          have hrn : Hid ((Value.slice A6 m6 c6).ownBlock ≠ some LB) := Lib.hid (row_ne hO6.row hLB1.out (by decide))
          have hfr : Hid (∀ y ∈ E6 ++ [xe], FeV y w1) := Lib.hid (fun y hy => by
            rcases List.mem_append.mp hy with hy | hy
            · exact h64 y hy
            · rw [List.mem_singleton] at hy; subst hy; exact hxev.out)
          have hmp : Hid ((E6 ++ [xe]).map (fun x => x.f) = keptL kKey 7 z (digL z) (List.replicate 16 0) 5 (keepF lk) (i + 1)) := Lib.hid (by rw [List.map_append, h62, hkp.out, hkf.out, List.map_singleton, hxef.out]; rfl)
          replace hO6 := Lib.hid hO6
          replace h61 := Lib.hid h61
          replace h62 := Lib.hid h62
          replace h63 := Lib.hid h63
          replace h64 := Lib.hid h64
          replace hgo := Lib.hid hgo
          replace hgW := Lib.hid hgW
          clear hrow hxc'
          go_wp2_with (at_builtin; (refine wpl_appF rfl (.tmp 71) (.tmp 76) rfl w1.heap.size (.slice A6 m6 c6) E6 [xe] rfl hO6.out (some ⟨W9.heap.size, 0, none⟩) 1 1 rfl rfl hrd.out hqq.out hlm6 (by decide) hbW.out ?_); intro v3 W3 hO3 hg3 hb3; obtain ⟨A3, c3, rfl, -, -⟩ := hO3.form; have hl3 : (E6 ++ [xe]).length = m6 + 1 := (by rw [List.length_append, h61.out]; rfl); rw [hl3] at hO3 ⊢; have hrw3 := hO3.row; rw [hl3] at hrw3; replace hrw3 := Lib.hid hrw3; replace hl3 := Lib.hid hl3; replace hO3 := Lib.hid hO3; have hgw3 : Hid (Gr w1 W3) := Lib.hid (Below.trans hgw1.out hb3); have hLB3 : Hid (W3.heap[LB]? = some (.cells (lostC lk (i + 1)) 3 (0, 0))) := Lib.hid (by rw [hlno.out]; exact (hg3.block LB (blk_lt hLB1.out) (fun e => hrn.out e.symm)).trans hLB1.out); replace hb3 := Lib.hid hb3; replace hg3 := Lib.hid hg3)
          go_roundw
          case rel => exact ⟨i + 1, m6 + 1, most, A3, c3, by omega, by go_num, rfl, rfl, by omega, by omega, hmn, Lib.hid ⟨_, hl3.out, hmp.out, hrw3.out, hfr.out⟩, hLB3, hgw3⟩
          case measure => simp [intOf]; omega
    · obtain rfl : i = m1 := by omega
      obtain ⟨E6, h61, h62, h63, h64⟩ := hrow.out
      have hO6 := of_row h61 h63 h64 hgr.out
      obtain ⟨KC, hKC⟩ : ∃ C, keptL kKey 7 z (digL z) (List.replicate 16 0) 5 (keepF lk) (nSlots ⟨kKey, 7, z, digL z⟩) = C := ⟨_, rfl⟩
      have h62' : E6.map (fun x => x.f) = KC := by rw [← hKC, hsl.out, ← hmN.out]; exact h62
      have hcF := cF_all h62' (fun f hf => by rw [← hKC] at hf; exact hK'.out.cnts f hf)
      have hok6 := oks h62' (fun f hf => by rw [← hKC] at hf; exact kept_ok hK'.out hf)
      have hbs := Lib.hid (bestV_any E6 _ wr hO6.fs hok6 (by omega))
      rw [hcF] at hbs
      have hmo' : Hid (MostI lk (10 * G) most) := Lib.hid (by rw [← hmN.out]; exact hmo.out)
      generalize mostG KC = mg at hbs
      replace hO6 := Lib.hid hO6
      replace h61 := Lib.hid h61
      replace h62 := Lib.hid h62
      replace h62' := Lib.hid h62'
      replace h63 := Lib.hid h63
      replace h64 := Lib.hid h64
      replace hcF := Lib.hid hcF
      replace hKC := Lib.hid hKC
      clear hrow
      go_upto_region 15 with (go_at_call 10; go_must (refine hbs.out.mono ?_); clear hbs; rintro e w5 ⟨A5, c5, Z5, rfl, hI5, hZ5, hg5⟩; replace hg5 := Lib.hid hg5)
      have hg15 : Hid (Gr w1 w5) := Lib.hid (hgr.out.trans hg5.out)
      by_cases hm2 : 2 < most
      · obtain ⟨g0, hg0, hk0⟩ := MostI.many hmo'.out hm2
        have hz0 := hK'.out.out_none (keepF lk) (by rw [hKC.out]; exact hI5.out) (g := g0) (by rw [hsl.out]; exact hg0) hk0
        obtain rfl : Z5 = [] := List.map_eq_nil_iff.mp hz0
        simp only [List.length_nil]
        have jm : (2 : Int) < (most : Int) := by omega
        clear hg0 hk0 hz0
        go_wp2_with (go_at_call 12; go_must (refine (hawk.out _).mono ?_); rintro e w8 ⟨rfl, hg8⟩; replace hg8 := Lib.hid hg8)
        go_ret
        exact ⟨rfl, hg1.out.trans (hg15.out.trans hg8.out)⟩
      · have jm : ¬ (2 : Int) < (most : Int) := by omega
        have hone := hK'.out.out_some (keepF lk) (by rw [hKC.out]; exact hI5.out) (fun g hg => MostI.few hmo'.out (by omega) hG4 g (by rw [hsl.out] at hg; exact hg))
        rw [hKC.out] at hone
        obtain ⟨zz, hzz⟩ : ∃ zz, Z5 = [zz] := by
          cases Z5 with
          | nil => cases hone
          | cons zz l =>
            cases l with
            | nil => exact ⟨zz, rfl⟩
            | cons y l => simp at hone
        subst hzz
        rw [List.map_singleton] at hone
        injection hone with hze _
        have hpl := hK'.out.places (keepF lk)
        rw [hKC.out, hsl.out, ← hmN.out] at hpl
        obtain ⟨⟨zk, zg, zz9, zu, pl⟩, zA, zc⟩ := zz
        injection hze with e1 e2 e3 e4 e5
        have e5 : pl = placesOf KC ⟨kKey, 7, z, digL z⟩ := e5
        rw [hpl] at e5
        have hpll : pl.length = i := by rw [e5]; simp
        have hpat : Hid (∀ s, s < i → pl[s]? = some (if keepF lk s = true then (((s % 10 : Nat) : Int), 5 + ((s / 10 : Nat) : Int)) else nowP)) := Lib.hid (fun s hs => by rw [e5, List.getElem?_map, List.getElem?_range hs]; rfl)
        obtain ⟨zb, zo, rfl, hzb, hzp, hzc⟩ := hZ5.out.get (i := 0) rfl
        simp only [hpll] at hzc hzp
        subst e1 e2
        clear e3 e4 e5 hpl
        have hzc' := Lib.hid hzc
        obtain ⟨u0, u1, u2, u3, u4⟩ := hzc w5 (Gr.refl _)
        rw [Nat.zero_mul, Nat.add_zero] at u0 u1 u4
        clear hzc u2 u3
        obtain ⟨pA, pc, ep, hp1, hp2, hp3, -⟩ := hzp
        injection ep with ep ed ep2
        subst ep ep2
        clear ed
        replace hp3 := Lib.hid hp3
        replace hpll := Lib.hid hpll
        replace hp2 := Lib.hid hp2
        rw [hpll.out] at hp1
        simp only [List.length_singleton]
        have hi9 : i ≤ 9223372036854775807 := by omega
        go_upto_region 19 with (fail)
        try (rename kKey = [107] => hkk; clear hkk)
        clear u0 u1 u4
        go_wp2_with fail
        go_loopw [13] (fun u wr' => ∃ j : Nat, j ≤ i ∧ u = .int .i64 j ∧ Hid (Gr w5 wr')) (fun u _ => i - (intOf u).toNat)
        case atStart => exact ⟨0, Nat.zero_le _, rfl, Lib.hid (Gr.refl _)⟩
        case round =>
          obtain ⟨j, hj, rfl, hgj⟩ := hrel
          rename World => wq
          by_cases hlt : j < i
          · have jj : (j : Int) < (i : Int) := by omega
            obtain ⟨x, hx⟩ : ∃ x, E1[j]? = some x := ⟨_, List.getElem?_eq_getElem (by rw [hl1.out]; exact hlt)⟩
            have hxf : x.f = shardAt kKey 7 z (digL z) (List.replicate 16 0) 5 j := by
              have h1 := congrArg (fun l => l[j]?) hE1.out
              have h2 : (copyF kKey 7 z 5 i)[j]? = some (shardAt kKey 7 z (digL z) (List.replicate 16 0) 5 j) := copyF_at hlt
              simp only [List.getElem?_map, hx, Option.map_some] at h1
              have h3 : some x.f = (copyF kKey 7 z 5 i)[j]? := h1
              rw [h2] at h3
              injection h3
            obtain ⟨b, o, rfl, hbl, hxv, hxc⟩ := hL.out.get hx
            obtain ⟨xf, xA, xc⟩ := x
            simp only at hxf hxc
            subst hxf
            obtain ⟨g, hg⟩ : ∃ n, j / 10 = n := ⟨_, rfl⟩
            obtain ⟨ix, hix⟩ : ∃ n, j % 10 = n := ⟨_, rfl⟩
            unfold shardAt at hxc
            simp only [hg, hix, hgse.out, List.length_replicate] at hxc
            have hg4 : g < 4 := by omega
            have hix10 : ix < 10 := by omega
            obtain ⟨pb, po, rfl, hpb, hpcell⟩ := hp3.out (by rw [hpll.out]; omega)
            obtain ⟨⟨px, py⟩, hpp⟩ : ∃ p, pl[j]? = some p := ⟨_, hpat.out j hlt⟩
            have hpv := hpat.out j hlt
            rw [hpp, hg, hix] at hpv
            injection hpv with hpv
            obtain ⟨c0, c1'⟩ := hpcell j _ hpp
            simp only at c0 c1'
            have hP : Hid (∀ y, Gr w5 y → y.cell? ⟨pb, po + j * 2, none⟩ = some (.int .i64 px) ∧ y.cell? ⟨pb, po + j * 2 + 1, none⟩ = some (.int .i64 py)) := Lib.hid (fun y hy => ⟨(cellGr hy (a := ⟨pb, po + j * 2, none⟩) hpb).trans c0, (cellGr hy (a := ⟨pb, po + j * 2 + 1, none⟩) hpb).trans c1'⟩)
            clear c0 c1' hpcell
            replace hg := Lib.hid hg
            replace hix := Lib.hid hix
            replace hx := Lib.hid hx
            replace hpp := Lib.hid hpp
            replace hxv := Lib.hid hxv
            replace hpv := Lib.hid hpv
            have hxc' := Lib.hid hxc
            clear hxc
            go_upto_region 22 with (fail)
            go_cut [14, 15] from 118 to 190 (fun v p wx => ∃ R P : Nat, v = .pointer (some ⟨R, 0, none⟩) ∧ p = .pointer (some ⟨P, 0, none⟩) ∧ Hid (wx.heap[R]? = some (.cells #[.int .i64 2, .int .i64 0, .string (bs kKey), .int .i64 7, .int .i64 (g : Nat), .int .i64 gs, .int .i64 (ix : Nat), .int .i64 z, .string (bs (digL z)), .slice xA 16 xc] 37 (0, 0))) ∧ Hid (wx.heap[P]? = some (.cells #[.int .i64 px, .int .i64 py] 34 (0, 0))) ∧ Hid (Gr wq wx))
            case first =>
              obtain ⟨wd, hwd⟩ : ∃ wd, wd = wq.drew := ⟨_, rfl⟩
              have hgdd : Hid (Gr wq wd) := Lib.hid (by rw [hwd]; exact (Below.refl _ _).drew)
              have hxq : Hid (∀ y, Below wq.heap.size wd y → Gr w1 y ∧ Gr w5 y) := Lib.hid (fun y hy => by
                have h1 : Gr wq y := Below.trans hgdd.out hy
                exact ⟨hg15.out.trans (hgj.out.trans h1), hgj.out.trans h1⟩)
              refine wpR_region (Below wq.heap.size) 9999 (by kernel_rfl) ?_
              (rw [← hwd]; replace hwd := Lib.hid hwd)
              refine wpR_take (i := 0) (v := ?_) (⟨fun x => Below.refl _ x, fun h1 h2 => h1.trans h2⟩) (some 124) rfl (by kernel_rfl) (by kernel_rfl) (by kernel_rfl) (by kernel_rfl) (by kernel_rfl) (fun _ _ _ h => h) (by kernel_rfl) (fun w' hw' => ?_) ?_
              rotate_left
              · go_simp; with_reducible rfl
              simp only [Act.put, List.setIfInBounds_toArray, List.set_cons_zero, List.set_cons_succ]
              refine wpR_take (i := 1) (v := ?_) (⟨fun x => Below.refl _ x, fun h1 h2 => h1.trans h2⟩) (some 125) rfl (by kernel_rfl) (by kernel_rfl) (by kernel_rfl) (by kernel_rfl) (by kernel_rfl) (fun _ _ _ h => h) (by kernel_rfl) (fun w' hw' => ?_) ?_
              rotate_left
              · go_simp; with_reducible rfl
              simp only [Act.put, List.setIfInBounds_toArray, List.set_cons_zero, List.set_cons_succ]
              refine wpR_take (i := 2) (v := ?_) (⟨fun x => Below.refl _ x, fun h1 h2 => h1.trans h2⟩) (some 126) rfl (by kernel_rfl) (by kernel_rfl) (by kernel_rfl) (by kernel_rfl) (by kernel_rfl) (fun _ _ _ h => h) (by kernel_rfl) (fun w' hw' => ?_) ?_
              rotate_left
              · go_simp; with_reducible rfl
              simp only [Act.put, List.setIfInBounds_toArray, List.set_cons_zero, List.set_cons_succ]
              refine wpR_take (i := 3) (v := ?_) (⟨fun x => Below.refl _ x, fun h1 h2 => h1.trans h2⟩) (some 127) rfl (by kernel_rfl) (by kernel_rfl) (by kernel_rfl) (by kernel_rfl) (by kernel_rfl) (fun _ _ _ h => h) (by kernel_rfl) (fun w' hw' => ?_) ?_
              rotate_left
              · go_simp; with_reducible rfl
              simp only [Act.put, List.setIfInBounds_toArray, List.set_cons_zero, List.set_cons_succ]
              refine wpR_take (i := 4) (v := ?_) (⟨fun x => Below.refl _ x, fun h1 h2 => h1.trans h2⟩) (some 128) rfl (by kernel_rfl) (by kernel_rfl) (by kernel_rfl) (by kernel_rfl) (by kernel_rfl) (fun _ _ _ h => h) (by kernel_rfl) (fun w' hw' => ?_) ?_
              rotate_left
              · obtain ⟨-, -, y2, y3, y4, y5, y6, y7, y8, y9, y10, y11⟩ := hxc'.out w' (hxq.out w' hw').1; go_simp; with_reducible rfl
              simp only [Act.put, List.setIfInBounds_toArray, List.set_cons_zero, List.set_cons_succ]
              refine wpR_take (i := 5) (v := ?_) (⟨fun x => Below.refl _ x, fun h1 h2 => h1.trans h2⟩) (some 129) rfl (by kernel_rfl) (by kernel_rfl) (by kernel_rfl) (by kernel_rfl) (by kernel_rfl) (fun _ _ _ h => h) (by kernel_rfl) (fun w' hw' => ?_) ?_
              rotate_left
              · go_simp; with_reducible rfl
              simp only [Act.put, List.setIfInBounds_toArray, List.set_cons_zero, List.set_cons_succ]
              refine wpR_take (i := 6) (v := ?_) (⟨fun x => Below.refl _ x, fun h1 h2 => h1.trans h2⟩) (some 130) rfl (by kernel_rfl) (by kernel_rfl) (by kernel_rfl) (by kernel_rfl) (by kernel_rfl) (fun _ _ _ h => h) (by kernel_rfl) (fun w' hw' => ?_) ?_
              rotate_left
              · go_simp; with_reducible rfl
              simp only [Act.put, List.setIfInBounds_toArray, List.set_cons_zero, List.set_cons_succ]
              refine wpR_take (i := 7) (v := ?_) (⟨fun x => Below.refl _ x, fun h1 h2 => h1.trans h2⟩) (some 131) rfl (by kernel_rfl) (by kernel_rfl) (by kernel_rfl) (by kernel_rfl) (by kernel_rfl) (fun _ _ _ h => h) (by kernel_rfl) (fun w' hw' => ?_) ?_
              rotate_left
              · go_simp; with_reducible rfl
              simp only [Act.put, List.setIfInBounds_toArray, List.set_cons_zero, List.set_cons_succ]
              refine wpR_take (i := 8) (v := ?_) (⟨fun x => Below.refl _ x, fun h1 h2 => h1.trans h2⟩) (some 132) rfl (by kernel_rfl) (by kernel_rfl) (by kernel_rfl) (by kernel_rfl) (by kernel_rfl) (fun _ _ _ h => h) (by kernel_rfl) (fun w' hw' => ?_) ?_
              rotate_left
              · obtain ⟨-, -, -, -, v4⟩ := hzc'.out w' (hxq.out w' hw').2; rw [Nat.zero_mul, Nat.add_zero] at v4; go_simp; with_reducible rfl
              simp only [Act.put, List.setIfInBounds_toArray, List.set_cons_zero, List.set_cons_succ]
              refine wpR_take (i := 9) (v := ?_) (⟨fun x => Below.refl _ x, fun h1 h2 => h1.trans h2⟩) (some 133) rfl (by kernel_rfl) (by kernel_rfl) (by kernel_rfl) (by kernel_rfl) (by kernel_rfl) (fun _ _ _ h => h) (by kernel_rfl) (fun w' hw' => ?_) ?_
              rotate_left
              · go_simp; with_reducible rfl
              simp only [Act.put, List.setIfInBounds_toArray, List.set_cons_zero, List.set_cons_succ]
              refine wpR_take (i := 10) (v := ?_) (⟨fun x => Below.refl _ x, fun h1 h2 => h1.trans h2⟩) (some 134) rfl (by kernel_rfl) (by kernel_rfl) (by kernel_rfl) (by kernel_rfl) (by kernel_rfl) (fun _ _ _ h => h) (by kernel_rfl) (fun w' hw' => ?_) ?_
              rotate_left
              · go_simp; with_reducible rfl
              simp only [Act.put, List.setIfInBounds_toArray, List.set_cons_zero, List.set_cons_succ]
              refine wpR_take (i := 11) (v := ?_) (⟨fun x => Below.refl _ x, fun h1 h2 => h1.trans h2⟩) (some 135) rfl (by kernel_rfl) (by kernel_rfl) (by kernel_rfl) (by kernel_rfl) (by kernel_rfl) (fun _ _ _ h => h) (by kernel_rfl) (fun w' hw' => ?_) ?_
              rotate_left
              · obtain ⟨p0, p1⟩ := hP.out w' (hxq.out w' hw').2; go_simp; with_reducible rfl
              simp only [Act.put, List.setIfInBounds_toArray, List.set_cons_zero, List.set_cons_succ]
              refine wpR_two 12 13 rfl rfl (by kernel_rfl) (by kernel_rfl) (by kernel_rfl) (fun K hK => ?_) (fun K hK => ?_)
              · go_simp
                refine hK _ _ (fun _ => Below.mono (Gr.alloc _ _) (Below.size hgdd.out)) ?_
                clear hK K
                obtain ⟨V12, hV12⟩ : ∃ x, wd.alloc (.cells #[.int .i64 0, .int .i64 0, .string ⟨#[]⟩, .int .i64 0, .int .i64 0, .int .i64 0, .int .i64 0, .int .i64 0, .string ⟨#[]⟩, .slice none 0 0] 37) = x := ⟨_, rfl⟩
                have hk12 : Gr wd V12 := by rw [← hV12]; exact Gr.alloc _ _
                have hn12 : V12.heap[wd.heap.size]? = some (.cells #[.int .i64 0, .int .i64 0, .string ⟨#[]⟩, .int .i64 0, .int .i64 0, .int .i64 0, .int .i64 0, .int .i64 0, .string ⟨#[]⟩, .slice none 0 0] 37 (0, 0)) := by rw [← hV12]; exact heap_alloc_new _ _
                have hlo12 : Hid (wq.heap.size ≤ wd.heap.size) := Lib.hid (Below.size hgdd.out)
                rw [hV12]
                obtain ⟨R, hRe⟩ : ∃ n, wd.heap.size = n := ⟨_, rfl⟩
                rw [hRe] at hn12 hlo12 ⊢
                have hq12 : Hid (Gr wq V12) := Lib.hid (hgdd.out.trans hk12)
                replace hn12 := Lib.hid hn12
                replace hV12 := Lib.hid hV12
                replace hRe := Lib.hid hRe
                clear hk12
                try simp only [Act.put, List.setIfInBounds_toArray, List.set_cons_zero, List.set_cons_succ]
                refine wpR_one 13 rfl (by kernel_rfl) (by kernel_rfl) (fun K hK => ?_)
                go_simp
                refine hK _ _ (fun _ => Below.mono (Gr.alloc _ _) (Below.size hq12.out)) ?_
                clear hK K
                obtain ⟨V13, hV13⟩ : ∃ x, V12.alloc (.cells #[.int .i64 0, .int .i64 0] 34) = x := ⟨_, rfl⟩
                have hk13 : Gr V12 V13 := by rw [← hV13]; exact Gr.alloc _ _
                have hn13 : V13.heap[V12.heap.size]? = some (.cells #[.int .i64 0, .int .i64 0] 34 (0, 0)) := by rw [← hV13]; exact heap_alloc_new _ _
                have hlo13 : Hid (wq.heap.size ≤ V12.heap.size) := Lib.hid (Below.size hq12.out)
                rw [hV13]
                obtain ⟨P, hPe⟩ : ∃ n, V12.heap.size = n := ⟨_, rfl⟩
                rw [hPe] at hn13 hlo13 ⊢
                have hne : Hid (R ≠ P) := Lib.hid (by have := blk_lt hn12.out; omega)
                have hn12' := Lib.hid (blk_below hn12.out hk13)
                clear hn12
                have hn12 := hn12'
                clear hn12'
                have hq13 : Hid (Gr wq V13) := Lib.hid (hq12.out.trans hk13)
                replace hn13 := Lib.hid hn13
                replace hV13 := Lib.hid hV13
                replace hPe := Lib.hid hPe
                clear hk13
                try simp only [Act.put, List.setIfInBounds_toArray, List.set_cons_zero, List.set_cons_succ]
                refine wpR_one 14 rfl (by kernel_rfl) (by kernel_rfl) (fun K hK => ?_)
                have z0 := blk_cell (j := 0) hn12.out rfl
                have z1 := blk_cell (j := 1) hn12.out rfl
                have z2 := blk_cell (j := 2) hn12.out rfl
                have z3 := blk_cell (j := 3) hn12.out rfl
                have z4 := blk_cell (j := 4) hn12.out rfl
                have z5 := blk_cell (j := 5) hn12.out rfl
                have z6 := blk_cell (j := 6) hn12.out rfl
                have z7 := blk_cell (j := 7) hn12.out rfl
                have z8 := blk_cell (j := 8) hn12.out rfl
                have z9 := blk_cell (j := 9) hn12.out rfl
                have f0 := blk_free hn12.out 0
                have f1 := blk_free hn12.out 1
                have f2 := blk_free hn12.out 2
                have f3 := blk_free hn12.out 3
                have f4 := blk_free hn12.out 4
                have f5 := blk_free hn12.out 5
                have f6 := blk_free hn12.out 6
                have f7 := blk_free hn12.out 7
                have f8 := blk_free hn12.out 8
                have f9 := blk_free hn12.out 9
                go_simp
                refine hK _ _ (fun _ => setLo10 (Below.refl _ _) hlo12.out (.int .i64 2) (.int .i64 0) (.string (bs kKey)) (.int .i64 7) (.int .i64 (g : Nat)) (.int .i64 gs) (.int .i64 (ix : Nat)) (.int .i64 z) (.string (bs (digL z))) (.slice xA 16 xc)) ?_
                clear hK K
                clear z0 f0 z1 f1 z2 f2 z3 f3 z4 f4 z5 f5 z6 f6 z7 f7 z8 f8 z9 f9
                have hX := blk_set10 hn12.out (.int .i64 2) (.int .i64 0) (.string (bs kKey)) (.int .i64 7) (.int .i64 (g : Nat)) (.int .i64 gs) (.int .i64 (ix : Nat)) (.int .i64 z) (.string (bs (digL z))) (.slice xA 16 xc)
                have hXg : Gr wq ((((((((((V13.setCell ⟨R, 0, none⟩ (.int .i64 2)).setCell ⟨R, 1, none⟩ (.int .i64 0)).setCell ⟨R, 2, none⟩ (.string (bs kKey))).setCell ⟨R, 3, none⟩ (.int .i64 7)).setCell ⟨R, 4, none⟩ (.int .i64 (g : Nat))).setCell ⟨R, 5, none⟩ (.int .i64 gs)).setCell ⟨R, 6, none⟩ (.int .i64 (ix : Nat))).setCell ⟨R, 7, none⟩ (.int .i64 z)).setCell ⟨R, 8, none⟩ (.string (bs (digL z)))).setCell ⟨R, 9, none⟩ (.slice xA 16 xc)) := setLo10 hq13.out hlo12.out (.int .i64 2) (.int .i64 0) (.string (bs kKey)) (.int .i64 7) (.int .i64 (g : Nat)) (.int .i64 gs) (.int .i64 (ix : Nat)) (.int .i64 z) (.string (bs (digL z))) (.slice xA 16 xc)
                have hXp := (set10_oth (R := R) (d := P) (fun e => hne.out e.symm) (.int .i64 2) (.int .i64 0) (.string (bs kKey)) (.int .i64 7) (.int .i64 (g : Nat)) (.int .i64 gs) (.int .i64 (ix : Nat)) (.int .i64 z) (.string (bs (digL z))) (.slice xA 16 xc)).trans hn13.out
                obtain ⟨wE, hwE⟩ : ∃ x, ((((((((((V13.setCell ⟨R, 0, none⟩ (.int .i64 2)).setCell ⟨R, 1, none⟩ (.int .i64 0)).setCell ⟨R, 2, none⟩ (.string (bs kKey))).setCell ⟨R, 3, none⟩ (.int .i64 7)).setCell ⟨R, 4, none⟩ (.int .i64 (g : Nat))).setCell ⟨R, 5, none⟩ (.int .i64 gs)).setCell ⟨R, 6, none⟩ (.int .i64 (ix : Nat))).setCell ⟨R, 7, none⟩ (.int .i64 z)).setCell ⟨R, 8, none⟩ (.string (bs (digL z)))).setCell ⟨R, 9, none⟩ (.slice xA 16 xc)) = x := ⟨_, rfl⟩
                rw [hwE] at hX hXg hXp ⊢
                replace hwE := Lib.hid hwE
                replace hX := Lib.hid hX
                replace hXp := Lib.hid hXp
                replace hXg := Lib.hid hXg
                try simp only [Act.put, List.setIfInBounds_toArray, List.set_cons_zero, List.set_cons_succ]
                refine wpR_one 15 rfl (by kernel_rfl) (by kernel_rfl) (fun K hK => ?_)
                have z0 := blk_cell (j := 0) hXp.out rfl
                have z1 := blk_cell (j := 1) hXp.out rfl
                have f0 := blk_free hXp.out 0
                have f1 := blk_free hXp.out 1
                go_simp
                refine hK _ _ (fun _ => ((Below.refl wq.heap.size wE).setCell (p := ⟨P, 0, none⟩) hlo13.out (.int .i64 px)).setCell (p := ⟨P, 1, none⟩) hlo13.out (.int .i64 py)) ?_
                clear hK K
                clear z0 z1 f0 f1
                have hY := blk_set (blk_set hXp.out 0 (.int .i64 px)) 1 (.int .i64 py)
                have hYr := (blk_other (g := P) (k := R) hne.out 1 (.int .i64 py)).trans ((blk_other (w := wE) (g := P) (k := R) hne.out 0 (.int .i64 px)).trans hX.out)
                have hYg : Gr wq ((wE.setCell ⟨P, 0, none⟩ (.int .i64 px)).setCell ⟨P, 1, none⟩ (.int .i64 py)) := (hXg.out.setCell (p := ⟨P, 0, none⟩) hlo13.out (.int .i64 px)).setCell (p := ⟨P, 1, none⟩) hlo13.out (.int .i64 py)
                obtain ⟨wF, hwF⟩ : ∃ x, ((wE.setCell ⟨P, 0, none⟩ (.int .i64 px)).setCell ⟨P, 1, none⟩ (.int .i64 py)) = x := ⟨_, rfl⟩
                rw [hwF] at hY hYg hYr ⊢
                replace hwF := Lib.hid hwF
                try simp only [Act.put, List.setIfInBounds_toArray, List.set_cons_zero, List.set_cons_succ]
                refine wpR_done (by kernel_rfl) ?_ _
                go_wp2_with fail
                go_meet
                exact ⟨R, P, rfl, rfl, Lib.hid hYr, Lib.hid hY, Lib.hid hYg⟩
              · go_simp
                refine hK _ _ (fun _ => Below.mono (Gr.alloc _ _) (Below.size hgdd.out)) ?_
                clear hK K
                obtain ⟨V13, hV13⟩ : ∃ x, wd.alloc (.cells #[.int .i64 0, .int .i64 0] 34) = x := ⟨_, rfl⟩
                have hk13 : Gr wd V13 := by rw [← hV13]; exact Gr.alloc _ _
                have hn13 : V13.heap[wd.heap.size]? = some (.cells #[.int .i64 0, .int .i64 0] 34 (0, 0)) := by rw [← hV13]; exact heap_alloc_new _ _
                have hlo13 : Hid (wq.heap.size ≤ wd.heap.size) := Lib.hid (Below.size hgdd.out)
                rw [hV13]
                obtain ⟨P, hPe⟩ : ∃ n, wd.heap.size = n := ⟨_, rfl⟩
                rw [hPe] at hn13 hlo13 ⊢
                have hq13 : Hid (Gr wq V13) := Lib.hid (hgdd.out.trans hk13)
                replace hn13 := Lib.hid hn13
                replace hV13 := Lib.hid hV13
                replace hPe := Lib.hid hPe
                clear hk13
                try simp only [Act.put, List.setIfInBounds_toArray, List.set_cons_zero, List.set_cons_succ]
                refine wpR_one 12 rfl (by kernel_rfl) (by kernel_rfl) (fun K hK => ?_)
                go_simp
                refine hK _ _ (fun _ => Below.mono (Gr.alloc _ _) (Below.size hq13.out)) ?_
                clear hK K
                obtain ⟨V12, hV12⟩ : ∃ x, V13.alloc (.cells #[.int .i64 0, .int .i64 0, .string ⟨#[]⟩, .int .i64 0, .int .i64 0, .int .i64 0, .int .i64 0, .int .i64 0, .string ⟨#[]⟩, .slice none 0 0] 37) = x := ⟨_, rfl⟩
                have hk12 : Gr V13 V12 := by rw [← hV12]; exact Gr.alloc _ _
                have hn12 : V12.heap[V13.heap.size]? = some (.cells #[.int .i64 0, .int .i64 0, .string ⟨#[]⟩, .int .i64 0, .int .i64 0, .int .i64 0, .int .i64 0, .int .i64 0, .string ⟨#[]⟩, .slice none 0 0] 37 (0, 0)) := by rw [← hV12]; exact heap_alloc_new _ _
                have hlo12 : Hid (wq.heap.size ≤ V13.heap.size) := Lib.hid (Below.size hq13.out)
                rw [hV12]
                obtain ⟨R, hRe⟩ : ∃ n, V13.heap.size = n := ⟨_, rfl⟩
                rw [hRe] at hn12 hlo12 ⊢
                have hne : Hid (R ≠ P) := Lib.hid (by have := blk_lt hn13.out; omega)
                have hn13' := Lib.hid (blk_below hn13.out hk12)
                clear hn13
                have hn13 := hn13'
                clear hn13'
                have hq12 : Hid (Gr wq V12) := Lib.hid (hq13.out.trans hk12)
                replace hn12 := Lib.hid hn12
                replace hV12 := Lib.hid hV12
                replace hRe := Lib.hid hRe
                clear hk12
                try simp only [Act.put, List.setIfInBounds_toArray, List.set_cons_zero, List.set_cons_succ]
                refine wpR_one 14 rfl (by kernel_rfl) (by kernel_rfl) (fun K hK => ?_)
                have z0 := blk_cell (j := 0) hn12.out rfl
                have z1 := blk_cell (j := 1) hn12.out rfl
                have z2 := blk_cell (j := 2) hn12.out rfl
                have z3 := blk_cell (j := 3) hn12.out rfl
                have z4 := blk_cell (j := 4) hn12.out rfl
                have z5 := blk_cell (j := 5) hn12.out rfl
                have z6 := blk_cell (j := 6) hn12.out rfl
                have z7 := blk_cell (j := 7) hn12.out rfl
                have z8 := blk_cell (j := 8) hn12.out rfl
                have z9 := blk_cell (j := 9) hn12.out rfl
                have f0 := blk_free hn12.out 0
                have f1 := blk_free hn12.out 1
                have f2 := blk_free hn12.out 2
                have f3 := blk_free hn12.out 3
                have f4 := blk_free hn12.out 4
                have f5 := blk_free hn12.out 5
                have f6 := blk_free hn12.out 6
                have f7 := blk_free hn12.out 7
                have f8 := blk_free hn12.out 8
                have f9 := blk_free hn12.out 9
                go_simp
                refine hK _ _ (fun _ => setLo10 (Below.refl _ _) hlo12.out (.int .i64 2) (.int .i64 0) (.string (bs kKey)) (.int .i64 7) (.int .i64 (g : Nat)) (.int .i64 gs) (.int .i64 (ix : Nat)) (.int .i64 z) (.string (bs (digL z))) (.slice xA 16 xc)) ?_
                clear hK K
                clear z0 f0 z1 f1 z2 f2 z3 f3 z4 f4 z5 f5 z6 f6 z7 f7 z8 f8 z9 f9
                have hX := blk_set10 hn12.out (.int .i64 2) (.int .i64 0) (.string (bs kKey)) (.int .i64 7) (.int .i64 (g : Nat)) (.int .i64 gs) (.int .i64 (ix : Nat)) (.int .i64 z) (.string (bs (digL z))) (.slice xA 16 xc)
                have hXg : Gr wq ((((((((((V12.setCell ⟨R, 0, none⟩ (.int .i64 2)).setCell ⟨R, 1, none⟩ (.int .i64 0)).setCell ⟨R, 2, none⟩ (.string (bs kKey))).setCell ⟨R, 3, none⟩ (.int .i64 7)).setCell ⟨R, 4, none⟩ (.int .i64 (g : Nat))).setCell ⟨R, 5, none⟩ (.int .i64 gs)).setCell ⟨R, 6, none⟩ (.int .i64 (ix : Nat))).setCell ⟨R, 7, none⟩ (.int .i64 z)).setCell ⟨R, 8, none⟩ (.string (bs (digL z)))).setCell ⟨R, 9, none⟩ (.slice xA 16 xc)) := setLo10 hq12.out hlo12.out (.int .i64 2) (.int .i64 0) (.string (bs kKey)) (.int .i64 7) (.int .i64 (g : Nat)) (.int .i64 gs) (.int .i64 (ix : Nat)) (.int .i64 z) (.string (bs (digL z))) (.slice xA 16 xc)
                have hXp := (set10_oth (R := R) (d := P) (fun e => hne.out e.symm) (.int .i64 2) (.int .i64 0) (.string (bs kKey)) (.int .i64 7) (.int .i64 (g : Nat)) (.int .i64 gs) (.int .i64 (ix : Nat)) (.int .i64 z) (.string (bs (digL z))) (.slice xA 16 xc)).trans hn13.out
                obtain ⟨wE, hwE⟩ : ∃ x, ((((((((((V12.setCell ⟨R, 0, none⟩ (.int .i64 2)).setCell ⟨R, 1, none⟩ (.int .i64 0)).setCell ⟨R, 2, none⟩ (.string (bs kKey))).setCell ⟨R, 3, none⟩ (.int .i64 7)).setCell ⟨R, 4, none⟩ (.int .i64 (g : Nat))).setCell ⟨R, 5, none⟩ (.int .i64 gs)).setCell ⟨R, 6, none⟩ (.int .i64 (ix : Nat))).setCell ⟨R, 7, none⟩ (.int .i64 z)).setCell ⟨R, 8, none⟩ (.string (bs (digL z)))).setCell ⟨R, 9, none⟩ (.slice xA 16 xc)) = x := ⟨_, rfl⟩
                rw [hwE] at hX hXg hXp ⊢
                replace hwE := Lib.hid hwE
                replace hX := Lib.hid hX
                replace hXp := Lib.hid hXp
                replace hXg := Lib.hid hXg
                try simp only [Act.put, List.setIfInBounds_toArray, List.set_cons_zero, List.set_cons_succ]
                refine wpR_one 15 rfl (by kernel_rfl) (by kernel_rfl) (fun K hK => ?_)
                have z0 := blk_cell (j := 0) hXp.out rfl
                have z1 := blk_cell (j := 1) hXp.out rfl
                have f0 := blk_free hXp.out 0
                have f1 := blk_free hXp.out 1
                go_simp
                refine hK _ _ (fun _ => ((Below.refl wq.heap.size wE).setCell (p := ⟨P, 0, none⟩) hlo13.out (.int .i64 px)).setCell (p := ⟨P, 1, none⟩) hlo13.out (.int .i64 py)) ?_
                clear hK K
                clear z0 z1 f0 f1
                have hY := blk_set (blk_set hXp.out 0 (.int .i64 px)) 1 (.int .i64 py)
                have hYr := (blk_other (g := P) (k := R) hne.out 1 (.int .i64 py)).trans ((blk_other (w := wE) (g := P) (k := R) hne.out 0 (.int .i64 px)).trans hX.out)
                have hYg : Gr wq ((wE.setCell ⟨P, 0, none⟩ (.int .i64 px)).setCell ⟨P, 1, none⟩ (.int .i64 py)) := (hXg.out.setCell (p := ⟨P, 0, none⟩) hlo13.out (.int .i64 px)).setCell (p := ⟨P, 1, none⟩) hlo13.out (.int .i64 py)
                obtain ⟨wF, hwF⟩ : ∃ x, ((wE.setCell ⟨P, 0, none⟩ (.int .i64 px)).setCell ⟨P, 1, none⟩ (.int .i64 py)) = x := ⟨_, rfl⟩
                rw [hwF] at hY hYg hYr ⊢
                replace hwF := Lib.hid hwF
                try simp only [Act.put, List.setIfInBounds_toArray, List.set_cons_zero, List.set_cons_succ]
                refine wpR_done (by kernel_rfl) ?_ _
                go_wp2_with fail
                go_meet
                exact ⟨R, P, rfl, rfl, Lib.hid hYr, Lib.hid hY, Lib.hid hYg⟩
            case rest =>
              obtain ⟨R, P, rfl, rfl, hR, hPb, hgx⟩ := hcut
              rename World => wx
              have hlkx := Lib.hid (RU16.gr (hg1.out.trans (hg15.out.trans (hgj.out.trans hgx.out))) hlk.out)
              go_upto_region 23 with (fail)
              go_cut [16] from 118 to 190 (fun v wq => v = .bool (goneP lk j) ∧ Hid (Gr wx wq))
              case first =>
                have z4 := blk_cell (j := 4) hR.out rfl
                have z6 := blk_cell (j := 6) hR.out rfl
                by_cases hgl : g < lm
                · have jg : (g : Int) < (lm : Int) := by omega
                  obtain ⟨x9, hx9⟩ : ∃ x, lk[g]? = some x := ⟨_, List.getElem?_eq_getElem (by rw [hlkx.out.len]; exact hgl)⟩
                  obtain ⟨ad, rfl, hc9⟩ := hlkx.out.at_ hx9
                  have hgo : Hid (goneP lk j = lackP x9 ix) := Lib.hid (by unfold goneP; rw [hg.out, hx9, hix.out])
                  replace hx9 := Lib.hid hx9
                  cases hp : lackP x9 ix with
                  | true =>
                    have hb := lackP_yes9 hp
                    replace hp := Lib.hid hp
                    go_quiet (fail)
                    go_wp2_with fail
                    go_meet
                    exact ⟨by rw [hgo.out, hp.out], Lib.hid (Gr.drewN _ _)⟩
                  | false =>
                    have hb := lackP_no9 hp
                    replace hp := Lib.hid hp
                    go_quiet (fail)
                    go_wp2_with fail
                    go_meet
                    exact ⟨by rw [hgo.out, hp.out], Lib.hid (Gr.drewN _ _)⟩
                · have jg : ¬ (g : Int) < (lm : Int) := by omega
                  have hgo : goneP lk j = false := by
                    unfold goneP
                    rw [hg.out, List.getElem?_eq_none (by rw [hlkx.out.len]; omega)]
                  replace hgo := Lib.hid hgo
                  go_quiet (fail)
                  go_wp2_with fail
                  go_meet
                  exact ⟨by rw [hgo.out], Lib.hid (Gr.drewN _ _)⟩
              case rest =>
                obtain ⟨rfl, hgy⟩ := hcut
                rename World => wy
                have hPy := Lib.hid (blk_below hPb.out hgy.out)
                have hg5y : Hid (Gr w5 wy) := Lib.hid (hgj.out.trans (hgx.out.trans hgy.out))
                have p0 := blk_cell (j := 0) hPy.out rfl
                have p1 := blk_cell (j := 1) hPy.out rfl
                go_upto_region 24 with (fail)
                cases hgo : goneP lk j with
                | true =>
                  have hkf : keepF lk j = false := by unfold keepF; rw [hgo]; rfl
                  have hpv2 := hpv.out
                  rw [hkf, if_neg (by decide)] at hpv2
                  injection hpv2 with ex ey
                  subst ex ey
                  replace hgo := Lib.hid hgo
                  replace hkf := Lib.hid hkf
                  go_quiet (fail)
                  go_wp2_with fail
                  go_roundw
                  case rel => exact ⟨j + 1, by omega, by go_num, Lib.hid (hg5y.out.trans (Gr.drewN _ _))⟩
                  case measure => simp [intOf]; omega
                | false =>
                  have hkf : keepF lk j = true := by unfold keepF; rw [hgo]; rfl
                  have hpv2 := hpv.out
                  rw [hkf, if_pos rfl] at hpv2
                  injection hpv2 with ex ey
                  subst ex ey
                  obtain ⟨y0, y1, -⟩ := hxc'.out wy (hg15.out.trans hg5y.out)
                  replace hgo := Lib.hid hgo
                  replace hkf := Lib.hid hkf
                  go_quiet (fail)
                  go_wp2_with fail
                  go_roundw
                  case rel => exact ⟨j + 1, by omega, by go_num, Lib.hid (hg5y.out.trans (Gr.drewN _ _))⟩
                  case measure => simp [intOf]; omega
          · obtain rfl : j = i := by omega
            go_wp2_with (go_at_call 12; go_must (refine (hawk.out _).mono ?_); rintro e w8 ⟨rfl, hg8⟩; replace hg8 := Lib.hid hg8)
            go_ret
            exact ⟨rfl, hg1.out.trans (hg15.out.trans (hgj.out.trans hg8.out))⟩
end Go.Proofs.Ytiliggleplpjbaa
