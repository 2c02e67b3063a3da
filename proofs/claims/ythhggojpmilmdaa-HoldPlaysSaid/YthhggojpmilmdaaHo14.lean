/- hold: HoldPlays. -/
import Derived.Test.YthhggojpmilmdaaHo12
import Derived.Test.YthhggojpmilmdaaHr5
import Derived.Deep.CutBlock
namespace Go.Proofs.Ythhggojpmilmdaa
set_option linter.unusedVariables false
set_option linter.unusedSimpArgs false
open Go Go.RowKit
theorem Rh.more {w : World} {lo lo' g : Nat} {vk vd vw : Value} {now q : Nat} {R : List Rt} (hl : lo' ≤ lo) (h : Rh w lo g vk vd vw now q R) : Rh w lo' g vk vd vw now q R := ⟨h.blk, Nat.le_trans hl h.lg, h.own.more hl⟩
theorem hd_rts {w w' : World} {lo g r q lo' : Nat} {L : List Nd} (h : Hid (Hd w lo g r q L)) (hc : TChg lo' rts w w') : Hid (Hd w' lo g r q L) := Lib.hid (h.out.keep hc (by decide) (by decide) (by decide))
theorem rh_hts {w w' : World} {lo g lo' : Nat} {vk vd vw : Value} {now q : Nat} {R : List Rt} (h : Hid (Rh w lo g vk vd vw now q R)) (hc : TChg lo' hts w w') : Hid (Rh w' lo g vk vd vw now q R) := Lib.hid (h.out.tchg hc (by decide))
theorem str_nil (w : World) : (convert 27 9 (.slice none 0 0)).run Try.prog w = .ok (.string (bs [])) w := run_str_at (B := w.heap.size) (l := []) 0 Rd.nil_ rfl
set_option maxHeartbeats 16000000 in
set_option maxRecDepth 10000 in
theorem holdPlays_any (quota : Int) (Q : List ActH) (v : Value) (w : World) (hv : Hid (ActsH Q v w)) :
    Calls Try.prog 3 #[.int .i64 quota, v] w fun e w' => e = .returned (.bool true) ∧ GrM w w' := by
  obtain ⟨Av, cv, rfl, -, -, -, -⟩ := hv.out
  obtain ⟨nq, hnq⟩ : ∃ nq, Q.length = nq := ⟨_, rfl⟩
  rw [hnq] at hv ⊢
  replace hnq := Lib.hid hnq
  obtain ⟨lo, hlo⟩ : ∃ lo, w.heap.size = lo := ⟨_, rfl⟩
  obtain ⟨qn, hqn⟩ : ∃ qn, quotaOf quota = qn := ⟨_, rfl⟩
  have hq32 : qn ≤ 32768 := by rw [← hqn]; unfold quotaOf; omega
  have hnew := new17_any quota w
  rw [hlo, hqn] at hnew
  replace hnew := Lib.hid hnew
  have hrnew : Hid (∀ x, Calls Try.prog 9 #[.int .i64 quota] x fun e w' => ∃ g, e = .returned (.pointer (some ⟨g, 0, none⟩)) ∧ Hid (Rh w' x.heap.size g (.slice none 0 0) (.slice none 0 0) (.slice none 0 0) 0 qn []) ∧ GrM x w') := Lib.hid (fun x => by
    have := rnew_any quota x
    rw [show quotaR quota = qn from hqn] at this
    exact this)
  have hlog : Hid (∀ x, GrM w x → lo ≤ x.heap.size) := Lib.hid (fun x h => by rw [← hlo]; exact h.size)
  have hlob : Hid (∀ x y ts, GrM w x → TChg lo ts x y → GrM w y) := Lib.hid (fun x y ts h ht => fin17 h ht (Nat.le_of_eq hlo) (by rw [← hlo]; exact h.size))
  replace hlo := Lib.hid hlo
  replace hqn := Lib.hid hqn
  go_enter Try.func3, Try.ntmps3
  go_upto_region 2 with (first
    | (go_at_call 8; go_must (refine hnew.out.mono ?_); clear hnew; rintro e w1 ⟨g, r, rfl, hm1, hg1⟩)
    | (go_at_call 9; go_must (refine (hrnew.out w1).mono ?_); clear hrnew; rintro e w2 ⟨g2, rfl, hr2, hg2⟩))
  have hm2 := Hd.gr hg2 hm1
  have hr2' := Lib.hid (hr2.out.more (hlog.out _ hg1))
  have hg2' : Hid (GrM w w2) := Lib.hid (hg1.trans hg2)
  clear hg1 hg2 hm1 hr2
  go_wp2_with fail
  go_loopw [7] (fun z wr => ∃ (i now : Nat) (L : List Nd) (R : List Rt) (vk vd vw : Value), i ≤ 60 ∧ z = .int .i64 i ∧ now ≤ i ∧ Hid (L.length ≤ i) ∧ Hid (Hd wr lo g r qn L) ∧ Hid (Rh wr lo g2 vk vd vw now qn R) ∧ Hid (Rel L R now) ∧ Hid (GrM w wr)) (fun z _ => (60 - intOf z).toNat)
  case atStart => exact ⟨0, 0, [], [], _, _, _, Nat.zero_le _, rfl, Nat.le_refl _, Lib.hid (Nat.le_refl _), hm2, hr2', Lib.hid Rel.nil_, hg2'⟩
  case round =>
    obtain ⟨i, now, L, R, vk, vd, vw, hi60, rfl, hni, hLl, hm, hr, hrl, hgr⟩ := hrel
    clear hm2 hr2' hg2'
    obtain ⟨d0, hd0⟩ : ∃ d0, d0 = (decide (i < nq) && decide (i < 60)) := ⟨_, rfl⟩
    go_upto_region 3 with (fail)
    go_cut [24] (fun z wq => z = .bool d0 ∧ wr = wq)
    case first =>
      by_cases p1 : i < nq
      · have ip1 : (i : Int) < (nq : Int) := by omega
        by_cases p2 : i < 60
        · have ip2 : (i : Int) < 60 := by omega
          rw [decide_eq_true p1, decide_eq_true p2] at hd0
          subst hd0
          go_wp2_with fail
          go_meet
          exact ⟨by first | rfl | simp [*], rfl⟩
        · have ip2 : decide ((i : Int) < 60) = false := decide_eq_false (by omega)
          rw [decide_eq_true p1, decide_eq_false p2] at hd0
          subst hd0
          clear p2
          go_wp2_with fail
          go_meet
          exact ⟨by first | rfl | simp [*], rfl⟩
      · have ip1 : decide ((i : Int) < (nq : Int)) = false := decide_eq_false (by omega)
        have ip1n : decide (i < nq) = false := decide_eq_false p1
        rw [decide_eq_false p1, Bool.false_and] at hd0
        subst hd0
        clear p1
        go_wp2_with fail
        go_meet
        exact ⟨by first | rfl | simp [*], rfl⟩
    case rest =>
      obtain ⟨rfl, rfl⟩ := hcut
      cases d0 with
      | true =>
        have hkk : i < nq ∧ i < 60 := by
          have := hd0.symm
          simp only [Bool.and_eq_true, decide_eq_true_eq] at this
          exact this
        obtain ⟨p1, p2⟩ := hkk
        replace hd0 := Lib.hid hd0
        have ik : (i : Int) < (nq : Int) := by omega
        obtain ⟨A', c', e', -, -, h3, h4⟩ := (ActsH.gr hgr.out hv).out
        rw [hnq.out] at e' h3
        injection e' with e1 _ e2
        subst e1 e2
        obtain ⟨ba, oa, rfl, hba, hca⟩ := h3 (by omega)
        obtain ⟨q, hq⟩ : ∃ q, Q[i]? = some q := ⟨_, List.getElem?_eq_getElem (by rw [hnq.out]; exact p1)⟩
        obtain ⟨c0, c1, c2⟩ := hca i q hq
        obtain ⟨hqk, hqc, -⟩ := h4 q (List.mem_of_getElem? hq)
        have hqr : Hid (∀ w', GrM w w' → BytH lo q.l q.A w') := Lib.hid (fun w' hg' => by
          obtain ⟨_, _, _, _, _, _, h9⟩ := hv.out
          have hr0 := (h9 q (List.mem_of_getElem? hq)).2.2
          refine ⟨(hr0.below hg').more hg'.size, fun ad ha hn => .inl ?_⟩
          obtain ⟨ad', ha', hb', -⟩ := hr0.2 hn
          rw [ha] at ha'
          injection ha' with ha'
          subst ha'
          rw [← hlo.out]
          exact hb')
        obtain ⟨gq, kq, Aq, cq, lq⟩ := q
        simp only at c0 c1 c2 hqk hqc hqr
        obtain ⟨mq, hmq⟩ : ∃ mq, lq.length = mq := ⟨_, rfl⟩
        rw [hmq] at c2 hqc
        obtain ⟨gx, hgx⟩ : ∃ gx, wr.heap.size = gx := ⟨_, rfl⟩
        obtain ⟨W, hW⟩ : ∃ W, W = wr.alloc (.cells #[.int .u8 (U gq), .string (bs kq), .slice Aq mq cq] 29) := ⟨_, rfl⟩
        have hgW : GrM wr W := by rw [hW]; exact GrM.alloc _ _
        have hmW := Hd.gr hgW hm
        have hrW := Rh.gr hgW hr
        have hbx : Hid (W.heap[gx]? = some (.cells #[.int .u8 (U gq), .string (bs kq), .slice Aq mq cq] 29 (0, 0))) := Lib.hid (by rw [hW, ← hgx]; exact heap_alloc_new _ _)
        have hgwW : Hid (GrM w W) := Lib.hid (GrM.trans hgr.out hgW)
        have x0 := blk_cell (j := 0) hbx.out rfl
        have x1 := blk_cell (j := 1) hbx.out rfl
        have x2 := blk_cell (j := 2) hbx.out rfl
        replace hgx := Lib.hid hgx
        replace hmq := Lib.hid hmq
        replace hq := Lib.hid hq
        have hW' := Lib.hid hW.symm
        have hgxs := hgx.out
        clear h3 h4 hca hba hgW hm hgr hr
        go_upto_region 6 with (fail)
        rw [hW'.out]
        replace hW := Lib.hid hW
        clear hgxs c0 c1 c2
        by_cases hbig : 1000 < mq
        · have ib : (1000 : Int) < (mq : Int) := by omega
          clear hbig
          go_wp2_with fail
          go_roundw
          case rel => exact ⟨i + 1, now, L, R, _, _, _, by omega, by go_num, by omega, Lib.hid (by have := hLl.out; omega), hmW, hrW, hrl, hgwW⟩
          case measure => simp [intOf]; omega
        · have ib : decide ((1000 : Int) < (mq : Int)) = false := decide_eq_false (by omega)
          have ibn : decide (1000 < mq) = false := decide_eq_false hbig
          have hm1000 : mq ≤ 1000 := by omega
          clear hbig
          have hmod : (U gq).tmod 8 = ((gq.toNat % 8 : Nat) : Int) := tmod_nat gq 8
          obtain ⟨dd, hdd⟩ : ∃ dd, gq.toNat % 8 = dd := ⟨_, rfl⟩
          have hdd8 : dd < 8 := by rw [← hdd]; exact Nat.mod_lt _ (by decide)
          rw [hdd] at hmod
          replace hdd := Lib.hid hdd
          have hby := Lib.hid (hqr.out W hgwW.out)
          have hLd := Lib.hid hmW.out.dist
          have hLs := Lib.hid hmW.out.le
          go_upto_block 2 with (fail)
          clear ib ibn hmod x2
          go_cut [] (fun wq => ∃ (now' : Nat) (L' : List Nd) (R' : List Rt) (uk ud uw : Value), now' ≤ i + 1 ∧ Hid (L'.length ≤ i + 1) ∧ Hid (Hd wq lo g r qn L') ∧ Hid (Rh wq lo g2 uk ud uw now' qn R') ∧ Hid (Rel L' R' now') ∧ Hid (GrM w wq))
          case first =>
            by_cases h0 : dd = 0
            · skip
              have e0 : ((dd : Int) == 0) = true := beq_iff_eq.2 (by omega)
              have e0n : (dd == 0) = true := beq_iff_eq.2 (by omega)
              have e1 : ((dd : Int) == 1) = false := beq_false_of_ne (by omega)
              have e1n : (dd == 1) = false := beq_false_of_ne (by omega)
              have e2 : ((dd : Int) == 2) = false := beq_false_of_ne (by omega)
              have e2n : (dd == 2) = false := beq_false_of_ne (by omega)
              have e3 : ((dd : Int) == 3) = false := beq_false_of_ne (by omega)
              have e3n : (dd == 3) = false := beq_false_of_ne (by omega)
              clear h0
              cases hk : hasN L kq with
              | true =>
                obtain ⟨L1, f, L2, rfl, hf, -⟩ := split_at hLd.out hk
                obtain ⟨m, x, hmk, hx, hxk⟩ := isK_yes (R := R) (k := kq) (by rw [hrl.out.has, hk])
                obtain ⟨hrl5, hdat⟩ := hrl.out.use hLd.out hx (by rw [hxk, hf])
                obtain ⟨md, hmd⟩ : ∃ md, f.2.2.2.length = md := ⟨_, rfl⟩
                have hget := Lib.hid (get17_yes lo g r qn L1 f L2 kq hf W hmW)
                have hrget : Hid (∀ w4, Hid (Rh w4 lo g2 vk vd vw now qn R) → Calls Try.prog 11 #[.pointer (some ⟨g2, 0, none⟩), .string (bs kq)] w4 fun e w' => e = .returned (.tuple #[.string (bs f.2.2.2), .bool true]) ∧ (∃ uk ud uw, Hid (Rh w' lo g2 uk ud uw (now + 1) qn (R.set m (x.1, now + 1)))) ∧ TChg lo rts w4 w') := Lib.hid (fun w4 h4 => by rw [← hdat]; exact rget17_yes lo g2 vk vd vw now qn (by omega) R (by have := hrl.out.len; have := hLl.out; omega) kq m x hmk hx w4 h4)
                have hlen5 := Lib.hid hLl.out
                replace hmd := Lib.hid hmd
                replace hrl5 := Lib.hid hrl5
                replace hdat := Lib.hid hdat
                replace hf := Lib.hid hf
                replace hx := Lib.hid hx
                replace hxk := Lib.hid hxk
                replace hmk := Lib.hid hmk
                replace hk := Lib.hid hk
                go_wp2_with (first
                  | (go_at_call 10; go_must (refine hget.out.mono ?_); clear hget; rintro e w4 ⟨v4, rfl, ho4, hm4, ht4⟩; obtain ⟨A4, c4, rfl, -, -, -, -⟩ := ho4.out.form; rw [hmd.out]; have hr4 := rh_hts hrW ht4; have hrg := Lib.hid (hrget.out w4 hr4); have hb4 : w4.heap[gx]? = some (.cells #[.int .u8 (U gq), .string (bs kq), .slice Aq mq cq] 29 (0, 0)) := ht4.block hbx.out (by decide); have y1 := blk_cell (j := 1) (v := .string (bs kq)) hb4 rfl; replace hb4 := Lib.hid hb4)
                  | (go_at_call 11; go_must (refine hrg.out.mono ?_); clear hrg; rintro e w5 ⟨rfl, ⟨uk, ud, uw, hr5⟩, ht5⟩; have ho5 := OB.form (row_tchg ho4.out ht5 (by decide)); obtain ⟨A', c', hv', -, -, hR5, -⟩ := ho5; injection hv' with z1 z2 z3; subst z1; clear z2; subst z3; have hcv := run_str_at (n := md) c4 hR5 hmd.out; clear hR5))
                go_meet
                exact ⟨now + 1, _, _, _, _, _, by omega, Lib.hid (by have := hlen5.out; simp at this ⊢; omega), hd_rts hm4 ht5, hr5, hrl5, Lib.hid (hlob.out _ _ _ (hlob.out _ _ _ hgwW.out ht4) ht5)⟩
              | false =>
                have hget := Lib.hid (get17_no lo g r qn L kq hk W hmW)
                have hrget : Hid (∀ w4, Hid (Rh w4 lo g2 vk vd vw now qn R) → Calls Try.prog 11 #[.pointer (some ⟨g2, 0, none⟩), .string (bs kq)] w4 fun e w' => e = .returned (.tuple #[.string (bs []), .bool false]) ∧ w' = w4) := Lib.hid (fun w4 h4 => rget17_no lo g2 vk vd vw now qn R (by have := hrl.out.len; have := hLl.out; omega) kq (by rw [hrl.out.has, hk]) w4 h4)
                replace hk := Lib.hid hk
                go_wp2_with (first
                  | (go_at_call 10; go_must (refine hget.out.mono ?_); clear hget; rintro e w4 ⟨rfl, hm4, ht4⟩; have hr4 := rh_hts hrW ht4; have hrg := Lib.hid (hrget.out w4 hr4); have hb4 : w4.heap[gx]? = some (.cells #[.int .u8 (U gq), .string (bs kq), .slice Aq mq cq] 29 (0, 0)) := ht4.block hbx.out (by decide); have y1 := blk_cell (j := 1) (v := .string (bs kq)) hb4 rfl; replace hb4 := Lib.hid hb4; have hcv := str_nil w4)
                  | (go_at_call 11; go_must (refine hrg.out.mono ?_); clear hrg; rintro e w5 ⟨rfl, hee⟩; rw [hee]; clear hee))
                go_meet
                exact ⟨now, L, R, _, _, _, by omega, Lib.hid (by have := hLl.out; omega), hm4, hr4, hrl, Lib.hid (hlob.out _ _ _ hgwW.out ht4)⟩
            by_cases h1 : dd = 1
            · skip
              have e0 : ((dd : Int) == 0) = false := beq_false_of_ne (by omega)
              have e0n : (dd == 0) = false := beq_false_of_ne (by omega)
              have e1 : ((dd : Int) == 1) = true := beq_iff_eq.2 (by omega)
              have e1n : (dd == 1) = true := beq_iff_eq.2 (by omega)
              have e2 : ((dd : Int) == 2) = false := beq_false_of_ne (by omega)
              have e2n : (dd == 2) = false := beq_false_of_ne (by omega)
              have e3 : ((dd : Int) == 3) = false := beq_false_of_ne (by omega)
              have e3n : (dd == 3) = false := beq_false_of_ne (by omega)
              clear h0 h1
              cases hk : hasN L kq with
              | true =>
                obtain ⟨L1, f, L2, rfl, hf, -⟩ := split_at hLd.out hk
                obtain ⟨m, x, hmk, hx, hxk⟩ := isK_yes (R := R) (k := kq) (by rw [hrl.out.has, hk])
                obtain ⟨hrl5, hdat⟩ := hrl.out.use hLd.out hx (by rw [hxk, hf])
                obtain ⟨md, hmd⟩ : ∃ md, f.2.2.2.length = md := ⟨_, rfl⟩
                have hget := Lib.hid (get17_yes lo g r qn L1 f L2 kq hf W hmW)
                have hrget : Hid (∀ w4, Hid (Rh w4 lo g2 vk vd vw now qn R) → Calls Try.prog 11 #[.pointer (some ⟨g2, 0, none⟩), .string (bs kq)] w4 fun e w' => e = .returned (.tuple #[.string (bs f.2.2.2), .bool true]) ∧ (∃ uk ud uw, Hid (Rh w' lo g2 uk ud uw (now + 1) qn (R.set m (x.1, now + 1)))) ∧ TChg lo rts w4 w') := Lib.hid (fun w4 h4 => by rw [← hdat]; exact rget17_yes lo g2 vk vd vw now qn (by omega) R (by have := hrl.out.len; have := hLl.out; omega) kq m x hmk hx w4 h4)
                have hlen5 := Lib.hid hLl.out
                replace hmd := Lib.hid hmd
                replace hrl5 := Lib.hid hrl5
                replace hdat := Lib.hid hdat
                replace hf := Lib.hid hf
                replace hx := Lib.hid hx
                replace hxk := Lib.hid hxk
                replace hmk := Lib.hid hmk
                replace hk := Lib.hid hk
                go_wp2_with (first
                  | (go_at_call 10; go_must (refine hget.out.mono ?_); clear hget; rintro e w4 ⟨v4, rfl, ho4, hm4, ht4⟩; obtain ⟨A4, c4, rfl, -, -, -, -⟩ := ho4.out.form; rw [hmd.out]; have hr4 := rh_hts hrW ht4; have hrg := Lib.hid (hrget.out w4 hr4); have hb4 : w4.heap[gx]? = some (.cells #[.int .u8 (U gq), .string (bs kq), .slice Aq mq cq] 29 (0, 0)) := ht4.block hbx.out (by decide); have y1 := blk_cell (j := 1) (v := .string (bs kq)) hb4 rfl; replace hb4 := Lib.hid hb4)
                  | (go_at_call 11; go_must (refine hrg.out.mono ?_); clear hrg; rintro e w5 ⟨rfl, ⟨uk, ud, uw, hr5⟩, ht5⟩; have ho5 := OB.form (row_tchg ho4.out ht5 (by decide)); obtain ⟨A', c', hv', -, -, hR5, -⟩ := ho5; injection hv' with z1 z2 z3; subst z1; clear z2; subst z3; have hcv := run_str_at (n := md) c4 hR5 hmd.out; clear hR5))
                go_meet
                exact ⟨now + 1, _, _, _, _, _, by omega, Lib.hid (by have := hlen5.out; simp at this ⊢; omega), hd_rts hm4 ht5, hr5, hrl5, Lib.hid (hlob.out _ _ _ (hlob.out _ _ _ hgwW.out ht4) ht5)⟩
              | false =>
                have hget := Lib.hid (get17_no lo g r qn L kq hk W hmW)
                have hrget : Hid (∀ w4, Hid (Rh w4 lo g2 vk vd vw now qn R) → Calls Try.prog 11 #[.pointer (some ⟨g2, 0, none⟩), .string (bs kq)] w4 fun e w' => e = .returned (.tuple #[.string (bs []), .bool false]) ∧ w' = w4) := Lib.hid (fun w4 h4 => rget17_no lo g2 vk vd vw now qn R (by have := hrl.out.len; have := hLl.out; omega) kq (by rw [hrl.out.has, hk]) w4 h4)
                replace hk := Lib.hid hk
                go_wp2_with (first
                  | (go_at_call 10; go_must (refine hget.out.mono ?_); clear hget; rintro e w4 ⟨rfl, hm4, ht4⟩; have hr4 := rh_hts hrW ht4; have hrg := Lib.hid (hrget.out w4 hr4); have hb4 : w4.heap[gx]? = some (.cells #[.int .u8 (U gq), .string (bs kq), .slice Aq mq cq] 29 (0, 0)) := ht4.block hbx.out (by decide); have y1 := blk_cell (j := 1) (v := .string (bs kq)) hb4 rfl; replace hb4 := Lib.hid hb4; have hcv := str_nil w4)
                  | (go_at_call 11; go_must (refine hrg.out.mono ?_); clear hrg; rintro e w5 ⟨rfl, hee⟩; rw [hee]; clear hee))
                go_meet
                exact ⟨now, L, R, _, _, _, by omega, Lib.hid (by have := hLl.out; omega), hm4, hr4, hrl, Lib.hid (hlob.out _ _ _ hgwW.out ht4)⟩
            by_cases h2 : dd = 2
            · skip
              have e0 : ((dd : Int) == 0) = false := beq_false_of_ne (by omega)
              have e0n : (dd == 0) = false := beq_false_of_ne (by omega)
              have e1 : ((dd : Int) == 1) = false := beq_false_of_ne (by omega)
              have e1n : (dd == 1) = false := beq_false_of_ne (by omega)
              have e2 : ((dd : Int) == 2) = true := beq_iff_eq.2 (by omega)
              have e2n : (dd == 2) = true := beq_iff_eq.2 (by omega)
              have e3 : ((dd : Int) == 3) = false := beq_false_of_ne (by omega)
              have e3n : (dd == 3) = false := beq_false_of_ne (by omega)
              clear h0 h1 h2
              cases hk : hasN L kq with
              | true =>
                obtain ⟨L1, f, L2, rfl, hf, -⟩ := split_at hLd.out hk
                obtain ⟨m, x, hmk, hx, hxk⟩ := isK_yes (R := R) (k := kq) (by rw [hrl.out.has, hk])
                obtain ⟨hrl5, hdat⟩ := hrl.out.use hLd.out hx (by rw [hxk, hf])
                obtain ⟨md, hmd⟩ : ∃ md, f.2.2.2.length = md := ⟨_, rfl⟩
                have hget := Lib.hid (get17_yes lo g r qn L1 f L2 kq hf W hmW)
                have hrget : Hid (∀ w4, Hid (Rh w4 lo g2 vk vd vw now qn R) → Calls Try.prog 11 #[.pointer (some ⟨g2, 0, none⟩), .string (bs kq)] w4 fun e w' => e = .returned (.tuple #[.string (bs f.2.2.2), .bool true]) ∧ (∃ uk ud uw, Hid (Rh w' lo g2 uk ud uw (now + 1) qn (R.set m (x.1, now + 1)))) ∧ TChg lo rts w4 w') := Lib.hid (fun w4 h4 => by rw [← hdat]; exact rget17_yes lo g2 vk vd vw now qn (by omega) R (by have := hrl.out.len; have := hLl.out; omega) kq m x hmk hx w4 h4)
                have hlen5 := Lib.hid hLl.out
                replace hmd := Lib.hid hmd
                replace hrl5 := Lib.hid hrl5
                replace hdat := Lib.hid hdat
                replace hf := Lib.hid hf
                replace hx := Lib.hid hx
                replace hxk := Lib.hid hxk
                replace hmk := Lib.hid hmk
                replace hk := Lib.hid hk
                go_wp2_with (first
                  | (go_at_call 10; go_must (refine hget.out.mono ?_); clear hget; rintro e w4 ⟨v4, rfl, ho4, hm4, ht4⟩; obtain ⟨A4, c4, rfl, -, -, -, -⟩ := ho4.out.form; rw [hmd.out]; have hr4 := rh_hts hrW ht4; have hrg := Lib.hid (hrget.out w4 hr4); have hb4 : w4.heap[gx]? = some (.cells #[.int .u8 (U gq), .string (bs kq), .slice Aq mq cq] 29 (0, 0)) := ht4.block hbx.out (by decide); have y1 := blk_cell (j := 1) (v := .string (bs kq)) hb4 rfl; replace hb4 := Lib.hid hb4)
                  | (go_at_call 11; go_must (refine hrg.out.mono ?_); clear hrg; rintro e w5 ⟨rfl, ⟨uk, ud, uw, hr5⟩, ht5⟩; have ho5 := OB.form (row_tchg ho4.out ht5 (by decide)); obtain ⟨A', c', hv', -, -, hR5, -⟩ := ho5; injection hv' with z1 z2 z3; subst z1; clear z2; subst z3; have hcv := run_str_at (n := md) c4 hR5 hmd.out; clear hR5))
                go_meet
                exact ⟨now + 1, _, _, _, _, _, by omega, Lib.hid (by have := hlen5.out; simp at this ⊢; omega), hd_rts hm4 ht5, hr5, hrl5, Lib.hid (hlob.out _ _ _ (hlob.out _ _ _ hgwW.out ht4) ht5)⟩
              | false =>
                have hget := Lib.hid (get17_no lo g r qn L kq hk W hmW)
                have hrget : Hid (∀ w4, Hid (Rh w4 lo g2 vk vd vw now qn R) → Calls Try.prog 11 #[.pointer (some ⟨g2, 0, none⟩), .string (bs kq)] w4 fun e w' => e = .returned (.tuple #[.string (bs []), .bool false]) ∧ w' = w4) := Lib.hid (fun w4 h4 => rget17_no lo g2 vk vd vw now qn R (by have := hrl.out.len; have := hLl.out; omega) kq (by rw [hrl.out.has, hk]) w4 h4)
                replace hk := Lib.hid hk
                go_wp2_with (first
                  | (go_at_call 10; go_must (refine hget.out.mono ?_); clear hget; rintro e w4 ⟨rfl, hm4, ht4⟩; have hr4 := rh_hts hrW ht4; have hrg := Lib.hid (hrget.out w4 hr4); have hb4 : w4.heap[gx]? = some (.cells #[.int .u8 (U gq), .string (bs kq), .slice Aq mq cq] 29 (0, 0)) := ht4.block hbx.out (by decide); have y1 := blk_cell (j := 1) (v := .string (bs kq)) hb4 rfl; replace hb4 := Lib.hid hb4; have hcv := str_nil w4)
                  | (go_at_call 11; go_must (refine hrg.out.mono ?_); clear hrg; rintro e w5 ⟨rfl, hee⟩; rw [hee]; clear hee))
                go_meet
                exact ⟨now, L, R, _, _, _, by omega, Lib.hid (by have := hLl.out; omega), hm4, hr4, hrl, Lib.hid (hlob.out _ _ _ hgwW.out ht4)⟩
            by_cases h3 : dd = 3
            · skip
              have e0 : ((dd : Int) == 0) = false := beq_false_of_ne (by omega)
              have e0n : (dd == 0) = false := beq_false_of_ne (by omega)
              have e1 : ((dd : Int) == 1) = false := beq_false_of_ne (by omega)
              have e1n : (dd == 1) = false := beq_false_of_ne (by omega)
              have e2 : ((dd : Int) == 2) = false := beq_false_of_ne (by omega)
              have e2n : (dd == 2) = false := beq_false_of_ne (by omega)
              have e3 : ((dd : Int) == 3) = true := beq_iff_eq.2 (by omega)
              have e3n : (dd == 3) = true := beq_iff_eq.2 (by omega)
              clear h0 h1 h2 h3
              obtain ⟨wd, hwd⟩ : ∃ wd, wd = W.drew := ⟨_, rfl⟩
              have hgd : GrM W wd := by rw [hwd]; exact (Below.refl _ _).drew
              have hmd := Hd.gr hgd hmW
              have hrd := Rh.gr hgd hrW
              have hgwd : Hid (GrM w wd) := Lib.hid (hgwW.out.trans hgd)
              have hbd : wd.heap[gx]? = some (.cells #[.int .u8 (U gq), .string (bs kq), .slice Aq mq cq] 29 (0, 0)) := blk_below hbx.out hgd
              have y1 := blk_cell (j := 1) (v := .string (bs kq)) hbd rfl
              have y2 := blk_cell (j := 2) (v := .slice Aq mq cq) hbd rfl
              replace hbd := Lib.hid hbd
              have hLn : Hid (L.length ≤ 60) := Lib.hid (by have := hLl.out; omega)
              have hdp := drop17_any lo g r qn L kq wd hmd
              obtain ⟨hb, hhb⟩ : ∃ hb, hasN L kq = hb := ⟨_, rfl⟩
              rw [hhb] at hdp
              replace hdp := Lib.hid hdp
              replace hhb := Lib.hid hhb
              have hbb : (hb != hb) = false := by simp
              clear hgd
              go_upto_region 18 with (fail)
              refine wpR_region (TChg lo (hts ++ rts)) 9999 (by kernel_rfl) ?_
              (rw [← hwd]; replace hwd := Lib.hid hwd)
              refine wpR_take (i := 0) (v := ?_) (TChg.road lo _) (some 81) rfl (by kernel_rfl) (by kernel_rfl) (by kernel_rfl) (by kernel_rfl) (by kernel_rfl) (fun _ _ _ h => h) (by kernel_rfl) (fun w' hw' => ?_) ?_
              rotate_left
              · go_simp; with_reducible rfl
              simp only [Act.put, List.setIfInBounds_toArray, List.set_cons_zero, List.set_cons_succ]
              refine wpR_take (i := 1) (v := ?_) (TChg.road lo _) (some 82) rfl (by kernel_rfl) (by kernel_rfl) (by kernel_rfl) (by kernel_rfl) (by kernel_rfl) (fun _ _ _ h => h) (by kernel_rfl) (fun w' hw' => ?_) ?_
              rotate_left
              · go_simp; with_reducible rfl
              simp only [Act.put, List.setIfInBounds_toArray, List.set_cons_zero, List.set_cons_succ]
              refine wpR_take (i := 2) (v := ?_) (TChg.road lo _) (some 83) rfl (by kernel_rfl) (by kernel_rfl) (by kernel_rfl) (by kernel_rfl) (by kernel_rfl) (fun _ _ _ h => h) (by kernel_rfl) (fun w' hw' => ?_) ?_
              rotate_left
              · have qb := hw'.block hbd.out (by decide); have q := blk_cell (j := 1) (v := .string (bs kq)) qb rfl; go_simp; with_reducible rfl
              simp only [Act.put, List.setIfInBounds_toArray, List.set_cons_zero, List.set_cons_succ]
              refine wpR_take (i := 4) (v := ?_) (TChg.road lo _) (some 85) rfl (by kernel_rfl) (by kernel_rfl) (by kernel_rfl) (by kernel_rfl) (by kernel_rfl) (fun _ _ _ h => h) (by kernel_rfl) (fun w' hw' => ?_) ?_
              rotate_left
              · go_simp; with_reducible rfl
              simp only [Act.put, List.setIfInBounds_toArray, List.set_cons_zero, List.set_cons_succ]
              refine wpR_take (i := 5) (v := ?_) (TChg.road lo _) (some 86) rfl (by kernel_rfl) (by kernel_rfl) (by kernel_rfl) (by kernel_rfl) (by kernel_rfl) (fun _ _ _ h => h) (by kernel_rfl) (fun w' hw' => ?_) ?_
              rotate_left
              · go_simp; with_reducible rfl
              simp only [Act.put, List.setIfInBounds_toArray, List.set_cons_zero, List.set_cons_succ]
              refine wpR_take (i := 6) (v := ?_) (TChg.road lo _) (some 87) rfl (by kernel_rfl) (by kernel_rfl) (by kernel_rfl) (by kernel_rfl) (by kernel_rfl) (fun _ _ _ h => h) (by kernel_rfl) (fun w' hw' => ?_) ?_
              rotate_left
              · have qb := hw'.block hbd.out (by decide); have q := blk_cell (j := 1) (v := .string (bs kq)) qb rfl; go_simp; with_reducible rfl
              simp only [Act.put, List.setIfInBounds_toArray, List.set_cons_zero, List.set_cons_succ]
              refine wpR_one 3 rfl (by kernel_rfl) (by kernel_rfl) (fun K hK => ?_)
              go_simp
              refine hdp.out.mono ?_
              rintro en w4 ⟨rfl, hm4, ht4⟩
              refine hK _ _ (fun _ => ht4.mono (Nat.le_refl _) (fun t ht => List.mem_append_left _ ht)) ?_
              clear hK K
              have hr4 := rh_hts hrd ht4
              have hrdp := Lib.hid (rdrop_all lo g2 vk vd vw now qn R L (by have := hLn.out; omega) hLd.out hrl.out kq w4 (Lib.hid (hlog.out _ (hlob.out _ _ _ hgwd.out ht4))) hr4)
              rw [hhb.out] at hrdp
              clear hdp
              try simp only [Act.put, List.setIfInBounds_toArray, List.set_cons_zero, List.set_cons_succ]
              refine wpR_one 7 rfl (by kernel_rfl) (by kernel_rfl) (fun K hK => ?_)
              go_simp
              refine hrdp.out.mono ?_
              rintro en w5 ⟨rfl, ⟨uk, ud, uw, R5, hr5, hrl5⟩, ht5⟩
              refine hK _ _ (fun _ => ht5.mono (Nat.le_refl _) (fun t ht => List.mem_append_right _ ht)) ?_
              clear hK K
              replace hrl5 := Lib.hid hrl5
              try simp only [Act.put, List.setIfInBounds_toArray, List.set_cons_zero, List.set_cons_succ]
              refine wpR_take (i := 8) (v := ?_) (TChg.road lo _) (some 89) rfl (by kernel_rfl) (by kernel_rfl) (by kernel_rfl) (by kernel_rfl) (by kernel_rfl) (fun _ _ _ h => h) (by kernel_rfl) (fun w' hw' => ?_) ?_
              rotate_left
              · go_simp; with_reducible rfl
              simp only [Act.put, List.setIfInBounds_toArray, List.set_cons_zero, List.set_cons_succ]
              refine wpR_done (by kernel_rfl) ?_ _
              go_wp2_with fail
              go_meet
              exact ⟨now, _, _, _, _, _, by omega, Lib.hid (by have := hLl.out; have := drop_len L kq; omega), hd_rts hm4 ht5, hr5, hrl5, Lib.hid (hlob.out _ _ _ (hlob.out _ _ _ hgwd.out ht4) ht5)⟩
            have e0 : ((dd : Int) == 0) = false := beq_false_of_ne (by omega)
            have e0n : (dd == 0) = false := beq_false_of_ne (by omega)
            have e1 : ((dd : Int) == 1) = false := beq_false_of_ne (by omega)
            have e1n : (dd == 1) = false := beq_false_of_ne (by omega)
            have e2 : ((dd : Int) == 2) = false := beq_false_of_ne (by omega)
            have e2n : (dd == 2) = false := beq_false_of_ne (by omega)
            have e3 : ((dd : Int) == 3) = false := beq_false_of_ne (by omega)
            have e3n : (dd == 3) = false := beq_false_of_ne (by omega)
            clear h0 h1 h2 h3
            obtain ⟨wd, hwd⟩ : ∃ wd, wd = W.drew := ⟨_, rfl⟩
            have hgd : GrM W wd := by rw [hwd]; exact (Below.refl _ _).drew
            have hmd := Hd.gr hgd hmW
            have hrd := Rh.gr hgd hrW
            have hgwd : Hid (GrM w wd) := Lib.hid (hgwW.out.trans hgd)
            have hbd : wd.heap[gx]? = some (.cells #[.int .u8 (U gq), .string (bs kq), .slice Aq mq cq] 29 (0, 0)) := blk_below hbx.out hgd
            have y1 := blk_cell (j := 1) (v := .string (bs kq)) hbd rfl
            have y2 := blk_cell (j := 2) (v := .slice Aq mq cq) hbd rfl
            replace hbd := Lib.hid hbd
            have hLn : Hid (L.length ≤ 60) := Lib.hid (by have := hLl.out; omega)
            have hbyd := BytH.gr hgd hby
            clear hgd
            by_cases hle : mq ≤ qn
            · skip
              have hpt := Lib.hid (put17_yes lo g r qn L kq lq Aq mq cq hmq hle wd (Lib.hid (hlog.out _ hgwd.out)) hmd hbyd)
              go_upto_region 8 with (fail)
              refine wpR_region (TChg lo (hts ++ rts)) 9999 (by kernel_rfl) ?_
              (rw [← hwd]; replace hwd := Lib.hid hwd)
              refine wpR_take (i := 0) (v := ?_) (TChg.road lo _) (some 38) rfl (by kernel_rfl) (by kernel_rfl) (by kernel_rfl) (by kernel_rfl) (by kernel_rfl) (fun _ _ _ h => h) (by kernel_rfl) (fun w' hw' => ?_) ?_
              rotate_left
              · go_simp; with_reducible rfl
              simp only [Act.put, List.setIfInBounds_toArray, List.set_cons_zero, List.set_cons_succ]
              refine wpR_take (i := 1) (v := ?_) (TChg.road lo _) (some 39) rfl (by kernel_rfl) (by kernel_rfl) (by kernel_rfl) (by kernel_rfl) (by kernel_rfl) (fun _ _ _ h => h) (by kernel_rfl) (fun w' hw' => ?_) ?_
              rotate_left
              · go_simp; with_reducible rfl
              simp only [Act.put, List.setIfInBounds_toArray, List.set_cons_zero, List.set_cons_succ]
              refine wpR_take (i := 2) (v := ?_) (TChg.road lo _) (some 40) rfl (by kernel_rfl) (by kernel_rfl) (by kernel_rfl) (by kernel_rfl) (by kernel_rfl) (fun _ _ _ h => h) (by kernel_rfl) (fun w' hw' => ?_) ?_
              rotate_left
              · have qb := hw'.block hbd.out (by decide); have q := blk_cell (j := 1) (v := .string (bs kq)) qb rfl; go_simp; with_reducible rfl
              simp only [Act.put, List.setIfInBounds_toArray, List.set_cons_zero, List.set_cons_succ]
              refine wpR_take (i := 3) (v := ?_) (TChg.road lo _) (some 41) rfl (by kernel_rfl) (by kernel_rfl) (by kernel_rfl) (by kernel_rfl) (by kernel_rfl) (fun _ _ _ h => h) (by kernel_rfl) (fun w' hw' => ?_) ?_
              rotate_left
              · go_simp; with_reducible rfl
              simp only [Act.put, List.setIfInBounds_toArray, List.set_cons_zero, List.set_cons_succ]
              refine wpR_take (i := 4) (v := ?_) (TChg.road lo _) (some 42) rfl (by kernel_rfl) (by kernel_rfl) (by kernel_rfl) (by kernel_rfl) (by kernel_rfl) (fun _ _ _ h => h) (by kernel_rfl) (fun w' hw' => ?_) ?_
              rotate_left
              · have qb := hw'.block hbd.out (by decide); have q := blk_cell (j := 2) (v := .slice Aq mq cq) qb rfl; go_simp; with_reducible rfl
              simp only [Act.put, List.setIfInBounds_toArray, List.set_cons_zero, List.set_cons_succ]
              refine wpR_take (i := 6) (v := ?_) (TChg.road lo _) (some 44) rfl (by kernel_rfl) (by kernel_rfl) (by kernel_rfl) (by kernel_rfl) (by kernel_rfl) (fun _ _ _ h => h) (by kernel_rfl) (fun w' hw' => ?_) ?_
              rotate_left
              · go_simp; with_reducible rfl
              simp only [Act.put, List.setIfInBounds_toArray, List.set_cons_zero, List.set_cons_succ]
              refine wpR_take (i := 7) (v := ?_) (TChg.road lo _) (some 45) rfl (by kernel_rfl) (by kernel_rfl) (by kernel_rfl) (by kernel_rfl) (by kernel_rfl) (fun _ _ _ h => h) (by kernel_rfl) (fun w' hw' => ?_) ?_
              rotate_left
              · go_simp; with_reducible rfl
              simp only [Act.put, List.setIfInBounds_toArray, List.set_cons_zero, List.set_cons_succ]
              refine wpR_take (i := 8) (v := ?_) (TChg.road lo _) (some 46) rfl (by kernel_rfl) (by kernel_rfl) (by kernel_rfl) (by kernel_rfl) (by kernel_rfl) (fun _ _ _ h => h) (by kernel_rfl) (fun w' hw' => ?_) ?_
              rotate_left
              · have qb := hw'.block hbd.out (by decide); have q := blk_cell (j := 1) (v := .string (bs kq)) qb rfl; go_simp; with_reducible rfl
              simp only [Act.put, List.setIfInBounds_toArray, List.set_cons_zero, List.set_cons_succ]
              refine wpR_take (i := 9) (v := ?_) (TChg.road lo _) (some 47) rfl (by kernel_rfl) (by kernel_rfl) (by kernel_rfl) (by kernel_rfl) (by kernel_rfl) (fun _ _ _ h => h) (by kernel_rfl) (fun w' hw' => ?_) ?_
              rotate_left
              · go_simp; with_reducible rfl
              simp only [Act.put, List.setIfInBounds_toArray, List.set_cons_zero, List.set_cons_succ]
              refine wpR_take (i := 10) (v := ?_) (TChg.road lo _) (some 48) rfl (by kernel_rfl) (by kernel_rfl) (by kernel_rfl) (by kernel_rfl) (by kernel_rfl) (fun _ _ _ h => h) (by kernel_rfl) (fun w' hw' => ?_) ?_
              rotate_left
              · have qb := hw'.block hbd.out (by decide); have q := blk_cell (j := 2) (v := .slice Aq mq cq) qb rfl; go_simp; with_reducible rfl
              simp only [Act.put, List.setIfInBounds_toArray, List.set_cons_zero, List.set_cons_succ]
              refine wpR_take (i := 11) (v := ?_) (TChg.road lo _) (some 49) rfl (by kernel_rfl) (by kernel_rfl) (by kernel_rfl) (by kernel_rfl) (by kernel_rfl) (fun _ _ _ h => h) (by kernel_rfl) (fun w' hw' => ?_) ?_
              rotate_left
              · have hcv := run_str_at (n := mq) cq (BytH.tchg hw' (by decide) hbyd).out.1 hmq.out; go_simp; with_reducible rfl
              simp only [Act.put, List.setIfInBounds_toArray, List.set_cons_zero, List.set_cons_succ]
              refine wpR_one 5 rfl (by kernel_rfl) (by kernel_rfl) (fun K hK => ?_)
              go_simp
              refine hpt.out.mono ?_
              rintro en w4 ⟨rfl, ⟨p, vn, -, hm4, -⟩, ht4⟩
              refine hK _ _ (fun _ => ht4.mono (Nat.le_refl _) (fun t ht => List.mem_append_left _ ht)) ?_
              clear hK K
              have hr4 := rh_hts hrd ht4
              have hrp := Lib.hid (rput17_yes lo g2 vk vd vw now qn (by omega) hq32 R L (by have := hLn.out; omega) hLs.out hLd.out hrl.out kq lq mq hmq.out hle w4 (Lib.hid (hlog.out _ (hlob.out _ _ _ hgwd.out ht4))) hr4)
              clear hpt
              try simp only [Act.put, List.setIfInBounds_toArray, List.set_cons_zero, List.set_cons_succ]
              refine wpR_one 12 rfl (by kernel_rfl) (by kernel_rfl) (fun K hK => ?_)
              go_simp
              refine hrp.out.mono ?_
              rintro en w5 ⟨rfl, ⟨uk, ud, uw, R5, hr5, hrl5⟩, ht5⟩
              refine hK _ _ (fun _ => ht5.mono (Nat.le_refl _) (fun t ht => List.mem_append_right _ ht)) ?_
              clear hK K
              have hrl6 := Lib.hid (hrl5 p vn)
              clear hrl5
              try simp only [Act.put, List.setIfInBounds_toArray, List.set_cons_zero, List.set_cons_succ]
              refine wpR_take (i := 13) (v := ?_) (TChg.road lo _) (some 51) rfl (by kernel_rfl) (by kernel_rfl) (by kernel_rfl) (by kernel_rfl) (by kernel_rfl) (fun _ _ _ h => h) (by kernel_rfl) (fun w' hw' => ?_) ?_
              rotate_left
              · go_simp; with_reducible rfl
              simp only [Act.put, List.setIfInBounds_toArray, List.set_cons_zero, List.set_cons_succ]
              refine wpR_done (by kernel_rfl) ?_ _
              go_wp2_with fail
              go_meet
              exact ⟨now + 1, _, _, _, _, _, by omega, Lib.hid (by rw [List.length_append]; have h1 := hLl.out; have h2 := drop_len L kq; have h3 := (trim_suffix qn mq (dropN L kq)).length_le; simp; omega), hd_rts hm4 ht5, hr5, hrl6, Lib.hid (hlob.out _ _ _ (hlob.out _ _ _ hgwd.out ht4) ht5)⟩
            · skip
              have hpt := Lib.hid (put17_no lo g r qn L kq lq Aq mq cq hmq.out (by omega) wd hmd)
              go_upto_region 8 with (fail)
              refine wpR_region (TChg lo (hts ++ rts)) 9999 (by kernel_rfl) ?_
              (rw [← hwd]; replace hwd := Lib.hid hwd)
              refine wpR_take (i := 0) (v := ?_) (TChg.road lo _) (some 38) rfl (by kernel_rfl) (by kernel_rfl) (by kernel_rfl) (by kernel_rfl) (by kernel_rfl) (fun _ _ _ h => h) (by kernel_rfl) (fun w' hw' => ?_) ?_
              rotate_left
              · go_simp; with_reducible rfl
              simp only [Act.put, List.setIfInBounds_toArray, List.set_cons_zero, List.set_cons_succ]
              refine wpR_take (i := 1) (v := ?_) (TChg.road lo _) (some 39) rfl (by kernel_rfl) (by kernel_rfl) (by kernel_rfl) (by kernel_rfl) (by kernel_rfl) (fun _ _ _ h => h) (by kernel_rfl) (fun w' hw' => ?_) ?_
              rotate_left
              · go_simp; with_reducible rfl
              simp only [Act.put, List.setIfInBounds_toArray, List.set_cons_zero, List.set_cons_succ]
              refine wpR_take (i := 2) (v := ?_) (TChg.road lo _) (some 40) rfl (by kernel_rfl) (by kernel_rfl) (by kernel_rfl) (by kernel_rfl) (by kernel_rfl) (fun _ _ _ h => h) (by kernel_rfl) (fun w' hw' => ?_) ?_
              rotate_left
              · have qb := hw'.block hbd.out (by decide); have q := blk_cell (j := 1) (v := .string (bs kq)) qb rfl; go_simp; with_reducible rfl
              simp only [Act.put, List.setIfInBounds_toArray, List.set_cons_zero, List.set_cons_succ]
              refine wpR_take (i := 3) (v := ?_) (TChg.road lo _) (some 41) rfl (by kernel_rfl) (by kernel_rfl) (by kernel_rfl) (by kernel_rfl) (by kernel_rfl) (fun _ _ _ h => h) (by kernel_rfl) (fun w' hw' => ?_) ?_
              rotate_left
              · go_simp; with_reducible rfl
              simp only [Act.put, List.setIfInBounds_toArray, List.set_cons_zero, List.set_cons_succ]
              refine wpR_take (i := 4) (v := ?_) (TChg.road lo _) (some 42) rfl (by kernel_rfl) (by kernel_rfl) (by kernel_rfl) (by kernel_rfl) (by kernel_rfl) (fun _ _ _ h => h) (by kernel_rfl) (fun w' hw' => ?_) ?_
              rotate_left
              · have qb := hw'.block hbd.out (by decide); have q := blk_cell (j := 2) (v := .slice Aq mq cq) qb rfl; go_simp; with_reducible rfl
              simp only [Act.put, List.setIfInBounds_toArray, List.set_cons_zero, List.set_cons_succ]
              refine wpR_take (i := 6) (v := ?_) (TChg.road lo _) (some 44) rfl (by kernel_rfl) (by kernel_rfl) (by kernel_rfl) (by kernel_rfl) (by kernel_rfl) (fun _ _ _ h => h) (by kernel_rfl) (fun w' hw' => ?_) ?_
              rotate_left
              · go_simp; with_reducible rfl
              simp only [Act.put, List.setIfInBounds_toArray, List.set_cons_zero, List.set_cons_succ]
              refine wpR_take (i := 7) (v := ?_) (TChg.road lo _) (some 45) rfl (by kernel_rfl) (by kernel_rfl) (by kernel_rfl) (by kernel_rfl) (by kernel_rfl) (fun _ _ _ h => h) (by kernel_rfl) (fun w' hw' => ?_) ?_
              rotate_left
              · go_simp; with_reducible rfl
              simp only [Act.put, List.setIfInBounds_toArray, List.set_cons_zero, List.set_cons_succ]
              refine wpR_take (i := 8) (v := ?_) (TChg.road lo _) (some 46) rfl (by kernel_rfl) (by kernel_rfl) (by kernel_rfl) (by kernel_rfl) (by kernel_rfl) (fun _ _ _ h => h) (by kernel_rfl) (fun w' hw' => ?_) ?_
              rotate_left
              · have qb := hw'.block hbd.out (by decide); have q := blk_cell (j := 1) (v := .string (bs kq)) qb rfl; go_simp; with_reducible rfl
              simp only [Act.put, List.setIfInBounds_toArray, List.set_cons_zero, List.set_cons_succ]
              refine wpR_take (i := 9) (v := ?_) (TChg.road lo _) (some 47) rfl (by kernel_rfl) (by kernel_rfl) (by kernel_rfl) (by kernel_rfl) (by kernel_rfl) (fun _ _ _ h => h) (by kernel_rfl) (fun w' hw' => ?_) ?_
              rotate_left
              · go_simp; with_reducible rfl
              simp only [Act.put, List.setIfInBounds_toArray, List.set_cons_zero, List.set_cons_succ]
              refine wpR_take (i := 10) (v := ?_) (TChg.road lo _) (some 48) rfl (by kernel_rfl) (by kernel_rfl) (by kernel_rfl) (by kernel_rfl) (by kernel_rfl) (fun _ _ _ h => h) (by kernel_rfl) (fun w' hw' => ?_) ?_
              rotate_left
              · have qb := hw'.block hbd.out (by decide); have q := blk_cell (j := 2) (v := .slice Aq mq cq) qb rfl; go_simp; with_reducible rfl
              simp only [Act.put, List.setIfInBounds_toArray, List.set_cons_zero, List.set_cons_succ]
              refine wpR_take (i := 11) (v := ?_) (TChg.road lo _) (some 49) rfl (by kernel_rfl) (by kernel_rfl) (by kernel_rfl) (by kernel_rfl) (by kernel_rfl) (fun _ _ _ h => h) (by kernel_rfl) (fun w' hw' => ?_) ?_
              rotate_left
              · have hcv := run_str_at (n := mq) cq (BytH.tchg hw' (by decide) hbyd).out.1 hmq.out; go_simp; with_reducible rfl
              simp only [Act.put, List.setIfInBounds_toArray, List.set_cons_zero, List.set_cons_succ]
              refine wpR_one 5 rfl (by kernel_rfl) (by kernel_rfl) (fun K hK => ?_)
              go_simp
              refine hpt.out.mono ?_
              rintro en w4 ⟨rfl, hm4, ht4⟩
              refine hK _ _ (fun _ => ht4.mono (Nat.le_refl _) (fun t ht => List.mem_append_left _ ht)) ?_
              clear hK K
              have hr4 := rh_hts hrd ht4
              have hrp := Lib.hid (rput17_no lo g2 vk vd vw now qn R L (by have := hLn.out; omega) hLd.out hrl.out kq lq mq hmq.out (by omega) w4 (Lib.hid (hlog.out _ (hlob.out _ _ _ hgwd.out ht4))) hr4)
              clear hpt
              try simp only [Act.put, List.setIfInBounds_toArray, List.set_cons_zero, List.set_cons_succ]
              refine wpR_one 12 rfl (by kernel_rfl) (by kernel_rfl) (fun K hK => ?_)
              go_simp
              refine hrp.out.mono ?_
              rintro en w5 ⟨rfl, ⟨uk, ud, uw, R5, hr5, hrl5⟩, ht5⟩
              refine hK _ _ (fun _ => ht5.mono (Nat.le_refl _) (fun t ht => List.mem_append_right _ ht)) ?_
              clear hK K
              have hrl6 := Lib.hid hrl5
              clear hrl5
              try simp only [Act.put, List.setIfInBounds_toArray, List.set_cons_zero, List.set_cons_succ]
              refine wpR_take (i := 13) (v := ?_) (TChg.road lo _) (some 51) rfl (by kernel_rfl) (by kernel_rfl) (by kernel_rfl) (by kernel_rfl) (by kernel_rfl) (fun _ _ _ h => h) (by kernel_rfl) (fun w' hw' => ?_) ?_
              rotate_left
              · go_simp; with_reducible rfl
              simp only [Act.put, List.setIfInBounds_toArray, List.set_cons_zero, List.set_cons_succ]
              refine wpR_done (by kernel_rfl) ?_ _
              go_wp2_with fail
              go_meet
              exact ⟨now, _, _, _, _, _, by omega, Lib.hid (by have h1 := hLl.out; have h2 := drop_len L kq; omega), hd_rts hm4 ht5, hr5, hrl6, Lib.hid (hlob.out _ _ _ (hlob.out _ _ _ hgwd.out ht4) ht5)⟩
          case rest =>
            obtain ⟨now5, L5, R5, uk, ud, uw, hni5, hLl5, hm5, hr5, hrl5, hgw5⟩ := hcut
            clear hmW hrW hrl hgwW hbx x0 x1 hby hLd hLs hLl
            have hu := Lib.hid (used_any lo g r qn L5 _ hm5)
            have hRl := hrl5.out.len
            have hRs := hrl5.out.sum
            have hle5 := hm5.out.le
            have hru := rused17_any lo g2 uk ud uw now5 qn R5 (by have := hLl5.out; omega) (by omega) _ hr5
            rw [hRs] at hru
            replace hru := Lib.hid hru
            have hkeys := Lib.hid (keys17_any lo g r qn L5 (by have := hLl5.out; omega) _ hm5)
            have hord : Hid (∀ x, Hid (Rh x lo g2 uk ud uw now5 qn R5) → Calls Try.prog 20 #[.pointer (some ⟨g2, 0, none⟩)] x fun e w' => ∃ v, e = .returned v ∧ Hid (OS (keysN L5) v x.heap.size w') ∧ GrM x w') := Lib.hid (fun x hx => by
              have := rorder17_any lo g2 uk ud uw now5 qn (by omega) R5 (by have := hLl5.out; omega) x hx
              rw [hrl5.out.order] at this
              exact this)
            obtain ⟨n5, hn5⟩ : ∃ n5, (keysN L5).length = n5 := ⟨_, rfl⟩
            have hn61 : n5 ≤ 61 := by rw [← hn5, keysN_len]; have := hLl5.out; omega
            replace hn5 := Lib.hid hn5
            replace hRl := Lib.hid hRl
            replace hRs := Lib.hid hRs
            replace hle5 := Lib.hid hle5
            go_wp2_with (first
              | (go_at_call 16; go_must (refine hu.out.mono ?_); rintro e w' ⟨rfl, hee⟩; rw [hee]; clear hee)
              | (go_at_call 17; go_must (refine hru.out.mono ?_); rintro e w' ⟨rfl, hee⟩; rw [hee]; clear hee)
              | (go_at_call 19; go_must (refine hkeys.out.mono ?_); clear hkeys; rintro e w6 ⟨v6, rfl, ho6, hg6⟩; have ho6' : OS (keysN L5) v6 _ w6 := ho6.out; obtain ⟨A6, c6, rfl, -, -⟩ := ho6'.form; clear ho6; have ho6 := Lib.hid ho6'; clear ho6'; rw [hn5.out]; have hor := Lib.hid (hord.out w6 (Rh.gr hg6 hr5)))
              | (go_at_call 20; go_must (refine hor.out.mono ?_); clear hor; rintro e w7 ⟨v7, rfl, ho7, hg7⟩; obtain ⟨A7, c7, rfl, -, -⟩ := ho7.out.form; rw [hn5.out]; have ho6' := ho6.out; have ho7' := ho7.out; rw [hn5.out] at ho6' ho7'; have hsame := Lib.hid (same_self A6 A7 n5 n5 c6 c7 hn5.out hn5.out (by omega) w7 (RS.below hg7 (OS.rs ho6')) (OS.rs ho7')); clear ho6' ho7')
              | (go_at_call 18; go_must (refine hsame.out.mono ?_); clear hsame; rintro e w8 ⟨rfl, hg8⟩))
            go_roundw
            case rel => exact ⟨i + 1, now5, L5, R5, _, _, _, by omega, by go_num, by omega, hLl5, Hd.gr hg8 (Hd.gr hg7 (Hd.gr hg6 hm5)), Rh.gr hg8 (Rh.gr hg7 (Rh.gr hg6 hr5)), hrl5, Lib.hid (((hgw5.out.trans hg6).trans hg7).trans hg8)⟩
            case measure => simp [intOf]; omega
      | false =>
        have haw := Lib.hid (awake17_any wr)
        go_wp2_with (go_at_call 21; go_must (refine haw.out.mono ?_); rintro e w9 ⟨rfl, hg9⟩; replace hg9 := Lib.hid hg9)
        go_ret
        exact ⟨rfl, GrM.trans hgr.out hg9.out⟩
end Go.Proofs.Ythhggojpmilmdaa
