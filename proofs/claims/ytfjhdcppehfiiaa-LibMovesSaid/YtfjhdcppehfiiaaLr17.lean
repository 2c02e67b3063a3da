/- lib: LibMoves. -/
import Derived.Test.YtfjhdcppehfiiaaLrZ
namespace Go.Proofs.Ytfjhdcppehfiiaa
set_option linter.unusedVariables false
set_option linter.unusedSimpArgs false
open Go Go.RowKit
theorem go_liL (lo g : Nat) (C : List Nat) (SS : List CS) (D : List Dr) (calls T : Nat) (w : World) (h : Hid (Li w lo g C SS D calls)) (hD : Hid (DOk C.length T D)) (hcl : calls ≤ 1000000) (z p : Int) : Calls Try.prog 13 #[.pointer (some ⟨g, 0, none⟩), .int .i64 z, .int .i64 p] w fun e w' => ∃ b r D' calls', e = .returned (.tuple #[.bool b, .int .i64 r]) ∧ calls' ≤ calls + 1 ∧ Hid (D'.length = D.length) ∧ Hid (Li w' lo g C SS D' calls') ∧ Hid (DOk C.length T D') ∧ Hid (TChg lo lts w w') := by
  obtain ⟨vc, vd, hl⟩ := h.out.lb
  rcases lit_or (n := C.length) z with hz | ⟨i, rfl, hi⟩
  · refine (go_no lo g vc vd C D calls w (Lib.hid hl) z p hz).mono ?_
    rintro e w' ⟨rfl, rfl⟩
    exact ⟨_, _, D, calls, rfl, by omega, Lib.hid rfl, h, hD, Lib.hid (TChg.refl _ _ _)⟩
  · obtain ⟨b, hb⟩ : ∃ b, C[i]? = some b := ⟨_, List.getElem?_eq_getElem hi⟩
    by_cases hp : p < 0 ∨ 1024 < p
    · refine (go_badpos lo g vc vd C D calls w (Lib.hid hl) i b hb p hp).mono ?_
      rintro e w' ⟨rfl, rfl⟩
      exact ⟨_, _, D, calls, rfl, by omega, Lib.hid rfl, h, hD, Lib.hid (TChg.refl _ _ _)⟩
    · rcases hold_or D (i : Int) with hn | ⟨j, d, hj⟩
      · rcases next_or D with hx | ⟨j, hx⟩
        · refine (go_down lo g vc vd C D calls w (Lib.hid hl) i b hb p (by omega) (by omega) hcl hn hx).mono ?_
          rintro e w' ⟨rfl, hl', hc⟩
          exact ⟨_, _, D, calls + 1, rfl, Nat.le_refl _, Lib.hid rfl, Lib.hid (h.out.tchg hc (by decide) (by decide) (by decide) ⟨vc, vd, hl'.out⟩), hD, Lib.hid hc⟩
        · refine (go_load lo g vc vd C D calls w (Lib.hid hl) i b hb p (by omega) (by omega) hcl hn j hx).mono ?_
          rintro e w' ⟨rfl, hl', hc⟩
          obtain ⟨d, hd⟩ := hx.lt
          refine ⟨_, _, _, calls + 1, rfl, Nat.le_refl _, Lib.hid (List.length_set ..), Lib.hid (h.out.tchg hc (by decide) (by decide) (by decide) ⟨vc, vd, hl'.out⟩), Lib.hid (hD.out.set hd ⟨fun h => (by cases h), by show (-1 : Int) ≤ i; omega, by show (i : Int) < C.length; omega, fun _ => rfl, by show (0 : Int) ≤ 0; decide, by show (0 : Int) ≤ 1024 + T; omega⟩ (.inr (.inr hn))), Lib.hid hc⟩
      · refine (go_held lo g vc vd C D calls w (Lib.hid hl) i b hb p (by omega) (by omega) hcl j d hj).mono ?_
        rintro e w' ⟨rfl, hl', hc⟩
        obtain ⟨k1, k2, k3, k4, k5, k6⟩ := hD.out.1 d (List.mem_of_getElem? hj.1)
        have hdc := hj.2.1
        refine ⟨_, _, _, calls + 1, rfl, Nat.le_refl _, Lib.hid (List.length_set ..), Lib.hid (h.out.tchg hc (by decide) (by decide) (by decide) ⟨vc, vd, hl'.out⟩), Lib.hid (hD.out.set hj.1 ⟨fun hbr => ?_, k2, k3, fun hm => ?_, ?_, ?_⟩ (.inr (.inl rfl))), Lib.hid hc⟩
        · have := (k1 hbr).1; omega
        · have h9 : d.cart = -1 := hm
          omega
        · show 0 ≤ p; omega
        · show p ≤ 1024 + (T : Int); omega
theorem append_liS (lo g : Nat) (C : List Nat) (SS : List CS) (D : List Dr) (calls T : Nat) (w : World) (h : Hid (Li w lo g C SS D calls)) (hD : Hid (DOk C.length T D)) (hlo : lo ≤ w.heap.size) (hT : T ≤ 900) (i : Nat) (hi : i < C.length) (A : Option Addr) (n c : Nat) (x : List UInt8) (hx : x.length = n) (hnm : n ≤ maxLen) (hrd : Rd w w.heap.size A x) : Calls Try.prog 21 #[.pointer (some ⟨g, 0, none⟩), .int .i64 i, .slice A n c] w fun e w' => ∃ a r SS' D', e = .returned (.tuple #[.int .i64 a, .int .i64 r]) ∧ Hid (Li w' lo g C SS' D' calls) ∧ Hid (DOk C.length (T + 1) D') ∧ Hid (TChg lo ats w w') ∧ Hid (∀ m, txTo SS' i m = txTo SS i m) ∧ Hid (D'.length = D.length) := by
  obtain ⟨vc, vd, hl⟩ := h.out.lb
  have hD1 : DOk C.length (T + 1) D := hD.out.more (Nat.le_refl _) (by omega)
  obtain ⟨b, hb⟩ : ∃ b, C[i]? = some b := ⟨_, List.getElem?_eq_getElem hi⟩
  obtain ⟨s, hs⟩ : ∃ s, SS[i]? = some s := ⟨_, List.getElem?_eq_getElem (by rw [h.out.len]; exact hi)⟩
  obtain ⟨l, hi2, hl0, hct⟩ := h.out.ct i b s hb hs
  rcases stand_or lo g C D calls w i b hb (s.recs.length : Int) vc vd hl with hst | ⟨j, d, hj, hp⟩
  · refine (lappend_busy lo g vc vd C D calls w (Lib.hid hl) i b hb l hi2 s (Lib.hid hct) hst _).mono ?_
    rintro e w' ⟨rfl, rfl⟩
    exact ⟨_, _, SS, D, rfl, h, Lib.hid hD1, Lib.hid (TChg.refl _ _ _), Lib.hid (fun m => rfl), Lib.hid rfl⟩
  · obtain ⟨k1, k2, k3, k4, k5, k6⟩ := hD.out.1 d (List.mem_of_getElem? hj.1)
    have hdc := hj.2.1
    refine (lappend_yesO lo g vc vd C D calls w (Lib.hid hl) i b hb j d l hi2 s (Lib.hid hct) hj hp A n c x hx hnm hrd).mono ?_
    rintro e w' ⟨rfl, hl', -, w5, t5, hcf, hct5, hl5, t6⟩
    have hL5 := h.out.cart hb hcf.out hct5.out hl0 ⟨vc, vd, hl5.out⟩
    have hL6 := hL5.tchg (calls' := calls) t6.out (by decide) (by decide) (by decide) ⟨vc, vd, hl'.out⟩
    have hts : TChg lo ats w w' := (t5.out.mono hl0 (by simp)).trans (t6.out.mono (Nat.le_refl _) (by simp))
    refine ⟨_, _, _, _, rfl, Lib.hid hL6, Lib.hid ?_, Lib.hid hts, Lib.hid (fun m => txTo_set SS i _ m), Lib.hid (by split <;> simp)⟩
    by_cases e0 : (s.append x).2.1 = 0
    · rw [if_pos e0]
      refine hD1.set hj.1 ⟨fun hbr => ?_, k2, k3, fun hm => ?_, ?_, ?_⟩ (.inr (.inl rfl))
      · have := (k1 hbr).1; omega
      · have h9 : d.cart = -1 := hm
        omega
      · show 0 ≤ d.pos + 1; omega
      · show d.pos + 1 ≤ 1024 + ((T + 1 : Nat) : Int); omega
    · rw [if_neg e0]
      exact hD1
set_option maxHeartbeats 8000000 in
set_option maxRecDepth 10000 in
theorem libMoves_any (ca da : UInt8) (Q : List ActL) (v : Value) (Q2 : List ActL) (v2 : Value) (A : Option Addr) (n c : Nat) (x : List UInt8) (hx : x.length = n) (hnm : n ≤ maxLen) (w : World) (hv : Hid (ActsL w.heap.size Q v w)) (hv2 : Hid (ActsL w.heap.size Q2 v2 w)) (hrd : Rd w w.heap.size A x) :
    Calls Try.prog 5 #[.int .u8 (U ca), .int .u8 (U da), v, v2, .slice A n c] w fun e w' => e = .returned (.bool true) ∧ Below w.heap.size w w' := by
  have haft := Lib.hid (after_any ca da Q v w hv)
  obtain ⟨Av, cv, rfl, -, -, -, -⟩ := hv2.out
  obtain ⟨nq, hnq⟩ : ∃ nq, Q2.length = nq := ⟨_, rfl⟩
  rw [hnq] at hv2 ⊢
  replace hnq := Lib.hid hnq
  obtain ⟨lo, hlo⟩ : ∃ lo, w.heap.size = lo := ⟨_, rfl⟩
  rw [hlo] at haft hv2 hrd ⊢
  have haw : Hid (∀ x, Below lo w x → Calls Try.prog 10 #[] x fun e w' => e = .returned (.bool true) ∧ Below lo w w') := Lib.hid (fun x hx => (awake08_any x).mono (fun e w' ⟨h1, h2⟩ => ⟨h1, hx.trans (h2.mono (by rw [← hlo]; exact hx.size))⟩))
  have hlob : Hid (∀ x y, Below lo w x → Below x.heap.size x y → Below lo w y) := Lib.hid (fun x y h ht => h.trans (ht.mono (by rw [← hlo]; exact h.size)))
  have hloc : Hid (∀ x y, Below lo w x → TChg lo ats x y → Below lo w y) := Lib.hid (fun x y h ht => h.trans (ht.below (by rw [← hlo]; exact h.size)))
  have hlow : Hid (∀ x, Below lo w x → lo ≤ x.heap.size) := Lib.hid (fun x h => by rw [← hlo]; exact h.size)
  have hrx : Hid (∀ y, Below lo w y → Rd y y.heap.size A x) := Lib.hid (fun y hy => (hrd.below hy).more (by rw [← hlo]; exact hy.size))
  replace hlo := Lib.hid hlo
  replace hx := Lib.hid hx
  replace hnm := Lib.hid hnm
  clear hv hrd
  go_enter Try.func5, Try.ntmps5
  go_upto_region 2 with (go_at_call 7; go_must (refine haft.out.mono ?_); clear haft; rintro e w1 ⟨gl, gr, T, rfl, hT, hbt, hb1⟩)
  obtain ⟨C, SS, D, calls, C', SS', h1, h2, h3, -, -⟩ := hbt.out
  have hD1 := Lib.hid h2
  have hl1 := Lib.hid h1
  have htx := Lib.hid (texts_any lo gl C SS D calls w1 hl1 (-1))
  obtain ⟨tx, htxe⟩ : ∃ tx, txTo SS (-1) C.length = tx := ⟨_, rfl⟩
  rw [htxe] at htx
  go_upto_region 3 with (go_at_call 18; go_must (refine htx.out.mono ?_); clear htx; rintro e w2 ⟨rfl, hb2⟩)
  have hl2 := Lib.hid (hl1.out.gr hb2)
  have hgr2 := Lib.hid (hlob.out _ _ hb1 hb2)
  have hcl0 : Hid (calls ≤ 40) := Lib.hid (by omega)
  have hT4 : Hid (T ≤ 40) := Lib.hid hT
  clear hbt h1 h2 h3 hb1 hl1 hb2 hT
  replace htxe := Lib.hid htxe
  go_wp2_with fail
  go_loopw [13] (fun z wr => ∃ (i : Nat) (D : List Dr) (calls : Nat), i ≤ 40 ∧ z = .int .i64 i ∧ Hid (calls ≤ 40 + i) ∧ Hid (Li wr lo gl C SS D calls) ∧ Hid (DOk C.length T D) ∧ Hid (Below lo w wr)) (fun z _ => (40 - intOf z).toNat)
  case atStart => exact ⟨0, D, calls, Nat.zero_le _, rfl, Lib.hid (by have := hcl0.out; omega), hl2, hD1, hgr2⟩
  case round =>
    clear hl2 hgr2 hD1 hcl0
    obtain ⟨i, D, calls, hi40, rfl, hcl, hl, hD, hgr⟩ := hrel
    obtain ⟨d0, hd0⟩ : ∃ d0, d0 = (decide (i < nq) && decide (i < 40)) := ⟨_, rfl⟩
    go_upto_region 4 with (fail)
    go_cut [33] (fun z wq => z = .bool d0 ∧ wr = wq)
    case first =>
      by_cases p1 : i < nq
      · have ip1 : (i : Int) < (nq : Int) := by omega
        by_cases p2 : i < 40
        · have ip2 : (i : Int) < 40 := by omega
          rw [decide_eq_true p1, decide_eq_true p2] at hd0
          subst hd0
          go_wp2_with fail
          go_meet
          exact ⟨by first | rfl | simp [*], rfl⟩
        · have ip2 : decide ((i : Int) < 40) = false := decide_eq_false (by omega)
          rw [decide_eq_true p1, decide_eq_false p2] at hd0
          subst hd0
          clear p2
          go_wp2_with fail
          go_meet
          exact ⟨by first | rfl | simp [*], rfl⟩
      · have ip1 : decide ((i : Int) < (nq : Int)) = false := decide_eq_false (by omega)
        have ip1n : decide (i < nq) = false := decide_eq_false p1
        rw [decide_eq_false p1, Bool.false_and] at hd0
        subst hd0
        clear p1
        go_wp2_with fail
        go_meet
        exact ⟨by first | rfl | simp [*], rfl⟩
    case rest =>
      obtain ⟨rfl, rfl⟩ := hcut
      cases d0 with
      | true =>
        have hkk : i < nq ∧ i < 40 := by
          have := hd0.symm
          simp only [Bool.and_eq_true, decide_eq_true_eq] at this
          exact this
        obtain ⟨p1, p2⟩ := hkk
        replace hd0 := Lib.hid hd0
        have ik : (i : Int) < (nq : Int) := by omega
        obtain ⟨A', c', e', -, -, h3, h4⟩ := (ActsL.gr hgr.out hv2).out
        rw [hnq.out] at e' h3
        injection e' with e1 _ e2
        subst e1 e2
        obtain ⟨ba, oa, rfl, hba, hca⟩ := h3 (by omega)
        obtain ⟨q, hq⟩ : ∃ q, Q2[i]? = some q := ⟨_, List.getElem?_eq_getElem (by rw [hnq.out]; exact p1)⟩
        obtain ⟨c0, c1, c2, c3⟩ := hca i q hq
        obtain ⟨dq, zq, pq, Aq, cq, lq⟩ := q
        simp only at c0 c1 c2 c3
        obtain ⟨mq, hmq⟩ : ∃ mq, lq.length = mq := ⟨_, rfl⟩
        rw [hmq] at c3
        replace hmq := Lib.hid hmq
        replace hq := Lib.hid hq
        clear h3 h4 hca hba
        obtain ⟨W, hW⟩ : ∃ W, wr.alloc (.cells #[.int .u8 (U dq), .int .i64 zq, .int .i64 pq, .slice Aq mq cq] 42) = W := ⟨_, rfl⟩
        have hxW : W.heap[wr.heap.size]? = some (.cells #[.int .u8 (U dq), .int .i64 zq, .int .i64 pq, .slice Aq mq cq] 42 (0, 0)) := by rw [← hW]; exact heap_alloc_new wr _
        have q0 := blk_cell (j := 0) hxW rfl
        have q1 := blk_cell (j := 1) hxW rfl
        have q2 := blk_cell (j := 2) hxW rfl
        have hbW : Below wr.heap.size wr W := by rw [← hW]; exact alloc_gr _ _
        have hW1 := Lib.hid (hl.out.gr hbW)
        have hgW := Lib.hid (hlob.out _ _ hgr.out hbW)
        replace hxW := Lib.hid hxW
        clear hbW hl hgr
        go_upto_region 7 with (fail)
        replace hW := Lib.hid hW
        clear c0 c1 c2 c3
        have hk0 : 0 ≤ (U dq).tmod 4 := Int.tmod_nonneg 4 (U_lo dq)
        have hk1 : (U dq).tmod 4 < 4 := Int.tmod_lt_of_pos _ (by decide)
        rcases (by omega : (U dq).tmod 4 = 0 ∨ (U dq).tmod 4 = 1 ∨ (U dq).tmod 4 = 2 ∨ (U dq).tmod 4 = 3) with hk4 | hk4 | hk4 | hk4 <;> clear hk0 hk1
        · have hk : (U dq).tmod 4 = 0 := hk4
          have hcc := Lib.hid (break_li lo gl C SS D calls T W hW1 hD zq)
          clear hk4
          go_wp2_with (go_at_call 19; go_must (refine hcc.out.mono ?_); clear hcc; rintro e w5 ⟨r9, D5, rfl, hl5, hD5, t5⟩)
          go_roundw
          case rel => exact ⟨i + 1, D5, calls, by omega, by go_num, Lib.hid (by have := hcl.out; omega), hl5, hD5, Lib.hid (hloc.out _ _ hgW.out (t5.out.mono (Nat.le_refl _) (by simp)))⟩
          case measure => simp [intOf]; omega
        · have hk : (U dq).tmod 4 = 1 := hk4
          have hcc := Lib.hid (mend_li lo gl C SS D calls T W hW1 hD zq)
          clear hk4
          go_wp2_with (go_at_call 20; go_must (refine hcc.out.mono ?_); clear hcc; rintro e w5 ⟨r9, D5, rfl, hl5, hD5, t5⟩)
          go_roundw
          case rel => exact ⟨i + 1, D5, calls, by omega, by go_num, Lib.hid (by have := hcl.out; omega), hl5, hD5, Lib.hid (hloc.out _ _ hgW.out (t5.out.mono (Nat.le_refl _) (by simp)))⟩
          case measure => simp [intOf]; omega
        · have hk : (U dq).tmod 4 = 2 := hk4
          have hcc := Lib.hid (go_li lo gl C SS D calls T W hW1 hD (by have := hcl.out; omega) zq pq)
          clear hk4
          go_wp2_with (go_at_call 13; go_must (refine hcc.out.mono ?_); clear hcc; rintro e w5 ⟨b9, r9, D5, calls5, rfl, hc5, hl5, hD5, t5⟩)
          go_roundw
          case rel => exact ⟨i + 1, D5, calls5, by omega, by go_num, Lib.hid (by have := hcl.out; omega), hl5, hD5, Lib.hid (hloc.out _ _ hgW.out (t5.out.mono (Nat.le_refl _) (by simp)))⟩
          case measure => simp [intOf]; omega
        · have hk : (U dq).tmod 4 = 3 := hk4
          have hcc := Lib.hid (go_li lo gl C SS D calls T W hW1 hD (by have := hcl.out; omega) zq pq)
          clear hk4
          go_wp2_with (go_at_call 13; go_must (refine hcc.out.mono ?_); clear hcc; rintro e w5 ⟨b9, r9, D5, calls5, rfl, hc5, hl5, hD5, t5⟩)
          go_roundw
          case rel => exact ⟨i + 1, D5, calls5, by omega, by go_num, Lib.hid (by have := hcl.out; omega), hl5, hD5, Lib.hid (hloc.out _ _ hgW.out (t5.out.mono (Nat.le_refl _) (by simp)))⟩
          case measure => simp [intOf]; omega
      | false =>
        replace hd0 := Lib.hid hd0
        have htx := Lib.hid (texts_any lo gl C SS D calls wr hl (-1))
        rw [htxe.out] at htx
        go_upto_region 14 with (go_at_call 18; go_must (refine htx.out.mono ?_); clear htx; rintro e w3 ⟨rfl, hb3⟩)
        have hl3 := Lib.hid (hl.out.gr hb3)
        have hgr3 := Lib.hid (hlob.out _ _ hgr.out hb3)
        clear hl hgr hb3
        obtain ⟨hc32, hd4⟩ := lens_li hl3.out
        obtain ⟨nD, hnD⟩ : ∃ n, D.length = n := ⟨_, rfl⟩
        rw [hnD] at hd4
        replace hnD := Lib.hid hnD
        replace hc32 := Lib.hid hc32
        go_wp2_with fail
        go_loopw [15] (fun z wr => ∃ (i : Nat) (SS : List CS) (D : List Dr) (calls T : Nat), i ≤ nD ∧ z = .int .i64 i ∧ Hid (calls ≤ 100 + i) ∧ Hid (T ≤ 40 + i) ∧ Hid (D.length = nD) ∧ Hid (Li wr lo gl C SS D calls) ∧ Hid (DOk C.length T D) ∧ Hid (Below lo w wr)) (fun z _ => (nD - intOf z).toNat)
        case atStart => exact ⟨0, SS, D, calls, T, Nat.zero_le _, rfl, Lib.hid (by have := hcl.out; omega), Lib.hid (by have := hT4.out; omega), hnD, hl3, hD, hgr3⟩
        case round =>
          clear hl3 hD hgr3 hcl hT4
          obtain ⟨i, SS, D, calls, T, hi, rfl, hcl, hT, hDl, hl, hD, hgr⟩ := hrel
          have hdr := Lib.hid (drives_li lo gl C SS D calls wr hl)
          rw [hDl.out] at hdr
          by_cases hlt : i < nD
          · have ii : (i : Int) < (nD : Int) := by omega
            obtain ⟨d, hd⟩ : ∃ d, D[i]? = some d := ⟨_, List.getElem?_eq_getElem (by rw [hDl.out]; exact hlt)⟩
            have hdv := Lib.hid (drive_li lo gl C SS D calls T wr hl hD i d hd)
            obtain ⟨k1, k2, k3, k4, k5, -⟩ := hD.out.1 d (List.mem_of_getElem? hd)
            replace hd := Lib.hid hd
            obtain ⟨br, cv1, po, na⟩ := d
            simp only at hdv k1 k2 k3 k4 k5
            clear k1 k4 k5
            go_upto_region 18 with (first
              | (go_at_call 16; go_must (refine hdr.out.mono ?_); rintro e w' ⟨rfl, hee⟩; rw [hee]; clear hee hdr)
              | (go_at_call 17; go_must (refine hdv.out.mono ?_); clear hdv; rintro e w2 ⟨rfl, hb2⟩))
            have hl2 := Lib.hid (hl.out.gr hb2)
            have hgr2 := Lib.hid (hlob.out _ _ hgr.out hb2)
            clear hl hgr hb2
            by_cases hm : cv1 = -1
            · subst hm
              go_wp2_with fail
              go_roundw
              case rel => exact ⟨i + 1, SS, D, calls, T, by omega, by go_num, Lib.hid (by have := hcl.out; omega), Lib.hid (by have := hT.out; omega), hDl, hl2, hD, hgr2⟩
              case measure => simp [intOf]; omega
            · obtain ⟨m, rfl⟩ : ∃ m : Nat, cv1 = m := ⟨cv1.toNat, by omega⟩
              have hmC : m < C.length := by omega
              replace hmC := Lib.hid hmC
              have hm0 : (0 : Int) ≤ (m : Int) := by omega
              clear hm k2 k3
              obtain ⟨b, s, hb, hs, hok⟩ := recs_li hl2.out hmC.out
              have htx1 := Lib.hid (texts_any lo gl C SS D calls w2 hl2 (m : Int))
              obtain ⟨ty, hty⟩ : ∃ ty, txTo SS (m : Int) C.length = ty := ⟨_, rfl⟩
              rw [hty] at htx1
              replace hty := Lib.hid hty
              replace hb := Lib.hid hb
              replace hs := Lib.hid hs
              clear hok
              go_upto_region 20 with (go_at_call 18; go_must (refine htx1.out.mono ?_); clear htx1; rintro e w4 ⟨rfl, hb4⟩)
              have hl4 := Lib.hid (hl2.out.gr hb4)
              have hgr4 := Lib.hid (hlob.out _ _ hgr2.out hb4)
              clear hl2 hgr2 hb4
              have hct := Lib.hid (cart_li lo gl C SS D calls w4 hl4 m b hb.out)
              have hln := Lib.hid (clen_li lo gl C SS D calls w4 hl4 m b hb.out s hs.out)
              obtain ⟨nR, hnR⟩ : ∃ n, s.recs.length = n := ⟨_, rfl⟩
              rw [hnR] at hln
              replace hnR := Lib.hid hnR
              have hgo := Lib.hid (go_liL lo gl C SS D calls T w4 hl4 hD (by have := hcl.out; omega) (m : Int) (nR : Int))
              go_upto_region 21 with (first
                | (go_at_call 11; go_must (refine hct.out.mono ?_); rintro e w' ⟨rfl, hee⟩; rw [hee]; clear hee)
                | (go_at_call 12; go_must (refine hln.out.mono ?_); rintro e w' ⟨rfl, hee⟩; rw [hee]; clear hee)
                | (go_at_call 13; go_must (refine hgo.out.mono ?_); clear hgo; rintro e w5 ⟨b5, r5, D5, calls5, rfl, hc5, hDl5, hl5, hD5, t5⟩))
              have hgr5 := Lib.hid (hloc.out _ _ hgr4.out (t5.out.mono (Nat.le_refl _) (by simp)))
              replace hc5 := Lib.hid hc5
              clear hct hln hl4 hgr4 t5 hD
              replace hDl5 : Hid (D5.length = nD) := Lib.hid (hDl5.out.trans hDl.out)
              have hap := Lib.hid (append_liS lo gl C SS D5 calls5 T w5 hl5 hD5 (hlow.out _ hgr5.out) (by have := hT.out; omega) m hmC.out A n c x hx.out hnm.out (hrx.out _ hgr5.out))
              go_upto_region 22 with (go_at_call 21; go_must (refine hap.out.mono ?_); clear hap; rintro e w6 ⟨a6, r6, SS6, D6, rfl, hl6, hD6, t6, hsame, hDl6⟩)
              have hgr6 := Lib.hid (hloc.out _ _ hgr5.out t6.out)
              clear hl5 hgr5 t6 hD5
              replace hDl6 : Hid (D6.length = nD) := Lib.hid (hDl6.out.trans hDl5.out)
              have htx2 := Lib.hid (texts_any lo gl C SS6 D6 calls5 w6 hl6 (m : Int))
              rw [hsame.out, hty.out] at htx2
              go_wp2_with (go_at_call 18; go_must (refine htx2.out.mono ?_); clear htx2; rintro e w7 ⟨rfl, hb7⟩)
              go_roundw
              case rel => exact ⟨i + 1, SS6, D6, calls5, T + 1, by omega, by go_num, Lib.hid (by have := hcl.out; have := hc5.out; omega), Lib.hid (by have := hT.out; omega), hDl6, Lib.hid (hl6.out.gr hb7), hD6, Lib.hid (hlob.out _ _ hgr6.out hb7)⟩
              case measure => simp [intOf]; omega
          · obtain rfl : i = nD := by omega
            have hw1 := Lib.hid (haw.out _ hgr.out)
            go_wp2_with (first
              | (go_at_call 16; go_must (refine hdr.out.mono ?_); rintro e w' ⟨rfl, hee⟩; rw [hee]; clear hee hdr)
              | (go_at_call 10; go_must (refine hw1.out.mono ?_); clear hw1; rintro e w9 ⟨rfl, hb9⟩))
            go_ret
            exact ⟨rfl, hb9⟩
end Go.Proofs.Ytfjhdcppehfiiaa
