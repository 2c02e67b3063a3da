/- lib: a library behind acts. -/
import Derived.Test.YtfjhdcppehfiiaaLr10
import Derived.Test.YtfjhdcppehfiiaaLr11
import Derived.Test.YtfjhdcppehfiiaaOpenAct08
namespace Go.Proofs.Ytfjhdcppehfiiaa
set_option linter.unusedVariables false
set_option linter.unusedSimpArgs false
open Go Go.RowKit
theorem tmod_nat (x : UInt8) (n : Nat) : (U x).tmod (n : Int) = ((x.toNat % n : Nat) : Int) := by
  have := U_bd x
  rw [Int.tmod_eq_emod_of_nonneg (by omega)]
  unfold U
  omega
theorem bt_of {w : World} {lo gl gr nd : Nat} {C C' : List Nat} {SS SS' : List CS} {w1 w2 : World} (hlo : w.heap.size = lo) (h1 : Li w1 lo gl C SS (newD nd) 0) (hb1 : Below lo w w1) (h2 : Rl w2 w1.heap.size gr C' SS' 0) (hb2 : Below w1.heap.size w1 w2) (hC : C'.length = C.length) : BtL w2 lo gl gr 0 ∧ Below lo w w2 := by
  subst hlo
  exact ⟨BtL.start h1 hb1 h2 hb2 hC, hb1.trans (hb2.mono hb1.size)⟩
set_option maxHeartbeats 8000000 in
set_option maxRecDepth 10000 in
theorem after_any (ca da : UInt8) (Q : List ActL) (v : Value) (w : World) (hv : Hid (ActsL w.heap.size Q v w)) :
    Calls Try.prog 7 #[.int .u8 (U ca), .int .u8 (U da), v] w fun e w' => ∃ gl gr T, e = .returned (.pointer (some ⟨gl, 0, none⟩)) ∧ T ≤ 40 ∧ Hid (BtL w' w.heap.size gl gr T) ∧ Below w.heap.size w w' := by
  obtain ⟨Av, cv, rfl, -, -, -, -⟩ := hv.out
  obtain ⟨nq, hnq⟩ : ∃ nq, Q.length = nq := ⟨_, rfl⟩
  rw [hnq] at hv ⊢
  replace hnq := Lib.hid hnq
  obtain ⟨nc, hnc⟩ : ∃ nc, ca.toNat % 9 = nc := ⟨_, rfl⟩
  have hc9 : nc < 9 := by rw [← hnc]; exact Nat.mod_lt _ (by decide)
  have hmc : (U ca).tmod 9 = (nc : Int) := by rw [← hnc]; exact tmod_nat ca 9
  obtain ⟨nd, hnd⟩ : ∃ nd, da.toNat % 5 = nd := ⟨_, rfl⟩
  have hd5 : nd < 5 := by rw [← hnd]; exact Nat.mod_lt _ (by decide)
  have hmd : (U da).tmod 5 = (nd : Int) := by rw [← hnd]; exact tmod_nat da 5
  replace hnc := Lib.hid hnc
  replace hnd := Lib.hid hnd
  obtain ⟨lo, hlo⟩ : ∃ lo, w.heap.size = lo := ⟨_, rfl⟩
  have hnew := Lib.hid (lnew_li nc nd 40 ⟨by decide, by decide⟩ (by omega) (by omega) w)
  have hrnew := Lib.hid (fun x => rnew_li nc nd 40 ⟨by decide, by decide⟩ (by omega) (by omega) x)
  rw [hlo] at hnew hv ⊢
  have hlob : Hid (∀ x y, Below lo w x → TChg lo bts x y → Below lo w y) := Lib.hid (fun x y h ht => h.trans (ht.below (by rw [← hlo]; exact h.size)))
  have hlow : Hid (∀ x, Below lo w x → lo ≤ x.heap.size) := Lib.hid (fun x h => by rw [← hlo]; exact h.size)
  replace hlo := Lib.hid hlo
  have hw1 : IntKind.i64.wrap (nc : Int) = (nc : Int) := by rw [IntKind.wrap_i64]; omega
  have hw2 : IntKind.i64.wrap (nd : Int) = (nd : Int) := by rw [IntKind.wrap_i64]; omega
  have hw3 : IntKind.u8.wrap (nc : Int) = (nc : Int) := u8_wrap _ (by omega)
  have hw4 : IntKind.u8.wrap (nd : Int) = (nd : Int) := u8_wrap _ (by omega)
  go_enter Try.func7, Try.ntmps7
  go_upto_region 2 with (first
    | (go_at_call 23; go_must (refine hnew.out.mono ?_); rintro e w1 ⟨gl, C, SS, rfl, hC, hl1, hb1⟩; clear hnew)
    | (go_at_call 24; go_must (refine (hrnew.out w1).mono ?_); rintro e w2 ⟨gr, C', SS', rfl, hC', hr1, hb2⟩))
  obtain ⟨hbt, hgr0⟩ := bt_of hlo.out hl1.out hb1 hr1.out hb2 (hC'.trans hC.symm)
  replace hbt := Lib.hid hbt
  replace hgr0 := Lib.hid hgr0
  clear hrnew hl1 hr1 hb1 hb2 hC hC' hmc hmd hw1 hw2 hw3 hw4
  go_wp2_with fail
  go_loopw [9] (fun z wr => ∃ (i : Nat), i ≤ 40 ∧ z = .int .i64 i ∧ Hid (BtL wr lo gl gr i) ∧ Hid (Below lo w wr)) (fun z _ => (40 - intOf z).toNat)
  case atStart => exact ⟨0, Nat.zero_le _, rfl, hbt, hgr0⟩
  case round =>
    obtain ⟨i, hi40, rfl, hb, hgr⟩ := hrel
    clear hbt hgr0
    obtain ⟨d0, hd0⟩ : ∃ d0, d0 = (decide (i < nq) && decide (i < 40)) := ⟨_, rfl⟩
    go_upto_region 3 with (fail)
    go_cut [31] (fun z wq => z = .bool d0 ∧ wr = wq)
    case first =>
      by_cases p1 : i < nq
      · have ip1 : (i : Int) < (nq : Int) := by omega
        by_cases p2 : i < 40
        · have ip2 : (i : Int) < 40 := by omega
          rw [decide_eq_true p1, decide_eq_true p2] at hd0
          subst hd0
          go_wp2_with fail
          go_meet
          exact ⟨by first | rfl | simp [*], rfl⟩
        · have ip2 : decide ((i : Int) < 40) = false := decide_eq_false (by omega)
          rw [decide_eq_true p1, decide_eq_false p2] at hd0
          subst hd0
          clear p2
          go_wp2_with fail
          go_meet
          exact ⟨by first | rfl | simp [*], rfl⟩
      · have ip1 : decide ((i : Int) < (nq : Int)) = false := decide_eq_false (by omega)
        have ip1n : decide (i < nq) = false := decide_eq_false p1
        rw [decide_eq_false p1, Bool.false_and] at hd0
        subst hd0
        clear p1
        go_wp2_with fail
        go_meet
        exact ⟨by first | rfl | simp [*], rfl⟩
    case rest =>
      obtain ⟨rfl, rfl⟩ := hcut
      cases d0 with
      | true =>
        have hkk : i < nq ∧ i < 40 := by
          have := hd0.symm
          simp only [Bool.and_eq_true, decide_eq_true_eq] at this
          exact this
        obtain ⟨p1, p2⟩ := hkk
        replace hd0 := Lib.hid hd0
        have ik : (i : Int) < (nq : Int) := by omega
        obtain ⟨A', c', e', -, -, h3, h4⟩ := (ActsL.gr hgr.out hv).out
        rw [hnq.out] at e' h3
        injection e' with e1 _ e2
        subst e1 e2
        obtain ⟨ba, oa, rfl, hba, hca⟩ := h3 (by omega)
        obtain ⟨q, hq⟩ : ∃ q, Q[i]? = some q := ⟨_, List.getElem?_eq_getElem (by rw [hnq.out]; exact p1)⟩
        obtain ⟨c0, c1, c2, c3⟩ := hca i q hq
        obtain ⟨hqz, hqp, hqc, hqm, hqr⟩ := h4 q (List.mem_of_getElem? hq)
        obtain ⟨dq, zq, pq, Aq, cq, lq⟩ := q
        simp only at c0 c1 c2 c3 hqz hqp hqc hqm hqr
        obtain ⟨mq, hmq⟩ : ∃ mq, lq.length = mq := ⟨_, rfl⟩
        rw [hmq] at c3 hqc
        have hdo := Lib.hid (does_any lo gl gr i (by omega) wr hb (hlow.out _ hgr.out) (U dq) zq pq (U_lo dq) hqz hqp Aq mq cq lq hmq (Nat.le_trans hqc hqm) (Lib.hid hqr))
        replace hmq := Lib.hid hmq
        replace hq := Lib.hid hq
        clear h3 h4 hca hba hb hqr hqz hqp hqc hqm
        go_wp2_with (go_at_call 25; go_must (refine hdo.out.mono ?_); clear hdo; rintro e w5 ⟨⟨r5, rfl⟩, hb5, t5⟩)
        go_roundw
        case rel => exact ⟨i + 1, by omega, by go_num, hb5, Lib.hid (hlob.out _ _ hgr.out t5.out)⟩
        case measure => simp [intOf]; omega
      | false =>
        replace hd0 := Lib.hid hd0
        go_wp2_with fail
        go_ret
        exact ⟨gl, gr, i, rfl, hi40, hb, hgr.out⟩
end Go.Proofs.Ytfjhdcppehfiiaa
/- lib: LibOnce. -/
namespace Go.Proofs.Ytfjhdcppehfiiaa
set_option linter.unusedVariables false
set_option linter.unusedSimpArgs false
open Go Go.RowKit
theorem drive_li (lo g : Nat) (C : List Nat) (SS : List CS) (D : List Dr) (calls T : Nat) (w : World) (h : Hid (Li w lo g C SS D calls)) (hD : Hid (DOk C.length T D)) (j : Nat) (d : Dr) (hd : D[j]? = some d) : Calls Try.prog 17 #[.pointer (some ⟨g, 0, none⟩), .int .i64 j] w fun e w' => e = .returned (.tuple #[.int .i64 d.cart, .int .i64 d.pos, .bool (!d.broken)]) ∧ Below w.heap.size w w' := by
  obtain ⟨vc, vd, hl⟩ := h.out.lb
  cases hb : d.broken with
  | true =>
    obtain ⟨k1, -⟩ := hD.out.1 d (List.mem_of_getElem? hd)
    obtain ⟨k2, k3⟩ := k1 hb
    refine (drive_broken lo g vc vd C D calls w (Lib.hid hl) j d hd hb).mono ?_
    rintro e w' ⟨rfl, rfl⟩
    rw [k2, k3]
    exact ⟨rfl, Below.refl _ _⟩
  | false =>
    refine (drive_reads lo g vc vd C D calls w (Lib.hid hl) j d hd hb).mono ?_
    rintro e w' ⟨rfl, hbw⟩
    exact ⟨rfl, hbw⟩
theorem lens_li {lo g : Nat} {C : List Nat} {SS : List CS} {D : List Dr} {calls : Nat} {w : World} (h : Li w lo g C SS D calls) : C.length ≤ 32 ∧ D.length ≤ 4 := by
  obtain ⟨vc, vd, hl⟩ := h.lb
  exact ⟨hl.lc, hl.ld⟩
theorem drives_li (lo g : Nat) (C : List Nat) (SS : List CS) (D : List Dr) (calls : Nat) (w : World) (h : Hid (Li w lo g C SS D calls)) : Calls Try.prog 16 #[.pointer (some ⟨g, 0, none⟩)] w fun e w' => e = .returned (.int .i64 D.length) ∧ w' = w := by
  obtain ⟨vc, vd, hl⟩ := h.out.lb
  exact drives_any lo g vc vd C D calls w (Lib.hid hl)
theorem carts_li (lo g : Nat) (C : List Nat) (SS : List CS) (D : List Dr) (calls : Nat) (w : World) (h : Hid (Li w lo g C SS D calls)) : Calls Try.prog 8 #[.pointer (some ⟨g, 0, none⟩)] w fun e w' => e = .returned (.int .i64 C.length) ∧ w' = w := by
  obtain ⟨vc, vd, hl⟩ := h.out.lb
  exact carts_any lo g vc vd C D calls w (Lib.hid hl)
set_option maxHeartbeats 8000000 in
set_option maxRecDepth 10000 in
theorem libOnce_any (ca da : UInt8) (Q : List ActL) (v : Value) (w : World) (hv : Hid (ActsL w.heap.size Q v w)) :
    Calls Try.prog 4 #[.int .u8 (U ca), .int .u8 (U da), v] w fun e w' => e = .returned (.bool true) ∧ Below w.heap.size w w' := by
  have haft := Lib.hid (after_any ca da Q v w hv)
  obtain ⟨lo, hlo⟩ : ∃ lo, w.heap.size = lo := ⟨_, rfl⟩
  rw [hlo] at haft ⊢
  have haw : Hid (∀ x, Below lo w x → Calls Try.prog 10 #[] x fun e w' => e = .returned (.bool true) ∧ Below lo w w') := Lib.hid (fun x hx => (awake08_any x).mono (fun e w' ⟨h1, h2⟩ => ⟨h1, hx.trans (h2.mono (by rw [← hlo]; exact hx.size))⟩))
  have hlob : Hid (∀ x y, Below lo w x → Below x.heap.size x y → Below lo w y) := Lib.hid (fun x y h ht => h.trans (ht.mono (by rw [← hlo]; exact h.size)))
  replace hlo := Lib.hid hlo
  clear hv
  go_enter Try.func4, Try.ntmps4
  go_upto_region 2 with (go_at_call 7; go_must (refine haft.out.mono ?_); clear haft; rintro e w1 ⟨gl, gr, T, rfl, hT, hbt, hb1⟩)
  obtain ⟨C, SS, D, calls, C', SS', h1, h2, h3, -, -⟩ := hbt.out
  obtain ⟨hc32, hd4⟩ := lens_li h1
  obtain ⟨nC, hnC⟩ : ∃ n, C.length = n := ⟨_, rfl⟩
  obtain ⟨nD, hnD⟩ : ∃ n, D.length = n := ⟨_, rfl⟩
  rw [hnC] at hc32
  rw [hnD] at hd4
  have hD := Lib.hid h2
  have hl1 := Lib.hid h1
  have hgr1 := Lib.hid hb1
  have hdr : Hid (∀ x, Hid (Li x lo gl C SS D calls) → Calls Try.prog 16 #[.pointer (some ⟨gl, 0, none⟩)] x fun e w' => e = .returned (.int .i64 nD) ∧ w' = x) := Lib.hid (fun x hx => by have := drives_li lo gl C SS D calls x hx; rw [hnD] at this; exact this)
  have hca : Hid (∀ x, Hid (Li x lo gl C SS D calls) → Calls Try.prog 8 #[.pointer (some ⟨gl, 0, none⟩)] x fun e w' => e = .returned (.int .i64 nC) ∧ w' = x) := Lib.hid (fun x hx => by have := carts_li lo gl C SS D calls x hx; rw [hnC] at this; exact this)
  replace hnC := Lib.hid hnC
  replace hnD := Lib.hid hnD
  clear hbt h1 h2 h3 hb1 hT
  go_wp2_with fail
  go_loopw [8] (fun z wr => ∃ (i : Nat), i ≤ nD ∧ z = .int .i64 i ∧ Hid (Li wr lo gl C SS D calls) ∧ Hid (Below lo w wr)) (fun z _ => (nD - intOf z).toNat)
  case atStart => exact ⟨0, Nat.zero_le _, rfl, hl1, hgr1⟩
  case round =>
    obtain ⟨i, hi, rfl, hl, hgr⟩ := hrel
    clear hl1 hgr1
    have hd1 := Lib.hid (hdr.out _ hl)
    by_cases hlt : i < nD
    · have ii : (i : Int) < (nD : Int) := by omega
      obtain ⟨d, hd⟩ : ∃ d, D[i]? = some d := ⟨_, List.getElem?_eq_getElem (by rw [hnD.out]; exact hlt)⟩
      have hdv := Lib.hid (drive_li lo gl C SS D calls T wr hl hD i d hd)
      obtain ⟨k1, k2, k3, k4, k5, -⟩ := hD.out.1 d (List.mem_of_getElem? hd)
      rw [hnC.out] at k3
      replace hd := Lib.hid hd
      obtain ⟨br, cv, po, na⟩ := d
      simp only at hdv k1 k2 k3 k4 k5
      replace k1 := Lib.hid k1
      replace k4 := Lib.hid k4
      go_upto_region 6 with (first
        | (go_at_call 16; go_must (refine hd1.out.mono ?_); rintro e w' ⟨rfl, hee⟩; rw [hee]; clear hee hd1)
        | (go_at_call 17; go_must (refine hdv.out.mono ?_); clear hdv; rintro e w2 ⟨rfl, hb2⟩))
      have hl2 := Lib.hid (hl.out.gr hb2)
      have hgr2 := Lib.hid (hlob.out _ _ hgr.out hb2)
      have hca2 := Lib.hid (hca.out _ hl2)
      clear hl hgr hb2
      go_cut [64] (fun z wq => z = .bool false ∧ w2 = wq)
      case first =>
        by_cases hm : cv = -1
        · have hp0 := k4.out hm
          subst hm
          subst hp0
          cases br with
          | true =>
            go_wp2_with (go_at_call 8; go_must (refine hca2.out.mono ?_); rintro e w' ⟨rfl, hee⟩; rw [hee]; clear hee)
            go_meet
            exact ⟨by first | rfl | simp [*], rfl⟩
          | false =>
            go_wp2_with (go_at_call 8; go_must (refine hca2.out.mono ?_); rintro e w' ⟨rfl, hee⟩; rw [hee]; clear hee)
            go_meet
            exact ⟨by first | rfl | simp [*], rfl⟩
        · obtain rfl : br = false := by
            cases br with
            | false => rfl
            | true => exact absurd (k1.out rfl).1 hm
          have hmb : (cv == -1) = false := beq_false_of_ne hm
          go_wp2_with (go_at_call 8; go_must (refine hca2.out.mono ?_); rintro e w' ⟨rfl, hee⟩; rw [hee]; clear hee)
          go_meet
          exact ⟨by first | rfl | simp [*], rfl⟩
      case rest =>
        obtain ⟨rfl, rfl⟩ := hcut
        go_wp2_with fail
        go_loopw [12] (fun z wr => ∃ (k : Nat), k ≤ i ∧ z = .int .i64 k ∧ Hid (Li wr lo gl C SS D calls) ∧ Hid (Below lo w wr)) (fun z _ => (i - intOf z).toNat)
        case atStart => exact ⟨0, Nat.zero_le _, rfl, hl2, hgr2⟩
        case round =>
          obtain ⟨k, hk, rfl, hl, hgr⟩ := hrel
          clear hl2 hgr2 hca2
          by_cases hkt : k < i
          · have kk : (k : Int) < (i : Int) := by omega
            obtain ⟨d2, hd2⟩ : ∃ d, D[k]? = some d := ⟨_, List.getElem?_eq_getElem (by rw [hnD.out]; omega)⟩
            have hdv := Lib.hid (drive_li lo gl C SS D calls T wr hl hD k d2 hd2)
            have hun := hD.out.2 k i d2 _ (by omega) hd2 hd.out
            obtain ⟨br2, cv2, po2, na2⟩ := d2
            simp only at hdv hun
            obtain ⟨d0, hd0⟩ : ∃ d0, d0 = (cv2 == cv) := ⟨_, rfl⟩
            have hun' : d0 = true → cv = -1 := fun h => by
              rw [hd0] at h
              have := eq_of_beq h
              rw [← this]; exact hun this
            replace hun' := Lib.hid hun'
            replace hd2 := Lib.hid hd2
            have hd0' := hd0.symm
            replace hd0 := Lib.hid hd0
            clear hun
            go_upto_region 12 with (go_at_call 17; go_must (refine hdv.out.mono ?_); clear hdv; rintro e w3 ⟨rfl, hb3⟩)
            have hl3 := Lib.hid (hl.out.gr hb3)
            have hgr3 := Lib.hid (hlob.out _ _ hgr.out hb3)
            clear hl hgr hb3
            cases d0 with
            | true =>
              have hm := hun'.out rfl
              subst hm
              go_wp2_with fail
              go_roundw
              case rel => exact ⟨k + 1, by omega, by go_num, hl3, hgr3⟩
              case measure => simp [intOf]; omega
            | false =>
              go_wp2_with fail
              go_roundw
              case rel => exact ⟨k + 1, by omega, by go_num, hl3, hgr3⟩
              case measure => simp [intOf]; omega
          · obtain rfl : k = i := by omega
            go_wp2_with fail
            go_roundw
            case rel => exact ⟨k + 1, by omega, by go_num, hl, hgr⟩
            case measure => simp [intOf]; omega
    · obtain rfl : i = nD := by omega
      have hw1 := Lib.hid (haw.out _ hgr.out)
      go_wp2_with (first
        | (go_at_call 16; go_must (refine hd1.out.mono ?_); rintro e w' ⟨rfl, hee⟩; rw [hee]; clear hee hd1)
        | (go_at_call 10; go_must (refine hw1.out.mono ?_); clear hw1; rintro e w9 ⟨rfl, hb9⟩))
      go_ret
      exact ⟨rfl, hb9⟩
end Go.Proofs.Ytfjhdcppehfiiaa
/- lib: LibThree. -/
namespace Go.Proofs.Ytfjhdcppehfiiaa
set_option linter.unusedVariables false
set_option linter.unusedSimpArgs false
open Go Go.RowKit
theorem mem_at {D : List Dr} {d : Dr} (h : d ∈ D) : ∃ k, k < D.length ∧ D[k]? = some d := by
  obtain ⟨k, hk, e⟩ := List.getElem_of_mem h
  exact ⟨k, hk, by rw [List.getElem?_eq_getElem hk, e]⟩
theorem oldN_none {D : List Dr} : ∀ {i : Nat}, oldN D i = none → ∀ (k : Nat) (d : Dr), k < i → D[k]? = some d → d.broken = true
  | 0, _, k, d, hk, _ => absurd hk (Nat.not_lt_zero _)
  | i + 1, h, k, d, hk, hd => by
    rw [oldN] at h
    cases hi : D[i]? with
    | none =>
      rw [hi] at h
      by_cases e : k = i
      · subst e; rw [hi] at hd; cases hd
      · exact oldN_none h k d (by omega) hd
    | some x =>
      rw [hi] at h
      simp only at h
      split at h
      · rename_i hb
        by_cases e : k = i
        · subst e; rw [hi] at hd; injection hd with hd; rw [← hd]; exact hb
        · exact oldN_none h k d (by omega) hd
      · split at h
        · cases h
        · split at h
          · split at h
            · cases h
            · cases h
          · cases h
theorem work_none {D : List Dr} (h : NoNext D) : workN D = 0 := by
  unfold workN
  rw [List.length_eq_zero_iff, List.filter_eq_nil_iff]
  intro d hd
  obtain ⟨k, hk, hkd⟩ := mem_at hd
  have := oldN_none h.2 k d hk hkd
  simp [this]
theorem HoldIs.of_load {D : List Dr} {z x : Int} {j : Nat} (hn : NoHold D z) (hj : NextIs D j) : HoldIs (D.set j ⟨false, z, 0, x⟩) z j ⟨false, z, 0, x⟩ := by
  obtain ⟨d, hd⟩ := hj.lt
  have hl := (List.getElem?_eq_some_iff.mp hd).1
  refine ⟨List.getElem?_set_self hl, rfl, fun j' d' hj' hd' => ?_⟩
  rw [List.getElem?_set_ne (by omega)] at hd'
  exact hn d' (List.mem_of_getElem? hd')
theorem HoldIs.moved {D : List Dr} {z : Int} {j : Nat} {d d' : Dr} (h : HoldIs D z j d) (hc : d'.cart = d.cart) : HoldIs (D.set j d') z j d' := by
  have hl := (List.getElem?_eq_some_iff.mp h.1).1
  refine ⟨List.getElem?_set_self hl, hc.trans h.2.1, fun j' e hj' he => ?_⟩
  rw [List.getElem?_set_ne (by omega)] at he
  exact h.2.2 j' e hj' he
/-- one move, a drive working -/
theorem go_step (lo g : Nat) (C : List Nat) (SS : List CS) (D : List Dr) (calls T : Nat) (w : World) (h : Hid (Li w lo g C SS D calls)) (hD : Hid (DOk C.length T D)) (hcl : calls ≤ 1000000) (hw : workN D ≠ 0) (i : Nat) (hi : i < C.length) (p : Nat) (hp : p ≤ 1024) :
    Calls Try.prog 13 #[.pointer (some ⟨g, 0, none⟩), .int .i64 i, .int .i64 p] w fun e w' => ∃ b D' j d, e = .returned (.tuple #[.bool b, .int .i64 0]) ∧ Hid (Li w' lo g C SS D' (calls + 1)) ∧ Hid (DOk C.length T D') ∧ Hid (TChg lo lts w w') ∧ HoldIs D' i j d ∧ (b = true → d.pos = p) := by
  obtain ⟨vc, vd, hl⟩ := h.out.lb
  obtain ⟨b, hb⟩ : ∃ b, C[i]? = some b := ⟨_, List.getElem?_eq_getElem hi⟩
  rcases hold_or D (i : Int) with hn | ⟨j, d, hj⟩
  · rcases next_or D with hx | ⟨j, hx⟩
    · exact absurd (work_none hx) hw
    · refine (go_load lo g vc vd C D calls w (Lib.hid hl) i b hb p (by omega) (by omega) hcl hn j hx).mono ?_
      rintro e w' ⟨rfl, hl', hc⟩
      obtain ⟨d, hd⟩ := hx.lt
      exact ⟨false, _, j, _, rfl, Lib.hid (h.out.tchg hc (by decide) (by decide) (by decide) ⟨vc, vd, hl'.out⟩), Lib.hid (hD.out.set hd ⟨fun h => (by cases h), by show (-1 : Int) ≤ i; omega, by show (i : Int) < C.length; omega, fun _ => rfl, by show (0 : Int) ≤ 0; decide, by show (0 : Int) ≤ 1024 + T; omega⟩ (.inr (.inr hn))), Lib.hid hc, HoldIs.of_load hn hx, fun h => by cases h⟩
  · refine (go_held lo g vc vd C D calls w (Lib.hid hl) i b hb p (by omega) (by omega) hcl j d hj).mono ?_
    rintro e w' ⟨rfl, hl', hc⟩
    obtain ⟨k1, k2, k3, k4, k5, k6⟩ := hD.out.1 d (List.mem_of_getElem? hj.1)
    have hdc := hj.2.1
    refine ⟨_, _, j, _, rfl, Lib.hid (h.out.tchg hc (by decide) (by decide) (by decide) ⟨vc, vd, hl'.out⟩), Lib.hid (hD.out.set hj.1 ⟨fun hbr => ?_, k2, k3, fun hm => ?_, ?_, ?_⟩ (.inr (.inl rfl))), Lib.hid hc, hj.moved rfl, fun _ => rfl⟩
    · have := (k1 hbr).1; omega
    · have h9 : d.cart = -1 := hm
      omega
    · show (0 : Int) ≤ p; omega
    · show (p : Int) ≤ 1024 + (T : Int); omega
/-- .. the cartridge in one -/
theorem go_more (lo g : Nat) (C : List Nat) (SS : List CS) (D : List Dr) (calls T : Nat) (w : World) (h : Hid (Li w lo g C SS D calls)) (hD : Hid (DOk C.length T D)) (hcl : calls ≤ 1000000) (i : Nat) (hi : i < C.length) (p : Nat) (hp : p ≤ 1024) (j : Nat) (d : Dr) (hj : HoldIs D i j d) :
    Calls Try.prog 13 #[.pointer (some ⟨g, 0, none⟩), .int .i64 i, .int .i64 p] w fun e w' => ∃ D' d', e = .returned (.tuple #[.bool (d.pos == (p : Int)), .int .i64 0]) ∧ Hid (Li w' lo g C SS D' (calls + 1)) ∧ Hid (DOk C.length T D') ∧ Hid (TChg lo lts w w') ∧ HoldIs D' i j d' ∧ d'.pos = p := by
  obtain ⟨vc, vd, hl⟩ := h.out.lb
  obtain ⟨b, hb⟩ : ∃ b, C[i]? = some b := ⟨_, List.getElem?_eq_getElem hi⟩
  refine (go_held lo g vc vd C D calls w (Lib.hid hl) i b hb p (by omega) (by omega) hcl j d hj).mono ?_
  rintro e w' ⟨rfl, hl', hc⟩
  obtain ⟨k1, k2, k3, k4, k5, k6⟩ := hD.out.1 d (List.mem_of_getElem? hj.1)
  have hdc := hj.2.1
  refine ⟨_, _, rfl, Lib.hid (h.out.tchg hc (by decide) (by decide) (by decide) ⟨vc, vd, hl'.out⟩), Lib.hid (hD.out.set hj.1 ⟨fun hbr => ?_, k2, k3, fun hm => ?_, ?_, ?_⟩ (.inr (.inl rfl))), Lib.hid hc, hj.moved rfl, rfl⟩
  · have := (k1 hbr).1; omega
  · have h9 : d.cart = -1 := hm
    omega
  · show (0 : Int) ≤ p; omega
  · show (p : Int) ≤ 1024 + (T : Int); omega
/-- what is read where a drive stands; read once more it does not -/
theorem read_step (lo g : Nat) (C : List Nat) (SS : List CS) (D : List Dr) (calls T : Nat) (hT : T ≤ 900) (w : World) (h : Hid (Li w lo g C SS D calls)) (hD : Hid (DOk C.length T D)) (i : Nat) (s : CS) (hs : SS[i]? = some s) (p : Nat) (hp : p ≤ 1024) (j : Nat) (d : Dr) (hj : HoldIs D i j d) (hdp : d.pos = p) :
    Calls Try.prog 15 #[.pointer (some ⟨g, 0, none⟩), .int .i64 i, .int .i64 p] w fun e w' => ∃ v D' d', e = .returned (.tuple #[v, .int .i64 (s.read p).2]) ∧ Hid (OB w' w.heap.size v (s.read p).1) ∧ Hid (Li w' lo g C SS D' calls) ∧ Hid (TChg lo lts w w') ∧ HoldIs D' i j d' ∧ d'.pos = (p : Int) + 1 := by
  obtain ⟨vc, vd, hl⟩ := h.out.lb
  have hi : i < C.length := by rw [← h.out.len]; exact (List.getElem?_eq_some_iff.mp hs).1
  obtain ⟨b, hb⟩ : ∃ b, C[i]? = some b := ⟨_, List.getElem?_eq_getElem hi⟩
  obtain ⟨l, hi2, hl0, hct⟩ := h.out.ct i b s hb hs
  refine (lread_yes lo g vc vd C D calls w (Lib.hid hl) i b hb p (by omega) (by omega) j d hj hdp l hi2 s (Lib.hid hct)).mono ?_
  rintro e w' ⟨v, rfl, ho, hl', hc⟩
  have hc2 : TChg lo lts w w' := hc.mono (Nat.le_refl _) (by simp)
  refine ⟨v, _, _, rfl, ho, Lib.hid (h.out.tchg hc2 (by decide) (by decide) (by decide) ⟨vc, vd, hl'.out⟩), Lib.hid hc2, hj.moved rfl, rfl⟩
theorem read_busy (lo g : Nat) (C : List Nat) (SS : List CS) (D : List Dr) (calls : Nat) (w : World) (h : Hid (Li w lo g C SS D calls)) (i : Nat) (hi : i < C.length) (p : Nat) (j : Nat) (d : Dr) (hj : HoldIs D i j d) (hdp : d.pos = (p : Int) + 1) :
    Calls Try.prog 15 #[.pointer (some ⟨g, 0, none⟩), .int .i64 i, .int .i64 p] w fun e w' => e = .returned (.tuple #[.slice none 0 0, .int .i64 8]) ∧ w' = w := by
  obtain ⟨vc, vd, hl⟩ := h.out.lb
  obtain ⟨b, hb⟩ : ∃ b, C[i]? = some b := ⟨_, List.getElem?_eq_getElem hi⟩
  exact lread_not g w i p 8 (.inr rfl) (stand_busy lo g vc vd C D calls w (Lib.hid hl) i b hb p j d hj (by omega))
end Go.Proofs.Ytfjhdcppehfiiaa
/- lib: LibThree. -/
namespace Go.Proofs.Ytfjhdcppehfiiaa
set_option linter.unusedVariables false
set_option linter.unusedSimpArgs false
open Go Go.RowKit
/-- where the moves stand: behind i of the two, b: one stood there -/
def Way (D : List Dr) (c p i : Nat) (b : Bool) : Prop := ∃ j d, HoldIs D c j d ∧ (b = true → d.pos = p) ∧ (b = false → i = 0 ∨ (i = 1 ∧ d.pos = p))
theorem Way.done {D : List Dr} {c p i : Nat} (h : Way D c p i false) : i < 2 := by
  obtain ⟨j, d, -, -, h⟩ := h
  rcases h rfl with h | ⟨h, -⟩ <;> omega
theorem way_go (lo g : Nat) (C : List Nat) (SS : List CS) (D : List Dr) (calls T : Nat) (w : World) (h : Hid (Li w lo g C SS D calls)) (hD : Hid (DOk C.length T D)) (hcl : calls ≤ 1000000) (c : Nat) (hc : c < C.length) (p : Nat) (hp : p ≤ 1024) (i : Nat) (hw : Way D c p i false) :
    Calls Try.prog 13 #[.pointer (some ⟨g, 0, none⟩), .int .i64 c, .int .i64 p] w fun e w' => ∃ b D', e = .returned (.tuple #[.bool b, .int .i64 0]) ∧ Hid (Li w' lo g C SS D' (calls + 1)) ∧ Hid (DOk C.length T D') ∧ Hid (TChg lo lts w w') ∧ Hid (Way D' c p (i + 1) b) := by
  obtain ⟨j, d, hj, -, h2⟩ := hw
  refine (go_more lo g C SS D calls T w h hD hcl c hc p hp j d hj).mono ?_
  rintro e w' ⟨D', d', rfl, h3, h4, h5, h6, h7⟩
  refine ⟨_, D', rfl, h3, h4, h5, Lib.hid ⟨j, d', h6, fun _ => h7, fun hf => ?_⟩⟩
  rcases h2 rfl with rfl | ⟨rfl, h9⟩
  · exact .inr ⟨rfl, h7⟩
  · rw [h9] at hf; simp at hf
theorem way_first (lo g : Nat) (C : List Nat) (SS : List CS) (D : List Dr) (calls T : Nat) (w : World) (h : Hid (Li w lo g C SS D calls)) (hD : Hid (DOk C.length T D)) (hcl : calls ≤ 1000000) (hw : workN D ≠ 0) (c : Nat) (hc : c < C.length) (p : Nat) (hp : p ≤ 1024) :
    Calls Try.prog 13 #[.pointer (some ⟨g, 0, none⟩), .int .i64 c, .int .i64 p] w fun e w' => ∃ b D', e = .returned (.tuple #[.bool b, .int .i64 0]) ∧ Hid (Li w' lo g C SS D' (calls + 1)) ∧ Hid (DOk C.length T D') ∧ Hid (TChg lo lts w w') ∧ Hid (Way D' c p 0 b) := by
  refine (go_step lo g C SS D calls T w h hD hcl hw c hc p hp).mono ?_
  rintro e w' ⟨b, D', j, d, rfl, h3, h4, h5, h6, h7⟩
  exact ⟨b, D', rfl, h3, h4, h5, Lib.hid ⟨j, d, h6, h7, fun _ => .inl rfl⟩⟩
theorem cart_li (lo g : Nat) (C : List Nat) (SS : List CS) (D : List Dr) (calls : Nat) (w : World) (h : Hid (Li w lo g C SS D calls)) (i b : Nat) (hb : C[i]? = some b) : Calls Try.prog 11 #[.pointer (some ⟨g, 0, none⟩), .int .i64 i] w fun e w' => e = .returned (.pointer (some ⟨b, 0, none⟩)) ∧ w' = w := by
  obtain ⟨vc, vd, hl⟩ := h.out.lb
  exact cart_yes lo g vc vd C D calls w (Lib.hid hl) i b hb
theorem clen_li (lo g : Nat) (C : List Nat) (SS : List CS) (D : List Dr) (calls : Nat) (w : World) (h : Hid (Li w lo g C SS D calls)) (i b : Nat) (hb : C[i]? = some b) (s : CS) (hs : SS[i]? = some s) : Calls Try.prog 12 #[.pointer (some ⟨b, 0, none⟩)] w fun e w' => e = .returned (.int .i64 s.recs.length) ∧ w' = w := by
  obtain ⟨l, hi, -, hct⟩ := h.out.ct i b s hb hs
  exact clen_any l hi b s w hct
theorem cread_li (lo g : Nat) (C : List Nat) (SS : List CS) (D : List Dr) (calls : Nat) (w : World) (h : Hid (Li w lo g C SS D calls)) (i b : Nat) (hb : C[i]? = some b) (s : CS) (hs : SS[i]? = some s) (p : Int) (hp : I64 p) : Calls Try.prog 14 #[.pointer (some ⟨b, 0, none⟩), .int .i64 p] w fun e w' => ∃ A c, e = .returned (.tuple #[.slice A (s.read p).1.length c, .int .i64 (s.read p).2]) ∧ Hid (OB w' w.heap.size (.slice A (s.read p).1.length c) (s.read p).1) ∧ Below w.heap.size w w' := by
  obtain ⟨l, hi, -, hct⟩ := h.out.ct i b s hb hs
  refine (cread_any l hi b s p hp w hct).mono ?_
  rintro e w' ⟨v, rfl, ho, hb'⟩
  obtain ⟨A, c, rfl, -⟩ := ho.form
  exact ⟨A, c, rfl, Lib.hid ho, hb'⟩
theorem work_li (lo g : Nat) (C : List Nat) (SS : List CS) (D : List Dr) (calls : Nat) (w : World) (h : Hid (Li w lo g C SS D calls)) : Calls Try.prog 9 #[.pointer (some ⟨g, 0, none⟩)] w fun e w' => e = .returned (.int .i64 (workN D)) ∧ w' = w := by
  obtain ⟨vc, vd, hl⟩ := h.out.lb
  exact working_any lo g vc vd C D calls w (Lib.hid hl)
theorem recs_li {lo g : Nat} {C : List Nat} {SS : List CS} {D : List Dr} {calls : Nat} {w : World} (h : Li w lo g C SS D calls) {i : Nat} (hi : i < C.length) : ∃ b s, C[i]? = some b ∧ SS[i]? = some s ∧ s.Ok := by
  obtain ⟨b, hb⟩ : ∃ b, C[i]? = some b := ⟨_, List.getElem?_eq_getElem hi⟩
  obtain ⟨s, hs⟩ : ∃ s, SS[i]? = some s := ⟨_, List.getElem?_eq_getElem (by rw [h.len]; exact hi)⟩
  obtain ⟨l, hi2, hl0, hct⟩ := h.ct i b s hb hs
  exact ⟨b, s, hb, hs, hct.ok⟩
theorem read_way (lo g : Nat) (C : List Nat) (SS : List CS) (D : List Dr) (calls T : Nat) (hT : T ≤ 900) (w : World) (h : Hid (Li w lo g C SS D calls)) (hD : Hid (DOk C.length T D)) (i : Nat) (s : CS) (hs : SS[i]? = some s) (p : Nat) (hp : p ≤ 1024) (q : Nat) (hw : Way D i p q true) :
    Calls Try.prog 15 #[.pointer (some ⟨g, 0, none⟩), .int .i64 i, .int .i64 p] w fun e w' => ∃ A c, e = .returned (.tuple #[.slice A (s.read p).1.length c, .int .i64 (s.read p).2]) ∧ Hid (Rd w' w'.heap.size A (s.read p).1) ∧ Hid (TChg lo lts w w') ∧ Hid (Calls Try.prog 15 #[.pointer (some ⟨g, 0, none⟩), .int .i64 i, .int .i64 p] w' fun e w2 => e = .returned (.tuple #[.slice none 0 0, .int .i64 8]) ∧ w2 = w') := by
  obtain ⟨j, d, hj, hdp, -⟩ := hw
  refine (read_step lo g C SS D calls T hT w h hD i s hs p hp j d hj (hdp rfl)).mono ?_
  rintro e w' ⟨v, D', d', rfl, ho, hl, hc, hj', hd'⟩
  obtain ⟨A, c, rfl, -, -, hr, -⟩ := ho.out.form
  exact ⟨A, c, rfl, Lib.hid hr, hc, Lib.hid (read_busy lo g C SS D' calls w' hl i (by rw [← h.out.len]; exact (List.getElem?_eq_some_iff.mp hs).1) p j d' hj' hd')⟩
set_option maxHeartbeats 8000000 in
set_option maxRecDepth 10000 in
theorem libThree_any (ca da : UInt8) (Q : List ActL) (v : Value) (xn xp : UInt8) (w : World) (hv : Hid (ActsL w.heap.size Q v w)) :
    Calls Try.prog 3 #[.int .u8 (U ca), .int .u8 (U da), v, .int .u8 (U xn), .int .u8 (U xp)] w fun e w' => e = .returned (.bool true) ∧ Below w.heap.size w w' := by
  have haft := Lib.hid (after_any ca da Q v w hv)
  obtain ⟨lo, hlo⟩ : ∃ lo, w.heap.size = lo := ⟨_, rfl⟩
  rw [hlo] at haft ⊢
  have haw : Hid (∀ x, Below lo w x → Calls Try.prog 10 #[] x fun e w' => e = .returned (.bool true) ∧ Below lo w w' ∧ Below x.heap.size x w') := Lib.hid (fun x hx => (awake08_any x).mono (fun e w' ⟨h1, h2⟩ => ⟨h1, hx.trans (h2.mono (by rw [← hlo]; exact hx.size)), h2⟩))
  have hlob : Hid (∀ x y, Below lo w x → Below x.heap.size x y → Below lo w y) := Lib.hid (fun x y h ht => h.trans (ht.mono (by rw [← hlo]; exact h.size)))
  have hloc : Hid (∀ x y, Below lo w x → TChg lo lts x y → Below lo w y) := Lib.hid (fun x y h ht => h.trans (ht.below (by rw [← hlo]; exact h.size)))
  replace hlo := Lib.hid hlo
  clear hv
  go_enter Try.func3, Try.ntmps3
  go_upto_region 2 with (go_at_call 7; go_must (refine haft.out.mono ?_); clear haft; rintro e w1 ⟨gl, gr, T, rfl, hT, hbt, hb1⟩)
  obtain ⟨C, SS, D, calls, C', SS', h1, h2, h3, -, -⟩ := hbt.out
  obtain ⟨hc32, hd4⟩ := lens_li h1
  obtain ⟨nC, hnC⟩ : ∃ n, C.length = n := ⟨_, rfl⟩
  obtain ⟨nW, hnW⟩ : ∃ n, workN D = n := ⟨_, rfl⟩
  have hD := Lib.hid h2
  have hl1 := Lib.hid h1
  have hgr1 := Lib.hid hb1
  have hca := Lib.hid (carts_li lo gl C SS D calls w1 hl1)
  have hwo := Lib.hid (work_li lo gl C SS D calls w1 hl1)
  rw [hnC] at hca hc32
  rw [hnW] at hwo
  have hw1 := Lib.hid (haw.out _ hgr1.out)
  replace hT := Lib.hid hT
  replace h3 := Lib.hid h3
  clear hbt h1 h2 hb1
  by_cases hz : nC = 0 ∨ nW = 0
  · have hzz : nC = 0 ∨ (nC ≠ 0 ∧ nW = 0) := by omega
    clear hz hnC hnW
    rcases hzz with rfl | ⟨hne, rfl⟩
    · go_wp2_with (first
        | (go_at_call 8; go_must (refine hca.out.mono ?_); rintro e w' ⟨rfl, hee⟩; rw [hee]; clear hee)
        | (go_at_call 10; go_must (refine hw1.out.mono ?_); clear hw1; rintro e w9 ⟨rfl, hb9, -⟩))
      go_ret
      exact ⟨rfl, hb9⟩
    · have hnb : ((nC : Int) == 0) = false := beq_false_of_ne (by omega)
      go_wp2_with (first
        | (go_at_call 8; go_must (refine hca.out.mono ?_); rintro e w' ⟨rfl, hee⟩; rw [hee]; clear hee)
        | (go_at_call 9; go_must (refine hwo.out.mono ?_); rintro e w' ⟨rfl, hee⟩; rw [hee]; clear hee)
        | (go_at_call 10; go_must (refine hw1.out.mono ?_); clear hw1; rintro e w9 ⟨rfl, hb9, -⟩))
      go_ret
      exact ⟨rfl, hb9⟩
  · have hnz : (nC : Int) ≠ 0 := by omega
    have hnb : ((nC : Int) == 0) = false := beq_false_of_ne (by omega)
    have hwb : ((nW : Int) == 0) = false := beq_false_of_ne (by omega)
    obtain ⟨c, hc⟩ : ∃ c, xn.toNat % nC = c := ⟨_, rfl⟩
    have hcn : c < nC := by rw [← hc]; exact Nat.mod_lt _ (by omega)
    have hmc : (U xn).tmod (nC : Int) = (c : Int) := by rw [← hc]; exact tmod_nat xn nC
    have hmw : IntKind.i64.wrap (c : Int) = (c : Int) := i64_wrap _ (by omega)
    have hwz : Hid (workN D ≠ 0) := Lib.hid (by rw [hnW]; omega)
    obtain ⟨b, s, hb, hs, hok⟩ := recs_li hl1.out (i := c) (by rw [hnC]; exact hcn)
    have hcC : Hid (c < C.length) := Lib.hid (by rw [hnC]; exact hcn)
    replace hnC := Lib.hid hnC
    replace hnW := Lib.hid hnW
    replace hc := Lib.hid hc
    obtain ⟨nR, hnR⟩ : ∃ n, s.recs.length = n := ⟨_, rfl⟩
    have hnR4 : nR ≤ 1024 := by rw [← hnR]; exact Nat.le_trans hok.recs hok.most
    obtain ⟨p, hp⟩ : ∃ p, xp.toNat % (nR + 1) = p := ⟨_, rfl⟩
    have hpn : p < nR + 1 := by rw [← hp]; exact Nat.mod_lt _ (by omega)
    have hmp : (U xp).tmod ((nR : Int) + 1) = (p : Int) := by rw [← hp]; exact tmod_nat xp (nR + 1)
    have hpw : IntKind.i64.wrap (p : Int) = (p : Int) := i64_wrap _ (by omega)
    have hp4 : p ≤ 1024 := by omega
    have hct := Lib.hid (cart_li lo gl C SS D calls w1 hl1 c b hb)
    have hln := Lib.hid (clen_li lo gl C SS D calls w1 hl1 c b hb s hs)
    rw [hnR] at hln
    have hgo := Lib.hid (way_first lo gl C SS D calls T w1 hl1 hD (by have := h3.out; have := hT.out; omega) hwz.out c hcC.out p hp4)
    have hr1 : (nR : Int) + 1 ≠ 0 := by omega
    replace hp := Lib.hid hp
    replace hnR := Lib.hid hnR
    replace hb := Lib.hid hb
    replace hs := Lib.hid hs
    clear hz
    go_upto_region 7 with (first
      | (go_at_call 8; go_must (refine hca.out.mono ?_); rintro e w' ⟨rfl, hee⟩; rw [hee]; clear hee)
      | (go_at_call 9; go_must (refine hwo.out.mono ?_); rintro e w' ⟨rfl, hee⟩; rw [hee]; clear hee)
      | (go_at_call 11; go_must (refine hct.out.mono ?_); rintro e w' ⟨rfl, hee⟩; rw [hee]; clear hee)
      | (go_at_call 12; go_must (refine hln.out.mono ?_); rintro e w' ⟨rfl, hee⟩; rw [hee]; clear hee)
      | (go_at_call 13; go_must (refine hgo.out.mono ?_); clear hgo; rintro e w2 ⟨b2, D2, rfl, hl2, hD2, t2, hy2⟩))
    have hgr2 := Lib.hid (hloc.out _ _ hgr1.out t2.out)
    clear hca hwo hct hln hw1 hmc hmw hmp hpw hl1 hgr1 t2 hD
    go_wp2_with fail
    go_loopw [14, 15, 16] (fun z1 z2 z3 wr => ∃ (bb : Bool) (i : Nat) (D2 : List Dr) (calls2 : Nat), i ≤ 2 ∧ z1 = .bool bb ∧ z2 = .int .i64 0 ∧ z3 = .int .i64 i ∧ Hid (calls2 ≤ 41 + i) ∧ Hid (Li wr lo gl C SS D2 calls2) ∧ Hid (DOk C.length T D2) ∧ Hid (Way D2 c p i bb) ∧ Hid (Below lo w wr)) (fun _ _ z _ => (2 - intOf z).toNat)
    case atStart => exact ⟨b2, 0, D2, calls + 1, Nat.zero_le _, rfl, rfl, rfl, Lib.hid (by have := h3.out; have := hT.out; omega), hl2, hD2, hy2, hgr2⟩
    case round =>
      clear hl2 hD2 hy2 hgr2 hwz
      obtain ⟨bb, i, D3, calls2, hi, rfl, rfl, rfl, hcl, hl, hD, hy, hgr⟩ := hrel
      by_cases hb0 : bb = false
      · subst hb0
        have hi2 := hy.out.done
        have ii : (i : Int) < 2 := by omega
        have hgo := Lib.hid (way_go lo gl C SS D3 calls2 T wr hl hD (by have := hcl.out; omega) c hcC.out p hp4 i hy.out)
        go_wp2_with (go_at_call 13; go_must (refine hgo.out.mono ?_); clear hgo; rintro e w3 ⟨b3, D4, rfl, hl3, hD3, t3, hy3⟩)
        go_roundw
        case rel => exact ⟨b3, i + 1, D4, calls2 + 1, by omega, rfl, rfl, by go_num, Lib.hid (by have := hcl.out; omega), hl3, hD3, hy3, Lib.hid (hloc.out _ _ hgr.out t3.out)⟩
        case measure => simp [intOf]; omega
      · obtain rfl : bb = true := by cases bb with | true => rfl | false => exact absurd rfl hb0
        clear hb0
        have hct := Lib.hid (cart_li lo gl C SS D3 calls2 wr hl c b hb.out)
        have hi64 : I64 (p : Int) := ⟨by omega, by omega⟩
        have hrd := Lib.hid (cread_li lo gl C SS D3 calls2 wr hl c b hb.out s hs.out p hi64)
        have hgo : Hid (∀ x, Below wr.heap.size wr x → Calls Try.prog 15 #[.pointer (some ⟨gl, 0, none⟩), .int .i64 c, .int .i64 p] x fun e w' => ∃ A k, e = .returned (.tuple #[.slice A (s.read p).1.length k, .int .i64 (s.read p).2]) ∧ Hid (Rd w' w'.heap.size A (s.read p).1) ∧ Hid (TChg lo lts x w') ∧ Hid (Calls Try.prog 15 #[.pointer (some ⟨gl, 0, none⟩), .int .i64 c, .int .i64 p] w' fun e w2 => e = .returned (.tuple #[.slice none 0 0, .int .i64 8]) ∧ w2 = w')) :=
          Lib.hid (fun x hx => read_way lo gl C SS D3 calls2 T (by have := hT.out; omega) x (Lib.hid (hl.out.gr hx)) hD c s hs.out p hp4 i hy.out)
        generalize s.read p = sr at hrd hgo
        obtain ⟨sb, se⟩ := sr
        simp only at hrd hgo
        obtain ⟨nb, hnb⟩ : ∃ n, sb.length = n := ⟨_, rfl⟩
        rw [hnb] at hrd hgo
        replace hnb := Lib.hid hnb
        clear hi64
        have hd2 : Hid (sb.length = nb) := hnb
        go_upto_region 8 with (fail)
        go_cut [61] (fun z wq => z = .bool false ∧ wr = wq)
        case first =>
          by_cases hi2 : i < 2
          · have ii : (i : Int) < 2 := by omega
            go_wp2_with fail
            go_meet
            exact ⟨by first | rfl | simp [*], rfl⟩
          · obtain rfl : i = 2 := by omega
            go_wp2_with fail
            go_meet
            exact ⟨by first | rfl | simp [*], rfl⟩
        case rest =>
          obtain ⟨rfl, rfl⟩ := hcut
          go_upto_region 14 with (first
            | (go_at_call 11; go_must (refine hct.out.mono ?_); rintro e w' ⟨rfl, hee⟩; rw [hee]; clear hee)
            | (go_at_call 14; go_must (refine hrd.out.mono ?_); clear hrd; rintro e w4 ⟨A4, c4, rfl, ho4, hb4⟩))
          have hg5 := Lib.hid (hgo.out _ hb4)
          clear hgo hct
          go_upto_region 15 with (go_at_call 15; go_must (refine hg5.out.mono ?_); clear hg5; rintro e w5 ⟨A5, c5, rfl, hr5, t5, hbusy⟩)
          have ho5 := Lib.hid (row_tchg ho4.out t5.out (by decide))
          have hgr5 := Lib.hid (hloc.out _ _ (hlob.out _ _ hgr.out hb4) t5.out)
          have haw5 := Lib.hid (haw.out _ hgr5.out)
          clear ho4 hb4 t5 hgr hl
          go_upto_region 16 with (go_at_call 15; go_must (refine hbusy.out.mono ?_); rintro e w' ⟨rfl, hee⟩; rw [hee]; clear hee hbusy)
          have hcv : Hid (∀ x, Below w5.heap.size w5 x → (convert 32 9 (.slice A4 nb c4)).run Try.prog x = .ok (.string (bs sb)) x ∧ (convert 32 9 (.slice A5 nb c5)).run Try.prog x = .ok (.string (bs sb)) x) := Lib.hid (fun x hx => by
            have ho' : OB w5 wr.heap.size (.slice A4 nb c4) sb := ho5.out
            obtain ⟨A', c', hv', -, -, hrB, -⟩ := ho'.form
            rw [hnb.out] at hv'
            injection hv' with e1 e2 e3
            subst e1 e3
            exact ⟨run_str_at c4 (hrB.up hx) hnb.out, run_str_at c5 (hr5.out.up hx) hnb.out⟩)
          go_wp2_with (go_at_call 10; go_must (refine haw5.out.mono ?_); clear haw5; rintro e w9 ⟨rfl, hb9, hb59⟩; obtain ⟨hc1, hc2⟩ := hcv.out _ hb59)
          go_ret
          exact ⟨rfl, hb9⟩
end Go.Proofs.Ytfjhdcppehfiiaa
/- lib: all that is read of cartridges, as one text. -/
namespace Go.Proofs.Ytfjhdcppehfiiaa
set_option linter.unusedVariables false
set_option linter.unusedSimpArgs false
open Go Go.RowKit
def eb (z : Int) : UInt8 := UInt8.ofNat (z % 256).toNat
theorem wrap_eb (z : Int) : IntKind.u8.wrap z = U (eb z) := by
  rw [IntKind.wrap_u8]
  unfold eb
  rw [U_ofNat _ (by omega)]
  omega
def txR (n k : Nat) (r : List UInt8 × Int) : List UInt8 := [UInt8.ofNat n, UInt8.ofNat k, eb r.2, UInt8.ofNat r.1.length] ++ r.1
def rowsTo (s : CS) (n : Nat) : Nat → List UInt8
  | 0 => []
  | k + 1 => rowsTo s n k ++ txR n k (s.read (k : Int))
def txTo (SS : List CS) (but : Int) : Nat → List UInt8
  | 0 => []
  | n + 1 => if (n : Int) = but then txTo SS but n else match SS[n]? with
    | none => txTo SS but n
    | some s => txTo SS but n ++ rowsTo s n s.recs.length
theorem txTo_but {SS : List CS} {but : Int} {n : Nat} (h : (n : Int) = but) : txTo SS but (n + 1) = txTo SS but n := by
  rw [txTo, if_pos h]
theorem txTo_one {SS : List CS} {but : Int} {n : Nat} {s : CS} (h : (n : Int) ≠ but) (hs : SS[n]? = some s) : txTo SS but (n + 1) = txTo SS but n ++ rowsTo s n s.recs.length := by
  rw [txTo, if_neg h, hs]
theorem txTo_set (SS : List CS) (i : Nat) (s : CS) : ∀ n : Nat, txTo (SS.set i s) i n = txTo SS i n
  | 0 => rfl
  | n + 1 => by
    rw [txTo, txTo, txTo_set SS i s n]
    by_cases h : (n : Int) = i
    · rw [if_pos h, if_pos h]
    · rw [if_neg h, if_neg h, List.getElem?_set_ne (by omega)]
theorem read_len {s : CS} (h : s.Ok) (p : Int) : (s.read p).1.length ≤ 256 := by
  unfold CS.read
  split
  · simp
  · split
    · simp
    · split
      · simp
      · show (s.recs.getD p.toNat ([], false)).1.length ≤ 256
        rw [List.getD_eq_getElem?_getD]
        cases hq : s.recs[p.toNat]? with
        | none => simp
        | some r => exact h.len r (List.mem_of_getElem? hq)
theorem rowsTo_len {s : CS} (h : s.Ok) (n : Nat) : ∀ k, (rowsTo s n k).length ≤ 260 * k
  | 0 => Nat.le_refl _
  | k + 1 => by
    have h1 := rowsTo_len h n k
    have h2 := read_len h (k : Int)
    rw [rowsTo, List.length_append, txR, List.length_append]
    simp only [List.length_cons, List.length_nil]
    omega
theorem rowsTo_all {s : CS} (h : s.Ok) (n k : Nat) (hk : k ≤ s.recs.length) : (rowsTo s n k).length ≤ 266240 := by
  have h1 := rowsTo_len h n k
  have h2 := h.recs
  have h3 := h.most
  omega
theorem txTo_len {SS : List CS} (h : ∀ s ∈ SS, s.Ok) (but : Int) : ∀ n, (txTo SS but n).length ≤ 266240 * n
  | 0 => Nat.le_refl _
  | n + 1 => by
    have h1 := txTo_len h but n
    rw [txTo]
    split
    · omega
    · cases hs : SS[n]? with
      | none => simp only; omega
      | some s =>
        simp only
        rw [List.length_append]
        have h2 := rowsTo_all (h s (List.mem_of_getElem? hs)) n _ (Nat.le_refl _)
        omega
theorem rows_step (l : List UInt8) (s : CS) (n k : Nat) {sb : List UInt8} {se : Int} (h : s.read (k : Int) = (sb, se)) : l ++ rowsTo s n k ++ [UInt8.ofNat n, UInt8.ofNat k, eb se, UInt8.ofNat sb.length] ++ sb = l ++ rowsTo s n (k + 1) := by
  rw [rowsTo, h, txR]
  simp
theorem OB.form' {w : World} {base : Nat} {v : Value} {l : List UInt8} (h : OB w base v l) : ∃ A m c, v = .slice A m c ∧ l.length = m := by
  obtain ⟨A, c, rfl, -⟩ := h.form
  exact ⟨A, _, c, rfl, rfl⟩
theorem lis_ok {lo g : Nat} {C : List Nat} {SS : List CS} {D : List Dr} {calls : Nat} {w : World} (h : Li w lo g C SS D calls) : ∀ s ∈ SS, s.Ok := fun s hs => by
  obtain ⟨i, hi, e⟩ := List.getElem_of_mem hs
  obtain ⟨b, s', hb, hs', hok⟩ := recs_li h (i := i) (by rw [← h.len]; exact hi)
  rw [List.getElem?_eq_getElem hi, e] at hs'
  injection hs' with hs'
  rw [hs']; exact hok
theorem own_apart {w w1 : World} {B B' : Nat} {v u : Value} {l x : List UInt8} (h : OB w B v l) (h1 : OB w1 B' u x) (hl : w.heap.size ≤ B') : u.ownBlock = none ∨ u.ownBlock ≠ v.ownBlock := by
  cases hu : u.ownBlock with
  | none => exact .inl rfl
  | some k =>
    refine .inr (fun e => ?_)
    have h2 := (h1.lt k hu).1
    have h3 := (h.lt k e.symm).2
    omega
set_option maxHeartbeats 8000000 in
set_option maxRecDepth 10000 in
theorem texts_any (lo g : Nat) (C : List Nat) (SS : List CS) (D : List Dr) (calls : Nat) (w : World) (h : Hid (Li w lo g C SS D calls)) (but : Int) :
    Calls Try.prog 18 #[.pointer (some ⟨g, 0, none⟩), .int .i64 but] w fun e w' => e = .returned (.string (bs (txTo SS but C.length))) ∧ Below w.heap.size w w' := by
  obtain ⟨hc32, -⟩ := lens_li h.out
  obtain ⟨nC, hnC⟩ : ∃ n, C.length = n := ⟨_, rfl⟩
  have hlen := Lib.hid (txTo_len (lis_ok h.out) but)
  obtain ⟨B0, hB0⟩ : ∃ B0, w.heap.size = B0 := ⟨_, rfl⟩
  have hli : Hid (∀ x, Below B0 w x → Hid (Li x lo g C SS D calls)) := Lib.hid (fun x hx => Lib.hid (h.out.gr (by rw [hB0]; exact hx)))
  have hca : Hid (∀ x, Below B0 w x → Calls Try.prog 8 #[.pointer (some ⟨g, 0, none⟩)] x fun e w' => e = .returned (.int .i64 nC) ∧ w' = x) := Lib.hid (fun x hx => by have := carts_li lo g C SS D calls x (hli.out x hx); rw [hnC] at this; exact this)
  have hlow : Hid (∀ x, Below B0 w x → B0 ≤ x.heap.size) := Lib.hid (fun x hx => by rw [← hB0]; exact hx.size)
  have ho0 : Hid (OB (w.alloc (.cells #[] 5)) B0 (.slice (some ⟨w.heap.size, 0, none⟩) 0 0) []) := Lib.hid (OB.empty w B0 (by rw [hB0]; exact Nat.le_refl _))
  have hb0 : Hid (Below B0 w (w.alloc (.cells #[] 5))) := Lib.hid ((Below.refl _ w).alloc (Nat.le_of_eq hB0.symm) _)
  have hrec : Hid (∀ i, i < nC → ∃ b s, C[i]? = some b ∧ SS[i]? = some s ∧ s.Ok) := Lib.hid (fun i hi => recs_li h.out (by rw [hnC]; exact hi))
  rw [hnC] at hc32 ⊢
  rw [hB0]
  replace hnC := Lib.hid hnC
  replace hB0 := Lib.hid hB0
  clear h
  go_enter Try.func18, Try.ntmps18
  go_wp2_with fail
  go_loopw [5, 6] (fun u z wr => ∃ (n : Nat) (A : Option Addr) (m c : Nat), n ≤ nC ∧ u = .slice A m c ∧ z = .int .i64 n ∧ Hid ((txTo SS but n).length = m) ∧ Hid (OB wr B0 (.slice A m c) (txTo SS but n)) ∧ Hid (Below B0 w wr)) (fun _ z _ => (nC - intOf z).toNat)
  case atStart => exact ⟨0, _, 0, 0, Nat.zero_le _, rfl, rfl, Lib.hid rfl, ho0, hb0⟩
  case round =>
    clear ho0 hb0
    obtain ⟨n, A, m, c, hn, rfl, rfl, hm, ho, hb⟩ := hrel
    have hca1 := Lib.hid (hca.out _ hb.out)
    by_cases hlt : n < nC
    · have ii : (n : Int) < (nC : Int) := by omega
      by_cases hbut : (n : Int) = but
      · have hbb : ((n : Int) == but) = true := by rw [hbut]; exact beq_self_eq_true _
        have htx := Lib.hid (txTo_but (SS := SS) hbut)
        replace hbut := Lib.hid hbut
        go_wp2_with (go_at_call 8; go_must (refine hca1.out.mono ?_); rintro e w' ⟨rfl, hee⟩; rw [hee]; clear hee)
        go_roundw
        case rel => exact ⟨n + 1, A, m, c, by omega, rfl, by go_num, by rw [htx.out]; exact hm, by rw [htx.out]; exact ho, hb⟩
        case measure => simp [intOf]; omega
      · have hbb : ((n : Int) == but) = false := beq_false_of_ne hbut
        obtain ⟨b, s, hbc, hs, hok⟩ := hrec.out n hlt
        have htx := Lib.hid (txTo_one hbut hs)
        replace hbut := Lib.hid hbut
        have hct : Hid (∀ x, Below B0 w x → Calls Try.prog 11 #[.pointer (some ⟨g, 0, none⟩), .int .i64 n] x fun e w' => e = .returned (.pointer (some ⟨b, 0, none⟩)) ∧ w' = x) := Lib.hid (fun x hx => cart_li lo g C SS D calls x (hli.out x hx) n b hbc)
        obtain ⟨nR, hnR⟩ : ∃ n, s.recs.length = n := ⟨_, rfl⟩
        have hnR4 : nR ≤ 1024 := by rw [← hnR]; exact Nat.le_trans hok.recs hok.most
        have hln : Hid (∀ x, Below B0 w x → Calls Try.prog 12 #[.pointer (some ⟨b, 0, none⟩)] x fun e w' => e = .returned (.int .i64 nR) ∧ w' = x) := Lib.hid (fun x hx => by have := clen_li lo g C SS D calls x (hli.out x hx) n b hbc s hs; rw [hnR] at this; exact this)
        have hrd : Hid (∀ (k : Nat) x, k < nR → Below B0 w x → Calls Try.prog 14 #[.pointer (some ⟨b, 0, none⟩), .int .i64 k] x fun e w' => ∃ A c, e = .returned (.tuple #[.slice A (s.read k).1.length c, .int .i64 (s.read k).2]) ∧ Hid (OB w' x.heap.size (.slice A (s.read k).1.length c) (s.read k).1) ∧ Below x.heap.size x w') := Lib.hid (fun k x hk hx => cread_li lo g C SS D calls x (hli.out x hx) n b hbc s hs k ⟨by omega, by omega⟩)
        have hrl := Lib.hid (read_len hok)
        have hra : Hid (∀ k, k ≤ nR → (rowsTo s n k).length ≤ 266240) := Lib.hid (fun k hk => rowsTo_all hok n k (by rw [hnR]; exact hk))
        have hl0 := Lib.hid (hlen.out n)
        rw [hnR] at htx
        replace hnR := Lib.hid hnR
        replace hbc := Lib.hid hbc
        replace hs := Lib.hid hs
        clear hok
        obtain ⟨L0, hL0⟩ : ∃ L0, txTo SS but n = L0 := ⟨_, rfl⟩
        rw [hL0] at ho hm hl0 htx
        replace hL0 := Lib.hid hL0
        go_wp2_with (go_at_call 8; go_must (refine hca1.out.mono ?_); rintro e w' ⟨rfl, hee⟩; rw [hee]; clear hee)
        go_loopw [5, 7] (fun u z wr => ∃ (k : Nat) (A : Option Addr) (m c : Nat), k ≤ nR ∧ u = .slice A m c ∧ z = .int .i64 k ∧ Hid ((L0 ++ rowsTo s n k).length = m) ∧ Hid (OB wr B0 (.slice A m c) (L0 ++ rowsTo s n k)) ∧ Hid (Below B0 w wr)) (fun _ z _ => (nR - intOf z).toNat)
        case atStart => exact ⟨0, A, m, c, Nat.zero_le _, rfl, rfl, Lib.hid (by rw [rowsTo, List.append_nil]; exact hm.out), Lib.hid (by rw [rowsTo, List.append_nil]; exact ho.out), hb⟩
        case round =>
          clear ho hm hb hca1
          obtain ⟨k, A1, m1, c1, hk, rfl, rfl, hm, ho, hb⟩ := hrel
          have hct1 := Lib.hid (hct.out _ hb.out)
          have hln1 := Lib.hid (hln.out _ hb.out)
          by_cases hkt : k < nR
          · have kk : (k : Int) < (nR : Int) := by omega
            have hrd1 := Lib.hid (hrd.out k _ hkt hb.out)
            have hrl1 := hrl.out (k : Int)
            have hst := rows_step L0 s n k (sb := (s.read k).1) (se := (s.read k).2) rfl
            generalize s.read (k : Int) = sr at hrd1 hrl1 hst
            obtain ⟨sb, se⟩ := sr
            simp only at hrd1 hrl1 hst
            obtain ⟨nb, hnb⟩ : ∃ n, sb.length = n := ⟨_, rfl⟩
            rw [hnb] at hrd1 hrl1 hst
            replace hst := Lib.hid hst
            replace hnb := Lib.hid hnb
            have hse := wrap_eb se
            obtain ⟨lk, hlk⟩ : ∃ lk, L0 ++ rowsTo s n k = lk := ⟨_, rfl⟩
            have hlkl : Hid (lk.length ≤ 10000000) := Lib.hid (by rw [← hlk, List.length_append]; have := hl0.out; have := hra.out k hk; omega)
            rw [hlk] at hm ho hst
            replace hlk := Lib.hid hlk
            go_upto_region 10 with (first
              | (go_at_call 11; go_must (refine hct1.out.mono ?_); rintro e w' ⟨rfl, hee⟩; rw [hee]; clear hee)
              | (go_at_call 12; go_must (refine hln1.out.mono ?_); rintro e w' ⟨rfl, hee⟩; rw [hee]; clear hee)
              | (go_at_call 14; go_must (refine hrd1.out.mono ?_); clear hrd1; rintro e w3 ⟨A3, c3, rfl, ho3, hb3⟩))
            have hap := Lib.hid (own_apart ho.out ho3.out (Nat.le_refl _))
            have hoo := Lib.hid (ho.out.below hb3)
            have hbb3 : Hid (Below B0 w w3) := Lib.hid (hb.out.trans (hb3.mono (hlow.out _ hb.out)))
            clear ho hb hb3 hct1 hln1
            have hlit := Lib.hid (Rd.lit w3 #[.int .u8 (U (UInt8.ofNat n)), .int .u8 (U (UInt8.ofNat k)), .int .u8 (U (eb se)), .int .u8 (U (UInt8.ofNat nb))] 5 [UInt8.ofNat n, UInt8.ofNat k, eb se, UInt8.ofNat nb] rfl ((w3.alloc (.cells #[.int .u8 (U (UInt8.ofNat n)), .int .u8 (U (UInt8.ofNat k)), .int .u8 (U (eb se)), .int .u8 (U (UInt8.ofNat nb))] 5)).heap.size) (by simp))
            have ho7 := Lib.hid (hoo.out.alloc (.cells #[.int .u8 (U (UInt8.ofNat n)), .int .u8 (U (UInt8.ofNat k)), .int .u8 (U (eb se)), .int .u8 (U (UInt8.ofNat nb))] 5))
            have ho8 := Lib.hid (ho3.out.alloc (.cells #[.int .u8 (U (UInt8.ofNat n)), .int .u8 (U (UInt8.ofNat k)), .int .u8 (U (eb se)), .int .u8 (U (UInt8.ofNat nb))] 5))
            have hb7 := Lib.hid (hbb3.out.alloc (hlow.out _ hbb3.out) (.cells #[.int .u8 (U (UInt8.ofNat n)), .int .u8 (U (UInt8.ofNat k)), .int .u8 (U (eb se)), .int .u8 (U (UInt8.ofNat nb))] 5))
            go_wp2_with (first
              | (at_builtin; (refine wpl_append rfl (.tmp 36) (.tmp 46) rfl B0 (.slice A1 m1 c1) lk rfl ho7.out _ _ 4 [UInt8.ofNat n, UInt8.ofNat k, eb se, UInt8.ofNat nb] rfl hlit.out (by have := hlkl.out; simp; omega) (hlow.out _ hb7.out) ?_); intro v5 w5 ho5 hg5 _; have hb5 := Lib.hid (below_app ho7.out hb7.out (hlow.out _ hb7.out) hg5); have hs5 : Hid (OB w5 _ (.slice A3 nb c3) sb) := Lib.hid (ho8.out.kept hg5 hap.out); obtain ⟨A5, m5, c5, rfl, hm5⟩ := OB.form' ho5; replace ho5 := Lib.hid ho5; replace hm5 := Lib.hid hm5; clear hg5)
              | (at_builtin; (refine wpl_append rfl (.tmp 47) (.tmp 48) rfl B0 (.slice A5 m5 c5) _ rfl ho5.out _ _ c3 sb (by rw [hnb.out]; rfl) (OB.rd hs5.out).1 (by have := hlkl.out; have := hnb.out; simp; omega) (hlow.out _ hb5.out) ?_); intro v6 w6 ho6 hg6 _; have hb6 := Lib.hid (below_app ho5.out hb5.out (hlow.out _ hb5.out) hg6); obtain ⟨A6, m6, c6, rfl, hm6⟩ := OB.form' ho6; rw [hst.out] at ho6 hm6; replace ho6 := Lib.hid ho6; replace hm6 := Lib.hid hm6; clear hg6))
            go_roundw
            case rel => exact ⟨k + 1, A6, m6, c6, by omega, rfl, by go_num, hm6, ho6, hb6⟩
            case measure => simp [intOf]; omega
          · obtain rfl : k = nR := by omega
            go_wp2_with (first
              | (go_at_call 11; go_must (refine hct1.out.mono ?_); rintro e w' ⟨rfl, hee⟩; rw [hee]; clear hee)
              | (go_at_call 12; go_must (refine hln1.out.mono ?_); rintro e w' ⟨rfl, hee⟩; rw [hee]; clear hee))
            go_roundw
            case rel => exact ⟨n + 1, A1, m1, c1, by omega, rfl, by go_num, by rw [htx.out]; exact hm, by rw [htx.out]; exact ho, hb⟩
            case measure => simp [intOf]; omega
    · obtain rfl : n = nC := by omega
      have hcv : (convert 32 9 (.slice A m c)).run Try.prog wr = .ok (.string (bs (txTo SS but n))) wr := run_str_at c (OB.rd ho.out).1 hm.out
      go_wp2_with (go_at_call 8; go_must (refine hca1.out.mono ?_); rintro e w' ⟨rfl, hee⟩; rw [hee]; clear hee)
      go_ret
      exact ⟨rfl, hb.out⟩
end Go.Proofs.Ytfjhdcppehfiiaa
