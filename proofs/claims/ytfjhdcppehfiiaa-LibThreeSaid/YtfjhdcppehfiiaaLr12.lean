/- lib: a library behind acts. -/
import Derived.Test.YtfjhdcppehfiiaaLr10
import Derived.Test.YtfjhdcppehfiiaaLr11
import Derived.Test.YtfjhdcppehfiiaaOpenAct08
namespace Go.Proofs.Ytfjhdcppehfiiaa
set_option linter.unusedVariables false
set_option linter.unusedSimpArgs false
open Go Go.RowKit
theorem tmod_nat (x : UInt8) (n : Nat) : (U x).tmod (n : Int) = ((x.toNat % n : Nat) : Int) := by
  have := U_bd x
  rw [Int.tmod_eq_emod_of_nonneg (by omega)]
  unfold U
  omega
theorem bt_of {w : World} {lo gl gr nd : Nat} {C C' : List Nat} {SS SS' : List CS} {w1 w2 : World} (hlo : w.heap.size = lo) (h1 : Li w1 lo gl C SS (newD nd) 0) (hb1 : Below lo w w1) (h2 : Rl w2 w1.heap.size gr C' SS' 0) (hb2 : Below w1.heap.size w1 w2) (hC : C'.length = C.length) : BtL w2 lo gl gr 0 ∧ Below lo w w2 := by
  subst hlo
  exact ⟨BtL.start h1 hb1 h2 hb2 hC, hb1.trans (hb2.mono hb1.size)⟩
set_option maxHeartbeats 8000000 in
set_option maxRecDepth 10000 in
theorem after_any (ca da : UInt8) (Q : List ActL) (v : Value) (w : World) (hv : Hid (ActsL w.heap.size Q v w)) :
    Calls Try.prog 7 #[.int .u8 (U ca), .int .u8 (U da), v] w fun e w' => ∃ gl gr T, e = .returned (.pointer (some ⟨gl, 0, none⟩)) ∧ T ≤ 40 ∧ Hid (BtL w' w.heap.size gl gr T) ∧ Below w.heap.size w w' := by
  obtain ⟨Av, cv, rfl, -, -, -, -⟩ := hv.out
  obtain ⟨nq, hnq⟩ : ∃ nq, Q.length = nq := ⟨_, rfl⟩
  rw [hnq] at hv ⊢
  replace hnq := Lib.hid hnq
  obtain ⟨nc, hnc⟩ : ∃ nc, ca.toNat % 9 = nc := ⟨_, rfl⟩
  have hc9 : nc < 9 := by rw [← hnc]; exact Nat.mod_lt _ (by decide)
  have hmc : (U ca).tmod 9 = (nc : Int) := by rw [← hnc]; exact tmod_nat ca 9
  obtain ⟨nd, hnd⟩ : ∃ nd, da.toNat % 5 = nd := ⟨_, rfl⟩
  have hd5 : nd < 5 := by rw [← hnd]; exact Nat.mod_lt _ (by decide)
  have hmd : (U da).tmod 5 = (nd : Int) := by rw [← hnd]; exact tmod_nat da 5
  replace hnc := Lib.hid hnc
  replace hnd := Lib.hid hnd
  obtain ⟨lo, hlo⟩ : ∃ lo, w.heap.size = lo := ⟨_, rfl⟩
  have hnew := Lib.hid (lnew_li nc nd 40 ⟨by decide, by decide⟩ (by omega) (by omega) w)
  have hrnew := Lib.hid (fun x => rnew_li nc nd 40 ⟨by decide, by decide⟩ (by omega) (by omega) x)
  rw [hlo] at hnew hv ⊢
  have hlob : Hid (∀ x y, Below lo w x → TChg lo bts x y → Below lo w y) := Lib.hid (fun x y h ht => h.trans (ht.below (by rw [← hlo]; exact h.size)))
  have hlow : Hid (∀ x, Below lo w x → lo ≤ x.heap.size) := Lib.hid (fun x h => by rw [← hlo]; exact h.size)
  replace hlo := Lib.hid hlo
  have hw1 : IntKind.i64.wrap (nc : Int) = (nc : Int) := by rw [IntKind.wrap_i64]; omega
  have hw2 : IntKind.i64.wrap (nd : Int) = (nd : Int) := by rw [IntKind.wrap_i64]; omega
  have hw3 : IntKind.u8.wrap (nc : Int) = (nc : Int) := u8_wrap _ (by omega)
  have hw4 : IntKind.u8.wrap (nd : Int) = (nd : Int) := u8_wrap _ (by omega)
  go_enter Try.func7, Try.ntmps7
  go_upto_region 2 with (first
    | (go_at_call 23; go_must (refine hnew.out.mono ?_); rintro e w1 ⟨gl, C, SS, rfl, hC, hl1, hb1⟩; clear hnew)
    | (go_at_call 24; go_must (refine (hrnew.out w1).mono ?_); rintro e w2 ⟨gr, C', SS', rfl, hC', hr1, hb2⟩))
  obtain ⟨hbt, hgr0⟩ := bt_of hlo.out hl1.out hb1 hr1.out hb2 (hC'.trans hC.symm)
  replace hbt := Lib.hid hbt
  replace hgr0 := Lib.hid hgr0
  clear hrnew hl1 hr1 hb1 hb2 hC hC' hmc hmd hw1 hw2 hw3 hw4
  go_wp2_with fail
  go_loopw [9] (fun z wr => ∃ (i : Nat), i ≤ 40 ∧ z = .int .i64 i ∧ Hid (BtL wr lo gl gr i) ∧ Hid (Below lo w wr)) (fun z _ => (40 - intOf z).toNat)
  case atStart => exact ⟨0, Nat.zero_le _, rfl, hbt, hgr0⟩
  case round =>
    obtain ⟨i, hi40, rfl, hb, hgr⟩ := hrel
    clear hbt hgr0
    obtain ⟨d0, hd0⟩ : ∃ d0, d0 = (decide (i < nq) && decide (i < 40)) := ⟨_, rfl⟩
    go_upto_region 3 with (fail)
    go_cut [31] (fun z wq => z = .bool d0 ∧ wr = wq)
    case first =>
      by_cases p1 : i < nq
      · have ip1 : (i : Int) < (nq : Int) := by omega
        by_cases p2 : i < 40
        · have ip2 : (i : Int) < 40 := by omega
          rw [decide_eq_true p1, decide_eq_true p2] at hd0
          subst hd0
          go_wp2_with fail
          go_meet
          exact ⟨by first | rfl | simp [*], rfl⟩
        · have ip2 : decide ((i : Int) < 40) = false := decide_eq_false (by omega)
          rw [decide_eq_true p1, decide_eq_false p2] at hd0
          subst hd0
          clear p2
          go_wp2_with fail
          go_meet
          exact ⟨by first | rfl | simp [*], rfl⟩
      · have ip1 : decide ((i : Int) < (nq : Int)) = false := decide_eq_false (by omega)
        have ip1n : decide (i < nq) = false := decide_eq_false p1
        rw [decide_eq_false p1, Bool.false_and] at hd0
        subst hd0
        clear p1
        go_wp2_with fail
        go_meet
        exact ⟨by first | rfl | simp [*], rfl⟩
    case rest =>
      obtain ⟨rfl, rfl⟩ := hcut
      cases d0 with
      | true =>
        have hkk : i < nq ∧ i < 40 := by
          have := hd0.symm
          simp only [Bool.and_eq_true, decide_eq_true_eq] at this
          exact this
        obtain ⟨p1, p2⟩ := hkk
        replace hd0 := Lib.hid hd0
        have ik : (i : Int) < (nq : Int) := by omega
        obtain ⟨A', c', e', -, -, h3, h4⟩ := (ActsL.gr hgr.out hv).out
        rw [hnq.out] at e' h3
        injection e' with e1 _ e2
        subst e1 e2
        obtain ⟨ba, oa, rfl, hba, hca⟩ := h3 (by omega)
        obtain ⟨q, hq⟩ : ∃ q, Q[i]? = some q := ⟨_, List.getElem?_eq_getElem (by rw [hnq.out]; exact p1)⟩
        obtain ⟨c0, c1, c2, c3⟩ := hca i q hq
        obtain ⟨hqz, hqp, hqc, hqm, hqr⟩ := h4 q (List.mem_of_getElem? hq)
        obtain ⟨dq, zq, pq, Aq, cq, lq⟩ := q
        simp only at c0 c1 c2 c3 hqz hqp hqc hqm hqr
        obtain ⟨mq, hmq⟩ : ∃ mq, lq.length = mq := ⟨_, rfl⟩
        rw [hmq] at c3 hqc
        have hdo := Lib.hid (does_any lo gl gr i (by omega) wr hb (hlow.out _ hgr.out) (U dq) zq pq (U_lo dq) hqz hqp Aq mq cq lq hmq (Nat.le_trans hqc hqm) (Lib.hid hqr))
        replace hmq := Lib.hid hmq
        replace hq := Lib.hid hq
        clear h3 h4 hca hba hb hqr hqz hqp hqc hqm
        go_wp2_with (go_at_call 25; go_must (refine hdo.out.mono ?_); clear hdo; rintro e w5 ⟨⟨r5, rfl⟩, hb5, t5⟩)
        go_roundw
        case rel => exact ⟨i + 1, by omega, by go_num, hb5, Lib.hid (hlob.out _ _ hgr.out t5.out)⟩
        case measure => simp [intOf]; omega
      | false =>
        replace hd0 := Lib.hid hd0
        go_wp2_with fail
        go_ret
        exact ⟨gl, gr, i, rfl, hi40, hb, hgr.out⟩
end Go.Proofs.Ytfjhdcppehfiiaa
