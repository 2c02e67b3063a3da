/- hold: HoldRoom. -/
import Derived.Test.YthhggojpmilmdaaHo11
import Derived.Test.YthhggojpmilmdaaOpenAct17
import Derived.Laws.Cover1
namespace Go.Proofs.Ythhggojpmilmdaa
set_option linter.unusedVariables false
set_option linter.unusedSimpArgs false
open Go Go.RowKit
theorem tmod_nat (x : UInt8) (n : Nat) : (U x).tmod (n : Int) = ((x.toNat % n : Nat) : Int) := by
  have := U_bd x
  rw [Int.tmod_eq_emod_of_nonneg (by omega)]
  unfold U
  omega
theorem OS.empty (w : World) (base : Nat) (hb : base ≤ w.heap.size) : OS [] (.slice (some ⟨w.heap.size, 0, none⟩) 0 0) base (w.alloc (.cells #[] 9)) :=
  World.ownsRow_made w #[] 0 hb (by simp [maxLen]) rfl
def keysN (L : List Nd) : List (List UInt8) := L.map (fun e => e.2.1)
theorem keysN_len (L : List Nd) : (keysN L).length = L.length := by unfold keysN; simp
theorem keys_drop (L : List Nd) (k : List UInt8) : keysN (dropN L k) = (keysN L).filter (· != k) := by
  unfold keysN dropN
  rw [List.filter_map]
  rfl
theorem drop_len (L : List Nd) (k : List UInt8) : (dropN L k).length ≤ L.length := List.length_filter_le _ _
theorem drop_sum (L : List Nd) (k : List UInt8) : sumD (dropN L k) ≤ sumD L := by
  induction L with
  | nil => exact Nat.le_refl _
  | cons e L ih =>
    unfold dropN at ih ⊢
    rw [List.filter_cons]
    split
    · rw [sumD_cons, sumD_cons]; omega
    · rw [sumD_cons]; omega
theorem drop_lt {L : List Nd} {k : List UInt8} : (dropN L k).length < L.length ↔ hasN L k = true := by
  induction L with
  | nil => simp [dropN, hasN]
  | cons e L ih =>
    unfold dropN hasN at ih ⊢
    rw [List.filter_cons, List.any_cons]
    by_cases h : e.2.1 = k
    · have h1 : (e.2.1 == k) = true := by simpa using h
      have h2 : (e.2.1 != k) = false := by simpa using h
      rw [h1, h2]
      simp only [Bool.false_eq_true, if_false, Bool.true_or, iff_true, List.length_cons]
      exact Nat.lt_succ_of_le (List.length_filter_le _ _)
    · have h1 : (e.2.1 == k) = false := by simpa using h
      have h2 : (e.2.1 != k) = true := by simpa using h
      rw [h1, h2]
      simp only [if_true, Bool.false_or, List.length_cons]
      rw [← ih]
      omega
theorem filt_step {l : List (List UInt8)} {j : Nat} {x k : List UInt8} (h : l[j]? = some x) : (l.take (j + 1)).filter (· != k) = (l.take j).filter (· != k) ++ (if (x != k) = true then [x] else []) := by
  rw [List.take_add_one, h, List.filter_append]
  simp only [Option.toList_some, List.filter_cons, List.filter_nil]
theorem same_self (A B : Option Addr) {l : List (List UInt8)} (na nb ca cb : Nat) (hna : l.length = na) (hnb : l.length = nb) (hs : na ≤ 1000000) (w : World) (ha : RS l A w) (hb : RS l B w) :
    Calls Try.prog 18 #[.slice A na ca, .slice B nb cb] w fun e w' => e = .returned (.bool true) ∧ GrM w w' := by
  have h := same17_any A B l l na nb ca cb hna hnb hs w ha hb
  rw [beq_self_eq_true] at h
  exact h
set_option maxHeartbeats 16000000 in
set_option maxRecDepth 10000 in
theorem holdRoom_any (Q : List ActH) (v : Value) (w : World) (hv : Hid (ActsH Q v w)) :
    Calls Try.prog 5 #[v] w fun e w' => e = .returned (.bool true) ∧ GrM w w' := by
  obtain ⟨Av, cv, rfl, -, -, -, -⟩ := hv.out
  obtain ⟨nq, hnq⟩ : ∃ nq, Q.length = nq := ⟨_, rfl⟩
  rw [hnq] at hv ⊢
  replace hnq := Lib.hid hnq
  obtain ⟨lo, hlo⟩ : ∃ lo, w.heap.size = lo := ⟨_, rfl⟩
  have hnew := Lib.hid (new17_any 32768 w)
  rw [hlo, show quotaOf 32768 = 32768 from rfl] at hnew
  have hlog : Hid (∀ x, GrM w x → lo ≤ x.heap.size) := Lib.hid (fun x h => by rw [← hlo]; exact h.size)
  have hlob : Hid (∀ x y ts, GrM w x → TChg lo ts x y → GrM w y) := Lib.hid (fun x y ts h ht => fin17 h ht (Nat.le_of_eq hlo) (by rw [← hlo]; exact h.size))
  replace hlo := Lib.hid hlo
  go_enter Try.func5, Try.ntmps5
  go_upto_region 2 with (go_at_call 8; go_must (refine hnew.out.mono ?_); rintro e w1 ⟨g, r, rfl, hm1, hg1⟩)
  have hm1' := Hd.gr (GrM.alloc w1 (.cells #[] 9)) hm1
  have ho1 := Lib.hid (OS.empty w1 lo (hlog.out _ hg1))
  have hg1' : Hid (GrM w (w1.alloc (.cells #[] 9))) := Lib.hid (hg1.trans (GrM.alloc _ _))
  clear hnew hg1 hm1
  go_wp2_with fail
  go_loopw [4, 5] (fun ks z wr => ∃ (i nk : Nat) (Ak : Option Addr) (ck : Nat) (L : List Nd), ks = .slice Ak nk ck ∧ i ≤ 30 ∧ z = .int .i64 i ∧ Hid (nk = L.length) ∧ Hid (L.length ≤ i) ∧ Hid (sumD L ≤ 1000 * i) ∧ Hid (OS (keysN L) (.slice Ak nk ck) lo wr) ∧ Hid (Hd wr lo g r 32768 L) ∧ Hid (GrM w wr)) (fun _ z _ => (30 - intOf z).toNat)
  case atStart => exact ⟨0, 0, _, _, [], rfl, Nat.zero_le _, rfl, Lib.hid rfl, Lib.hid (Nat.le_refl _), Lib.hid (Nat.le_refl _), ho1, hm1', hg1'⟩
  case round =>
    obtain ⟨i, nk, Ak, ck, L, rfl, hi30, rfl, hnk, hLl, hLs, hos, hm, hgr⟩ := hrel
    clear hm1' hg1' ho1
    obtain ⟨d0, hd0⟩ : ∃ d0, d0 = (decide (i < nq) && decide (i < 30)) := ⟨_, rfl⟩
    go_upto_region 4 with (fail)
    go_cut [18] (fun z wq => z = .bool d0 ∧ wr = wq)
    case first =>
      by_cases p1 : i < nq
      · have ip1 : (i : Int) < (nq : Int) := by omega
        by_cases p2 : i < 30
        · have ip2 : (i : Int) < 30 := by omega
          rw [decide_eq_true p1, decide_eq_true p2] at hd0
          subst hd0
          go_wp2_with fail
          go_meet
          exact ⟨by first | rfl | simp [*], rfl⟩
        · have ip2 : decide ((i : Int) < 30) = false := decide_eq_false (by omega)
          rw [decide_eq_true p1, decide_eq_false p2] at hd0
          subst hd0
          clear p2
          go_wp2_with fail
          go_meet
          exact ⟨by first | rfl | simp [*], rfl⟩
      · have ip1 : decide ((i : Int) < (nq : Int)) = false := decide_eq_false (by omega)
        have ip1n : decide (i < nq) = false := decide_eq_false p1
        rw [decide_eq_false p1, Bool.false_and] at hd0
        subst hd0
        clear p1
        go_wp2_with fail
        go_meet
        exact ⟨by first | rfl | simp [*], rfl⟩
    case rest =>
      obtain ⟨rfl, rfl⟩ := hcut
      cases d0 with
      | true =>
        have hkk : i < nq ∧ i < 30 := by
          have := hd0.symm
          simp only [Bool.and_eq_true, decide_eq_true_eq] at this
          exact this
        obtain ⟨p1, p2⟩ := hkk
        replace hd0 := Lib.hid hd0
        have ik : (i : Int) < (nq : Int) := by omega
        obtain ⟨A', c', e', -, -, h3, h4⟩ := (ActsH.gr hgr.out hv).out
        rw [hnq.out] at e' h3
        injection e' with e1 _ e2
        subst e1 e2
        obtain ⟨ba, oa, rfl, hba, hca⟩ := h3 (by omega)
        obtain ⟨q, hq⟩ : ∃ q, Q[i]? = some q := ⟨_, List.getElem?_eq_getElem (by rw [hnq.out]; exact p1)⟩
        obtain ⟨c0, c1, c2⟩ := hca i q hq
        obtain ⟨hqk, hqc, -⟩ := h4 q (List.mem_of_getElem? hq)
        have hqr : Hid (∀ w', GrM w w' → BytH lo q.l q.A w') := Lib.hid (fun w' hg' => by
          obtain ⟨_, _, _, _, _, _, h9⟩ := hv.out
          have hr0 := (h9 q (List.mem_of_getElem? hq)).2.2
          refine ⟨(hr0.below hg').more hg'.size, fun ad ha hn => .inl ?_⟩
          obtain ⟨ad', ha', hb', -⟩ := hr0.2 hn
          rw [ha] at ha'
          injection ha' with ha'
          subst ha'
          rw [← hlo.out]
          exact hb')
        obtain ⟨gq, kq, Aq, cq, lq⟩ := q
        simp only at c0 c1 c2 hqk hqc hqr
        obtain ⟨mq, hmq⟩ : ∃ mq, lq.length = mq := ⟨_, rfl⟩
        rw [hmq] at c2 hqc
        obtain ⟨gx, hgx⟩ : ∃ gx, wr.heap.size = gx := ⟨_, rfl⟩
        obtain ⟨W, hW⟩ : ∃ W, W = wr.alloc (.cells #[.int .u8 (U gq), .string (bs kq), .slice Aq mq cq] 29) := ⟨_, rfl⟩
        have hgW : GrM wr W := by rw [hW]; exact GrM.alloc _ _
        have hmW := Hd.gr hgW hm
        have hosW := Lib.hid (OS.below hgW hos.out)
        have hbx : Hid (W.heap[gx]? = some (.cells #[.int .u8 (U gq), .string (bs kq), .slice Aq mq cq] 29 (0, 0))) := Lib.hid (by rw [hW, ← hgx]; exact heap_alloc_new _ _)
        have hgwW : Hid (GrM w W) := Lib.hid (GrM.trans hgr.out hgW)
        have x0 := blk_cell (j := 0) hbx.out rfl
        have x1 := blk_cell (j := 1) hbx.out rfl
        have x2 := blk_cell (j := 2) hbx.out rfl
        replace hgx := Lib.hid hgx
        replace hmq := Lib.hid hmq
        replace hq := Lib.hid hq
        have hW' := Lib.hid hW.symm
        have hgxs := hgx.out
        clear h3 h4 hca hba hgW hm hgr hos
        go_upto_region 7 with (fail)
        rw [hW'.out]
        replace hW := Lib.hid hW
        clear hgxs c0 c1 c2
        by_cases hbig : 1000 < mq
        · have ib : (1000 : Int) < (mq : Int) := by omega
          have haw := Lib.hid (awake17_any W)
          clear hbig
          go_wp2_with (go_at_call 21; go_must (refine haw.out.mono ?_); rintro e w9 ⟨rfl, hg9⟩; replace hg9 := Lib.hid hg9)
          go_ret
          exact ⟨rfl, GrM.trans hgwW.out hg9.out⟩
        · have ib : decide ((1000 : Int) < (mq : Int)) = false := decide_eq_false (by omega)
          have ibn : decide (1000 < mq) = false := decide_eq_false hbig
          have hm1000 : Hid (mq ≤ 1000) := Lib.hid (by omega)
          clear hbig
          go_upto_region 9 with (fail)
          clear x0 x1 x2 ib ibn
          obtain ⟨B1, hB1⟩ : ∃ B1, W.heap.size = B1 := ⟨_, rfl⟩
          have ho2 := OS.empty W B1 (by omega)
          have hgW2 : GrM W (W.alloc (.cells #[] 9)) := GrM.alloc _ _
          have hsW2 : Hid (Below B1 W (W.alloc (.cells #[] 9))) := Lib.hid (by rw [← hB1]; exact hgW2)
          replace ho2 := Lib.hid ho2
          replace hB1 := Lib.hid hB1
          clear hgW2
          go_wp2_with fail
          have hnk30 : nk ≤ 30 := by have := hnk.out; have := hLl.out; omega
          go_loopw [7, 8] (fun rs z wt => ∃ (j nr : Nat) (Ar : Option Addr) (cr : Nat), rs = .slice Ar nr cr ∧ z = .int .i64 j ∧ j ≤ nk ∧ Hid (nr = (((keysN L).take j).filter (· != kq)).length) ∧ Hid (OS (((keysN L).take j).filter (· != kq)) (.slice Ar nr cr) B1 wt) ∧ Hid (Below B1 W wt)) (fun _ z _ => (nk - (intOf z).toNat))
          case atStart => exact ⟨0, 0, _, _, rfl, rfl, Nat.zero_le _, Lib.hid rfl, ho2, hsW2⟩
          case round =>
            obtain ⟨j, nr, Ar, cr, rfl, rfl, hj, hnr, hor, hbt⟩ := hrel
            clear ho2 hsW2
            rename World => wt
            by_cases hlt : j < nk
            · have ij : (j : Int) < (nk : Int) := by omega
              have hjl : j < (keysN L).length := by rw [keysN_len, ← hnk.out]; exact hlt
              obtain ⟨gk, rfl, -, -, hgk, hck⟩ := hosW.out.at_ (by omega)
              obtain ⟨wd, hwd⟩ : ∃ wd, wd = wt.drew := ⟨_, rfl⟩
              have hbd : Hid (Below B1 W wd) := Lib.hid (by rw [hwd]; exact hbt.out.trans ((Below.refl B1 wt).drew))
              have hord : Hid (OS (((keysN L).take j).filter (· != kq)) (.slice Ar nr cr) B1 wd) := Lib.hid (by rw [hwd]; exact hor.out)
              have hxj := Lib.hid (List.getElem?_eq_getElem hjl)
              have cx := (hbd.out.cell (p := ⟨gk, j, none⟩) (by have := hB1.out; show gk < B1; omega)).trans (hck j _ hxj.out)
              have ca := (hbd.out.cell (p := ⟨gx, 1, none⟩) (by have := blk_lt hbx.out; have := hB1.out; show gx < B1; omega)).trans (blk_cell (j := 1) (v := .string (bs kq)) hbx.out rfl)
              generalize (keysN L)[j] = x at *
              clear hck hgk hor hbt hjl
              cases hxk : (x == kq) with
              | true =>
                go_upto_region 13 with (fail)
                refine wpR_region (Eq) 9999 (by kernel_rfl) ?_
                (rw [← hwd]; replace hwd := Lib.hid hwd)
                refine wpR_take (i := 0) (v := ?_) (⟨fun _ => rfl, Eq.trans⟩) (some 37) rfl (by kernel_rfl) (by kernel_rfl) (by kernel_rfl) (by kernel_rfl) (by kernel_rfl) (fun _ _ _ h => h) (by kernel_rfl) (fun w' hw' => ?_) ?_
                rotate_left
                · go_simp; with_reducible rfl
                simp only [Act.put, List.setIfInBounds_toArray, List.set_cons_zero, List.set_cons_succ]
                refine wpR_take (i := 1) (v := ?_) (⟨fun _ => rfl, Eq.trans⟩) (some 38) rfl (by kernel_rfl) (by kernel_rfl) (by kernel_rfl) (by kernel_rfl) (by kernel_rfl) (fun _ _ _ h => h) (by kernel_rfl) (fun w' hw' => ?_) ?_
                rotate_left
                · go_simp; with_reducible rfl
                simp only [Act.put, List.setIfInBounds_toArray, List.set_cons_zero, List.set_cons_succ]
                refine wpR_take (i := 2) (v := ?_) (⟨fun _ => rfl, Eq.trans⟩) (some 39) rfl (by kernel_rfl) (by kernel_rfl) (by kernel_rfl) (by kernel_rfl) (by kernel_rfl) (fun _ _ _ h => h) (by kernel_rfl) (fun w' hw' => ?_) ?_
                rotate_left
                · go_simp; with_reducible rfl
                simp only [Act.put, List.setIfInBounds_toArray, List.set_cons_zero, List.set_cons_succ]
                refine wpR_take (i := 3) (v := ?_) (⟨fun _ => rfl, Eq.trans⟩) (some 40) rfl (by kernel_rfl) (by kernel_rfl) (by kernel_rfl) (by kernel_rfl) (by kernel_rfl) (fun _ _ _ h => h) (by kernel_rfl) (fun w' hw' => ?_) ?_
                rotate_left
                · subst hw'; go_simp; with_reducible rfl
                simp only [Act.put, List.setIfInBounds_toArray, List.set_cons_zero, List.set_cons_succ]
                refine wpR_take (i := 4) (v := ?_) (⟨fun _ => rfl, Eq.trans⟩) (some 41) rfl (by kernel_rfl) (by kernel_rfl) (by kernel_rfl) (by kernel_rfl) (by kernel_rfl) (fun _ _ _ h => h) (by kernel_rfl) (fun w' hw' => ?_) ?_
                rotate_left
                · go_simp; with_reducible rfl
                simp only [Act.put, List.setIfInBounds_toArray, List.set_cons_zero, List.set_cons_succ]
                refine wpR_take (i := 5) (v := ?_) (⟨fun _ => rfl, Eq.trans⟩) (some 42) rfl (by kernel_rfl) (by kernel_rfl) (by kernel_rfl) (by kernel_rfl) (by kernel_rfl) (fun _ _ _ h => h) (by kernel_rfl) (fun w' hw' => ?_) ?_
                rotate_left
                · subst hw'; go_simp; with_reducible rfl
                simp only [Act.put, List.setIfInBounds_toArray, List.set_cons_zero, List.set_cons_succ]
                refine wpR_take (i := 6) (v := ?_) (⟨fun _ => rfl, Eq.trans⟩) (some 43) rfl (by kernel_rfl) (by kernel_rfl) (by kernel_rfl) (by kernel_rfl) (by kernel_rfl) (fun _ _ _ h => h) (by kernel_rfl) (fun w' hw' => ?_) ?_
                rotate_left
                · go_simp; with_reducible rfl
                simp only [Act.put, List.setIfInBounds_toArray, List.set_cons_zero, List.set_cons_succ]
                refine wpR_done (by kernel_rfl) ?_ _
                go_wp2_with fail
                go_roundw
                case rel =>
                  have hst := filt_step (k := kq) hxj.out
                  rw [show (x != kq) = false from by simp [bne, hxk], if_neg (by simp), List.append_nil] at hst
                  exact ⟨j + 1, nr, Ar, cr, rfl, by go_num, by omega, by rw [hst]; exact hnr, by rw [hst]; exact hord, hbd⟩
                case measure => simp [intOf]; omega
              | false =>
                go_upto_region 13 with (fail)
                refine wpR_region (Eq) 9999 (by kernel_rfl) ?_
                (rw [← hwd]; replace hwd := Lib.hid hwd)
                refine wpR_take (i := 0) (v := ?_) (⟨fun _ => rfl, Eq.trans⟩) (some 37) rfl (by kernel_rfl) (by kernel_rfl) (by kernel_rfl) (by kernel_rfl) (by kernel_rfl) (fun _ _ _ h => h) (by kernel_rfl) (fun w' hw' => ?_) ?_
                rotate_left
                · go_simp; with_reducible rfl
                simp only [Act.put, List.setIfInBounds_toArray, List.set_cons_zero, List.set_cons_succ]
                refine wpR_take (i := 1) (v := ?_) (⟨fun _ => rfl, Eq.trans⟩) (some 38) rfl (by kernel_rfl) (by kernel_rfl) (by kernel_rfl) (by kernel_rfl) (by kernel_rfl) (fun _ _ _ h => h) (by kernel_rfl) (fun w' hw' => ?_) ?_
                rotate_left
                · go_simp; with_reducible rfl
                simp only [Act.put, List.setIfInBounds_toArray, List.set_cons_zero, List.set_cons_succ]
                refine wpR_take (i := 2) (v := ?_) (⟨fun _ => rfl, Eq.trans⟩) (some 39) rfl (by kernel_rfl) (by kernel_rfl) (by kernel_rfl) (by kernel_rfl) (by kernel_rfl) (fun _ _ _ h => h) (by kernel_rfl) (fun w' hw' => ?_) ?_
                rotate_left
                · go_simp; with_reducible rfl
                simp only [Act.put, List.setIfInBounds_toArray, List.set_cons_zero, List.set_cons_succ]
                refine wpR_take (i := 3) (v := ?_) (⟨fun _ => rfl, Eq.trans⟩) (some 40) rfl (by kernel_rfl) (by kernel_rfl) (by kernel_rfl) (by kernel_rfl) (by kernel_rfl) (fun _ _ _ h => h) (by kernel_rfl) (fun w' hw' => ?_) ?_
                rotate_left
                · subst hw'; go_simp; with_reducible rfl
                simp only [Act.put, List.setIfInBounds_toArray, List.set_cons_zero, List.set_cons_succ]
                refine wpR_take (i := 4) (v := ?_) (⟨fun _ => rfl, Eq.trans⟩) (some 41) rfl (by kernel_rfl) (by kernel_rfl) (by kernel_rfl) (by kernel_rfl) (by kernel_rfl) (fun _ _ _ h => h) (by kernel_rfl) (fun w' hw' => ?_) ?_
                rotate_left
                · go_simp; with_reducible rfl
                simp only [Act.put, List.setIfInBounds_toArray, List.set_cons_zero, List.set_cons_succ]
                refine wpR_take (i := 5) (v := ?_) (⟨fun _ => rfl, Eq.trans⟩) (some 42) rfl (by kernel_rfl) (by kernel_rfl) (by kernel_rfl) (by kernel_rfl) (by kernel_rfl) (fun _ _ _ h => h) (by kernel_rfl) (fun w' hw' => ?_) ?_
                rotate_left
                · subst hw'; go_simp; with_reducible rfl
                simp only [Act.put, List.setIfInBounds_toArray, List.set_cons_zero, List.set_cons_succ]
                refine wpR_take (i := 6) (v := ?_) (⟨fun _ => rfl, Eq.trans⟩) (some 43) rfl (by kernel_rfl) (by kernel_rfl) (by kernel_rfl) (by kernel_rfl) (by kernel_rfl) (fun _ _ _ h => h) (by kernel_rfl) (fun w' hw' => ?_) ?_
                rotate_left
                · go_simp; with_reducible rfl
                simp only [Act.put, List.setIfInBounds_toArray, List.set_cons_zero, List.set_cons_succ]
                refine wpR_done (by kernel_rfl) ?_ _
                have hlen : Hid ((((keysN L).take j).filter (· != kq)).length ≤ 100000000) := Lib.hid (by
                  have h1 := List.length_filter_le (fun y => y != kq) ((keysN L).take j)
                  rw [List.length_take, keysN_len] at h1
                  have := hLl.out
                  omega)
                have hsz : Hid (B1 ≤ wd.heap.size) := Lib.hid (by have := hbd.out.size; have := hB1.out; omega)
                obtain ⟨fl, hfl⟩ : ∃ fl, ((keysN L).take j).filter (· != kq) = fl := ⟨_, rfl⟩
                rw [hfl] at hord hlen
                have ho6 : Hid (OS fl (.slice Ar nr cr) B1 (wd.alloc (.cells #[.string (bs x)] 9))) := Lib.hid (OS.below (GrM.alloc _ _) hord.out)
                replace hfl := Lib.hid hfl
                go_wp2_with (at_builtin; go_must (refine wpl_appS rfl (.tmp 44) (.tmp 49) rfl B1 (.slice Ar nr cr) fl rfl ho6.out (some ⟨wd.heap.size, 0, none⟩) 1 (wd.heap.size + 1) x rfl (sV_lit wd x) hlen.out (by have := hsz.out; simp; omega) ?_); intro v9 w9 ho9 hg9; obtain ⟨A9, c9, rfl, -, -⟩ := ho9.form; generalize hn9 : (fl ++ [x]).length = n9 at *; replace hn9 := Lib.hid hn9)
                go_roundw
                case rel =>
                  have hst := filt_step (k := kq) hxj.out
                  rw [show (x != kq) = true from by simp [bne, hxk], if_pos rfl, hfl.out] at hst
                  exact ⟨j + 1, n9, A9, c9, rfl, by go_num, by omega, Lib.hid (by rw [hst]; exact hn9.out.symm), Lib.hid (by rw [hst]; exact ho9), Lib.hid (((hbd.out.trans ((GrM.alloc wd (.cells #[.string (bs x)] 9)).mono hsz.out))).grown hg9 (by have := hsz.out; simp; omega) (fun jj hjj => (World.ownsRow.lt ho6.out jj hjj).1))⟩
                case measure => simp [intOf]; omega
            · obtain rfl : j = nk := by omega
              have ij : decide ((j : Int) < (j : Int)) = false := decide_eq_false (by omega)
              have htk : (keysN L).take j = keysN L := List.take_of_length_le (by rw [keysN_len, ← hnk.out]; exact Nat.le_refl _)
              rw [htk, ← keys_drop] at hor hnr
              have hnr2 : Hid (nr = (dropN L kq).length) := Lib.hid (by rw [hnr.out, keysN_len])
              have hmt := Lib.hid (hmW.out.keep (lo' := lo) (ts := []) (TChg.of_below (by rw [hB1.out]; exact hbt.out)) (by simp) (by simp) (by simp))
              have hgt : Hid (GrM w wt) := Lib.hid (Below.trans hgwW.out (hbt.out.mono (by have := hgwW.out.size; have := hB1.out; omega)))
              have hbxt : Hid (wt.heap[gx]? = some (.cells #[.int .u8 (U gq), .string (bs kq), .slice Aq mq cq] 29 (0, 0))) := Lib.hid ((hbt.out.block gx (by have := blk_lt hbx.out; have := hB1.out; omega)).trans hbx.out)
              have hort : Hid (OS (keysN (dropN L kq)) (.slice Ar nr cr) lo wt) := Lib.hid (row_more hor.out (by have := hgwW.out; have := hB1.out; have := hlog.out _ hgwW.out; omega))
              have hbyt : Hid (BytH lo lq Aq wt) := Lib.hid (hqr.out _ hgt.out)
              have x0 := blk_cell (j := 0) hbxt.out rfl
              have x1 := blk_cell (j := 1) hbxt.out rfl
              have x2 := blk_cell (j := 2) hbxt.out rfl
              have hmod : (U gq).tmod 4 = ((gq.toNat % 4 : Nat) : Int) := tmod_nat gq 4
              clear hor hbt hnr htk hlt hbx hmW hosW
              by_cases hd4 : gq.toNat % 4 = 0
              · rw [hd4] at hmod
                replace hd4 := Lib.hid hd4
                have hdrop := Lib.hid (drop17_any lo g r 32768 L kq wt hmt)
                have hcond : Hid ((decide (nr < j)) = hasN L kq) := Lib.hid (by
                  rw [hnr2.out, hnk.out]
                  cases hh : hasN L kq with
                  | true => exact decide_eq_true (drop_lt.2 hh)
                  | false => exact decide_eq_false (fun h => by rw [drop_lt.1 h] at hh; cases hh))
                obtain ⟨hh, hhh⟩ : ∃ hh, hasN L kq = hh := ⟨_, rfl⟩
                rw [hhh] at hdrop hcond
                replace hhh := Lib.hid hhh
                obtain ⟨LD, hLD⟩ : ∃ LD, dropN L kq = LD := ⟨_, rfl⟩
                rw [hLD] at hdrop hort hnr2
                have hLDl : LD.length ≤ i := by rw [← hLD]; exact Nat.le_trans (drop_len L kq) hLl.out
                have hLDs : Hid (sumD LD ≤ 1000 * i) := Lib.hid (by rw [← hLD]; exact Nat.le_trans (drop_sum L kq) hLs.out)
                replace hLD := Lib.hid hLD
                have i5 : decide ((nr : Int) < (j : Int)) = hh := by rw [← hcond.out]; exact decide_eq_decide.mpr (by omega)
                have i5n := hcond.out
                clear hcond
                cases hh <;>
                · go_wp2_with (first
                    | (go_at_call 12; go_must (refine hdrop.out.mono ?_); clear hdrop; rintro en w5 ⟨rfl, hm5, ht5⟩; have hor5 : OS (keysN LD) (.slice Ar nr cr) lo w5 := row_tchg hort.out ht5 (by decide); have hkeys := Lib.hid (keys17_any lo g r 32768 LD (by omega) w5 hm5))
                    | (go_at_call 19; go_must (refine hkeys.out.mono ?_); clear hkeys; rintro e w6 ⟨v6, rfl, ho6, hg6⟩; have ho6' : OS (keysN LD) v6 _ w6 := ho6.out; obtain ⟨A6, c6, rfl, -, -⟩ := ho6'.form; clear ho6; have ho6 := ho6'; clear ho6'; generalize hn6 : (keysN LD).length = n6 at ho6 ⊢; replace hn6 := Lib.hid hn6; have hsame := Lib.hid (same_self A6 Ar n6 nr c6 cr hn6.out (by rw [keysN_len]; exact hnr2.out.symm) (by have := hn6.out; rw [keysN_len] at this; have := hLDl; omega) w6 (OS.rs ho6) (RS.below hg6 (OS.rs hor5))))
                    | (go_at_call 18; go_must (refine hsame.out.mono ?_); clear hsame; rintro e w7 ⟨rfl, hg7⟩))
                  go_roundw
                  case rel => exact ⟨i + 1, nr, Ar, cr, LD, rfl, by omega, by go_num, hnr2, Lib.hid (by omega), Lib.hid (by have := hLDs.out; omega), Lib.hid (OS.below hg7 (OS.below hg6 hor5)), Hd.gr hg7 (Hd.gr hg6 hm5), Lib.hid (GrM.trans (GrM.trans (hlob.out _ _ _ hgt.out ht5) hg6) hg7)⟩
                  case measure => simp [intOf]; omega
              · have hne : (((gq.toNat % 4 : Nat) : Int) == 0) = false := beq_false_of_ne (by omega)
                have hned : (gq.toNat % 4 == 0) = false := beq_false_of_ne hd4
                replace hd4 := Lib.hid hd4
                obtain ⟨LD0, hLD0⟩ : ∃ LD0, dropN L kq = LD0 := ⟨_, rfl⟩
                rw [hLD0] at hort hnr2
                have hLDl : LD0.length ≤ i := by rw [← hLD0]; exact Nat.le_trans (drop_len L kq) hLl.out
                have hLDs : sumD LD0 ≤ 1000 * i := by rw [← hLD0]; exact Nat.le_trans (drop_sum L kq) hLs.out
                have hput := put17_yes lo g r 32768 L kq lq Aq mq cq hmq (by have := hm1000.out; omega) wt (Lib.hid (hlog.out _ hgt.out)) hmt hbyt
                rw [hLD0, trim_stop (by have := hm1000.out; omega)] at hput
                replace hput := Lib.hid hput
                replace hLD0 := Lib.hid hLD0
                replace hLDs := Lib.hid hLDs
                have hlen : Hid ((keysN LD0).length ≤ 100000000) := Lib.hid (by rw [keysN_len]; omega)
                go_wp2_with (first
                  | (go_at_call 14; go_must (refine hput.out.mono ?_); clear hput; rintro en w4 ⟨rfl, ⟨p, vn, -, hm4, -⟩, ht4⟩; have hor4 : Hid (OS (keysN LD0) (.slice Ar nr cr) lo w4) := Lib.hid (row_tchg hort.out ht4 (by decide)); have hg4 := hlob.out _ _ _ hgt.out ht4; have hsz4 := Lib.hid (hlog.out _ hg4); have hbx4 : w4.heap[gx]? = some (.cells #[.int .u8 (U gq), .string (bs kq), .slice Aq mq cq] 29 (0, 0)) := ht4.block hbxt.out (by decide); have y1 := blk_cell (j := 1) (v := .string (bs kq)) hbx4 rfl; replace hbx4 := Lib.hid hbx4; replace hg4 := Lib.hid hg4)
                  | (at_builtin; go_must (refine wpl_appS rfl (.tmp 73) (.tmp 76) rfl lo (.slice Ar nr cr) (keysN LD0) rfl (OS.below (GrM.alloc w4 (.cells #[.string (bs kq)] 9)) hor4.out) (some ⟨w4.heap.size, 0, none⟩) 1 (w4.heap.size + 1) kq rfl (sV_lit w4 kq) hlen.out (by have := hsz4.out; simp; omega) ?_); intro v5 w5 hor5' hg5; obtain ⟨LD, hLD⟩ : ∃ LD, LD0 ++ [(p, kq, vn, lq)] = LD := ⟨_, rfl⟩; have hor5 : OS (keysN LD) v5 lo w5 := (by rw [← hLD]; simpa [keysN] using hor5'); clear hor5'; obtain ⟨A5, c5, rfl, -, -⟩ := hor5.form; have hLDl2 : LD.length ≤ i + 1 := (by rw [← hLD]; simp; omega); have ht5 : TChg lo [9] w4 w5 := TChg.trans (TChg.of_below (GrM.alloc w4 (.cells #[.string (bs kq)] 9))) (TChg.of_row (OS.below (GrM.alloc w4 (.cells #[.string (bs kq)] 9)) hor4.out) hg5 (by simp)); have hm5 : Hid (Hd w5 lo g r 32768 LD) := Lib.hid (by rw [← hLD]; exact hm4.out.keep ht5 (by decide) (by decide) (by decide)); generalize hn5 : (keysN LD).length = n5 at hor5 ⊢; replace hn5 := Lib.hid hn5; replace hLD := Lib.hid hLD; have hkeys := Lib.hid (keys17_any lo g r 32768 LD (by omega) w5 hm5))
                  | (go_at_call 19; go_must (refine hkeys.out.mono ?_); clear hkeys; rintro e w6 ⟨v6, rfl, ho6, hg6⟩; have ho6' : OS (keysN LD) v6 _ w6 := ho6.out; obtain ⟨A6, c6, rfl, -, -⟩ := ho6'.form; clear ho6; have ho6 := ho6'; clear ho6'; generalize hn6 : (keysN LD).length = n6 at ho6 ⊢; replace hn6 := Lib.hid hn6; have hsame := Lib.hid (same_self A6 A5 n6 n5 c6 c5 hn6.out hn5.out (by have := hn6.out; rw [keysN_len] at this; have := hLDl2; omega) w6 (OS.rs ho6) (RS.below hg6 (OS.rs hor5))))
                  | (go_at_call 18; go_must (refine hsame.out.mono ?_); clear hsame; rintro e w7 ⟨rfl, hg7⟩))
                go_roundw
                case rel => exact ⟨i + 1, n5, A5, c5, LD, rfl, by omega, by go_num, Lib.hid (by rw [← hn5.out, keysN_len]), Lib.hid (by omega), Lib.hid (by rw [← hLD.out, sumD_app, sumD_cons, sumD_nil]; show _ + (lq.length + 0) ≤ _; have := hLDs.out; have := hm1000.out; have := hmq.out; omega), Lib.hid (OS.below hg7 (OS.below hg6 hor5)), Hd.gr hg7 (Hd.gr hg6 hm5), Lib.hid (GrM.trans (GrM.trans (hlob.out _ _ _ hg4.out ht5) hg6) hg7)⟩
                case measure => simp [intOf]; omega
      | false =>
        have haw := Lib.hid (awake17_any wr)
        go_wp2_with (go_at_call 21; go_must (refine haw.out.mono ?_); rintro e w9 ⟨rfl, hg9⟩; replace hg9 := Lib.hid hg9)
        go_ret
        exact ⟨rfl, GrM.trans hgr.out hg9.out⟩
end Go.Proofs.Ythhggojpmilmdaa
