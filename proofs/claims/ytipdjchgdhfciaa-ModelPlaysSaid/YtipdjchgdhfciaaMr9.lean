/- model: ModelPlays. -/
import Derived.Test.YtipdjchgdhfciaaMr8
namespace Go.Proofs.Ytipdjchgdhfciaa
set_option linter.unusedVariables false
set_option linter.unusedSimpArgs false
open Go Go.RowKit Go.Maps Go.Sort
theorem pairsL_nil : pairsL [] = [] := List.eq_nil_of_length_eq_zero (pairsL_len [])
theorem LD_len (L : List En) (k : List UInt8) : (LD L k).length ≤ L.length := by
  unfold LD; split
  · exact List.length_filter_le _ _
  · exact Nat.le_refl _
theorem same_self (K : List (List UInt8)) (v u : Value) (w : World) (hv : Hid (Txts K v w)) (hu : Hid (Txts K u w)) : (hK : K.length ≤ 1000000) → Calls Try.prog 13 #[v, u] w fun e w' => e = .returned (.bool true) ∧ GrM w w' := fun hK => by
  have := same22_any K K v u w hv hu hK hK
  rw [show (K == K) = true from by simp] at this; exact this
theorem both_view {w : World} {g b n g2 lo lo2 : Nat} (L : List En) (m : Nat) (hL : L.length ≤ m) (h : Hid (Both w g b n g2 lo lo2 L)) : m ≤ 60 →
    (∀ x, GrM w x → Calls Try.prog 14 #[.pointer (some ⟨g, 0, none⟩)] x fun e w' => ∃ v, e = .returned v ∧ Hid (Txts (keysL L) v w') ∧ GrM x w') ∧
    (∀ x, GrM w x → Calls Try.prog 15 #[.pointer (some ⟨g2, 0, none⟩)] x fun e w' => ∃ v, e = .returned v ∧ Hid (Txts (keysL L) v w') ∧ GrM x w') ∧
    (∀ x, GrM w x → Calls Try.prog 16 #[.pointer (some ⟨g, 0, none⟩)] x fun e w' => e = .returned (.string (bs (textL L))) ∧ GrM x w') ∧
    (∀ x, GrM w x → Calls Try.prog 17 #[.pointer (some ⟨g2, 0, none⟩)] x fun e w' => e = .returned (.string (bs (textL L))) ∧ GrM x w') := fun hm => by
  obtain ⟨h1, v, h2⟩ := h.out
  refine ⟨fun x hg => ?_, fun x hg => ?_, fun x hg => text22_any lo g b n L (by omega) x (Md.below hg h1), fun x hg => ?_⟩
  · refine (keys22_any lo g b n L (by omega) x (Md.below hg h1)).mono ?_
    rintro e w' ⟨v, a1, a2, a3⟩
    exact ⟨v, a1, Lib.hid ⟨x.heap.size, by rw [keysL_len]; exact a2⟩, a3⟩
  · have := rkeys_any lo2 g2 v (pairsL L) (by rw [pairsL_len]; omega) x (Rm.gr hg h2)
    rw [pairsL_fst] at this; exact this
  · have := rtext22_any lo2 g2 v (pairsL L) (by rw [pairsL_len]; omega) (pairs_short (fun e he => ⟨(h1.out.ok e he).2.1, (h1.out.ok e he).2.2⟩) h1.out.dist) x (Rm.gr hg h2)
    rw [← textL_flat] at this; exact this
set_option maxHeartbeats 8000000 in
set_option maxRecDepth 10000 in
theorem modelPlays_any (Q : List ActM) (v : Value) (key : List UInt8) (hkey : key.length ≤ maxLen) (w : World) (hv : Hid (ActsM Q v w)) :
    Calls Try.prog 3 #[v, .string (bs key)] w fun e w' => e = .returned (.bool true) ∧ GrM w w' := by
  obtain ⟨Av, cv, rfl, -, -, -, -⟩ := hv.out
  obtain ⟨nq, hnq⟩ : ∃ nq, Q.length = nq := ⟨_, rfl⟩
  rw [hnq] at hv ⊢
  replace hnq := Lib.hid hnq
  obtain ⟨lo, hlo⟩ : ∃ lo, w.heap.size = lo := ⟨_, rfl⟩
  have hnew := Lib.hid (new22_any w)
  rw [hlo] at hnew
  have hlog : Hid (∀ x, GrM w x → lo ≤ x.heap.size) := Lib.hid (fun x h => by rw [← hlo]; exact h.size)
  have hlob : Hid (∀ x y, GrM w x → ∀ b g2, lo ≤ b → lo ≤ g2 → Upd (S2 b g2) x y → GrM w y) := Lib.hid (fun x y h b g2 hb hg hu => Upd.to_below h hu h.size (fun k hk => by rw [hlo]; rcases hk with e | e <;> omega))
  replace hlo := Lib.hid hlo
  go_enter Try.func3, Try.ntmps3
  go_upto_region 2 with (go_at_call 8; go_must (refine hnew.out.mono ?_); rintro e w1 ⟨g, b, rfl, hm1, hg1⟩)
  obtain ⟨g2, hg2⟩ : ∃ g2, w1.heap.size = g2 := ⟨_, rfl⟩
  obtain ⟨W1, hW1⟩ : ∃ W1, W1 = w1.alloc (.cells #[.slice none 0 0] 28) := ⟨_, rfl⟩
  have hgW : GrM w1 W1 := by rw [hW1]; exact GrM.alloc _ _
  have hbl := hm1.out.bl
  have hgl2 : lo ≤ g2 := by rw [← hg2]; exact hlog.out _ hg1
  have hB1 : Hid (Both W1 g b 0 g2 lo lo []) := Lib.hid ⟨Md.below hgW hm1, .slice none 0 0, Lib.hid ⟨by rw [hW1, ← hg2]; exact heap_alloc_new _ _, hgl2, by rw [pairsL_nil]; exact World.ownsRow_nil _ _ _ 2⟩⟩
  have hg1' : Hid (GrM w W1) := Lib.hid (GrM.trans hg1 hgW)
  rw [← hW1]
  try rw [hg2]
  replace hW1 := Lib.hid hW1
  replace hg2 := Lib.hid hg2
  clear hnew hg1 hgW hm1
  go_wp2_with fail
  go_loopw [7] (fun z wr => ∃ (i n : Nat) (L : List En), i ≤ 60 ∧ z = .int .i64 i ∧ n ≤ i ∧ Hid (L.length ≤ i) ∧ Hid (Both wr g b n g2 lo lo L) ∧ Hid (GrM w wr)) (fun z _ => (60 - intOf z).toNat)
  case atStart => exact ⟨0, 0, [], Nat.zero_le _, rfl, Nat.le_refl _, Lib.hid (Nat.le_refl _), hB1, hg1'⟩
  case round =>
    obtain ⟨i, n, L, hi40, rfl, hni, hLl, hB, hgr⟩ := hrel
    clear hB1 hg1'
    have hm := hB.out.1
    obtain ⟨d0, hd0⟩ : ∃ d0, d0 = (decide (i < nq) && decide (i < 60)) := ⟨_, rfl⟩
    go_upto_region 3 with (fail)
    go_cut [23] (fun z wq => z = .bool d0 ∧ wr = wq)
    case first =>
      by_cases p1 : i < nq
      · have ip1 : (i : Int) < (nq : Int) := by omega
        by_cases p2 : i < 60
        · have ip2 : (i : Int) < 60 := by omega
          rw [decide_eq_true p1, decide_eq_true p2] at hd0
          subst hd0
          go_wp2_with fail
          go_meet
          exact ⟨by first | rfl | simp [*], rfl⟩
        · have ip2 : decide ((i : Int) < 60) = false := decide_eq_false (by omega)
          rw [decide_eq_true p1, decide_eq_false p2] at hd0
          subst hd0
          clear p2
          go_wp2_with fail
          go_meet
          exact ⟨by first | rfl | simp [*], rfl⟩
      · have ip1 : decide ((i : Int) < (nq : Int)) = false := decide_eq_false (by omega)
        have ip1n : decide (i < nq) = false := decide_eq_false p1
        rw [decide_eq_false p1, Bool.false_and] at hd0
        subst hd0
        clear p1
        go_wp2_with fail
        go_meet
        exact ⟨by first | rfl | simp [*], rfl⟩
    case rest =>
      obtain ⟨rfl, rfl⟩ := hcut
      cases d0 with
      | true =>
        have hkk : i < nq ∧ i < 60 := by
          have := hd0.symm
          simp only [Bool.and_eq_true, decide_eq_true_eq] at this
          exact this
        obtain ⟨p1, p2⟩ := hkk
        replace hd0 := Lib.hid hd0
        have ik : (i : Int) < (nq : Int) := by omega
        obtain ⟨A', c', e', -, -, h3, h4⟩ := (ActsM.gr hgr.out hv).out
        rw [hnq.out] at e' h3
        injection e' with e1 _ e2
        subst e1 e2
        obtain ⟨ba, oa, rfl, hba, hca⟩ := h3 (by omega)
        obtain ⟨q, hq⟩ : ∃ q, Q[i]? = some q := ⟨_, List.getElem?_eq_getElem (by rw [hnq.out]; exact p1)⟩
        obtain ⟨c0, c1, c2⟩ := hca i q hq
        obtain ⟨hqk, hqc, -⟩ := h4 q (List.mem_of_getElem? hq)
        have hqr : Hid (∀ w', GrM w w' → Rd w' w'.heap.size q.A q.l) := Lib.hid (fun w' hg' => by
          obtain ⟨_, _, _, _, _, _, h9⟩ := (ActsM.gr hg' hv).out
          exact (h9 q (List.mem_of_getElem? hq)).2.2)
        obtain ⟨gq, kq, Aq, cq, lq⟩ := q
        simp only at c0 c1 c2 hqk hqc hqr
        obtain ⟨mq, hmq⟩ : ∃ mq, lq.length = mq := ⟨_, rfl⟩
        rw [hmq] at c2 hqc
        obtain ⟨gx, hgx⟩ : ∃ gx, wr.heap.size = gx := ⟨_, rfl⟩
        obtain ⟨W, hW⟩ : ∃ W, W = wr.alloc (.cells #[.bool gq, .string (bs kq), .slice Aq mq cq] 31) := ⟨_, rfl⟩
        have hgW : GrM wr W := by rw [hW]; exact GrM.alloc _ _
        have hBW := Both.gr hgW hB
        have hgg2 : gx ≠ g2 := by obtain ⟨-, vv, hrr⟩ := hB.out; have := blk_lt hrr.out.blk; omega
        have hbx : W.heap[gx]? = some (.cells #[.bool gq, .string (bs kq), .slice Aq mq cq] 31 (0, 0)) := by rw [hW, ← hgx]; exact heap_alloc_new _ _
        have hgb : gx ≠ b := by have := hm.out.lt.2; omega
        have hgwW : Hid (GrM w W) := Lib.hid (GrM.trans hgr.out hgW)
        have hkeep : Hid (∀ w', Upd (S2 b g2) W w' → w'.cell? ⟨gx, 0, none⟩ = some (.bool gq) ∧ w'.cell? ⟨gx, 1, none⟩ = some (.string (bs kq)) ∧ w'.cell? ⟨gx, 2, none⟩ = some (.slice Aq mq cq) ∧ GrM w w') := Lib.hid (fun w' hu => by
          have hb' : w'.heap[gx]? = _ := (hu.2.2.2.2 gx (blk_lt hbx) (fun e => by rcases e with e | e; exact hgb e; exact hgg2 e)).trans hbx
          exact ⟨blk_cell (j := 0) (v := .bool gq) hb' rfl, blk_cell (j := 1) (v := .string (bs kq)) hb' rfl, blk_cell (j := 2) (v := .slice Aq mq cq) hb' rfl, hlob.out _ _ hgwW.out b g2 hbl hgl2 hu⟩)
        have hu0 : Hid (Upd (S2 b g2) W W) := Lib.hid (Upd.refl _ _)
        replace hgx := Lib.hid hgx
        replace hmq := Lib.hid hmq
        replace hq := Lib.hid hq
        have hW' := Lib.hid hW.symm
        have hgxs := hgx.out
        clear h3 h4 hca hba hgW hm hB hgr hbx
        go_upto_region 6 with (fail)
        rw [hW'.out]
        replace hW := Lib.hid hW
        clear hgxs c0 c1 c2
        obtain ⟨wd, hwd⟩ : ∃ wd, wd = W.drew := ⟨_, rfl⟩
        have hud : Upd (S2 b g2) W wd := by rw [hwd]; exact Upd.of_gr (Below.refl _ _).drew
        have hBd : Hid (Both wd g b n g2 lo lo L) := Both.gr (by rw [hwd]; exact (Below.refl _ _).drew) hBW
        replace hkeep : Hid (∀ w', Upd (S2 b g2) wd w' → w'.cell? ⟨gx, 0, none⟩ = some (.bool gq) ∧ w'.cell? ⟨gx, 1, none⟩ = some (.string (bs kq)) ∧ w'.cell? ⟨gx, 2, none⟩ = some (.slice Aq mq cq) ∧ GrM w w') := Lib.hid (fun w' hu => hkeep.out w' (hud.trans hu))
        clear hBW hud hu0
        cases gq with
        | true =>
          have htwo := Lib.hid (del_two lo g b n lo g2 L (by have := hLl.out; omega) kq hqk wd hBd)
          refine wpR_region (Upd (S2 b g2)) 9999 (by kernel_rfl) ?_
          (rw [← hwd]; replace hwd := Lib.hid hwd)
          refine wpR_take (i := 0) (v := ?_) (Upd.road (S2 b g2)) (some 30) rfl (by kernel_rfl) (by kernel_rfl) (by kernel_rfl) (by kernel_rfl) (by kernel_rfl) (fun _ _ _ h => h) (by kernel_rfl) (fun w' hw' => ?_) ?_
          rotate_left
          · go_simp; with_reducible rfl
          simp only [Act.put, List.setIfInBounds_toArray, List.set_cons_zero, List.set_cons_succ]
          refine wpR_take (i := 1) (v := ?_) (Upd.road (S2 b g2)) (some 31) rfl (by kernel_rfl) (by kernel_rfl) (by kernel_rfl) (by kernel_rfl) (by kernel_rfl) (fun _ _ _ h => h) (by kernel_rfl) (fun w' hw' => ?_) ?_
          rotate_left
          · obtain ⟨x0, x1, x2, -⟩ := hkeep.out w' hw'; go_simp; with_reducible rfl
          simp only [Act.put, List.setIfInBounds_toArray, List.set_cons_zero, List.set_cons_succ]
          refine wpR_take (i := 2) (v := ?_) (Upd.road (S2 b g2)) (some 32) rfl (by kernel_rfl) (by kernel_rfl) (by kernel_rfl) (by kernel_rfl) (by kernel_rfl) (fun _ _ _ h => h) (by kernel_rfl) (fun w' hw' => ?_) ?_
          rotate_left
          · go_simp; with_reducible rfl
          simp only [Act.put, List.setIfInBounds_toArray, List.set_cons_zero, List.set_cons_succ]
          refine wpR_take (i := 3) (v := ?_) (Upd.road (S2 b g2)) (some 33) rfl (by kernel_rfl) (by kernel_rfl) (by kernel_rfl) (by kernel_rfl) (by kernel_rfl) (fun _ _ _ h => h) (by kernel_rfl) (fun w' hw' => ?_) ?_
          rotate_left
          · go_simp; with_reducible rfl
          simp only [Act.put, List.setIfInBounds_toArray, List.set_cons_zero, List.set_cons_succ]
          refine wpR_take (i := 4) (v := ?_) (Upd.road (S2 b g2)) (some 34) rfl (by kernel_rfl) (by kernel_rfl) (by kernel_rfl) (by kernel_rfl) (by kernel_rfl) (fun _ _ _ h => h) (by kernel_rfl) (fun w' hw' => ?_) ?_
          rotate_left
          · go_simp; with_reducible rfl
          simp only [Act.put, List.setIfInBounds_toArray, List.set_cons_zero, List.set_cons_succ]
          refine wpR_take (i := 5) (v := ?_) (Upd.road (S2 b g2)) (some 35) rfl (by kernel_rfl) (by kernel_rfl) (by kernel_rfl) (by kernel_rfl) (by kernel_rfl) (fun _ _ _ h => h) (by kernel_rfl) (fun w' hw' => ?_) ?_
          rotate_left
          · obtain ⟨x0, x1, x2, -⟩ := hkeep.out w' hw'; go_simp; with_reducible rfl
          simp only [Act.put, List.setIfInBounds_toArray, List.set_cons_zero, List.set_cons_succ]
          refine wpR_take (i := 7) (v := ?_) (Upd.road (S2 b g2)) (some 37) rfl (by kernel_rfl) (by kernel_rfl) (by kernel_rfl) (by kernel_rfl) (by kernel_rfl) (fun _ _ _ h => h) (by kernel_rfl) (fun w' hw' => ?_) ?_
          rotate_left
          · go_simp; with_reducible rfl
          simp only [Act.put, List.setIfInBounds_toArray, List.set_cons_zero, List.set_cons_succ]
          refine wpR_take (i := 8) (v := ?_) (Upd.road (S2 b g2)) (some 38) rfl (by kernel_rfl) (by kernel_rfl) (by kernel_rfl) (by kernel_rfl) (by kernel_rfl) (fun _ _ _ h => h) (by kernel_rfl) (fun w' hw' => ?_) ?_
          rotate_left
          · go_simp; with_reducible rfl
          simp only [Act.put, List.setIfInBounds_toArray, List.set_cons_zero, List.set_cons_succ]
          refine wpR_take (i := 9) (v := ?_) (Upd.road (S2 b g2)) (some 39) rfl (by kernel_rfl) (by kernel_rfl) (by kernel_rfl) (by kernel_rfl) (by kernel_rfl) (fun _ _ _ h => h) (by kernel_rfl) (fun w' hw' => ?_) ?_
          rotate_left
          · obtain ⟨x0, x1, x2, -⟩ := hkeep.out w' hw'; go_simp; with_reducible rfl
          simp only [Act.put, List.setIfInBounds_toArray, List.set_cons_zero, List.set_cons_succ]
          refine wpR_one 6 rfl (by kernel_rfl) (by kernel_rfl) (fun K hK => ?_)
          go_simp
          refine htwo.out.mono ?_
          rintro e w6 ⟨rfl, hu6, hnext⟩
          refine hK _ _ (fun _ => hu6) ?_
          clear hK K
          replace hu6 := Lib.hid hu6
          replace hnext := Lib.hid hnext
          try simp only [Act.put, List.setIfInBounds_toArray, List.set_cons_zero, List.set_cons_succ]
          refine wpR_one 10 rfl (by kernel_rfl) (by kernel_rfl) (fun K hK => ?_)
          go_simp
          refine hnext.out.mono ?_
          rintro e w7 ⟨rfl, hu7a, hB7⟩
          refine hK _ _ (fun _ => hu7a) ?_
          clear hK K
          have hu7 := Lib.hid (hu6.out.trans hu7a)
          clear hnext htwo
          try simp only [Act.put, List.setIfInBounds_toArray, List.set_cons_zero, List.set_cons_succ]
          refine wpR_take (i := 11) (v := ?_) (Upd.road (S2 b g2)) (some 41) rfl (by kernel_rfl) (by kernel_rfl) (by kernel_rfl) (by kernel_rfl) (by kernel_rfl) (fun _ _ _ h => h) (by kernel_rfl) (fun w' hw' => ?_) ?_
          rotate_left
          · go_simp; with_reducible rfl
          simp only [Act.put, List.setIfInBounds_toArray, List.set_cons_zero, List.set_cons_succ]
          refine wpR_take (i := 12) (v := ?_) (Upd.road (S2 b g2)) (some 42) rfl (by kernel_rfl) (by kernel_rfl) (by kernel_rfl) (by kernel_rfl) (by kernel_rfl) (fun _ _ _ h => h) (by kernel_rfl) (fun w' hw' => ?_) ?_
          rotate_left
          · go_simp; with_reducible rfl
          simp only [Act.put, List.setIfInBounds_toArray, List.set_cons_zero, List.set_cons_succ]
          refine wpR_take (i := 13) (v := ?_) (Upd.road (S2 b g2)) (some 43) rfl (by kernel_rfl) (by kernel_rfl) (by kernel_rfl) (by kernel_rfl) (by kernel_rfl) (fun _ _ _ h => h) (by kernel_rfl) (fun w' hw' => ?_) ?_
          rotate_left
          · go_simp; with_reducible rfl
          simp only [Act.put, List.setIfInBounds_toArray, List.set_cons_zero, List.set_cons_succ]
          refine wpR_take (i := 14) (v := ?_) (Upd.road (S2 b g2)) (some 44) rfl (by kernel_rfl) (by kernel_rfl) (by kernel_rfl) (by kernel_rfl) (by kernel_rfl) (fun _ _ _ h => h) (by kernel_rfl) (fun w' hw' => ?_) ?_
          rotate_left
          · go_simp; with_reducible rfl
          simp only [Act.put, List.setIfInBounds_toArray, List.set_cons_zero, List.set_cons_succ]
          refine wpR_take (i := 15) (v := ?_) (Upd.road (S2 b g2)) (some 45) rfl (by kernel_rfl) (by kernel_rfl) (by kernel_rfl) (by kernel_rfl) (by kernel_rfl) (fun _ _ _ h => h) (by kernel_rfl) (fun w' hw' => ?_) ?_
          rotate_left
          · obtain ⟨x0, x1, x2, -⟩ := hkeep.out w' (hu7.out.trans hw'); go_simp; with_reducible rfl
          simp only [Act.put, List.setIfInBounds_toArray, List.set_cons_zero, List.set_cons_succ]
          refine wpR_take (i := 16) (v := ?_) (Upd.road (S2 b g2)) (some 46) rfl (by kernel_rfl) (by kernel_rfl) (by kernel_rfl) (by kernel_rfl) (by kernel_rfl) (fun _ _ _ h => h) (by kernel_rfl) (fun w' hw' => ?_) ?_
          rotate_left
          · go_simp; with_reducible rfl
          simp only [Act.put, List.setIfInBounds_toArray, List.set_cons_zero, List.set_cons_succ]
          refine wpR_take (i := 17) (v := ?_) (Upd.road (S2 b g2)) (some 47) rfl (by kernel_rfl) (by kernel_rfl) (by kernel_rfl) (by kernel_rfl) (by kernel_rfl) (fun _ _ _ h => h) (by kernel_rfl) (fun w' hw' => ?_) ?_
          rotate_left
          · go_simp; with_reducible rfl
          simp only [Act.put, List.setIfInBounds_toArray, List.set_cons_zero, List.set_cons_succ]
          refine wpR_skip (i := 18) (Upd.road (S2 b g2)) (some 48) rfl (by kernel_rfl) (by kernel_rfl) (by kernel_rfl) (by kernel_rfl) (by kernel_rfl) (fun _ _ _ h => h) (by kernel_rfl) ?_
          simp only [Act.put, List.setIfInBounds_toArray, List.set_cons_zero, List.set_cons_succ]
          refine wpR_skip (i := 19) (Upd.road (S2 b g2)) (some 49) rfl (by kernel_rfl) (by kernel_rfl) (by kernel_rfl) (by kernel_rfl) (by kernel_rfl) (fun _ _ _ h => h) (by kernel_rfl) ?_
          simp only [Act.put, List.setIfInBounds_toArray, List.set_cons_zero, List.set_cons_succ]
          refine wpR_skip (i := 20) (Upd.road (S2 b g2)) (some 50) rfl (by kernel_rfl) (by kernel_rfl) (by kernel_rfl) (by kernel_rfl) (by kernel_rfl) (fun _ _ _ h => h) (by kernel_rfl) ?_
          simp only [Act.put, List.setIfInBounds_toArray, List.set_cons_zero, List.set_cons_succ]
          refine wpR_skip (i := 21) (Upd.road (S2 b g2)) (some 51) rfl (by kernel_rfl) (by kernel_rfl) (by kernel_rfl) (by kernel_rfl) (by kernel_rfl) (fun _ _ _ h => h) (by kernel_rfl) ?_
          simp only [Act.put, List.setIfInBounds_toArray, List.set_cons_zero, List.set_cons_succ]
          refine wpR_skip (i := 22) (Upd.road (S2 b g2)) (some 52) rfl (by kernel_rfl) (by kernel_rfl) (by kernel_rfl) (by kernel_rfl) (by kernel_rfl) (fun _ _ _ h => h) (by kernel_rfl) ?_
          simp only [Act.put, List.setIfInBounds_toArray, List.set_cons_zero, List.set_cons_succ]
          refine wpR_skip (i := 23) (Upd.road (S2 b g2)) (some 53) rfl (by kernel_rfl) (by kernel_rfl) (by kernel_rfl) (by kernel_rfl) (by kernel_rfl) (fun _ _ _ h => h) (by kernel_rfl) ?_
          simp only [Act.put, List.setIfInBounds_toArray, List.set_cons_zero, List.set_cons_succ]
          refine wpR_skip (i := 24) (Upd.road (S2 b g2)) (some 54) rfl (by kernel_rfl) (by kernel_rfl) (by kernel_rfl) (by kernel_rfl) (by kernel_rfl) (fun _ _ _ h => h) (by kernel_rfl) ?_
          simp only [Act.put, List.setIfInBounds_toArray, List.set_cons_zero, List.set_cons_succ]
          refine wpR_skip (i := 25) (Upd.road (S2 b g2)) (some 55) rfl (by kernel_rfl) (by kernel_rfl) (by kernel_rfl) (by kernel_rfl) (by kernel_rfl) (fun _ _ _ h => h) (by kernel_rfl) ?_
          simp only [Act.put, List.setIfInBounds_toArray, List.set_cons_zero, List.set_cons_succ]
          refine wpR_skip (i := 26) (Upd.road (S2 b g2)) (some 56) rfl (by kernel_rfl) (by kernel_rfl) (by kernel_rfl) (by kernel_rfl) (by kernel_rfl) (fun _ _ _ h => h) (by kernel_rfl) ?_
          simp only [Act.put, List.setIfInBounds_toArray, List.set_cons_zero, List.set_cons_succ]
          refine wpR_skip (i := 27) (Upd.road (S2 b g2)) (some 57) rfl (by kernel_rfl) (by kernel_rfl) (by kernel_rfl) (by kernel_rfl) (by kernel_rfl) (fun _ _ _ h => h) (by kernel_rfl) ?_
          simp only [Act.put, List.setIfInBounds_toArray, List.set_cons_zero, List.set_cons_succ]
          refine wpR_skip (i := 28) (Upd.road (S2 b g2)) (some 58) rfl (by kernel_rfl) (by kernel_rfl) (by kernel_rfl) (by kernel_rfl) (by kernel_rfl) (fun _ _ _ h => h) (by kernel_rfl) ?_
          simp only [Act.put, List.setIfInBounds_toArray, List.set_cons_zero, List.set_cons_succ]
          refine wpR_skip (i := 29) (Upd.road (S2 b g2)) (some 59) rfl (by kernel_rfl) (by kernel_rfl) (by kernel_rfl) (by kernel_rfl) (by kernel_rfl) (fun _ _ _ h => h) (by kernel_rfl) ?_
          simp only [Act.put, List.setIfInBounds_toArray, List.set_cons_zero, List.set_cons_succ]
          refine wpR_skip (i := 30) (Upd.road (S2 b g2)) (some 60) rfl (by kernel_rfl) (by kernel_rfl) (by kernel_rfl) (by kernel_rfl) (by kernel_rfl) (fun _ _ _ h => h) (by kernel_rfl) ?_
          simp only [Act.put, List.setIfInBounds_toArray, List.set_cons_zero, List.set_cons_succ]
          refine wpR_take (i := 31) (v := ?_) (Upd.road (S2 b g2)) (some 61) rfl (by kernel_rfl) (by kernel_rfl) (by kernel_rfl) (by kernel_rfl) (by kernel_rfl) (fun _ _ _ h => h) (by kernel_rfl) (fun w' hw' => ?_) ?_
          rotate_left
          · go_simp; with_reducible rfl
          simp only [Act.put, List.setIfInBounds_toArray, List.set_cons_zero, List.set_cons_succ]
          refine wpR_take (i := 32) (v := ?_) (Upd.road (S2 b g2)) (some 62) rfl (by kernel_rfl) (by kernel_rfl) (by kernel_rfl) (by kernel_rfl) (by kernel_rfl) (fun _ _ _ h => h) (by kernel_rfl) (fun w' hw' => ?_) ?_
          rotate_left
          · go_simp; with_reducible rfl
          simp only [Act.put, List.setIfInBounds_toArray, List.set_cons_zero, List.set_cons_succ]
          refine wpR_done (by kernel_rfl) ?_ _
          have hg7 := (hkeep.out w7 hu7.out).2.2.2
          have hview := Lib.hid (both_view (LD L kq) 60 (by have := LD_len L kq; have := hLl.out; omega) hB7 (Nat.le_refl _))
          replace hg7 := Lib.hid hg7
          clear hkeep
          obtain ⟨hkm, hkr, htm, htr⟩ := hview.out
          replace hkm := Lib.hid (hkm w7 (GrM.refl _))
          go_wp2_with (first
            | (go_at_call 14; go_must (refine hkm.out.mono ?_); clear hkm; rintro e y1 ⟨u1, rfl, ht1, hy1⟩; replace hkr := Lib.hid (hkr y1 hy1))
            | (go_at_call 15; go_must (refine hkr.out.mono ?_); clear hkr; rintro e y2 ⟨u2, rfl, ht2, hy2⟩; have hsm := Lib.hid (same_self _ u1 u2 y2 (Txts.gr hy2 ht1) ht2 (by rw [keysL_len]; first | (have := LD_len L kq; have := hLl.out; omega) | (have := hl7.out; have := hLl.out; omega))); have hy12 := Lib.hid (GrM.trans hy1 hy2))
            | (go_at_call 13; go_must (refine hsm.out.mono ?_); clear hsm; rintro e y3 ⟨rfl, hy3⟩; have hy13 := Lib.hid (GrM.trans hy12.out hy3); replace htm := Lib.hid (htm y3 hy13.out))
            | (go_at_call 16; go_must (refine htm.out.mono ?_); clear htm; rintro e y4 ⟨rfl, hy4⟩; have hy14 := Lib.hid (GrM.trans hy13.out hy4); replace htr := Lib.hid (htr y4 hy14.out))
            | (go_at_call 17; go_must (refine htr.out.mono ?_); clear htr; rintro e y5 ⟨rfl, hy5⟩; have hy15 := Lib.hid (GrM.trans hy14.out hy5)))
          have hgy := Lib.hid (GrM.trans hg7.out hy15.out)
          have hBy := Both.gr hy15.out hB7
          go_roundw
          case rel => exact ⟨i + 1, _, _, by omega, by go_num, by omega, Lib.hid (by first | (have := LD_len L kq; have := hLl.out; omega) | (have := hl7.out; have := hLl.out; omega)), hBy, hgy⟩
          case measure => simp [intOf]; omega
        | false =>
          have hgwd := (hkeep.out wd (Upd.refl _ _)).2.2.2
          have htwo := Lib.hid (put_two lo g b n lo g2 L (by have := hLl.out; omega) kq lq hqk Aq mq cq hmq.out (by omega) wd (hlog.out _ hgwd) hBd (fun w' hu => hqr.out w' (hkeep.out w' hu).2.2.2))
          replace hgwd := Lib.hid hgwd
          refine wpR_region (Upd (S2 b g2)) 9999 (by kernel_rfl) ?_
          (rw [← hwd]; replace hwd := Lib.hid hwd)
          refine wpR_take (i := 0) (v := ?_) (Upd.road (S2 b g2)) (some 30) rfl (by kernel_rfl) (by kernel_rfl) (by kernel_rfl) (by kernel_rfl) (by kernel_rfl) (fun _ _ _ h => h) (by kernel_rfl) (fun w' hw' => ?_) ?_
          rotate_left
          · go_simp; with_reducible rfl
          simp only [Act.put, List.setIfInBounds_toArray, List.set_cons_zero, List.set_cons_succ]
          refine wpR_take (i := 1) (v := ?_) (Upd.road (S2 b g2)) (some 31) rfl (by kernel_rfl) (by kernel_rfl) (by kernel_rfl) (by kernel_rfl) (by kernel_rfl) (fun _ _ _ h => h) (by kernel_rfl) (fun w' hw' => ?_) ?_
          rotate_left
          · obtain ⟨x0, x1, x2, -⟩ := hkeep.out w' hw'; go_simp; with_reducible rfl
          simp only [Act.put, List.setIfInBounds_toArray, List.set_cons_zero, List.set_cons_succ]
          refine wpR_take (i := 2) (v := ?_) (Upd.road (S2 b g2)) (some 32) rfl (by kernel_rfl) (by kernel_rfl) (by kernel_rfl) (by kernel_rfl) (by kernel_rfl) (fun _ _ _ h => h) (by kernel_rfl) (fun w' hw' => ?_) ?_
          rotate_left
          · go_simp; with_reducible rfl
          simp only [Act.put, List.setIfInBounds_toArray, List.set_cons_zero, List.set_cons_succ]
          refine wpR_skip (i := 3) (Upd.road (S2 b g2)) (some 33) rfl (by kernel_rfl) (by kernel_rfl) (by kernel_rfl) (by kernel_rfl) (by kernel_rfl) (fun _ _ _ h => h) (by kernel_rfl) ?_
          simp only [Act.put, List.setIfInBounds_toArray, List.set_cons_zero, List.set_cons_succ]
          refine wpR_skip (i := 4) (Upd.road (S2 b g2)) (some 34) rfl (by kernel_rfl) (by kernel_rfl) (by kernel_rfl) (by kernel_rfl) (by kernel_rfl) (fun _ _ _ h => h) (by kernel_rfl) ?_
          simp only [Act.put, List.setIfInBounds_toArray, List.set_cons_zero, List.set_cons_succ]
          refine wpR_skip (i := 5) (Upd.road (S2 b g2)) (some 35) rfl (by kernel_rfl) (by kernel_rfl) (by kernel_rfl) (by kernel_rfl) (by kernel_rfl) (fun _ _ _ h => h) (by kernel_rfl) ?_
          simp only [Act.put, List.setIfInBounds_toArray, List.set_cons_zero, List.set_cons_succ]
          refine wpR_skip (i := 6) (Upd.road (S2 b g2)) (some 36) rfl (by kernel_rfl) (by kernel_rfl) (by kernel_rfl) (by kernel_rfl) (by kernel_rfl) (fun _ _ _ h => h) (by kernel_rfl) ?_
          simp only [Act.put, List.setIfInBounds_toArray, List.set_cons_zero, List.set_cons_succ]
          refine wpR_skip (i := 7) (Upd.road (S2 b g2)) (some 37) rfl (by kernel_rfl) (by kernel_rfl) (by kernel_rfl) (by kernel_rfl) (by kernel_rfl) (fun _ _ _ h => h) (by kernel_rfl) ?_
          simp only [Act.put, List.setIfInBounds_toArray, List.set_cons_zero, List.set_cons_succ]
          refine wpR_skip (i := 8) (Upd.road (S2 b g2)) (some 38) rfl (by kernel_rfl) (by kernel_rfl) (by kernel_rfl) (by kernel_rfl) (by kernel_rfl) (fun _ _ _ h => h) (by kernel_rfl) ?_
          simp only [Act.put, List.setIfInBounds_toArray, List.set_cons_zero, List.set_cons_succ]
          refine wpR_skip (i := 9) (Upd.road (S2 b g2)) (some 39) rfl (by kernel_rfl) (by kernel_rfl) (by kernel_rfl) (by kernel_rfl) (by kernel_rfl) (fun _ _ _ h => h) (by kernel_rfl) ?_
          simp only [Act.put, List.setIfInBounds_toArray, List.set_cons_zero, List.set_cons_succ]
          refine wpR_skip (i := 10) (Upd.road (S2 b g2)) (some 40) rfl (by kernel_rfl) (by kernel_rfl) (by kernel_rfl) (by kernel_rfl) (by kernel_rfl) (fun _ _ _ h => h) (by kernel_rfl) ?_
          simp only [Act.put, List.setIfInBounds_toArray, List.set_cons_zero, List.set_cons_succ]
          refine wpR_skip (i := 11) (Upd.road (S2 b g2)) (some 41) rfl (by kernel_rfl) (by kernel_rfl) (by kernel_rfl) (by kernel_rfl) (by kernel_rfl) (fun _ _ _ h => h) (by kernel_rfl) ?_
          simp only [Act.put, List.setIfInBounds_toArray, List.set_cons_zero, List.set_cons_succ]
          refine wpR_take (i := 12) (v := ?_) (Upd.road (S2 b g2)) (some 42) rfl (by kernel_rfl) (by kernel_rfl) (by kernel_rfl) (by kernel_rfl) (by kernel_rfl) (fun _ _ _ h => h) (by kernel_rfl) (fun w' hw' => ?_) ?_
          rotate_left
          · go_simp; with_reducible rfl
          simp only [Act.put, List.setIfInBounds_toArray, List.set_cons_zero, List.set_cons_succ]
          refine wpR_take (i := 13) (v := ?_) (Upd.road (S2 b g2)) (some 43) rfl (by kernel_rfl) (by kernel_rfl) (by kernel_rfl) (by kernel_rfl) (by kernel_rfl) (fun _ _ _ h => h) (by kernel_rfl) (fun w' hw' => ?_) ?_
          rotate_left
          · go_simp; with_reducible rfl
          simp only [Act.put, List.setIfInBounds_toArray, List.set_cons_zero, List.set_cons_succ]
          refine wpR_take (i := 14) (v := ?_) (Upd.road (S2 b g2)) (some 44) rfl (by kernel_rfl) (by kernel_rfl) (by kernel_rfl) (by kernel_rfl) (by kernel_rfl) (fun _ _ _ h => h) (by kernel_rfl) (fun w' hw' => ?_) ?_
          rotate_left
          · go_simp; with_reducible rfl
          simp only [Act.put, List.setIfInBounds_toArray, List.set_cons_zero, List.set_cons_succ]
          refine wpR_take (i := 15) (v := ?_) (Upd.road (S2 b g2)) (some 45) rfl (by kernel_rfl) (by kernel_rfl) (by kernel_rfl) (by kernel_rfl) (by kernel_rfl) (fun _ _ _ h => h) (by kernel_rfl) (fun w' hw' => ?_) ?_
          rotate_left
          · obtain ⟨x0, x1, x2, -⟩ := hkeep.out w' hw'; go_simp; with_reducible rfl
          simp only [Act.put, List.setIfInBounds_toArray, List.set_cons_zero, List.set_cons_succ]
          refine wpR_take (i := 16) (v := ?_) (Upd.road (S2 b g2)) (some 46) rfl (by kernel_rfl) (by kernel_rfl) (by kernel_rfl) (by kernel_rfl) (by kernel_rfl) (fun _ _ _ h => h) (by kernel_rfl) (fun w' hw' => ?_) ?_
          rotate_left
          · go_simp; with_reducible rfl
          simp only [Act.put, List.setIfInBounds_toArray, List.set_cons_zero, List.set_cons_succ]
          refine wpR_take (i := 17) (v := ?_) (Upd.road (S2 b g2)) (some 47) rfl (by kernel_rfl) (by kernel_rfl) (by kernel_rfl) (by kernel_rfl) (by kernel_rfl) (fun _ _ _ h => h) (by kernel_rfl) (fun w' hw' => ?_) ?_
          rotate_left
          · go_simp; with_reducible rfl
          simp only [Act.put, List.setIfInBounds_toArray, List.set_cons_zero, List.set_cons_succ]
          refine wpR_take (i := 18) (v := ?_) (Upd.road (S2 b g2)) (some 48) rfl (by kernel_rfl) (by kernel_rfl) (by kernel_rfl) (by kernel_rfl) (by kernel_rfl) (fun _ _ _ h => h) (by kernel_rfl) (fun w' hw' => ?_) ?_
          rotate_left
          · go_simp; with_reducible rfl
          simp only [Act.put, List.setIfInBounds_toArray, List.set_cons_zero, List.set_cons_succ]
          refine wpR_take (i := 19) (v := ?_) (Upd.road (S2 b g2)) (some 49) rfl (by kernel_rfl) (by kernel_rfl) (by kernel_rfl) (by kernel_rfl) (by kernel_rfl) (fun _ _ _ h => h) (by kernel_rfl) (fun w' hw' => ?_) ?_
          rotate_left
          · go_simp; with_reducible rfl
          simp only [Act.put, List.setIfInBounds_toArray, List.set_cons_zero, List.set_cons_succ]
          refine wpR_take (i := 20) (v := ?_) (Upd.road (S2 b g2)) (some 50) rfl (by kernel_rfl) (by kernel_rfl) (by kernel_rfl) (by kernel_rfl) (by kernel_rfl) (fun _ _ _ h => h) (by kernel_rfl) (fun w' hw' => ?_) ?_
          rotate_left
          · obtain ⟨x0, x1, x2, -⟩ := hkeep.out w' hw'; go_simp; with_reducible rfl
          simp only [Act.put, List.setIfInBounds_toArray, List.set_cons_zero, List.set_cons_succ]
          refine wpR_take (i := 21) (v := ?_) (Upd.road (S2 b g2)) (some 51) rfl (by kernel_rfl) (by kernel_rfl) (by kernel_rfl) (by kernel_rfl) (by kernel_rfl) (fun _ _ _ h => h) (by kernel_rfl) (fun w' hw' => ?_) ?_
          rotate_left
          · go_simp; with_reducible rfl
          simp only [Act.put, List.setIfInBounds_toArray, List.set_cons_zero, List.set_cons_succ]
          refine wpR_take (i := 22) (v := ?_) (Upd.road (S2 b g2)) (some 52) rfl (by kernel_rfl) (by kernel_rfl) (by kernel_rfl) (by kernel_rfl) (by kernel_rfl) (fun _ _ _ h => h) (by kernel_rfl) (fun w' hw' => ?_) ?_
          rotate_left
          · obtain ⟨x0, x1, x2, -⟩ := hkeep.out w' hw'; go_simp; with_reducible rfl
          simp only [Act.put, List.setIfInBounds_toArray, List.set_cons_zero, List.set_cons_succ]
          refine wpR_take (i := 24) (v := ?_) (Upd.road (S2 b g2)) (some 54) rfl (by kernel_rfl) (by kernel_rfl) (by kernel_rfl) (by kernel_rfl) (by kernel_rfl) (fun _ _ _ h => h) (by kernel_rfl) (fun w' hw' => ?_) ?_
          rotate_left
          · go_simp; with_reducible rfl
          simp only [Act.put, List.setIfInBounds_toArray, List.set_cons_zero, List.set_cons_succ]
          refine wpR_take (i := 25) (v := ?_) (Upd.road (S2 b g2)) (some 55) rfl (by kernel_rfl) (by kernel_rfl) (by kernel_rfl) (by kernel_rfl) (by kernel_rfl) (fun _ _ _ h => h) (by kernel_rfl) (fun w' hw' => ?_) ?_
          rotate_left
          · go_simp; with_reducible rfl
          simp only [Act.put, List.setIfInBounds_toArray, List.set_cons_zero, List.set_cons_succ]
          refine wpR_take (i := 26) (v := ?_) (Upd.road (S2 b g2)) (some 56) rfl (by kernel_rfl) (by kernel_rfl) (by kernel_rfl) (by kernel_rfl) (by kernel_rfl) (fun _ _ _ h => h) (by kernel_rfl) (fun w' hw' => ?_) ?_
          rotate_left
          · obtain ⟨x0, x1, x2, -⟩ := hkeep.out w' hw'; go_simp; with_reducible rfl
          simp only [Act.put, List.setIfInBounds_toArray, List.set_cons_zero, List.set_cons_succ]
          refine wpR_take (i := 27) (v := ?_) (Upd.road (S2 b g2)) (some 57) rfl (by kernel_rfl) (by kernel_rfl) (by kernel_rfl) (by kernel_rfl) (by kernel_rfl) (fun _ _ _ h => h) (by kernel_rfl) (fun w' hw' => ?_) ?_
          rotate_left
          · go_simp; with_reducible rfl
          simp only [Act.put, List.setIfInBounds_toArray, List.set_cons_zero, List.set_cons_succ]
          refine wpR_take (i := 28) (v := ?_) (Upd.road (S2 b g2)) (some 58) rfl (by kernel_rfl) (by kernel_rfl) (by kernel_rfl) (by kernel_rfl) (by kernel_rfl) (fun _ _ _ h => h) (by kernel_rfl) (fun w' hw' => ?_) ?_
          rotate_left
          · obtain ⟨x0, x1, x2, -⟩ := hkeep.out w' hw'; go_simp; with_reducible rfl
          simp only [Act.put, List.setIfInBounds_toArray, List.set_cons_zero, List.set_cons_succ]
          refine wpR_one 23 rfl (by kernel_rfl) (by kernel_rfl) (fun K hK => ?_)
          go_simp
          refine htwo.out.mono ?_
          rintro e w6 ⟨rfl, hu6, hnext⟩
          refine hK _ _ (fun _ => hu6) ?_
          clear hK K
          replace hu6 := Lib.hid hu6
          replace hnext := Lib.hid hnext
          try simp only [Act.put, List.setIfInBounds_toArray, List.set_cons_zero, List.set_cons_succ]
          refine wpR_one 29 rfl (by kernel_rfl) (by kernel_rfl) (fun K hK => ?_)
          go_simp
          refine hnext.out.mono ?_
          rintro e w7 ⟨rfl, hu7a, L7, hl7, hB7⟩
          refine hK _ _ (fun _ => hu7a) ?_
          clear hK K
          have hu7 := Lib.hid (hu6.out.trans hu7a)
          replace hl7 := Lib.hid hl7
          clear hnext htwo
          try simp only [Act.put, List.setIfInBounds_toArray, List.set_cons_zero, List.set_cons_succ]
          refine wpR_take (i := 30) (v := ?_) (Upd.road (S2 b g2)) (some 60) rfl (by kernel_rfl) (by kernel_rfl) (by kernel_rfl) (by kernel_rfl) (by kernel_rfl) (fun _ _ _ h => h) (by kernel_rfl) (fun w' hw' => ?_) ?_
          rotate_left
          · go_simp; with_reducible rfl
          simp only [Act.put, List.setIfInBounds_toArray, List.set_cons_zero, List.set_cons_succ]
          refine wpR_take (i := 31) (v := ?_) (Upd.road (S2 b g2)) (some 61) rfl (by kernel_rfl) (by kernel_rfl) (by kernel_rfl) (by kernel_rfl) (by kernel_rfl) (fun _ _ _ h => h) (by kernel_rfl) (fun w' hw' => ?_) ?_
          rotate_left
          · go_simp; with_reducible rfl
          simp only [Act.put, List.setIfInBounds_toArray, List.set_cons_zero, List.set_cons_succ]
          refine wpR_take (i := 32) (v := ?_) (Upd.road (S2 b g2)) (some 62) rfl (by kernel_rfl) (by kernel_rfl) (by kernel_rfl) (by kernel_rfl) (by kernel_rfl) (fun _ _ _ h => h) (by kernel_rfl) (fun w' hw' => ?_) ?_
          rotate_left
          · go_simp; with_reducible rfl
          simp only [Act.put, List.setIfInBounds_toArray, List.set_cons_zero, List.set_cons_succ]
          refine wpR_done (by kernel_rfl) ?_ _
          have hg7 := (hkeep.out w7 hu7.out).2.2.2
          have hview := Lib.hid (both_view L7 60 (by have := hl7.out; have := hLl.out; omega) hB7 (Nat.le_refl _))
          replace hg7 := Lib.hid hg7
          clear hkeep
          obtain ⟨hkm, hkr, htm, htr⟩ := hview.out
          replace hkm := Lib.hid (hkm w7 (GrM.refl _))
          go_wp2_with (first
            | (go_at_call 14; go_must (refine hkm.out.mono ?_); clear hkm; rintro e y1 ⟨u1, rfl, ht1, hy1⟩; replace hkr := Lib.hid (hkr y1 hy1))
            | (go_at_call 15; go_must (refine hkr.out.mono ?_); clear hkr; rintro e y2 ⟨u2, rfl, ht2, hy2⟩; have hsm := Lib.hid (same_self _ u1 u2 y2 (Txts.gr hy2 ht1) ht2 (by rw [keysL_len]; first | (have := LD_len L kq; have := hLl.out; omega) | (have := hl7.out; have := hLl.out; omega))); have hy12 := Lib.hid (GrM.trans hy1 hy2))
            | (go_at_call 13; go_must (refine hsm.out.mono ?_); clear hsm; rintro e y3 ⟨rfl, hy3⟩; have hy13 := Lib.hid (GrM.trans hy12.out hy3); replace htm := Lib.hid (htm y3 hy13.out))
            | (go_at_call 16; go_must (refine htm.out.mono ?_); clear htm; rintro e y4 ⟨rfl, hy4⟩; have hy14 := Lib.hid (GrM.trans hy13.out hy4); replace htr := Lib.hid (htr y4 hy14.out))
            | (go_at_call 17; go_must (refine htr.out.mono ?_); clear htr; rintro e y5 ⟨rfl, hy5⟩; have hy15 := Lib.hid (GrM.trans hy14.out hy5)))
          have hgy := Lib.hid (GrM.trans hg7.out hy15.out)
          have hBy := Both.gr hy15.out hB7
          go_roundw
          case rel => exact ⟨i + 1, _, _, by omega, by go_num, by omega, Lib.hid (by first | (have := LD_len L kq; have := hLl.out; omega) | (have := hl7.out; have := hLl.out; omega)), hBy, hgy⟩
          case measure => simp [intOf]; omega
      | false =>
        replace hd0 := Lib.hid hd0
        obtain ⟨-, vr, hrm⟩ := hB.out
        have hga := Lib.hid (get22_gr lo g b n L key hkey wr hm)
        have hgb : Hid (∀ x, GrM wr x → Calls Try.prog 19 #[.pointer (some ⟨g2, 0, none⟩), .string (bs key)] x fun e w' => e = .returned (.tuple #[.string (bs (dataOf L key)), .bool (hasK L key)]) ∧ GrM x w') := Lib.hid (fun x hg => by
          have := rget_any lo g2 vr (pairsL L) (rise_pairs hm.out.dist) (by rw [pairsL_len]; have := hLl.out; omega) key x (Rm.gr hg hrm)
          rw [dataR_pairs hm.out.dist, any_pairs] at this; exact this)
        obtain ⟨da, hda⟩ : ∃ da, dataOf L key = da := ⟨_, rfl⟩
        obtain ⟨hh, hhh⟩ : ∃ hh, hasK L key = hh := ⟨_, rfl⟩
        obtain ⟨na, hna⟩ : ∃ na, da.length = na := ⟨_, rfl⟩
        rw [hda, hhh] at hga hgb
        rw [hna] at hga
        replace hna := Lib.hid hna
        have i1 : (hh == hh) = true := by cases hh <;> rfl
        go_upto_region 11 with (go_at_call 18; go_must (refine hga.out.mono ?_); rintro e x1 ⟨A8, c8, rfl, hr8, hg8⟩)
        replace hgb := Lib.hid (hgb.out x1 hg8)
        go_upto_region 12 with (go_at_call 19; go_must (refine hgb.out.mono ?_); rintro e x2 ⟨rfl, hg9⟩)
        have haw := Lib.hid (awake22_any x2)
        have hr9 := Lib.hid ((hr8.below hg9).more (RowKit.Below.size hg9))
        have hgx2 := Lib.hid (GrM.trans hgr.out (GrM.trans hg8 hg9))
        clear hga hgb hr8 hg8 hg9
        go_wp2_with (go_at_call 20; go_must (refine haw.out.mono ?_); rintro e x3 ⟨rfl, hg10⟩; have hcz := run_str_at (n := na) c8 (hr9.out.below hg10) hna.out; replace hg10 := Lib.hid hg10)
        go_ret
        exact ⟨rfl, GrM.trans hgx2.out hg10.out⟩
end Go.Proofs.Ytipdjchgdhfciaa
