/- model: ModelTrue. -/
import Derived.Test.YtipdjchgdhfciaaMd7
import Derived.Laws.Cover1
namespace Go.Proofs.Ytipdjchgdhfciaa
set_option linter.unusedVariables false
set_option linter.unusedSimpArgs false
open Go Go.RowKit Go.Maps Go.Sort
theorem i64_wrap_id' {m : Int} (h1 : -9223372036854775808 ≤ m) (h2 : m ≤ 9223372036854775807) : IntKind.i64.wrap m = m := by
  rw [IntKind.wrap_i64]; omega
set_option maxHeartbeats 8000000 in
set_option maxRecDepth 10000 in
theorem modelTrue_any (Q : List ActM) (v : Value) (w : World) (hv : Hid (ActsM Q v w)) :
    Calls Try.prog 4 #[v] w fun e w' => e = .returned (.bool true) ∧ GrM w w' := by
  obtain ⟨Av, cv, rfl, -, -, -, -⟩ := hv.out
  obtain ⟨nq, hnq⟩ : ∃ nq, Q.length = nq := ⟨_, rfl⟩
  rw [hnq] at hv ⊢
  replace hnq := Lib.hid hnq
  obtain ⟨lo, hlo⟩ : ∃ lo, w.heap.size = lo := ⟨_, rfl⟩
  have hnew := Lib.hid (new22_any w)
  rw [hlo] at hnew
  have hlog : Hid (∀ x, GrM w x → lo ≤ x.heap.size) := Lib.hid (fun x h => by rw [← hlo]; exact h.size)
  have hlob : Hid (∀ x y, GrM w x → ∀ b, lo ≤ b → Upd (· = b) x y → GrM w y) := Lib.hid (fun x y h b hb hu => Upd.to_below h hu h.size (fun k hk => by rw [hk, hlo]; exact hb))
  replace hlo := Lib.hid hlo
  go_enter Try.func4, Try.ntmps4
  go_upto_region 2 with (go_at_call 8; go_must (refine hnew.out.mono ?_); rintro e w1 ⟨g, b, rfl, hm1, hg1⟩)
  have hbl := hm1.out.bl
  have hg1' : Hid (GrM w w1) := Lib.hid hg1
  clear hnew hg1
  go_wp2_with fail
  go_loopw [4] (fun z wr => ∃ (i n : Nat) (L : List En), i ≤ 40 ∧ z = .int .i64 i ∧ n ≤ i ∧ Hid (L.length ≤ i) ∧ Hid (Md wr lo g b n L) ∧ Hid (GrM w wr)) (fun z _ => (40 - intOf z).toNat)
  case atStart => exact ⟨0, 0, [], Nat.zero_le _, rfl, Nat.le_refl _, Lib.hid (Nat.le_refl _), hm1, hg1'⟩
  case round =>
    obtain ⟨i, n, L, hi40, rfl, hni, hLl, hm, hgr⟩ := hrel
    clear hm1 hg1'
    obtain ⟨d0, hd0⟩ : ∃ d0, d0 = (decide (i < nq) && decide (i < 40)) := ⟨_, rfl⟩
    go_upto_region 3 with (fail)
    go_cut [26] (fun z wq => z = .bool d0 ∧ wr = wq)
    case first =>
      by_cases p1 : i < nq
      · have ip1 : (i : Int) < (nq : Int) := by omega
        by_cases p2 : i < 40
        · have ip2 : (i : Int) < 40 := by omega
          rw [decide_eq_true p1, decide_eq_true p2] at hd0
          subst hd0
          go_wp2_with fail
          go_meet
          exact ⟨by first | rfl | simp [*], rfl⟩
        · have ip2 : decide ((i : Int) < 40) = false := decide_eq_false (by omega)
          rw [decide_eq_true p1, decide_eq_false p2] at hd0
          subst hd0
          clear p2
          go_wp2_with fail
          go_meet
          exact ⟨by first | rfl | simp [*], rfl⟩
      · have ip1 : decide ((i : Int) < (nq : Int)) = false := decide_eq_false (by omega)
        have ip1n : decide (i < nq) = false := decide_eq_false p1
        rw [decide_eq_false p1, Bool.false_and] at hd0
        subst hd0
        clear p1
        go_wp2_with fail
        go_meet
        exact ⟨by first | rfl | simp [*], rfl⟩
    case rest =>
      obtain ⟨rfl, rfl⟩ := hcut
      cases d0 with
      | true =>
        have hkk : i < nq ∧ i < 40 := by
          have := hd0.symm
          simp only [Bool.and_eq_true, decide_eq_true_eq] at this
          exact this
        obtain ⟨p1, p2⟩ := hkk
        replace hd0 := Lib.hid hd0
        have ik : (i : Int) < (nq : Int) := by omega
        obtain ⟨A', c', e', -, -, h3, h4⟩ := (ActsM.gr hgr.out hv).out
        rw [hnq.out] at e' h3
        injection e' with e1 _ e2
        subst e1 e2
        obtain ⟨ba, oa, rfl, hba, hca⟩ := h3 (by omega)
        obtain ⟨q, hq⟩ : ∃ q, Q[i]? = some q := ⟨_, List.getElem?_eq_getElem (by rw [hnq.out]; exact p1)⟩
        obtain ⟨c0, c1, c2⟩ := hca i q hq
        obtain ⟨hqk, hqc, -⟩ := h4 q (List.mem_of_getElem? hq)
        have hqr : Hid (∀ w', GrM w w' → Rd w' w'.heap.size q.A q.l) := Lib.hid (fun w' hg' => by
          obtain ⟨_, _, _, _, _, _, h9⟩ := (ActsM.gr hg' hv).out
          exact (h9 q (List.mem_of_getElem? hq)).2.2)
        obtain ⟨gq, kq, Aq, cq, lq⟩ := q
        simp only at c0 c1 c2 hqk hqc hqr
        obtain ⟨mq, hmq⟩ : ∃ mq, lq.length = mq := ⟨_, rfl⟩
        rw [hmq] at c2 hqc
        obtain ⟨gx, hgx⟩ : ∃ gx, wr.heap.size = gx := ⟨_, rfl⟩
        obtain ⟨W, hW⟩ : ∃ W, W = wr.alloc (.cells #[.bool gq, .string (bs kq), .slice Aq mq cq] 31) := ⟨_, rfl⟩
        have hgW : GrM wr W := by rw [hW]; exact GrM.alloc _ _
        have hmW := Md.below hgW hm
        have hbx : W.heap[gx]? = some (.cells #[.bool gq, .string (bs kq), .slice Aq mq cq] 31 (0, 0)) := by rw [hW, ← hgx]; exact heap_alloc_new _ _
        have hgb : gx ≠ b := by have := hm.out.lt.2; omega
        have hgwW : Hid (GrM w W) := Lib.hid (GrM.trans hgr.out hgW)
        have hkeep : Hid (∀ w', Upd (· = b) W w' → w'.cell? ⟨gx, 0, none⟩ = some (.bool gq) ∧ w'.cell? ⟨gx, 1, none⟩ = some (.string (bs kq)) ∧ w'.cell? ⟨gx, 2, none⟩ = some (.slice Aq mq cq) ∧ GrM w w') := Lib.hid (fun w' hu => by
          have hb' : w'.heap[gx]? = _ := (hu.2.2.2.2 gx (blk_lt hbx) hgb).trans hbx
          exact ⟨blk_cell (j := 0) (v := .bool gq) hb' rfl, blk_cell (j := 1) (v := .string (bs kq)) hb' rfl, blk_cell (j := 2) (v := .slice Aq mq cq) hb' rfl, hlob.out _ _ hgwW.out b hbl hu⟩)
        have hu0 : Hid (Upd (· = b) W W) := Lib.hid (Upd.refl _ _)
        replace hgx := Lib.hid hgx
        replace hmq := Lib.hid hmq
        replace hq := Lib.hid hq
        have hW' := Lib.hid hW.symm
        have hgxs := hgx.out
        clear h3 h4 hca hba hgW hm hgr hbx
        go_upto_region 6 with (fail)
        rw [hW'.out]
        replace hW := Lib.hid hW
        clear hgxs c0 c1 c2
        obtain ⟨x0, x1, x2, -⟩ := hkeep.out W hu0.out
        have hget1 := Lib.hid (get22_all lo g b n L kq hqk W hmW)
        obtain ⟨hh, hhh⟩ : ∃ hh, hasK L kq = hh := ⟨_, rfl⟩
        obtain ⟨dw, hdw⟩ : ∃ dw, dataOf L kq = dw := ⟨_, rfl⟩
        rw [hhh, hdw] at hget1
        obtain ⟨md, hmd⟩ : ∃ md, dw.length = md := ⟨_, rfl⟩
        rw [hmd] at hget1
        replace hhh := Lib.hid hhh
        replace hdw := Lib.hid hdw
        replace hmd := Lib.hid hmd
        go_upto_region 7 with (go_at_call 18; go_must (refine hget1.out.mono ?_); rintro e w5 ⟨A5, c5, rfl, hby, hm5, hu5⟩)
        replace hu5 := Lib.hid hu5
        clear x0 x1 x2 hget1 hmW
        obtain ⟨x0, x1, x2, -⟩ := hkeep.out w5 hu5.out
        cases gq with
        | true =>
          have hdel := Lib.hid (del22_all lo g b n L kq hqk w5 hm5)
          rw [hhh.out] at hdel
          go_upto_region 9 with (go_at_call 9; go_must (refine hdel.out.mono ?_); rintro e w6 ⟨z, L6, rfl, hz, hh6, hl6, hm6, hu6⟩)
          have hu6' := Lib.hid (hu5.out.trans hu6)
          clear x0 x1 x2 hdel
          obtain ⟨x0, x1, x2, -⟩ := hkeep.out w6 hu6'.out
          have hget2 := Lib.hid (get22_all lo g b n L6 kq hqk w6 hm6)
          rw [hh6, dataOf_no hh6] at hget2
          replace hh6 := Lib.hid hh6
          go_upto_region 10 with (go_at_call 18; go_must (refine hget2.out.mono ?_); rintro e w7 ⟨A7, c7, rfl, -, hm7, hu7⟩)
          have hu7' := Lib.hid (hu6'.out.trans hu7)
          clear x0 x1 x2 hget2
          obtain ⟨-, -, -, hg7⟩ := hkeep.out w7 hu7'.out
          replace hg7 := Lib.hid hg7
          have hL7 : Hid (L6.length ≤ i + 1) := Lib.hid (by have := hLl.out; omega)
          have i1 : (hh != hh) = false := by cases hh <;> rfl
          go_wp2_with fail
          go_roundw
          case rel => exact ⟨i + 1, n, L6, by omega, by go_num, by omega, hL7, hm7, hg7⟩
          case measure => simp [intOf]; omega
        | false =>
          have hrq := hqr.out w5 (hlob.out _ _ hgwW.out b hbl hu5.out)
          have hput := Lib.hid (put22_all lo g b n L kq lq Aq mq cq hqk hmq.out (by omega) w5 (hlog.out _ (hlob.out _ _ hgwW.out b hbl hu5.out)) hm5 hrq)
          obtain ⟨z, hz⟩ : ∃ z, putE L kq lq = z := ⟨_, rfl⟩
          rw [hz] at hput
          clear hrq
          go_upto_region 13 with (go_at_call 11; go_must (refine hput.out.mono ?_); rintro e w6 ⟨L6, rfl, hm6, hu6, hl6, hway⟩)
          have hu6' := Lib.hid (hu5.out.trans hu6)
          have hby6 := Byt.upd hu6 hby
          clear x0 x1 x2 hput hby
          obtain ⟨x0, x1, x2, -⟩ := hkeep.out w6 hu6'.out
          have hget2 := Lib.hid (get22_all lo g b (n + 1) L6 kq hqk w6 hm6)
          have hL7 : Hid (L6.length ≤ i + 1) := Lib.hid (by have := hLl.out; omega)
          replace hz := Lib.hid hz
          rcases hway with ⟨rfl, hno, hyes, hdd⟩ | ⟨hz0, rfl⟩
          · rw [hyes, hdd, hmq.out] at hget2
            have hhf : hh = false := by rw [← hhh.out]; exact hno
            subst hhf
            replace hno := Lib.hid hno
            replace hyes := Lib.hid hyes
            replace hdd := Lib.hid hdd
            go_upto_region 14 with (go_at_call 18; go_must (refine hget2.out.mono ?_); rintro e w7 ⟨A7, c7, rfl, hby7, hm7, hu7⟩)
            have hu7' := Lib.hid (hu6'.out.trans hu7)
            clear x0 x1 x2 hget2
            obtain ⟨x0, x1, x2, hg7⟩ := hkeep.out w7 hu7'.out
            have s1 := Byt.str hby7 mq c7 hmq.out
            have s2 := run_str_at (n := mq) cq (hqr.out w7 hg7) hmq.out
            replace hg7 := Lib.hid hg7
            go_wp2_with fail
            go_roundw
            case rel => exact ⟨i + 1, n + 1, L6, by omega, by go_num, by omega, hL7, hm7, hg7⟩
            case measure => simp [intOf]; omega
          · rw [hhh.out, hdw.out, hmd.out] at hget2
            have hz1 : (z == 0) = false := by simpa using hz0
            have hz2 : (z != 0) = true := by simpa using hz0
            have i1 : (hh != hh) = false := by cases hh <;> rfl
            replace hz0 := Lib.hid hz0
            go_upto_region 14 with (go_at_call 18; go_must (refine hget2.out.mono ?_); rintro e w7 ⟨A7, c7, rfl, hby7, hm7, hu7⟩)
            have hu7' := Lib.hid (hu6'.out.trans hu7)
            clear x0 x1 x2 hget2
            obtain ⟨x0, x1, x2, hg7⟩ := hkeep.out w7 hu7'.out
            have s1 := Byt.str hby7 md c7 hmd.out
            have s2 := Byt.str (Byt.upd hu7 hby6) md c5 hmd.out
            replace hg7 := Lib.hid hg7
            go_wp2_with fail
            go_roundw
            case rel => exact ⟨i + 1, n + 1, _, by omega, by go_num, by omega, hL7, hm7, hg7⟩
            case measure => simp [intOf]; omega
      | false =>
        replace hd0 := Lib.hid hd0
        have hkeys := Lib.hid (keys22_any lo g b n L (by have := hLl.out; omega) wr hm)
        obtain ⟨N, hN⟩ : ∃ N, L.length = N := ⟨_, rfl⟩
        have hKl : Hid ((keysL L).length = N) := Lib.hid (by rw [keysL_len, hN])
        have hN40 : N ≤ 40 := by rw [← hN]; have := hLl.out; omega
        rw [hN] at hkeys
        replace hN := Lib.hid hN
        go_upto_region 17 with (go_at_call 14; go_must (refine hkeys.out.mono ?_); rintro e w2 ⟨v14, rfl, hrow, hg2⟩; obtain ⟨A14, c14, rfl, hn14, hm14⟩ := row_form hrow)
        have hm2 := Md.below hg2 hm
        have hgw2 := Lib.hid (GrM.trans hgr.out hg2)
        replace hrow := Lib.hid hrow
        clear hkeys hm hgr hg2
        go_wp2_with fail
        go_loopw [15] (fun z wq => ∃ j : Nat, j ≤ N ∧ z = .int .i64 j ∧ Hid (GrM w2 wq)) (fun z _ => (N - intOf z).toNat)
        case atStart => exact ⟨0, Nat.zero_le _, rfl, Lib.hid (GrM.refl _)⟩
        case round =>
          rename World => wq
          obtain ⟨j, hj, rfl, hgq⟩ := hrel
          by_cases hjn : j < N
          · have ij : (j : Int) < (N : Int) := by omega
            obtain ⟨gk, ck, ek, -, -, -, hgl, -, -, hcell, -⟩ := row_at (row_below hrow.out hgq.out) (by omega)
            have ek' : A14 = some ⟨gk, 0, none⟩ := by injection ek
            subst ek'
            clear ek
            obtain ⟨k, hk⟩ : ∃ k, (keysL L)[j]? = some k := ⟨_, List.getElem?_eq_getElem (by rw [hKl.out]; exact hjn)⟩
            have ck0 : wq.cell? ⟨gk, j, none⟩ = some (.string (bs k)) := hcell j _ (by rw [List.getElem?_map, hk]; rfl)
            obtain ⟨x, hx, hxk⟩ := keysL_mem.mp (List.mem_of_getElem? hk)
            have hkl : k.length ≤ maxLen := by rw [← hxk]; have := (hm2.out.ok x hx).2.1; simp only [maxLen]; omega
            have hget := Lib.hid (get22_yes lo g b n L k hkl wq (Md.below hgq.out hm2) ((hasK_iff L k).mpr ⟨x, hx, hxk⟩))
            clear hcell hgl
            go_upto_region 21 with (go_at_call 18; go_must (refine hget.out.mono ?_); rintro e w5 ⟨v5, rfl, -, hg5⟩)
            obtain ⟨wd, hwd⟩ : ∃ wd, wd = w5.drew := ⟨_, rfl⟩
            have hgd : Hid (GrM w2 wd) := Lib.hid (by rw [hwd]; exact (GrM.trans hgq.out hg5).drew)
            clear hget ck0
            by_cases hj0 : 0 < j
            · have ij0 : (0 : Int) < (j : Int) := by omega
              obtain ⟨p, hp⟩ : ∃ p, j = p + 1 := ⟨j - 1, by omega⟩
              have ip1 : IntKind.i64.wrap ((j : Int) - 1) = (p : Int) := by rw [i64_wrap_id' (by omega) (by omega)]; omega
              have ip2 : (p : Int) < (N : Int) := by omega
              obtain ⟨gk2, ck2, ek2, -, -, -, -, -, -, hcell2, -⟩ := row_at (row_below hrow.out hgd.out) (by omega)
              have ek3 : gk2 = gk := by injection ek2 with ek2; injection ek2 with ek2; injection ek2 with ek2; exact ek2.symm
              subst ek3
              obtain ⟨kp, hkp⟩ : ∃ kp, (keysL L)[p]? = some kp := ⟨_, List.getElem?_eq_getElem (by rw [hKl.out]; omega)⟩
              have c0 : wd.cell? ⟨gk2, j, none⟩ = some (.string (bs k)) := hcell2 j _ (by rw [List.getElem?_map, hk]; rfl)
              have c1 : wd.cell? ⟨gk2, p, none⟩ = some (.string (bs kp)) := hcell2 p _ (by rw [List.getElem?_map, hkp]; rfl)
              have hless : Op.bytesLess kp k = true := by
                rw [bytesLess_eq]
                exact decide_eq_true (keysL_lt hm2.out.dist hkp (by rw [← hp]; exact hk))
              replace hp := Lib.hid hp
              replace hk := Lib.hid hk
              replace hkp := Lib.hid hkp
              replace hx := Lib.hid hx
              replace hxk := Lib.hid hxk
              clear hcell2 ek2
              refine wpR_region (Eq) 9999 (by kernel_rfl) ?_
              (rw [← hwd]; replace hwd := Lib.hid hwd)
              refine wpR_take (i := 0) (v := ?_) (⟨fun _ => rfl, Eq.trans⟩) (some 123) rfl (by kernel_rfl) (by kernel_rfl) (by kernel_rfl) (by kernel_rfl) (by kernel_rfl) (fun _ _ _ h => h) (by kernel_rfl) (fun w' hw' => ?_) ?_
              rotate_left
              · go_simp; with_reducible rfl
              simp only [Act.put, List.setIfInBounds_toArray, List.set_cons_zero, List.set_cons_succ]
              refine wpR_take (i := 1) (v := ?_) (⟨fun _ => rfl, Eq.trans⟩) (some 124) rfl (by kernel_rfl) (by kernel_rfl) (by kernel_rfl) (by kernel_rfl) (by kernel_rfl) (fun _ _ _ h => h) (by kernel_rfl) (fun w' hw' => ?_) ?_
              rotate_left
              · go_simp; with_reducible rfl
              simp only [Act.put, List.setIfInBounds_toArray, List.set_cons_zero, List.set_cons_succ]
              refine wpR_take (i := 2) (v := ?_) (⟨fun _ => rfl, Eq.trans⟩) (some 125) rfl (by kernel_rfl) (by kernel_rfl) (by kernel_rfl) (by kernel_rfl) (by kernel_rfl) (fun _ _ _ h => h) (by kernel_rfl) (fun w' hw' => ?_) ?_
              rotate_left
              · go_simp; with_reducible rfl
              simp only [Act.put, List.setIfInBounds_toArray, List.set_cons_zero, List.set_cons_succ]
              refine wpR_take (i := 3) (v := ?_) (⟨fun _ => rfl, Eq.trans⟩) (some 126) rfl (by kernel_rfl) (by kernel_rfl) (by kernel_rfl) (by kernel_rfl) (by kernel_rfl) (fun _ _ _ h => h) (by kernel_rfl) (fun w' hw' => ?_) ?_
              rotate_left
              · go_simp; with_reducible rfl
              simp only [Act.put, List.setIfInBounds_toArray, List.set_cons_zero, List.set_cons_succ]
              refine wpR_take (i := 4) (v := ?_) (⟨fun _ => rfl, Eq.trans⟩) (some 127) rfl (by kernel_rfl) (by kernel_rfl) (by kernel_rfl) (by kernel_rfl) (by kernel_rfl) (fun _ _ _ h => h) (by kernel_rfl) (fun w' hw' => ?_) ?_
              rotate_left
              · go_simp; with_reducible rfl
              simp only [Act.put, List.setIfInBounds_toArray, List.set_cons_zero, List.set_cons_succ]
              refine wpR_take (i := 5) (v := ?_) (⟨fun _ => rfl, Eq.trans⟩) (some 128) rfl (by kernel_rfl) (by kernel_rfl) (by kernel_rfl) (by kernel_rfl) (by kernel_rfl) (fun _ _ _ h => h) (by kernel_rfl) (fun w' hw' => ?_) ?_
              rotate_left
              · go_simp; with_reducible rfl
              simp only [Act.put, List.setIfInBounds_toArray, List.set_cons_zero, List.set_cons_succ]
              refine wpR_take (i := 6) (v := ?_) (⟨fun _ => rfl, Eq.trans⟩) (some 129) rfl (by kernel_rfl) (by kernel_rfl) (by kernel_rfl) (by kernel_rfl) (by kernel_rfl) (fun _ _ _ h => h) (by kernel_rfl) (fun w' hw' => ?_) ?_
              rotate_left
              · go_simp; with_reducible rfl
              simp only [Act.put, List.setIfInBounds_toArray, List.set_cons_zero, List.set_cons_succ]
              refine wpR_take (i := 7) (v := ?_) (⟨fun _ => rfl, Eq.trans⟩) (some 130) rfl (by kernel_rfl) (by kernel_rfl) (by kernel_rfl) (by kernel_rfl) (by kernel_rfl) (fun _ _ _ h => h) (by kernel_rfl) (fun w' hw' => ?_) ?_
              rotate_left
              · go_simp; with_reducible rfl
              simp only [Act.put, List.setIfInBounds_toArray, List.set_cons_zero, List.set_cons_succ]
              refine wpR_take (i := 8) (v := ?_) (⟨fun _ => rfl, Eq.trans⟩) (some 131) rfl (by kernel_rfl) (by kernel_rfl) (by kernel_rfl) (by kernel_rfl) (by kernel_rfl) (fun _ _ _ h => h) (by kernel_rfl) (fun w' hw' => ?_) ?_
              rotate_left
              · go_simp; with_reducible rfl
              simp only [Act.put, List.setIfInBounds_toArray, List.set_cons_zero, List.set_cons_succ]
              refine wpR_take (i := 9) (v := ?_) (⟨fun _ => rfl, Eq.trans⟩) (some 132) rfl (by kernel_rfl) (by kernel_rfl) (by kernel_rfl) (by kernel_rfl) (by kernel_rfl) (fun _ _ _ h => h) (by kernel_rfl) (fun w' hw' => ?_) ?_
              rotate_left
              · go_simp; with_reducible rfl
              simp only [Act.put, List.setIfInBounds_toArray, List.set_cons_zero, List.set_cons_succ]
              refine wpR_take (i := 10) (v := ?_) (⟨fun _ => rfl, Eq.trans⟩) (some 133) rfl (by kernel_rfl) (by kernel_rfl) (by kernel_rfl) (by kernel_rfl) (by kernel_rfl) (fun _ _ _ h => h) (by kernel_rfl) (fun w' hw' => ?_) ?_
              rotate_left
              · subst hw'; go_simp; with_reducible rfl
              simp only [Act.put, List.setIfInBounds_toArray, List.set_cons_zero, List.set_cons_succ]
              refine wpR_take (i := 11) (v := ?_) (⟨fun _ => rfl, Eq.trans⟩) (some 134) rfl (by kernel_rfl) (by kernel_rfl) (by kernel_rfl) (by kernel_rfl) (by kernel_rfl) (fun _ _ _ h => h) (by kernel_rfl) (fun w' hw' => ?_) ?_
              rotate_left
              · go_simp; with_reducible rfl
              simp only [Act.put, List.setIfInBounds_toArray, List.set_cons_zero, List.set_cons_succ]
              refine wpR_take (i := 12) (v := ?_) (⟨fun _ => rfl, Eq.trans⟩) (some 135) rfl (by kernel_rfl) (by kernel_rfl) (by kernel_rfl) (by kernel_rfl) (by kernel_rfl) (fun _ _ _ h => h) (by kernel_rfl) (fun w' hw' => ?_) ?_
              rotate_left
              · go_simp; with_reducible rfl
              simp only [Act.put, List.setIfInBounds_toArray, List.set_cons_zero, List.set_cons_succ]
              refine wpR_take (i := 13) (v := ?_) (⟨fun _ => rfl, Eq.trans⟩) (some 136) rfl (by kernel_rfl) (by kernel_rfl) (by kernel_rfl) (by kernel_rfl) (by kernel_rfl) (fun _ _ _ h => h) (by kernel_rfl) (fun w' hw' => ?_) ?_
              rotate_left
              · go_simp; with_reducible rfl
              simp only [Act.put, List.setIfInBounds_toArray, List.set_cons_zero, List.set_cons_succ]
              refine wpR_take (i := 14) (v := ?_) (⟨fun _ => rfl, Eq.trans⟩) (some 137) rfl (by kernel_rfl) (by kernel_rfl) (by kernel_rfl) (by kernel_rfl) (by kernel_rfl) (fun _ _ _ h => h) (by kernel_rfl) (fun w' hw' => ?_) ?_
              rotate_left
              · subst hw'; go_simp; with_reducible rfl
              simp only [Act.put, List.setIfInBounds_toArray, List.set_cons_zero, List.set_cons_succ]
              refine wpR_take (i := 15) (v := ?_) (⟨fun _ => rfl, Eq.trans⟩) (some 138) rfl (by kernel_rfl) (by kernel_rfl) (by kernel_rfl) (by kernel_rfl) (by kernel_rfl) (fun _ _ _ h => h) (by kernel_rfl) (fun w' hw' => ?_) ?_
              rotate_left
              · go_simp; with_reducible rfl
              simp only [Act.put, List.setIfInBounds_toArray, List.set_cons_zero, List.set_cons_succ]
              refine wpR_take (i := 16) (v := ?_) (⟨fun _ => rfl, Eq.trans⟩) (some 139) rfl (by kernel_rfl) (by kernel_rfl) (by kernel_rfl) (by kernel_rfl) (by kernel_rfl) (fun _ _ _ h => h) (by kernel_rfl) (fun w' hw' => ?_) ?_
              rotate_left
              · go_simp; with_reducible rfl
              simp only [Act.put, List.setIfInBounds_toArray, List.set_cons_zero, List.set_cons_succ]
              refine wpR_take (i := 17) (v := ?_) (⟨fun _ => rfl, Eq.trans⟩) (some 140) rfl (by kernel_rfl) (by kernel_rfl) (by kernel_rfl) (by kernel_rfl) (by kernel_rfl) (fun _ _ _ h => h) (by kernel_rfl) (fun w' hw' => ?_) ?_
              rotate_left
              · go_simp; with_reducible rfl
              simp only [Act.put, List.setIfInBounds_toArray, List.set_cons_zero, List.set_cons_succ]
              refine wpR_done (by kernel_rfl) ?_ _
              go_wp2_with fail
              go_roundw
              case rel => exact ⟨j + 1, by omega, by go_num, hgd⟩
              case measure => simp [intOf]; omega
            · have ij0 : decide ((0 : Int) < (j : Int)) = false := decide_eq_false (by omega)
              have ij0n : decide (0 < j) = false := decide_eq_false hj0
              replace hk := Lib.hid hk
              replace hx := Lib.hid hx
              replace hxk := Lib.hid hxk
              clear hj0
              refine wpR_region (Eq) 9999 (by kernel_rfl) ?_
              (rw [← hwd]; replace hwd := Lib.hid hwd)
              refine wpR_take (i := 0) (v := ?_) (⟨fun _ => rfl, Eq.trans⟩) (some 123) rfl (by kernel_rfl) (by kernel_rfl) (by kernel_rfl) (by kernel_rfl) (by kernel_rfl) (fun _ _ _ h => h) (by kernel_rfl) (fun w' hw' => ?_) ?_
              rotate_left
              · go_simp; with_reducible rfl
              simp only [Act.put, List.setIfInBounds_toArray, List.set_cons_zero, List.set_cons_succ]
              refine wpR_take (i := 1) (v := ?_) (⟨fun _ => rfl, Eq.trans⟩) (some 124) rfl (by kernel_rfl) (by kernel_rfl) (by kernel_rfl) (by kernel_rfl) (by kernel_rfl) (fun _ _ _ h => h) (by kernel_rfl) (fun w' hw' => ?_) ?_
              rotate_left
              · go_simp; with_reducible rfl
              simp only [Act.put, List.setIfInBounds_toArray, List.set_cons_zero, List.set_cons_succ]
              refine wpR_take (i := 2) (v := ?_) (⟨fun _ => rfl, Eq.trans⟩) (some 125) rfl (by kernel_rfl) (by kernel_rfl) (by kernel_rfl) (by kernel_rfl) (by kernel_rfl) (fun _ _ _ h => h) (by kernel_rfl) (fun w' hw' => ?_) ?_
              rotate_left
              · go_simp; with_reducible rfl
              simp only [Act.put, List.setIfInBounds_toArray, List.set_cons_zero, List.set_cons_succ]
              refine wpR_take (i := 3) (v := ?_) (⟨fun _ => rfl, Eq.trans⟩) (some 126) rfl (by kernel_rfl) (by kernel_rfl) (by kernel_rfl) (by kernel_rfl) (by kernel_rfl) (fun _ _ _ h => h) (by kernel_rfl) (fun w' hw' => ?_) ?_
              rotate_left
              · go_simp; with_reducible rfl
              simp only [Act.put, List.setIfInBounds_toArray, List.set_cons_zero, List.set_cons_succ]
              refine wpR_take (i := 4) (v := ?_) (⟨fun _ => rfl, Eq.trans⟩) (some 127) rfl (by kernel_rfl) (by kernel_rfl) (by kernel_rfl) (by kernel_rfl) (by kernel_rfl) (fun _ _ _ h => h) (by kernel_rfl) (fun w' hw' => ?_) ?_
              rotate_left
              · go_simp; with_reducible rfl
              simp only [Act.put, List.setIfInBounds_toArray, List.set_cons_zero, List.set_cons_succ]
              refine wpR_take (i := 5) (v := ?_) (⟨fun _ => rfl, Eq.trans⟩) (some 128) rfl (by kernel_rfl) (by kernel_rfl) (by kernel_rfl) (by kernel_rfl) (by kernel_rfl) (fun _ _ _ h => h) (by kernel_rfl) (fun w' hw' => ?_) ?_
              rotate_left
              · go_simp; with_reducible rfl
              simp only [Act.put, List.setIfInBounds_toArray, List.set_cons_zero, List.set_cons_succ]
              refine wpR_skip (i := 6) (⟨fun _ => rfl, Eq.trans⟩) (some 129) rfl (by kernel_rfl) (by kernel_rfl) (by kernel_rfl) (by kernel_rfl) (by kernel_rfl) (fun _ _ _ h => h) (by kernel_rfl) ?_
              simp only [Act.put, List.setIfInBounds_toArray, List.set_cons_zero, List.set_cons_succ]
              refine wpR_skip (i := 7) (⟨fun _ => rfl, Eq.trans⟩) (some 130) rfl (by kernel_rfl) (by kernel_rfl) (by kernel_rfl) (by kernel_rfl) (by kernel_rfl) (fun _ _ _ h => h) (by kernel_rfl) ?_
              simp only [Act.put, List.setIfInBounds_toArray, List.set_cons_zero, List.set_cons_succ]
              refine wpR_skip (i := 8) (⟨fun _ => rfl, Eq.trans⟩) (some 131) rfl (by kernel_rfl) (by kernel_rfl) (by kernel_rfl) (by kernel_rfl) (by kernel_rfl) (fun _ _ _ h => h) (by kernel_rfl) ?_
              simp only [Act.put, List.setIfInBounds_toArray, List.set_cons_zero, List.set_cons_succ]
              refine wpR_skip (i := 9) (⟨fun _ => rfl, Eq.trans⟩) (some 132) rfl (by kernel_rfl) (by kernel_rfl) (by kernel_rfl) (by kernel_rfl) (by kernel_rfl) (fun _ _ _ h => h) (by kernel_rfl) ?_
              simp only [Act.put, List.setIfInBounds_toArray, List.set_cons_zero, List.set_cons_succ]
              refine wpR_skip (i := 10) (⟨fun _ => rfl, Eq.trans⟩) (some 133) rfl (by kernel_rfl) (by kernel_rfl) (by kernel_rfl) (by kernel_rfl) (by kernel_rfl) (fun _ _ _ h => h) (by kernel_rfl) ?_
              simp only [Act.put, List.setIfInBounds_toArray, List.set_cons_zero, List.set_cons_succ]
              refine wpR_skip (i := 11) (⟨fun _ => rfl, Eq.trans⟩) (some 134) rfl (by kernel_rfl) (by kernel_rfl) (by kernel_rfl) (by kernel_rfl) (by kernel_rfl) (fun _ _ _ h => h) (by kernel_rfl) ?_
              simp only [Act.put, List.setIfInBounds_toArray, List.set_cons_zero, List.set_cons_succ]
              refine wpR_skip (i := 12) (⟨fun _ => rfl, Eq.trans⟩) (some 135) rfl (by kernel_rfl) (by kernel_rfl) (by kernel_rfl) (by kernel_rfl) (by kernel_rfl) (fun _ _ _ h => h) (by kernel_rfl) ?_
              simp only [Act.put, List.setIfInBounds_toArray, List.set_cons_zero, List.set_cons_succ]
              refine wpR_skip (i := 13) (⟨fun _ => rfl, Eq.trans⟩) (some 136) rfl (by kernel_rfl) (by kernel_rfl) (by kernel_rfl) (by kernel_rfl) (by kernel_rfl) (fun _ _ _ h => h) (by kernel_rfl) ?_
              simp only [Act.put, List.setIfInBounds_toArray, List.set_cons_zero, List.set_cons_succ]
              refine wpR_skip (i := 14) (⟨fun _ => rfl, Eq.trans⟩) (some 137) rfl (by kernel_rfl) (by kernel_rfl) (by kernel_rfl) (by kernel_rfl) (by kernel_rfl) (fun _ _ _ h => h) (by kernel_rfl) ?_
              simp only [Act.put, List.setIfInBounds_toArray, List.set_cons_zero, List.set_cons_succ]
              refine wpR_skip (i := 15) (⟨fun _ => rfl, Eq.trans⟩) (some 138) rfl (by kernel_rfl) (by kernel_rfl) (by kernel_rfl) (by kernel_rfl) (by kernel_rfl) (fun _ _ _ h => h) (by kernel_rfl) ?_
              simp only [Act.put, List.setIfInBounds_toArray, List.set_cons_zero, List.set_cons_succ]
              refine wpR_take (i := 16) (v := ?_) (⟨fun _ => rfl, Eq.trans⟩) (some 139) rfl (by kernel_rfl) (by kernel_rfl) (by kernel_rfl) (by kernel_rfl) (by kernel_rfl) (fun _ _ _ h => h) (by kernel_rfl) (fun w' hw' => ?_) ?_
              rotate_left
              · go_simp; with_reducible rfl
              simp only [Act.put, List.setIfInBounds_toArray, List.set_cons_zero, List.set_cons_succ]
              refine wpR_take (i := 17) (v := ?_) (⟨fun _ => rfl, Eq.trans⟩) (some 140) rfl (by kernel_rfl) (by kernel_rfl) (by kernel_rfl) (by kernel_rfl) (by kernel_rfl) (fun _ _ _ h => h) (by kernel_rfl) (fun w' hw' => ?_) ?_
              rotate_left
              · go_simp; with_reducible rfl
              simp only [Act.put, List.setIfInBounds_toArray, List.set_cons_zero, List.set_cons_succ]
              refine wpR_done (by kernel_rfl) ?_ _
              go_wp2_with fail
              go_roundw
              case rel => exact ⟨j + 1, by omega, by go_num, hgd⟩
              case measure => simp [intOf]; omega
          · obtain rfl : j = N := by omega
            have ij : decide ((j : Int) < (j : Int)) = false := decide_eq_false (by omega)
            clear hjn
            have haw := Lib.hid (awake22_any wq)
            go_wp2_with (go_at_call 20; go_must (refine haw.out.mono ?_); rintro e w9 ⟨rfl, hg9⟩; replace hg9 := Lib.hid hg9)
            go_ret
            exact ⟨rfl, GrM.trans hgw2.out (GrM.trans hgq.out hg9.out)⟩
end Go.Proofs.Ytipdjchgdhfciaa
