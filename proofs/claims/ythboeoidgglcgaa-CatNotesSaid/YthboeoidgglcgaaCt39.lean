/- cat: the law CatNotes. -/
import Derived.Test.YthboeoidgglcgaaCtW
namespace Go.Proofs.Ythboeoidgglcgaa
set_option linter.unusedVariables false
set_option linter.unusedSimpArgs false
set_option linter.unusedSectionVars false
open Go Go.RowKit Go.Maps Go.Sort Go.Shelf Go.Proofs
set_option maxRecDepth 10000 in
set_option maxHeartbeats 4000000 in
theorem catNotes_any (L M : List Nt) (v u : Value) (w : World) (h : NsV L v w) (hok : ∀ n ∈ L, n.Ok) (h2 : NsV M u w) (hok2 : ∀ n ∈ M, n.Ok) :
    Calls Try.prog 3 #[v, u] w fun e w' => e = .returned (.bool true) ∧ Gr w w' := by
  have hmd := Lib.hid (made_any L v 40 40 rfl (by omega) w h hok)
  have hap := Lib.hid awake13_any
  have hnew := Lib.hid cnew_any
  obtain ⟨cP, hcP⟩ : ∃ cP, madeP L 40 = cP := ⟨_, rfl⟩
  rw [hcP] at hmd
  replace hcP := Lib.hid hcP
  obtain ⟨A, c, rfl, hc1, hc2⟩ := h2.len
  obtain ⟨n, hn⟩ : ∃ n, M.length = n := ⟨_, rfl⟩
  rw [hn] at h2 hc1 ⊢
  have hnm : n ≤ 9223372036854775807 := by simp only [maxLen] at hc2; omega
  obtain ⟨N0, hN0⟩ : ∃ N0, w.heap.size = N0 := ⟨_, rfl⟩
  rw [hN0] at hmd
  replace h := Lib.hid h
  replace hok := Lib.hid hok
  replace h2 := Lib.hid h2
  replace hok2 := Lib.hid hok2
  replace hn := Lib.hid hn
  replace hN0 := Lib.hid hN0
  have hgo : Hid (∀ y z, Gr w y → Below N0 y z → Gr w z) := Lib.hid (fun y z h1 h2 => by unfold Gr at h1 ⊢; rw [hN0.out] at h1 ⊢; exact h1.trans h2)
  clear hc1 hc2
  go_enter Try.func3, Try.ntmps3
  go_upto_region 4 with (first
    | (go_at_call 9; go_must (refine hmd.out.mono ?_); clear hmd; rintro e w1 ⟨gc, x, rfl, hcx, hg1⟩; replace hg1 := Lib.hid hg1)
    | (go_at_call 10; go_must (refine (hnew.out w1).mono ?_); clear hnew; rintro e w2 ⟨gd, y, rfl, hdy, hg2⟩; replace hg2 := Lib.hid hg2; replace hdy := Lib.hid hdy; have hno := Lib.hid (notes_any N0 gc 40 x cP w2 (Lib.hid (hcx.out.gr hg2.out)) (by omega)))
    | (go_at_call 11; go_must (refine hno.out.mono ?_); clear hno; rintro e w3 ⟨E1, A1, c1, rfl, hE1, ho1, hg3⟩))
  obtain ⟨m1, hm1⟩ : ∃ m, E1.length = m := ⟨_, rfl⟩
  rw [hm1] at ho1 ⊢
  have hm1l : m1 ≤ 201 := by
    have := congrArg List.length hE1
    rw [List.length_map, hm1] at this
    rw [this]
    exact notesP_len hcx.out.few
  have hrun : Hid (runN CtP.none_ (E1.map (·.n)) = some ⟨cP.W, cP.E, begP cP, cP.T, sortZ cP.R, cP.G⟩) := Lib.hid (by rw [hE1]; exact run_all hcx.out.ok)
  have hnok : Hid (∀ q ∈ E1, q.n.key.length ≤ maxLen ∧ I64 q.n.cart) := Lib.hid (fun q hq => notesP_ok hcx.out.ok _ (by rw [← hE1]; exact List.mem_map.mpr ⟨q, hq, rfl⟩))
  have hs0 : Hid (L1 w1 w3 w2.heap.size gd (E1.map (·.n)) 0 w3) := Lib.hid (L1.start hdy.out hg2.out hg3)
  replace hg3 := Lib.hid hg3
  replace ho1 := Lib.hid ho1
  replace hm1 := Lib.hid hm1
  replace hE1 := Lib.hid hE1
  have hsm := Lib.hid (sm_run (c := cP))
  obtain ⟨dP, hdP⟩ : ∃ d, (⟨cP.W, cP.E, begP cP, cP.T, sortZ cP.R, cP.G⟩ : CtP) = d := ⟨_, rfl⟩
  rw [hdP] at hsm hrun
  replace hdP := Lib.hid hdP
  go_wp2_with fail
  go_loopw [8] (fun z wr => ∃ k : Nat, k ≤ m1 ∧ z = .int .i64 k ∧ Hid (L1 w1 w3 w2.heap.size gd (E1.map (·.n)) k wr)) (fun z _ => (m1 - intOf z).toNat)
  case atStart => exact ⟨0, Nat.zero_le _, rfl, hs0⟩
  case round =>
    obtain ⟨k, hk, rfl, hst⟩ := hrel
    clear hs0
    by_cases hlt : k < m1
    · have ii : (k : Int) < (m1 : Int) := by omega
      obtain ⟨q, hq⟩ : ∃ q, E1[k]? = some q := ⟨_, List.getElem?_eq_getElem (by rw [hm1.out]; exact hlt)⟩
      obtain ⟨b, rfl, hcell⟩ := hst.out.cell ho1.out hq hlt
      have q0 := hcell 0 _ (by omega) rfl
      have q1 := hcell 1 _ (by omega) rfl
      have q2 := hcell 2 _ (by omega) rfl
      have q3 := hcell 3 _ (by omega) rfl
      have q4 := hcell 4 _ (by omega) rfl
      have q5 := hcell 5 _ (by omega) rfl
      have q6 := hcell 6 _ (by omega) rfl
      have q7 := hcell 7 _ (by omega) rfl
      rw [Nat.add_zero] at q0
      obtain ⟨ho5, ho6⟩ := hnok.out q (List.mem_of_getElem? hq)
      have hac := Lib.hid (hst.out.step ho1.out hq hrun.out ho5 ho6 (by omega))
      unfold Ne.agg Nt.agg at hac
      replace hq := Lib.hid hq
      replace ho6 := Lib.hid ho6
      clear hcell ho5
      obtain ⟨ld, hld⟩ : ∃ m, q.n.data.length = m := ⟨_, rfl⟩
      obtain ⟨lp, hlp⟩ : ∃ m, q.n.places.length = m := ⟨_, rfl⟩
      rw [hld] at q4 hac
      rw [hlp] at q7 hac
      replace hld := Lib.hid hld
      replace hlp := Lib.hid hlp
      go_wp2_with (go_at_call 12; go_must (refine hac.out.mono ?_); clear hac; rintro e w5 ⟨rfl, h5⟩; replace h5 := Lib.hid h5)
      go_roundw
      case rel => exact ⟨k + 1, by omega, by go_num, h5⟩
      case measure => simp [intOf]; omega
    · obtain rfl : m1 = k := by omega
      obtain ⟨y2, hL⟩ := hst.out.two (by rw [List.length_map, hm1.out]; exact Nat.le_refl _) hrun.out hcx.out hg1.out (by rw [hN0.out]; exact Nat.le_refl _)
      have hvw := Lib.hid (views_any _ _ _ _ _ _ _ _ _ _ wr (Lib.hid hL.hc) (Lib.hid hL.hd) (by omega) (by omega) hsm.out.view)
      replace hL := Lib.hid hL
      clear hst ho1 hdy hcx hnok hrun
      go_upto_region 11 with (go_at_call 13; go_must (refine hvw.out.mono ?_); clear hvw; rintro e w4 ⟨rfl, hg4⟩; replace hL := Lib.hid (hL.out.on hg4); replace hg4 := Lib.hid hg4)
      go_wp2_with fail
      go_loopw [9] (fun z wr => ∃ (k : Nat) (x2 y2 : CtX) (c2 d2 : CtP), k ≤ n ∧ k ≤ 20 ∧ z = .int .i64 k ∧ Hid (Sm c2 d2) ∧ Hid (L2 w wr N0 w1.heap.size gc gd x2 y2 c2 d2 (40 + k) (m1 + k))) (fun z _ => (20 - intOf z).toNat)
      case atStart => exact ⟨0, x, y2, cP, dP, Nat.zero_le _, Nat.zero_le _, rfl, hsm, hL⟩
      case round =>
        obtain ⟨k, x2, y2, c2, d2, hk, hk2, rfl, hs, hl⟩ := hrel
        clear hL
        by_cases hlt : k < n
        · have ii : (k : Int) < (n : Int) := by omega
          by_cases hlt2 : k < 20
          · have ii2 : (k : Int) < 20 := by omega
            obtain ⟨b, o, xn, xA, xc, xA2, xc2, rfl, hq, hxv, hbl, hcx⟩ := h2.out.get (i := k) (by rw [hn.out]; exact hlt)
            have hko := Lib.hid (hok2.out xn (List.mem_of_getElem? hq))
            replace hq := Lib.hid hq
            obtain ⟨hz0, hs2⟩ := hs.out.apply hl.out.hc.ok hl.out.hd.ok xn
            replace hz2 := Lib.hid hz0
            replace hs2 := Lib.hid hs2
            obtain ⟨wd, hwd2⟩ : ∃ wd, wd = wr.drew := ⟨_, rfl⟩
            have hgd : Gr wr wd := by rw [hwd2]; exact (Below.refl _ _).drew
            have hl2 := hl.out.on hgd
            have hwd := Lib.hid hl2.gr
            have hac := Lib.hid (hl2.step (by omega) hko.out hxv.ntv hxv.2)
            replace hgd := Lib.hid hgd
            replace hxv := Lib.hid hxv
            obtain ⟨ld, hld⟩ : ∃ m, xn.data.length = m := ⟨_, rfl⟩
            obtain ⟨lp, hlp⟩ : ∃ m, xn.places.length = m := ⟨_, rfl⟩
            unfold Nt.agg at hac
            rw [hld, hlp] at hac hcx
            replace hld := Lib.hid hld
            replace hlp := Lib.hid hlp
            replace hcx := Lib.hid hcx
            generalize hZ : (c2.apply xn).1 = zz at hac hz2
            clear hl2 hbl
            replace hZ := Lib.hid hZ
            go_upto_region 14 with (fail)
            refine wpR_region (Below N0) 9999 (by kernel_rfl) ?_
            (rw [← hwd2]; replace hwd2 := Lib.hid hwd2)
            refine wpR_take (i := 0) (v := ?_) (⟨fun x => Below.refl _ x, fun h1 h2 => h1.trans h2⟩) (some 42) rfl (by kernel_rfl) (by kernel_rfl) (by kernel_rfl) (by kernel_rfl) (by kernel_rfl) (fun _ _ _ h => h) (by kernel_rfl) (fun w' hw' => ?_) ?_
            rotate_left
            · go_simp; with_reducible rfl
            simp only [Act.put, List.setIfInBounds_toArray, List.set_cons_zero, List.set_cons_succ]
            refine wpR_take (i := 1) (v := ?_) (⟨fun x => Below.refl _ x, fun h1 h2 => h1.trans h2⟩) (some 43) rfl (by kernel_rfl) (by kernel_rfl) (by kernel_rfl) (by kernel_rfl) (by kernel_rfl) (fun _ _ _ h => h) (by kernel_rfl) (fun w' hw' => ?_) ?_
            rotate_left
            · go_simp; with_reducible rfl
            simp only [Act.put, List.setIfInBounds_toArray, List.set_cons_zero, List.set_cons_succ]
            refine wpR_take (i := 2) (v := ?_) (⟨fun x => Below.refl _ x, fun h1 h2 => h1.trans h2⟩) (some 44) rfl (by kernel_rfl) (by kernel_rfl) (by kernel_rfl) (by kernel_rfl) (by kernel_rfl) (fun _ _ _ h => h) (by kernel_rfl) (fun w' hw' => ?_) ?_
            rotate_left
            · go_simp; with_reducible rfl
            simp only [Act.put, List.setIfInBounds_toArray, List.set_cons_zero, List.set_cons_succ]
            refine wpR_take (i := 3) (v := ?_) (⟨fun x => Below.refl _ x, fun h1 h2 => h1.trans h2⟩) (some 45) rfl (by kernel_rfl) (by kernel_rfl) (by kernel_rfl) (by kernel_rfl) (by kernel_rfl) (fun _ _ _ h => h) (by kernel_rfl) (fun w' hw' => ?_) ?_
            rotate_left
            · go_simp; with_reducible rfl
            simp only [Act.put, List.setIfInBounds_toArray, List.set_cons_zero, List.set_cons_succ]
            refine wpR_take (i := 4) (v := ?_) (⟨fun x => Below.refl _ x, fun h1 h2 => h1.trans h2⟩) (some 46) rfl (by kernel_rfl) (by kernel_rfl) (by kernel_rfl) (by kernel_rfl) (by kernel_rfl) (fun _ _ _ h => h) (by kernel_rfl) (fun w' hw' => ?_) ?_
            rotate_left
            · obtain ⟨q0, q1, q2, q3, q4, q5, q6, q7⟩ := hcx.out _ (hgo.out _ _ hwd.out hw'); go_simp; with_reducible rfl
            simp only [Act.put, List.setIfInBounds_toArray, List.set_cons_zero, List.set_cons_succ]
            refine wpR_take (i := 6) (v := ?_) (⟨fun x => Below.refl _ x, fun h1 h2 => h1.trans h2⟩) (some 48) rfl (by kernel_rfl) (by kernel_rfl) (by kernel_rfl) (by kernel_rfl) (by kernel_rfl) (fun _ _ _ h => h) (by kernel_rfl) (fun w' hw' => ?_) ?_
            rotate_left
            · go_simp; with_reducible rfl
            simp only [Act.put, List.setIfInBounds_toArray, List.set_cons_zero, List.set_cons_succ]
            refine wpR_take (i := 7) (v := ?_) (⟨fun x => Below.refl _ x, fun h1 h2 => h1.trans h2⟩) (some 49) rfl (by kernel_rfl) (by kernel_rfl) (by kernel_rfl) (by kernel_rfl) (by kernel_rfl) (fun _ _ _ h => h) (by kernel_rfl) (fun w' hw' => ?_) ?_
            rotate_left
            · go_simp; with_reducible rfl
            simp only [Act.put, List.setIfInBounds_toArray, List.set_cons_zero, List.set_cons_succ]
            refine wpR_take (i := 8) (v := ?_) (⟨fun x => Below.refl _ x, fun h1 h2 => h1.trans h2⟩) (some 50) rfl (by kernel_rfl) (by kernel_rfl) (by kernel_rfl) (by kernel_rfl) (by kernel_rfl) (fun _ _ _ h => h) (by kernel_rfl) (fun w' hw' => ?_) ?_
            rotate_left
            · go_simp; with_reducible rfl
            simp only [Act.put, List.setIfInBounds_toArray, List.set_cons_zero, List.set_cons_succ]
            refine wpR_take (i := 9) (v := ?_) (⟨fun x => Below.refl _ x, fun h1 h2 => h1.trans h2⟩) (some 51) rfl (by kernel_rfl) (by kernel_rfl) (by kernel_rfl) (by kernel_rfl) (by kernel_rfl) (fun _ _ _ h => h) (by kernel_rfl) (fun w' hw' => ?_) ?_
            rotate_left
            · go_simp; with_reducible rfl
            simp only [Act.put, List.setIfInBounds_toArray, List.set_cons_zero, List.set_cons_succ]
            refine wpR_take (i := 10) (v := ?_) (⟨fun x => Below.refl _ x, fun h1 h2 => h1.trans h2⟩) (some 52) rfl (by kernel_rfl) (by kernel_rfl) (by kernel_rfl) (by kernel_rfl) (by kernel_rfl) (fun _ _ _ h => h) (by kernel_rfl) (fun w' hw' => ?_) ?_
            rotate_left
            · obtain ⟨q0, q1, q2, q3, q4, q5, q6, q7⟩ := hcx.out _ (hgo.out _ _ hwd.out hw'); go_simp; with_reducible rfl
            simp only [Act.put, List.setIfInBounds_toArray, List.set_cons_zero, List.set_cons_succ]
            refine wpR_one 5 rfl (by kernel_rfl) (by kernel_rfl) (fun K hK => ?_)
            go_simp
            refine hac.out.mono ?_
            rintro e w5 ⟨rfl, x5, h5, hb5⟩
            rw [hN0.out] at hb5
            refine hK _ _ (fun _ => hb5) ?_
            clear hK K
            clear hac
            replace hb5 := Lib.hid hb5
            have had := Lib.hid (h5.swap.step (by omega) hko.out hxv.out.ntv hxv.out.2)
            unfold Nt.agg at had
            rw [hld.out, hlp.out, ← hz2.out] at had
            try simp only [Act.put, List.setIfInBounds_toArray, List.set_cons_zero, List.set_cons_succ]
            refine wpR_one 11 rfl (by kernel_rfl) (by kernel_rfl) (fun K hK => ?_)
            go_simp
            refine had.out.mono ?_
            rintro e w6 ⟨rfl, y6, h6, hb6⟩
            rw [hN0.out] at hb6
            refine hK _ _ (fun _ => hb6) ?_
            clear hK K
            clear had
            replace hb6 := Lib.hid hb6
            have h7 := Lib.hid h6.swap
            clear h6 h5
            have hvw := Lib.hid (views_any _ _ _ _ _ _ _ _ _ _ w6 (Lib.hid h7.out.hc) (Lib.hid h7.out.hd) (by omega) (by omega) hs2.out.view)
            try simp only [Act.put, List.setIfInBounds_toArray, List.set_cons_zero, List.set_cons_succ]
            refine wpR_take (i := 12) (v := ?_) (⟨fun x => Below.refl _ x, fun h1 h2 => h1.trans h2⟩) (some 54) rfl (by kernel_rfl) (by kernel_rfl) (by kernel_rfl) (by kernel_rfl) (by kernel_rfl) (fun _ _ _ h => h) (by kernel_rfl) (fun w' hw' => ?_) ?_
            rotate_left
            · go_simp; with_reducible rfl
            simp only [Act.put, List.setIfInBounds_toArray, List.set_cons_zero, List.set_cons_succ]
            refine wpR_take (i := 13) (v := ?_) (⟨fun x => Below.refl _ x, fun h1 h2 => h1.trans h2⟩) (some 55) rfl (by kernel_rfl) (by kernel_rfl) (by kernel_rfl) (by kernel_rfl) (by kernel_rfl) (fun _ _ _ h => h) (by kernel_rfl) (fun w' hw' => ?_) ?_
            rotate_left
            · go_simp; with_reducible rfl
            simp only [Act.put, List.setIfInBounds_toArray, List.set_cons_zero, List.set_cons_succ]
            refine wpR_take (i := 14) (v := ?_) (⟨fun x => Below.refl _ x, fun h1 h2 => h1.trans h2⟩) (some 56) rfl (by kernel_rfl) (by kernel_rfl) (by kernel_rfl) (by kernel_rfl) (by kernel_rfl) (fun _ _ _ h => h) (by kernel_rfl) (fun w' hw' => ?_) ?_
            rotate_left
            · go_simp; with_reducible rfl
            simp only [Act.put, List.setIfInBounds_toArray, List.set_cons_zero, List.set_cons_succ]
            refine wpR_take (i := 15) (v := ?_) (⟨fun x => Below.refl _ x, fun h1 h2 => h1.trans h2⟩) (some 57) rfl (by kernel_rfl) (by kernel_rfl) (by kernel_rfl) (by kernel_rfl) (by kernel_rfl) (fun _ _ _ h => h) (by kernel_rfl) (fun w' hw' => ?_) ?_
            rotate_left
            · go_simp; with_reducible rfl
            simp only [Act.put, List.setIfInBounds_toArray, List.set_cons_zero, List.set_cons_succ]
            refine wpR_one 16 rfl (by kernel_rfl) (by kernel_rfl) (fun K hK => ?_)
            go_simp
            refine hvw.out.mono ?_
            rintro e w7 ⟨rfl, hg7⟩
            have hb7 : Below N0 w6 w7 := Below.mono hg7 (by rw [← hN0.out]; exact Below.size h7.out.gr)
            refine hK _ _ (fun _ => hb7) ?_
            clear hK K
            clear hvw
            have h8 := Lib.hid (h7.out.on hg7)
            clear h7
            replace hb7 := Lib.hid hb7
            replace hg7 := Lib.hid hg7
            try simp only [Act.put, List.setIfInBounds_toArray, List.set_cons_zero, List.set_cons_succ]
            refine wpR_take (i := 17) (v := ?_) (⟨fun x => Below.refl _ x, fun h1 h2 => h1.trans h2⟩) (some 59) rfl (by kernel_rfl) (by kernel_rfl) (by kernel_rfl) (by kernel_rfl) (by kernel_rfl) (fun _ _ _ h => h) (by kernel_rfl) (fun w' hw' => ?_) ?_
            rotate_left
            · go_simp; with_reducible rfl
            simp only [Act.put, List.setIfInBounds_toArray, List.set_cons_zero, List.set_cons_succ]
            refine wpR_take (i := 18) (v := ?_) (⟨fun x => Below.refl _ x, fun h1 h2 => h1.trans h2⟩) (some 60) rfl (by kernel_rfl) (by kernel_rfl) (by kernel_rfl) (by kernel_rfl) (by kernel_rfl) (fun _ _ _ h => h) (by kernel_rfl) (fun w' hw' => ?_) ?_
            rotate_left
            · go_simp; with_reducible rfl
            simp only [Act.put, List.setIfInBounds_toArray, List.set_cons_zero, List.set_cons_succ]
            refine wpR_done (by kernel_rfl) ?_ _
            go_wp2_with fail
            go_roundw
            case rel => exact ⟨k + 1, _, _, _, _, by omega, by omega, by go_num, hs2, h8⟩
            case measure => simp [intOf]; omega
          · obtain rfl : k = 20 := by omega
            go_wp2_with (go_at_call 14; go_must (refine (hap.out _).mono ?_); clear hap; rintro e w9 ⟨rfl, hg9⟩)
            go_ret
            exact ⟨rfl, hl.out.gr.trans hg9⟩
        · obtain rfl : k = n := by omega
          go_wp2_with (go_at_call 14; go_must (refine (hap.out _).mono ?_); clear hap; rintro e w9 ⟨rfl, hg9⟩)
          go_ret
          exact ⟨rfl, hl.out.gr.trans hg9⟩
end Go.Proofs.Ythboeoidgglcgaa
