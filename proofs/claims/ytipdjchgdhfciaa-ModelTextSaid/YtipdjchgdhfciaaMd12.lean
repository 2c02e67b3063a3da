/- model: ModelText. -/
import Derived.Test.YtipdjchgdhfciaaMd11
namespace Go.Proofs.Ytipdjchgdhfciaa
set_option linter.unusedVariables false
set_option linter.unusedSimpArgs false
open Go Go.RowKit Go.Maps Go.Sort
theorem blk_lt_of_cell {w : World} {b j : Nat} {v : Value} (h : w.cell? ⟨b, j, none⟩ = some v) : b < w.heap.size := by
  rcases Nat.lt_or_ge b w.heap.size with h1 | h1
  · exact h1
  · unfold World.cell? at h
    rw [Array.getElem?_eq_none h1] at h
    simp at h
set_option maxHeartbeats 8000000 in
set_option maxRecDepth 10000 in
theorem modelText_any (Qa Qb : List ActM) (va vb : Value) (w : World) (ha : Hid (ActsM Qa va w)) (hb : Hid (ActsM Qb vb w)) :
    Calls Try.prog 5 #[va, vb] w fun e w' => e = .returned (.bool true) ∧ GrM w w' := by
  have hma := Lib.hid (made22_any Qa va w ha)
  have hmb : Hid (∀ w1, GrM w w1 → Calls Try.prog 21 #[vb] w1 fun e w' => ∃ g b n L, e = .returned (.pointer (some ⟨g, 0, none⟩)) ∧ Hid (Md w' w1.heap.size g b n L) ∧ Hid (L.length ≤ 30) ∧ GrM w1 w') := Lib.hid (fun w1 hg => made22_any Qb vb w1 (ActsM.gr hg hb))
  go_enter Try.func5, Try.ntmps5
  go_upto_region 2 with (first
    | (go_at_call 21; refine hma.out.mono ?_; clear hma; rintro e w1 ⟨g1, b1, n1, L1, rfl, hm1, hl1, hg1⟩; replace hmb := Lib.hid (hmb.out w1 hg1))
    | (go_at_call 21; go_must (refine hmb.out.mono ?_); clear hmb; rintro e w2 ⟨g2, b2, n2, L2, rfl, hm2, hl2, hg2⟩))
  replace hm1 := Md.below hg2 hm1
  obtain ⟨lo1, hlo1⟩ : ∃ lo1, w.heap.size = lo1 := ⟨_, rfl⟩
  obtain ⟨lo2, hlo2⟩ : ∃ lo2, w1.heap.size = lo2 := ⟨_, rfl⟩
  rw [hlo1] at hm1
  rw [hlo2] at hm2
  have hgw : Hid (GrM w w2) := Lib.hid (GrM.trans hg1 hg2)
  replace hlo1 := Lib.hid hlo1
  replace hlo2 := Lib.hid hlo2
  clear hg1 hg2
  have hd1 := Lib.hid hm1.out.dist
  have hd2 := Lib.hid hm2.out.dist
  have hok1 : Hid (∀ e ∈ L1, e.1.length ≤ 16 ∧ e.2.2.length ≤ 512) := Lib.hid (fun e he => ⟨(hm1.out.ok e he).2.1, (hm1.out.ok e he).2.2⟩)
  have hok2 : Hid (∀ e ∈ L2, e.1.length ≤ 16 ∧ e.2.2.length ≤ 512) := Lib.hid (fun e he => ⟨(hm2.out.ok e he).2.1, (hm2.out.ok e he).2.2⟩)
  obtain ⟨N, hN⟩ : ∃ N, L1.length = N := ⟨_, rfl⟩
  have hN30 : N ≤ 30 := by rw [← hN]; exact hl1.out
  obtain ⟨P, hP⟩ : ∃ P, pairsL L1 = P := ⟨_, rfl⟩
  have hPN : Hid (P.length = N) := Lib.hid (by rw [← hP, pairsL_len, hN])
  have hPs : Hid (Short P) := Lib.hid (by rw [← hP]; exact pairs_short hok1.out hd1.out)
  obtain ⟨T1, hT1⟩ : ∃ T1, textL L1 = T1 := ⟨_, rfl⟩
  have hTf : Hid (T1 = flatT P) := Lib.hid (by rw [← hT1, textL_flat, hP])
  obtain ⟨t1, ht1⟩ : ∃ t1, T1.length = t1 := ⟨_, rfl⟩
  have ht1b : t1 ≤ 1000000 := by
    rw [← ht1, ← hT1]
    have := foldT_len L1 hok1.out hd1.out (keysL L1) (fun k hk => keysL_mem.mp hk) []
    rw [keysL_len, hN] at this
    unfold textL
    simp at this
    omega
  have htx1 : Hid (∀ w', GrM w2 w' → Calls Try.prog 16 #[.pointer (some ⟨g1, 0, none⟩)] w' fun e w'' => e = .returned (.string (bs T1)) ∧ GrM w' w'') := Lib.hid (fun w' hg => by
    have := text22_any lo1 g1 b1 n1 L1 (by have := hl1.out; omega) w' (Md.below hg hm1)
    rw [hT1] at this; exact this)
  replace ht1 := Lib.hid ht1
  replace hT1 := Lib.hid hT1
  replace hP := Lib.hid hP
  replace hN := Lib.hid hN
  go_upto_region 3 with (first
    | (go_at_call 16; go_must (refine (htx1.out _ (GrM.refl _)).mono ?_); rintro e w3 ⟨rfl, hg3⟩; obtain ⟨c4, w4, hcv4, hc4, hr4, hg4⟩ := run_tobytes w3 T1; rw [ht1.out] at hcv4)
    | (go_at_call 22; clear hcv4; go_must (refine (new_any _ t1 c4 T1 ht1.out (by omega) w4 hr4).mono ?_); rintro e w5 ⟨gr, rfl, hgr4, hrd5, hg5⟩))
  have hg25 : Hid (GrM w2 w5) := Lib.hid (GrM.trans hg3 (GrM.trans hg4 hg5))
  have hgrs : Hid (w2.heap.size ≤ gr) := Lib.hid (by have h1 := RowKit.Below.size hg3; have h2 := RowKit.Below.size hg4; omega)
  replace hrd5 : Hid (Rdr w5 gr (some (flatT P))) := Lib.hid (by rw [← hTf.out]; exact hrd5)
  clear hg3 hg4 hg5 hr4 hgr4 hc4
  obtain ⟨lo3, hlo3⟩ : ∃ lo3, w5.heap.size = lo3 := ⟨_, rfl⟩
  have hgr3 : gr < lo3 := by rw [← hlo3]; exact hrd5.out.lt
  have hnew := Lib.hid (new22_any w5)
  rw [hlo3] at hnew
  go_upto_region 4 with (go_at_call 8; go_must (refine hnew.out.mono ?_); rintro e w6 ⟨g3, b3, rfl, hm3, hg6⟩)
  have hgl3 := hm3.out.gl
  have hbl3 := hm3.out.bl
  have hrd6 := Rdr.gr hrd5 hg6
  obtain ⟨S0, hS0⟩ : ∃ S0, w2.heap.size = S0 := ⟨_, rfl⟩
  rw [hS0] at hgrs
  have hq6 : Hid (Below S0 w2 w6) := Lib.hid (by rw [← hS0]; exact GrM.trans hg25.out hg6)
  have hS3 : S0 ≤ lo3 := by have := hgrs.out; omega
  have hSg : Hid (∀ x, Below S0 w2 x → GrM w2 x) := Lib.hid (fun x h => by unfold GrM; rw [hS0]; exact h)
  have hSz : Hid (∀ x, Below S0 w2 x → S0 ≤ x.heap.size) := Lib.hid (fun x h => by rw [← hS0]; exact h.size)
  have hlo6 : Hid (lo3 ≤ w6.heap.size) := Lib.hid (by rw [← hlo3]; exact RowKit.Below.size hg6)
  replace hlo3 := Lib.hid hlo3
  replace hS0 := Lib.hid hS0
  clear hnew hrd5 hg6 hg25
  go_wp2_with fail
  go_loopw [9, 10] (fun z kk wr => ∃ (i : Nat) (L3 : List En), i ≤ N ∧ z = .int .i64 i ∧ Hid (Md wr lo3 g3 b3 i L3) ∧ Hid (Rdr wr gr (some (flatT (P.drop i)))) ∧ Hid (Below S0 w2 wr) ∧ Hid (lo3 ≤ wr.heap.size) ∧ Hid (pairsOf L3 = P.take i)) (fun z _ _ => (N - intOf z).toNat)
  case atStart => exact ⟨0, [], Nat.zero_le _, rfl, hm3, hrd6, hq6, hlo6, Lib.hid rfl⟩
  case round =>
    obtain ⟨i, L3, hiN, rfl, hmr, hrr, hqr, hlr, hpr⟩ := hrel
    clear hm3 hrd6 hq6 hlo6
    have hkeys := Lib.hid (keys22_any lo1 g1 b1 n1 L1 (by have := hl1.out; omega) wr (Md.below (hSg.out _ hqr.out) hm1))
    rw [hN.out] at hkeys
    by_cases hi : i < N
    · have ik : (i : Int) < (N : Int) := by omega
      go_upto_region 7 with (go_at_call 14; go_must (refine hkeys.out.mono ?_); rintro e w7 ⟨v7, rfl, hrow7, hg7⟩; obtain ⟨A7, c7, rfl, -, -⟩ := row_form hrow7)
      obtain ⟨p, hp⟩ : ∃ p, P[i]? = some p := ⟨_, List.getElem?_eq_getElem (by rw [hPN.out]; exact hi)⟩
      have hdr : P.drop i = p :: P.drop (i + 1) := by
        obtain ⟨h1, h2⟩ := List.getElem?_eq_some_iff.mp hp
        rw [← h2]; exact List.drop_eq_getElem_cons h1
      have hsh : Short (p :: P.drop (i + 1)) := fun x hx => hPs.out x (by rw [← hdr] at hx; exact List.mem_of_mem_drop hx)
      obtain ⟨r1, r2⟩ := read_flat hsh
      obtain ⟨hp16, hp512⟩ := hsh p (by simp)
      rw [hdr] at hrr
      have hm7 := Md.below hg7 hmr
      have hr7 := Rdr.gr hrr hg7
      have hq7 : Hid (Below S0 w2 w7) := Lib.hid (hqr.out.trans (Below.mono hg7 (hSz.out _ hqr.out)))
      have hlen1 : (flatT (p :: P.drop (i + 1))).length ≤ 140737488355328 := by
        rw [← hdr]
        have : ∀ q r : List (List UInt8 × List UInt8), (flatT r).length ≤ (flatT (q ++ r)).length := fun q r => by
          induction q with
          | nil => exact Nat.le_refl _
          | cons x q ih => simp only [List.cons_append, flatT, List.length_append] at *; omega
        have h2 := this (P.take i) (P.drop i)
        rw [List.take_append_drop, ← hTf.out, ht1.out] at h2
        omega
      have hlen2 : (enc p.2.length ++ (p.2 ++ flatT (P.drop (i + 1)))).length ≤ 140737488355328 := by
        simp only [flatT, List.length_append] at hlen1 ⊢; omega
      have htx := Lib.hid (rtext_any gr (some (flatT (p :: P.drop (i + 1)))) 16 (by decide) (by decide) w7 hr7.out (fun l hl => by injection hl with hl; rw [← hl]; exact hlen1))
      rw [r1] at htx
      have hnew3 : Hid (hasK L3 p.1 = false) := Lib.hid (again_new hd1.out (by rw [hpr.out, hP.out]) (by rw [hP.out]; exact hp))
      have hput0 : Hid (putE L3 p.1 p.2 = 0) := Lib.hid (by
        have hk1 := (pairsL_at (L := L1) (by rw [hP.out]; exact hp)).1
        obtain ⟨e, he, ee⟩ := keysL_mem.mp (List.mem_of_getElem? hk1)
        have hk2 := (hm1.out.ok e he).1
        have hko : keyOk p.1 = true := by unfold keyOk; rw [decide_eq_true (by rw [← ee]; exact hk2), decide_eq_true hp16]; rfl
        unfold putE
        rw [hko, if_neg (by simp), if_neg (by omega), hnew3.out]; rfl)
      have hpn : Hid (∀ v, pairsOf (L3 ++ [(p.1, v, p.2)]) = P.take (i + 1)) := Lib.hid (fun v => by
        rw [List.take_add_one, hp, ← hpr.out]; unfold pairsOf; rw [List.map_append]; rfl)
      obtain ⟨k, d⟩ := p
      simp only at htx r2 hp16 hp512 hlen2 hnew3 hput0 hpn
      replace hp := Lib.hid hp
      replace hdr := Lib.hid hdr
      clear hkeys hmr hrr hqr hrow7 r1 hsh hlen1
      go_upto_region 8 with (go_at_call 23; go_must (refine htx.out.mono ?_); rintro e w8 ⟨rfl, hr8, hg8⟩)
      have hm8 := Md.row_grown hm7 hg8 hgr3
      have hq8 : Hid (Below S0 w2 w8) := Lib.hid (hq7.out.grown hg8 (hSz.out _ hq7.out) (fun j hj => by injection hj with hj; rw [← hj]; exact hgrs.out))
      have hl8 : Hid (lo3 ≤ w8.heap.size) := Lib.hid (by have h1 := RowKit.Below.size hg7; have h2 := hg8.size; have := hlr.out; omega)
      have htx2 := Lib.hid (rtext_any gr _ 512 (by decide) (by decide) w8 hr8 (fun l hl => by injection hl with hl; rw [← hl]; exact hlen2))
      rw [r2] at htx2
      obtain ⟨dl, hdl⟩ : ∃ dl, d.length = dl := ⟨_, rfl⟩
      clear htx hm7 hr7 hq7 hg7 hg8 hr8 r2 hlen2
      go_upto_region 6 with (first
        | (go_at_call 23; go_must (refine htx2.out.mono ?_); clear htx2; rintro e w9 ⟨rfl, hr9, hg9⟩; obtain ⟨c10, w10, hcv10, hc10, hrb10, hg10⟩ := run_tobytes w9 d; rw [hdl] at hcv10)
        | (go_at_call 11; clear hcv10; have hm10 := Md.below hg10 (Md.row_grown hm8 hg9 hgr3); have hl10 : lo3 ≤ w10.heap.size := (by have h1 := RowKit.Below.size hg10; have h2 := hg9.size; have := hl8.out; omega); go_must (refine (put22_ok lo3 g3 b3 i L3 k d _ dl c10 (by simp only [maxLen]; omega) hdl (by omega) w10 hl10 hm10 hrb10 hput0.out).mono ?_); rintro e w11 ⟨rfl, vv, hm11, hu11⟩))
      have hr10 := Rdr.gr (Lib.hid hr9) hg10
      have hr11 := Rdr.upd hr10 hu11 (by omega)
      have hq9 : Below S0 w2 w9 := hq8.out.grown hg9 (hSz.out _ hq8.out) (fun j hj => by injection hj with hj; rw [← hj]; exact hgrs.out)
      have hq10 : Below S0 w2 w10 := hq9.trans (Below.mono hg10 (hSz.out _ hq9))
      have hq11 : Hid (Below S0 w2 w11) := Lib.hid (Upd.to_below hq10 hu11 (hSz.out _ hq10) (fun j hj => by omega))
      have hl11 : Hid (lo3 ≤ w11.heap.size) := Lib.hid (Nat.le_trans hl10 hu11.2.2.2.1)
      have hp11 := Lib.hid (hpn.out vv)
      clear hr9 hr10 hq9 hq10 hg9 hg10 hrb10 hm10 hl10 hu11
      go_wp2_with fail
      go_roundw
      case rel => exact ⟨i + 1, _, by omega, by go_num, hm11, hr11, hq11, hl11, hp11⟩
      case measure => simp [intOf]; omega
    · obtain rfl : i = N := by omega
      have ik : decide ((i : Int) < (i : Int)) = false := decide_eq_false (by omega)
      clear hi
      have hk1 : Hid (∀ x, GrM w2 x → Calls Try.prog 14 #[.pointer (some ⟨g1, 0, none⟩)] x fun e w' => ∃ v, e = .returned v ∧ Hid (Txts (keysL L1) v w') ∧ GrM x w') := Lib.hid (fun x hg => by
        refine (keys22_any lo1 g1 b1 n1 L1 (by have := hl1.out; omega) x (Md.below hg hm1)).mono ?_
        rintro e w' ⟨v, h1, h2, h3⟩
        exact ⟨v, h1, Lib.hid ⟨x.heap.size, by rw [keysL_len]; exact h2⟩, h3⟩)
      have hk2 : Hid (∀ x, GrM w2 x → Calls Try.prog 14 #[.pointer (some ⟨g2, 0, none⟩)] x fun e w' => ∃ v, e = .returned v ∧ Hid (Txts (keysL L2) v w') ∧ GrM x w') := Lib.hid (fun x hg => by
        refine (keys22_any lo2 g2 b2 n2 L2 (by have := hl2.out; omega) x (Md.below hg hm2)).mono ?_
        rintro e w' ⟨v, h1, h2, h3⟩
        exact ⟨v, h1, Lib.hid ⟨x.heap.size, by rw [keysL_len]; exact h2⟩, h3⟩)
      have hK1l : (keysL L1).length ≤ 1000000 := by rw [keysL_len]; have := hl1.out; omega
      have hK2l : (keysL L2).length ≤ 1000000 := by rw [keysL_len]; have := hl2.out; omega
      go_upto_region 10 with (go_at_call 14; go_must (refine hkeys.out.mono ?_); rintro e w7 ⟨v7, rfl, hrow7, hg7⟩; obtain ⟨A7, c7, rfl, -, -⟩ := row_form hrow7)
      have hm7 := Md.below hg7 hmr
      have hr7 := Rdr.gr hrr hg7
      have hq7 : Hid (GrM w2 w7) := Lib.hid (hSg.out _ (hqr.out.trans (Below.mono hg7 (hSz.out _ hqr.out))))
      have hdrop : flatT (P.drop i) = [] := by rw [List.drop_eq_nil_of_le (by rw [hPN.out]; exact Nat.le_refl _)]; rfl
      rw [hdrop] at hr7
      have hpa : pairsOf L3 = pairsL L1 := by rw [hpr.out, hP.out, List.take_of_length_le (by rw [hPN.out]; exact Nat.le_refl _)]
      have hT3 : Hid (textL L3 = T1) := Lib.hid (by rw [again_text hm7.out.dist hpa, hT1.out])
      have hL3 : Hid (L3.length = i) := Lib.hid (by have := congrArg List.length hpa; unfold pairsOf at this; rw [List.length_map, pairsL_len, hN.out] at this; exact this)
      clear hkeys hmr hrr hqr hlr hpr hrow7 hg7 hdrop hpa
      have hkm := Lib.hid (hk1.out w7 hq7.out)
      obtain ⟨lk, hlk⟩ : ∃ lk, (keysL L1 == keysL L2) = lk := ⟨_, rfl⟩
      go_upto_region 11 with (first
        | (go_at_call 14; refine hkm.out.mono ?_; clear hkm; rintro e w8 ⟨v8, rfl, ht8, hg8⟩; have hkn := Lib.hid (hk2.out w8 (GrM.trans hq7.out hg8)))
        | (go_at_call 14; refine hkn.out.mono ?_; clear hkn; rintro e w9 ⟨v9, rfl, ht9, hg9⟩; have hsm := Lib.hid (same22_any (keysL L1) (keysL L2) v8 v9 w9 (Txts.gr hg9 ht8) ht9 hK1l hK2l); rw [hlk] at hsm)
        | (go_at_call 13; go_must (refine hsm.out.mono ?_); clear hsm; rintro e w10 ⟨rfl, hg10⟩))
      have hq10 : Hid (GrM w7 w10) := Lib.hid (GrM.trans hg8 (GrM.trans hg9 hg10))
      clear hg8 hg9 hg10 ht8 ht9
      have hkm := Lib.hid (hk1.out w10 (GrM.trans hq7.out hq10.out))
      go_upto_region 12 with (go_at_call 14; go_must (refine hkm.out.mono ?_); clear hkm; rintro e w11 ⟨v12, rfl, ht12, hg11⟩)
      have hq11 : Hid (GrM w7 w11) := Lib.hid (GrM.trans hq10.out hg11)
      obtain ⟨A12, c12, rfl, -, -⟩ := ht12.out.form
      have hKN : (keysL L1).length = i := by rw [keysL_len, hN.out]
      rw [hKN] at ht12 ⊢
      replace hKN := Lib.hid hKN
      replace hlk := Lib.hid hlk
      clear hg11 hq10 hk1 hk2
      go_wp2_with fail
      go_loopw [11, 13] (fun s z wq => ∃ j : Nat, j ≤ i ∧ z = .int .i64 j ∧ s = .bool (lk && ((keysL L1).take j).all (fun k => dataOf L1 k == dataOf L2 k)) ∧ Hid (GrM w11 wq)) (fun _ z _ => (i - intOf z).toNat)
      case atStart => exact ⟨0, Nat.zero_le _, rfl, by simp, Lib.hid (GrM.refl _)⟩
      case round =>
        rename World => wq
        obtain ⟨j, hj, rfl, rfl, hgq⟩ := hrel
        have hq2q : Hid (GrM w2 wq) := Lib.hid (GrM.trans hq7.out (GrM.trans hq11.out hgq.out))
        by_cases hji : j < i
        · have ij : (j : Int) < (i : Int) := by omega
          obtain ⟨gk, rfl, hgk, hck⟩ := (Txts.gr hgq.out ht12).out.cells (by omega)
          obtain ⟨k, hk⟩ : ∃ k, (keysL L1)[j]? = some k := ⟨_, List.getElem?_eq_getElem (by rw [hKN.out]; exact hji)⟩
          have ck := hck j k hk
          obtain ⟨e0, he0, hek⟩ := keysL_mem.mp (List.mem_of_getElem? hk)
          have hkl : k.length ≤ maxLen := by rw [← hek]; have := (hok1.out e0 he0).1; simp only [maxLen]; omega
          have hga := Lib.hid (get22_gr lo1 g1 b1 n1 L1 k hkl wq (Md.below hq2q.out hm1))
          have hgb : Hid (∀ x, GrM wq x → Calls Try.prog 18 #[.pointer (some ⟨g2, 0, none⟩), .string (bs k)] x fun e w' => ∃ A c, e = .returned (.tuple #[.slice A (dataOf L2 k).length c, .bool (hasK L2 k)]) ∧ Rd w' w'.heap.size A (dataOf L2 k) ∧ GrM x w') := Lib.hid (fun x hg => get22_gr lo2 g2 b2 n2 L2 k hkl x (Md.below (GrM.trans hq2q.out hg) hm2))
          have hst := all_take (fun k => dataOf L1 k == dataOf L2 k) hk
          obtain ⟨da, hda⟩ : ∃ da, dataOf L1 k = da := ⟨_, rfl⟩
          obtain ⟨db, hdb⟩ : ∃ db, dataOf L2 k = db := ⟨_, rfl⟩
          simp only [hda, hdb] at hst
          rw [hda] at hga
          rw [hdb] at hgb
          obtain ⟨s, hs⟩ : ∃ s, (lk && ((keysL L1).take j).all (fun k => dataOf L1 k == dataOf L2 k)) = s := ⟨_, rfl⟩
          have hnx : Hid ((lk && ((keysL L1).take (j + 1)).all (fun k => dataOf L1 k == dataOf L2 k)) = (s && (da == db))) := Lib.hid (by rw [hst, ← hs, Bool.and_assoc])
          obtain ⟨na, hna⟩ : ∃ na, da.length = na := ⟨_, rfl⟩
          obtain ⟨nb, hnb⟩ : ∃ nb, db.length = nb := ⟨_, rfl⟩
          rw [hna] at hga
          rw [hnb] at hgb
          rw [hs]
          replace hk := Lib.hid hk
          replace hda := Lib.hid hda
          replace hdb := Lib.hid hdb
          replace hna := Lib.hid hna
          replace hnb := Lib.hid hnb
          clear hst hs hck hgk
          go_upto_region 16 with (go_at_call 18; go_must (refine hga.out.mono ?_); rintro e w8 ⟨A8, c8, rfl, hr8, hg8⟩)
          have ck8 := (hg8.cell (p := ⟨gk, j, none⟩) (by have := blk_lt_of_cell ck; exact this)).trans ck
          replace hgb := Lib.hid (hgb.out w8 hg8)
          clear ck
          go_upto_region 17 with (go_at_call 18; go_must (refine hgb.out.mono ?_); rintro e w9 ⟨A9, c9, rfl, hr9, hg9⟩)
          have s1 := run_str_at (n := na) c8 ((hr8.below hg9).more hg9.size) hna.out
          have s2 := run_str_at (n := nb) c9 hr9 hnb.out
          have hg9' : Hid (GrM w11 w9) := Lib.hid (GrM.trans hgq.out (GrM.trans hg8 hg9))
          clear hga hgb hr8 hr9 ck8 hg8 hg9
          cases s with
          | true =>
            go_wp2_with fail
            go_roundw
            case rel => exact ⟨j + 1, by omega, by go_num, by rw [hnx.out]; simp, hg9'⟩
            case measure => simp [intOf]; omega
          | false =>
            go_wp2_with fail
            go_roundw
            case rel => exact ⟨j + 1, by omega, by go_num, by rw [hnx.out]; rfl, hg9'⟩
            case measure => simp [intOf]; omega
        · obtain rfl : j = i := by omega
          have ij : decide ((j : Int) < (j : Int)) = false := decide_eq_false (by omega)
          clear hji
          rw [List.take_of_length_le (by rw [hKN.out]; exact Nat.le_refl _)]
          obtain ⟨T2, hT2⟩ : ∃ T2, textL L2 = T2 := ⟨_, rfl⟩
          obtain ⟨s, hs⟩ : ∃ s, (lk && (keysL L1).all (fun k => dataOf L1 k == dataOf L2 k)) = s := ⟨_, rfl⟩
          have hTT : (T1 == T2) = s := by rw [← hs, ← hlk.out, ← hT1.out, ← hT2]; exact textL_eq hok1.out hd1.out hok2.out hd2.out
          rw [hs]
          have hss : (s == s) = true := by cases s <;> rfl
          have haw := Lib.hid (awake22_any wq)
          have h7q : GrM w7 wq := GrM.trans hq11.out hgq.out
          have hmq := Md.below h7q hm7
          have hrq := Rdr.gr hr7 h7q
          have hX3 : Hid (∀ x, GrM wq x → Calls Try.prog 16 #[.pointer (some ⟨g3, 0, none⟩)] x fun e w'' => e = .returned (.string (bs T1)) ∧ GrM x w'') := Lib.hid (fun x hg => by
            have := text22_any lo3 g3 b3 j L3 (by rw [hL3.out]; omega) x (Md.below hg hmq)
            rw [hT3.out] at this; exact this)
          have hX1 : Hid (∀ x, GrM wq x → Calls Try.prog 16 #[.pointer (some ⟨g1, 0, none⟩)] x fun e w'' => e = .returned (.string (bs T1)) ∧ GrM x w'') := Lib.hid (fun x hg => htx1.out x (GrM.trans hq2q.out hg))
          have hX2 : Hid (∀ x, GrM wq x → Calls Try.prog 16 #[.pointer (some ⟨g2, 0, none⟩)] x fun e w'' => e = .returned (.string (bs T2)) ∧ GrM x w'') := Lib.hid (fun x hg => by
            have := text22_any lo2 g2 b2 n2 L2 (by have := hl2.out; omega) x (Md.below (GrM.trans hq2q.out hg) hm2)
            rw [hT2] at this; exact this)
          have hend : Hid (∀ x, GrM wq x → Calls Try.prog 24 #[.pointer (some ⟨gr, 0, none⟩)] x fun e w'' => e = .returned (.bool true) ∧ x = w'') := Lib.hid (fun x hg => end_any gr (some []) x (Rdr.gr hrq hg).out)
          have htt : (T1 == T1) = true := by simp
          replace hT2 := Lib.hid hT2
          replace hs := Lib.hid hs
          clear hmq hrq h7q
          go_wp2_with (first
            | (go_at_call 20; go_must (refine haw.out.mono ?_); clear haw; rintro e x1 ⟨rfl, hx1⟩; replace hend := Lib.hid (hend.out x1 hx1); replace hX3 := Lib.hid (hX3.out x1 hx1); replace hx1 := Lib.hid hx1)
            | (go_at_call 24; go_must (refine hend.out.mono ?_); clear hend; rintro e w' ⟨rfl, hee⟩; rw [← hee]; clear hee)
            | (go_at_call 16; refine hX3.out.mono ?_; clear hX3; rintro e x2 ⟨rfl, hx2⟩; have hx2' := Lib.hid (GrM.trans hx1.out hx2); have hX1a := Lib.hid (hX1.out x2 hx2'.out))
            | (go_at_call 16; refine hX1a.out.mono ?_; clear hX1a; rintro e x3 ⟨rfl, hx3⟩; have hx3' := Lib.hid (GrM.trans hx2'.out hx3); have hX1b := Lib.hid (hX1.out x3 hx3'.out))
            | (go_at_call 16; refine hX1b.out.mono ?_; clear hX1b; rintro e x4 ⟨rfl, hx4⟩; have hx4' := Lib.hid (GrM.trans hx3'.out hx4); have hX2b := Lib.hid (hX2.out x4 hx4'.out))
            | (go_at_call 16; go_must (refine hX2b.out.mono ?_); clear hX2b; rintro e x5 ⟨rfl, hx5⟩; have hx5' := Lib.hid (GrM.trans hx4'.out hx5)))
          go_ret
          exact ⟨rfl, GrM.trans hgw.out (GrM.trans hq2q.out hx5'.out)⟩
end Go.Proofs.Ytipdjchgdhfciaa
