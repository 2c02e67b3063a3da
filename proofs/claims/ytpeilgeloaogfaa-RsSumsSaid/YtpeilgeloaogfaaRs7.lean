/- rs: the shards of groups put together. -/
import Derived.Test.YtpeilgeloaogfaaRs5
namespace Go.Proofs.Ytpeilgeloaogfaa
set_option linter.unusedVariables false
set_option linter.unusedSimpArgs false
open Go Go.RowKit
def xorTo (l1 l2 : List UInt8) (k : Nat) : List UInt8 := row 128 (fun j => if j < k then l1.getD j 0 ^^^ l2.getD j 0 else 0)
theorem xorTo_zero (l1 l2 : List UInt8) : xorTo l1 l2 0 = List.replicate 128 0 := by
  unfold xorTo
  rw [← row_zero]
  exact row_congr (fun j _ => if_neg (by omega))
theorem xorTo_succ (l1 l2 : List UInt8) (k : Nat) : (xorTo l1 l2 k).set k (l1.getD k 0 ^^^ l2.getD k 0) = xorTo l1 l2 (k + 1) := by
  unfold xorTo
  rw [row_set]
  refine row_congr (fun j _ => ?_)
  by_cases e : j = k
  · subst e; rw [if_pos rfl, if_pos (by omega)]
  · by_cases e2 : j < k
    · rw [if_neg e, if_pos e2, if_pos (by omega)]
    · rw [if_neg e, if_neg e2, if_neg (by omega)]
theorem enc_xor (l1 l2 : List UInt8) (i : Nat) {j : Nat} (hj : j < 16) : encM (xorTo l1 l2 128) i j = encM l1 i j ^^^ encM l2 i j := by
  unfold encM mm
  rw [← gsum_xor]
  refine gsum_congr (fun k hk => ?_)
  rw [← gmul_xor_r]
  congr 1
  unfold partM xorTo
  rw [row_getD (by omega), if_pos (by omega)]
theorem enc_low (l : List UInt8) {i : Nat} (hi : i < 8) (j : Nat) : encM l i j = l.getD (16 * i + j) 0 := by
  rw [encM_eq, encD_low hi]
  unfold partM
  rw [Nat.mul_comm]
theorem TB.byte {w : World} {base g n m : Nat} {G C : Nat → Nat} {M : Mx} (h : TB w base g n m G C M) {i j : Nat} (hi : i < n) (hj : j < m) : w.cell? ⟨G i, j, none⟩ = some (.int .u8 (U (M i j))) := h.at_ hi hj
set_option maxHeartbeats 16000000 in
set_option maxRecDepth 20000 in
theorem rsSums_any (A : Option Addr) (n c : Nat) (l : List UInt8) (hn : Hid (l.length = n)) (hc : n ≤ c) (hcm : c ≤ 9223372036854775807) (A2 : Option Addr) (n2 c2 : Nat) (l2 : List UInt8) (hn2 : Hid (l2.length = n2)) (hc2 : n2 ≤ c2) (hcm2 : c2 ≤ 9223372036854775807) (w : World) (h : Hid (Rd w w.heap.size A l)) (h2 : Hid (Rd w w.heap.size A2 l2)) : Calls Try.prog 13 #[.slice A n c, .slice A2 n2 c2] w fun e w' => e = .returned (.bool true) ∧ Below w.heap.size w w' := by
  have hq : Hid (Gr w w) := Lib.hid (Below.refl _ _)
  go_enter Try.func13, Try.ntmps13
  go_wp2_with fail
  refine (group_p A n c l hn hc hcm w _ hq h).mono ?_
  rintro e w1 ⟨AX, cX, rfl, hX, hr⟩
  replace hq := Gr.go hq hr
  clear hr
  go_wp2_with fail
  refine (group_p A2 n2 c2 l2 hn2 hc2 hcm2 w _ hq h2).mono ?_
  rintro e w2 ⟨AY, cY, rfl, hY, hr⟩
  replace hX := OB.gr hr hX
  replace hq := Gr.go hq hr
  clear hr
  have hlx : Hid ((grp l).length = 128) := Lib.hid (grp_length l)
  have hly : Hid ((grp l2).length = 128) := Lib.hid (grp_length l2)
  generalize grp l = lx at *
  generalize grp l2 = ly at *
  go_upto_region 3 with (refine wpl_make rfl (.const (.int .i64 128)) (.const (.int .i64 128)) rfl w2.heap.size 128 rfl rfl (by omega) (Nat.le_refl _) ?_; intro w3 ho3 hb3; replace ho3 := Lib.hid ho3; replace hb3 := Lib.hid hb3)
  have hz0 : Hid (OB w3 w2.heap.size (.slice (some ⟨w2.heap.size, 0, none⟩) 128 128) (xorTo lx ly 0)) := Lib.hid (by rw [xorTo_zero]; exact ho3.out)
  clear ho3
  go_wp2_with fail
  go_loopw [8] (fun i wr => ∃ k : Nat, k ≤ 128 ∧ i = .int .i64 k ∧ Hid (OB wr w2.heap.size (.slice (some ⟨w2.heap.size, 0, none⟩) 128 128) (xorTo lx ly k)) ∧ Hid (Below w2.heap.size w2 wr)) (fun i _ => 128 - (intOf i).toNat)
  case atStart => exact ⟨0, Nat.zero_le _, rfl, hz0, hb3⟩
  case round =>
    obtain ⟨k, hk, rfl, hz, hb⟩ := hrel
    clear hz0 hb3
    by_cases hlt : k < 128
    · have i128 : (k : Int) < 128 := by omega
      have hk1 : k < lx.length := by rw [hlx.out]; exact hlt
      have hk2 : k < ly.length := by rw [hly.out]; exact hlt
      obtain ⟨ad1, rfl, -, x1⟩ := (OB.rd (hX.out.below hb.out)).1.get (List.getElem?_eq_getElem hk1)
      obtain ⟨ad2, rfl, -, x2⟩ := (OB.rd (hY.out.below hb.out)).1.get (List.getElem?_eq_getElem hk2)
      have v1 : Hid (lx.getD k 0 = lx[k]) := Lib.hid (by rw [List.getD_eq_getElem?_getD, List.getElem?_eq_getElem hk1]; rfl)
      have v2 : Hid (ly.getD k 0 = ly[k]) := Lib.hid (by rw [List.getD_eq_getElem?_getD, List.getElem?_eq_getElem hk2]; rfl)
      obtain ⟨a1, ha1⟩ : ∃ a1, lx[k] = a1 := ⟨_, rfl⟩
      obtain ⟨a2, ha2⟩ : ∃ a2, ly[k] = a2 := ⟨_, rfl⟩
      rw [ha1] at x1 v1
      rw [ha2] at x2 v2
      replace ha1 := Lib.hid ha1
      replace ha2 := Lib.hid ha2
      replace hk1 := Lib.hid hk1
      replace hk2 := Lib.hid hk2
      go_wp2_with fail
      obtain ⟨wd, hwd⟩ : ∃ wd, wd = wr.drew := ⟨_, rfl⟩
      have hzd : OB wd w2.heap.size (.slice (some ⟨w2.heap.size, 0, none⟩) 128 128) (xorTo lx ly k) := by rw [hwd]; exact hz.out.drew
      have hbd : Below w2.heap.size w2 wd := by rw [hwd]; exact hb.out.drew
      have y1 : wd.cell? (ad1.add k) = some (.int .u8 (U a1)) := by rw [hwd]; exact x1
      have y2 : wd.cell? (ad2.add k) = some (.int .u8 (U a2)) := by rw [hwd]; exact x2
      obtain ⟨g5, eg5, hg5, hg5', hc5, hf5, hst5⟩ := hzd.store (k := k) (by unfold xorTo; rw [row_length]; exact hlt)
      injection eg5 with eg5
      injection eg5 with eg5 _ _
      subst eg5
      have hnew : Hid (OB (wd.setCell ⟨w2.heap.size, k, none⟩ (.int .u8 (U (a1 ^^^ a2)))) w2.heap.size (.slice (some ⟨w2.heap.size, 0, none⟩) 128 128) (xorTo lx ly (k + 1))) := Lib.hid (by rw [← xorTo_succ, v1.out, v2.out]; exact hst5 _)
      have hbn : Hid (Below w2.heap.size w2 (wd.setCell ⟨w2.heap.size, k, none⟩ (.int .u8 (U (a1 ^^^ a2))))) := Lib.hid (hbd.setCell (p := ⟨w2.heap.size, k, none⟩) (Nat.le_refl _) _)
      clear hst5 hzd hbd x1 x2 hz hb
      refine wpR_region (Eq) 12 (by kernel_rfl) ?_
      (rw [← hwd]; replace hwd := Lib.hid hwd)
      refine wpR_take (i := 0) (v := ?_) (⟨fun _ => rfl, Eq.trans⟩) (some 26) rfl (by kernel_rfl) (by kernel_rfl) (by kernel_rfl) (by kernel_rfl) (by kernel_rfl) (fun _ _ _ h => h) (by kernel_rfl) (fun w' hw' => ?_) ?_
      rotate_left
      · go_simp; with_reducible rfl
      simp only [Act.put, List.setIfInBounds_toArray, List.set_cons_zero, List.set_cons_succ]
      refine wpR_take (i := 1) (v := ?_) (⟨fun _ => rfl, Eq.trans⟩) (some 27) rfl (by kernel_rfl) (by kernel_rfl) (by kernel_rfl) (by kernel_rfl) (by kernel_rfl) (fun _ _ _ h => h) (by kernel_rfl) (fun w' hw' => ?_) ?_
      rotate_left
      · go_simp; with_reducible rfl
      simp only [Act.put, List.setIfInBounds_toArray, List.set_cons_zero, List.set_cons_succ]
      refine wpR_take (i := 2) (v := ?_) (⟨fun _ => rfl, Eq.trans⟩) (some 28) rfl (by kernel_rfl) (by kernel_rfl) (by kernel_rfl) (by kernel_rfl) (by kernel_rfl) (fun _ _ _ h => h) (by kernel_rfl) (fun w' hw' => ?_) ?_
      rotate_left
      · go_simp; with_reducible rfl
      simp only [Act.put, List.setIfInBounds_toArray, List.set_cons_zero, List.set_cons_succ]
      refine wpR_take (i := 3) (v := ?_) (⟨fun _ => rfl, Eq.trans⟩) (some 29) rfl (by kernel_rfl) (by kernel_rfl) (by kernel_rfl) (by kernel_rfl) (by kernel_rfl) (fun _ _ _ h => h) (by kernel_rfl) (fun w' hw' => ?_) ?_
      rotate_left
      · go_simp; with_reducible rfl
      simp only [Act.put, List.setIfInBounds_toArray, List.set_cons_zero, List.set_cons_succ]
      refine wpR_take (i := 4) (v := ?_) (⟨fun _ => rfl, Eq.trans⟩) (some 30) rfl (by kernel_rfl) (by kernel_rfl) (by kernel_rfl) (by kernel_rfl) (by kernel_rfl) (fun _ _ _ h => h) (by kernel_rfl) (fun w' hw' => ?_) ?_
      rotate_left
      · go_simp; with_reducible rfl
      simp only [Act.put, List.setIfInBounds_toArray, List.set_cons_zero, List.set_cons_succ]
      refine wpR_take (i := 5) (v := ?_) (⟨fun _ => rfl, Eq.trans⟩) (some 31) rfl (by kernel_rfl) (by kernel_rfl) (by kernel_rfl) (by kernel_rfl) (by kernel_rfl) (fun _ _ _ h => h) (by kernel_rfl) (fun w' hw' => ?_) ?_
      rotate_left
      · subst hw'; go_simp; with_reducible rfl
      simp only [Act.put, List.setIfInBounds_toArray, List.set_cons_zero, List.set_cons_succ]
      refine wpR_take (i := 6) (v := ?_) (⟨fun _ => rfl, Eq.trans⟩) (some 32) rfl (by kernel_rfl) (by kernel_rfl) (by kernel_rfl) (by kernel_rfl) (by kernel_rfl) (fun _ _ _ h => h) (by kernel_rfl) (fun w' hw' => ?_) ?_
      rotate_left
      · go_simp; with_reducible rfl
      simp only [Act.put, List.setIfInBounds_toArray, List.set_cons_zero, List.set_cons_succ]
      refine wpR_take (i := 7) (v := ?_) (⟨fun _ => rfl, Eq.trans⟩) (some 33) rfl (by kernel_rfl) (by kernel_rfl) (by kernel_rfl) (by kernel_rfl) (by kernel_rfl) (fun _ _ _ h => h) (by kernel_rfl) (fun w' hw' => ?_) ?_
      rotate_left
      · go_simp; with_reducible rfl
      simp only [Act.put, List.setIfInBounds_toArray, List.set_cons_zero, List.set_cons_succ]
      refine wpR_take (i := 8) (v := ?_) (⟨fun _ => rfl, Eq.trans⟩) (some 34) rfl (by kernel_rfl) (by kernel_rfl) (by kernel_rfl) (by kernel_rfl) (by kernel_rfl) (fun _ _ _ h => h) (by kernel_rfl) (fun w' hw' => ?_) ?_
      rotate_left
      · go_simp; with_reducible rfl
      simp only [Act.put, List.setIfInBounds_toArray, List.set_cons_zero, List.set_cons_succ]
      refine wpR_take (i := 9) (v := ?_) (⟨fun _ => rfl, Eq.trans⟩) (some 35) rfl (by kernel_rfl) (by kernel_rfl) (by kernel_rfl) (by kernel_rfl) (by kernel_rfl) (fun _ _ _ h => h) (by kernel_rfl) (fun w' hw' => ?_) ?_
      rotate_left
      · subst hw'; go_simp; with_reducible rfl
      simp only [Act.put, List.setIfInBounds_toArray, List.set_cons_zero, List.set_cons_succ]
      refine wpR_take (i := 10) (v := ?_) (⟨fun _ => rfl, Eq.trans⟩) (some 36) rfl (by kernel_rfl) (by kernel_rfl) (by kernel_rfl) (by kernel_rfl) (by kernel_rfl) (fun _ _ _ h => h) (by kernel_rfl) (fun w' hw' => ?_) ?_
      rotate_left
      · go_simp; with_reducible rfl
      simp only [Act.put, List.setIfInBounds_toArray, List.set_cons_zero, List.set_cons_succ]
      refine wpR_take (i := 11) (v := ?_) (⟨fun _ => rfl, Eq.trans⟩) (some 37) rfl (by kernel_rfl) (by kernel_rfl) (by kernel_rfl) (by kernel_rfl) (by kernel_rfl) (fun _ _ _ h => h) (by kernel_rfl) (fun w' hw' => ?_) ?_
      rotate_left
      · go_simp; with_reducible rfl
      simp only [Act.put, List.setIfInBounds_toArray, List.set_cons_zero, List.set_cons_succ]
      refine wpR_one 12 rfl (by kernel_rfl) (by kernel_rfl) (fun K hK => ?_)
      go_simp
      refine hK _ _ (fun h => absurd h (by decide)) ?_
      clear hK K
      try simp only [Act.put, List.setIfInBounds_toArray, List.set_cons_zero, List.set_cons_succ]
      refine wpR_done (by kernel_rfl) ?_ _
      go_wp2_with fail
      go_roundw
      case rel => first | exact ⟨k + 1, by omega, by go_num, hnew, hbn⟩ | ((repeat apply Exists.intro); exact ⟨⟨k + 1, by omega, by go_num, hnew, hbn⟩, rfl⟩)
      case measure => simp [intOf]; omega
    · obtain rfl : k = 128 := by omega
      have i128 : decide (((128 : Nat) : Int) < 128) = false := by decide
      have hr : Gr w2 wr := hb.out
      replace hX := OB.gr hr hX
      replace hY := OB.gr hr hY
      have hz2 : Hid (OB wr w.heap.size (.slice (some ⟨w2.heap.size, 0, none⟩) 128 128) (xorTo lx ly 128)) := Lib.hid (hz.out.more hq.out.size)
      replace hq := Gr.go hq hr
      have hlz : Hid ((xorTo lx ly 128).length = 128) := Lib.hid (row_length _ _)
      have hlzz := Lib.hid (fun i j (hj : j < 16) => enc_xor lx ly i hj)
      obtain ⟨lz, hlzd⟩ : ∃ lz, xorTo lx ly 128 = lz := ⟨_, rfl⟩
      rw [hlzd] at hz2 hlz hlzz
      replace hlzd := Lib.hid hlzd
      clear hz hb hr
      go_wp2_with fail
      refine (enc_p w _ hq hlx hX).mono ?_
      rintro e w4 ⟨g1, G1, C1, rfl, hP, hr⟩
      replace hX := OB.gr hr hX
      replace hY := OB.gr hr hY
      replace hz2 := OB.gr hr hz2
      replace hq := Gr.go hq hr
      clear hr
      go_wp2_with fail
      refine (enc_p w _ hq hly hY).mono ?_
      rintro e w5 ⟨g2, G2, C2, rfl, hS, hr⟩
      replace hX := OB.gr hr hX
      replace hz2 := OB.gr hr hz2
      replace hP := TB.gr hr hP
      replace hq := Gr.go hq hr
      clear hr
      go_wp2_with fail
      refine (enc_p w _ hq hlz hz2).mono ?_
      rintro e w6 ⟨g3, G3, C3, rfl, hB, hr⟩
      replace hX := OB.gr hr hX
      replace hP := TB.gr hr hP
      replace hS := TB.gr hr hS
      replace hq := Gr.go hq hr
      clear hr
      go_wp2_with fail
      go_loopw [15] (fun i wr => ∃ k : Nat, k ≤ 10 ∧ i = .int .i64 k ∧ Hid (Gr w6 wr)) (fun i _ => 10 - (intOf i).toNat)
      case atStart => exact ⟨0, Nat.zero_le _, rfl, Lib.hid (Below.refl _ _)⟩
      case round =>
        obtain ⟨i, hi, rfl, hg⟩ := hrel
        by_cases hlt : i < 10
        · have i10 : (i : Int) < 10 := by omega
          obtain ⟨p1, -⟩ := (TB.gr hg.out hP).out.row_at hlt
          obtain ⟨p2, -⟩ := (TB.gr hg.out hS).out.row_at hlt
          obtain ⟨p3, -⟩ := (TB.gr hg.out hB).out.row_at hlt
          obtain ⟨wo, hwo⟩ : ∃ wo, wo = wr := ⟨_, rfl⟩
          subst hwo
          go_wp2_with fail
          clear p1 p2 p3
          go_loopw [16] (fun j wr => ∃ k : Nat, k ≤ 16 ∧ j = .int .i64 k ∧ Hid (Gr w6 wr)) (fun j _ => 16 - (intOf j).toNat)
          case atStart => exact ⟨0, Nat.zero_le _, rfl, hg⟩
          case round =>
            obtain ⟨j, hj, rfl, hg2⟩ := hrel
            by_cases hlj : j < 16
            · have j16 : (j : Int) < 16 := by omega
              obtain ⟨p1, -⟩ := (TB.gr hg2.out hP).out.row_at hlt
              obtain ⟨p2, -⟩ := (TB.gr hg2.out hS).out.row_at hlt
              obtain ⟨p3, -⟩ := (TB.gr hg2.out hB).out.row_at hlt
              have b1 := (TB.gr hg2.out hP).out.byte hlt hlj
              have b2 := (TB.gr hg2.out hS).out.byte hlt hlj
              have b3 := (TB.gr hg2.out hB).out.byte hlt hlj
              rw [hlzz.out i j hlj] at b3
              by_cases h8 : i < 8
              · have j8 : (i : Int) < 8 := by omega
                have hij : 16 * i + j < lx.length := by rw [hlx.out]; omega
                obtain ⟨ad, rfl, -, b4⟩ := (OB.rd (OB.gr hg2.out hX).out).1.get (List.getElem?_eq_getElem hij)
                have v4 : lx[16 * i + j] = encM lx i j := by rw [enc_low lx h8, List.getD_eq_getElem?_getD, List.getElem?_eq_getElem hij]; rfl
                rw [v4] at b4
                obtain ⟨a1, ha1⟩ : ∃ a1, encM lx i j = a1 := ⟨_, rfl⟩
                obtain ⟨a2, ha2⟩ : ∃ a2, encM ly i j = a2 := ⟨_, rfl⟩
                rw [ha1] at b1 b3 b4
                rw [ha2] at b2 b3
                obtain ⟨s, hs⟩ : ∃ s, 16 * i = s := ⟨_, rfl⟩
                rw [hs] at b4 hij
                have hw1 : IntKind.i64.wrap (16 * (i : Int)) = (s : Int) := by rw [IntKind.wrap_i64]; omega
                obtain ⟨t, ht⟩ : ∃ t, s + j = t := ⟨_, rfl⟩
                rw [ht] at b4 hij
                have hw2 : IntKind.i64.wrap ((s : Int) + (j : Int)) = (t : Int) := by rw [IntKind.wrap_i64]; omega
                have ht128 : (t : Int) < 128 := by omega
                have ht128n : t < 128 := by omega
                replace ha1 := Lib.hid ha1
                replace ha2 := Lib.hid ha2
                replace hs := Lib.hid hs
                replace ht := Lib.hid ht
                replace hij := Lib.hid hij
                clear v4
                go_wp2_with fail
                obtain ⟨wd, hwd⟩ : ∃ wd, wd = wr.drew := ⟨_, rfl⟩
                have hgd : Hid (Gr w6 wd) := Lib.hid (by rw [hwd]; exact hg2.out.drew)
                have y1 : wd.cell? ⟨g1, i, none⟩ = some (.slice (some ⟨G1 i, 0, none⟩) 16 (C1 i)) := by rw [hwd]; exact p1
                have y2 : wd.cell? ⟨g2, i, none⟩ = some (.slice (some ⟨G2 i, 0, none⟩) 16 (C2 i)) := by rw [hwd]; exact p2
                have y3 : wd.cell? ⟨g3, i, none⟩ = some (.slice (some ⟨G3 i, 0, none⟩) 16 (C3 i)) := by rw [hwd]; exact p3
                have y4 : wd.cell? ⟨G1 i, j, none⟩ = some (.int .u8 (U a1)) := by rw [hwd]; exact b1
                have y5 : wd.cell? ⟨G2 i, j, none⟩ = some (.int .u8 (U a2)) := by rw [hwd]; exact b2
                have y6 : wd.cell? ⟨G3 i, j, none⟩ = some (.int .u8 (U (a1 ^^^ a2))) := by rw [hwd]; exact b3
                have y7 : wd.cell? (ad.add t) = some (.int .u8 (U a1)) := by rw [hwd]; exact b4
                clear p1 p2 p3 b1 b2 b3 b4
                refine wpR_region (Eq) 9999 (by kernel_rfl) ?_
                (rw [← hwd]; replace hwd := Lib.hid hwd)
                refine wpR_take (i := 0) (v := ?_) (⟨fun _ => rfl, Eq.trans⟩) (some 108) rfl (by kernel_rfl) (by kernel_rfl) (by kernel_rfl) (by kernel_rfl) (by kernel_rfl) (fun _ _ _ h => h) (by kernel_rfl) (fun w' hw' => ?_) ?_
                rotate_left
                · go_simp; with_reducible rfl
                simp only [Act.put, List.setIfInBounds_toArray, List.set_cons_zero, List.set_cons_succ]
                refine wpR_take (i := 1) (v := ?_) (⟨fun _ => rfl, Eq.trans⟩) (some 109) rfl (by kernel_rfl) (by kernel_rfl) (by kernel_rfl) (by kernel_rfl) (by kernel_rfl) (fun _ _ _ h => h) (by kernel_rfl) (fun w' hw' => ?_) ?_
                rotate_left
                · go_simp; with_reducible rfl
                simp only [Act.put, List.setIfInBounds_toArray, List.set_cons_zero, List.set_cons_succ]
                refine wpR_take (i := 2) (v := ?_) (⟨fun _ => rfl, Eq.trans⟩) (some 110) rfl (by kernel_rfl) (by kernel_rfl) (by kernel_rfl) (by kernel_rfl) (by kernel_rfl) (fun _ _ _ h => h) (by kernel_rfl) (fun w' hw' => ?_) ?_
                rotate_left
                · go_simp; with_reducible rfl
                simp only [Act.put, List.setIfInBounds_toArray, List.set_cons_zero, List.set_cons_succ]
                refine wpR_take (i := 3) (v := ?_) (⟨fun _ => rfl, Eq.trans⟩) (some 111) rfl (by kernel_rfl) (by kernel_rfl) (by kernel_rfl) (by kernel_rfl) (by kernel_rfl) (fun _ _ _ h => h) (by kernel_rfl) (fun w' hw' => ?_) ?_
                rotate_left
                · subst hw'; go_simp; with_reducible rfl
                simp only [Act.put, List.setIfInBounds_toArray, List.set_cons_zero, List.set_cons_succ]
                refine wpR_take (i := 4) (v := ?_) (⟨fun _ => rfl, Eq.trans⟩) (some 112) rfl (by kernel_rfl) (by kernel_rfl) (by kernel_rfl) (by kernel_rfl) (by kernel_rfl) (fun _ _ _ h => h) (by kernel_rfl) (fun w' hw' => ?_) ?_
                rotate_left
                · go_simp; with_reducible rfl
                simp only [Act.put, List.setIfInBounds_toArray, List.set_cons_zero, List.set_cons_succ]
                refine wpR_take (i := 5) (v := ?_) (⟨fun _ => rfl, Eq.trans⟩) (some 113) rfl (by kernel_rfl) (by kernel_rfl) (by kernel_rfl) (by kernel_rfl) (by kernel_rfl) (fun _ _ _ h => h) (by kernel_rfl) (fun w' hw' => ?_) ?_
                rotate_left
                · go_simp; with_reducible rfl
                simp only [Act.put, List.setIfInBounds_toArray, List.set_cons_zero, List.set_cons_succ]
                refine wpR_take (i := 6) (v := ?_) (⟨fun _ => rfl, Eq.trans⟩) (some 114) rfl (by kernel_rfl) (by kernel_rfl) (by kernel_rfl) (by kernel_rfl) (by kernel_rfl) (fun _ _ _ h => h) (by kernel_rfl) (fun w' hw' => ?_) ?_
                rotate_left
                · subst hw'; go_simp; with_reducible rfl
                simp only [Act.put, List.setIfInBounds_toArray, List.set_cons_zero, List.set_cons_succ]
                refine wpR_take (i := 7) (v := ?_) (⟨fun _ => rfl, Eq.trans⟩) (some 115) rfl (by kernel_rfl) (by kernel_rfl) (by kernel_rfl) (by kernel_rfl) (by kernel_rfl) (fun _ _ _ h => h) (by kernel_rfl) (fun w' hw' => ?_) ?_
                rotate_left
                · go_simp; with_reducible rfl
                simp only [Act.put, List.setIfInBounds_toArray, List.set_cons_zero, List.set_cons_succ]
                refine wpR_take (i := 8) (v := ?_) (⟨fun _ => rfl, Eq.trans⟩) (some 116) rfl (by kernel_rfl) (by kernel_rfl) (by kernel_rfl) (by kernel_rfl) (by kernel_rfl) (fun _ _ _ h => h) (by kernel_rfl) (fun w' hw' => ?_) ?_
                rotate_left
                · go_simp; with_reducible rfl
                simp only [Act.put, List.setIfInBounds_toArray, List.set_cons_zero, List.set_cons_succ]
                refine wpR_take (i := 9) (v := ?_) (⟨fun _ => rfl, Eq.trans⟩) (some 117) rfl (by kernel_rfl) (by kernel_rfl) (by kernel_rfl) (by kernel_rfl) (by kernel_rfl) (fun _ _ _ h => h) (by kernel_rfl) (fun w' hw' => ?_) ?_
                rotate_left
                · go_simp; with_reducible rfl
                simp only [Act.put, List.setIfInBounds_toArray, List.set_cons_zero, List.set_cons_succ]
                refine wpR_take (i := 10) (v := ?_) (⟨fun _ => rfl, Eq.trans⟩) (some 118) rfl (by kernel_rfl) (by kernel_rfl) (by kernel_rfl) (by kernel_rfl) (by kernel_rfl) (fun _ _ _ h => h) (by kernel_rfl) (fun w' hw' => ?_) ?_
                rotate_left
                · subst hw'; go_simp; with_reducible rfl
                simp only [Act.put, List.setIfInBounds_toArray, List.set_cons_zero, List.set_cons_succ]
                refine wpR_take (i := 11) (v := ?_) (⟨fun _ => rfl, Eq.trans⟩) (some 119) rfl (by kernel_rfl) (by kernel_rfl) (by kernel_rfl) (by kernel_rfl) (by kernel_rfl) (fun _ _ _ h => h) (by kernel_rfl) (fun w' hw' => ?_) ?_
                rotate_left
                · go_simp; with_reducible rfl
                simp only [Act.put, List.setIfInBounds_toArray, List.set_cons_zero, List.set_cons_succ]
                refine wpR_take (i := 12) (v := ?_) (⟨fun _ => rfl, Eq.trans⟩) (some 120) rfl (by kernel_rfl) (by kernel_rfl) (by kernel_rfl) (by kernel_rfl) (by kernel_rfl) (fun _ _ _ h => h) (by kernel_rfl) (fun w' hw' => ?_) ?_
                rotate_left
                · go_simp; with_reducible rfl
                simp only [Act.put, List.setIfInBounds_toArray, List.set_cons_zero, List.set_cons_succ]
                refine wpR_take (i := 13) (v := ?_) (⟨fun _ => rfl, Eq.trans⟩) (some 121) rfl (by kernel_rfl) (by kernel_rfl) (by kernel_rfl) (by kernel_rfl) (by kernel_rfl) (fun _ _ _ h => h) (by kernel_rfl) (fun w' hw' => ?_) ?_
                rotate_left
                · subst hw'; go_simp; with_reducible rfl
                simp only [Act.put, List.setIfInBounds_toArray, List.set_cons_zero, List.set_cons_succ]
                refine wpR_take (i := 14) (v := ?_) (⟨fun _ => rfl, Eq.trans⟩) (some 122) rfl (by kernel_rfl) (by kernel_rfl) (by kernel_rfl) (by kernel_rfl) (by kernel_rfl) (fun _ _ _ h => h) (by kernel_rfl) (fun w' hw' => ?_) ?_
                rotate_left
                · go_simp; with_reducible rfl
                simp only [Act.put, List.setIfInBounds_toArray, List.set_cons_zero, List.set_cons_succ]
                refine wpR_take (i := 15) (v := ?_) (⟨fun _ => rfl, Eq.trans⟩) (some 123) rfl (by kernel_rfl) (by kernel_rfl) (by kernel_rfl) (by kernel_rfl) (by kernel_rfl) (fun _ _ _ h => h) (by kernel_rfl) (fun w' hw' => ?_) ?_
                rotate_left
                · go_simp; with_reducible rfl
                simp only [Act.put, List.setIfInBounds_toArray, List.set_cons_zero, List.set_cons_succ]
                refine wpR_take (i := 16) (v := ?_) (⟨fun _ => rfl, Eq.trans⟩) (some 124) rfl (by kernel_rfl) (by kernel_rfl) (by kernel_rfl) (by kernel_rfl) (by kernel_rfl) (fun _ _ _ h => h) (by kernel_rfl) (fun w' hw' => ?_) ?_
                rotate_left
                · go_simp; with_reducible rfl
                simp only [Act.put, List.setIfInBounds_toArray, List.set_cons_zero, List.set_cons_succ]
                refine wpR_take (i := 17) (v := ?_) (⟨fun _ => rfl, Eq.trans⟩) (some 125) rfl (by kernel_rfl) (by kernel_rfl) (by kernel_rfl) (by kernel_rfl) (by kernel_rfl) (fun _ _ _ h => h) (by kernel_rfl) (fun w' hw' => ?_) ?_
                rotate_left
                · go_simp; with_reducible rfl
                simp only [Act.put, List.setIfInBounds_toArray, List.set_cons_zero, List.set_cons_succ]
                refine wpR_take (i := 18) (v := ?_) (⟨fun _ => rfl, Eq.trans⟩) (some 126) rfl (by kernel_rfl) (by kernel_rfl) (by kernel_rfl) (by kernel_rfl) (by kernel_rfl) (fun _ _ _ h => h) (by kernel_rfl) (fun w' hw' => ?_) ?_
                rotate_left
                · subst hw'; go_simp; with_reducible rfl
                simp only [Act.put, List.setIfInBounds_toArray, List.set_cons_zero, List.set_cons_succ]
                refine wpR_take (i := 19) (v := ?_) (⟨fun _ => rfl, Eq.trans⟩) (some 127) rfl (by kernel_rfl) (by kernel_rfl) (by kernel_rfl) (by kernel_rfl) (by kernel_rfl) (fun _ _ _ h => h) (by kernel_rfl) (fun w' hw' => ?_) ?_
                rotate_left
                · go_simp; with_reducible rfl
                simp only [Act.put, List.setIfInBounds_toArray, List.set_cons_zero, List.set_cons_succ]
                refine wpR_take (i := 20) (v := ?_) (⟨fun _ => rfl, Eq.trans⟩) (some 128) rfl (by kernel_rfl) (by kernel_rfl) (by kernel_rfl) (by kernel_rfl) (by kernel_rfl) (fun _ _ _ h => h) (by kernel_rfl) (fun w' hw' => ?_) ?_
                rotate_left
                · go_simp; with_reducible rfl
                simp only [Act.put, List.setIfInBounds_toArray, List.set_cons_zero, List.set_cons_succ]
                refine wpR_take (i := 21) (v := ?_) (⟨fun _ => rfl, Eq.trans⟩) (some 129) rfl (by kernel_rfl) (by kernel_rfl) (by kernel_rfl) (by kernel_rfl) (by kernel_rfl) (fun _ _ _ h => h) (by kernel_rfl) (fun w' hw' => ?_) ?_
                rotate_left
                · subst hw'; go_simp; with_reducible rfl
                simp only [Act.put, List.setIfInBounds_toArray, List.set_cons_zero, List.set_cons_succ]
                refine wpR_take (i := 22) (v := ?_) (⟨fun _ => rfl, Eq.trans⟩) (some 130) rfl (by kernel_rfl) (by kernel_rfl) (by kernel_rfl) (by kernel_rfl) (by kernel_rfl) (fun _ _ _ h => h) (by kernel_rfl) (fun w' hw' => ?_) ?_
                rotate_left
                · go_simp; with_reducible rfl
                simp only [Act.put, List.setIfInBounds_toArray, List.set_cons_zero, List.set_cons_succ]
                refine wpR_take (i := 23) (v := ?_) (⟨fun _ => rfl, Eq.trans⟩) (some 131) rfl (by kernel_rfl) (by kernel_rfl) (by kernel_rfl) (by kernel_rfl) (by kernel_rfl) (fun _ _ _ h => h) (by kernel_rfl) (fun w' hw' => ?_) ?_
                rotate_left
                · go_simp; with_reducible rfl
                simp only [Act.put, List.setIfInBounds_toArray, List.set_cons_zero, List.set_cons_succ]
                refine wpR_take (i := 24) (v := ?_) (⟨fun _ => rfl, Eq.trans⟩) (some 132) rfl (by kernel_rfl) (by kernel_rfl) (by kernel_rfl) (by kernel_rfl) (by kernel_rfl) (fun _ _ _ h => h) (by kernel_rfl) (fun w' hw' => ?_) ?_
                rotate_left
                · go_simp; with_reducible rfl
                simp only [Act.put, List.setIfInBounds_toArray, List.set_cons_zero, List.set_cons_succ]
                refine wpR_take (i := 25) (v := ?_) (⟨fun _ => rfl, Eq.trans⟩) (some 133) rfl (by kernel_rfl) (by kernel_rfl) (by kernel_rfl) (by kernel_rfl) (by kernel_rfl) (fun _ _ _ h => h) (by kernel_rfl) (fun w' hw' => ?_) ?_
                rotate_left
                · go_simp; with_reducible rfl
                simp only [Act.put, List.setIfInBounds_toArray, List.set_cons_zero, List.set_cons_succ]
                refine wpR_take (i := 26) (v := ?_) (⟨fun _ => rfl, Eq.trans⟩) (some 134) rfl (by kernel_rfl) (by kernel_rfl) (by kernel_rfl) (by kernel_rfl) (by kernel_rfl) (fun _ _ _ h => h) (by kernel_rfl) (fun w' hw' => ?_) ?_
                rotate_left
                · go_simp; with_reducible rfl
                simp only [Act.put, List.setIfInBounds_toArray, List.set_cons_zero, List.set_cons_succ]
                refine wpR_take (i := 27) (v := ?_) (⟨fun _ => rfl, Eq.trans⟩) (some 135) rfl (by kernel_rfl) (by kernel_rfl) (by kernel_rfl) (by kernel_rfl) (by kernel_rfl) (fun _ _ _ h => h) (by kernel_rfl) (fun w' hw' => ?_) ?_
                rotate_left
                · go_simp; with_reducible rfl
                simp only [Act.put, List.setIfInBounds_toArray, List.set_cons_zero, List.set_cons_succ]
                refine wpR_take (i := 28) (v := ?_) (⟨fun _ => rfl, Eq.trans⟩) (some 136) rfl (by kernel_rfl) (by kernel_rfl) (by kernel_rfl) (by kernel_rfl) (by kernel_rfl) (fun _ _ _ h => h) (by kernel_rfl) (fun w' hw' => ?_) ?_
                rotate_left
                · go_simp; with_reducible rfl
                simp only [Act.put, List.setIfInBounds_toArray, List.set_cons_zero, List.set_cons_succ]
                refine wpR_take (i := 29) (v := ?_) (⟨fun _ => rfl, Eq.trans⟩) (some 137) rfl (by kernel_rfl) (by kernel_rfl) (by kernel_rfl) (by kernel_rfl) (by kernel_rfl) (fun _ _ _ h => h) (by kernel_rfl) (fun w' hw' => ?_) ?_
                rotate_left
                · go_simp; with_reducible rfl
                simp only [Act.put, List.setIfInBounds_toArray, List.set_cons_zero, List.set_cons_succ]
                refine wpR_take (i := 30) (v := ?_) (⟨fun _ => rfl, Eq.trans⟩) (some 138) rfl (by kernel_rfl) (by kernel_rfl) (by kernel_rfl) (by kernel_rfl) (by kernel_rfl) (fun _ _ _ h => h) (by kernel_rfl) (fun w' hw' => ?_) ?_
                rotate_left
                · subst hw'; go_simp; with_reducible rfl
                simp only [Act.put, List.setIfInBounds_toArray, List.set_cons_zero, List.set_cons_succ]
                refine wpR_take (i := 31) (v := ?_) (⟨fun _ => rfl, Eq.trans⟩) (some 139) rfl (by kernel_rfl) (by kernel_rfl) (by kernel_rfl) (by kernel_rfl) (by kernel_rfl) (fun _ _ _ h => h) (by kernel_rfl) (fun w' hw' => ?_) ?_
                rotate_left
                · go_simp; with_reducible rfl
                simp only [Act.put, List.setIfInBounds_toArray, List.set_cons_zero, List.set_cons_succ]
                refine wpR_take (i := 32) (v := ?_) (⟨fun _ => rfl, Eq.trans⟩) (some 140) rfl (by kernel_rfl) (by kernel_rfl) (by kernel_rfl) (by kernel_rfl) (by kernel_rfl) (fun _ _ _ h => h) (by kernel_rfl) (fun w' hw' => ?_) ?_
                rotate_left
                · go_simp; with_reducible rfl
                simp only [Act.put, List.setIfInBounds_toArray, List.set_cons_zero, List.set_cons_succ]
                refine wpR_take (i := 33) (v := ?_) (⟨fun _ => rfl, Eq.trans⟩) (some 141) rfl (by kernel_rfl) (by kernel_rfl) (by kernel_rfl) (by kernel_rfl) (by kernel_rfl) (fun _ _ _ h => h) (by kernel_rfl) (fun w' hw' => ?_) ?_
                rotate_left
                · subst hw'; go_simp; with_reducible rfl
                simp only [Act.put, List.setIfInBounds_toArray, List.set_cons_zero, List.set_cons_succ]
                refine wpR_take (i := 34) (v := ?_) (⟨fun _ => rfl, Eq.trans⟩) (some 142) rfl (by kernel_rfl) (by kernel_rfl) (by kernel_rfl) (by kernel_rfl) (by kernel_rfl) (fun _ _ _ h => h) (by kernel_rfl) (fun w' hw' => ?_) ?_
                rotate_left
                · go_simp; with_reducible rfl
                simp only [Act.put, List.setIfInBounds_toArray, List.set_cons_zero, List.set_cons_succ]
                refine wpR_take (i := 35) (v := ?_) (⟨fun _ => rfl, Eq.trans⟩) (some 143) rfl (by kernel_rfl) (by kernel_rfl) (by kernel_rfl) (by kernel_rfl) (by kernel_rfl) (fun _ _ _ h => h) (by kernel_rfl) (fun w' hw' => ?_) ?_
                rotate_left
                · go_simp; with_reducible rfl
                simp only [Act.put, List.setIfInBounds_toArray, List.set_cons_zero, List.set_cons_succ]
                refine wpR_take (i := 36) (v := ?_) (⟨fun _ => rfl, Eq.trans⟩) (some 144) rfl (by kernel_rfl) (by kernel_rfl) (by kernel_rfl) (by kernel_rfl) (by kernel_rfl) (fun _ _ _ h => h) (by kernel_rfl) (fun w' hw' => ?_) ?_
                rotate_left
                · go_simp; with_reducible rfl
                simp only [Act.put, List.setIfInBounds_toArray, List.set_cons_zero, List.set_cons_succ]
                refine wpR_take (i := 37) (v := ?_) (⟨fun _ => rfl, Eq.trans⟩) (some 145) rfl (by kernel_rfl) (by kernel_rfl) (by kernel_rfl) (by kernel_rfl) (by kernel_rfl) (fun _ _ _ h => h) (by kernel_rfl) (fun w' hw' => ?_) ?_
                rotate_left
                · go_simp; with_reducible rfl
                simp only [Act.put, List.setIfInBounds_toArray, List.set_cons_zero, List.set_cons_succ]
                refine wpR_take (i := 38) (v := ?_) (⟨fun _ => rfl, Eq.trans⟩) (some 146) rfl (by kernel_rfl) (by kernel_rfl) (by kernel_rfl) (by kernel_rfl) (by kernel_rfl) (fun _ _ _ h => h) (by kernel_rfl) (fun w' hw' => ?_) ?_
                rotate_left
                · go_simp; with_reducible rfl
                simp only [Act.put, List.setIfInBounds_toArray, List.set_cons_zero, List.set_cons_succ]
                refine wpR_take (i := 39) (v := ?_) (⟨fun _ => rfl, Eq.trans⟩) (some 147) rfl (by kernel_rfl) (by kernel_rfl) (by kernel_rfl) (by kernel_rfl) (by kernel_rfl) (fun _ _ _ h => h) (by kernel_rfl) (fun w' hw' => ?_) ?_
                rotate_left
                · go_simp; with_reducible rfl
                simp only [Act.put, List.setIfInBounds_toArray, List.set_cons_zero, List.set_cons_succ]
                refine wpR_take (i := 40) (v := ?_) (⟨fun _ => rfl, Eq.trans⟩) (some 148) rfl (by kernel_rfl) (by kernel_rfl) (by kernel_rfl) (by kernel_rfl) (by kernel_rfl) (fun _ _ _ h => h) (by kernel_rfl) (fun w' hw' => ?_) ?_
                rotate_left
                · subst hw'; go_simp; with_reducible rfl
                simp only [Act.put, List.setIfInBounds_toArray, List.set_cons_zero, List.set_cons_succ]
                refine wpR_take (i := 41) (v := ?_) (⟨fun _ => rfl, Eq.trans⟩) (some 149) rfl (by kernel_rfl) (by kernel_rfl) (by kernel_rfl) (by kernel_rfl) (by kernel_rfl) (fun _ _ _ h => h) (by kernel_rfl) (fun w' hw' => ?_) ?_
                rotate_left
                · go_simp; with_reducible rfl
                simp only [Act.put, List.setIfInBounds_toArray, List.set_cons_zero, List.set_cons_succ]
                refine wpR_take (i := 42) (v := ?_) (⟨fun _ => rfl, Eq.trans⟩) (some 150) rfl (by kernel_rfl) (by kernel_rfl) (by kernel_rfl) (by kernel_rfl) (by kernel_rfl) (fun _ _ _ h => h) (by kernel_rfl) (fun w' hw' => ?_) ?_
                rotate_left
                · go_simp; with_reducible rfl
                simp only [Act.put, List.setIfInBounds_toArray, List.set_cons_zero, List.set_cons_succ]
                refine wpR_take (i := 43) (v := ?_) (⟨fun _ => rfl, Eq.trans⟩) (some 151) rfl (by kernel_rfl) (by kernel_rfl) (by kernel_rfl) (by kernel_rfl) (by kernel_rfl) (fun _ _ _ h => h) (by kernel_rfl) (fun w' hw' => ?_) ?_
                rotate_left
                · go_simp; with_reducible rfl
                simp only [Act.put, List.setIfInBounds_toArray, List.set_cons_zero, List.set_cons_succ]
                refine wpR_done (by kernel_rfl) ?_ _
                go_wp2_with fail
                go_roundw
                case rel => first | exact ⟨j + 1, by omega, by go_num, hgd⟩ | ((repeat apply Exists.intro); exact ⟨⟨j + 1, by omega, by go_num, hgd⟩, rfl⟩)
                case measure => simp [intOf]; omega
              · have j8 : decide ((i : Int) < 8) = false := decide_eq_false (by omega)
                obtain ⟨a1, ha1⟩ : ∃ a1, encM lx i j = a1 := ⟨_, rfl⟩
                obtain ⟨a2, ha2⟩ : ∃ a2, encM ly i j = a2 := ⟨_, rfl⟩
                rw [ha1] at b1 b3
                rw [ha2] at b2 b3
                replace ha1 := Lib.hid ha1
                replace ha2 := Lib.hid ha2
                go_wp2_with fail
                obtain ⟨wd, hwd⟩ : ∃ wd, wd = wr.drew := ⟨_, rfl⟩
                have hgd : Hid (Gr w6 wd) := Lib.hid (by rw [hwd]; exact hg2.out.drew)
                have y1 : wd.cell? ⟨g1, i, none⟩ = some (.slice (some ⟨G1 i, 0, none⟩) 16 (C1 i)) := by rw [hwd]; exact p1
                have y2 : wd.cell? ⟨g2, i, none⟩ = some (.slice (some ⟨G2 i, 0, none⟩) 16 (C2 i)) := by rw [hwd]; exact p2
                have y3 : wd.cell? ⟨g3, i, none⟩ = some (.slice (some ⟨G3 i, 0, none⟩) 16 (C3 i)) := by rw [hwd]; exact p3
                have y4 : wd.cell? ⟨G1 i, j, none⟩ = some (.int .u8 (U a1)) := by rw [hwd]; exact b1
                have y5 : wd.cell? ⟨G2 i, j, none⟩ = some (.int .u8 (U a2)) := by rw [hwd]; exact b2
                have y6 : wd.cell? ⟨G3 i, j, none⟩ = some (.int .u8 (U (a1 ^^^ a2))) := by rw [hwd]; exact b3
                clear p1 p2 p3 b1 b2 b3
                refine wpR_region (Eq) 9999 (by kernel_rfl) ?_
                (rw [← hwd]; replace hwd := Lib.hid hwd)
                refine wpR_take (i := 0) (v := ?_) (⟨fun _ => rfl, Eq.trans⟩) (some 108) rfl (by kernel_rfl) (by kernel_rfl) (by kernel_rfl) (by kernel_rfl) (by kernel_rfl) (fun _ _ _ h => h) (by kernel_rfl) (fun w' hw' => ?_) ?_
                rotate_left
                · go_simp; with_reducible rfl
                simp only [Act.put, List.setIfInBounds_toArray, List.set_cons_zero, List.set_cons_succ]
                refine wpR_take (i := 1) (v := ?_) (⟨fun _ => rfl, Eq.trans⟩) (some 109) rfl (by kernel_rfl) (by kernel_rfl) (by kernel_rfl) (by kernel_rfl) (by kernel_rfl) (fun _ _ _ h => h) (by kernel_rfl) (fun w' hw' => ?_) ?_
                rotate_left
                · go_simp; with_reducible rfl
                simp only [Act.put, List.setIfInBounds_toArray, List.set_cons_zero, List.set_cons_succ]
                refine wpR_take (i := 2) (v := ?_) (⟨fun _ => rfl, Eq.trans⟩) (some 110) rfl (by kernel_rfl) (by kernel_rfl) (by kernel_rfl) (by kernel_rfl) (by kernel_rfl) (fun _ _ _ h => h) (by kernel_rfl) (fun w' hw' => ?_) ?_
                rotate_left
                · go_simp; with_reducible rfl
                simp only [Act.put, List.setIfInBounds_toArray, List.set_cons_zero, List.set_cons_succ]
                refine wpR_take (i := 3) (v := ?_) (⟨fun _ => rfl, Eq.trans⟩) (some 111) rfl (by kernel_rfl) (by kernel_rfl) (by kernel_rfl) (by kernel_rfl) (by kernel_rfl) (fun _ _ _ h => h) (by kernel_rfl) (fun w' hw' => ?_) ?_
                rotate_left
                · subst hw'; go_simp; with_reducible rfl
                simp only [Act.put, List.setIfInBounds_toArray, List.set_cons_zero, List.set_cons_succ]
                refine wpR_take (i := 4) (v := ?_) (⟨fun _ => rfl, Eq.trans⟩) (some 112) rfl (by kernel_rfl) (by kernel_rfl) (by kernel_rfl) (by kernel_rfl) (by kernel_rfl) (fun _ _ _ h => h) (by kernel_rfl) (fun w' hw' => ?_) ?_
                rotate_left
                · go_simp; with_reducible rfl
                simp only [Act.put, List.setIfInBounds_toArray, List.set_cons_zero, List.set_cons_succ]
                refine wpR_take (i := 5) (v := ?_) (⟨fun _ => rfl, Eq.trans⟩) (some 113) rfl (by kernel_rfl) (by kernel_rfl) (by kernel_rfl) (by kernel_rfl) (by kernel_rfl) (fun _ _ _ h => h) (by kernel_rfl) (fun w' hw' => ?_) ?_
                rotate_left
                · go_simp; with_reducible rfl
                simp only [Act.put, List.setIfInBounds_toArray, List.set_cons_zero, List.set_cons_succ]
                refine wpR_take (i := 6) (v := ?_) (⟨fun _ => rfl, Eq.trans⟩) (some 114) rfl (by kernel_rfl) (by kernel_rfl) (by kernel_rfl) (by kernel_rfl) (by kernel_rfl) (fun _ _ _ h => h) (by kernel_rfl) (fun w' hw' => ?_) ?_
                rotate_left
                · subst hw'; go_simp; with_reducible rfl
                simp only [Act.put, List.setIfInBounds_toArray, List.set_cons_zero, List.set_cons_succ]
                refine wpR_take (i := 7) (v := ?_) (⟨fun _ => rfl, Eq.trans⟩) (some 115) rfl (by kernel_rfl) (by kernel_rfl) (by kernel_rfl) (by kernel_rfl) (by kernel_rfl) (fun _ _ _ h => h) (by kernel_rfl) (fun w' hw' => ?_) ?_
                rotate_left
                · go_simp; with_reducible rfl
                simp only [Act.put, List.setIfInBounds_toArray, List.set_cons_zero, List.set_cons_succ]
                refine wpR_take (i := 8) (v := ?_) (⟨fun _ => rfl, Eq.trans⟩) (some 116) rfl (by kernel_rfl) (by kernel_rfl) (by kernel_rfl) (by kernel_rfl) (by kernel_rfl) (fun _ _ _ h => h) (by kernel_rfl) (fun w' hw' => ?_) ?_
                rotate_left
                · go_simp; with_reducible rfl
                simp only [Act.put, List.setIfInBounds_toArray, List.set_cons_zero, List.set_cons_succ]
                refine wpR_take (i := 9) (v := ?_) (⟨fun _ => rfl, Eq.trans⟩) (some 117) rfl (by kernel_rfl) (by kernel_rfl) (by kernel_rfl) (by kernel_rfl) (by kernel_rfl) (fun _ _ _ h => h) (by kernel_rfl) (fun w' hw' => ?_) ?_
                rotate_left
                · go_simp; with_reducible rfl
                simp only [Act.put, List.setIfInBounds_toArray, List.set_cons_zero, List.set_cons_succ]
                refine wpR_take (i := 10) (v := ?_) (⟨fun _ => rfl, Eq.trans⟩) (some 118) rfl (by kernel_rfl) (by kernel_rfl) (by kernel_rfl) (by kernel_rfl) (by kernel_rfl) (fun _ _ _ h => h) (by kernel_rfl) (fun w' hw' => ?_) ?_
                rotate_left
                · subst hw'; go_simp; with_reducible rfl
                simp only [Act.put, List.setIfInBounds_toArray, List.set_cons_zero, List.set_cons_succ]
                refine wpR_take (i := 11) (v := ?_) (⟨fun _ => rfl, Eq.trans⟩) (some 119) rfl (by kernel_rfl) (by kernel_rfl) (by kernel_rfl) (by kernel_rfl) (by kernel_rfl) (fun _ _ _ h => h) (by kernel_rfl) (fun w' hw' => ?_) ?_
                rotate_left
                · go_simp; with_reducible rfl
                simp only [Act.put, List.setIfInBounds_toArray, List.set_cons_zero, List.set_cons_succ]
                refine wpR_take (i := 12) (v := ?_) (⟨fun _ => rfl, Eq.trans⟩) (some 120) rfl (by kernel_rfl) (by kernel_rfl) (by kernel_rfl) (by kernel_rfl) (by kernel_rfl) (fun _ _ _ h => h) (by kernel_rfl) (fun w' hw' => ?_) ?_
                rotate_left
                · go_simp; with_reducible rfl
                simp only [Act.put, List.setIfInBounds_toArray, List.set_cons_zero, List.set_cons_succ]
                refine wpR_take (i := 13) (v := ?_) (⟨fun _ => rfl, Eq.trans⟩) (some 121) rfl (by kernel_rfl) (by kernel_rfl) (by kernel_rfl) (by kernel_rfl) (by kernel_rfl) (fun _ _ _ h => h) (by kernel_rfl) (fun w' hw' => ?_) ?_
                rotate_left
                · subst hw'; go_simp; with_reducible rfl
                simp only [Act.put, List.setIfInBounds_toArray, List.set_cons_zero, List.set_cons_succ]
                refine wpR_take (i := 14) (v := ?_) (⟨fun _ => rfl, Eq.trans⟩) (some 122) rfl (by kernel_rfl) (by kernel_rfl) (by kernel_rfl) (by kernel_rfl) (by kernel_rfl) (fun _ _ _ h => h) (by kernel_rfl) (fun w' hw' => ?_) ?_
                rotate_left
                · go_simp; with_reducible rfl
                simp only [Act.put, List.setIfInBounds_toArray, List.set_cons_zero, List.set_cons_succ]
                refine wpR_take (i := 15) (v := ?_) (⟨fun _ => rfl, Eq.trans⟩) (some 123) rfl (by kernel_rfl) (by kernel_rfl) (by kernel_rfl) (by kernel_rfl) (by kernel_rfl) (fun _ _ _ h => h) (by kernel_rfl) (fun w' hw' => ?_) ?_
                rotate_left
                · go_simp; with_reducible rfl
                simp only [Act.put, List.setIfInBounds_toArray, List.set_cons_zero, List.set_cons_succ]
                refine wpR_take (i := 16) (v := ?_) (⟨fun _ => rfl, Eq.trans⟩) (some 124) rfl (by kernel_rfl) (by kernel_rfl) (by kernel_rfl) (by kernel_rfl) (by kernel_rfl) (fun _ _ _ h => h) (by kernel_rfl) (fun w' hw' => ?_) ?_
                rotate_left
                · go_simp; with_reducible rfl
                simp only [Act.put, List.setIfInBounds_toArray, List.set_cons_zero, List.set_cons_succ]
                refine wpR_take (i := 17) (v := ?_) (⟨fun _ => rfl, Eq.trans⟩) (some 125) rfl (by kernel_rfl) (by kernel_rfl) (by kernel_rfl) (by kernel_rfl) (by kernel_rfl) (fun _ _ _ h => h) (by kernel_rfl) (fun w' hw' => ?_) ?_
                rotate_left
                · go_simp; with_reducible rfl
                simp only [Act.put, List.setIfInBounds_toArray, List.set_cons_zero, List.set_cons_succ]
                refine wpR_take (i := 18) (v := ?_) (⟨fun _ => rfl, Eq.trans⟩) (some 126) rfl (by kernel_rfl) (by kernel_rfl) (by kernel_rfl) (by kernel_rfl) (by kernel_rfl) (fun _ _ _ h => h) (by kernel_rfl) (fun w' hw' => ?_) ?_
                rotate_left
                · subst hw'; go_simp; with_reducible rfl
                simp only [Act.put, List.setIfInBounds_toArray, List.set_cons_zero, List.set_cons_succ]
                refine wpR_take (i := 19) (v := ?_) (⟨fun _ => rfl, Eq.trans⟩) (some 127) rfl (by kernel_rfl) (by kernel_rfl) (by kernel_rfl) (by kernel_rfl) (by kernel_rfl) (fun _ _ _ h => h) (by kernel_rfl) (fun w' hw' => ?_) ?_
                rotate_left
                · go_simp; with_reducible rfl
                simp only [Act.put, List.setIfInBounds_toArray, List.set_cons_zero, List.set_cons_succ]
                refine wpR_take (i := 20) (v := ?_) (⟨fun _ => rfl, Eq.trans⟩) (some 128) rfl (by kernel_rfl) (by kernel_rfl) (by kernel_rfl) (by kernel_rfl) (by kernel_rfl) (fun _ _ _ h => h) (by kernel_rfl) (fun w' hw' => ?_) ?_
                rotate_left
                · go_simp; with_reducible rfl
                simp only [Act.put, List.setIfInBounds_toArray, List.set_cons_zero, List.set_cons_succ]
                refine wpR_take (i := 21) (v := ?_) (⟨fun _ => rfl, Eq.trans⟩) (some 129) rfl (by kernel_rfl) (by kernel_rfl) (by kernel_rfl) (by kernel_rfl) (by kernel_rfl) (fun _ _ _ h => h) (by kernel_rfl) (fun w' hw' => ?_) ?_
                rotate_left
                · subst hw'; go_simp; with_reducible rfl
                simp only [Act.put, List.setIfInBounds_toArray, List.set_cons_zero, List.set_cons_succ]
                refine wpR_take (i := 22) (v := ?_) (⟨fun _ => rfl, Eq.trans⟩) (some 130) rfl (by kernel_rfl) (by kernel_rfl) (by kernel_rfl) (by kernel_rfl) (by kernel_rfl) (fun _ _ _ h => h) (by kernel_rfl) (fun w' hw' => ?_) ?_
                rotate_left
                · go_simp; with_reducible rfl
                simp only [Act.put, List.setIfInBounds_toArray, List.set_cons_zero, List.set_cons_succ]
                refine wpR_take (i := 23) (v := ?_) (⟨fun _ => rfl, Eq.trans⟩) (some 131) rfl (by kernel_rfl) (by kernel_rfl) (by kernel_rfl) (by kernel_rfl) (by kernel_rfl) (fun _ _ _ h => h) (by kernel_rfl) (fun w' hw' => ?_) ?_
                rotate_left
                · go_simp; with_reducible rfl
                simp only [Act.put, List.setIfInBounds_toArray, List.set_cons_zero, List.set_cons_succ]
                refine wpR_take (i := 24) (v := ?_) (⟨fun _ => rfl, Eq.trans⟩) (some 132) rfl (by kernel_rfl) (by kernel_rfl) (by kernel_rfl) (by kernel_rfl) (by kernel_rfl) (fun _ _ _ h => h) (by kernel_rfl) (fun w' hw' => ?_) ?_
                rotate_left
                · go_simp; with_reducible rfl
                simp only [Act.put, List.setIfInBounds_toArray, List.set_cons_zero, List.set_cons_succ]
                refine wpR_take (i := 25) (v := ?_) (⟨fun _ => rfl, Eq.trans⟩) (some 133) rfl (by kernel_rfl) (by kernel_rfl) (by kernel_rfl) (by kernel_rfl) (by kernel_rfl) (fun _ _ _ h => h) (by kernel_rfl) (fun w' hw' => ?_) ?_
                rotate_left
                · go_simp; with_reducible rfl
                simp only [Act.put, List.setIfInBounds_toArray, List.set_cons_zero, List.set_cons_succ]
                refine wpR_take (i := 26) (v := ?_) (⟨fun _ => rfl, Eq.trans⟩) (some 134) rfl (by kernel_rfl) (by kernel_rfl) (by kernel_rfl) (by kernel_rfl) (by kernel_rfl) (fun _ _ _ h => h) (by kernel_rfl) (fun w' hw' => ?_) ?_
                rotate_left
                · go_simp; with_reducible rfl
                simp only [Act.put, List.setIfInBounds_toArray, List.set_cons_zero, List.set_cons_succ]
                refine wpR_skip (i := 27) (⟨fun _ => rfl, Eq.trans⟩) (some 135) rfl (by kernel_rfl) (by kernel_rfl) (by kernel_rfl) (by kernel_rfl) (by kernel_rfl) (fun _ _ _ h => h) (by kernel_rfl) ?_
                simp only [Act.put, List.setIfInBounds_toArray, List.set_cons_zero, List.set_cons_succ]
                refine wpR_skip (i := 28) (⟨fun _ => rfl, Eq.trans⟩) (some 136) rfl (by kernel_rfl) (by kernel_rfl) (by kernel_rfl) (by kernel_rfl) (by kernel_rfl) (fun _ _ _ h => h) (by kernel_rfl) ?_
                simp only [Act.put, List.setIfInBounds_toArray, List.set_cons_zero, List.set_cons_succ]
                refine wpR_skip (i := 29) (⟨fun _ => rfl, Eq.trans⟩) (some 137) rfl (by kernel_rfl) (by kernel_rfl) (by kernel_rfl) (by kernel_rfl) (by kernel_rfl) (fun _ _ _ h => h) (by kernel_rfl) ?_
                simp only [Act.put, List.setIfInBounds_toArray, List.set_cons_zero, List.set_cons_succ]
                refine wpR_skip (i := 30) (⟨fun _ => rfl, Eq.trans⟩) (some 138) rfl (by kernel_rfl) (by kernel_rfl) (by kernel_rfl) (by kernel_rfl) (by kernel_rfl) (fun _ _ _ h => h) (by kernel_rfl) ?_
                simp only [Act.put, List.setIfInBounds_toArray, List.set_cons_zero, List.set_cons_succ]
                refine wpR_skip (i := 31) (⟨fun _ => rfl, Eq.trans⟩) (some 139) rfl (by kernel_rfl) (by kernel_rfl) (by kernel_rfl) (by kernel_rfl) (by kernel_rfl) (fun _ _ _ h => h) (by kernel_rfl) ?_
                simp only [Act.put, List.setIfInBounds_toArray, List.set_cons_zero, List.set_cons_succ]
                refine wpR_skip (i := 32) (⟨fun _ => rfl, Eq.trans⟩) (some 140) rfl (by kernel_rfl) (by kernel_rfl) (by kernel_rfl) (by kernel_rfl) (by kernel_rfl) (fun _ _ _ h => h) (by kernel_rfl) ?_
                simp only [Act.put, List.setIfInBounds_toArray, List.set_cons_zero, List.set_cons_succ]
                refine wpR_skip (i := 33) (⟨fun _ => rfl, Eq.trans⟩) (some 141) rfl (by kernel_rfl) (by kernel_rfl) (by kernel_rfl) (by kernel_rfl) (by kernel_rfl) (fun _ _ _ h => h) (by kernel_rfl) ?_
                simp only [Act.put, List.setIfInBounds_toArray, List.set_cons_zero, List.set_cons_succ]
                refine wpR_skip (i := 34) (⟨fun _ => rfl, Eq.trans⟩) (some 142) rfl (by kernel_rfl) (by kernel_rfl) (by kernel_rfl) (by kernel_rfl) (by kernel_rfl) (fun _ _ _ h => h) (by kernel_rfl) ?_
                simp only [Act.put, List.setIfInBounds_toArray, List.set_cons_zero, List.set_cons_succ]
                refine wpR_skip (i := 35) (⟨fun _ => rfl, Eq.trans⟩) (some 143) rfl (by kernel_rfl) (by kernel_rfl) (by kernel_rfl) (by kernel_rfl) (by kernel_rfl) (fun _ _ _ h => h) (by kernel_rfl) ?_
                simp only [Act.put, List.setIfInBounds_toArray, List.set_cons_zero, List.set_cons_succ]
                refine wpR_skip (i := 36) (⟨fun _ => rfl, Eq.trans⟩) (some 144) rfl (by kernel_rfl) (by kernel_rfl) (by kernel_rfl) (by kernel_rfl) (by kernel_rfl) (fun _ _ _ h => h) (by kernel_rfl) ?_
                simp only [Act.put, List.setIfInBounds_toArray, List.set_cons_zero, List.set_cons_succ]
                refine wpR_skip (i := 37) (⟨fun _ => rfl, Eq.trans⟩) (some 145) rfl (by kernel_rfl) (by kernel_rfl) (by kernel_rfl) (by kernel_rfl) (by kernel_rfl) (fun _ _ _ h => h) (by kernel_rfl) ?_
                simp only [Act.put, List.setIfInBounds_toArray, List.set_cons_zero, List.set_cons_succ]
                refine wpR_skip (i := 38) (⟨fun _ => rfl, Eq.trans⟩) (some 146) rfl (by kernel_rfl) (by kernel_rfl) (by kernel_rfl) (by kernel_rfl) (by kernel_rfl) (fun _ _ _ h => h) (by kernel_rfl) ?_
                simp only [Act.put, List.setIfInBounds_toArray, List.set_cons_zero, List.set_cons_succ]
                refine wpR_skip (i := 39) (⟨fun _ => rfl, Eq.trans⟩) (some 147) rfl (by kernel_rfl) (by kernel_rfl) (by kernel_rfl) (by kernel_rfl) (by kernel_rfl) (fun _ _ _ h => h) (by kernel_rfl) ?_
                simp only [Act.put, List.setIfInBounds_toArray, List.set_cons_zero, List.set_cons_succ]
                refine wpR_skip (i := 40) (⟨fun _ => rfl, Eq.trans⟩) (some 148) rfl (by kernel_rfl) (by kernel_rfl) (by kernel_rfl) (by kernel_rfl) (by kernel_rfl) (fun _ _ _ h => h) (by kernel_rfl) ?_
                simp only [Act.put, List.setIfInBounds_toArray, List.set_cons_zero, List.set_cons_succ]
                refine wpR_skip (i := 41) (⟨fun _ => rfl, Eq.trans⟩) (some 149) rfl (by kernel_rfl) (by kernel_rfl) (by kernel_rfl) (by kernel_rfl) (by kernel_rfl) (fun _ _ _ h => h) (by kernel_rfl) ?_
                simp only [Act.put, List.setIfInBounds_toArray, List.set_cons_zero, List.set_cons_succ]
                refine wpR_take (i := 42) (v := ?_) (⟨fun _ => rfl, Eq.trans⟩) (some 150) rfl (by kernel_rfl) (by kernel_rfl) (by kernel_rfl) (by kernel_rfl) (by kernel_rfl) (fun _ _ _ h => h) (by kernel_rfl) (fun w' hw' => ?_) ?_
                rotate_left
                · go_simp; with_reducible rfl
                simp only [Act.put, List.setIfInBounds_toArray, List.set_cons_zero, List.set_cons_succ]
                refine wpR_take (i := 43) (v := ?_) (⟨fun _ => rfl, Eq.trans⟩) (some 151) rfl (by kernel_rfl) (by kernel_rfl) (by kernel_rfl) (by kernel_rfl) (by kernel_rfl) (fun _ _ _ h => h) (by kernel_rfl) (fun w' hw' => ?_) ?_
                rotate_left
                · go_simp; with_reducible rfl
                simp only [Act.put, List.setIfInBounds_toArray, List.set_cons_zero, List.set_cons_succ]
                refine wpR_done (by kernel_rfl) ?_ _
                go_wp2_with fail
                go_roundw
                case rel => first | exact ⟨j + 1, by omega, by go_num, hgd⟩ | ((repeat apply Exists.intro); exact ⟨⟨j + 1, by omega, by go_num, hgd⟩, rfl⟩)
                case measure => simp [intOf]; omega
            · obtain rfl : j = 16 := by omega
              have j16 : decide (((16 : Nat) : Int) < 16) = false := by decide
              go_wp2_with fail
              go_roundw
              case rel => first | exact ⟨i + 1, by omega, by go_num, hg2⟩ | ((repeat apply Exists.intro); exact ⟨⟨i + 1, by omega, by go_num, hg2⟩, rfl⟩)
              case measure => simp [intOf]; omega
        · obtain rfl : i = 10 := by omega
          have i10 : decide (((10 : Nat) : Int) < 10) = false := by decide
          replace hq := Gr.go hq hg.out
          clear hg
          go_wp2_with fail
          refine (awake3_p _).mono ?_
          rintro e w7 ⟨rfl, hr⟩
          replace hq := Gr.go hq hr
          clear hr
          go_wp2_with fail
          go_ret
          exact ⟨rfl, hq.out⟩
end Go.Proofs.Ytpeilgeloaogfaa
