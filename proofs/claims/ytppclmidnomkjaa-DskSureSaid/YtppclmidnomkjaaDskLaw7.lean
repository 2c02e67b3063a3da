/- The laws of dsk: DskSure. -/
import Derived.Test.YtppclmidnomkjaaDskLaw2
import Derived.Test.YtppclmidnomkjaaOpenParts
import Derived.Deep.DeepCutAuto
import Derived.Deep.CutBlock
import Derived.IntWalk
namespace Go.Proofs.Ytppclmidnomkjaa
set_option linter.unusedVariables false
set_option linter.unusedSimpArgs false
open Go Go.RowKit
theorem su_app (s : DS) (b : List UInt8) (hf : s.fused = false) (hl : s.c.length + b.length ≤ 262144) : s.append b = (0, { s with c := s.c ++ b }) := by
  unfold DS.append DS.op
  rw [if_neg (by omega)]
  simp [hf]
theorem su_sync (s : DS) (hf : s.fused = false) : s.sync = (0, { s with dur := s.c.length }) := by
  unfold DS.sync DS.op
  simp [hf]
@[go_sem] theorem bs_take (l : List UInt8) (k : Nat) : (bs l).extract 0 k = bs (l.take k) := by
  unfold bs
  apply ByteArray.ext
  simp [ByteArray.data_extract]
theorem tmod_nat (x : UInt8) (n : Nat) : (U x).tmod (n : Int) = ((x.toNat % n : Nat) : Int) := by
  rw [Int.tmod_eq_emod_of_nonneg (U_lo x)]; unfold U; omega
theorem eqf (a b : Int) (h : a ≠ b) : (a == b) = false := beq_eq_false_iff_ne.mpr h
set_option maxHeartbeats 4000000 in
set_option maxRecDepth 10000 in
theorem dskSure_any (A : Option Addr) (n c : Nat) (hnc : n ≤ c) (hcm : c ≤ maxLen) (f : Nat → PartR) (sy : UInt8) (keep : Int) (hkeep : -9223372036854775808 ≤ keep ∧ keep ≤ 9223372036854775807) (w : World) (hp : Parts w w.heap.size A n f) :
    Calls Try.prog 10 #[.slice A n c, .int .u8 (U sy), .int .i64 keep] w fun e w' => e = .returned (.bool true) ∧ Below w.heap.size w w' := by
  replace hp := Lib.hid hp
  unfold maxLen at hcm
  go_enter Try.func10, Try.ntmps10
  go_upto_block 0 with (refine (dnew_any w).mono ?_; rintro e w1 ⟨rfl, hd1, hb1⟩; replace hd1 : Hid (Dk w1 w.heap.size w1.heap.size w.heap.size DS.wipe) := Lib.hid (hd1.more hd1.bounds.2.2 (Nat.le_refl _)); replace hb1 := Lib.hid hb1)
  go_cut [8, 9] (fun u v wx => ∃ s : DS, u = .string (bs s.c) ∧ v = .int .i64 s.dur ∧ s.c.length ≤ 30000 ∧ Hid (s.fused = false) ∧ Hid (Dk wx w.heap.size wx.heap.size w.heap.size s) ∧ Hid (Below w.heap.size w wx))
  case first =>
    go_wp2_with fail
    go_loopw [8, 9, 10] (fun u v i wr => ∃ (k : Nat) (s : DS), i = .int .i64 k ∧ u = .string (bs s.c) ∧ v = .int .i64 s.dur ∧ k ≤ n ∧ k ≤ 30 ∧ s.c.length ≤ 1000 * k ∧ Hid (s.fused = false) ∧ Hid (Dk wr w.heap.size wr.heap.size w.heap.size s) ∧ Hid (Below w.heap.size w wr)) (fun _ _ i _ => n - (intOf i).toNat)
    case atStart => exact ⟨0, DS.wipe, rfl, rfl, rfl, Nat.zero_le _, by decide, Nat.le_refl _, Lib.hid rfl, hd1, hb1⟩
    case round =>
      obtain ⟨k, s, rfl, rfl, rfl, hk, hk30, hsc, hfu, hd2, hb2⟩ := hrel
      clear hd1 hb1
      by_cases hlt : k < n
      · by_cases h30 : k < 30
        · obtain ⟨bb, o, rfl, hbB, hat⟩ := hp.out.1 (by omega)
          have c0 := (hat.below hbB hb2.out) k hlt
          obtain ⟨hlc, hcm2, hrd⟩ := hp.out.2 k hlt
          have hrd2 := Lib.hid ((hrd.below hb2.out).more hb2.out.size)
          have hfk : Hid (∀ W, Below w.heap.size w W → W.cell? ⟨bb, o + k, none⟩ = some (.slice (f k).A (f k).l.length (f k).c)) := Lib.hid (fun W hW => (hat.below hbB hW) k hlt)
          replace hrd := Lib.hid hrd
          replace hat := Lib.hid hat
          obtain ⟨q, hq⟩ : ∃ q, f k = q := ⟨_, rfl⟩
          rw [hq] at c0 hlc hcm2 hrd hrd2 hfk
          obtain ⟨A3, c3, l⟩ := q
          clear hq
          try simp only at c0 hlc hcm2 hrd hrd2 hfk
          obtain ⟨m, hm⟩ : ∃ m, l.length = m := ⟨_, rfl⟩
          rw [hm] at c0 hlc hfk
          by_cases hbig : 1000 < m
          · replace hm := Lib.hid hm
            go_wp2_with fail
            go_roundw
            case rel => exact ⟨k + 1, s, by go_num, rfl, rfl, by omega, by omega, by omega, hfu, hd2, hb2⟩
            case measure => simp [intOf]; omega
          · have hap := Lib.hid (su_app s l hfu.out (by omega))
            go_wp2_with fail
            refine (append_any w.heap.size _ w.heap.size s A3 m c3 l hm (by omega) wr hd2.out hrd2.out).mono ?_
            rw [hap.out]
            rintro e w3 ⟨rfl, hd3, hch⟩
            have hb3 := Lib.hid (hb2.out.trans (hch.below hd2.out.lw))
            have c4 := hfk.out w3 hb3.out
            have hcv := run_str_at (n := m) c3 (hrd.out.below hb3.out) hm
            have happ : bs s.c ++ bs l = bs (s.c ++ l) := bs_append _ _
            obtain ⟨s3, hs3⟩ : ∃ s3 : DS, { s with c := s.c ++ l } = s3 := ⟨_, rfl⟩
            have hc3 : s.c ++ l = s3.c := by rw [← hs3]
            have hf3 : Hid (s3.fused = false) := Lib.hid (by rw [← hs3]; exact hfu.out)
            have hd3' : Dk w3 w.heap.size w3.heap.size w.heap.size s3 := by rw [← hs3]; exact hd3
            have hdu : Hid (s.dur = s3.dur) := Lib.hid (by rw [← hs3])
            rw [hc3] at happ
            have hl3 : s3.c.length ≤ 1000 * (k + 1) := by rw [← hc3, List.length_append]; omega
            have hcl : ¬ (9223372036854775807 < s.c.length + l.length) := by omega
            replace hd3 := Lib.hid hd3'
            replace hm := Lib.hid hm
            replace hc3 := Lib.hid hc3
            clear hch hd2 hb2 hrd2 c0 hd3' hap hs3
            have hmod : (U sy).tmod 30 = ((sy.toNat % 30 : Nat) : Int) := tmod_nat sy 30
            obtain ⟨j, hj⟩ : ∃ j, sy.toNat % 30 = j := ⟨_, rfl⟩
            rw [hj] at hmod
            have hj30 : j < 30 := by omega
            replace hj := Lib.hid hj
            by_cases hkj : k = j
            · subst hkj
              have hsy := Lib.hid (su_sync s3 hf3.out)
              go_wp2_with fail
              refine (sync_any w.heap.size _ w.heap.size s3 w3 hd3.out).mono ?_
              rw [hsy.out]
              rintro e w4 ⟨rfl, hd4, hch⟩
              have hb4 := Lib.hid (hb3.out.trans (hch.below hd3.out.lw))
              obtain ⟨s4, hs4⟩ : ∃ s4 : DS, { s3 with dur := s3.c.length } = s4 := ⟨_, rfl⟩
              have hd4' := Lib.hid (show Dk w4 w.heap.size w4.heap.size w.heap.size s4 from by rw [← hs4]; exact hd4.more hd4.bounds.2.2 (Nat.le_refl _))
              have hc4 : Hid (s4.c = s3.c) := Lib.hid (by rw [← hs4])
              have hf4 : Hid (s4.fused = false) := Lib.hid (by rw [← hs4]; exact hf3.out)
              have hdu4 : Hid (s4.dur = s3.c.length) := Lib.hid (by rw [← hs4])
              clear hch hd3 hb3 c4 hcv happ hs4 hd4 hsy
              go_wp2_with fail
              go_roundw
              case rel => exact ⟨k + 1, s4, by go_num, by rw [hc4.out], by rw [hdu4.out], by omega, by omega, by rw [hc4.out]; exact hl3, hf4, hd4', hb4⟩
              case measure => simp [intOf]; omega
            · have hne := eqf (k : Int) j (by omega)
              go_wp2_with fail
              go_roundw
              case rel => exact ⟨k + 1, s3, by go_num, rfl, by rw [hdu.out], by omega, by omega, hl3, hf3, hd3, hb3⟩
              case measure => simp [intOf]; omega
        · go_wp2_with fail
          go_meet
          exact ⟨s, rfl, rfl, by omega, hfu, hd2, hb2⟩
      · go_wp2_with fail
        go_meet
        exact ⟨s, rfl, rfl, by omega, hfu, hd2, hb2⟩
  case rest =>
    obtain ⟨s, rfl, rfl, hsl, hfu, hd4, hb4⟩ := hcut
    clear hd1 hb1 hp
    have hdur := hd4.out.ok.dur
    have hw1 : IntKind.i64.wrap ((s.c.length : Int) - s.dur) = (s.c.length : Int) - s.dur := IntWalk.i64_in _ (by omega)
    have hd5 := hd4
    have hb5 := hb4
    clear hd4 hb4
    go_wp2_with fail
    refine (loose_any w.heap.size _ w.heap.size s _ hd5.out).mono ?_
    rintro e w4 ⟨rfl, nq, rfl⟩
    go_wp2_with fail
    refine (bytes_any w.heap.size _ w.heap.size s _ (hd5.out.drewN nq)).mono ?_
    rintro e w6 ⟨v, rfl, ho, hbb⟩
    obtain ⟨A7, c7, rfl, -, -, hR7, -⟩ := ho.form
    have hcv := run_str_at (n := s.c.length) c7 hR7 rfl
    replace hR7 := Lib.hid hR7
    have hd6 := Lib.hid ((hd5.out.drewN nq).below hbb)
    have hb6 := Lib.hid ((below_dn hb5.out nq).trans (hbb.mono hb5.out.size))
    clear ho hbb hd5 hb5
    go_wp2_with fail
    refine (crash_any w.heap.size _ w.heap.size s keep hkeep _ hd6.out).mono ?_
    rintro e w7 ⟨rfl, hd7, hch⟩
    have hb7 := Lib.hid (hb6.out.trans (hch.below hd6.out.lw))
    clear hch hd6 hb6 hR7 hw1 hcv
    obtain ⟨K, hK⟩ : ∃ K, s.kept keep = K := ⟨_, rfl⟩
    have hKc : (keep < (s.c.length : Int) - s.dur ∧ keep ≤ 0 ∧ K = s.dur) ∨ (keep < (s.c.length : Int) - s.dur ∧ 0 < keep ∧ (K : Int) = s.dur + keep) ∨ (¬ keep < (s.c.length : Int) - s.dur ∧ K = s.c.length) := by
      rw [← hK]; unfold DS.kept; omega
    have hKl : K ≤ s.c.length := by omega
    obtain ⟨s8, hs8⟩ : ∃ s8, s.crash keep = s8 := ⟨_, rfl⟩
    have hc8 : Hid (s8.c = s.c.take K) := Lib.hid (by rw [← hs8, ← hK]; rfl)
    have hl8 : Hid ((s8.c.length : Int) - s8.dur = 0) := Lib.hid (by
      rw [hc8.out, List.length_take, show s8.dur = K from by rw [← hs8, ← hK]; rfl]; omega)
    rw [hs8] at hd7
    replace hd7 := Lib.hid hd7
    replace hs8 := Lib.hid hs8
    replace hK := Lib.hid hK
    obtain ⟨hi7, hhi7⟩ : ∃ hi7, hi7 = (wc.heap.size) := ⟨_, rfl⟩
    clear hhi7
    obtain ⟨hi7, hd8⟩ : ∃ hi7, Hid (Dk w7 w.heap.size hi7 w.heap.size s8) := ⟨_, hd7⟩
    have hb8 := hb7
    clear hd7 hb7
    go_upto_if 76 with (fail)
    go_cut [11] (fun v wx => v = .int .i64 (K : Int) ∧ wx = w7)
    case first =>
      rcases hKc with ⟨h1, h2, h3⟩ | ⟨h1, h2, h3⟩ | ⟨h1, h3⟩
      · subst h3
        go_wp2_with fail
        go_meet
        exact ⟨rfl, rfl⟩
      · go_wp2_with fail
        go_meet
        exact ⟨by rw [h3], rfl⟩
      · subst h3
        go_wp2_with fail
        go_meet
        exact ⟨rfl, rfl⟩
    case rest =>
      obtain ⟨rfl, rfl⟩ := hcut
      clear hKc
      go_wp2_with fail
      refine wpR_region (Upd (fun _ => False)) 9999 (by kernel_rfl) ?_
      replace hd8 : Hid (Dk wc.drew w.heap.size hi7 w.heap.size s8) := Lib.hid hd8.out
      replace hb8 : Hid (Below w.heap.size w wc.drew) := Lib.hid hb8.out.drew
      refine wpR_one 0 rfl (by kernel_rfl) (by kernel_rfl) (fun K hK => ?_)
      go_simp
      refine (awake11_any _).mono ?_
      rintro e w9 ⟨rfl, hba⟩
      refine hK _ _ (fun _ => Upd.of_below hba) ?_
      clear hK K
      have hd9 := Lib.hid (hd8.out.below hba)
      have hb9 := Lib.hid (hb8.out.trans (hba.mono hb8.out.size))
      clear hba hd8 hb8
      try simp only [Act.put, List.setIfInBounds_toArray, List.set_cons_zero, List.set_cons_succ]
      refine wpR_take (i := 1) (v := ?_) (Upd.road _) (some 84) rfl (by kernel_rfl) (by kernel_rfl) (by kernel_rfl) (by kernel_rfl) (by kernel_rfl) (fun _ _ _ h => h) (by kernel_rfl) (fun w' hw' => ?_) ?_
      rotate_left
      · go_simp; with_reducible rfl
      simp only [Act.put, List.setIfInBounds_toArray, List.set_cons_zero, List.set_cons_succ]
      refine wpR_take (i := 2) (v := ?_) (Upd.road _) (some 85) rfl (by kernel_rfl) (by kernel_rfl) (by kernel_rfl) (by kernel_rfl) (by kernel_rfl) (fun _ _ _ h => h) (by kernel_rfl) (fun w' hw' => ?_) ?_
      rotate_left
      · go_simp; with_reducible rfl
      simp only [Act.put, List.setIfInBounds_toArray, List.set_cons_zero, List.set_cons_succ]
      refine wpR_take (i := 5) (v := ?_) (Upd.road _) (some 88) rfl (by kernel_rfl) (by kernel_rfl) (by kernel_rfl) (by kernel_rfl) (by kernel_rfl) (fun _ _ _ h => h) (by kernel_rfl) (fun w' hw' => ?_) ?_
      rotate_left
      · go_simp; with_reducible rfl
      simp only [Act.put, List.setIfInBounds_toArray, List.set_cons_zero, List.set_cons_succ]
      refine wpR_take (i := 6) (v := ?_) (Upd.road _) (some 89) rfl (by kernel_rfl) (by kernel_rfl) (by kernel_rfl) (by kernel_rfl) (by kernel_rfl) (fun _ _ _ h => h) (by kernel_rfl) (fun w' hw' => ?_) ?_
      rotate_left
      · go_simp; with_reducible rfl
      simp only [Act.put, List.setIfInBounds_toArray, List.set_cons_zero, List.set_cons_succ]
      refine wpR_take (i := 7) (v := ?_) (Upd.road _) (some 90) rfl (by kernel_rfl) (by kernel_rfl) (by kernel_rfl) (by kernel_rfl) (by kernel_rfl) (fun _ _ _ h => h) (by kernel_rfl) (fun w' hw' => ?_) ?_
      rotate_left
      · go_simp; with_reducible rfl
      simp only [Act.put, List.setIfInBounds_toArray, List.set_cons_zero, List.set_cons_succ]
      refine wpR_one 3 rfl (by kernel_rfl) (by kernel_rfl) (fun K hK => ?_)
      go_simp
      refine (bytes_any w.heap.size _ w.heap.size s8 _ hd9.out).mono ?_
      rw [hc8.out]
      rintro e w10 ⟨v, rfl, ho, hbb⟩
      obtain ⟨A9, c9, rfl, -, -, hR9, -⟩ := ho.form
      refine hK _ _ (fun _ => Upd.of_below hbb) ?_
      clear hK K
      replace hR9 := Lib.hid hR9
      have hd10 := Lib.hid (hd9.out.below hbb)
      have hb10 := Lib.hid (hb9.out.trans (hbb.mono hb9.out.size))
      clear ho hbb hd9 hb9
      try simp only [Act.put, List.setIfInBounds_toArray, List.set_cons_zero, List.set_cons_succ]
      refine wpR_take (i := 4) (v := ?_) (Upd.road _) (some 87) rfl (by kernel_rfl) (by kernel_rfl) (by kernel_rfl) (by kernel_rfl) (by kernel_rfl) (fun _ _ _ h => h) (by kernel_rfl) (fun w' hw' => ?_) ?_
      rotate_left
      · have hcv := run_str_at (n := K) c9 (hR9.out.upd (fun _ _ _ h => h) hw') (by rw [List.length_take]; omega); go_simp; with_reducible rfl
      simp only [Act.put, List.setIfInBounds_toArray, List.set_cons_zero, List.set_cons_succ]
      refine wpR_take (i := 8) (v := ?_) (Upd.road _) (some 91) rfl (by kernel_rfl) (by kernel_rfl) (by kernel_rfl) (by kernel_rfl) (by kernel_rfl) (fun _ _ _ h => h) (by kernel_rfl) (fun w' hw' => ?_) ?_
      rotate_left
      · go_simp; with_reducible rfl
      simp only [Act.put, List.setIfInBounds_toArray, List.set_cons_zero, List.set_cons_succ]
      refine wpR_take (i := 9) (v := ?_) (Upd.road _) (some 92) rfl (by kernel_rfl) (by kernel_rfl) (by kernel_rfl) (by kernel_rfl) (by kernel_rfl) (fun _ _ _ h => h) (by kernel_rfl) (fun w' hw' => ?_) ?_
      rotate_left
      · go_simp; with_reducible rfl
      simp only [Act.put, List.setIfInBounds_toArray, List.set_cons_zero, List.set_cons_succ]
      refine wpR_take (i := 10) (v := ?_) (Upd.road _) (some 93) rfl (by kernel_rfl) (by kernel_rfl) (by kernel_rfl) (by kernel_rfl) (by kernel_rfl) (fun _ _ _ h => h) (by kernel_rfl) (fun w' hw' => ?_) ?_
      rotate_left
      · go_simp; with_reducible rfl
      simp only [Act.put, List.setIfInBounds_toArray, List.set_cons_zero, List.set_cons_succ]
      refine wpR_take (i := 11) (v := ?_) (Upd.road _) (some 94) rfl (by kernel_rfl) (by kernel_rfl) (by kernel_rfl) (by kernel_rfl) (by kernel_rfl) (fun _ _ _ h => h) (by kernel_rfl) (fun w' hw' => ?_) ?_
      rotate_left
      · go_simp; with_reducible rfl
      simp only [Act.put, List.setIfInBounds_toArray, List.set_cons_zero, List.set_cons_succ]
      refine wpR_one 12 rfl (by kernel_rfl) (by kernel_rfl) (fun K hK => ?_)
      go_simp
      refine (loose_any w.heap.size _ w.heap.size s8 _ hd10.out).mono ?_
      rw [hl8.out]
      rintro e w11 ⟨rfl, nq9, rfl⟩
      refine hK _ _ (fun _ => Upd.drewN _ _) ?_
      clear hK K
      try simp only [Act.put, List.setIfInBounds_toArray, List.set_cons_zero, List.set_cons_succ]
      refine wpR_take (i := 13) (v := ?_) (Upd.road _) (some 96) rfl (by kernel_rfl) (by kernel_rfl) (by kernel_rfl) (by kernel_rfl) (by kernel_rfl) (fun _ _ _ h => h) (by kernel_rfl) (fun w' hw' => ?_) ?_
      rotate_left
      · go_simp; with_reducible rfl
      simp only [Act.put, List.setIfInBounds_toArray, List.set_cons_zero, List.set_cons_succ]
      refine wpR_take (i := 14) (v := ?_) (Upd.road _) (some 97) rfl (by kernel_rfl) (by kernel_rfl) (by kernel_rfl) (by kernel_rfl) (by kernel_rfl) (fun _ _ _ h => h) (by kernel_rfl) (fun w' hw' => ?_) ?_
      rotate_left
      · go_simp; with_reducible rfl
      simp only [Act.put, List.setIfInBounds_toArray, List.set_cons_zero, List.set_cons_succ]
      refine wpR_take (i := 15) (v := ?_) (Upd.road _) (some 6) rfl (by kernel_rfl) (by kernel_rfl) (by kernel_rfl) (by kernel_rfl) (by kernel_rfl) (fun _ _ _ h => h) (by kernel_rfl) (fun w' hw' => ?_) ?_
      rotate_left
      · go_simp; with_reducible rfl
      simp only [Act.put, List.setIfInBounds_toArray, List.set_cons_zero, List.set_cons_succ]
      refine wpR_done (by kernel_rfl) ?_ _
      go_wp2
      go_ret
      exact ⟨rfl, below_dn hb10.out _⟩
end Go.Proofs.Ytppclmidnomkjaa
