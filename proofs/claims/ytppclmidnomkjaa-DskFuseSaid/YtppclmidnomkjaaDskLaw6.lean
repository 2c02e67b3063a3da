/- The laws of dsk: DskFuse. -/
import Derived.Test.YtppclmidnomkjaaDskLaw5
import Derived.Deep.DeepCutAuto
import Derived.Deep.CutBlock
import Derived.Test.YtppclmidnomkjaaReg2
namespace Go.Proofs.Ytppclmidnomkjaa
set_option linter.unusedVariables false
set_option linter.unusedSimpArgs false
open Go Go.RowKit
theorem sync_ok (s : DS) (hf : s.fused = false) (hl : s.c.length ≤ 40000) : ∃ s', s.sync = (0, s') ∧ s'.fused = false ∧ s'.c.length ≤ 40000 := by
  refine ⟨{ s with dur := s.c.length }, ?_, hf, hl⟩
  unfold DS.sync DS.op
  simp [hf]
theorem app_ok (s : DS) (b : List UInt8) (hf : s.fused = false) (hl : s.c.length + b.length ≤ 262144) : ∃ s', s.append b = (0, s') ∧ s'.fused = false := by
  refine ⟨{ s with c := s.c ++ b }, ?_, hf⟩
  unfold DS.append DS.op
  rw [if_neg (by omega)]
  simp [hf]
theorem swap_ok (s : DS) (b : List UInt8) (hf : s.fused = false) (hl : b.length ≤ 262144) : ∃ s', s.swap b = (0, s') ∧ s'.c = b := by
  refine ⟨{ s with c := b, dur := b.length }, ?_, rfl⟩
  unfold DS.swap DS.op
  rw [if_neg (by omega)]
  simp [hf]
theorem app_or (s : DS) (hfu : s.fused = true) (hl0 : 0 ≤ s.left) (k m : Nat) (l : List UInt8) (hm : l.length = m) (hb : m ≤ 1000) (hk : k < 40) (hsc : s.c.length ≤ 1000 * k) :
    (0 < s.left ∧ (s.append l).1 = 0 ∧ (s.append l).2.left = s.left - 1 ∧ (s.append l).2.fused = true ∧ (s.append l).2.c.length ≤ 1000 * (k + 1)) ∨ (s.left = 0 ∧ (s.append l).1 = 11 ∧ (s.append l).2 = s) := by
  have hn : ¬ 262144 < s.c.length + l.length := by omega
  unfold DS.append DS.op
  by_cases h : s.left = 0
  · right; simp [h, hfu, hn]
  · left; simp [h, hfu, hn]; omega
theorem sync_or (s : DS) (hfu : s.fused = true) (hl0 : 0 ≤ s.left) (k m : Nat) (l : List UInt8) (hm : l.length = m) (hb : m ≤ 1000) (hk : k < 40) (hsc : s.c.length ≤ 1000 * k) :
    (0 < s.left ∧ (s.sync).1 = 0 ∧ (s.sync).2.left = s.left - 1 ∧ (s.sync).2.fused = true ∧ (s.sync).2.c.length ≤ 1000 * (k + 1)) ∨ (s.left = 0 ∧ (s.sync).1 = 11 ∧ (s.sync).2 = s) := by
  have hn := hm
  unfold DS.sync DS.op
  by_cases h : s.left = 0
  · right; simp [h, hfu]
  · left; simp [h, hfu]; omega
theorem swap_or (s : DS) (hfu : s.fused = true) (hl0 : 0 ≤ s.left) (k m : Nat) (l : List UInt8) (hm : l.length = m) (hb : m ≤ 1000) (hk : k < 40) (hsc : s.c.length ≤ 1000 * k) :
    (0 < s.left ∧ (s.swap l).1 = 0 ∧ (s.swap l).2.left = s.left - 1 ∧ (s.swap l).2.fused = true ∧ (s.swap l).2.c.length ≤ 1000 * (k + 1)) ∨ (s.left = 0 ∧ (s.swap l).1 = 11 ∧ (s.swap l).2 = s) := by
  have hn : ¬ 262144 < l.length := by omega
  unfold DS.swap DS.op
  by_cases h : s.left = 0
  · right; simp [h, hfu, hn]
  · left; simp [h, hfu, hn]; omega
set_option maxHeartbeats 4000000 in
set_option maxRecDepth 10000 in
theorem dskFuse_any (z : Int) (hz : -9223372036854775808 ≤ z ∧ z ≤ 9223372036854775807) (A : Option Addr) (n c : Nat) (hnc : n ≤ c) (hcm : c ≤ maxLen) (f : Nat → ActR) (w : World) (ha : Acts w w.heap.size A n f) :
    Calls Try.prog 11 #[.int .i64 z, .slice A n c] w fun e w' => e = .returned (.bool true) ∧ Below w.heap.size w w' := by
  replace ha := Lib.hid ha
  replace hcm := Lib.hid hcm
  go_enter Try.func11, Try.ntmps11
  go_wp2_with fail
  refine (dnew_any w).mono ?_
  rintro e w1 ⟨rfl, hd1, hb1⟩
  replace hd1 := Lib.hid hd1
  replace hb1 := Lib.hid hb1
  go_wp2_with fail
  refine (fuse_any w.heap.size _ w.heap.size DS.wipe z hz w1 hd1.out).mono ?_
  rintro e w2 ⟨rfl, hd2, hch⟩
  have hb2 := Lib.hid (hb1.out.trans (hch.below hb1.out.size))
  have hd3 : Hid (∃ s : DS, s.left = max z 0 ∧ s.fused = true ∧ s.c.length ≤ 1000 * 0 ∧ Dk w2 w.heap.size w2.heap.size w.heap.size s) := Lib.hid ⟨_, rfl, rfl, Nat.le_refl _, hd2.more hd2.bounds.2.2 (Nat.le_refl _)⟩
  obtain ⟨lf, hlf⟩ : ∃ lf : Int, lf = max z 0 := ⟨_, rfl⟩
  rw [← hlf] at hd3
  have hlf0 : 0 ≤ lf ∧ lf ≤ 9223372036854775807 := by omega
  replace hlf := Lib.hid hlf
  clear hd1 hd2 hch hb1
  go_upto_if 17 with (fail)
  go_cut [6] (fun v wx => v = .int .i64 lf ∧ wx = w2)
  case first =>
    by_cases hz0 : z < 0
    · obtain rfl : lf = 0 := by have := hlf.out; omega
      go_wp2_with fail
      go_meet
      exact ⟨rfl, rfl⟩
    · obtain rfl : lf = z := by have := hlf.out; omega
      go_wp2_with fail
      go_meet
      exact ⟨rfl, rfl⟩
  case rest =>
    obtain ⟨rfl, rfl⟩ := hcut
    clear hlf
    go_upto_block 0 with (fail)
    go_cut [7] (fun v wx => ∃ s : DS, s.c.length ≤ 40000 ∧ Hid (Dk wx w.heap.size wx.heap.size w.heap.size s) ∧ Hid (Below w.heap.size w wx))
    case first =>
      go_wp2_with fail
      go_loopw [6, 7] (fun lfv i wr => ∃ (k : Nat) (s : DS), i = .int .i64 k ∧ lfv = .int .i64 s.left ∧ k ≤ n ∧ k ≤ 40 ∧ s.fused = true ∧ 0 ≤ s.left ∧ s.left ≤ 9223372036854775807 ∧ s.c.length ≤ 1000 * k ∧ Hid (Dk wr w.heap.size wr.heap.size w.heap.size s) ∧ Hid (Below w.heap.size w wr)) (fun _ i _ => n - (intOf i).toNat)
      case atStart =>
        obtain ⟨s, rfl, h1, h2, h3⟩ := hd3.out
        exact ⟨0, s, rfl, rfl, Nat.zero_le _, by decide, h1, hlf0.1, hlf0.2, h2, Lib.hid h3, hb2⟩
      case round =>
        obtain ⟨k, s, rfl, rfl, hk, hk40, hfu, hl0, hl1, hsc, hd4, hb4⟩ := hrel
        clear hd3 hb2
        by_cases hlt : k < n
        · by_cases h60 : k < 40
          · obtain ⟨b, o, rfl, hbB, hat⟩ := ha.out.1 (by omega)
            obtain ⟨c0, c1, c2⟩ := (hat.below hbB hb4.out) k hlt
            obtain ⟨-, -, -, hrd⟩ := ha.out.2 k hlt
            replace hrd := Lib.hid (hrd.below hb4.out)
            replace hat := Lib.hid hat
            obtain ⟨q, hq⟩ : ∃ q, f k = q := ⟨_, rfl⟩
            rw [hq] at c0 c1 c2 hrd
            obtain ⟨d, z2, A2, cc, l⟩ := q
            clear hq
            try simp only at c0 c1 c2 hrd
            obtain ⟨m, hm⟩ : ∃ m, l.length = m := ⟨_, rfl⟩
            rw [hm] at c2
            by_cases hbig : 1000 < m
            · go_wp2_with fail
              go_roundw
              case rel => exact ⟨k + 1, s, by go_num, rfl, by omega, by omega, hfu, hl0, hl1, by omega, hd4, hb4⟩
              case measure => simp [intOf]; omega
            · go_upto_region 10 with (fail)
              replace hbig := Nat.le_of_not_lt hbig
              clear c1
              replace hd4 : Hid (Dk wr.drew w.heap.size wr.drew.heap.size w.heap.size s) := Lib.hid hd4.out
              replace hb4 : Hid (Below w.heap.size w wr.drew) := Lib.hid hb4.out.drew
              replace hrd : Hid (Rd wr.drew w.heap.size A2 l) := Lib.hid hrd.out
              refine wpR_region (Upd (fun _ => False)) 9999 (by kernel_rfl) ?_
              refine wpR_take (i := 0) (v := ?_) (Upd.road _) (some 35) rfl (by kernel_rfl) (by kernel_rfl) (by kernel_rfl) (by kernel_rfl) (by kernel_rfl) (fun _ _ _ h => h) (by kernel_rfl) (fun w' hw' => ?_) ?_
              rotate_left
              · go_simp; with_reducible rfl
              simp only [Act.put, List.setIfInBounds_toArray, List.set_cons_zero, List.set_cons_succ]
              refine wpR_take (i := 3) (v := ?_) (Upd.road _) (some 38) rfl (by kernel_rfl) (by kernel_rfl) (by kernel_rfl) (by kernel_rfl) (by kernel_rfl) (fun _ _ _ h => h) (by kernel_rfl) (fun w' hw' => ?_) ?_
              rotate_left
              · go_simp; with_reducible rfl
              simp only [Act.put, List.setIfInBounds_toArray, List.set_cons_zero, List.set_cons_succ]
              refine wpR_one 1 rfl (by kernel_rfl) (by kernel_rfl) (fun K hK => ?_)
              go_simp
              refine (bytes_any w.heap.size _ w.heap.size s _ hd4.out).mono ?_
              rintro e w3 ⟨v, rfl, ho, hbb⟩
              obtain ⟨A7, c7, rfl, -, -, hR7, -⟩ := ho.form
              refine hK _ _ (fun _ => Upd.of_below hbb) ?_
              clear hK K
              replace hR7 := Lib.hid hR7
              have hbw := Lib.hid hbb
              have hd3' := Lib.hid (hd4.out.below hbb)
              have hb3' := Lib.hid (hb4.out.trans (hbb.mono hb4.out.size))
              clear ho hbb
              try simp only [Act.put, List.setIfInBounds_toArray, List.set_cons_zero, List.set_cons_succ]
              refine wpR_take (i := 2) (v := ?_) (Upd.road _) (some 37) rfl (by kernel_rfl) (by kernel_rfl) (by kernel_rfl) (by kernel_rfl) (by kernel_rfl) (fun _ _ _ h => h) (by kernel_rfl) (fun w' hw' => ?_) ?_
              rotate_left
              · have hcv := run_str_at (n := s.c.length) c7 (hR7.out.upd (fun _ _ _ h => h) hw') rfl; go_simp; with_reducible rfl
              simp only [Act.put, List.setIfInBounds_toArray, List.set_cons_zero, List.set_cons_succ]
              refine wpR_one 4 rfl (by kernel_rfl) (by kernel_rfl) (fun K hK => ?_)
              go_simp
              refine (loose_any w.heap.size _ w.heap.size s _ hd3'.out).mono ?_
              rintro e w4 ⟨rfl, nq, rfl⟩
              refine hK _ _ (fun _ => Upd.drewN _ _) ?_
              clear hK K
              try simp only [Act.put, List.setIfInBounds_toArray, List.set_cons_zero, List.set_cons_succ]
              refine wpR_take (i := 5) (v := ?_) (Upd.road _) (some 8) rfl (by kernel_rfl) (by kernel_rfl) (by kernel_rfl) (by kernel_rfl) (by kernel_rfl) (fun _ _ _ h => h) (by kernel_rfl) (fun w' hw' => ?_) ?_
              rotate_left
              · go_simp; with_reducible rfl
              simp only [Act.put, List.setIfInBounds_toArray, List.set_cons_zero, List.set_cons_succ]
              refine wpR_take (i := 6) (v := ?_) (Upd.road _) (some 9) rfl (by kernel_rfl) (by kernel_rfl) (by kernel_rfl) (by kernel_rfl) (by kernel_rfl) (fun _ _ _ h => h) (by kernel_rfl) (fun w' hw' => ?_) ?_
              rotate_left
              · go_simp; with_reducible rfl
              simp only [Act.put, List.setIfInBounds_toArray, List.set_cons_zero, List.set_cons_succ]
              refine wpR_done (by kernel_rfl) ?_ _
              have hbs : b < wr.drew.heap.size := Nat.lt_of_lt_of_le hbB hb4.out.size
              replace c0 : w3.cell? ⟨b, o + k * 3, none⟩ = some (.int .u8 (U d)) := (hbw.out.cell (p := ⟨b, o + k * 3, none⟩) hbs).trans c0
              replace c2 : w3.cell? ⟨b, o + k * 3 + 2, none⟩ = some (.slice A2 m cc) := (hbw.out.cell (p := ⟨b, o + k * 3 + 2, none⟩) hbs).trans c2
              have hrd3 : Hid (Rd w3 w3.heap.size A2 l) := Lib.hid ((hrd.out.below (hbw.out.mono hb4.out.size)).more hb3'.out.size)
              replace hd3' := Lib.hid (hd3'.out.more hd3'.out.bounds.2.2 (Nat.le_refl _))
              go_upto_if 46 with (fail)
              go_cut [10] (fun v wx => ∃ (e : Int) (s' : DS), v = .int .i64 e ∧ Hid ((0 < s.left ∧ e = 0 ∧ s'.left = s.left - 1 ∧ s'.fused = true ∧ s'.c.length ≤ 1000 * (k + 1)) ∨ (s.left = 0 ∧ e = 11 ∧ s' = s)) ∧ Hid (Dk wx w.heap.size wx.heap.size w.heap.size s') ∧ Hid (Below w.heap.size w wx))
              case first =>
                have h3 : d.toNat % 3 = 0 ∨ d.toNat % 3 = 1 ∨ d.toNat % 3 = 2 := by omega
                rcases h3 with h3 | h3 | h3
                · have hq : (U d).tmod 3 = 0 := by rw [Int.tmod_eq_emod_of_nonneg (U_lo d)]; unfold U; omega
                  go_wp2_with fail
                  refine (append_any w.heap.size w3.heap.size w.heap.size s A2 m cc l hm (by omega) (w3.drewN nq) hd3'.out hrd3.out).mono ?_
                  rintro e w5 ⟨rfl, h5, hch⟩
                  replace h5 := Lib.hid h5
                  replace hch := Lib.hid hch
                  go_wp2_with fail
                  go_meet
                  exact ⟨_, _, rfl, Lib.hid (app_or s hfu hl0 k m l hm hbig h60 hsc), Lib.hid h5.out, Lib.hid ((show Below w.heap.size w (w3.drewN nq) from ⟨hb3'.out.os, hb3'.out.tape, hb3'.out.output, hb3'.out.size, hb3'.out.block⟩).trans (hch.out.below hb3'.out.size))⟩
                · have hq : (U d).tmod 3 = 1 := by rw [Int.tmod_eq_emod_of_nonneg (U_lo d)]; unfold U; omega
                  go_wp2_with fail
                  refine (sync_any w.heap.size w3.heap.size w.heap.size s (w3.drewN nq) hd3'.out).mono ?_
                  rintro e w5 ⟨rfl, h5, hch⟩
                  replace h5 := Lib.hid h5
                  replace hch := Lib.hid hch
                  go_wp2_with fail
                  go_meet
                  exact ⟨_, _, rfl, Lib.hid (sync_or s hfu hl0 k m l hm hbig h60 hsc), Lib.hid (h5.out.more h5.out.bounds.2.2 (Nat.le_refl _)), Lib.hid ((show Below w.heap.size w (w3.drewN nq) from ⟨hb3'.out.os, hb3'.out.tape, hb3'.out.output, hb3'.out.size, hb3'.out.block⟩).trans (hch.out.below hb3'.out.size))⟩
                · have hq : (U d).tmod 3 = 2 := by rw [Int.tmod_eq_emod_of_nonneg (U_lo d)]; unfold U; omega
                  go_wp2_with fail
                  refine (swap_any w.heap.size w3.heap.size w.heap.size s A2 m cc l hm (by omega) (w3.drewN nq) hd3'.out hrd3.out).mono ?_
                  rintro e w5 ⟨rfl, h5, hch⟩
                  replace h5 := Lib.hid h5
                  replace hch := Lib.hid hch
                  go_wp2_with fail
                  go_meet
                  exact ⟨_, _, rfl, Lib.hid (swap_or s hfu hl0 k m l hm hbig h60 hsc), Lib.hid h5.out, Lib.hid ((show Below w.heap.size w (w3.drewN nq) from ⟨hb3'.out.os, hb3'.out.tape, hb3'.out.output, hb3'.out.size, hb3'.out.block⟩).trans (hch.out.below hb3'.out.size))⟩
              case rest =>
                obtain ⟨e, s', rfl, hor, hd5, hb5⟩ := hcut
                clear hd4 hb4 hrd hR7 hbw hd3' hb3' hrd3 c0 c2
                rcases hor.out with ⟨hl, rfl, h1, h2, h3⟩ | ⟨hl, rfl, rfl⟩
                · clear hor
                  replace h1 := Lib.hid h1
                  go_wp2_with fail
                  go_roundw
                  case rel => exact ⟨k + 1, s', by go_num, by rw [h1.out], by omega, by omega, h2, by rw [h1.out]; omega, by rw [h1.out]; omega, h3, hd5, hb5⟩
                  case measure => simp [intOf]; omega
                · clear hor
                  go_wp2_with fail
                  refine (bytes_any w.heap.size _ w.heap.size s' wc hd5.out).mono ?_
                  rintro e w6 ⟨v, rfl, ho, hbb⟩
                  obtain ⟨A8, c8, rfl, -, -, hR8, -⟩ := ho.form
                  have hcv := run_str_at (n := s'.c.length) c8 hR8 rfl
                  have hd6 := Lib.hid (hd5.out.below hbb)
                  have hb6 := Lib.hid (hb5.out.trans (hbb.mono hb5.out.size))
                  clear hd5 hb5 hbb ho
                  replace hR8 := Lib.hid hR8
                  go_wp2_with fail
                  refine (loose_any w.heap.size _ w.heap.size s' w6 hd6.out).mono ?_
                  rintro e w7 ⟨rfl, nq2, rfl⟩
                  go_wp2_with fail
                  go_roundw
                  case rel => exact ⟨k + 1, s', by go_num, by rw [hl], by omega, by omega, hfu, hl0, hl1, by omega, Lib.hid ((hd6.out.more hd6.out.bounds.2.2 (Nat.le_refl _)).drewN nq2), Lib.hid ⟨hb6.out.os, hb6.out.tape, hb6.out.output, hb6.out.size, hb6.out.block⟩⟩
                  case measure => simp [intOf]; omega
          · go_wp2_with fail
            go_meet
            exact ⟨s, by omega, hd4, hb4⟩
        · go_wp2_with fail
          go_meet
          exact ⟨s, by omega, hd4, hb4⟩
    case rest =>
      obtain ⟨s, hsc, hd4, hb4⟩ := hcut
      clear hd3 hb2
      go_wp2_with fail
      refine (crash_any w.heap.size _ w.heap.size s 0 (by decide) wc hd4.out).mono ?_
      rintro e w3 ⟨rfl, hd5, hch⟩
      have hb5 := Lib.hid (hch.below hd4.out.lw |> fun h => hb4.out.trans h)
      obtain ⟨s', hs', hfu, hsl⟩ : ∃ s', s.crash 0 = s' ∧ s'.fused = false ∧ s'.c.length ≤ 40000 := ⟨_, rfl, rfl, by
        show (s.c.take (s.kept 0)).length ≤ 40000
        rw [List.length_take]; omega⟩
      rw [hs'] at hd5
      replace hd5 := Lib.hid hd5
      replace hfu := Lib.hid hfu
      clear hs' hch hd4 hb4
      go_wp2_with fail
      refine wpR_region (Chg w.heap.size w.heap.size) 9999 (by kernel_rfl) ?_
      replace hd5 : Hid (Dk w3.drew w.heap.size wc.heap.size w.heap.size s') := Lib.hid hd5.out
      replace hb5 : Hid (Below w.heap.size w w3.drew) := Lib.hid hb5.out.drew
      refine wpR_one 0 rfl (by kernel_rfl) (by kernel_rfl) (fun K hK => ?_)
      go_simp
      refine (awake11_any _).mono ?_
      rintro e w4 ⟨rfl, hba⟩
      refine hK _ _ (fun _ => Chg.of_below hba) ?_
      clear hK K
      have hd6 := Lib.hid (hd5.out.below hba)
      have hb6 := Lib.hid (hb5.out.trans (hba.mono hb5.out.size))
      clear hba hd5 hb5
      try simp only [Act.put, List.setIfInBounds_toArray, List.set_cons_zero, List.set_cons_succ]
      refine wpR_take (i := 1) (v := ?_) (⟨Chg.refl _ _, Chg.trans⟩) (some 103) rfl (by kernel_rfl) (by kernel_rfl) (by kernel_rfl) (by kernel_rfl) (by kernel_rfl) (fun _ _ _ h => h) (by kernel_rfl) (fun w' hw' => ?_) ?_
      rotate_left
      · go_simp; with_reducible rfl
      simp only [Act.put, List.setIfInBounds_toArray, List.set_cons_zero, List.set_cons_succ]
      refine wpR_take (i := 2) (v := ?_) (⟨Chg.refl _ _, Chg.trans⟩) (some 104) rfl (by kernel_rfl) (by kernel_rfl) (by kernel_rfl) (by kernel_rfl) (by kernel_rfl) (fun _ _ _ h => h) (by kernel_rfl) (fun w' hw' => ?_) ?_
      rotate_left
      · go_simp; with_reducible rfl
      simp only [Act.put, List.setIfInBounds_toArray, List.set_cons_zero, List.set_cons_succ]
      refine wpR_one 3 rfl (by kernel_rfl) (by kernel_rfl) (fun K hK => ?_)
      go_simp
      refine (sync_any w.heap.size _ w.heap.size s' _ hd6.out).mono ?_
      obtain ⟨s7, e7, f7, l7⟩ := sync_ok s' hfu.out hsl
      rw [e7]
      rintro e w7 ⟨rfl, hd7, hch⟩
      refine hK _ _ (fun _ => hch) ?_
      clear hK K
      have hb7 := Lib.hid (hb6.out.trans (hch.below hd6.out.lw))
      replace hd7 := Lib.hid (hd7.more hd7.bounds.2.2 (Nat.le_refl _))
      replace f7 := Lib.hid f7
      clear hch hd6 hb6 e7
      try simp only [Act.put, List.setIfInBounds_toArray, List.set_cons_zero, List.set_cons_succ]
      refine wpR_take (i := 4) (v := ?_) (⟨Chg.refl _ _, Chg.trans⟩) (some 106) rfl (by kernel_rfl) (by kernel_rfl) (by kernel_rfl) (by kernel_rfl) (by kernel_rfl) (fun _ _ _ h => h) (by kernel_rfl) (fun w' hw' => ?_) ?_
      rotate_left
      · go_simp; with_reducible rfl
      simp only [Act.put, List.setIfInBounds_toArray, List.set_cons_zero, List.set_cons_succ]
      refine wpR_take (i := 5) (v := ?_) (⟨Chg.refl _ _, Chg.trans⟩) (some 107) rfl (by kernel_rfl) (by kernel_rfl) (by kernel_rfl) (by kernel_rfl) (by kernel_rfl) (fun _ _ _ h => h) (by kernel_rfl) (fun w' hw' => ?_) ?_
      rotate_left
      · go_simp; with_reducible rfl
      simp only [Act.put, List.setIfInBounds_toArray, List.set_cons_zero, List.set_cons_succ]
      refine wpR_take (i := 6) (v := ?_) (⟨Chg.refl _ _, Chg.trans⟩) (some 108) rfl (by kernel_rfl) (by kernel_rfl) (by kernel_rfl) (by kernel_rfl) (by kernel_rfl) (fun _ _ _ h => h) (by kernel_rfl) (fun w' hw' => ?_) ?_
      rotate_left
      · go_simp; with_reducible rfl
      simp only [Act.put, List.setIfInBounds_toArray, List.set_cons_zero, List.set_cons_succ]
      refine wpR_take (i := 7) (v := ?_) (⟨Chg.refl _ _, Chg.trans⟩) (some 109) rfl (by kernel_rfl) (by kernel_rfl) (by kernel_rfl) (by kernel_rfl) (by kernel_rfl) (fun _ _ _ h => h) (by kernel_rfl) (fun w' hw' => ?_) ?_
      rotate_left
      · go_simp; with_reducible rfl
      simp only [Act.put, List.setIfInBounds_toArray, List.set_cons_zero, List.set_cons_succ]
      refine wpR_one 8 rfl (by kernel_rfl) (by kernel_rfl) (fun K hK => ?_)
      go_simp
      refine hK _ _ (fun _ => Chg.of_below ((Below.refl _ _).alloc (Nat.le_refl _) _)) ?_
      clear hK K
      try simp only [Act.put, List.setIfInBounds_toArray, List.set_cons_zero, List.set_cons_succ]
      refine wpR_one 9 rfl (by kernel_rfl) (by kernel_rfl) (fun K hK => ?_)
      go_simp
      refine (append_any w.heap.size _ w.heap.size s7 (some ⟨w7.heap.size, 0, none⟩) 1 1 [1] rfl (by decide) _ (hd7.out.below ((Below.refl _ _).alloc (Nat.le_refl _) _)) (Rd.lit w7 _ _ [1] rfl _ (by simp))).mono ?_
      obtain ⟨s8, e8, f8⟩ := app_ok s7 [1] f7.out (by simp; omega)
      rw [e8]
      rintro e w8 ⟨rfl, hd8, hch⟩
      refine hK _ _ (fun _ => hch) ?_
      clear hK K
      have hb8 := Lib.hid ((hb7.out.alloc hb7.out.size _).trans (hch.below (Nat.le_trans hd7.out.lw (by simp))))
      replace hd8 := Lib.hid hd8
      replace f8 := Lib.hid f8
      clear hch hd7 hb7 e8
      try simp only [Act.put, List.setIfInBounds_toArray, List.set_cons_zero, List.set_cons_succ]
      refine wpR_take (i := 10) (v := ?_) (⟨Chg.refl _ _, Chg.trans⟩) (some 112) rfl (by kernel_rfl) (by kernel_rfl) (by kernel_rfl) (by kernel_rfl) (by kernel_rfl) (fun _ _ _ h => h) (by kernel_rfl) (fun w' hw' => ?_) ?_
      rotate_left
      · go_simp; with_reducible rfl
      simp only [Act.put, List.setIfInBounds_toArray, List.set_cons_zero, List.set_cons_succ]
      refine wpR_take (i := 11) (v := ?_) (⟨Chg.refl _ _, Chg.trans⟩) (some 113) rfl (by kernel_rfl) (by kernel_rfl) (by kernel_rfl) (by kernel_rfl) (by kernel_rfl) (fun _ _ _ h => h) (by kernel_rfl) (fun w' hw' => ?_) ?_
      rotate_left
      · go_simp; with_reducible rfl
      simp only [Act.put, List.setIfInBounds_toArray, List.set_cons_zero, List.set_cons_succ]
      refine wpR_take (i := 12) (v := ?_) (⟨Chg.refl _ _, Chg.trans⟩) (some 114) rfl (by kernel_rfl) (by kernel_rfl) (by kernel_rfl) (by kernel_rfl) (by kernel_rfl) (fun _ _ _ h => h) (by kernel_rfl) (fun w' hw' => ?_) ?_
      rotate_left
      · go_simp; with_reducible rfl
      simp only [Act.put, List.setIfInBounds_toArray, List.set_cons_zero, List.set_cons_succ]
      refine wpR_take (i := 13) (v := ?_) (⟨Chg.refl _ _, Chg.trans⟩) (some 115) rfl (by kernel_rfl) (by kernel_rfl) (by kernel_rfl) (by kernel_rfl) (by kernel_rfl) (fun _ _ _ h => h) (by kernel_rfl) (fun w' hw' => ?_) ?_
      rotate_left
      · go_simp; with_reducible rfl
      simp only [Act.put, List.setIfInBounds_toArray, List.set_cons_zero, List.set_cons_succ]
      refine wpR_one 14 rfl (by kernel_rfl) (by kernel_rfl) (fun K hK => ?_)
      go_simp
      refine hK _ _ (fun _ => Chg.of_below ((Below.refl _ _).alloc (Nat.le_refl _) _)) ?_
      clear hK K
      try simp only [Act.put, List.setIfInBounds_toArray, List.set_cons_zero, List.set_cons_succ]
      refine wpR_one 15 rfl (by kernel_rfl) (by kernel_rfl) (fun K hK => ?_)
      go_simp
      refine (swap_any w.heap.size _ w.heap.size s8 (some ⟨w8.heap.size, 0, none⟩) 1 1 [2] rfl (by decide) _ (hd8.out.below ((Below.refl _ _).alloc (Nat.le_refl _) _)) (Rd.lit w8 _ _ [2] rfl _ (by simp))).mono ?_
      obtain ⟨s9, e9, f9⟩ := swap_ok s8 [2] f8.out (by simp)
      rw [e9]
      rintro e w9 ⟨rfl, hd9, hch⟩
      refine hK _ _ (fun _ => hch) ?_
      clear hK K
      have hb9 := Lib.hid ((hb8.out.alloc hb8.out.size _).trans (hch.below (Nat.le_trans hd8.out.lw (by simp))))
      replace hd9 := Lib.hid hd9
      replace f9 := Lib.hid f9
      clear hch hd8 hb8 e9
      try simp only [Act.put, List.setIfInBounds_toArray, List.set_cons_zero, List.set_cons_succ]
      refine wpR_sub (R' := Upd (fun _ => False)) (fun _ _ h => ⟨h.1, h.2.1, h.2.2.1, h.2.2.2.1, fun k hk _ => h.2.2.2.2 k hk (fun h => h)⟩) _ _ _ _ ?_
      refine wpR_take (i := 16) (v := ?_) (Upd.road _) (some 118) rfl (by kernel_rfl) (by kernel_rfl) (by kernel_rfl) (by kernel_rfl) (by kernel_rfl) (fun _ _ _ h => h) (by kernel_rfl) (fun w' hw' => ?_) ?_
      rotate_left
      · go_simp; with_reducible rfl
      simp only [Act.put, List.setIfInBounds_toArray, List.set_cons_zero, List.set_cons_succ]
      refine wpR_take (i := 17) (v := ?_) (Upd.road _) (some 119) rfl (by kernel_rfl) (by kernel_rfl) (by kernel_rfl) (by kernel_rfl) (by kernel_rfl) (fun _ _ _ h => h) (by kernel_rfl) (fun w' hw' => ?_) ?_
      rotate_left
      · go_simp; with_reducible rfl
      simp only [Act.put, List.setIfInBounds_toArray, List.set_cons_zero, List.set_cons_succ]
      refine wpR_take (i := 18) (v := ?_) (Upd.road _) (some 120) rfl (by kernel_rfl) (by kernel_rfl) (by kernel_rfl) (by kernel_rfl) (by kernel_rfl) (fun _ _ _ h => h) (by kernel_rfl) (fun w' hw' => ?_) ?_
      rotate_left
      · go_simp; with_reducible rfl
      simp only [Act.put, List.setIfInBounds_toArray, List.set_cons_zero, List.set_cons_succ]
      refine wpR_take (i := 19) (v := ?_) (Upd.road _) (some 121) rfl (by kernel_rfl) (by kernel_rfl) (by kernel_rfl) (by kernel_rfl) (by kernel_rfl) (fun _ _ _ h => h) (by kernel_rfl) (fun w' hw' => ?_) ?_
      rotate_left
      · go_simp; with_reducible rfl
      simp only [Act.put, List.setIfInBounds_toArray, List.set_cons_zero, List.set_cons_succ]
      refine wpR_two 20 22 rfl rfl (by kernel_rfl) (by kernel_rfl) (by kernel_rfl) (fun K hK => ?_) (fun K hK => ?_)
      · go_simp
        refine (bytes_any w.heap.size _ w.heap.size s9 _ hd9.out).mono ?_
        rw [f9.out]
        rintro e w10 ⟨v, rfl, ho, hbb⟩
        obtain ⟨A7, c7, rfl, -, -, hR7, -⟩ := ho.form
        refine hK _ _ (fun _ => Upd.of_below hbb) ?_
        clear hK K
        replace hR7 := Lib.hid hR7
        have hb10 := Lib.hid (hb9.out.trans (hbb.mono (by have := hb9.out.size; simp; omega)))
        clear ho hbb
        try simp only [Act.put, List.setIfInBounds_toArray, List.set_cons_zero, List.set_cons_succ]
        refine wpR_take (i := 21) (v := ?_) (Upd.road _) (some 123) rfl (by kernel_rfl) (by kernel_rfl) (by kernel_rfl) (by kernel_rfl) (by kernel_rfl) (fun _ _ _ h => h) (by kernel_rfl) (fun w' hw' => ?_) ?_
        rotate_left
        · have hcv := run_str_at (n := 1) c7 (hR7.out.upd (fun _ _ _ h => h) hw') rfl; go_simp; with_reducible rfl
        simp only [Act.put, List.setIfInBounds_toArray, List.set_cons_zero, List.set_cons_succ]
        refine wpR_one 22 rfl (by kernel_rfl) (by kernel_rfl) (fun K hK => ?_)
        go_simp
        refine hK _ _ (fun _ => Upd.of_below ((Below.refl _ _).alloc (Nat.le_refl _) _)) ?_
        clear hK K
        try simp only [Act.put, List.setIfInBounds_toArray, List.set_cons_zero, List.set_cons_succ]
        refine wpR_take (i := 23) (v := ?_) (Upd.road _) (some 125) rfl (by kernel_rfl) (by kernel_rfl) (by kernel_rfl) (by kernel_rfl) (by kernel_rfl) (fun _ _ _ h => h) (by kernel_rfl) (fun w' hw' => ?_) ?_
        rotate_left
        · have hcv := run_str_at (n := 1) 1 ((Rd.lit w10 #[.int .u8 2] 5 [2] rfl _ (Nat.lt_succ_self _) : Rd _ (w10.heap.size + 1) _ [2]).more (by simp) |>.upd (fun _ _ _ h => h) hw') rfl; go_simp; with_reducible rfl
        simp only [Act.put, List.setIfInBounds_toArray, List.set_cons_zero, List.set_cons_succ]
        refine wpR_take (i := 24) (v := ?_) (Upd.road _) (some 126) rfl (by kernel_rfl) (by kernel_rfl) (by kernel_rfl) (by kernel_rfl) (by kernel_rfl) (fun _ _ _ h => h) (by kernel_rfl) (fun w' hw' => ?_) ?_
        rotate_left
        · go_simp; with_reducible rfl
        simp only [Act.put, List.setIfInBounds_toArray, List.set_cons_zero, List.set_cons_succ]
        refine wpR_take (i := 25) (v := ?_) (Upd.road _) (some 127) rfl (by kernel_rfl) (by kernel_rfl) (by kernel_rfl) (by kernel_rfl) (by kernel_rfl) (fun _ _ _ h => h) (by kernel_rfl) (fun w' hw' => ?_) ?_
        rotate_left
        · go_simp; with_reducible rfl
        simp only [Act.put, List.setIfInBounds_toArray, List.set_cons_zero, List.set_cons_succ]
        refine wpR_take (i := 26) (v := ?_) (Upd.road _) (some 4) rfl (by kernel_rfl) (by kernel_rfl) (by kernel_rfl) (by kernel_rfl) (by kernel_rfl) (fun _ _ _ h => h) (by kernel_rfl) (fun w' hw' => ?_) ?_
        rotate_left
        · go_simp; with_reducible rfl
        simp only [Act.put, List.setIfInBounds_toArray, List.set_cons_zero, List.set_cons_succ]
        refine wpR_done (by kernel_rfl) ?_ _
        go_wp2
        go_ret
        exact ⟨rfl, hb10.out.alloc hb10.out.size _ |> fun h => ⟨h.os, h.tape, h.output, h.size, h.block⟩⟩
      · go_simp
        refine hK _ _ (fun _ => Upd.of_below ((Below.refl _ _).alloc (Nat.le_refl _) _)) ?_
        clear hK K
        try simp only [Act.put, List.setIfInBounds_toArray, List.set_cons_zero, List.set_cons_succ]
        refine wpR_take (i := 23) (v := ?_) (Upd.road _) (some 125) rfl (by kernel_rfl) (by kernel_rfl) (by kernel_rfl) (by kernel_rfl) (by kernel_rfl) (fun _ _ _ h => h) (by kernel_rfl) (fun w' hw' => ?_) ?_
        rotate_left
        · have hcv := run_str_at (n := 1) 1 ((Rd.lit w9 #[.int .u8 2] 5 [2] rfl _ (Nat.lt_succ_self _) : Rd _ (w9.heap.size + 1) _ [2]).more (by simp) |>.upd (fun _ _ _ h => h) hw') rfl; go_simp; with_reducible rfl
        simp only [Act.put, List.setIfInBounds_toArray, List.set_cons_zero, List.set_cons_succ]
        refine wpR_one 20 rfl (by kernel_rfl) (by kernel_rfl) (fun K hK => ?_)
        go_simp
        refine (bytes_any w.heap.size _ w.heap.size s9 _ (hd9.out.below ((Below.refl _ _).alloc (Nat.le_refl _) _))).mono ?_
        rw [f9.out]
        rintro e w10 ⟨v, rfl, ho, hbb⟩
        obtain ⟨A7, c7, rfl, -, -, hR7, -⟩ := ho.form
        refine hK _ _ (fun _ => Upd.of_below hbb) ?_
        clear hK K
        replace hR7 := Lib.hid hR7
        have hb10 := Lib.hid ((hb9.out.alloc hb9.out.size _).trans (hbb.mono (by have := hb9.out.size; simp; omega)))
        clear ho hbb
        try simp only [Act.put, List.setIfInBounds_toArray, List.set_cons_zero, List.set_cons_succ]
        refine wpR_take (i := 21) (v := ?_) (Upd.road _) (some 123) rfl (by kernel_rfl) (by kernel_rfl) (by kernel_rfl) (by kernel_rfl) (by kernel_rfl) (fun _ _ _ h => h) (by kernel_rfl) (fun w' hw' => ?_) ?_
        rotate_left
        · have hcv := run_str_at (n := 1) c7 (hR7.out.upd (fun _ _ _ h => h) hw') rfl; go_simp; with_reducible rfl
        simp only [Act.put, List.setIfInBounds_toArray, List.set_cons_zero, List.set_cons_succ]
        refine wpR_take (i := 24) (v := ?_) (Upd.road _) (some 126) rfl (by kernel_rfl) (by kernel_rfl) (by kernel_rfl) (by kernel_rfl) (by kernel_rfl) (fun _ _ _ h => h) (by kernel_rfl) (fun w' hw' => ?_) ?_
        rotate_left
        · go_simp; with_reducible rfl
        simp only [Act.put, List.setIfInBounds_toArray, List.set_cons_zero, List.set_cons_succ]
        refine wpR_take (i := 25) (v := ?_) (Upd.road _) (some 127) rfl (by kernel_rfl) (by kernel_rfl) (by kernel_rfl) (by kernel_rfl) (by kernel_rfl) (fun _ _ _ h => h) (by kernel_rfl) (fun w' hw' => ?_) ?_
        rotate_left
        · go_simp; with_reducible rfl
        simp only [Act.put, List.setIfInBounds_toArray, List.set_cons_zero, List.set_cons_succ]
        refine wpR_take (i := 26) (v := ?_) (Upd.road _) (some 4) rfl (by kernel_rfl) (by kernel_rfl) (by kernel_rfl) (by kernel_rfl) (by kernel_rfl) (fun _ _ _ h => h) (by kernel_rfl) (fun w' hw' => ?_) ?_
        rotate_left
        · go_simp; with_reducible rfl
        simp only [Act.put, List.setIfInBounds_toArray, List.set_cons_zero, List.set_cons_succ]
        refine wpR_done (by kernel_rfl) ?_ _
        go_wp2
        go_ret
        exact ⟨rfl, hb10.out⟩
end Go.Proofs.Ytppclmidnomkjaa
