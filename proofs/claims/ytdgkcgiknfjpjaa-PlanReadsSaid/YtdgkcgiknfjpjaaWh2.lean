/- plan.Whole. -/
import Derived.Test.YtdgkcgiknfjpjaaWh1
import Derived.Test.YtdgkcgiknfjpjaaPlC
import Derived.Deep.RegionWith
namespace Go.Proofs.Ytdgkcgiknfjpjaa
set_option linter.unusedVariables false
set_option linter.unusedSimpArgs false
open Go Go.RowKit
theorem wrap64_add10 (k : Nat) (h : k ≤ 1000) : wrap64 ((10 * k : Nat) + 10 : Int) = ((10 * (k + 1) : Nat) : Int) := by unfold wrap64; omega
set_option maxHeartbeats 8000000 in
set_option maxRecDepth 20000 in
theorem whole_any {S : List (List UInt8)} {v : Value} (e : En) (A : Option Addr) (np c : Nat) (hnp : np ≤ 60) (hz : R64 e.size) (w : World) (hS : Hid (Tbl S v w)) :
    Calls Try.prog 30 #[.agg #[.string (bs e.key), .int .i64 e.gen, .int .i64 e.size, .string (bs e.sum), .slice A np c], v] w (WholePost S np e.size e.sum w) := by
  obtain ⟨A1, c1, rfl, a1, a2, a3⟩ := hS.out
  have x1 := heap_alloc_new w (.cells #[.string (bs e.key), .int .i64 e.gen, .int .i64 e.size, .string (bs e.sum), .slice A np c] 55)
  have p2 := blk_cell (j := 2) x1 rfl
  have p3 := blk_cell (j := 3) x1 rfl
  have p4 := blk_cell (j := 4) x1 rfl
  have hq : Hid (Gr w (w.alloc (.cells #[.string (bs e.key), .int .i64 e.gen, .int .i64 e.size, .string (bs e.sum), .slice A np c] 55))) := Lib.hid ((Below.refl _ _).alloc (Nat.le_refl _) _)
  have hRT := Lib.hid (a3.up hq.out)
  clear a3
  replace x1 := Lib.hid x1
  obtain ⟨n, hn⟩ : ∃ n, S.length = n := ⟨_, rfl⟩
  rw [hn] at hRT a1 ⊢
  by_cases h0 : n = 0
  · have hbad : Hid (S.length = 0 ∨ S.length ≠ np ∨ S.length % 10 ≠ 0) := Lib.hid (.inl (by omega))
    have i0 : ((n : Int) == 0) = true := by rw [h0]; rfl
    replace hn := Lib.hid hn
    go_enter Try.func30, Try.ntmps30
    go_wp2_with fail
    go_ret2
    exact ⟨hq.out, .inl ⟨hbad.out, rfl⟩⟩
  · have i0 : ((n : Int) == 0) = false := by rw [beq_eq_false_iff_ne]; omega
    by_cases h1 : n = np
    · subst h1
      have i1 : ((n : Int) != (n : Int)) = false := by simp
      by_cases h2 : n % 10 = 0
      · have i2 : ((n : Int) % 10 != 0) = false := by rw [bne_eq_false_iff_eq]; omega
        have hgood : Hid (S.length ≠ 0 ∧ S.length = n ∧ S.length % 10 = 0) := Lib.hid ⟨by omega, by omega, by rw [hn]; exact h2⟩
        obtain ⟨T, hT⟩ : ∃ T, n = 10 * T := ⟨n / 10, by omega⟩
        have hT6 : T ≤ 6 := by omega
        replace hn := Lib.hid hn
        replace h2 := Lib.hid h2
        replace hT := Lib.hid hT
        obtain ⟨b1, o1, A0, c0, l0, rfl, hb1, -⟩ := hRT.out.at_ (i := 0) (by omega)
        clear hb1
        go_enter Try.func30, Try.ntmps30
        go_wp2_with fail
        have hsz1 : Hid (w.heap.size < (w.alloc (.cells #[.string (bs e.key), .int .i64 e.gen, .int .i64 e.size, .string (bs e.sum), .slice A n c] 55)).heap.size) := Lib.hid (by simp)
        generalize w.alloc (.cells #[.string (bs e.key), .int .i64 e.gen, .int .i64 e.size, .string (bs e.sum), .slice A n c] 55) = w1 at p2 p3 p4 hq hRT x1 hsz1 ⊢
        have hat0 := Lib.hid (AT.nil_ w1 w1.heap.size)
        go_loopw [6, 7] (fun v6 i wr => ∃ (s t : Nat) (A6 : Option Addr) (c6 : Nat) (Gs : List (List UInt8)), s ≤ n ∧ t ≤ 6 ∧ Hid (s = 10 * t) ∧ i = .int .i64 s ∧ v6 = .slice A6 t c6 ∧ Hid (GsOk S t Gs) ∧ Hid (AT wr w1.heap.size (.slice A6 t c6) Gs) ∧ Hid (Below w1.heap.size w1 wr)) (fun _ i _ => (n - intOf i).toNat)
        case atStart => exact ⟨0, 0, _, _, [], Nat.zero_le _, by omega, Lib.hid rfl, rfl, rfl, Lib.hid (GsOk.nil S), hat0, Lib.hid (Below.refl _ _)⟩
        case round =>
          obtain ⟨s, t, A6, c6, Gs, hsn, ht6, hst, rfl, rfl, hgs, hat, hb⟩ := hrel
          clear hat0
          by_cases hlt : s < n
          · have is_ : (s : Int) < (n : Int) := by omega
            have hs10 : s + 10 ≤ n := by have := hst.out; have := hT.out; omega
            have u1 : wrap64 ((s : Int) + 10) = ((s + 10 : Nat) : Int) := by unfold wrap64; omega
            have hsc : s + 10 ≤ c1 := by omega
            have hRs : RT wr wr.heap.size (some ⟨b1, o1 + s, none⟩) 10 (sgrp S t) := by rw [hst.out]; exact RT.sgrp (hRT.out.up hb.out) (by have := hst.out; omega)
            have hgl : (sgrp S t).length = 10 := hRs.1
            have hTb : Hid (Tbl (sgrp S t) (.slice (some ⟨b1, o1 + s, none⟩) 10 (c1 - s)) wr) := Lib.hid ⟨_, _, by rw [hgl], by omega, by omega, by rw [hgl]; exact hRs⟩
            have h10t : Hid (10 * t < S.length) := Lib.hid (by rw [hn.out, ← hst.out]; exact hlt)
            clear hRs
            go_wp2_with fail
            refine (rsdec_any hgl wr hTb).mono ?_
            rintro r w2 ⟨hg2, hcs⟩
            have hb2 := Lib.hid (hb.out.trans (Below.mono hg2 hb.out.size))
            have hat2 := Lib.hid (hat.out.below hg2 hb.out.size)
            have hq2 := Lib.hid (Gr.trans hq.out hb2.out)
            rcases hcs with ⟨k1, k2, A9, c9, D, rfl, ho9, k3⟩ | ⟨k1, k2, rfl⟩ | ⟨k1, rfl⟩
            · have hok : Hid (GsOk S (t + 1) (Gs ++ [flat 8 16 D])) := Lib.hid (hgs.out.snoc k1 k2 k3)
              have hfl : Hid ((flat 8 16 D).length = 128) := Lib.hid (by simp [flat_length])
              have hrow := RowOk.below (.inl (show OB w2 w1.heap.size (.slice A9 (flat 8 16 D).length c9) (flat 8 16 D) by rw [hfl.out]; exact ho9.out.more hb.out.size)) ((Below.refl _ _).alloc (Nat.le_refl _) (.cells #[.slice A9 128 c9] 22)) hb2.out.size
              have hrow3 := Lib.hid hrow
              have hal := (Below.refl w2.heap.size w2).alloc (Nat.le_refl _) (.cells #[.slice A9 128 c9] 22)
              have hat3 := Lib.hid (hat2.out.below hal hb2.out.size)
              have hb3 := Lib.hid (hb2.out.trans (hal.mono hb2.out.size))
              have hrd3 : Hid (Reads (w2.alloc (.cells #[.slice A9 128 c9] 22)) (w2.alloc (.cells #[.slice A9 128 c9] 22)).heap.size 1 (some ⟨w2.heap.size, 0, none⟩) 1 [.slice A9 (flat 8 16 D).length c9]) := Lib.hid (by rw [hfl.out]; exact reads_one w2 22 (.slice A9 128 c9))
              replace k1 := Lib.hid k1
              replace k2 := Lib.hid k2
              replace k3 := Lib.hid k3
              have hGl := Lib.hid hgs.out.1
              clear hrow hal
              go_wp2_with (at_builtin; go_must (refine wpl_append_row rfl (.tmp 47) (.tmp 49) rfl w1.heap.size (.slice A6 t c6) Gs rfl hat3.out A9 c9 (flat 8 16 D) hrow3.out _ _ 1 rfl hrd3.out (by rw [hGl.out]; omega) hb3.out.size ?_); intro v8 w8 hat8 hg8; have hb8 := Lib.hid (hb3.out.grown hg8 hb3.out.size hat3.out.up); obtain ⟨A8, c8, rfl, -, -, -⟩ := hat8.form hb8.out.size; rw [List.length_append, hGl.out] at hat8 ⊢; replace hat8 := Lib.hid hat8; clear hg8)
              go_roundw
              case rel => exact ⟨s + 10, t + 1, A8, c8, _, by omega, by have := hst.out; omega, Lib.hid (by have := hst.out; omega), by go_num, rfl, hok, hat8, hb8⟩
              case measure => simp [intOf]; omega
            · go_wp2_with fail
              go_ret2
              exact ⟨hq2.out, .inr ⟨hgood.out.1, hgood.out.2.1, hgood.out.2.2, .inl ⟨t, Gs, h10t.out, hgs.out, k1, k2, rfl⟩⟩⟩
            · go_wp2_with fail
              go_ret2
              exact ⟨hq2.out, .inr ⟨hgood.out.1, hgood.out.2.1, hgood.out.2.2, .inr (.inl ⟨t, Gs, h10t.out, hgs.out, k1, rfl⟩)⟩⟩
          · obtain rfl : s = n := by omega
            have is_ : decide ((s : Int) < (s : Int)) = false := decide_eq_false (by omega)
            have q2 : wr.cell? ⟨w.heap.size, 2, none⟩ = some (.int .i64 e.size) := (hb.out.cell hsz1.out).trans p2
            have q3 : wr.cell? ⟨w.heap.size, 3, none⟩ = some (.string (bs e.sum)) := (hb.out.cell hsz1.out).trans p3
            have hGl := hgs.out.1
            have hTb : Hid (Tbl Gs (.slice A6 t c6) wr) := Lib.hid (by
              obtain ⟨A7, c7, e7, f1, f2, f3⟩ := hat.out.form hb.out.size
              exact ⟨A7, c7, e7, f1, f2, f3⟩)
            have hTd : Hid (GsOk S (S.length / 10) Gs) := Lib.hid (by rw [hn.out, show s / 10 = t by have := hst.out; omega]; exact hgs.out)
            have hq1 := Lib.hid (Gr.trans hq.out hb.out)
            go_wp2_with fail
            refine (join_any e.size hz wr hTb).mono ?_
            rintro r w2 hj
            rcases hj with ⟨hjo, A9, m, c9, rfl, hm, ho9, hg9⟩ | ⟨hjo, rfl, hg9⟩
            · have hml : Hid ((joinV Gs e.size).length = m) := Lib.hid (by obtain ⟨_, _, e9, -⟩ := ho9.out.form; injection e9 with _ e9 _; exact e9.symm)
              have hrd9 := Lib.hid ho9.out
              have r3 : w2.cell? ⟨w.heap.size, 3, none⟩ = some (.string (bs e.sum)) := (hg9.cell (Nat.lt_of_lt_of_le hsz1.out hb.out.size)).trans q3
              have hq2 := Lib.hid (Gr.trans hq1.out hg9)
              replace hjo := Lib.hid hjo
              replace ho9 := Lib.hid (ho9.out.more (Nat.le_trans hq.out.size hb.out.size))
              have hszw : Hid (wr.heap.size ≤ w2.heap.size) := Lib.hid hg9.size
              clear hg9 hrd9
              obtain ⟨d, hd⟩ : ∃ d, dg (joinV Gs e.size) = d := ⟨_, rfl⟩
              have hof : Hid (∀ w, Hid (Rd w w.heap.size A9 (joinV Gs e.size)) → Calls Try.prog 44 #[.slice A9 m c9] w fun e w' => e = .returned (.string (bs d)) ∧ Gr w w') := Lib.hid (fun w hw => by rw [← hd]; exact of_any A9 m c9 _ hml (by omega) w hw)
              have hrdD : Hid (Rd w2.drew w2.drew.heap.size A9 (joinV Gs e.size)) := Lib.hid ho9.out.rd.1
              have hoD : Hid (OB w2.drew w.heap.size (.slice A9 m c9) (joinV Gs e.size)) := Lib.hid ho9.out
              have hqD : Hid (Gr w w2.drew) := Lib.hid (Below.drew hq2.out)
              have hszD : Hid (w.heap.size < w2.drew.heap.size) := Lib.hid (Nat.lt_of_lt_of_le hsz1.out (Nat.le_trans hb.out.size hszw.out))
              have r3D : w2.drew.cell? ⟨w.heap.size, 3, none⟩ = some (.string (bs e.sum)) := r3
              by_cases hsum : d = e.sum
              · have i5 : (d == e.sum) = true := by rw [hsum]; exact beq_self_eq_true _
                have i3 : (bs d == bs e.sum) = true := by rw [bs_beq]; exact i5
                have i6 : (d != e.sum) = false := by unfold bne; rw [i5]; rfl
                have i4 : (bs d != bs e.sum) = false := by unfold bne; rw [i3]; rfl
                replace hsum := Lib.hid hsum
                replace hd := Lib.hid hd
                go_wp2_with fail
                go_region_with (go_at_call 44; refine (hof.out _ hrdD).mono ?_; rintro r w3 ⟨rfl, hr⟩; replace hoD := Lib.hid (hoD.out.below (Below.mono hr (Nat.le_refl _))); replace hqD := Lib.hid (Gr.trans hqD.out hr); replace r3D := (hr.cell hszD.out).trans r3D; clear hr)
                all_goals
                  go_wp2_with fail
                  go_ret2
                  exact ⟨hqD.out, .inr ⟨hgood.out.1, hgood.out.2.1, hgood.out.2.2, .inr (.inr (.inl ⟨Gs, hTd.out, hjo.out, hd.out.trans hsum.out, A9, m, c9, rfl, hoD⟩))⟩⟩
              · have i5 : (d == e.sum) = false := by rw [beq_eq_false_iff_ne]; exact hsum
                have i3 : (bs d == bs e.sum) = false := by rw [bs_beq]; exact i5
                have i6 : (d != e.sum) = true := by unfold bne; rw [i5]; rfl
                have i4 : (bs d != bs e.sum) = true := by unfold bne; rw [i3]; rfl
                have hbadj : Hid (joinOk Gs e.size = false ∨ dg (joinV Gs e.size) ≠ e.sum) := Lib.hid (.inr (by rw [hd]; exact hsum))
                replace hsum := Lib.hid hsum
                replace hd := Lib.hid hd
                go_wp2_with fail
                go_region_with (go_at_call 44; refine (hof.out _ hrdD).mono ?_; rintro r w3 ⟨rfl, hr⟩; replace hqD := Lib.hid (Gr.trans hqD.out hr); replace r3D := (hr.cell hszD.out).trans r3D; clear hr)
                all_goals
                  go_wp2_with fail
                  go_ret2
                  exact ⟨hqD.out, .inr ⟨hgood.out.1, hgood.out.2.1, hgood.out.2.2, .inr (.inr (.inr ⟨Gs, hTd.out, hbadj.out, rfl⟩))⟩⟩
            · have hq2 := Lib.hid (Gr.trans hq1.out hg9)
              have hjo2 := Lib.hid (Or.inl hjo : joinOk Gs e.size = false ∨ dg (joinV Gs e.size) ≠ e.sum)
              clear hjo
              go_wp2_with fail
              refine wpR_region (Eq) 9999 (by kernel_rfl) ?_
              refine wpR_take (i := 0) (v := ?_) (⟨fun _ => rfl, Eq.trans⟩) (some 58) rfl (by kernel_rfl) (by kernel_rfl) (by kernel_rfl) (by kernel_rfl) (by kernel_rfl) (fun _ _ _ h => h) (by kernel_rfl) (fun w' hw' => ?_) ?_
              rotate_left
              · go_simp; with_reducible rfl
              simp only [Act.put, List.setIfInBounds_toArray, List.set_cons_zero, List.set_cons_succ]
              refine wpR_take (i := 1) (v := ?_) (⟨fun _ => rfl, Eq.trans⟩) (some 59) rfl (by kernel_rfl) (by kernel_rfl) (by kernel_rfl) (by kernel_rfl) (by kernel_rfl) (fun _ _ _ h => h) (by kernel_rfl) (fun w' hw' => ?_) ?_
              rotate_left
              · go_simp; with_reducible rfl
              simp only [Act.put, List.setIfInBounds_toArray, List.set_cons_zero, List.set_cons_succ]
              refine wpR_take (i := 2) (v := ?_) (⟨fun _ => rfl, Eq.trans⟩) (some 60) rfl (by kernel_rfl) (by kernel_rfl) (by kernel_rfl) (by kernel_rfl) (by kernel_rfl) (fun _ _ _ h => h) (by kernel_rfl) (fun w' hw' => ?_) ?_
              rotate_left
              · go_simp; with_reducible rfl
              simp only [Act.put, List.setIfInBounds_toArray, List.set_cons_zero, List.set_cons_succ]
              refine wpR_skip (i := 3) (⟨fun _ => rfl, Eq.trans⟩) (some 61) rfl (by kernel_rfl) (by kernel_rfl) (by kernel_rfl) (by kernel_rfl) (by kernel_rfl) (fun _ _ _ h => h) (by kernel_rfl) ?_
              refine wpR_skip (i := 4) (⟨fun _ => rfl, Eq.trans⟩) (some 62) rfl (by kernel_rfl) (by kernel_rfl) (by kernel_rfl) (by kernel_rfl) (by kernel_rfl) (fun _ _ _ h => h) (by kernel_rfl) ?_
              refine wpR_skip (i := 5) (⟨fun _ => rfl, Eq.trans⟩) (some 63) rfl (by kernel_rfl) (by kernel_rfl) (by kernel_rfl) (by kernel_rfl) (by kernel_rfl) (fun _ _ _ h => h) (by kernel_rfl) ?_
              refine wpR_skip (i := 6) (⟨fun _ => rfl, Eq.trans⟩) (some 64) rfl (by kernel_rfl) (by kernel_rfl) (by kernel_rfl) (by kernel_rfl) (by kernel_rfl) (fun _ _ _ h => h) (by kernel_rfl) ?_
              refine wpR_skip (i := 7) (⟨fun _ => rfl, Eq.trans⟩) (some 65) rfl (by kernel_rfl) (by kernel_rfl) (by kernel_rfl) (by kernel_rfl) (by kernel_rfl) (fun _ _ _ h => h) (by kernel_rfl) ?_
              refine wpR_take (i := 8) (v := ?_) (⟨fun _ => rfl, Eq.trans⟩) (some 66) rfl (by kernel_rfl) (by kernel_rfl) (by kernel_rfl) (by kernel_rfl) (by kernel_rfl) (fun _ _ _ h => h) (by kernel_rfl) (fun w' hw' => ?_) ?_
              rotate_left
              · go_simp; with_reducible rfl
              simp only [Act.put, List.setIfInBounds_toArray, List.set_cons_zero, List.set_cons_succ]
              refine wpR_done (by kernel_rfl) ?_ _
              go_wp2_with fail
              go_ret2
              exact ⟨Below.drew hq2.out, .inr ⟨hgood.out.1, hgood.out.2.1, hgood.out.2.2, .inr (.inr (.inr ⟨Gs, hTd.out, hjo2.out, rfl⟩))⟩⟩
      · have i2 : ((n : Int) % 10 != 0) = true := by rw [bne_iff_ne]; omega
        have hbad : Hid (S.length = 0 ∨ S.length ≠ n ∨ S.length % 10 ≠ 0) := Lib.hid (.inr (.inr (by rw [hn]; exact h2)))
        replace hn := Lib.hid hn
        replace h2 := Lib.hid h2
        go_enter Try.func30, Try.ntmps30
        go_wp2_with fail
        go_ret2
        exact ⟨hq.out, .inl ⟨hbad.out, rfl⟩⟩
    · have i1 : ((n : Int) != (np : Int)) = true := by rw [bne_iff_ne]; omega
      have hbad : Hid (S.length = 0 ∨ S.length ≠ np ∨ S.length % 10 ≠ 0) := Lib.hid (.inr (.inl (by omega)))
      replace hn := Lib.hid hn
      go_enter Try.func30, Try.ntmps30
      go_wp2_with fail
      go_ret2
      exact ⟨hq.out, .inl ⟨hbad.out, rfl⟩⟩
end Go.Proofs.Ytdgkcgiknfjpjaa
