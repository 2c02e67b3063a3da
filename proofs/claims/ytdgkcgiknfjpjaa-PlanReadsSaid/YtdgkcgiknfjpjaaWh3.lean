/- kistref19.Whole, over an oracle of what solves each group. -/
import Derived.Test.YtdgkcgiknfjpjaaWh2
import Derived.Test.YtdgkcgiknfjpjaaRs12
namespace Go.Proofs.Ytdgkcgiknfjpjaa
set_option linter.unusedVariables false
set_option linter.unusedSimpArgs false
open Go Go.RowKit
def fineG (S : List (List UInt8)) (t : Nat) : Prop := shardsOk (sgrp S t) ∧ 8 ≤ (pidx (sgrp S t) 10).length
def gsD (Ds : Nat → Mx) (t : Nat) : List (List UInt8) := (List.range t).map (fun i => flat 8 16 (Ds i))
theorem gsD_length (Ds : Nat → Mx) (t : Nat) : (gsD Ds t).length = t := by simp [gsD]
theorem gsD_snoc (Ds : Nat → Mx) (t : Nat) : gsD Ds t ++ [flat 8 16 (Ds t)] = gsD Ds (t + 1) := by unfold gsD; rw [List.range_succ, List.map_append]; rfl
/-- what the reference's Whole answers, the groups solved by Ds -/
def RWholePost (S : List (List UInt8)) (Ds : Nat → Mx) (np : Nat) (z : Int) (s : List UInt8) (w : World) (e : Ending) (w' : World) : Prop := Gr w w' ∧
  (((S.length = 0 ∨ S.length ≠ np ∨ S.length % 10 ≠ 0) ∧ e = .returned (.tuple #[.slice none 0 0, .int .i64 1])) ∨
   (S.length ≠ 0 ∧ S.length = np ∧ S.length % 10 = 0 ∧
    ((∃ t, 10 * t < S.length ∧ (∀ i, i < t → fineG S i) ∧ shardsOk (sgrp S t) ∧ (pidx (sgrp S t) 10).length < 8 ∧ e = .returned (.tuple #[.slice none 0 0, .int .i64 9])) ∨
     (∃ t, 10 * t < S.length ∧ (∀ i, i < t → fineG S i) ∧ ¬ shardsOk (sgrp S t) ∧ e = .returned (.tuple #[.slice none 0 0, .int .i64 1])) ∨
     ((∀ i, i < S.length / 10 → fineG S i) ∧ joinOk (gsD Ds (S.length / 10)) z = true ∧ dg (joinV (gsD Ds (S.length / 10)) z) = s ∧ ∃ A n c, e = .returned (.tuple #[.slice A n c, .int .i64 0]) ∧ Hid (OB w' w.heap.size (.slice A n c) (joinV (gsD Ds (S.length / 10)) z))) ∨
     ((∀ i, i < S.length / 10 → fineG S i) ∧ (joinOk (gsD Ds (S.length / 10)) z = false ∨ dg (joinV (gsD Ds (S.length / 10)) z) ≠ s) ∧ e = .returned (.tuple #[.slice none 0 0, .int .i64 9])))))
set_option maxHeartbeats 8000000 in
set_option maxRecDepth 20000 in
theorem rwhole_any {S : List (List UInt8)} {v : Value} (Ds : Nat → Mx) (e : En) (A : Option Addr) (np c : Nat) (hDs : Hid (S.length ≠ 0 → S.length = np → S.length % 10 = 0 → ∀ t, 10 * t < S.length → (∀ i, i < t → fineG S i) → fineG S t → Solves (sgrp S t) (Ds t))) (hnp : np ≤ 60) (hz : R64 e.size) (w : World) (hS : Hid (Tbl S v w)) :
    Calls Try.prog 31 #[.agg #[.string (bs e.key), .int .i64 e.gen, .int .i64 e.size, .string (bs e.sum), .slice A np c], v] w (RWholePost S Ds np e.size e.sum w) := by
  obtain ⟨A1, c1, rfl, a1, a2, a3⟩ := hS.out
  have x1 := heap_alloc_new w (.cells #[.string (bs e.key), .int .i64 e.gen, .int .i64 e.size, .string (bs e.sum), .slice A np c] 55)
  have p2 := blk_cell (j := 2) x1 rfl
  have p3 := blk_cell (j := 3) x1 rfl
  have p4 := blk_cell (j := 4) x1 rfl
  have hq : Hid (Gr w (w.alloc (.cells #[.string (bs e.key), .int .i64 e.gen, .int .i64 e.size, .string (bs e.sum), .slice A np c] 55))) := Lib.hid ((Below.refl _ _).alloc (Nat.le_refl _) _)
  have hRT := Lib.hid (a3.up hq.out)
  clear a3
  replace x1 := Lib.hid x1
  obtain ⟨n, hn⟩ : ∃ n, S.length = n := ⟨_, rfl⟩
  rw [hn] at hRT a1 ⊢
  by_cases h0 : n = 0
  · have hbad : Hid (S.length = 0 ∨ S.length ≠ np ∨ S.length % 10 ≠ 0) := Lib.hid (.inl (by omega))
    have i0 : decide ((n : Int) < 10) = true := decide_eq_true (by omega)
    replace hn := Lib.hid hn
    go_enter Try.func31, Try.ntmps31
    go_wp2_with fail
    all_goals
      go_ret2
      exact ⟨hq.out, .inl ⟨hbad.out, rfl⟩⟩
  · skip
    by_cases h1 : n = np
    · subst h1
      have i1 : ((n : Int) != (n : Int)) = false := by simp
      by_cases h2 : n % 10 = 0
      · have i2 : ((n : Int) % 10 != 0) = false := by rw [bne_eq_false_iff_eq]; omega
        have hgood : Hid (S.length ≠ 0 ∧ S.length = n ∧ S.length % 10 = 0) := Lib.hid ⟨by omega, by omega, by rw [hn]; exact h2⟩
        have i0 : decide ((n : Int) < 10) = false := decide_eq_false (by omega)
        have i0' : (10 : Int) ≤ (n : Int) := by omega
        obtain ⟨T, hT⟩ : ∃ T, n = 10 * T := ⟨n / 10, by omega⟩
        have hT6 : T ≤ 6 := by omega
        replace hn := Lib.hid hn
        replace h2 := Lib.hid h2
        replace hT := Lib.hid hT
        obtain ⟨b1, o1, A0, c0, l0, rfl, hb1, -⟩ := hRT.out.at_ (i := 0) (by omega)
        clear hb1
        go_enter Try.func31, Try.ntmps31
        go_wp2_with fail
        have hsz1 : Hid (w.heap.size < (w.alloc (.cells #[.string (bs e.key), .int .i64 e.gen, .int .i64 e.size, .string (bs e.sum), .slice A n c] 55)).heap.size) := Lib.hid (by simp)
        have hwz : Hid ((w.alloc (.cells #[.string (bs e.key), .int .i64 e.gen, .int .i64 e.size, .string (bs e.sum), .slice A n c] 55)).heap.size = w.heap.size + 1) := Lib.hid (by simp)
        generalize w.alloc (.cells #[.string (bs e.key), .int .i64 e.gen, .int .i64 e.size, .string (bs e.sum), .slice A n c] 55) = w1 at p2 p3 p4 hq hRT x1 hsz1 hwz ⊢
        have hat0 : Hid (AT (w1.alloc (.cells #[] 22)) w1.heap.size (.slice (some ⟨w.heap.size + 1, 0, none⟩) 0 0) []) := Lib.hid (by rw [← hwz.out]; exact AT.empty w1 w1.heap.size (Nat.le_refl _))
        have hbw0 := Lib.hid ((Below.refl w1.heap.size w1).alloc (Nat.le_refl _) (.cells #[] 22))
        go_loopw [6, 7] (fun v6 i wr => ∃ (s t : Nat) (A6 : Option Addr) (c6 : Nat) (Gs : List (List UInt8)), s ≤ n ∧ Hid (Gs = gsD Ds t) ∧ t ≤ 6 ∧ Hid (s = 10 * t) ∧ i = .int .i64 s ∧ v6 = .slice A6 t c6 ∧ Hid (∀ i, i < t → fineG S i) ∧ Hid (AT wr w1.heap.size (.slice A6 t c6) Gs) ∧ Hid (Below w1.heap.size w1 wr)) (fun _ i _ => (n - intOf i).toNat)
        case atStart => exact ⟨0, 0, _, _, [], Nat.zero_le _, Lib.hid rfl, by omega, Lib.hid rfl, rfl, rfl, Lib.hid (fun i h => absurd h (by omega)), hat0, hbw0⟩
        case round =>
          obtain ⟨s, t, A6, c6, Gs, hsn, hGs, ht6, hst, rfl, rfl, hgs, hat, hb⟩ := hrel
          clear hat0 hbw0
          by_cases hlt : s < n
          · have is_ : (s : Int) < (n : Int) := by omega
            have hs10 : s + 10 ≤ n := by have := hst.out; have := hT.out; omega
            have u1 : wrap64 ((s : Int) + 10) = ((s + 10 : Nat) : Int) := by unfold wrap64; omega
            have hsc : s + 10 ≤ c1 := by omega
            have hRs : RT wr wr.heap.size (some ⟨b1, o1 + s, none⟩) 10 (sgrp S t) := by rw [hst.out]; exact RT.sgrp (hRT.out.up hb.out) (by have := hst.out; omega)
            have hgl : (sgrp S t).length = 10 := hRs.1
            have hTb : Hid (Tbl (sgrp S t) (.slice (some ⟨b1, o1 + s, none⟩) 10 (c1 - s)) wr) := Lib.hid ⟨_, _, by rw [hgl], by omega, by omega, by rw [hgl]; exact hRs⟩
            have h10t : Hid (10 * t < S.length) := Lib.hid (by rw [hn.out, ← hst.out]; exact hlt)
            have hRs2 := Lib.hid hRs
            clear hRs hTb
            go_wp2_with fail
            refine (rrdec_any (L := sgrp S t) (D := Ds t) (Lib.hid hgl) (by omega) (Lib.hid (fun g1 g2 => hDs.out hgood.out.1 hgood.out.2.1 hgood.out.2.2 t h10t.out hgs.out ⟨g1, g2⟩)) wr hRs2).mono ?_
            rintro r w2 ⟨hg2, hcs⟩
            have hb2 := Lib.hid (hb.out.trans (Below.mono hg2 hb.out.size))
            have hat2 := Lib.hid (hat.out.below hg2 hb.out.size)
            have hq2 := Lib.hid (Gr.trans hq.out hb2.out)
            rcases hcs with ⟨k1, k2, A9, c9, rfl, ho9⟩ | ⟨k1, k2, rfl⟩ | ⟨k1, rfl⟩
            · have hok : Hid (∀ i, i < t + 1 → fineG S i) := Lib.hid (fun i hi => if e : i = t then by rw [e]; exact ⟨k1, k2⟩ else hgs.out i (by omega))
              have hsn2 : Hid (Gs ++ [flat 8 16 (Ds t)] = gsD Ds (t + 1)) := Lib.hid (by rw [hGs.out]; exact gsD_snoc Ds t)
              have hfl : Hid ((flat 8 16 (Ds t)).length = 128) := Lib.hid (by simp [flat_length])
              have hrow := RowOk.below (.inl (show OB w2 w1.heap.size (.slice A9 (flat 8 16 (Ds t)).length c9) (flat 8 16 (Ds t)) by rw [hfl.out]; exact ho9.out.more hb.out.size)) ((Below.refl _ _).alloc (Nat.le_refl _) (.cells #[.slice A9 128 c9] 22)) hb2.out.size
              have hrow3 := Lib.hid hrow
              have hal := (Below.refl w2.heap.size w2).alloc (Nat.le_refl _) (.cells #[.slice A9 128 c9] 22)
              have hat3 := Lib.hid (hat2.out.below hal hb2.out.size)
              have hb3 := Lib.hid (hb2.out.trans (hal.mono hb2.out.size))
              have hrd3 : Hid (Reads (w2.alloc (.cells #[.slice A9 128 c9] 22)) (w2.alloc (.cells #[.slice A9 128 c9] 22)).heap.size 1 (some ⟨w2.heap.size, 0, none⟩) 1 [.slice A9 (flat 8 16 (Ds t)).length c9]) := Lib.hid (by rw [hfl.out]; exact reads_one w2 22 (.slice A9 128 c9))
              replace k1 := Lib.hid k1
              replace k2 := Lib.hid k2
              have hGl : Hid (Gs.length = t) := Lib.hid (by rw [hGs.out]; exact gsD_length Ds t)
              clear hrow hal
              go_wp2_with (at_builtin; go_must (refine wpl_append_row rfl (.tmp 48) (.tmp 50) rfl w1.heap.size (.slice A6 t c6) Gs rfl hat3.out A9 c9 (flat 8 16 (Ds t)) hrow3.out _ _ 1 rfl hrd3.out (by rw [hGl.out]; omega) hb3.out.size ?_); intro v8 w8 hat8 hg8; have hb8 := Lib.hid (hb3.out.grown hg8 hb3.out.size hat3.out.up); obtain ⟨A8, c8, rfl, -, -, -⟩ := hat8.form hb8.out.size; rw [List.length_append, hGl.out] at hat8 ⊢; replace hat8 := Lib.hid hat8; clear hg8)
              go_roundw
              case rel => exact ⟨s + 10, t + 1, A8, c8, _, by omega, hsn2, by have := hst.out; omega, Lib.hid (by have := hst.out; omega), by go_num, rfl, hok, hat8, hb8⟩
              case measure => simp [intOf]; omega
            · go_wp2_with fail
              go_ret2
              exact ⟨hq2.out, .inr ⟨hgood.out.1, hgood.out.2.1, hgood.out.2.2, .inl ⟨t, h10t.out, hgs.out, k1, k2, rfl⟩⟩⟩
            · go_wp2_with fail
              go_ret2
              exact ⟨hq2.out, .inr ⟨hgood.out.1, hgood.out.2.1, hgood.out.2.2, .inr (.inl ⟨t, h10t.out, hgs.out, k1, rfl⟩)⟩⟩
          · obtain rfl : s = n := by omega
            have is_ : decide ((s : Int) < (s : Int)) = false := decide_eq_false (by omega)
            have q2 : wr.cell? ⟨w.heap.size, 2, none⟩ = some (.int .i64 e.size) := (hb.out.cell hsz1.out).trans p2
            have q3 : wr.cell? ⟨w.heap.size, 3, none⟩ = some (.string (bs e.sum)) := (hb.out.cell hsz1.out).trans p3
            have hGl : Gs.length = t := by rw [hGs.out]; exact gsD_length Ds t
            have hTb : Hid (Tbl Gs (.slice A6 t c6) wr) := Lib.hid (by
              obtain ⟨A7, c7, e7, f1, f2, f3⟩ := hat.out.form hb.out.size
              exact ⟨A7, c7, e7, f1, f2, f3⟩)
            have hTt : Hid (S.length / 10 = t) := Lib.hid (by rw [hn.out]; have := hst.out; omega)
            have hTd : Hid (∀ i, i < S.length / 10 → fineG S i) := Lib.hid (by rw [hTt.out]; exact hgs.out)
            have hGe : Hid (gsD Ds (S.length / 10) = Gs) := Lib.hid (by rw [hTt.out]; exact hGs.out.symm)
            have hq1 := Lib.hid (Gr.trans hq.out hb.out)
            go_wp2_with fail
            refine (rjoin_any e.size hz wr hTb).mono ?_
            rintro r w2 hj
            rcases hj with ⟨hjo, A9, m, c9, rfl, hm, ho9, hg9⟩ | ⟨hjo, rfl, hg9⟩
            · have hml : Hid ((joinV Gs e.size).length = m) := Lib.hid (by obtain ⟨_, _, e9, -⟩ := ho9.out.form; injection e9 with _ e9 _; exact e9.symm)
              have hrd9 := Lib.hid ho9.out
              have r3 : w2.cell? ⟨w.heap.size, 3, none⟩ = some (.string (bs e.sum)) := (hg9.cell (Nat.lt_of_lt_of_le hsz1.out hb.out.size)).trans q3
              have hq2 := Lib.hid (Gr.trans hq1.out hg9)
              replace hjo := Lib.hid hjo
              replace ho9 := Lib.hid (ho9.out.more (Nat.le_trans hq.out.size hb.out.size))
              have hszw : Hid (wr.heap.size ≤ w2.heap.size) := Lib.hid hg9.size
              clear hg9 hrd9
              obtain ⟨d, hd⟩ : ∃ d, dg (joinV Gs e.size) = d := ⟨_, rfl⟩
              have hof : Hid (∀ w, Hid (Rd w w.heap.size A9 (joinV Gs e.size)) → Calls Try.prog 46 #[.slice A9 m c9] w fun e w' => e = .returned (.string (bs d)) ∧ Gr w w') := Lib.hid (fun w hw => by rw [← hd]; exact refOf_any A9 m c9 _ hml (by omega) w hw)
              have hrdD : Hid (Rd w2.drew w2.drew.heap.size A9 (joinV Gs e.size)) := Lib.hid ho9.out.rd.1
              have hoD : Hid (OB w2.drew w.heap.size (.slice A9 m c9) (joinV Gs e.size)) := Lib.hid ho9.out
              have hqD : Hid (Gr w w2.drew) := Lib.hid (Below.drew hq2.out)
              have hszD : Hid (w.heap.size < w2.drew.heap.size) := Lib.hid (Nat.lt_of_lt_of_le hsz1.out (Nat.le_trans hb.out.size hszw.out))
              have r3D : w2.drew.cell? ⟨w.heap.size, 3, none⟩ = some (.string (bs e.sum)) := r3
              by_cases hsum : d = e.sum
              · have i5 : (d == e.sum) = true := by rw [hsum]; exact beq_self_eq_true _
                have i3 : (bs d == bs e.sum) = true := by rw [bs_beq]; exact i5
                have i6 : (d != e.sum) = false := by unfold bne; rw [i5]; rfl
                have i4 : (bs d != bs e.sum) = false := by unfold bne; rw [i3]; rfl
                replace hsum := Lib.hid hsum
                replace hd := Lib.hid hd
                go_wp2_with fail
                go_region_with (go_at_call 46; refine (hof.out _ hrdD).mono ?_; rintro r w3 ⟨rfl, hr⟩; replace hoD := Lib.hid (hoD.out.below (Below.mono hr (Nat.le_refl _))); replace hqD := Lib.hid (Gr.trans hqD.out hr); replace r3D := (hr.cell hszD.out).trans r3D; clear hr)
                all_goals
                  go_wp2_with fail
                  go_ret2
                  exact ⟨hqD.out, .inr ⟨hgood.out.1, hgood.out.2.1, hgood.out.2.2, .inr (.inr (.inl ⟨hTd.out, by rw [hGe.out]; exact hjo.out, by rw [hGe.out]; exact hd.out.trans hsum.out, A9, m, c9, rfl, by rw [hGe.out]; exact hoD⟩))⟩⟩
              · have i5 : (d == e.sum) = false := by rw [beq_eq_false_iff_ne]; exact hsum
                have i3 : (bs d == bs e.sum) = false := by rw [bs_beq]; exact i5
                have i6 : (d != e.sum) = true := by unfold bne; rw [i5]; rfl
                have i4 : (bs d != bs e.sum) = true := by unfold bne; rw [i3]; rfl
                have hbadj : Hid (joinOk Gs e.size = false ∨ dg (joinV Gs e.size) ≠ e.sum) := Lib.hid (.inr (by rw [hd]; exact hsum))
                replace hsum := Lib.hid hsum
                replace hd := Lib.hid hd
                go_wp2_with fail
                go_region_with (go_at_call 46; refine (hof.out _ hrdD).mono ?_; rintro r w3 ⟨rfl, hr⟩; replace hqD := Lib.hid (Gr.trans hqD.out hr); replace r3D := (hr.cell hszD.out).trans r3D; clear hr)
                all_goals
                  go_wp2_with fail
                  go_ret2
                  exact ⟨hqD.out, .inr ⟨hgood.out.1, hgood.out.2.1, hgood.out.2.2, .inr (.inr (.inr ⟨hTd.out, by rw [hGe.out]; exact hbadj.out, rfl⟩))⟩⟩
            · have hq2 := Lib.hid (Gr.trans hq1.out hg9)
              have hjo2 := Lib.hid (Or.inl hjo : joinOk Gs e.size = false ∨ dg (joinV Gs e.size) ≠ e.sum)
              clear hjo
              go_wp2_with fail
              refine wpR_region (Eq) 9999 (by kernel_rfl) ?_
              refine wpR_take (i := 0) (v := ?_) (⟨fun _ => rfl, Eq.trans⟩) (some 59) rfl (by kernel_rfl) (by kernel_rfl) (by kernel_rfl) (by kernel_rfl) (by kernel_rfl) (fun _ _ _ h => h) (by kernel_rfl) (fun w' hw' => ?_) ?_
              rotate_left
              · go_simp; with_reducible rfl
              simp only [Act.put, List.setIfInBounds_toArray, List.set_cons_zero, List.set_cons_succ]
              refine wpR_take (i := 1) (v := ?_) (⟨fun _ => rfl, Eq.trans⟩) (some 60) rfl (by kernel_rfl) (by kernel_rfl) (by kernel_rfl) (by kernel_rfl) (by kernel_rfl) (fun _ _ _ h => h) (by kernel_rfl) (fun w' hw' => ?_) ?_
              rotate_left
              · go_simp; with_reducible rfl
              simp only [Act.put, List.setIfInBounds_toArray, List.set_cons_zero, List.set_cons_succ]
              refine wpR_take (i := 2) (v := ?_) (⟨fun _ => rfl, Eq.trans⟩) (some 61) rfl (by kernel_rfl) (by kernel_rfl) (by kernel_rfl) (by kernel_rfl) (by kernel_rfl) (fun _ _ _ h => h) (by kernel_rfl) (fun w' hw' => ?_) ?_
              rotate_left
              · go_simp; with_reducible rfl
              simp only [Act.put, List.setIfInBounds_toArray, List.set_cons_zero, List.set_cons_succ]
              refine wpR_skip (i := 3) (⟨fun _ => rfl, Eq.trans⟩) (some 62) rfl (by kernel_rfl) (by kernel_rfl) (by kernel_rfl) (by kernel_rfl) (by kernel_rfl) (fun _ _ _ h => h) (by kernel_rfl) ?_
              refine wpR_skip (i := 4) (⟨fun _ => rfl, Eq.trans⟩) (some 63) rfl (by kernel_rfl) (by kernel_rfl) (by kernel_rfl) (by kernel_rfl) (by kernel_rfl) (fun _ _ _ h => h) (by kernel_rfl) ?_
              refine wpR_skip (i := 5) (⟨fun _ => rfl, Eq.trans⟩) (some 64) rfl (by kernel_rfl) (by kernel_rfl) (by kernel_rfl) (by kernel_rfl) (by kernel_rfl) (fun _ _ _ h => h) (by kernel_rfl) ?_
              refine wpR_skip (i := 6) (⟨fun _ => rfl, Eq.trans⟩) (some 65) rfl (by kernel_rfl) (by kernel_rfl) (by kernel_rfl) (by kernel_rfl) (by kernel_rfl) (fun _ _ _ h => h) (by kernel_rfl) ?_
              refine wpR_skip (i := 7) (⟨fun _ => rfl, Eq.trans⟩) (some 66) rfl (by kernel_rfl) (by kernel_rfl) (by kernel_rfl) (by kernel_rfl) (by kernel_rfl) (fun _ _ _ h => h) (by kernel_rfl) ?_
              refine wpR_take (i := 8) (v := ?_) (⟨fun _ => rfl, Eq.trans⟩) (some 67) rfl (by kernel_rfl) (by kernel_rfl) (by kernel_rfl) (by kernel_rfl) (by kernel_rfl) (fun _ _ _ h => h) (by kernel_rfl) (fun w' hw' => ?_) ?_
              rotate_left
              · go_simp; with_reducible rfl
              simp only [Act.put, List.setIfInBounds_toArray, List.set_cons_zero, List.set_cons_succ]
              refine wpR_done (by kernel_rfl) ?_ _
              go_wp2_with fail
              go_ret2
              exact ⟨Below.drew hq2.out, .inr ⟨hgood.out.1, hgood.out.2.1, hgood.out.2.2, .inr (.inr (.inr ⟨hTd.out, by rw [hGe.out]; exact hjo2.out, rfl⟩))⟩⟩
      · have i2 : ((n : Int) % 10 != 0) = true := by rw [bne_iff_ne]; omega
        have hbad : Hid (S.length = 0 ∨ S.length ≠ n ∨ S.length % 10 ≠ 0) := Lib.hid (.inr (.inr (by rw [hn]; exact h2)))
        replace hn := Lib.hid hn
        replace h2 := Lib.hid h2
        go_enter Try.func31, Try.ntmps31
        go_wp2_with fail
        all_goals
          go_ret2
          exact ⟨hq.out, .inl ⟨hbad.out, rfl⟩⟩
    · have i1 : ((n : Int) != (np : Int)) = true := by rw [bne_iff_ne]; omega
      have hbad : Hid (S.length = 0 ∨ S.length ≠ np ∨ S.length % 10 ≠ 0) := Lib.hid (.inr (.inl (by omega)))
      replace hn := Lib.hid hn
      go_enter Try.func31, Try.ntmps31
      go_wp2_with fail
      all_goals
        go_ret2
        exact ⟨hq.out, .inl ⟨hbad.out, rfl⟩⟩
end Go.Proofs.Ytdgkcgiknfjpjaa
