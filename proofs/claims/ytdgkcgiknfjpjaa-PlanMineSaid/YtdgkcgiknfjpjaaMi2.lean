/- The law PlanMine. -/
import Derived.Test.YtdgkcgiknfjpjaaMi1
import Derived.Test.YtdgkcgiknfjpjaaEns
import Derived.Deep.CutBlock
import Derived.Deep.DeepCutAuto
namespace Go.Proofs.Ytdgkcgiknfjpjaa
set_option linter.unusedVariables false
set_option linter.unusedSimpArgs false
open Go Go.RowKit
set_option maxHeartbeats 8000000 in
set_option maxRecDepth 20000 in
theorem planMine_any (key : List UInt8) (hkl : key.length ≤ maxLen) (gn : Nat) (hgn : gn < 65536) (A : Option Addr) (n c : Nat) (l : List UInt8) (hn : l.length = n) (hnc : n ≤ c) (hcm : c ≤ maxLen) (x y : UInt8) (w : World) (hr : Rd w w.heap.size A l) :
    Calls Try.prog 9 #[.string (bs key), .int .u16 gn, .slice A n c, .int .u8 (U x), .int .u8 (U y)] w fun e w' => e = .returned (.bool true) ∧ Gr w w' := by
  have hsh := Lib.hid (short19_any A n c l 512 (by decide) (by decide) (Lib.hid hn) hnc (by simp only [maxLen] at hcm; omega) w (Lib.hid hr))
  have hd5 : (l.take 512).length ≤ 512 := by rw [List.length_take]; omega
  obtain ⟨d, hd⟩ : ∃ d, l.take 512 = d := ⟨_, rfl⟩
  rw [hd] at hsh hd5
  replace hd := Lib.hid hd
  replace hkl := Lib.hid hkl
  clear hn hnc hcm hr
  go_enter Try.func9, Try.ntmps9
  go_wp2_with fail
  refine hsh.out.mono ?_
  clear hsh
  rintro e w1 ⟨A1, n1, c1, rfl, ho1, hn1, hg1⟩
  rw [hn1.out] at hd5
  have hgR : Hid (R64 (gn : Int)) := Lib.hid (by unfold R64; omega)
  have hs := Lib.hid (brec_any key (gn : Int) hkl.out hgR.out A1 n1 c1 d hn1.out hd5 w1 ho1.out.rd.1)
  obtain ⟨hgq, hq1, hq4, hqn⟩ := ngrp_spec hd5
  obtain ⟨q, hq⟩ : ∃ q, ngrp n1 = q := ⟨_, rfl⟩
  rw [hq] at hs hq1 hq4
  replace hq := Lib.hid hq
  replace hg1 := Lib.hid hg1
  replace hqn := Lib.hid hqn
  replace hgq := Lib.hid hgq
  go_wp2_with fail
  refine hs.out.mono ?_
  clear hs
  intro e w2 hpost
  by_cases hk : nameOk key (gn : Int) = true
  · have h1 : ¬ ((key.length : Int) < 1) := by unfold nameOk inB at hk; simp at hk; omega
    have h2 : ¬ ((16 : Int) < (key.length : Int)) := by unfold nameOk inB at hk; simp at hk; omega
    obtain ⟨hg2, ⟨-, u, E, rfl, hE, hR⟩ | ⟨hno, -⟩⟩ := hpost
    rotate_left
    · exact absurd (hk.symm.trans hno) (by decide)
    have hEl : E.length = 10 * q := by rw [← recsP_len ⟨key, gn, d, q⟩, ← hE, List.length_map]
    obtain ⟨Au, cu, rfl, hcu, hcum⟩ := hR.form
    rw [hEl] at hR ⊢
    have hg2' := Lib.hid (hg1.out.trans hg2)
    obtain ⟨m, hm⟩ : ∃ m, 10 * q = m := ⟨_, rfl⟩
    rw [hm] at hR ⊢
    have hm1 : 10 ≤ m := by omega
    have hm0 : 0 < m := by omega
    have hm40 : m ≤ 40 := by omega
    have hmm0 : ((m : Int) == 0) = false := by rw [beq_eq_false_iff_ne]; omega
    rw [hm] at hEl
    obtain ⟨i, hi⟩ : ∃ i, (x.toNat % m) = i := ⟨_, rfl⟩
    obtain ⟨k, hk2⟩ : ∃ k, (y.toNat % m) = k := ⟨_, rfl⟩
    have him : i < m := by rw [← hi]; exact Nat.mod_lt _ (by omega)
    have hkm : k < m := by rw [← hk2]; exact Nat.mod_lt _ (by omega)
    obtain ⟨b, o, x0, xA0, xc0, rfl, hq0, -, hbl, hc0⟩ := hR.room (i := 0) (by omega)
    have hx0 : x0.sum = dg d := by
      rw [hE, recsP_num ⟨key, gn, d, q⟩ (by show 0 < 10 * q; omega)] at hq0
      injection hq0 with hq0
      rw [← hq0]; rfl
    obtain ⟨sm, hsm⟩ : ∃ sm, dg d = sm := ⟨_, rfl⟩
    rw [hsm] at hx0
    have hs32 : sm.length ≤ 32 := by rw [← hsm, dg_length]; exact Nat.le_refl _
    have hs32i : (sm.length : Int) ≤ 32 := by omega
    have hs0 : ∀ w', Gr w2 w' → w'.cell? ⟨b, o + 8, none⟩ = some (.string (bs sm)) := fun w' hw' => by
      have := hc0 w' hw' 8 _ rfl
      rw [hx0] at this
      simpa using this
    obtain ⟨b', o', xr, xA, xc, e', hqi, hxv, -, hci⟩ := hR.room (i := i) (by omega)
    injection e' with e'
    injection e' with e1 e2 e3
    subst e1 e2
    have hxr : xr = rec1 ⟨key, gn, d, q⟩ (i / 10) (i / 10) (i % 10) := by
      rw [hE, recsP_num ⟨key, gn, d, q⟩ (by show i < 10 * q; omega)] at hqi
      injection hqi with hqi
      exact hqi.symm
    have hmu : ((m : Nat) : Int) = ((m : Nat) : Int) := rfl
    have hxm : Int.tmod (U x) (m : Int) = (i : Int) := by rw [← hi]; unfold U; exact (Int.ofNat_tmod _ _)
    have hym : Int.tmod (U y) (m : Int) = (k : Int) := by rw [← hk2]; unfold U; exact (Int.ofNat_tmod _ _)
    have hmz : ¬ ((m : Int) = 0) := by omega
    have hmzn : ¬ (m = 0) := by omega
    have hi64 : IntKind.i64.wrap (i : Int) = (i : Int) := by rw [IntKind.wrap_i64]; omega
    have hgn64 : IntKind.i64.wrap (gn : Int) = (gn : Int) := by rw [IntKind.wrap_i64]; omega
    have hk64 : IntKind.i64.wrap (k : Int) = (k : Int) := by rw [IntKind.wrap_i64]; omega
    have hgood : ∀ (e : En) (j : Nat), j < m → goodE e m (j : Int) xr = (decide (i = j) && (key == e.key) && ((gn : Int) == e.gen) && ((n1 : Int) == e.size) && (sm == e.sum)) := fun e j hj => by
      rw [hxr, goodE_mine (p := ⟨key, gn, d, q⟩) hm.symm e him hj]
      show (decide (i = j) && (key == e.key) && ((gn : Int) == e.gen) && ((d.length : Int) == e.size) && (dg d == e.sum)) = _
      rw [hsm, hn1.out]
    clear hmu hc0 hq0 hqi hx0 e3
    replace hgood := Lib.hid hgood
    replace hxr := Lib.hid hxr
    replace hs0 := Lib.hid hs0
    replace hci := Lib.hid hci
    replace hsm := Lib.hid hsm
    replace hi := Lib.hid hi
    replace hk2 := Lib.hid hk2
    replace hm := Lib.hid hm
    replace hEl := Lib.hid hEl
    replace hR := Lib.hid hR
    replace hE := Lib.hid hE
    replace hk := Lib.hid hk
    clear hg2 hg1 hxv
    go_upto_region 7 with (fail)
    obtain ⟨wd, hwd⟩ : ∃ wd, w2.drew = wd := ⟨_, rfl⟩
    have hgd : Hid (Gr w2 wd) := Lib.hid (by rw [← hwd]; exact Below.drew (Below.refl _ _))
    have hen0 := Lib.hid (Ens.nil_ (wB := wd) (Below.refl _ wd))
    go_cut [14] (fun v wq => ∃ (g7 : Nat) (P7 : Option Addr), v = .pointer (some ⟨g7, 0, none⟩) ∧ Hid (Ens wd wq [(g7, #[.string (bs key), .int .i64 (gn : Int), .int .i64 (n1 : Int), .string (bs sm), .slice P7 m m])]))
    case first =>
      as_aux_lemma =>
        refine wpR_region (Upd (wd.heap.size ≤ ·)) 9999 (by kernel_rfl) ?_
        (rw [hwd]; replace hwd := Lib.hid hwd; have hen := hen0)
        refine wpR_take (i := 0) (v := ?_) (Upd.road _) (some 51) rfl (by kernel_rfl) (by kernel_rfl) (by kernel_rfl) (by kernel_rfl) (by kernel_rfl) (fun _ _ _ h => h) (by kernel_rfl) (fun w' hw' => ?_) ?_
        rotate_left
        · go_simp; with_reducible rfl
        simp only [Act.put, List.setIfInBounds_toArray, List.set_cons_zero, List.set_cons_succ]
        refine wpR_take (i := 1) (v := ?_) (Upd.road _) (some 52) rfl (by kernel_rfl) (by kernel_rfl) (by kernel_rfl) (by kernel_rfl) (by kernel_rfl) (fun _ _ _ h => h) (by kernel_rfl) (fun w' hw' => ?_) ?_
        rotate_left
        · go_simp; with_reducible rfl
        simp only [Act.put, List.setIfInBounds_toArray, List.set_cons_zero, List.set_cons_succ]
        refine wpR_take (i := 2) (v := ?_) (Upd.road _) (some 53) rfl (by kernel_rfl) (by kernel_rfl) (by kernel_rfl) (by kernel_rfl) (by kernel_rfl) (fun _ _ _ h => h) (by kernel_rfl) (fun w' hw' => ?_) ?_
        rotate_left
        · go_simp; with_reducible rfl
        simp only [Act.put, List.setIfInBounds_toArray, List.set_cons_zero, List.set_cons_succ]
        refine wpR_take (i := 3) (v := ?_) (Upd.road _) (some 54) rfl (by kernel_rfl) (by kernel_rfl) (by kernel_rfl) (by kernel_rfl) (by kernel_rfl) (fun _ _ _ h => h) (by kernel_rfl) (fun w' hw' => ?_) ?_
        rotate_left
        · go_simp; with_reducible rfl
        simp only [Act.put, List.setIfInBounds_toArray, List.set_cons_zero, List.set_cons_succ]
        refine wpR_take (i := 4) (v := ?_) (Upd.road _) (some 55) rfl (by kernel_rfl) (by kernel_rfl) (by kernel_rfl) (by kernel_rfl) (by kernel_rfl) (fun _ _ _ h => h) (by kernel_rfl) (fun w' hw' => ?_) ?_
        rotate_left
        · go_simp; with_reducible rfl
        simp only [Act.put, List.setIfInBounds_toArray, List.set_cons_zero, List.set_cons_succ]
        refine wpR_take (i := 5) (v := ?_) (Upd.road _) (some 56) rfl (by kernel_rfl) (by kernel_rfl) (by kernel_rfl) (by kernel_rfl) (by kernel_rfl) (fun _ _ _ h => h) (by kernel_rfl) (fun w' hw' => ?_) ?_
        rotate_left
        · go_simp; with_reducible rfl
        simp only [Act.put, List.setIfInBounds_toArray, List.set_cons_zero, List.set_cons_succ]
        refine wpR_take (i := 6) (v := ?_) (Upd.road _) (some 57) rfl (by kernel_rfl) (by kernel_rfl) (by kernel_rfl) (by kernel_rfl) (by kernel_rfl) (fun _ _ _ h => h) (by kernel_rfl) (fun w' hw' => ?_) ?_
        rotate_left
        · go_simp; with_reducible rfl
        simp only [Act.put, List.setIfInBounds_toArray, List.set_cons_zero, List.set_cons_succ]
        refine wpR_take (i := 7) (v := ?_) (Upd.road _) (some 58) rfl (by kernel_rfl) (by kernel_rfl) (by kernel_rfl) (by kernel_rfl) (by kernel_rfl) (fun _ _ _ h => h) (by kernel_rfl) (fun w' hw' => ?_) ?_
        rotate_left
        · go_simp; with_reducible rfl
        simp only [Act.put, List.setIfInBounds_toArray, List.set_cons_zero, List.set_cons_succ]
        refine wpR_take (i := 8) (v := ?_) (Upd.road _) (some 59) rfl (by kernel_rfl) (by kernel_rfl) (by kernel_rfl) (by kernel_rfl) (by kernel_rfl) (fun _ _ _ h => h) (by kernel_rfl) (fun w' hw' => ?_) ?_
        rotate_left
        · have z8 : w'.cell? ⟨b, o + 8, none⟩ = some (.string (bs sm)) := (hw'.cell (p := ⟨b, o + 8, none⟩) (Nat.lt_of_lt_of_le hbl hgd.out.size) (by show ¬ (wd.heap.size ≤ b); have := hgd.out.size; omega)).trans (hs0.out wd hgd.out); go_simp; with_reducible rfl
        simp only [Act.put, List.setIfInBounds_toArray, List.set_cons_zero, List.set_cons_succ]
        refine wpR_take (i := 9) (v := ?_) (Upd.road _) (some 60) rfl (by kernel_rfl) (by kernel_rfl) (by kernel_rfl) (by kernel_rfl) (by kernel_rfl) (fun _ _ _ h => h) (by kernel_rfl) (fun w' hw' => ?_) ?_
        rotate_left
        · go_simp; with_reducible rfl
        simp only [Act.put, List.setIfInBounds_toArray, List.set_cons_zero, List.set_cons_succ]
        refine wpR_take (i := 10) (v := ?_) (Upd.road _) (some 61) rfl (by kernel_rfl) (by kernel_rfl) (by kernel_rfl) (by kernel_rfl) (by kernel_rfl) (fun _ _ _ h => h) (by kernel_rfl) (fun w' hw' => ?_) ?_
        rotate_left
        · go_simp; with_reducible rfl
        simp only [Act.put, List.setIfInBounds_toArray, List.set_cons_zero, List.set_cons_succ]
        refine wpR_two 11 13 rfl rfl (by kernel_rfl) (by kernel_rfl) (by kernel_rfl) (fun K hK => ?_) (fun K hK => ?_)
        · obtain ⟨cs, hmk⟩ := pairs_makeN wd m (by omega)
          go_simp
          refine hK _ _ (fun _ => Upd.of_below (alloc_grB _ _)) ?_
          clear hK K
          replace hen := Lib.hid (hen.out.gr (alloc_grB wd (.cells cs 98)))
          obtain ⟨w11, hw11⟩ : ∃ w11, wd.alloc (.cells cs 98) = w11 := ⟨_, rfl⟩
          rw [hw11] at hen ⊢
          replace hw11 := Lib.hid hw11
          clear hmk
          try simp only [Act.put, List.setIfInBounds_toArray, List.set_cons_zero, List.set_cons_succ]
          refine wpR_take (i := 12) (v := ?_) (Upd.road _) (some 63) rfl (by kernel_rfl) (by kernel_rfl) (by kernel_rfl) (by kernel_rfl) (by kernel_rfl) (fun _ _ _ h => h) (by kernel_rfl) (fun w' hw' => ?_) ?_
          rotate_left
          · go_simp; with_reducible rfl
          simp only [Act.put, List.setIfInBounds_toArray, List.set_cons_zero, List.set_cons_succ]
          refine wpR_one 13 rfl (by kernel_rfl) (by kernel_rfl) (fun K hK => ?_)
          refine wp_alloc_en hen.out rfl 14 rfl ?_
          intro wa13 g13 hup hen2
          refine hK _ _ (fun _ => hup) ?_
          clear hK K
          replace hen := Lib.hid hen2
          clear hup hen2
          try simp only [Act.put, List.setIfInBounds_toArray, List.set_cons_zero, List.set_cons_succ]
          refine wpR_one 14 rfl (by kernel_rfl) (by kernel_rfl) (fun K hK => ?_)
          refine wp_store_en hen.out 0 rfl (.tmp 14) (.tmp 63) rfl rfl rfl _ _ _ _ _ rfl (by simp [Value.oneCell']) ?_
          intro wz hup hen2
          refine hK _ _ (fun _ => hup) ?_
          clear hK K
          replace hen := Lib.hid hen2
          clear hup hen2
          try simp only [Act.put, List.setIfInBounds_toArray, List.set_cons_zero, List.set_cons_succ]
          refine wpR_done (by kernel_rfl) ?_ _
          go_wp2_with fail
          go_meet
          exact ⟨g13, _, rfl, hen⟩
        · refine wp_alloc_en hen.out rfl 14 rfl ?_
          intro wa13 g13 hup hen2
          refine hK _ _ (fun _ => hup) ?_
          clear hK K
          replace hen := Lib.hid hen2
          clear hup hen2
          try simp only [Act.put, List.setIfInBounds_toArray, List.set_cons_zero, List.set_cons_succ]
          refine wpR_one 11 rfl (by kernel_rfl) (by kernel_rfl) (fun K hK => ?_)
          obtain ⟨cs, hmk⟩ := pairs_makeN wa13 m (by omega)
          go_simp
          refine hK _ _ (fun _ => Upd.of_below (alloc_grB _ _)) ?_
          clear hK K
          replace hen := Lib.hid (hen.out.gr (alloc_grB wa13 (.cells cs 98)))
          obtain ⟨w11, hw11⟩ : ∃ w11, wa13.alloc (.cells cs 98) = w11 := ⟨_, rfl⟩
          rw [hw11] at hen ⊢
          replace hw11 := Lib.hid hw11
          clear hmk
          try simp only [Act.put, List.setIfInBounds_toArray, List.set_cons_zero, List.set_cons_succ]
          refine wpR_take (i := 12) (v := ?_) (Upd.road _) (some 63) rfl (by kernel_rfl) (by kernel_rfl) (by kernel_rfl) (by kernel_rfl) (by kernel_rfl) (fun _ _ _ h => h) (by kernel_rfl) (fun w' hw' => ?_) ?_
          rotate_left
          · go_simp; with_reducible rfl
          simp only [Act.put, List.setIfInBounds_toArray, List.set_cons_zero, List.set_cons_succ]
          refine wpR_one 14 rfl (by kernel_rfl) (by kernel_rfl) (fun K hK => ?_)
          refine wp_store_en hen.out 0 rfl (.tmp 14) (.tmp 63) rfl rfl rfl _ _ _ _ _ rfl (by simp [Value.oneCell']) ?_
          intro wz hup hen2
          refine hK _ _ (fun _ => hup) ?_
          clear hK K
          replace hen := Lib.hid hen2
          clear hup hen2
          try simp only [Act.put, List.setIfInBounds_toArray, List.set_cons_zero, List.set_cons_succ]
          refine wpR_done (by kernel_rfl) ?_ _
          go_wp2_with fail
          go_meet
          exact ⟨g13, _, rfl, hen⟩
    case rest =>
      obtain ⟨g7, P7, rfl, hen⟩ := hcut
      go_upto_region 8 with (fail)
      obtain ⟨we, hwe⟩ : ∃ we, wc.drew = we := ⟨_, rfl⟩
      replace hen := Lib.hid (hen.out.gr (by rw [← hwe]; exact Below.drew (Below.refl _ _) : Gr wc we))
      refine wpR_region (Eq) 9999 (by kernel_rfl) ?_
      (rw [hwe]; replace hwe := Lib.hid hwe)
      refine wpR_take (i := 0) (v := ?_) (⟨fun _ => rfl, Eq.trans⟩) (some 64) rfl (by kernel_rfl) (by kernel_rfl) (by kernel_rfl) (by kernel_rfl) (by kernel_rfl) (fun _ _ _ h => h) (by kernel_rfl) (fun w' hw' => ?_) ?_
      rotate_left
      · go_simp; with_reducible rfl
      simp only [Act.put, List.setIfInBounds_toArray, List.set_cons_zero, List.set_cons_succ]
      refine wpR_take (i := 1) (v := ?_) (⟨fun _ => rfl, Eq.trans⟩) (some 65) rfl (by kernel_rfl) (by kernel_rfl) (by kernel_rfl) (by kernel_rfl) (by kernel_rfl) (fun _ _ _ h => h) (by kernel_rfl) (fun w' hw' => ?_) ?_
      rotate_left
      · go_simp; with_reducible rfl
      simp only [Act.put, List.setIfInBounds_toArray, List.set_cons_zero, List.set_cons_succ]
      refine wpR_take (i := 2) (v := ?_) (⟨fun _ => rfl, Eq.trans⟩) (some 66) rfl (by kernel_rfl) (by kernel_rfl) (by kernel_rfl) (by kernel_rfl) (by kernel_rfl) (fun _ _ _ h => h) (by kernel_rfl) (fun w' hw' => ?_) ?_
      rotate_left
      · go_simp; with_reducible rfl
      simp only [Act.put, List.setIfInBounds_toArray, List.set_cons_zero, List.set_cons_succ]
      refine wpR_take (i := 3) (v := ?_) (⟨fun _ => rfl, Eq.trans⟩) (some 67) rfl (by kernel_rfl) (by kernel_rfl) (by kernel_rfl) (by kernel_rfl) (by kernel_rfl) (fun _ _ _ h => h) (by kernel_rfl) (fun w' hw' => ?_) ?_
      rotate_left
      · go_simp; with_reducible rfl
      simp only [Act.put, List.setIfInBounds_toArray, List.set_cons_zero, List.set_cons_succ]
      refine wpR_take (i := 4) (v := ?_) (⟨fun _ => rfl, Eq.trans⟩) (some 68) rfl (by kernel_rfl) (by kernel_rfl) (by kernel_rfl) (by kernel_rfl) (by kernel_rfl) (fun _ _ _ h => h) (by kernel_rfl) (fun w' hw' => ?_) ?_
      rotate_left
      · go_simp; with_reducible rfl
      simp only [Act.put, List.setIfInBounds_toArray, List.set_cons_zero, List.set_cons_succ]
      refine wpR_take (i := 5) (v := ?_) (⟨fun _ => rfl, Eq.trans⟩) (some 69) rfl (by kernel_rfl) (by kernel_rfl) (by kernel_rfl) (by kernel_rfl) (by kernel_rfl) (fun _ _ _ h => h) (by kernel_rfl) (fun w' hw' => ?_) ?_
      rotate_left
      · go_simp; with_reducible rfl
      simp only [Act.put, List.setIfInBounds_toArray, List.set_cons_zero, List.set_cons_succ]
      refine wpR_take (i := 6) (v := ?_) (⟨fun _ => rfl, Eq.trans⟩) (some 70) rfl (by kernel_rfl) (by kernel_rfl) (by kernel_rfl) (by kernel_rfl) (by kernel_rfl) (fun _ _ _ h => h) (by kernel_rfl) (fun w' hw' => ?_) ?_
      rotate_left
      · go_simp; with_reducible rfl
      simp only [Act.put, List.setIfInBounds_toArray, List.set_cons_zero, List.set_cons_succ]
      refine wpR_take (i := 7) (v := ?_) (⟨fun _ => rfl, Eq.trans⟩) (some 71) rfl (by kernel_rfl) (by kernel_rfl) (by kernel_rfl) (by kernel_rfl) (by kernel_rfl) (fun _ _ _ h => h) (by kernel_rfl) (fun w' hw' => ?_) ?_
      rotate_left
      · go_simp; with_reducible rfl
      simp only [Act.put, List.setIfInBounds_toArray, List.set_cons_zero, List.set_cons_succ]
      refine wpR_take (i := 8) (v := ?_) (⟨fun _ => rfl, Eq.trans⟩) (some 72) rfl (by kernel_rfl) (by kernel_rfl) (by kernel_rfl) (by kernel_rfl) (by kernel_rfl) (fun _ _ _ h => h) (by kernel_rfl) (fun w' hw' => ?_) ?_
      rotate_left
      · go_simp; with_reducible rfl
      simp only [Act.put, List.setIfInBounds_toArray, List.set_cons_zero, List.set_cons_succ]
      refine wpR_take (i := 9) (v := ?_) (⟨fun _ => rfl, Eq.trans⟩) (some 73) rfl (by kernel_rfl) (by kernel_rfl) (by kernel_rfl) (by kernel_rfl) (by kernel_rfl) (fun _ _ _ h => h) (by kernel_rfl) (fun w' hw' => ?_) ?_
      rotate_left
      · go_simp; with_reducible rfl
      simp only [Act.put, List.setIfInBounds_toArray, List.set_cons_zero, List.set_cons_succ]
      refine wpR_take (i := 10) (v := ?_) (⟨fun _ => rfl, Eq.trans⟩) (some 15) rfl (by kernel_rfl) (by kernel_rfl) (by kernel_rfl) (by kernel_rfl) (by kernel_rfl) (fun _ _ _ h => h) (by kernel_rfl) (fun w' hw' => ?_) ?_
      rotate_left
      · go_simp; with_reducible rfl
      simp only [Act.put, List.setIfInBounds_toArray, List.set_cons_zero, List.set_cons_succ]
      refine wpR_take (i := 11) (v := ?_) (⟨fun _ => rfl, Eq.trans⟩) (some 16) rfl (by kernel_rfl) (by kernel_rfl) (by kernel_rfl) (by kernel_rfl) (by kernel_rfl) (fun _ _ _ h => h) (by kernel_rfl) (fun w' hw' => ?_) ?_
      rotate_left
      · go_simp; with_reducible rfl
      simp only [Act.put, List.setIfInBounds_toArray, List.set_cons_zero, List.set_cons_succ]
      refine wpR_done (by kernel_rfl) ?_ _
      go_upto_region 9 with (fail)
      obtain ⟨wf, hwf⟩ : ∃ wf, we.drew = wf := ⟨_, rfl⟩
      replace hen := Lib.hid (hen.out.gr (by rw [← hwf]; exact Below.drew (Below.refl _ _) : Gr we wf))
      have hb7 := hen.out.at_ (i := 0) rfl
      have hl7 := blk_lt hb7
      replace hb7 := Lib.hid hb7
      have hen9 := Lib.hid (Ens.nil_ (wB := wf) (Below.refl _ wf))
      go_cut [17, 18, 19, 20] (fun va vb vc vg wq => ∃ ga gb gc gg : Nat, va = .pointer (some ⟨ga, 0, none⟩) ∧ vb = .pointer (some ⟨gb, 0, none⟩) ∧ vc = .pointer (some ⟨gc, 0, none⟩) ∧ vg = .pointer (some ⟨gg, 0, none⟩) ∧ Hid (Ens wf wq [(ga, #[.string (bs key), .int .i64 (gn : Int), .int .i64 (n1 : Int), .string (bs sm), .slice P7 m m]), (gb, #[.string (bs key), .int .i64 (gn : Int), .int .i64 (n1 : Int), .string (bs sm), .slice P7 m m]), (gc, #[.string (bs key), .int .i64 (gn : Int), .int .i64 (n1 : Int), .string (bs sm), .slice P7 m m]), (gg, #[.string (bs key), .int .i64 (gn : Int), .int .i64 (n1 : Int), .string (bs sm), .slice P7 m m])]))
      case first =>
        as_aux_lemma =>
          refine wpR_region (Upd (wf.heap.size ≤ ·)) 9999 (by kernel_rfl) ?_
          (rw [hwf]; replace hwf := Lib.hid hwf)
          refine wpR_take (i := 0) (v := ?_) (Upd.road _) (some 74) rfl (by kernel_rfl) (by kernel_rfl) (by kernel_rfl) (by kernel_rfl) (by kernel_rfl) (fun _ _ _ h => h) (by kernel_rfl) (fun w' hw' => ?_) ?_
          rotate_left
          · have y9 := (hw'.2.2.2.2 g7 hl7 (by omega)).trans hb7.out; have c0 := blk_cell (j := 0) y9 rfl; have c1 := blk_cell (j := 1) y9 rfl; have c2 := blk_cell (j := 2) y9 rfl; have c3 := blk_cell (j := 3) y9 rfl; have c4 := blk_cell (j := 4) y9 rfl; clear y9; go_simp; with_reducible rfl
          simp only [Act.put, List.setIfInBounds_toArray, List.set_cons_zero, List.set_cons_succ]
          refine wpR_take (i := 1) (v := ?_) (Upd.road _) (some 75) rfl (by kernel_rfl) (by kernel_rfl) (by kernel_rfl) (by kernel_rfl) (by kernel_rfl) (fun _ _ _ h => h) (by kernel_rfl) (fun w' hw' => ?_) ?_
          rotate_left
          · have y9 := (hw'.2.2.2.2 g7 hl7 (by omega)).trans hb7.out; have c0 := blk_cell (j := 0) y9 rfl; have c1 := blk_cell (j := 1) y9 rfl; have c2 := blk_cell (j := 2) y9 rfl; have c3 := blk_cell (j := 3) y9 rfl; have c4 := blk_cell (j := 4) y9 rfl; clear y9; go_simp; with_reducible rfl
          simp only [Act.put, List.setIfInBounds_toArray, List.set_cons_zero, List.set_cons_succ]
          refine wpR_take (i := 2) (v := ?_) (Upd.road _) (some 76) rfl (by kernel_rfl) (by kernel_rfl) (by kernel_rfl) (by kernel_rfl) (by kernel_rfl) (fun _ _ _ h => h) (by kernel_rfl) (fun w' hw' => ?_) ?_
          rotate_left
          · have y9 := (hw'.2.2.2.2 g7 hl7 (by omega)).trans hb7.out; have c0 := blk_cell (j := 0) y9 rfl; have c1 := blk_cell (j := 1) y9 rfl; have c2 := blk_cell (j := 2) y9 rfl; have c3 := blk_cell (j := 3) y9 rfl; have c4 := blk_cell (j := 4) y9 rfl; clear y9; go_simp; with_reducible rfl
          simp only [Act.put, List.setIfInBounds_toArray, List.set_cons_zero, List.set_cons_succ]
          refine wpR_take (i := 3) (v := ?_) (Upd.road _) (some 77) rfl (by kernel_rfl) (by kernel_rfl) (by kernel_rfl) (by kernel_rfl) (by kernel_rfl) (fun _ _ _ h => h) (by kernel_rfl) (fun w' hw' => ?_) ?_
          rotate_left
          · have y9 := (hw'.2.2.2.2 g7 hl7 (by omega)).trans hb7.out; have c0 := blk_cell (j := 0) y9 rfl; have c1 := blk_cell (j := 1) y9 rfl; have c2 := blk_cell (j := 2) y9 rfl; have c3 := blk_cell (j := 3) y9 rfl; have c4 := blk_cell (j := 4) y9 rfl; clear y9; go_simp; with_reducible rfl
          simp only [Act.put, List.setIfInBounds_toArray, List.set_cons_zero, List.set_cons_succ]
          refine wpR_four 4 5 6 7 rfl rfl rfl rfl (by kernel_rfl) (by kernel_rfl) (by kernel_rfl) (by kernel_rfl) (by kernel_rfl) (fun K hK => ?_) (fun K hK => ?_) (fun K hK => ?_) (fun K hK => ?_)
          · as_aux_lemma =>
              refine wp_alloc_en hen9.out rfl 17 rfl ?_
              intro wa4 ga hup hen2
              refine hK _ _ (fun _ => hup) ?_
              clear hK K
              replace hen9 := Lib.hid hen2
              clear hup hen2
              try simp only [Act.put, List.setIfInBounds_toArray, List.set_cons_zero, List.set_cons_succ]
              refine wpR_three 5 6 7 rfl rfl rfl (by kernel_rfl) (by kernel_rfl) (by kernel_rfl) (by kernel_rfl) (fun K hK => ?_) (fun K hK => ?_) (fun K hK => ?_)
              · refine wp_alloc_en hen9.out rfl 18 rfl ?_
                intro wa5 gb hup hen2
                refine hK _ _ (fun _ => hup) ?_
                clear hK K
                replace hen9 := Lib.hid hen2
                clear hup hen2
                try simp only [Act.put, List.setIfInBounds_toArray, List.set_cons_zero, List.set_cons_succ]
                refine wpR_two 6 7 rfl rfl (by kernel_rfl) (by kernel_rfl) (by kernel_rfl) (fun K hK => ?_) (fun K hK => ?_)
                · refine wp_alloc_en hen9.out rfl 19 rfl ?_
                  intro wa6 gc hup hen2
                  refine hK _ _ (fun _ => hup) ?_
                  clear hK K
                  replace hen9 := Lib.hid hen2
                  clear hup hen2
                  try simp only [Act.put, List.setIfInBounds_toArray, List.set_cons_zero, List.set_cons_succ]
                  refine wpR_one 7 rfl (by kernel_rfl) (by kernel_rfl) (fun K hK => ?_)
                  refine wp_alloc_en hen9.out rfl 20 rfl ?_
                  intro wa7 gg hup hen2
                  refine hK _ _ (fun _ => hup) ?_
                  clear hK K
                  replace hen9 := Lib.hid hen2
                  clear hup hen2
                  try simp only [Act.put, List.setIfInBounds_toArray, List.set_cons_zero, List.set_cons_succ]
                  refine wpR_one 8 rfl (by kernel_rfl) (by kernel_rfl) (fun K hK => ?_)
                  refine wp_store_en hen9.out 3 rfl (.tmp 17) (.tmp 74) rfl rfl rfl _ _ _ _ _ rfl (by simp [Value.oneCell']) ?_
                  intro wz8 hup hen2
                  refine hK _ _ (fun _ => hup) ?_
                  clear hK K
                  replace hen9 := Lib.hid hen2
                  clear hup hen2
                  try simp only [Act.put, List.setIfInBounds_toArray, List.set_cons_zero, List.set_cons_succ]
                  refine wpR_one 9 rfl (by kernel_rfl) (by kernel_rfl) (fun K hK => ?_)
                  refine wp_store_en hen9.out 2 rfl (.tmp 18) (.tmp 75) rfl rfl rfl _ _ _ _ _ rfl (by simp [Value.oneCell']) ?_
                  intro wz9 hup hen2
                  refine hK _ _ (fun _ => hup) ?_
                  clear hK K
                  replace hen9 := Lib.hid hen2
                  clear hup hen2
                  try simp only [Act.put, List.setIfInBounds_toArray, List.set_cons_zero, List.set_cons_succ]
                  refine wpR_one 10 rfl (by kernel_rfl) (by kernel_rfl) (fun K hK => ?_)
                  refine wp_store_en hen9.out 1 rfl (.tmp 19) (.tmp 76) rfl rfl rfl _ _ _ _ _ rfl (by simp [Value.oneCell']) ?_
                  intro wz10 hup hen2
                  refine hK _ _ (fun _ => hup) ?_
                  clear hK K
                  replace hen9 := Lib.hid hen2
                  clear hup hen2
                  try simp only [Act.put, List.setIfInBounds_toArray, List.set_cons_zero, List.set_cons_succ]
                  refine wpR_one 11 rfl (by kernel_rfl) (by kernel_rfl) (fun K hK => ?_)
                  refine wp_store_en hen9.out 0 rfl (.tmp 20) (.tmp 77) rfl rfl rfl _ _ _ _ _ rfl (by simp [Value.oneCell']) ?_
                  intro wz11 hup hen2
                  refine hK _ _ (fun _ => hup) ?_
                  clear hK K
                  replace hen9 := Lib.hid hen2
                  clear hup hen2
                  try simp only [Act.put, List.setIfInBounds_toArray, List.set_cons_zero, List.set_cons_succ]
                  refine wpR_done (by kernel_rfl) ?_ _
                  go_wp2_with fail
                  go_meet
                  exact ⟨ga, gb, gc, gg, rfl, rfl, rfl, rfl, Lib.hid (hen9.out.turn (by simp only [List.set_cons_zero, List.set_cons_succ, List.map_cons, List.map_nil, List.nodup_cons, List.mem_cons, List.not_mem_nil, List.nodup_nil]; intro hnd; simp only [or_false, not_or, not_false_eq_true, and_true] at hnd ⊢; omega) (by simp only [List.set_cons_zero, List.set_cons_succ, List.mem_cons, List.not_mem_nil]; rintro x (rfl | rfl | rfl | rfl | h) <;> simp_all))⟩
                · refine wp_alloc_en hen9.out rfl 20 rfl ?_
                  intro wa7 gg hup hen2
                  refine hK _ _ (fun _ => hup) ?_
                  clear hK K
                  replace hen9 := Lib.hid hen2
                  clear hup hen2
                  try simp only [Act.put, List.setIfInBounds_toArray, List.set_cons_zero, List.set_cons_succ]
                  refine wpR_one 6 rfl (by kernel_rfl) (by kernel_rfl) (fun K hK => ?_)
                  refine wp_alloc_en hen9.out rfl 19 rfl ?_
                  intro wa6 gc hup hen2
                  refine hK _ _ (fun _ => hup) ?_
                  clear hK K
                  replace hen9 := Lib.hid hen2
                  clear hup hen2
                  try simp only [Act.put, List.setIfInBounds_toArray, List.set_cons_zero, List.set_cons_succ]
                  refine wpR_one 8 rfl (by kernel_rfl) (by kernel_rfl) (fun K hK => ?_)
                  refine wp_store_en hen9.out 3 rfl (.tmp 17) (.tmp 74) rfl rfl rfl _ _ _ _ _ rfl (by simp [Value.oneCell']) ?_
                  intro wz8 hup hen2
                  refine hK _ _ (fun _ => hup) ?_
                  clear hK K
                  replace hen9 := Lib.hid hen2
                  clear hup hen2
                  try simp only [Act.put, List.setIfInBounds_toArray, List.set_cons_zero, List.set_cons_succ]
                  refine wpR_one 9 rfl (by kernel_rfl) (by kernel_rfl) (fun K hK => ?_)
                  refine wp_store_en hen9.out 2 rfl (.tmp 18) (.tmp 75) rfl rfl rfl _ _ _ _ _ rfl (by simp [Value.oneCell']) ?_
                  intro wz9 hup hen2
                  refine hK _ _ (fun _ => hup) ?_
                  clear hK K
                  replace hen9 := Lib.hid hen2
                  clear hup hen2
                  try simp only [Act.put, List.setIfInBounds_toArray, List.set_cons_zero, List.set_cons_succ]
                  refine wpR_one 10 rfl (by kernel_rfl) (by kernel_rfl) (fun K hK => ?_)
                  refine wp_store_en hen9.out 0 rfl (.tmp 19) (.tmp 76) rfl rfl rfl _ _ _ _ _ rfl (by simp [Value.oneCell']) ?_
                  intro wz10 hup hen2
                  refine hK _ _ (fun _ => hup) ?_
                  clear hK K
                  replace hen9 := Lib.hid hen2
                  clear hup hen2
                  try simp only [Act.put, List.setIfInBounds_toArray, List.set_cons_zero, List.set_cons_succ]
                  refine wpR_one 11 rfl (by kernel_rfl) (by kernel_rfl) (fun K hK => ?_)
                  refine wp_store_en hen9.out 1 rfl (.tmp 20) (.tmp 77) rfl rfl rfl _ _ _ _ _ rfl (by simp [Value.oneCell']) ?_
                  intro wz11 hup hen2
                  refine hK _ _ (fun _ => hup) ?_
                  clear hK K
                  replace hen9 := Lib.hid hen2
                  clear hup hen2
                  try simp only [Act.put, List.setIfInBounds_toArray, List.set_cons_zero, List.set_cons_succ]
                  refine wpR_done (by kernel_rfl) ?_ _
                  go_wp2_with fail
                  go_meet
                  exact ⟨ga, gb, gc, gg, rfl, rfl, rfl, rfl, Lib.hid (hen9.out.turn (by simp only [List.set_cons_zero, List.set_cons_succ, List.map_cons, List.map_nil, List.nodup_cons, List.mem_cons, List.not_mem_nil, List.nodup_nil]; intro hnd; simp only [or_false, not_or, not_false_eq_true, and_true] at hnd ⊢; omega) (by simp only [List.set_cons_zero, List.set_cons_succ, List.mem_cons, List.not_mem_nil]; rintro x (rfl | rfl | rfl | rfl | h) <;> simp_all))⟩
              · refine wp_alloc_en hen9.out rfl 19 rfl ?_
                intro wa6 gc hup hen2
                refine hK _ _ (fun _ => hup) ?_
                clear hK K
                replace hen9 := Lib.hid hen2
                clear hup hen2
                try simp only [Act.put, List.setIfInBounds_toArray, List.set_cons_zero, List.set_cons_succ]
                refine wpR_two 5 7 rfl rfl (by kernel_rfl) (by kernel_rfl) (by kernel_rfl) (fun K hK => ?_) (fun K hK => ?_)
                · refine wp_alloc_en hen9.out rfl 18 rfl ?_
                  intro wa5 gb hup hen2
                  refine hK _ _ (fun _ => hup) ?_
                  clear hK K
                  replace hen9 := Lib.hid hen2
                  clear hup hen2
                  try simp only [Act.put, List.setIfInBounds_toArray, List.set_cons_zero, List.set_cons_succ]
                  refine wpR_one 7 rfl (by kernel_rfl) (by kernel_rfl) (fun K hK => ?_)
                  refine wp_alloc_en hen9.out rfl 20 rfl ?_
                  intro wa7 gg hup hen2
                  refine hK _ _ (fun _ => hup) ?_
                  clear hK K
                  replace hen9 := Lib.hid hen2
                  clear hup hen2
                  try simp only [Act.put, List.setIfInBounds_toArray, List.set_cons_zero, List.set_cons_succ]
                  refine wpR_one 8 rfl (by kernel_rfl) (by kernel_rfl) (fun K hK => ?_)
                  refine wp_store_en hen9.out 3 rfl (.tmp 17) (.tmp 74) rfl rfl rfl _ _ _ _ _ rfl (by simp [Value.oneCell']) ?_
                  intro wz8 hup hen2
                  refine hK _ _ (fun _ => hup) ?_
                  clear hK K
                  replace hen9 := Lib.hid hen2
                  clear hup hen2
                  try simp only [Act.put, List.setIfInBounds_toArray, List.set_cons_zero, List.set_cons_succ]
                  refine wpR_one 9 rfl (by kernel_rfl) (by kernel_rfl) (fun K hK => ?_)
                  refine wp_store_en hen9.out 1 rfl (.tmp 18) (.tmp 75) rfl rfl rfl _ _ _ _ _ rfl (by simp [Value.oneCell']) ?_
                  intro wz9 hup hen2
                  refine hK _ _ (fun _ => hup) ?_
                  clear hK K
                  replace hen9 := Lib.hid hen2
                  clear hup hen2
                  try simp only [Act.put, List.setIfInBounds_toArray, List.set_cons_zero, List.set_cons_succ]
                  refine wpR_one 10 rfl (by kernel_rfl) (by kernel_rfl) (fun K hK => ?_)
                  refine wp_store_en hen9.out 2 rfl (.tmp 19) (.tmp 76) rfl rfl rfl _ _ _ _ _ rfl (by simp [Value.oneCell']) ?_
                  intro wz10 hup hen2
                  refine hK _ _ (fun _ => hup) ?_
                  clear hK K
                  replace hen9 := Lib.hid hen2
                  clear hup hen2
                  try simp only [Act.put, List.setIfInBounds_toArray, List.set_cons_zero, List.set_cons_succ]
                  refine wpR_one 11 rfl (by kernel_rfl) (by kernel_rfl) (fun K hK => ?_)
                  refine wp_store_en hen9.out 0 rfl (.tmp 20) (.tmp 77) rfl rfl rfl _ _ _ _ _ rfl (by simp [Value.oneCell']) ?_
                  intro wz11 hup hen2
                  refine hK _ _ (fun _ => hup) ?_
                  clear hK K
                  replace hen9 := Lib.hid hen2
                  clear hup hen2
                  try simp only [Act.put, List.setIfInBounds_toArray, List.set_cons_zero, List.set_cons_succ]
                  refine wpR_done (by kernel_rfl) ?_ _
                  go_wp2_with fail
                  go_meet
                  exact ⟨ga, gb, gc, gg, rfl, rfl, rfl, rfl, Lib.hid (hen9.out.turn (by simp only [List.set_cons_zero, List.set_cons_succ, List.map_cons, List.map_nil, List.nodup_cons, List.mem_cons, List.not_mem_nil, List.nodup_nil]; intro hnd; simp only [or_false, not_or, not_false_eq_true, and_true] at hnd ⊢; omega) (by simp only [List.set_cons_zero, List.set_cons_succ, List.mem_cons, List.not_mem_nil]; rintro x (rfl | rfl | rfl | rfl | h) <;> simp_all))⟩
                · refine wp_alloc_en hen9.out rfl 20 rfl ?_
                  intro wa7 gg hup hen2
                  refine hK _ _ (fun _ => hup) ?_
                  clear hK K
                  replace hen9 := Lib.hid hen2
                  clear hup hen2
                  try simp only [Act.put, List.setIfInBounds_toArray, List.set_cons_zero, List.set_cons_succ]
                  refine wpR_one 5 rfl (by kernel_rfl) (by kernel_rfl) (fun K hK => ?_)
                  refine wp_alloc_en hen9.out rfl 18 rfl ?_
                  intro wa5 gb hup hen2
                  refine hK _ _ (fun _ => hup) ?_
                  clear hK K
                  replace hen9 := Lib.hid hen2
                  clear hup hen2
                  try simp only [Act.put, List.setIfInBounds_toArray, List.set_cons_zero, List.set_cons_succ]
                  refine wpR_one 8 rfl (by kernel_rfl) (by kernel_rfl) (fun K hK => ?_)
                  refine wp_store_en hen9.out 3 rfl (.tmp 17) (.tmp 74) rfl rfl rfl _ _ _ _ _ rfl (by simp [Value.oneCell']) ?_
                  intro wz8 hup hen2
                  refine hK _ _ (fun _ => hup) ?_
                  clear hK K
                  replace hen9 := Lib.hid hen2
                  clear hup hen2
                  try simp only [Act.put, List.setIfInBounds_toArray, List.set_cons_zero, List.set_cons_succ]
                  refine wpR_one 9 rfl (by kernel_rfl) (by kernel_rfl) (fun K hK => ?_)
                  refine wp_store_en hen9.out 0 rfl (.tmp 18) (.tmp 75) rfl rfl rfl _ _ _ _ _ rfl (by simp [Value.oneCell']) ?_
                  intro wz9 hup hen2
                  refine hK _ _ (fun _ => hup) ?_
                  clear hK K
                  replace hen9 := Lib.hid hen2
                  clear hup hen2
                  try simp only [Act.put, List.setIfInBounds_toArray, List.set_cons_zero, List.set_cons_succ]
                  refine wpR_one 10 rfl (by kernel_rfl) (by kernel_rfl) (fun K hK => ?_)
                  refine wp_store_en hen9.out 2 rfl (.tmp 19) (.tmp 76) rfl rfl rfl _ _ _ _ _ rfl (by simp [Value.oneCell']) ?_
                  intro wz10 hup hen2
                  refine hK _ _ (fun _ => hup) ?_
                  clear hK K
                  replace hen9 := Lib.hid hen2
                  clear hup hen2
                  try simp only [Act.put, List.setIfInBounds_toArray, List.set_cons_zero, List.set_cons_succ]
                  refine wpR_one 11 rfl (by kernel_rfl) (by kernel_rfl) (fun K hK => ?_)
                  refine wp_store_en hen9.out 1 rfl (.tmp 20) (.tmp 77) rfl rfl rfl _ _ _ _ _ rfl (by simp [Value.oneCell']) ?_
                  intro wz11 hup hen2
                  refine hK _ _ (fun _ => hup) ?_
                  clear hK K
                  replace hen9 := Lib.hid hen2
                  clear hup hen2
                  try simp only [Act.put, List.setIfInBounds_toArray, List.set_cons_zero, List.set_cons_succ]
                  refine wpR_done (by kernel_rfl) ?_ _
                  go_wp2_with fail
                  go_meet
                  exact ⟨ga, gb, gc, gg, rfl, rfl, rfl, rfl, Lib.hid (hen9.out.turn (by simp only [List.set_cons_zero, List.set_cons_succ, List.map_cons, List.map_nil, List.nodup_cons, List.mem_cons, List.not_mem_nil, List.nodup_nil]; intro hnd; simp only [or_false, not_or, not_false_eq_true, and_true] at hnd ⊢; omega) (by simp only [List.set_cons_zero, List.set_cons_succ, List.mem_cons, List.not_mem_nil]; rintro x (rfl | rfl | rfl | rfl | h) <;> simp_all))⟩
              · refine wp_alloc_en hen9.out rfl 20 rfl ?_
                intro wa7 gg hup hen2
                refine hK _ _ (fun _ => hup) ?_
                clear hK K
                replace hen9 := Lib.hid hen2
                clear hup hen2
                try simp only [Act.put, List.setIfInBounds_toArray, List.set_cons_zero, List.set_cons_succ]
                refine wpR_two 5 6 rfl rfl (by kernel_rfl) (by kernel_rfl) (by kernel_rfl) (fun K hK => ?_) (fun K hK => ?_)
                · refine wp_alloc_en hen9.out rfl 18 rfl ?_
                  intro wa5 gb hup hen2
                  refine hK _ _ (fun _ => hup) ?_
                  clear hK K
                  replace hen9 := Lib.hid hen2
                  clear hup hen2
                  try simp only [Act.put, List.setIfInBounds_toArray, List.set_cons_zero, List.set_cons_succ]
                  refine wpR_one 6 rfl (by kernel_rfl) (by kernel_rfl) (fun K hK => ?_)
                  refine wp_alloc_en hen9.out rfl 19 rfl ?_
                  intro wa6 gc hup hen2
                  refine hK _ _ (fun _ => hup) ?_
                  clear hK K
                  replace hen9 := Lib.hid hen2
                  clear hup hen2
                  try simp only [Act.put, List.setIfInBounds_toArray, List.set_cons_zero, List.set_cons_succ]
                  refine wpR_one 8 rfl (by kernel_rfl) (by kernel_rfl) (fun K hK => ?_)
                  refine wp_store_en hen9.out 3 rfl (.tmp 17) (.tmp 74) rfl rfl rfl _ _ _ _ _ rfl (by simp [Value.oneCell']) ?_
                  intro wz8 hup hen2
                  refine hK _ _ (fun _ => hup) ?_
                  clear hK K
                  replace hen9 := Lib.hid hen2
                  clear hup hen2
                  try simp only [Act.put, List.setIfInBounds_toArray, List.set_cons_zero, List.set_cons_succ]
                  refine wpR_one 9 rfl (by kernel_rfl) (by kernel_rfl) (fun K hK => ?_)
                  refine wp_store_en hen9.out 1 rfl (.tmp 18) (.tmp 75) rfl rfl rfl _ _ _ _ _ rfl (by simp [Value.oneCell']) ?_
                  intro wz9 hup hen2
                  refine hK _ _ (fun _ => hup) ?_
                  clear hK K
                  replace hen9 := Lib.hid hen2
                  clear hup hen2
                  try simp only [Act.put, List.setIfInBounds_toArray, List.set_cons_zero, List.set_cons_succ]
                  refine wpR_one 10 rfl (by kernel_rfl) (by kernel_rfl) (fun K hK => ?_)
                  refine wp_store_en hen9.out 0 rfl (.tmp 19) (.tmp 76) rfl rfl rfl _ _ _ _ _ rfl (by simp [Value.oneCell']) ?_
                  intro wz10 hup hen2
                  refine hK _ _ (fun _ => hup) ?_
                  clear hK K
                  replace hen9 := Lib.hid hen2
                  clear hup hen2
                  try simp only [Act.put, List.setIfInBounds_toArray, List.set_cons_zero, List.set_cons_succ]
                  refine wpR_one 11 rfl (by kernel_rfl) (by kernel_rfl) (fun K hK => ?_)
                  refine wp_store_en hen9.out 2 rfl (.tmp 20) (.tmp 77) rfl rfl rfl _ _ _ _ _ rfl (by simp [Value.oneCell']) ?_
                  intro wz11 hup hen2
                  refine hK _ _ (fun _ => hup) ?_
                  clear hK K
                  replace hen9 := Lib.hid hen2
                  clear hup hen2
                  try simp only [Act.put, List.setIfInBounds_toArray, List.set_cons_zero, List.set_cons_succ]
                  refine wpR_done (by kernel_rfl) ?_ _
                  go_wp2_with fail
                  go_meet
                  exact ⟨ga, gb, gc, gg, rfl, rfl, rfl, rfl, Lib.hid (hen9.out.turn (by simp only [List.set_cons_zero, List.set_cons_succ, List.map_cons, List.map_nil, List.nodup_cons, List.mem_cons, List.not_mem_nil, List.nodup_nil]; intro hnd; simp only [or_false, not_or, not_false_eq_true, and_true] at hnd ⊢; omega) (by simp only [List.set_cons_zero, List.set_cons_succ, List.mem_cons, List.not_mem_nil]; rintro x (rfl | rfl | rfl | rfl | h) <;> simp_all))⟩
                · refine wp_alloc_en hen9.out rfl 19 rfl ?_
                  intro wa6 gc hup hen2
                  refine hK _ _ (fun _ => hup) ?_
                  clear hK K
                  replace hen9 := Lib.hid hen2
                  clear hup hen2
                  try simp only [Act.put, List.setIfInBounds_toArray, List.set_cons_zero, List.set_cons_succ]
                  refine wpR_one 5 rfl (by kernel_rfl) (by kernel_rfl) (fun K hK => ?_)
                  refine wp_alloc_en hen9.out rfl 18 rfl ?_
                  intro wa5 gb hup hen2
                  refine hK _ _ (fun _ => hup) ?_
                  clear hK K
                  replace hen9 := Lib.hid hen2
                  clear hup hen2
                  try simp only [Act.put, List.setIfInBounds_toArray, List.set_cons_zero, List.set_cons_succ]
                  refine wpR_one 8 rfl (by kernel_rfl) (by kernel_rfl) (fun K hK => ?_)
                  refine wp_store_en hen9.out 3 rfl (.tmp 17) (.tmp 74) rfl rfl rfl _ _ _ _ _ rfl (by simp [Value.oneCell']) ?_
                  intro wz8 hup hen2
                  refine hK _ _ (fun _ => hup) ?_
                  clear hK K
                  replace hen9 := Lib.hid hen2
                  clear hup hen2
                  try simp only [Act.put, List.setIfInBounds_toArray, List.set_cons_zero, List.set_cons_succ]
                  refine wpR_one 9 rfl (by kernel_rfl) (by kernel_rfl) (fun K hK => ?_)
                  refine wp_store_en hen9.out 0 rfl (.tmp 18) (.tmp 75) rfl rfl rfl _ _ _ _ _ rfl (by simp [Value.oneCell']) ?_
                  intro wz9 hup hen2
                  refine hK _ _ (fun _ => hup) ?_
                  clear hK K
                  replace hen9 := Lib.hid hen2
                  clear hup hen2
                  try simp only [Act.put, List.setIfInBounds_toArray, List.set_cons_zero, List.set_cons_succ]
                  refine wpR_one 10 rfl (by kernel_rfl) (by kernel_rfl) (fun K hK => ?_)
                  refine wp_store_en hen9.out 1 rfl (.tmp 19) (.tmp 76) rfl rfl rfl _ _ _ _ _ rfl (by simp [Value.oneCell']) ?_
                  intro wz10 hup hen2
                  refine hK _ _ (fun _ => hup) ?_
                  clear hK K
                  replace hen9 := Lib.hid hen2
                  clear hup hen2
                  try simp only [Act.put, List.setIfInBounds_toArray, List.set_cons_zero, List.set_cons_succ]
                  refine wpR_one 11 rfl (by kernel_rfl) (by kernel_rfl) (fun K hK => ?_)
                  refine wp_store_en hen9.out 2 rfl (.tmp 20) (.tmp 77) rfl rfl rfl _ _ _ _ _ rfl (by simp [Value.oneCell']) ?_
                  intro wz11 hup hen2
                  refine hK _ _ (fun _ => hup) ?_
                  clear hK K
                  replace hen9 := Lib.hid hen2
                  clear hup hen2
                  try simp only [Act.put, List.setIfInBounds_toArray, List.set_cons_zero, List.set_cons_succ]
                  refine wpR_done (by kernel_rfl) ?_ _
                  go_wp2_with fail
                  go_meet
                  exact ⟨ga, gb, gc, gg, rfl, rfl, rfl, rfl, Lib.hid (hen9.out.turn (by simp only [List.set_cons_zero, List.set_cons_succ, List.map_cons, List.map_nil, List.nodup_cons, List.mem_cons, List.not_mem_nil, List.nodup_nil]; intro hnd; simp only [or_false, not_or, not_false_eq_true, and_true] at hnd ⊢; omega) (by simp only [List.set_cons_zero, List.set_cons_succ, List.mem_cons, List.not_mem_nil]; rintro x (rfl | rfl | rfl | rfl | h) <;> simp_all))⟩
          · as_aux_lemma =>
              refine wp_alloc_en hen9.out rfl 18 rfl ?_
              intro wa5 gb hup hen2
              refine hK _ _ (fun _ => hup) ?_
              clear hK K
              replace hen9 := Lib.hid hen2
              clear hup hen2
              try simp only [Act.put, List.setIfInBounds_toArray, List.set_cons_zero, List.set_cons_succ]
              refine wpR_three 4 6 7 rfl rfl rfl (by kernel_rfl) (by kernel_rfl) (by kernel_rfl) (by kernel_rfl) (fun K hK => ?_) (fun K hK => ?_) (fun K hK => ?_)
              · refine wp_alloc_en hen9.out rfl 17 rfl ?_
                intro wa4 ga hup hen2
                refine hK _ _ (fun _ => hup) ?_
                clear hK K
                replace hen9 := Lib.hid hen2
                clear hup hen2
                try simp only [Act.put, List.setIfInBounds_toArray, List.set_cons_zero, List.set_cons_succ]
                refine wpR_two 6 7 rfl rfl (by kernel_rfl) (by kernel_rfl) (by kernel_rfl) (fun K hK => ?_) (fun K hK => ?_)
                · refine wp_alloc_en hen9.out rfl 19 rfl ?_
                  intro wa6 gc hup hen2
                  refine hK _ _ (fun _ => hup) ?_
                  clear hK K
                  replace hen9 := Lib.hid hen2
                  clear hup hen2
                  try simp only [Act.put, List.setIfInBounds_toArray, List.set_cons_zero, List.set_cons_succ]
                  refine wpR_one 7 rfl (by kernel_rfl) (by kernel_rfl) (fun K hK => ?_)
                  refine wp_alloc_en hen9.out rfl 20 rfl ?_
                  intro wa7 gg hup hen2
                  refine hK _ _ (fun _ => hup) ?_
                  clear hK K
                  replace hen9 := Lib.hid hen2
                  clear hup hen2
                  try simp only [Act.put, List.setIfInBounds_toArray, List.set_cons_zero, List.set_cons_succ]
                  refine wpR_one 8 rfl (by kernel_rfl) (by kernel_rfl) (fun K hK => ?_)
                  refine wp_store_en hen9.out 2 rfl (.tmp 17) (.tmp 74) rfl rfl rfl _ _ _ _ _ rfl (by simp [Value.oneCell']) ?_
                  intro wz8 hup hen2
                  refine hK _ _ (fun _ => hup) ?_
                  clear hK K
                  replace hen9 := Lib.hid hen2
                  clear hup hen2
                  try simp only [Act.put, List.setIfInBounds_toArray, List.set_cons_zero, List.set_cons_succ]
                  refine wpR_one 9 rfl (by kernel_rfl) (by kernel_rfl) (fun K hK => ?_)
                  refine wp_store_en hen9.out 3 rfl (.tmp 18) (.tmp 75) rfl rfl rfl _ _ _ _ _ rfl (by simp [Value.oneCell']) ?_
                  intro wz9 hup hen2
                  refine hK _ _ (fun _ => hup) ?_
                  clear hK K
                  replace hen9 := Lib.hid hen2
                  clear hup hen2
                  try simp only [Act.put, List.setIfInBounds_toArray, List.set_cons_zero, List.set_cons_succ]
                  refine wpR_one 10 rfl (by kernel_rfl) (by kernel_rfl) (fun K hK => ?_)
                  refine wp_store_en hen9.out 1 rfl (.tmp 19) (.tmp 76) rfl rfl rfl _ _ _ _ _ rfl (by simp [Value.oneCell']) ?_
                  intro wz10 hup hen2
                  refine hK _ _ (fun _ => hup) ?_
                  clear hK K
                  replace hen9 := Lib.hid hen2
                  clear hup hen2
                  try simp only [Act.put, List.setIfInBounds_toArray, List.set_cons_zero, List.set_cons_succ]
                  refine wpR_one 11 rfl (by kernel_rfl) (by kernel_rfl) (fun K hK => ?_)
                  refine wp_store_en hen9.out 0 rfl (.tmp 20) (.tmp 77) rfl rfl rfl _ _ _ _ _ rfl (by simp [Value.oneCell']) ?_
                  intro wz11 hup hen2
                  refine hK _ _ (fun _ => hup) ?_
                  clear hK K
                  replace hen9 := Lib.hid hen2
                  clear hup hen2
                  try simp only [Act.put, List.setIfInBounds_toArray, List.set_cons_zero, List.set_cons_succ]
                  refine wpR_done (by kernel_rfl) ?_ _
                  go_wp2_with fail
                  go_meet
                  exact ⟨ga, gb, gc, gg, rfl, rfl, rfl, rfl, Lib.hid (hen9.out.turn (by simp only [List.set_cons_zero, List.set_cons_succ, List.map_cons, List.map_nil, List.nodup_cons, List.mem_cons, List.not_mem_nil, List.nodup_nil]; intro hnd; simp only [or_false, not_or, not_false_eq_true, and_true] at hnd ⊢; omega) (by simp only [List.set_cons_zero, List.set_cons_succ, List.mem_cons, List.not_mem_nil]; rintro x (rfl | rfl | rfl | rfl | h) <;> simp_all))⟩
                · refine wp_alloc_en hen9.out rfl 20 rfl ?_
                  intro wa7 gg hup hen2
                  refine hK _ _ (fun _ => hup) ?_
                  clear hK K
                  replace hen9 := Lib.hid hen2
                  clear hup hen2
                  try simp only [Act.put, List.setIfInBounds_toArray, List.set_cons_zero, List.set_cons_succ]
                  refine wpR_one 6 rfl (by kernel_rfl) (by kernel_rfl) (fun K hK => ?_)
                  refine wp_alloc_en hen9.out rfl 19 rfl ?_
                  intro wa6 gc hup hen2
                  refine hK _ _ (fun _ => hup) ?_
                  clear hK K
                  replace hen9 := Lib.hid hen2
                  clear hup hen2
                  try simp only [Act.put, List.setIfInBounds_toArray, List.set_cons_zero, List.set_cons_succ]
                  refine wpR_one 8 rfl (by kernel_rfl) (by kernel_rfl) (fun K hK => ?_)
                  refine wp_store_en hen9.out 2 rfl (.tmp 17) (.tmp 74) rfl rfl rfl _ _ _ _ _ rfl (by simp [Value.oneCell']) ?_
                  intro wz8 hup hen2
                  refine hK _ _ (fun _ => hup) ?_
                  clear hK K
                  replace hen9 := Lib.hid hen2
                  clear hup hen2
                  try simp only [Act.put, List.setIfInBounds_toArray, List.set_cons_zero, List.set_cons_succ]
                  refine wpR_one 9 rfl (by kernel_rfl) (by kernel_rfl) (fun K hK => ?_)
                  refine wp_store_en hen9.out 3 rfl (.tmp 18) (.tmp 75) rfl rfl rfl _ _ _ _ _ rfl (by simp [Value.oneCell']) ?_
                  intro wz9 hup hen2
                  refine hK _ _ (fun _ => hup) ?_
                  clear hK K
                  replace hen9 := Lib.hid hen2
                  clear hup hen2
                  try simp only [Act.put, List.setIfInBounds_toArray, List.set_cons_zero, List.set_cons_succ]
                  refine wpR_one 10 rfl (by kernel_rfl) (by kernel_rfl) (fun K hK => ?_)
                  refine wp_store_en hen9.out 0 rfl (.tmp 19) (.tmp 76) rfl rfl rfl _ _ _ _ _ rfl (by simp [Value.oneCell']) ?_
                  intro wz10 hup hen2
                  refine hK _ _ (fun _ => hup) ?_
                  clear hK K
                  replace hen9 := Lib.hid hen2
                  clear hup hen2
                  try simp only [Act.put, List.setIfInBounds_toArray, List.set_cons_zero, List.set_cons_succ]
                  refine wpR_one 11 rfl (by kernel_rfl) (by kernel_rfl) (fun K hK => ?_)
                  refine wp_store_en hen9.out 1 rfl (.tmp 20) (.tmp 77) rfl rfl rfl _ _ _ _ _ rfl (by simp [Value.oneCell']) ?_
                  intro wz11 hup hen2
                  refine hK _ _ (fun _ => hup) ?_
                  clear hK K
                  replace hen9 := Lib.hid hen2
                  clear hup hen2
                  try simp only [Act.put, List.setIfInBounds_toArray, List.set_cons_zero, List.set_cons_succ]
                  refine wpR_done (by kernel_rfl) ?_ _
                  go_wp2_with fail
                  go_meet
                  exact ⟨ga, gb, gc, gg, rfl, rfl, rfl, rfl, Lib.hid (hen9.out.turn (by simp only [List.set_cons_zero, List.set_cons_succ, List.map_cons, List.map_nil, List.nodup_cons, List.mem_cons, List.not_mem_nil, List.nodup_nil]; intro hnd; simp only [or_false, not_or, not_false_eq_true, and_true] at hnd ⊢; omega) (by simp only [List.set_cons_zero, List.set_cons_succ, List.mem_cons, List.not_mem_nil]; rintro x (rfl | rfl | rfl | rfl | h) <;> simp_all))⟩
              · refine wp_alloc_en hen9.out rfl 19 rfl ?_
                intro wa6 gc hup hen2
                refine hK _ _ (fun _ => hup) ?_
                clear hK K
                replace hen9 := Lib.hid hen2
                clear hup hen2
                try simp only [Act.put, List.setIfInBounds_toArray, List.set_cons_zero, List.set_cons_succ]
                refine wpR_two 4 7 rfl rfl (by kernel_rfl) (by kernel_rfl) (by kernel_rfl) (fun K hK => ?_) (fun K hK => ?_)
                · refine wp_alloc_en hen9.out rfl 17 rfl ?_
                  intro wa4 ga hup hen2
                  refine hK _ _ (fun _ => hup) ?_
                  clear hK K
                  replace hen9 := Lib.hid hen2
                  clear hup hen2
                  try simp only [Act.put, List.setIfInBounds_toArray, List.set_cons_zero, List.set_cons_succ]
                  refine wpR_one 7 rfl (by kernel_rfl) (by kernel_rfl) (fun K hK => ?_)
                  refine wp_alloc_en hen9.out rfl 20 rfl ?_
                  intro wa7 gg hup hen2
                  refine hK _ _ (fun _ => hup) ?_
                  clear hK K
                  replace hen9 := Lib.hid hen2
                  clear hup hen2
                  try simp only [Act.put, List.setIfInBounds_toArray, List.set_cons_zero, List.set_cons_succ]
                  refine wpR_one 8 rfl (by kernel_rfl) (by kernel_rfl) (fun K hK => ?_)
                  refine wp_store_en hen9.out 1 rfl (.tmp 17) (.tmp 74) rfl rfl rfl _ _ _ _ _ rfl (by simp [Value.oneCell']) ?_
                  intro wz8 hup hen2
                  refine hK _ _ (fun _ => hup) ?_
                  clear hK K
                  replace hen9 := Lib.hid hen2
                  clear hup hen2
                  try simp only [Act.put, List.setIfInBounds_toArray, List.set_cons_zero, List.set_cons_succ]
                  refine wpR_one 9 rfl (by kernel_rfl) (by kernel_rfl) (fun K hK => ?_)
                  refine wp_store_en hen9.out 3 rfl (.tmp 18) (.tmp 75) rfl rfl rfl _ _ _ _ _ rfl (by simp [Value.oneCell']) ?_
                  intro wz9 hup hen2
                  refine hK _ _ (fun _ => hup) ?_
                  clear hK K
                  replace hen9 := Lib.hid hen2
                  clear hup hen2
                  try simp only [Act.put, List.setIfInBounds_toArray, List.set_cons_zero, List.set_cons_succ]
                  refine wpR_one 10 rfl (by kernel_rfl) (by kernel_rfl) (fun K hK => ?_)
                  refine wp_store_en hen9.out 2 rfl (.tmp 19) (.tmp 76) rfl rfl rfl _ _ _ _ _ rfl (by simp [Value.oneCell']) ?_
                  intro wz10 hup hen2
                  refine hK _ _ (fun _ => hup) ?_
                  clear hK K
                  replace hen9 := Lib.hid hen2
                  clear hup hen2
                  try simp only [Act.put, List.setIfInBounds_toArray, List.set_cons_zero, List.set_cons_succ]
                  refine wpR_one 11 rfl (by kernel_rfl) (by kernel_rfl) (fun K hK => ?_)
                  refine wp_store_en hen9.out 0 rfl (.tmp 20) (.tmp 77) rfl rfl rfl _ _ _ _ _ rfl (by simp [Value.oneCell']) ?_
                  intro wz11 hup hen2
                  refine hK _ _ (fun _ => hup) ?_
                  clear hK K
                  replace hen9 := Lib.hid hen2
                  clear hup hen2
                  try simp only [Act.put, List.setIfInBounds_toArray, List.set_cons_zero, List.set_cons_succ]
                  refine wpR_done (by kernel_rfl) ?_ _
                  go_wp2_with fail
                  go_meet
                  exact ⟨ga, gb, gc, gg, rfl, rfl, rfl, rfl, Lib.hid (hen9.out.turn (by simp only [List.set_cons_zero, List.set_cons_succ, List.map_cons, List.map_nil, List.nodup_cons, List.mem_cons, List.not_mem_nil, List.nodup_nil]; intro hnd; simp only [or_false, not_or, not_false_eq_true, and_true] at hnd ⊢; omega) (by simp only [List.set_cons_zero, List.set_cons_succ, List.mem_cons, List.not_mem_nil]; rintro x (rfl | rfl | rfl | rfl | h) <;> simp_all))⟩
                · refine wp_alloc_en hen9.out rfl 20 rfl ?_
                  intro wa7 gg hup hen2
                  refine hK _ _ (fun _ => hup) ?_
                  clear hK K
                  replace hen9 := Lib.hid hen2
                  clear hup hen2
                  try simp only [Act.put, List.setIfInBounds_toArray, List.set_cons_zero, List.set_cons_succ]
                  refine wpR_one 4 rfl (by kernel_rfl) (by kernel_rfl) (fun K hK => ?_)
                  refine wp_alloc_en hen9.out rfl 17 rfl ?_
                  intro wa4 ga hup hen2
                  refine hK _ _ (fun _ => hup) ?_
                  clear hK K
                  replace hen9 := Lib.hid hen2
                  clear hup hen2
                  try simp only [Act.put, List.setIfInBounds_toArray, List.set_cons_zero, List.set_cons_succ]
                  refine wpR_one 8 rfl (by kernel_rfl) (by kernel_rfl) (fun K hK => ?_)
                  refine wp_store_en hen9.out 0 rfl (.tmp 17) (.tmp 74) rfl rfl rfl _ _ _ _ _ rfl (by simp [Value.oneCell']) ?_
                  intro wz8 hup hen2
                  refine hK _ _ (fun _ => hup) ?_
                  clear hK K
                  replace hen9 := Lib.hid hen2
                  clear hup hen2
                  try simp only [Act.put, List.setIfInBounds_toArray, List.set_cons_zero, List.set_cons_succ]
                  refine wpR_one 9 rfl (by kernel_rfl) (by kernel_rfl) (fun K hK => ?_)
                  refine wp_store_en hen9.out 3 rfl (.tmp 18) (.tmp 75) rfl rfl rfl _ _ _ _ _ rfl (by simp [Value.oneCell']) ?_
                  intro wz9 hup hen2
                  refine hK _ _ (fun _ => hup) ?_
                  clear hK K
                  replace hen9 := Lib.hid hen2
                  clear hup hen2
                  try simp only [Act.put, List.setIfInBounds_toArray, List.set_cons_zero, List.set_cons_succ]
                  refine wpR_one 10 rfl (by kernel_rfl) (by kernel_rfl) (fun K hK => ?_)
                  refine wp_store_en hen9.out 2 rfl (.tmp 19) (.tmp 76) rfl rfl rfl _ _ _ _ _ rfl (by simp [Value.oneCell']) ?_
                  intro wz10 hup hen2
                  refine hK _ _ (fun _ => hup) ?_
                  clear hK K
                  replace hen9 := Lib.hid hen2
                  clear hup hen2
                  try simp only [Act.put, List.setIfInBounds_toArray, List.set_cons_zero, List.set_cons_succ]
                  refine wpR_one 11 rfl (by kernel_rfl) (by kernel_rfl) (fun K hK => ?_)
                  refine wp_store_en hen9.out 1 rfl (.tmp 20) (.tmp 77) rfl rfl rfl _ _ _ _ _ rfl (by simp [Value.oneCell']) ?_
                  intro wz11 hup hen2
                  refine hK _ _ (fun _ => hup) ?_
                  clear hK K
                  replace hen9 := Lib.hid hen2
                  clear hup hen2
                  try simp only [Act.put, List.setIfInBounds_toArray, List.set_cons_zero, List.set_cons_succ]
                  refine wpR_done (by kernel_rfl) ?_ _
                  go_wp2_with fail
                  go_meet
                  exact ⟨ga, gb, gc, gg, rfl, rfl, rfl, rfl, Lib.hid (hen9.out.turn (by simp only [List.set_cons_zero, List.set_cons_succ, List.map_cons, List.map_nil, List.nodup_cons, List.mem_cons, List.not_mem_nil, List.nodup_nil]; intro hnd; simp only [or_false, not_or, not_false_eq_true, and_true] at hnd ⊢; omega) (by simp only [List.set_cons_zero, List.set_cons_succ, List.mem_cons, List.not_mem_nil]; rintro x (rfl | rfl | rfl | rfl | h) <;> simp_all))⟩
              · refine wp_alloc_en hen9.out rfl 20 rfl ?_
                intro wa7 gg hup hen2
                refine hK _ _ (fun _ => hup) ?_
                clear hK K
                replace hen9 := Lib.hid hen2
                clear hup hen2
                try simp only [Act.put, List.setIfInBounds_toArray, List.set_cons_zero, List.set_cons_succ]
                refine wpR_two 4 6 rfl rfl (by kernel_rfl) (by kernel_rfl) (by kernel_rfl) (fun K hK => ?_) (fun K hK => ?_)
                · refine wp_alloc_en hen9.out rfl 17 rfl ?_
                  intro wa4 ga hup hen2
                  refine hK _ _ (fun _ => hup) ?_
                  clear hK K
                  replace hen9 := Lib.hid hen2
                  clear hup hen2
                  try simp only [Act.put, List.setIfInBounds_toArray, List.set_cons_zero, List.set_cons_succ]
                  refine wpR_one 6 rfl (by kernel_rfl) (by kernel_rfl) (fun K hK => ?_)
                  refine wp_alloc_en hen9.out rfl 19 rfl ?_
                  intro wa6 gc hup hen2
                  refine hK _ _ (fun _ => hup) ?_
                  clear hK K
                  replace hen9 := Lib.hid hen2
                  clear hup hen2
                  try simp only [Act.put, List.setIfInBounds_toArray, List.set_cons_zero, List.set_cons_succ]
                  refine wpR_one 8 rfl (by kernel_rfl) (by kernel_rfl) (fun K hK => ?_)
                  refine wp_store_en hen9.out 1 rfl (.tmp 17) (.tmp 74) rfl rfl rfl _ _ _ _ _ rfl (by simp [Value.oneCell']) ?_
                  intro wz8 hup hen2
                  refine hK _ _ (fun _ => hup) ?_
                  clear hK K
                  replace hen9 := Lib.hid hen2
                  clear hup hen2
                  try simp only [Act.put, List.setIfInBounds_toArray, List.set_cons_zero, List.set_cons_succ]
                  refine wpR_one 9 rfl (by kernel_rfl) (by kernel_rfl) (fun K hK => ?_)
                  refine wp_store_en hen9.out 3 rfl (.tmp 18) (.tmp 75) rfl rfl rfl _ _ _ _ _ rfl (by simp [Value.oneCell']) ?_
                  intro wz9 hup hen2
                  refine hK _ _ (fun _ => hup) ?_
                  clear hK K
                  replace hen9 := Lib.hid hen2
                  clear hup hen2
                  try simp only [Act.put, List.setIfInBounds_toArray, List.set_cons_zero, List.set_cons_succ]
                  refine wpR_one 10 rfl (by kernel_rfl) (by kernel_rfl) (fun K hK => ?_)
                  refine wp_store_en hen9.out 0 rfl (.tmp 19) (.tmp 76) rfl rfl rfl _ _ _ _ _ rfl (by simp [Value.oneCell']) ?_
                  intro wz10 hup hen2
                  refine hK _ _ (fun _ => hup) ?_
                  clear hK K
                  replace hen9 := Lib.hid hen2
                  clear hup hen2
                  try simp only [Act.put, List.setIfInBounds_toArray, List.set_cons_zero, List.set_cons_succ]
                  refine wpR_one 11 rfl (by kernel_rfl) (by kernel_rfl) (fun K hK => ?_)
                  refine wp_store_en hen9.out 2 rfl (.tmp 20) (.tmp 77) rfl rfl rfl _ _ _ _ _ rfl (by simp [Value.oneCell']) ?_
                  intro wz11 hup hen2
                  refine hK _ _ (fun _ => hup) ?_
                  clear hK K
                  replace hen9 := Lib.hid hen2
                  clear hup hen2
                  try simp only [Act.put, List.setIfInBounds_toArray, List.set_cons_zero, List.set_cons_succ]
                  refine wpR_done (by kernel_rfl) ?_ _
                  go_wp2_with fail
                  go_meet
                  exact ⟨ga, gb, gc, gg, rfl, rfl, rfl, rfl, Lib.hid (hen9.out.turn (by simp only [List.set_cons_zero, List.set_cons_succ, List.map_cons, List.map_nil, List.nodup_cons, List.mem_cons, List.not_mem_nil, List.nodup_nil]; intro hnd; simp only [or_false, not_or, not_false_eq_true, and_true] at hnd ⊢; omega) (by simp only [List.set_cons_zero, List.set_cons_succ, List.mem_cons, List.not_mem_nil]; rintro x (rfl | rfl | rfl | rfl | h) <;> simp_all))⟩
                · refine wp_alloc_en hen9.out rfl 19 rfl ?_
                  intro wa6 gc hup hen2
                  refine hK _ _ (fun _ => hup) ?_
                  clear hK K
                  replace hen9 := Lib.hid hen2
                  clear hup hen2
                  try simp only [Act.put, List.setIfInBounds_toArray, List.set_cons_zero, List.set_cons_succ]
                  refine wpR_one 4 rfl (by kernel_rfl) (by kernel_rfl) (fun K hK => ?_)
                  refine wp_alloc_en hen9.out rfl 17 rfl ?_
                  intro wa4 ga hup hen2
                  refine hK _ _ (fun _ => hup) ?_
                  clear hK K
                  replace hen9 := Lib.hid hen2
                  clear hup hen2
                  try simp only [Act.put, List.setIfInBounds_toArray, List.set_cons_zero, List.set_cons_succ]
                  refine wpR_one 8 rfl (by kernel_rfl) (by kernel_rfl) (fun K hK => ?_)
                  refine wp_store_en hen9.out 0 rfl (.tmp 17) (.tmp 74) rfl rfl rfl _ _ _ _ _ rfl (by simp [Value.oneCell']) ?_
                  intro wz8 hup hen2
                  refine hK _ _ (fun _ => hup) ?_
                  clear hK K
                  replace hen9 := Lib.hid hen2
                  clear hup hen2
                  try simp only [Act.put, List.setIfInBounds_toArray, List.set_cons_zero, List.set_cons_succ]
                  refine wpR_one 9 rfl (by kernel_rfl) (by kernel_rfl) (fun K hK => ?_)
                  refine wp_store_en hen9.out 3 rfl (.tmp 18) (.tmp 75) rfl rfl rfl _ _ _ _ _ rfl (by simp [Value.oneCell']) ?_
                  intro wz9 hup hen2
                  refine hK _ _ (fun _ => hup) ?_
                  clear hK K
                  replace hen9 := Lib.hid hen2
                  clear hup hen2
                  try simp only [Act.put, List.setIfInBounds_toArray, List.set_cons_zero, List.set_cons_succ]
                  refine wpR_one 10 rfl (by kernel_rfl) (by kernel_rfl) (fun K hK => ?_)
                  refine wp_store_en hen9.out 1 rfl (.tmp 19) (.tmp 76) rfl rfl rfl _ _ _ _ _ rfl (by simp [Value.oneCell']) ?_
                  intro wz10 hup hen2
                  refine hK _ _ (fun _ => hup) ?_
                  clear hK K
                  replace hen9 := Lib.hid hen2
                  clear hup hen2
                  try simp only [Act.put, List.setIfInBounds_toArray, List.set_cons_zero, List.set_cons_succ]
                  refine wpR_one 11 rfl (by kernel_rfl) (by kernel_rfl) (fun K hK => ?_)
                  refine wp_store_en hen9.out 2 rfl (.tmp 20) (.tmp 77) rfl rfl rfl _ _ _ _ _ rfl (by simp [Value.oneCell']) ?_
                  intro wz11 hup hen2
                  refine hK _ _ (fun _ => hup) ?_
                  clear hK K
                  replace hen9 := Lib.hid hen2
                  clear hup hen2
                  try simp only [Act.put, List.setIfInBounds_toArray, List.set_cons_zero, List.set_cons_succ]
                  refine wpR_done (by kernel_rfl) ?_ _
                  go_wp2_with fail
                  go_meet
                  exact ⟨ga, gb, gc, gg, rfl, rfl, rfl, rfl, Lib.hid (hen9.out.turn (by simp only [List.set_cons_zero, List.set_cons_succ, List.map_cons, List.map_nil, List.nodup_cons, List.mem_cons, List.not_mem_nil, List.nodup_nil]; intro hnd; simp only [or_false, not_or, not_false_eq_true, and_true] at hnd ⊢; omega) (by simp only [List.set_cons_zero, List.set_cons_succ, List.mem_cons, List.not_mem_nil]; rintro x (rfl | rfl | rfl | rfl | h) <;> simp_all))⟩
          · as_aux_lemma =>
              refine wp_alloc_en hen9.out rfl 19 rfl ?_
              intro wa6 gc hup hen2
              refine hK _ _ (fun _ => hup) ?_
              clear hK K
              replace hen9 := Lib.hid hen2
              clear hup hen2
              try simp only [Act.put, List.setIfInBounds_toArray, List.set_cons_zero, List.set_cons_succ]
              refine wpR_three 4 5 7 rfl rfl rfl (by kernel_rfl) (by kernel_rfl) (by kernel_rfl) (by kernel_rfl) (fun K hK => ?_) (fun K hK => ?_) (fun K hK => ?_)
              · refine wp_alloc_en hen9.out rfl 17 rfl ?_
                intro wa4 ga hup hen2
                refine hK _ _ (fun _ => hup) ?_
                clear hK K
                replace hen9 := Lib.hid hen2
                clear hup hen2
                try simp only [Act.put, List.setIfInBounds_toArray, List.set_cons_zero, List.set_cons_succ]
                refine wpR_two 5 7 rfl rfl (by kernel_rfl) (by kernel_rfl) (by kernel_rfl) (fun K hK => ?_) (fun K hK => ?_)
                · refine wp_alloc_en hen9.out rfl 18 rfl ?_
                  intro wa5 gb hup hen2
                  refine hK _ _ (fun _ => hup) ?_
                  clear hK K
                  replace hen9 := Lib.hid hen2
                  clear hup hen2
                  try simp only [Act.put, List.setIfInBounds_toArray, List.set_cons_zero, List.set_cons_succ]
                  refine wpR_one 7 rfl (by kernel_rfl) (by kernel_rfl) (fun K hK => ?_)
                  refine wp_alloc_en hen9.out rfl 20 rfl ?_
                  intro wa7 gg hup hen2
                  refine hK _ _ (fun _ => hup) ?_
                  clear hK K
                  replace hen9 := Lib.hid hen2
                  clear hup hen2
                  try simp only [Act.put, List.setIfInBounds_toArray, List.set_cons_zero, List.set_cons_succ]
                  refine wpR_one 8 rfl (by kernel_rfl) (by kernel_rfl) (fun K hK => ?_)
                  refine wp_store_en hen9.out 2 rfl (.tmp 17) (.tmp 74) rfl rfl rfl _ _ _ _ _ rfl (by simp [Value.oneCell']) ?_
                  intro wz8 hup hen2
                  refine hK _ _ (fun _ => hup) ?_
                  clear hK K
                  replace hen9 := Lib.hid hen2
                  clear hup hen2
                  try simp only [Act.put, List.setIfInBounds_toArray, List.set_cons_zero, List.set_cons_succ]
                  refine wpR_one 9 rfl (by kernel_rfl) (by kernel_rfl) (fun K hK => ?_)
                  refine wp_store_en hen9.out 1 rfl (.tmp 18) (.tmp 75) rfl rfl rfl _ _ _ _ _ rfl (by simp [Value.oneCell']) ?_
                  intro wz9 hup hen2
                  refine hK _ _ (fun _ => hup) ?_
                  clear hK K
                  replace hen9 := Lib.hid hen2
                  clear hup hen2
                  try simp only [Act.put, List.setIfInBounds_toArray, List.set_cons_zero, List.set_cons_succ]
                  refine wpR_one 10 rfl (by kernel_rfl) (by kernel_rfl) (fun K hK => ?_)
                  refine wp_store_en hen9.out 3 rfl (.tmp 19) (.tmp 76) rfl rfl rfl _ _ _ _ _ rfl (by simp [Value.oneCell']) ?_
                  intro wz10 hup hen2
                  refine hK _ _ (fun _ => hup) ?_
                  clear hK K
                  replace hen9 := Lib.hid hen2
                  clear hup hen2
                  try simp only [Act.put, List.setIfInBounds_toArray, List.set_cons_zero, List.set_cons_succ]
                  refine wpR_one 11 rfl (by kernel_rfl) (by kernel_rfl) (fun K hK => ?_)
                  refine wp_store_en hen9.out 0 rfl (.tmp 20) (.tmp 77) rfl rfl rfl _ _ _ _ _ rfl (by simp [Value.oneCell']) ?_
                  intro wz11 hup hen2
                  refine hK _ _ (fun _ => hup) ?_
                  clear hK K
                  replace hen9 := Lib.hid hen2
                  clear hup hen2
                  try simp only [Act.put, List.setIfInBounds_toArray, List.set_cons_zero, List.set_cons_succ]
                  refine wpR_done (by kernel_rfl) ?_ _
                  go_wp2_with fail
                  go_meet
                  exact ⟨ga, gb, gc, gg, rfl, rfl, rfl, rfl, Lib.hid (hen9.out.turn (by simp only [List.set_cons_zero, List.set_cons_succ, List.map_cons, List.map_nil, List.nodup_cons, List.mem_cons, List.not_mem_nil, List.nodup_nil]; intro hnd; simp only [or_false, not_or, not_false_eq_true, and_true] at hnd ⊢; omega) (by simp only [List.set_cons_zero, List.set_cons_succ, List.mem_cons, List.not_mem_nil]; rintro x (rfl | rfl | rfl | rfl | h) <;> simp_all))⟩
                · refine wp_alloc_en hen9.out rfl 20 rfl ?_
                  intro wa7 gg hup hen2
                  refine hK _ _ (fun _ => hup) ?_
                  clear hK K
                  replace hen9 := Lib.hid hen2
                  clear hup hen2
                  try simp only [Act.put, List.setIfInBounds_toArray, List.set_cons_zero, List.set_cons_succ]
                  refine wpR_one 5 rfl (by kernel_rfl) (by kernel_rfl) (fun K hK => ?_)
                  refine wp_alloc_en hen9.out rfl 18 rfl ?_
                  intro wa5 gb hup hen2
                  refine hK _ _ (fun _ => hup) ?_
                  clear hK K
                  replace hen9 := Lib.hid hen2
                  clear hup hen2
                  try simp only [Act.put, List.setIfInBounds_toArray, List.set_cons_zero, List.set_cons_succ]
                  refine wpR_one 8 rfl (by kernel_rfl) (by kernel_rfl) (fun K hK => ?_)
                  refine wp_store_en hen9.out 2 rfl (.tmp 17) (.tmp 74) rfl rfl rfl _ _ _ _ _ rfl (by simp [Value.oneCell']) ?_
                  intro wz8 hup hen2
                  refine hK _ _ (fun _ => hup) ?_
                  clear hK K
                  replace hen9 := Lib.hid hen2
                  clear hup hen2
                  try simp only [Act.put, List.setIfInBounds_toArray, List.set_cons_zero, List.set_cons_succ]
                  refine wpR_one 9 rfl (by kernel_rfl) (by kernel_rfl) (fun K hK => ?_)
                  refine wp_store_en hen9.out 0 rfl (.tmp 18) (.tmp 75) rfl rfl rfl _ _ _ _ _ rfl (by simp [Value.oneCell']) ?_
                  intro wz9 hup hen2
                  refine hK _ _ (fun _ => hup) ?_
                  clear hK K
                  replace hen9 := Lib.hid hen2
                  clear hup hen2
                  try simp only [Act.put, List.setIfInBounds_toArray, List.set_cons_zero, List.set_cons_succ]
                  refine wpR_one 10 rfl (by kernel_rfl) (by kernel_rfl) (fun K hK => ?_)
                  refine wp_store_en hen9.out 3 rfl (.tmp 19) (.tmp 76) rfl rfl rfl _ _ _ _ _ rfl (by simp [Value.oneCell']) ?_
                  intro wz10 hup hen2
                  refine hK _ _ (fun _ => hup) ?_
                  clear hK K
                  replace hen9 := Lib.hid hen2
                  clear hup hen2
                  try simp only [Act.put, List.setIfInBounds_toArray, List.set_cons_zero, List.set_cons_succ]
                  refine wpR_one 11 rfl (by kernel_rfl) (by kernel_rfl) (fun K hK => ?_)
                  refine wp_store_en hen9.out 1 rfl (.tmp 20) (.tmp 77) rfl rfl rfl _ _ _ _ _ rfl (by simp [Value.oneCell']) ?_
                  intro wz11 hup hen2
                  refine hK _ _ (fun _ => hup) ?_
                  clear hK K
                  replace hen9 := Lib.hid hen2
                  clear hup hen2
                  try simp only [Act.put, List.setIfInBounds_toArray, List.set_cons_zero, List.set_cons_succ]
                  refine wpR_done (by kernel_rfl) ?_ _
                  go_wp2_with fail
                  go_meet
                  exact ⟨ga, gb, gc, gg, rfl, rfl, rfl, rfl, Lib.hid (hen9.out.turn (by simp only [List.set_cons_zero, List.set_cons_succ, List.map_cons, List.map_nil, List.nodup_cons, List.mem_cons, List.not_mem_nil, List.nodup_nil]; intro hnd; simp only [or_false, not_or, not_false_eq_true, and_true] at hnd ⊢; omega) (by simp only [List.set_cons_zero, List.set_cons_succ, List.mem_cons, List.not_mem_nil]; rintro x (rfl | rfl | rfl | rfl | h) <;> simp_all))⟩
              · refine wp_alloc_en hen9.out rfl 18 rfl ?_
                intro wa5 gb hup hen2
                refine hK _ _ (fun _ => hup) ?_
                clear hK K
                replace hen9 := Lib.hid hen2
                clear hup hen2
                try simp only [Act.put, List.setIfInBounds_toArray, List.set_cons_zero, List.set_cons_succ]
                refine wpR_two 4 7 rfl rfl (by kernel_rfl) (by kernel_rfl) (by kernel_rfl) (fun K hK => ?_) (fun K hK => ?_)
                · refine wp_alloc_en hen9.out rfl 17 rfl ?_
                  intro wa4 ga hup hen2
                  refine hK _ _ (fun _ => hup) ?_
                  clear hK K
                  replace hen9 := Lib.hid hen2
                  clear hup hen2
                  try simp only [Act.put, List.setIfInBounds_toArray, List.set_cons_zero, List.set_cons_succ]
                  refine wpR_one 7 rfl (by kernel_rfl) (by kernel_rfl) (fun K hK => ?_)
                  refine wp_alloc_en hen9.out rfl 20 rfl ?_
                  intro wa7 gg hup hen2
                  refine hK _ _ (fun _ => hup) ?_
                  clear hK K
                  replace hen9 := Lib.hid hen2
                  clear hup hen2
                  try simp only [Act.put, List.setIfInBounds_toArray, List.set_cons_zero, List.set_cons_succ]
                  refine wpR_one 8 rfl (by kernel_rfl) (by kernel_rfl) (fun K hK => ?_)
                  refine wp_store_en hen9.out 1 rfl (.tmp 17) (.tmp 74) rfl rfl rfl _ _ _ _ _ rfl (by simp [Value.oneCell']) ?_
                  intro wz8 hup hen2
                  refine hK _ _ (fun _ => hup) ?_
                  clear hK K
                  replace hen9 := Lib.hid hen2
                  clear hup hen2
                  try simp only [Act.put, List.setIfInBounds_toArray, List.set_cons_zero, List.set_cons_succ]
                  refine wpR_one 9 rfl (by kernel_rfl) (by kernel_rfl) (fun K hK => ?_)
                  refine wp_store_en hen9.out 2 rfl (.tmp 18) (.tmp 75) rfl rfl rfl _ _ _ _ _ rfl (by simp [Value.oneCell']) ?_
                  intro wz9 hup hen2
                  refine hK _ _ (fun _ => hup) ?_
                  clear hK K
                  replace hen9 := Lib.hid hen2
                  clear hup hen2
                  try simp only [Act.put, List.setIfInBounds_toArray, List.set_cons_zero, List.set_cons_succ]
                  refine wpR_one 10 rfl (by kernel_rfl) (by kernel_rfl) (fun K hK => ?_)
                  refine wp_store_en hen9.out 3 rfl (.tmp 19) (.tmp 76) rfl rfl rfl _ _ _ _ _ rfl (by simp [Value.oneCell']) ?_
                  intro wz10 hup hen2
                  refine hK _ _ (fun _ => hup) ?_
                  clear hK K
                  replace hen9 := Lib.hid hen2
                  clear hup hen2
                  try simp only [Act.put, List.setIfInBounds_toArray, List.set_cons_zero, List.set_cons_succ]
                  refine wpR_one 11 rfl (by kernel_rfl) (by kernel_rfl) (fun K hK => ?_)
                  refine wp_store_en hen9.out 0 rfl (.tmp 20) (.tmp 77) rfl rfl rfl _ _ _ _ _ rfl (by simp [Value.oneCell']) ?_
                  intro wz11 hup hen2
                  refine hK _ _ (fun _ => hup) ?_
                  clear hK K
                  replace hen9 := Lib.hid hen2
                  clear hup hen2
                  try simp only [Act.put, List.setIfInBounds_toArray, List.set_cons_zero, List.set_cons_succ]
                  refine wpR_done (by kernel_rfl) ?_ _
                  go_wp2_with fail
                  go_meet
                  exact ⟨ga, gb, gc, gg, rfl, rfl, rfl, rfl, Lib.hid (hen9.out.turn (by simp only [List.set_cons_zero, List.set_cons_succ, List.map_cons, List.map_nil, List.nodup_cons, List.mem_cons, List.not_mem_nil, List.nodup_nil]; intro hnd; simp only [or_false, not_or, not_false_eq_true, and_true] at hnd ⊢; omega) (by simp only [List.set_cons_zero, List.set_cons_succ, List.mem_cons, List.not_mem_nil]; rintro x (rfl | rfl | rfl | rfl | h) <;> simp_all))⟩
                · refine wp_alloc_en hen9.out rfl 20 rfl ?_
                  intro wa7 gg hup hen2
                  refine hK _ _ (fun _ => hup) ?_
                  clear hK K
                  replace hen9 := Lib.hid hen2
                  clear hup hen2
                  try simp only [Act.put, List.setIfInBounds_toArray, List.set_cons_zero, List.set_cons_succ]
                  refine wpR_one 4 rfl (by kernel_rfl) (by kernel_rfl) (fun K hK => ?_)
                  refine wp_alloc_en hen9.out rfl 17 rfl ?_
                  intro wa4 ga hup hen2
                  refine hK _ _ (fun _ => hup) ?_
                  clear hK K
                  replace hen9 := Lib.hid hen2
                  clear hup hen2
                  try simp only [Act.put, List.setIfInBounds_toArray, List.set_cons_zero, List.set_cons_succ]
                  refine wpR_one 8 rfl (by kernel_rfl) (by kernel_rfl) (fun K hK => ?_)
                  refine wp_store_en hen9.out 0 rfl (.tmp 17) (.tmp 74) rfl rfl rfl _ _ _ _ _ rfl (by simp [Value.oneCell']) ?_
                  intro wz8 hup hen2
                  refine hK _ _ (fun _ => hup) ?_
                  clear hK K
                  replace hen9 := Lib.hid hen2
                  clear hup hen2
                  try simp only [Act.put, List.setIfInBounds_toArray, List.set_cons_zero, List.set_cons_succ]
                  refine wpR_one 9 rfl (by kernel_rfl) (by kernel_rfl) (fun K hK => ?_)
                  refine wp_store_en hen9.out 2 rfl (.tmp 18) (.tmp 75) rfl rfl rfl _ _ _ _ _ rfl (by simp [Value.oneCell']) ?_
                  intro wz9 hup hen2
                  refine hK _ _ (fun _ => hup) ?_
                  clear hK K
                  replace hen9 := Lib.hid hen2
                  clear hup hen2
                  try simp only [Act.put, List.setIfInBounds_toArray, List.set_cons_zero, List.set_cons_succ]
                  refine wpR_one 10 rfl (by kernel_rfl) (by kernel_rfl) (fun K hK => ?_)
                  refine wp_store_en hen9.out 3 rfl (.tmp 19) (.tmp 76) rfl rfl rfl _ _ _ _ _ rfl (by simp [Value.oneCell']) ?_
                  intro wz10 hup hen2
                  refine hK _ _ (fun _ => hup) ?_
                  clear hK K
                  replace hen9 := Lib.hid hen2
                  clear hup hen2
                  try simp only [Act.put, List.setIfInBounds_toArray, List.set_cons_zero, List.set_cons_succ]
                  refine wpR_one 11 rfl (by kernel_rfl) (by kernel_rfl) (fun K hK => ?_)
                  refine wp_store_en hen9.out 1 rfl (.tmp 20) (.tmp 77) rfl rfl rfl _ _ _ _ _ rfl (by simp [Value.oneCell']) ?_
                  intro wz11 hup hen2
                  refine hK _ _ (fun _ => hup) ?_
                  clear hK K
                  replace hen9 := Lib.hid hen2
                  clear hup hen2
                  try simp only [Act.put, List.setIfInBounds_toArray, List.set_cons_zero, List.set_cons_succ]
                  refine wpR_done (by kernel_rfl) ?_ _
                  go_wp2_with fail
                  go_meet
                  exact ⟨ga, gb, gc, gg, rfl, rfl, rfl, rfl, Lib.hid (hen9.out.turn (by simp only [List.set_cons_zero, List.set_cons_succ, List.map_cons, List.map_nil, List.nodup_cons, List.mem_cons, List.not_mem_nil, List.nodup_nil]; intro hnd; simp only [or_false, not_or, not_false_eq_true, and_true] at hnd ⊢; omega) (by simp only [List.set_cons_zero, List.set_cons_succ, List.mem_cons, List.not_mem_nil]; rintro x (rfl | rfl | rfl | rfl | h) <;> simp_all))⟩
              · refine wp_alloc_en hen9.out rfl 20 rfl ?_
                intro wa7 gg hup hen2
                refine hK _ _ (fun _ => hup) ?_
                clear hK K
                replace hen9 := Lib.hid hen2
                clear hup hen2
                try simp only [Act.put, List.setIfInBounds_toArray, List.set_cons_zero, List.set_cons_succ]
                refine wpR_two 4 5 rfl rfl (by kernel_rfl) (by kernel_rfl) (by kernel_rfl) (fun K hK => ?_) (fun K hK => ?_)
                · refine wp_alloc_en hen9.out rfl 17 rfl ?_
                  intro wa4 ga hup hen2
                  refine hK _ _ (fun _ => hup) ?_
                  clear hK K
                  replace hen9 := Lib.hid hen2
                  clear hup hen2
                  try simp only [Act.put, List.setIfInBounds_toArray, List.set_cons_zero, List.set_cons_succ]
                  refine wpR_one 5 rfl (by kernel_rfl) (by kernel_rfl) (fun K hK => ?_)
                  refine wp_alloc_en hen9.out rfl 18 rfl ?_
                  intro wa5 gb hup hen2
                  refine hK _ _ (fun _ => hup) ?_
                  clear hK K
                  replace hen9 := Lib.hid hen2
                  clear hup hen2
                  try simp only [Act.put, List.setIfInBounds_toArray, List.set_cons_zero, List.set_cons_succ]
                  refine wpR_one 8 rfl (by kernel_rfl) (by kernel_rfl) (fun K hK => ?_)
                  refine wp_store_en hen9.out 1 rfl (.tmp 17) (.tmp 74) rfl rfl rfl _ _ _ _ _ rfl (by simp [Value.oneCell']) ?_
                  intro wz8 hup hen2
                  refine hK _ _ (fun _ => hup) ?_
                  clear hK K
                  replace hen9 := Lib.hid hen2
                  clear hup hen2
                  try simp only [Act.put, List.setIfInBounds_toArray, List.set_cons_zero, List.set_cons_succ]
                  refine wpR_one 9 rfl (by kernel_rfl) (by kernel_rfl) (fun K hK => ?_)
                  refine wp_store_en hen9.out 0 rfl (.tmp 18) (.tmp 75) rfl rfl rfl _ _ _ _ _ rfl (by simp [Value.oneCell']) ?_
                  intro wz9 hup hen2
                  refine hK _ _ (fun _ => hup) ?_
                  clear hK K
                  replace hen9 := Lib.hid hen2
                  clear hup hen2
                  try simp only [Act.put, List.setIfInBounds_toArray, List.set_cons_zero, List.set_cons_succ]
                  refine wpR_one 10 rfl (by kernel_rfl) (by kernel_rfl) (fun K hK => ?_)
                  refine wp_store_en hen9.out 3 rfl (.tmp 19) (.tmp 76) rfl rfl rfl _ _ _ _ _ rfl (by simp [Value.oneCell']) ?_
                  intro wz10 hup hen2
                  refine hK _ _ (fun _ => hup) ?_
                  clear hK K
                  replace hen9 := Lib.hid hen2
                  clear hup hen2
                  try simp only [Act.put, List.setIfInBounds_toArray, List.set_cons_zero, List.set_cons_succ]
                  refine wpR_one 11 rfl (by kernel_rfl) (by kernel_rfl) (fun K hK => ?_)
                  refine wp_store_en hen9.out 2 rfl (.tmp 20) (.tmp 77) rfl rfl rfl _ _ _ _ _ rfl (by simp [Value.oneCell']) ?_
                  intro wz11 hup hen2
                  refine hK _ _ (fun _ => hup) ?_
                  clear hK K
                  replace hen9 := Lib.hid hen2
                  clear hup hen2
                  try simp only [Act.put, List.setIfInBounds_toArray, List.set_cons_zero, List.set_cons_succ]
                  refine wpR_done (by kernel_rfl) ?_ _
                  go_wp2_with fail
                  go_meet
                  exact ⟨ga, gb, gc, gg, rfl, rfl, rfl, rfl, Lib.hid (hen9.out.turn (by simp only [List.set_cons_zero, List.set_cons_succ, List.map_cons, List.map_nil, List.nodup_cons, List.mem_cons, List.not_mem_nil, List.nodup_nil]; intro hnd; simp only [or_false, not_or, not_false_eq_true, and_true] at hnd ⊢; omega) (by simp only [List.set_cons_zero, List.set_cons_succ, List.mem_cons, List.not_mem_nil]; rintro x (rfl | rfl | rfl | rfl | h) <;> simp_all))⟩
                · refine wp_alloc_en hen9.out rfl 18 rfl ?_
                  intro wa5 gb hup hen2
                  refine hK _ _ (fun _ => hup) ?_
                  clear hK K
                  replace hen9 := Lib.hid hen2
                  clear hup hen2
                  try simp only [Act.put, List.setIfInBounds_toArray, List.set_cons_zero, List.set_cons_succ]
                  refine wpR_one 4 rfl (by kernel_rfl) (by kernel_rfl) (fun K hK => ?_)
                  refine wp_alloc_en hen9.out rfl 17 rfl ?_
                  intro wa4 ga hup hen2
                  refine hK _ _ (fun _ => hup) ?_
                  clear hK K
                  replace hen9 := Lib.hid hen2
                  clear hup hen2
                  try simp only [Act.put, List.setIfInBounds_toArray, List.set_cons_zero, List.set_cons_succ]
                  refine wpR_one 8 rfl (by kernel_rfl) (by kernel_rfl) (fun K hK => ?_)
                  refine wp_store_en hen9.out 0 rfl (.tmp 17) (.tmp 74) rfl rfl rfl _ _ _ _ _ rfl (by simp [Value.oneCell']) ?_
                  intro wz8 hup hen2
                  refine hK _ _ (fun _ => hup) ?_
                  clear hK K
                  replace hen9 := Lib.hid hen2
                  clear hup hen2
                  try simp only [Act.put, List.setIfInBounds_toArray, List.set_cons_zero, List.set_cons_succ]
                  refine wpR_one 9 rfl (by kernel_rfl) (by kernel_rfl) (fun K hK => ?_)
                  refine wp_store_en hen9.out 1 rfl (.tmp 18) (.tmp 75) rfl rfl rfl _ _ _ _ _ rfl (by simp [Value.oneCell']) ?_
                  intro wz9 hup hen2
                  refine hK _ _ (fun _ => hup) ?_
                  clear hK K
                  replace hen9 := Lib.hid hen2
                  clear hup hen2
                  try simp only [Act.put, List.setIfInBounds_toArray, List.set_cons_zero, List.set_cons_succ]
                  refine wpR_one 10 rfl (by kernel_rfl) (by kernel_rfl) (fun K hK => ?_)
                  refine wp_store_en hen9.out 3 rfl (.tmp 19) (.tmp 76) rfl rfl rfl _ _ _ _ _ rfl (by simp [Value.oneCell']) ?_
                  intro wz10 hup hen2
                  refine hK _ _ (fun _ => hup) ?_
                  clear hK K
                  replace hen9 := Lib.hid hen2
                  clear hup hen2
                  try simp only [Act.put, List.setIfInBounds_toArray, List.set_cons_zero, List.set_cons_succ]
                  refine wpR_one 11 rfl (by kernel_rfl) (by kernel_rfl) (fun K hK => ?_)
                  refine wp_store_en hen9.out 2 rfl (.tmp 20) (.tmp 77) rfl rfl rfl _ _ _ _ _ rfl (by simp [Value.oneCell']) ?_
                  intro wz11 hup hen2
                  refine hK _ _ (fun _ => hup) ?_
                  clear hK K
                  replace hen9 := Lib.hid hen2
                  clear hup hen2
                  try simp only [Act.put, List.setIfInBounds_toArray, List.set_cons_zero, List.set_cons_succ]
                  refine wpR_done (by kernel_rfl) ?_ _
                  go_wp2_with fail
                  go_meet
                  exact ⟨ga, gb, gc, gg, rfl, rfl, rfl, rfl, Lib.hid (hen9.out.turn (by simp only [List.set_cons_zero, List.set_cons_succ, List.map_cons, List.map_nil, List.nodup_cons, List.mem_cons, List.not_mem_nil, List.nodup_nil]; intro hnd; simp only [or_false, not_or, not_false_eq_true, and_true] at hnd ⊢; omega) (by simp only [List.set_cons_zero, List.set_cons_succ, List.mem_cons, List.not_mem_nil]; rintro x (rfl | rfl | rfl | rfl | h) <;> simp_all))⟩
          · as_aux_lemma =>
              refine wp_alloc_en hen9.out rfl 20 rfl ?_
              intro wa7 gg hup hen2
              refine hK _ _ (fun _ => hup) ?_
              clear hK K
              replace hen9 := Lib.hid hen2
              clear hup hen2
              try simp only [Act.put, List.setIfInBounds_toArray, List.set_cons_zero, List.set_cons_succ]
              refine wpR_three 4 5 6 rfl rfl rfl (by kernel_rfl) (by kernel_rfl) (by kernel_rfl) (by kernel_rfl) (fun K hK => ?_) (fun K hK => ?_) (fun K hK => ?_)
              · refine wp_alloc_en hen9.out rfl 17 rfl ?_
                intro wa4 ga hup hen2
                refine hK _ _ (fun _ => hup) ?_
                clear hK K
                replace hen9 := Lib.hid hen2
                clear hup hen2
                try simp only [Act.put, List.setIfInBounds_toArray, List.set_cons_zero, List.set_cons_succ]
                refine wpR_two 5 6 rfl rfl (by kernel_rfl) (by kernel_rfl) (by kernel_rfl) (fun K hK => ?_) (fun K hK => ?_)
                · refine wp_alloc_en hen9.out rfl 18 rfl ?_
                  intro wa5 gb hup hen2
                  refine hK _ _ (fun _ => hup) ?_
                  clear hK K
                  replace hen9 := Lib.hid hen2
                  clear hup hen2
                  try simp only [Act.put, List.setIfInBounds_toArray, List.set_cons_zero, List.set_cons_succ]
                  refine wpR_one 6 rfl (by kernel_rfl) (by kernel_rfl) (fun K hK => ?_)
                  refine wp_alloc_en hen9.out rfl 19 rfl ?_
                  intro wa6 gc hup hen2
                  refine hK _ _ (fun _ => hup) ?_
                  clear hK K
                  replace hen9 := Lib.hid hen2
                  clear hup hen2
                  try simp only [Act.put, List.setIfInBounds_toArray, List.set_cons_zero, List.set_cons_succ]
                  refine wpR_one 8 rfl (by kernel_rfl) (by kernel_rfl) (fun K hK => ?_)
                  refine wp_store_en hen9.out 2 rfl (.tmp 17) (.tmp 74) rfl rfl rfl _ _ _ _ _ rfl (by simp [Value.oneCell']) ?_
                  intro wz8 hup hen2
                  refine hK _ _ (fun _ => hup) ?_
                  clear hK K
                  replace hen9 := Lib.hid hen2
                  clear hup hen2
                  try simp only [Act.put, List.setIfInBounds_toArray, List.set_cons_zero, List.set_cons_succ]
                  refine wpR_one 9 rfl (by kernel_rfl) (by kernel_rfl) (fun K hK => ?_)
                  refine wp_store_en hen9.out 1 rfl (.tmp 18) (.tmp 75) rfl rfl rfl _ _ _ _ _ rfl (by simp [Value.oneCell']) ?_
                  intro wz9 hup hen2
                  refine hK _ _ (fun _ => hup) ?_
                  clear hK K
                  replace hen9 := Lib.hid hen2
                  clear hup hen2
                  try simp only [Act.put, List.setIfInBounds_toArray, List.set_cons_zero, List.set_cons_succ]
                  refine wpR_one 10 rfl (by kernel_rfl) (by kernel_rfl) (fun K hK => ?_)
                  refine wp_store_en hen9.out 0 rfl (.tmp 19) (.tmp 76) rfl rfl rfl _ _ _ _ _ rfl (by simp [Value.oneCell']) ?_
                  intro wz10 hup hen2
                  refine hK _ _ (fun _ => hup) ?_
                  clear hK K
                  replace hen9 := Lib.hid hen2
                  clear hup hen2
                  try simp only [Act.put, List.setIfInBounds_toArray, List.set_cons_zero, List.set_cons_succ]
                  refine wpR_one 11 rfl (by kernel_rfl) (by kernel_rfl) (fun K hK => ?_)
                  refine wp_store_en hen9.out 3 rfl (.tmp 20) (.tmp 77) rfl rfl rfl _ _ _ _ _ rfl (by simp [Value.oneCell']) ?_
                  intro wz11 hup hen2
                  refine hK _ _ (fun _ => hup) ?_
                  clear hK K
                  replace hen9 := Lib.hid hen2
                  clear hup hen2
                  try simp only [Act.put, List.setIfInBounds_toArray, List.set_cons_zero, List.set_cons_succ]
                  refine wpR_done (by kernel_rfl) ?_ _
                  go_wp2_with fail
                  go_meet
                  exact ⟨ga, gb, gc, gg, rfl, rfl, rfl, rfl, Lib.hid (hen9.out.turn (by simp only [List.set_cons_zero, List.set_cons_succ, List.map_cons, List.map_nil, List.nodup_cons, List.mem_cons, List.not_mem_nil, List.nodup_nil]; intro hnd; simp only [or_false, not_or, not_false_eq_true, and_true] at hnd ⊢; omega) (by simp only [List.set_cons_zero, List.set_cons_succ, List.mem_cons, List.not_mem_nil]; rintro x (rfl | rfl | rfl | rfl | h) <;> simp_all))⟩
                · refine wp_alloc_en hen9.out rfl 19 rfl ?_
                  intro wa6 gc hup hen2
                  refine hK _ _ (fun _ => hup) ?_
                  clear hK K
                  replace hen9 := Lib.hid hen2
                  clear hup hen2
                  try simp only [Act.put, List.setIfInBounds_toArray, List.set_cons_zero, List.set_cons_succ]
                  refine wpR_one 5 rfl (by kernel_rfl) (by kernel_rfl) (fun K hK => ?_)
                  refine wp_alloc_en hen9.out rfl 18 rfl ?_
                  intro wa5 gb hup hen2
                  refine hK _ _ (fun _ => hup) ?_
                  clear hK K
                  replace hen9 := Lib.hid hen2
                  clear hup hen2
                  try simp only [Act.put, List.setIfInBounds_toArray, List.set_cons_zero, List.set_cons_succ]
                  refine wpR_one 8 rfl (by kernel_rfl) (by kernel_rfl) (fun K hK => ?_)
                  refine wp_store_en hen9.out 2 rfl (.tmp 17) (.tmp 74) rfl rfl rfl _ _ _ _ _ rfl (by simp [Value.oneCell']) ?_
                  intro wz8 hup hen2
                  refine hK _ _ (fun _ => hup) ?_
                  clear hK K
                  replace hen9 := Lib.hid hen2
                  clear hup hen2
                  try simp only [Act.put, List.setIfInBounds_toArray, List.set_cons_zero, List.set_cons_succ]
                  refine wpR_one 9 rfl (by kernel_rfl) (by kernel_rfl) (fun K hK => ?_)
                  refine wp_store_en hen9.out 0 rfl (.tmp 18) (.tmp 75) rfl rfl rfl _ _ _ _ _ rfl (by simp [Value.oneCell']) ?_
                  intro wz9 hup hen2
                  refine hK _ _ (fun _ => hup) ?_
                  clear hK K
                  replace hen9 := Lib.hid hen2
                  clear hup hen2
                  try simp only [Act.put, List.setIfInBounds_toArray, List.set_cons_zero, List.set_cons_succ]
                  refine wpR_one 10 rfl (by kernel_rfl) (by kernel_rfl) (fun K hK => ?_)
                  refine wp_store_en hen9.out 1 rfl (.tmp 19) (.tmp 76) rfl rfl rfl _ _ _ _ _ rfl (by simp [Value.oneCell']) ?_
                  intro wz10 hup hen2
                  refine hK _ _ (fun _ => hup) ?_
                  clear hK K
                  replace hen9 := Lib.hid hen2
                  clear hup hen2
                  try simp only [Act.put, List.setIfInBounds_toArray, List.set_cons_zero, List.set_cons_succ]
                  refine wpR_one 11 rfl (by kernel_rfl) (by kernel_rfl) (fun K hK => ?_)
                  refine wp_store_en hen9.out 3 rfl (.tmp 20) (.tmp 77) rfl rfl rfl _ _ _ _ _ rfl (by simp [Value.oneCell']) ?_
                  intro wz11 hup hen2
                  refine hK _ _ (fun _ => hup) ?_
                  clear hK K
                  replace hen9 := Lib.hid hen2
                  clear hup hen2
                  try simp only [Act.put, List.setIfInBounds_toArray, List.set_cons_zero, List.set_cons_succ]
                  refine wpR_done (by kernel_rfl) ?_ _
                  go_wp2_with fail
                  go_meet
                  exact ⟨ga, gb, gc, gg, rfl, rfl, rfl, rfl, Lib.hid (hen9.out.turn (by simp only [List.set_cons_zero, List.set_cons_succ, List.map_cons, List.map_nil, List.nodup_cons, List.mem_cons, List.not_mem_nil, List.nodup_nil]; intro hnd; simp only [or_false, not_or, not_false_eq_true, and_true] at hnd ⊢; omega) (by simp only [List.set_cons_zero, List.set_cons_succ, List.mem_cons, List.not_mem_nil]; rintro x (rfl | rfl | rfl | rfl | h) <;> simp_all))⟩
              · refine wp_alloc_en hen9.out rfl 18 rfl ?_
                intro wa5 gb hup hen2
                refine hK _ _ (fun _ => hup) ?_
                clear hK K
                replace hen9 := Lib.hid hen2
                clear hup hen2
                try simp only [Act.put, List.setIfInBounds_toArray, List.set_cons_zero, List.set_cons_succ]
                refine wpR_two 4 6 rfl rfl (by kernel_rfl) (by kernel_rfl) (by kernel_rfl) (fun K hK => ?_) (fun K hK => ?_)
                · refine wp_alloc_en hen9.out rfl 17 rfl ?_
                  intro wa4 ga hup hen2
                  refine hK _ _ (fun _ => hup) ?_
                  clear hK K
                  replace hen9 := Lib.hid hen2
                  clear hup hen2
                  try simp only [Act.put, List.setIfInBounds_toArray, List.set_cons_zero, List.set_cons_succ]
                  refine wpR_one 6 rfl (by kernel_rfl) (by kernel_rfl) (fun K hK => ?_)
                  refine wp_alloc_en hen9.out rfl 19 rfl ?_
                  intro wa6 gc hup hen2
                  refine hK _ _ (fun _ => hup) ?_
                  clear hK K
                  replace hen9 := Lib.hid hen2
                  clear hup hen2
                  try simp only [Act.put, List.setIfInBounds_toArray, List.set_cons_zero, List.set_cons_succ]
                  refine wpR_one 8 rfl (by kernel_rfl) (by kernel_rfl) (fun K hK => ?_)
                  refine wp_store_en hen9.out 1 rfl (.tmp 17) (.tmp 74) rfl rfl rfl _ _ _ _ _ rfl (by simp [Value.oneCell']) ?_
                  intro wz8 hup hen2
                  refine hK _ _ (fun _ => hup) ?_
                  clear hK K
                  replace hen9 := Lib.hid hen2
                  clear hup hen2
                  try simp only [Act.put, List.setIfInBounds_toArray, List.set_cons_zero, List.set_cons_succ]
                  refine wpR_one 9 rfl (by kernel_rfl) (by kernel_rfl) (fun K hK => ?_)
                  refine wp_store_en hen9.out 2 rfl (.tmp 18) (.tmp 75) rfl rfl rfl _ _ _ _ _ rfl (by simp [Value.oneCell']) ?_
                  intro wz9 hup hen2
                  refine hK _ _ (fun _ => hup) ?_
                  clear hK K
                  replace hen9 := Lib.hid hen2
                  clear hup hen2
                  try simp only [Act.put, List.setIfInBounds_toArray, List.set_cons_zero, List.set_cons_succ]
                  refine wpR_one 10 rfl (by kernel_rfl) (by kernel_rfl) (fun K hK => ?_)
                  refine wp_store_en hen9.out 0 rfl (.tmp 19) (.tmp 76) rfl rfl rfl _ _ _ _ _ rfl (by simp [Value.oneCell']) ?_
                  intro wz10 hup hen2
                  refine hK _ _ (fun _ => hup) ?_
                  clear hK K
                  replace hen9 := Lib.hid hen2
                  clear hup hen2
                  try simp only [Act.put, List.setIfInBounds_toArray, List.set_cons_zero, List.set_cons_succ]
                  refine wpR_one 11 rfl (by kernel_rfl) (by kernel_rfl) (fun K hK => ?_)
                  refine wp_store_en hen9.out 3 rfl (.tmp 20) (.tmp 77) rfl rfl rfl _ _ _ _ _ rfl (by simp [Value.oneCell']) ?_
                  intro wz11 hup hen2
                  refine hK _ _ (fun _ => hup) ?_
                  clear hK K
                  replace hen9 := Lib.hid hen2
                  clear hup hen2
                  try simp only [Act.put, List.setIfInBounds_toArray, List.set_cons_zero, List.set_cons_succ]
                  refine wpR_done (by kernel_rfl) ?_ _
                  go_wp2_with fail
                  go_meet
                  exact ⟨ga, gb, gc, gg, rfl, rfl, rfl, rfl, Lib.hid (hen9.out.turn (by simp only [List.set_cons_zero, List.set_cons_succ, List.map_cons, List.map_nil, List.nodup_cons, List.mem_cons, List.not_mem_nil, List.nodup_nil]; intro hnd; simp only [or_false, not_or, not_false_eq_true, and_true] at hnd ⊢; omega) (by simp only [List.set_cons_zero, List.set_cons_succ, List.mem_cons, List.not_mem_nil]; rintro x (rfl | rfl | rfl | rfl | h) <;> simp_all))⟩
                · refine wp_alloc_en hen9.out rfl 19 rfl ?_
                  intro wa6 gc hup hen2
                  refine hK _ _ (fun _ => hup) ?_
                  clear hK K
                  replace hen9 := Lib.hid hen2
                  clear hup hen2
                  try simp only [Act.put, List.setIfInBounds_toArray, List.set_cons_zero, List.set_cons_succ]
                  refine wpR_one 4 rfl (by kernel_rfl) (by kernel_rfl) (fun K hK => ?_)
                  refine wp_alloc_en hen9.out rfl 17 rfl ?_
                  intro wa4 ga hup hen2
                  refine hK _ _ (fun _ => hup) ?_
                  clear hK K
                  replace hen9 := Lib.hid hen2
                  clear hup hen2
                  try simp only [Act.put, List.setIfInBounds_toArray, List.set_cons_zero, List.set_cons_succ]
                  refine wpR_one 8 rfl (by kernel_rfl) (by kernel_rfl) (fun K hK => ?_)
                  refine wp_store_en hen9.out 0 rfl (.tmp 17) (.tmp 74) rfl rfl rfl _ _ _ _ _ rfl (by simp [Value.oneCell']) ?_
                  intro wz8 hup hen2
                  refine hK _ _ (fun _ => hup) ?_
                  clear hK K
                  replace hen9 := Lib.hid hen2
                  clear hup hen2
                  try simp only [Act.put, List.setIfInBounds_toArray, List.set_cons_zero, List.set_cons_succ]
                  refine wpR_one 9 rfl (by kernel_rfl) (by kernel_rfl) (fun K hK => ?_)
                  refine wp_store_en hen9.out 2 rfl (.tmp 18) (.tmp 75) rfl rfl rfl _ _ _ _ _ rfl (by simp [Value.oneCell']) ?_
                  intro wz9 hup hen2
                  refine hK _ _ (fun _ => hup) ?_
                  clear hK K
                  replace hen9 := Lib.hid hen2
                  clear hup hen2
                  try simp only [Act.put, List.setIfInBounds_toArray, List.set_cons_zero, List.set_cons_succ]
                  refine wpR_one 10 rfl (by kernel_rfl) (by kernel_rfl) (fun K hK => ?_)
                  refine wp_store_en hen9.out 1 rfl (.tmp 19) (.tmp 76) rfl rfl rfl _ _ _ _ _ rfl (by simp [Value.oneCell']) ?_
                  intro wz10 hup hen2
                  refine hK _ _ (fun _ => hup) ?_
                  clear hK K
                  replace hen9 := Lib.hid hen2
                  clear hup hen2
                  try simp only [Act.put, List.setIfInBounds_toArray, List.set_cons_zero, List.set_cons_succ]
                  refine wpR_one 11 rfl (by kernel_rfl) (by kernel_rfl) (fun K hK => ?_)
                  refine wp_store_en hen9.out 3 rfl (.tmp 20) (.tmp 77) rfl rfl rfl _ _ _ _ _ rfl (by simp [Value.oneCell']) ?_
                  intro wz11 hup hen2
                  refine hK _ _ (fun _ => hup) ?_
                  clear hK K
                  replace hen9 := Lib.hid hen2
                  clear hup hen2
                  try simp only [Act.put, List.setIfInBounds_toArray, List.set_cons_zero, List.set_cons_succ]
                  refine wpR_done (by kernel_rfl) ?_ _
                  go_wp2_with fail
                  go_meet
                  exact ⟨ga, gb, gc, gg, rfl, rfl, rfl, rfl, Lib.hid (hen9.out.turn (by simp only [List.set_cons_zero, List.set_cons_succ, List.map_cons, List.map_nil, List.nodup_cons, List.mem_cons, List.not_mem_nil, List.nodup_nil]; intro hnd; simp only [or_false, not_or, not_false_eq_true, and_true] at hnd ⊢; omega) (by simp only [List.set_cons_zero, List.set_cons_succ, List.mem_cons, List.not_mem_nil]; rintro x (rfl | rfl | rfl | rfl | h) <;> simp_all))⟩
              · refine wp_alloc_en hen9.out rfl 19 rfl ?_
                intro wa6 gc hup hen2
                refine hK _ _ (fun _ => hup) ?_
                clear hK K
                replace hen9 := Lib.hid hen2
                clear hup hen2
                try simp only [Act.put, List.setIfInBounds_toArray, List.set_cons_zero, List.set_cons_succ]
                refine wpR_two 4 5 rfl rfl (by kernel_rfl) (by kernel_rfl) (by kernel_rfl) (fun K hK => ?_) (fun K hK => ?_)
                · refine wp_alloc_en hen9.out rfl 17 rfl ?_
                  intro wa4 ga hup hen2
                  refine hK _ _ (fun _ => hup) ?_
                  clear hK K
                  replace hen9 := Lib.hid hen2
                  clear hup hen2
                  try simp only [Act.put, List.setIfInBounds_toArray, List.set_cons_zero, List.set_cons_succ]
                  refine wpR_one 5 rfl (by kernel_rfl) (by kernel_rfl) (fun K hK => ?_)
                  refine wp_alloc_en hen9.out rfl 18 rfl ?_
                  intro wa5 gb hup hen2
                  refine hK _ _ (fun _ => hup) ?_
                  clear hK K
                  replace hen9 := Lib.hid hen2
                  clear hup hen2
                  try simp only [Act.put, List.setIfInBounds_toArray, List.set_cons_zero, List.set_cons_succ]
                  refine wpR_one 8 rfl (by kernel_rfl) (by kernel_rfl) (fun K hK => ?_)
                  refine wp_store_en hen9.out 1 rfl (.tmp 17) (.tmp 74) rfl rfl rfl _ _ _ _ _ rfl (by simp [Value.oneCell']) ?_
                  intro wz8 hup hen2
                  refine hK _ _ (fun _ => hup) ?_
                  clear hK K
                  replace hen9 := Lib.hid hen2
                  clear hup hen2
                  try simp only [Act.put, List.setIfInBounds_toArray, List.set_cons_zero, List.set_cons_succ]
                  refine wpR_one 9 rfl (by kernel_rfl) (by kernel_rfl) (fun K hK => ?_)
                  refine wp_store_en hen9.out 0 rfl (.tmp 18) (.tmp 75) rfl rfl rfl _ _ _ _ _ rfl (by simp [Value.oneCell']) ?_
                  intro wz9 hup hen2
                  refine hK _ _ (fun _ => hup) ?_
                  clear hK K
                  replace hen9 := Lib.hid hen2
                  clear hup hen2
                  try simp only [Act.put, List.setIfInBounds_toArray, List.set_cons_zero, List.set_cons_succ]
                  refine wpR_one 10 rfl (by kernel_rfl) (by kernel_rfl) (fun K hK => ?_)
                  refine wp_store_en hen9.out 2 rfl (.tmp 19) (.tmp 76) rfl rfl rfl _ _ _ _ _ rfl (by simp [Value.oneCell']) ?_
                  intro wz10 hup hen2
                  refine hK _ _ (fun _ => hup) ?_
                  clear hK K
                  replace hen9 := Lib.hid hen2
                  clear hup hen2
                  try simp only [Act.put, List.setIfInBounds_toArray, List.set_cons_zero, List.set_cons_succ]
                  refine wpR_one 11 rfl (by kernel_rfl) (by kernel_rfl) (fun K hK => ?_)
                  refine wp_store_en hen9.out 3 rfl (.tmp 20) (.tmp 77) rfl rfl rfl _ _ _ _ _ rfl (by simp [Value.oneCell']) ?_
                  intro wz11 hup hen2
                  refine hK _ _ (fun _ => hup) ?_
                  clear hK K
                  replace hen9 := Lib.hid hen2
                  clear hup hen2
                  try simp only [Act.put, List.setIfInBounds_toArray, List.set_cons_zero, List.set_cons_succ]
                  refine wpR_done (by kernel_rfl) ?_ _
                  go_wp2_with fail
                  go_meet
                  exact ⟨ga, gb, gc, gg, rfl, rfl, rfl, rfl, Lib.hid (hen9.out.turn (by simp only [List.set_cons_zero, List.set_cons_succ, List.map_cons, List.map_nil, List.nodup_cons, List.mem_cons, List.not_mem_nil, List.nodup_nil]; intro hnd; simp only [or_false, not_or, not_false_eq_true, and_true] at hnd ⊢; omega) (by simp only [List.set_cons_zero, List.set_cons_succ, List.mem_cons, List.not_mem_nil]; rintro x (rfl | rfl | rfl | rfl | h) <;> simp_all))⟩
                · refine wp_alloc_en hen9.out rfl 18 rfl ?_
                  intro wa5 gb hup hen2
                  refine hK _ _ (fun _ => hup) ?_
                  clear hK K
                  replace hen9 := Lib.hid hen2
                  clear hup hen2
                  try simp only [Act.put, List.setIfInBounds_toArray, List.set_cons_zero, List.set_cons_succ]
                  refine wpR_one 4 rfl (by kernel_rfl) (by kernel_rfl) (fun K hK => ?_)
                  refine wp_alloc_en hen9.out rfl 17 rfl ?_
                  intro wa4 ga hup hen2
                  refine hK _ _ (fun _ => hup) ?_
                  clear hK K
                  replace hen9 := Lib.hid hen2
                  clear hup hen2
                  try simp only [Act.put, List.setIfInBounds_toArray, List.set_cons_zero, List.set_cons_succ]
                  refine wpR_one 8 rfl (by kernel_rfl) (by kernel_rfl) (fun K hK => ?_)
                  refine wp_store_en hen9.out 0 rfl (.tmp 17) (.tmp 74) rfl rfl rfl _ _ _ _ _ rfl (by simp [Value.oneCell']) ?_
                  intro wz8 hup hen2
                  refine hK _ _ (fun _ => hup) ?_
                  clear hK K
                  replace hen9 := Lib.hid hen2
                  clear hup hen2
                  try simp only [Act.put, List.setIfInBounds_toArray, List.set_cons_zero, List.set_cons_succ]
                  refine wpR_one 9 rfl (by kernel_rfl) (by kernel_rfl) (fun K hK => ?_)
                  refine wp_store_en hen9.out 1 rfl (.tmp 18) (.tmp 75) rfl rfl rfl _ _ _ _ _ rfl (by simp [Value.oneCell']) ?_
                  intro wz9 hup hen2
                  refine hK _ _ (fun _ => hup) ?_
                  clear hK K
                  replace hen9 := Lib.hid hen2
                  clear hup hen2
                  try simp only [Act.put, List.setIfInBounds_toArray, List.set_cons_zero, List.set_cons_succ]
                  refine wpR_one 10 rfl (by kernel_rfl) (by kernel_rfl) (fun K hK => ?_)
                  refine wp_store_en hen9.out 2 rfl (.tmp 19) (.tmp 76) rfl rfl rfl _ _ _ _ _ rfl (by simp [Value.oneCell']) ?_
                  intro wz10 hup hen2
                  refine hK _ _ (fun _ => hup) ?_
                  clear hK K
                  replace hen9 := Lib.hid hen2
                  clear hup hen2
                  try simp only [Act.put, List.setIfInBounds_toArray, List.set_cons_zero, List.set_cons_succ]
                  refine wpR_one 11 rfl (by kernel_rfl) (by kernel_rfl) (fun K hK => ?_)
                  refine wp_store_en hen9.out 3 rfl (.tmp 20) (.tmp 77) rfl rfl rfl _ _ _ _ _ rfl (by simp [Value.oneCell']) ?_
                  intro wz11 hup hen2
                  refine hK _ _ (fun _ => hup) ?_
                  clear hK K
                  replace hen9 := Lib.hid hen2
                  clear hup hen2
                  try simp only [Act.put, List.setIfInBounds_toArray, List.set_cons_zero, List.set_cons_succ]
                  refine wpR_done (by kernel_rfl) ?_ _
                  go_wp2_with fail
                  go_meet
                  exact ⟨ga, gb, gc, gg, rfl, rfl, rfl, rfl, Lib.hid (hen9.out.turn (by simp only [List.set_cons_zero, List.set_cons_succ, List.map_cons, List.map_nil, List.nodup_cons, List.mem_cons, List.not_mem_nil, List.nodup_nil]; intro hnd; simp only [or_false, not_or, not_false_eq_true, and_true] at hnd ⊢; omega) (by simp only [List.set_cons_zero, List.set_cons_succ, List.mem_cons, List.not_mem_nil]; rintro x (rfl | rfl | rfl | rfl | h) <;> simp_all))⟩
      case rest =>
        obtain ⟨ga, gb, gc, gg, rfl, rfl, rfl, rfl, hen9⟩ := hcut
        have hgn1 : IntKind.i64.wrap ((gn : Int) + 1) = (gn : Int) + 1 := by rw [IntKind.wrap_i64]; omega
        have hz1 : IntKind.i64.wrap ((n1 : Int) + 1) = (n1 : Int) + 1 := by rw [IntKind.wrap_i64]; omega
        have hkx : bs key ++ { data := #[120] } = bs (key ++ [120]) := bs_appendE key [120]
        have hsx : bs sm ++ { data := #[120] } = bs (sm ++ [120]) := bs_appendE sm [120]
        have hbx := hen9.out.at_ (i := 0) rfl
        have q0 := blk_cell (j := 0) hbx rfl
        have f0 := blk_free hbx 0
        replace hbx := Lib.hid hbx
        go_upto_region 11 with (fail)
        clear q0 f0 hbx
        replace hen9 := Lib.hid (hen9.out.put (i := 0) rfl 0 (.string (bs (key ++ [120]))))
        skip
        obtain ⟨wA, hwA⟩ : ∃ x, wc.setCell ⟨ga, 0, none⟩ (.string (bs (key ++ [120]))) = x := ⟨_, rfl⟩
        rw [hwA] at hen9 ⊢
        replace hwA := Lib.hid hwA
        have hbx := hen9.out.at_ (i := 1) rfl
        have q0 := blk_cell (j := 1) hbx rfl
        have f0 := blk_free hbx 1
        replace hbx := Lib.hid hbx
        go_upto_region 12 with (fail)
        clear q0 f0 hbx
        replace hen9 := Lib.hid (hen9.out.put (i := 1) rfl 1 (.int .i64 ((gn : Int) + 1)))
        skip
        obtain ⟨wB, hwB⟩ : ∃ x, wA.setCell ⟨gb, 1, none⟩ (.int .i64 ((gn : Int) + 1)) = x := ⟨_, rfl⟩
        rw [hwB] at hen9 ⊢
        replace hwB := Lib.hid hwB
        have hbx := hen9.out.at_ (i := 2) rfl
        have q0 := blk_cell (j := 2) hbx rfl
        have f0 := blk_free hbx 2
        replace hbx := Lib.hid hbx
        go_upto_region 13 with (fail)
        clear q0 f0 hbx
        replace hen9 := Lib.hid (hen9.out.put (i := 2) rfl 2 (.int .i64 ((n1 : Int) + 1)))
        skip
        obtain ⟨wC, hwC⟩ : ∃ x, wB.setCell ⟨gc, 2, none⟩ (.int .i64 ((n1 : Int) + 1)) = x := ⟨_, rfl⟩
        rw [hwC] at hen9 ⊢
        replace hwC := Lib.hid hwC
        have hbx := hen9.out.at_ (i := 3) rfl
        have q0 := blk_cell (j := 3) hbx rfl
        have f0 := blk_free hbx 3
        replace hbx := Lib.hid hbx
        go_upto_region 14 with (fail)
        clear q0 f0 hbx
        replace hen9 := Lib.hid (hen9.out.put (i := 3) rfl 3 (.string (bs (sm ++ [120]))))
        skip
        obtain ⟨wG, hwG⟩ : ∃ x, wC.setCell ⟨gg, 3, none⟩ (.string (bs (sm ++ [120]))) = x := ⟨_, rfl⟩
        rw [hwG] at hen9 ⊢
        replace hwG := Lib.hid hwG
        have hgG : Gr wf wG := hen9.out.1
        replace hb7 := Lib.hid ((hgG.block _ (blk_lt hb7.out)).trans hb7.out)
        obtain ⟨W, hW⟩ : ∃ W, wG.drew = W := ⟨_, rfl⟩
        have hWd : Gr wG W := by rw [← hW]; exact Below.drew (Below.refl _ _)
        have x7 := Lib.hid ((hWd.block _ (blk_lt hb7.out)).trans hb7.out)
        have xa := Lib.hid ((hWd.block _ (blk_lt (hen9.out.at_ (i := 0) rfl))).trans (hen9.out.at_ (i := 0) rfl))
        have xb := Lib.hid ((hWd.block _ (blk_lt (hen9.out.at_ (i := 1) rfl))).trans (hen9.out.at_ (i := 1) rfl))
        have xc9 := Lib.hid ((hWd.block _ (blk_lt (hen9.out.at_ (i := 2) rfl))).trans (hen9.out.at_ (i := 2) rfl))
        have xg := Lib.hid ((hWd.block _ (blk_lt (hen9.out.at_ (i := 3) rfl))).trans (hen9.out.at_ (i := 3) rfl))
        have hW2 : Hid (Gr w2 W) := Lib.hid ((hgd.out.trans hen.out.1).trans (hgG.trans hWd))
        have hfr : Hid (Gr w W) := Lib.hid (hg2'.out.trans hW2.out)
        obtain ⟨β, hβ⟩ : ∃ β, decide (i = k) = β := ⟨_, rfl⟩
        have hβ2 : ((i : Int) == (k : Int)) = β := by rw [← hβ, Bool.eq_iff_iff]; simp; omega
        have hββ : (β == β) = true := by simp
        have k1 : Hid (∀ w', Calls Try.prog 34 #[.agg #[.string (bs key), .int .i64 (gn : Int), .int .i64 (n1 : Int), .string (bs sm), .slice P7 m m], .int .i64 (i : Nat), .agg #[.int .i64 xr.kind, .int .i64 xr.cart, .string (bs xr.key), .int .i64 xr.gen, .int .i64 xr.group, .int .i64 xr.groups, .int .i64 xr.index, .int .i64 xr.size, .string (bs xr.sum), .slice xA xr.data.length xc]] w' fun r w'' => r = .returned (.bool true) ∧ Gr w' w'') := Lib.hid (fun w' => by
          have h := good_any ⟨key, (gn : Int), (n1 : Int), sm⟩ P7 m m (i : Nat) xr xA xc (by omega) w'
          rw [hgood.out ⟨key, (gn : Int), (n1 : Int), sm⟩ i (by omega)] at h
          refine h.mono ?_
          rintro r w'' ⟨hr, hg⟩
          exact ⟨by rw [hr]; congr 2; simp, hg⟩)
        have k2 : Hid (∀ w', Calls Try.prog 34 #[.agg #[.string (bs key), .int .i64 (gn : Int), .int .i64 (n1 : Int), .string (bs sm), .slice P7 m m], .int .i64 (k : Nat), .agg #[.int .i64 xr.kind, .int .i64 xr.cart, .string (bs xr.key), .int .i64 xr.gen, .int .i64 xr.group, .int .i64 xr.groups, .int .i64 xr.index, .int .i64 xr.size, .string (bs xr.sum), .slice xA xr.data.length xc]] w' fun r w'' => r = .returned (.bool β) ∧ Gr w' w'') := Lib.hid (fun w' => by
          have h := good_any ⟨key, (gn : Int), (n1 : Int), sm⟩ P7 m m (k : Nat) xr xA xc (by omega) w'
          rw [hgood.out ⟨key, (gn : Int), (n1 : Int), sm⟩ k (by omega)] at h
          refine h.mono ?_
          rintro r w'' ⟨hr, hg⟩
          exact ⟨by rw [hr]; congr 2; simp [hβ], hg⟩)
        have k3 : Hid (∀ w', Calls Try.prog 34 #[.agg #[.string (bs (key ++ [120])), .int .i64 (gn : Int), .int .i64 (n1 : Int), .string (bs sm), .slice P7 m m], .int .i64 (i : Nat), .agg #[.int .i64 xr.kind, .int .i64 xr.cart, .string (bs xr.key), .int .i64 xr.gen, .int .i64 xr.group, .int .i64 xr.groups, .int .i64 xr.index, .int .i64 xr.size, .string (bs xr.sum), .slice xA xr.data.length xc]] w' fun r w'' => r = .returned (.bool false) ∧ Gr w' w'') := Lib.hid (fun w' => by
          have h := good_any ⟨key ++ [120], (gn : Int), (n1 : Int), sm⟩ P7 m m (i : Nat) xr xA xc (by omega) w'
          rw [hgood.out ⟨key ++ [120], (gn : Int), (n1 : Int), sm⟩ i (by omega)] at h
          refine h.mono ?_
          rintro r w'' ⟨hr, hg⟩
          exact ⟨by rw [hr]; congr 2; simp [snoc_ne], hg⟩)
        have k4 : Hid (∀ w', Calls Try.prog 34 #[.agg #[.string (bs key), .int .i64 ((gn : Int) + 1), .int .i64 (n1 : Int), .string (bs sm), .slice P7 m m], .int .i64 (i : Nat), .agg #[.int .i64 xr.kind, .int .i64 xr.cart, .string (bs xr.key), .int .i64 xr.gen, .int .i64 xr.group, .int .i64 xr.groups, .int .i64 xr.index, .int .i64 xr.size, .string (bs xr.sum), .slice xA xr.data.length xc]] w' fun r w'' => r = .returned (.bool false) ∧ Gr w' w'') := Lib.hid (fun w' => by
          have h := good_any ⟨key, (gn : Int) + 1, (n1 : Int), sm⟩ P7 m m (i : Nat) xr xA xc (by omega) w'
          rw [hgood.out ⟨key, (gn : Int) + 1, (n1 : Int), sm⟩ i (by omega)] at h
          refine h.mono ?_
          rintro r w'' ⟨hr, hg⟩
          exact ⟨by rw [hr]; congr 2; simp; omega, hg⟩)
        have k5 : Hid (∀ w', Calls Try.prog 34 #[.agg #[.string (bs key), .int .i64 (gn : Int), .int .i64 ((n1 : Int) + 1), .string (bs sm), .slice P7 m m], .int .i64 (i : Nat), .agg #[.int .i64 xr.kind, .int .i64 xr.cart, .string (bs xr.key), .int .i64 xr.gen, .int .i64 xr.group, .int .i64 xr.groups, .int .i64 xr.index, .int .i64 xr.size, .string (bs xr.sum), .slice xA xr.data.length xc]] w' fun r w'' => r = .returned (.bool false) ∧ Gr w' w'') := Lib.hid (fun w' => by
          have h := good_any ⟨key, (gn : Int), (n1 : Int) + 1, sm⟩ P7 m m (i : Nat) xr xA xc (by omega) w'
          rw [hgood.out ⟨key, (gn : Int), (n1 : Int) + 1, sm⟩ i (by omega)] at h
          refine h.mono ?_
          rintro r w'' ⟨hr, hg⟩
          exact ⟨by rw [hr]; congr 2; simp; omega, hg⟩)
        have k6 : Hid (∀ w', Calls Try.prog 34 #[.agg #[.string (bs key), .int .i64 (gn : Int), .int .i64 (n1 : Int), .string (bs (sm ++ [120])), .slice P7 m m], .int .i64 (i : Nat), .agg #[.int .i64 xr.kind, .int .i64 xr.cart, .string (bs xr.key), .int .i64 xr.gen, .int .i64 xr.group, .int .i64 xr.groups, .int .i64 xr.index, .int .i64 xr.size, .string (bs xr.sum), .slice xA xr.data.length xc]] w' fun r w'' => r = .returned (.bool false) ∧ Gr w' w'') := Lib.hid (fun w' => by
          have h := good_any ⟨key, (gn : Int), (n1 : Int), sm ++ [120]⟩ P7 m m (i : Nat) xr xA xc (by omega) w'
          rw [hgood.out ⟨key, (gn : Int), (n1 : Int), sm ++ [120]⟩ i (by omega)] at h
          refine h.mono ?_
          rintro r w'' ⟨hr, hg⟩
          exact ⟨by rw [hr]; congr 2; simp [snoc_ne], hg⟩)
        replace hβ := Lib.hid hβ
        clear hWd hgG hen hen9 hb7
        as_aux_lemma =>
          refine wpR_region (Gr) 9999 (by kernel_rfl) ?_
          (rw [hW]; replace hW := Lib.hid hW)
          refine wpR_one 0 rfl (by kernel_rfl) (by kernel_rfl) (fun K hK => ?_)
          go_simp
          refine (awake19_any _).mono ?_
          rintro r w5 ⟨rfl, hr⟩
          refine hK _ _ (fun _ => hr) ?_
          clear hK K
          replace x7 := Lib.hid ((hr.block _ (Array.getElem?_eq_some_iff.mp x7.out).1).trans x7.out)
          replace xa := Lib.hid ((hr.block _ (Array.getElem?_eq_some_iff.mp xa.out).1).trans xa.out)
          replace xb := Lib.hid ((hr.block _ (Array.getElem?_eq_some_iff.mp xb.out).1).trans xb.out)
          replace xc9 := Lib.hid ((hr.block _ (Array.getElem?_eq_some_iff.mp xc9.out).1).trans xc9.out)
          replace xg := Lib.hid ((hr.block _ (Array.getElem?_eq_some_iff.mp xg.out).1).trans xg.out)
          replace hW2 := Lib.hid (hW2.out.trans hr)
          replace hfr := Lib.hid (hfr.out.trans hr)
          clear hr
          try simp only [Act.put, List.setIfInBounds_toArray, List.set_cons_zero, List.set_cons_succ]
          refine wpR_take (i := 1) (v := ?_) (Gr.road) (some 94) rfl (by kernel_rfl) (by kernel_rfl) (by kernel_rfl) (by kernel_rfl) (by kernel_rfl) (fun _ _ _ h => h) (by kernel_rfl) (fun w' hw' => ?_) ?_
          rotate_left
          · go_simp; with_reducible rfl
          simp only [Act.put, List.setIfInBounds_toArray, List.set_cons_zero, List.set_cons_succ]
          refine wpR_take (i := 2) (v := ?_) (Gr.road) (some 95) rfl (by kernel_rfl) (by kernel_rfl) (by kernel_rfl) (by kernel_rfl) (by kernel_rfl) (fun _ _ _ h => h) (by kernel_rfl) (fun w' hw' => ?_) ?_
          rotate_left
          · have y9 := (hw'.block _ (Array.getElem?_eq_some_iff.mp x7.out).1).trans x7.out; have c0 := blk_cell (j := 0) y9 rfl; have c1 := blk_cell (j := 1) y9 rfl; have c2 := blk_cell (j := 2) y9 rfl; have c3 := blk_cell (j := 3) y9 rfl; have c4 := blk_cell (j := 4) y9 rfl; clear y9; go_simp; with_reducible rfl
          simp only [Act.put, List.setIfInBounds_toArray, List.set_cons_zero, List.set_cons_succ]
          refine wpR_take (i := 3) (v := ?_) (Gr.road) (some 96) rfl (by kernel_rfl) (by kernel_rfl) (by kernel_rfl) (by kernel_rfl) (by kernel_rfl) (fun _ _ _ h => h) (by kernel_rfl) (fun w' hw' => ?_) ?_
          rotate_left
          · go_simp; with_reducible rfl
          simp only [Act.put, List.setIfInBounds_toArray, List.set_cons_zero, List.set_cons_succ]
          refine wpR_take (i := 4) (v := ?_) (Gr.road) (some 97) rfl (by kernel_rfl) (by kernel_rfl) (by kernel_rfl) (by kernel_rfl) (by kernel_rfl) (fun _ _ _ h => h) (by kernel_rfl) (fun w' hw' => ?_) ?_
          rotate_left
          · go_simp; with_reducible rfl
          simp only [Act.put, List.setIfInBounds_toArray, List.set_cons_zero, List.set_cons_succ]
          refine wpR_take (i := 5) (v := ?_) (Gr.road) (some 98) rfl (by kernel_rfl) (by kernel_rfl) (by kernel_rfl) (by kernel_rfl) (by kernel_rfl) (fun _ _ _ h => h) (by kernel_rfl) (fun w' hw' => ?_) ?_
          rotate_left
          · go_simp; with_reducible rfl
          simp only [Act.put, List.setIfInBounds_toArray, List.set_cons_zero, List.set_cons_succ]
          refine wpR_take (i := 6) (v := ?_) (Gr.road) (some 99) rfl (by kernel_rfl) (by kernel_rfl) (by kernel_rfl) (by kernel_rfl) (by kernel_rfl) (fun _ _ _ h => h) (by kernel_rfl) (fun w' hw' => ?_) ?_
          rotate_left
          · go_simp; with_reducible rfl
          simp only [Act.put, List.setIfInBounds_toArray, List.set_cons_zero, List.set_cons_succ]
          refine wpR_take (i := 7) (v := ?_) (Gr.road) (some 100) rfl (by kernel_rfl) (by kernel_rfl) (by kernel_rfl) (by kernel_rfl) (by kernel_rfl) (fun _ _ _ h => h) (by kernel_rfl) (fun w' hw' => ?_) ?_
          rotate_left
          · have y9 := hci.out w' (hW2.out.trans hw'); have z0 := y9 0 _ rfl; have z1 := y9 1 _ rfl; have z2 := y9 2 _ rfl; have z3 := y9 3 _ rfl; have z4 := y9 4 _ rfl; have z5 := y9 5 _ rfl; have z6 := y9 6 _ rfl; have z7 := y9 7 _ rfl; have z8 := y9 8 _ rfl; have z9 := y9 9 _ rfl; clear y9; rw [Nat.add_zero] at z0; go_simp; with_reducible rfl
          simp only [Act.put, List.setIfInBounds_toArray, List.set_cons_zero, List.set_cons_succ]
          refine wpR_one 8 rfl (by kernel_rfl) (by kernel_rfl) (fun K hK => ?_)
          go_simp
          refine (k1.out _).mono ?_
          rintro r w6 ⟨rfl, hr⟩
          refine hK _ _ (fun _ => hr) ?_
          clear hK K
          replace x7 := Lib.hid ((hr.block _ (Array.getElem?_eq_some_iff.mp x7.out).1).trans x7.out)
          replace xa := Lib.hid ((hr.block _ (Array.getElem?_eq_some_iff.mp xa.out).1).trans xa.out)
          replace xb := Lib.hid ((hr.block _ (Array.getElem?_eq_some_iff.mp xb.out).1).trans xb.out)
          replace xc9 := Lib.hid ((hr.block _ (Array.getElem?_eq_some_iff.mp xc9.out).1).trans xc9.out)
          replace xg := Lib.hid ((hr.block _ (Array.getElem?_eq_some_iff.mp xg.out).1).trans xg.out)
          replace hW2 := Lib.hid (hW2.out.trans hr)
          replace hfr := Lib.hid (hfr.out.trans hr)
          clear hr
          try simp only [Act.put, List.setIfInBounds_toArray, List.set_cons_zero, List.set_cons_succ]
          refine wpR_take (i := 9) (v := ?_) (Gr.road) (some 102) rfl (by kernel_rfl) (by kernel_rfl) (by kernel_rfl) (by kernel_rfl) (by kernel_rfl) (fun _ _ _ h => h) (by kernel_rfl) (fun w' hw' => ?_) ?_
          rotate_left
          · go_simp; with_reducible rfl
          simp only [Act.put, List.setIfInBounds_toArray, List.set_cons_zero, List.set_cons_succ]
          refine wpR_take (i := 10) (v := ?_) (Gr.road) (some 103) rfl (by kernel_rfl) (by kernel_rfl) (by kernel_rfl) (by kernel_rfl) (by kernel_rfl) (fun _ _ _ h => h) (by kernel_rfl) (fun w' hw' => ?_) ?_
          rotate_left
          · go_simp; with_reducible rfl
          simp only [Act.put, List.setIfInBounds_toArray, List.set_cons_zero, List.set_cons_succ]
          refine wpR_take (i := 11) (v := ?_) (Gr.road) (some 104) rfl (by kernel_rfl) (by kernel_rfl) (by kernel_rfl) (by kernel_rfl) (by kernel_rfl) (fun _ _ _ h => h) (by kernel_rfl) (fun w' hw' => ?_) ?_
          rotate_left
          · have y9 := (hw'.block _ (Array.getElem?_eq_some_iff.mp x7.out).1).trans x7.out; have c0 := blk_cell (j := 0) y9 rfl; have c1 := blk_cell (j := 1) y9 rfl; have c2 := blk_cell (j := 2) y9 rfl; have c3 := blk_cell (j := 3) y9 rfl; have c4 := blk_cell (j := 4) y9 rfl; clear y9; go_simp; with_reducible rfl
          simp only [Act.put, List.setIfInBounds_toArray, List.set_cons_zero, List.set_cons_succ]
          refine wpR_take (i := 12) (v := ?_) (Gr.road) (some 105) rfl (by kernel_rfl) (by kernel_rfl) (by kernel_rfl) (by kernel_rfl) (by kernel_rfl) (fun _ _ _ h => h) (by kernel_rfl) (fun w' hw' => ?_) ?_
          rotate_left
          · go_simp; with_reducible rfl
          simp only [Act.put, List.setIfInBounds_toArray, List.set_cons_zero, List.set_cons_succ]
          refine wpR_take (i := 13) (v := ?_) (Gr.road) (some 106) rfl (by kernel_rfl) (by kernel_rfl) (by kernel_rfl) (by kernel_rfl) (by kernel_rfl) (fun _ _ _ h => h) (by kernel_rfl) (fun w' hw' => ?_) ?_
          rotate_left
          · go_simp; with_reducible rfl
          simp only [Act.put, List.setIfInBounds_toArray, List.set_cons_zero, List.set_cons_succ]
          refine wpR_take (i := 14) (v := ?_) (Gr.road) (some 107) rfl (by kernel_rfl) (by kernel_rfl) (by kernel_rfl) (by kernel_rfl) (by kernel_rfl) (fun _ _ _ h => h) (by kernel_rfl) (fun w' hw' => ?_) ?_
          rotate_left
          · go_simp; with_reducible rfl
          simp only [Act.put, List.setIfInBounds_toArray, List.set_cons_zero, List.set_cons_succ]
          refine wpR_take (i := 15) (v := ?_) (Gr.road) (some 108) rfl (by kernel_rfl) (by kernel_rfl) (by kernel_rfl) (by kernel_rfl) (by kernel_rfl) (fun _ _ _ h => h) (by kernel_rfl) (fun w' hw' => ?_) ?_
          rotate_left
          · go_simp; with_reducible rfl
          simp only [Act.put, List.setIfInBounds_toArray, List.set_cons_zero, List.set_cons_succ]
          refine wpR_take (i := 16) (v := ?_) (Gr.road) (some 109) rfl (by kernel_rfl) (by kernel_rfl) (by kernel_rfl) (by kernel_rfl) (by kernel_rfl) (fun _ _ _ h => h) (by kernel_rfl) (fun w' hw' => ?_) ?_
          rotate_left
          · have y9 := hci.out w' (hW2.out.trans hw'); have z0 := y9 0 _ rfl; have z1 := y9 1 _ rfl; have z2 := y9 2 _ rfl; have z3 := y9 3 _ rfl; have z4 := y9 4 _ rfl; have z5 := y9 5 _ rfl; have z6 := y9 6 _ rfl; have z7 := y9 7 _ rfl; have z8 := y9 8 _ rfl; have z9 := y9 9 _ rfl; clear y9; rw [Nat.add_zero] at z0; go_simp; with_reducible rfl
          simp only [Act.put, List.setIfInBounds_toArray, List.set_cons_zero, List.set_cons_succ]
          refine wpR_take (i := 18) (v := ?_) (Gr.road) (some 111) rfl (by kernel_rfl) (by kernel_rfl) (by kernel_rfl) (by kernel_rfl) (by kernel_rfl) (fun _ _ _ h => h) (by kernel_rfl) (fun w' hw' => ?_) ?_
          rotate_left
          · go_simp; with_reducible rfl
          simp only [Act.put, List.setIfInBounds_toArray, List.set_cons_zero, List.set_cons_succ]
          refine wpR_take (i := 19) (v := ?_) (Gr.road) (some 112) rfl (by kernel_rfl) (by kernel_rfl) (by kernel_rfl) (by kernel_rfl) (by kernel_rfl) (fun _ _ _ h => h) (by kernel_rfl) (fun w' hw' => ?_) ?_
          rotate_left
          · go_simp; with_reducible rfl
          simp only [Act.put, List.setIfInBounds_toArray, List.set_cons_zero, List.set_cons_succ]
          refine wpR_take (i := 20) (v := ?_) (Gr.road) (some 113) rfl (by kernel_rfl) (by kernel_rfl) (by kernel_rfl) (by kernel_rfl) (by kernel_rfl) (fun _ _ _ h => h) (by kernel_rfl) (fun w' hw' => ?_) ?_
          rotate_left
          · go_simp; with_reducible rfl
          simp only [Act.put, List.setIfInBounds_toArray, List.set_cons_zero, List.set_cons_succ]
          refine wpR_one 17 rfl (by kernel_rfl) (by kernel_rfl) (fun K hK => ?_)
          go_simp
          refine (k2.out _).mono ?_
          rintro r w7 ⟨rfl, hr⟩
          refine hK _ _ (fun _ => hr) ?_
          clear hK K
          replace x7 := Lib.hid ((hr.block _ (Array.getElem?_eq_some_iff.mp x7.out).1).trans x7.out)
          replace xa := Lib.hid ((hr.block _ (Array.getElem?_eq_some_iff.mp xa.out).1).trans xa.out)
          replace xb := Lib.hid ((hr.block _ (Array.getElem?_eq_some_iff.mp xb.out).1).trans xb.out)
          replace xc9 := Lib.hid ((hr.block _ (Array.getElem?_eq_some_iff.mp xc9.out).1).trans xc9.out)
          replace xg := Lib.hid ((hr.block _ (Array.getElem?_eq_some_iff.mp xg.out).1).trans xg.out)
          replace hW2 := Lib.hid (hW2.out.trans hr)
          replace hfr := Lib.hid (hfr.out.trans hr)
          clear hr
          try simp only [Act.put, List.setIfInBounds_toArray, List.set_cons_zero, List.set_cons_succ]
          refine wpR_take (i := 21) (v := ?_) (Gr.road) (some 114) rfl (by kernel_rfl) (by kernel_rfl) (by kernel_rfl) (by kernel_rfl) (by kernel_rfl) (fun _ _ _ h => h) (by kernel_rfl) (fun w' hw' => ?_) ?_
          rotate_left
          · go_simp; with_reducible rfl
          simp only [Act.put, List.setIfInBounds_toArray, List.set_cons_zero, List.set_cons_succ]
          refine wpR_take (i := 22) (v := ?_) (Gr.road) (some 115) rfl (by kernel_rfl) (by kernel_rfl) (by kernel_rfl) (by kernel_rfl) (by kernel_rfl) (fun _ _ _ h => h) (by kernel_rfl) (fun w' hw' => ?_) ?_
          rotate_left
          · go_simp; with_reducible rfl
          simp only [Act.put, List.setIfInBounds_toArray, List.set_cons_zero, List.set_cons_succ]
          refine wpR_take (i := 23) (v := ?_) (Gr.road) (some 116) rfl (by kernel_rfl) (by kernel_rfl) (by kernel_rfl) (by kernel_rfl) (by kernel_rfl) (fun _ _ _ h => h) (by kernel_rfl) (fun w' hw' => ?_) ?_
          rotate_left
          · go_simp; with_reducible rfl
          simp only [Act.put, List.setIfInBounds_toArray, List.set_cons_zero, List.set_cons_succ]
          refine wpR_take (i := 24) (v := ?_) (Gr.road) (some 117) rfl (by kernel_rfl) (by kernel_rfl) (by kernel_rfl) (by kernel_rfl) (by kernel_rfl) (fun _ _ _ h => h) (by kernel_rfl) (fun w' hw' => ?_) ?_
          rotate_left
          · have y9 := (hw'.block _ (Array.getElem?_eq_some_iff.mp xa.out).1).trans xa.out; have c0 := blk_cell (j := 0) y9 rfl; have c1 := blk_cell (j := 1) y9 rfl; have c2 := blk_cell (j := 2) y9 rfl; have c3 := blk_cell (j := 3) y9 rfl; have c4 := blk_cell (j := 4) y9 rfl; clear y9; go_simp; with_reducible rfl
          simp only [Act.put, List.setIfInBounds_toArray, List.set_cons_zero, List.set_cons_succ]
          refine wpR_take (i := 25) (v := ?_) (Gr.road) (some 118) rfl (by kernel_rfl) (by kernel_rfl) (by kernel_rfl) (by kernel_rfl) (by kernel_rfl) (fun _ _ _ h => h) (by kernel_rfl) (fun w' hw' => ?_) ?_
          rotate_left
          · go_simp; with_reducible rfl
          simp only [Act.put, List.setIfInBounds_toArray, List.set_cons_zero, List.set_cons_succ]
          refine wpR_take (i := 26) (v := ?_) (Gr.road) (some 119) rfl (by kernel_rfl) (by kernel_rfl) (by kernel_rfl) (by kernel_rfl) (by kernel_rfl) (fun _ _ _ h => h) (by kernel_rfl) (fun w' hw' => ?_) ?_
          rotate_left
          · go_simp; with_reducible rfl
          simp only [Act.put, List.setIfInBounds_toArray, List.set_cons_zero, List.set_cons_succ]
          refine wpR_take (i := 27) (v := ?_) (Gr.road) (some 120) rfl (by kernel_rfl) (by kernel_rfl) (by kernel_rfl) (by kernel_rfl) (by kernel_rfl) (fun _ _ _ h => h) (by kernel_rfl) (fun w' hw' => ?_) ?_
          rotate_left
          · go_simp; with_reducible rfl
          simp only [Act.put, List.setIfInBounds_toArray, List.set_cons_zero, List.set_cons_succ]
          refine wpR_take (i := 28) (v := ?_) (Gr.road) (some 121) rfl (by kernel_rfl) (by kernel_rfl) (by kernel_rfl) (by kernel_rfl) (by kernel_rfl) (fun _ _ _ h => h) (by kernel_rfl) (fun w' hw' => ?_) ?_
          rotate_left
          · go_simp; with_reducible rfl
          simp only [Act.put, List.setIfInBounds_toArray, List.set_cons_zero, List.set_cons_succ]
          refine wpR_take (i := 29) (v := ?_) (Gr.road) (some 122) rfl (by kernel_rfl) (by kernel_rfl) (by kernel_rfl) (by kernel_rfl) (by kernel_rfl) (fun _ _ _ h => h) (by kernel_rfl) (fun w' hw' => ?_) ?_
          rotate_left
          · have y9 := hci.out w' (hW2.out.trans hw'); have z0 := y9 0 _ rfl; have z1 := y9 1 _ rfl; have z2 := y9 2 _ rfl; have z3 := y9 3 _ rfl; have z4 := y9 4 _ rfl; have z5 := y9 5 _ rfl; have z6 := y9 6 _ rfl; have z7 := y9 7 _ rfl; have z8 := y9 8 _ rfl; have z9 := y9 9 _ rfl; clear y9; rw [Nat.add_zero] at z0; go_simp; with_reducible rfl
          simp only [Act.put, List.setIfInBounds_toArray, List.set_cons_zero, List.set_cons_succ]
          refine wpR_one 30 rfl (by kernel_rfl) (by kernel_rfl) (fun K hK => ?_)
          go_simp
          refine (k3.out _).mono ?_
          rintro r w8 ⟨rfl, hr⟩
          refine hK _ _ (fun _ => hr) ?_
          clear hK K
          replace x7 := Lib.hid ((hr.block _ (Array.getElem?_eq_some_iff.mp x7.out).1).trans x7.out)
          replace xa := Lib.hid ((hr.block _ (Array.getElem?_eq_some_iff.mp xa.out).1).trans xa.out)
          replace xb := Lib.hid ((hr.block _ (Array.getElem?_eq_some_iff.mp xb.out).1).trans xb.out)
          replace xc9 := Lib.hid ((hr.block _ (Array.getElem?_eq_some_iff.mp xc9.out).1).trans xc9.out)
          replace xg := Lib.hid ((hr.block _ (Array.getElem?_eq_some_iff.mp xg.out).1).trans xg.out)
          replace hW2 := Lib.hid (hW2.out.trans hr)
          replace hfr := Lib.hid (hfr.out.trans hr)
          clear hr
          try simp only [Act.put, List.setIfInBounds_toArray, List.set_cons_zero, List.set_cons_succ]
          refine wpR_take (i := 31) (v := ?_) (Gr.road) (some 124) rfl (by kernel_rfl) (by kernel_rfl) (by kernel_rfl) (by kernel_rfl) (by kernel_rfl) (fun _ _ _ h => h) (by kernel_rfl) (fun w' hw' => ?_) ?_
          rotate_left
          · go_simp; with_reducible rfl
          simp only [Act.put, List.setIfInBounds_toArray, List.set_cons_zero, List.set_cons_succ]
          refine wpR_take (i := 32) (v := ?_) (Gr.road) (some 125) rfl (by kernel_rfl) (by kernel_rfl) (by kernel_rfl) (by kernel_rfl) (by kernel_rfl) (fun _ _ _ h => h) (by kernel_rfl) (fun w' hw' => ?_) ?_
          rotate_left
          · go_simp; with_reducible rfl
          simp only [Act.put, List.setIfInBounds_toArray, List.set_cons_zero, List.set_cons_succ]
          refine wpR_take (i := 33) (v := ?_) (Gr.road) (some 126) rfl (by kernel_rfl) (by kernel_rfl) (by kernel_rfl) (by kernel_rfl) (by kernel_rfl) (fun _ _ _ h => h) (by kernel_rfl) (fun w' hw' => ?_) ?_
          rotate_left
          · go_simp; with_reducible rfl
          simp only [Act.put, List.setIfInBounds_toArray, List.set_cons_zero, List.set_cons_succ]
          refine wpR_take (i := 34) (v := ?_) (Gr.road) (some 127) rfl (by kernel_rfl) (by kernel_rfl) (by kernel_rfl) (by kernel_rfl) (by kernel_rfl) (fun _ _ _ h => h) (by kernel_rfl) (fun w' hw' => ?_) ?_
          rotate_left
          · have y9 := (hw'.block _ (Array.getElem?_eq_some_iff.mp xb.out).1).trans xb.out; have c0 := blk_cell (j := 0) y9 rfl; have c1 := blk_cell (j := 1) y9 rfl; have c2 := blk_cell (j := 2) y9 rfl; have c3 := blk_cell (j := 3) y9 rfl; have c4 := blk_cell (j := 4) y9 rfl; clear y9; go_simp; with_reducible rfl
          simp only [Act.put, List.setIfInBounds_toArray, List.set_cons_zero, List.set_cons_succ]
          refine wpR_take (i := 35) (v := ?_) (Gr.road) (some 128) rfl (by kernel_rfl) (by kernel_rfl) (by kernel_rfl) (by kernel_rfl) (by kernel_rfl) (fun _ _ _ h => h) (by kernel_rfl) (fun w' hw' => ?_) ?_
          rotate_left
          · go_simp; with_reducible rfl
          simp only [Act.put, List.setIfInBounds_toArray, List.set_cons_zero, List.set_cons_succ]
          refine wpR_take (i := 36) (v := ?_) (Gr.road) (some 129) rfl (by kernel_rfl) (by kernel_rfl) (by kernel_rfl) (by kernel_rfl) (by kernel_rfl) (fun _ _ _ h => h) (by kernel_rfl) (fun w' hw' => ?_) ?_
          rotate_left
          · go_simp; with_reducible rfl
          simp only [Act.put, List.setIfInBounds_toArray, List.set_cons_zero, List.set_cons_succ]
          refine wpR_take (i := 37) (v := ?_) (Gr.road) (some 130) rfl (by kernel_rfl) (by kernel_rfl) (by kernel_rfl) (by kernel_rfl) (by kernel_rfl) (fun _ _ _ h => h) (by kernel_rfl) (fun w' hw' => ?_) ?_
          rotate_left
          · go_simp; with_reducible rfl
          simp only [Act.put, List.setIfInBounds_toArray, List.set_cons_zero, List.set_cons_succ]
          refine wpR_take (i := 38) (v := ?_) (Gr.road) (some 131) rfl (by kernel_rfl) (by kernel_rfl) (by kernel_rfl) (by kernel_rfl) (by kernel_rfl) (fun _ _ _ h => h) (by kernel_rfl) (fun w' hw' => ?_) ?_
          rotate_left
          · go_simp; with_reducible rfl
          simp only [Act.put, List.setIfInBounds_toArray, List.set_cons_zero, List.set_cons_succ]
          refine wpR_take (i := 39) (v := ?_) (Gr.road) (some 132) rfl (by kernel_rfl) (by kernel_rfl) (by kernel_rfl) (by kernel_rfl) (by kernel_rfl) (fun _ _ _ h => h) (by kernel_rfl) (fun w' hw' => ?_) ?_
          rotate_left
          · have y9 := hci.out w' (hW2.out.trans hw'); have z0 := y9 0 _ rfl; have z1 := y9 1 _ rfl; have z2 := y9 2 _ rfl; have z3 := y9 3 _ rfl; have z4 := y9 4 _ rfl; have z5 := y9 5 _ rfl; have z6 := y9 6 _ rfl; have z7 := y9 7 _ rfl; have z8 := y9 8 _ rfl; have z9 := y9 9 _ rfl; clear y9; rw [Nat.add_zero] at z0; go_simp; with_reducible rfl
          simp only [Act.put, List.setIfInBounds_toArray, List.set_cons_zero, List.set_cons_succ]
          refine wpR_one 40 rfl (by kernel_rfl) (by kernel_rfl) (fun K hK => ?_)
          go_simp
          refine (k4.out _).mono ?_
          rintro r w9 ⟨rfl, hr⟩
          refine hK _ _ (fun _ => hr) ?_
          clear hK K
          replace x7 := Lib.hid ((hr.block _ (Array.getElem?_eq_some_iff.mp x7.out).1).trans x7.out)
          replace xa := Lib.hid ((hr.block _ (Array.getElem?_eq_some_iff.mp xa.out).1).trans xa.out)
          replace xb := Lib.hid ((hr.block _ (Array.getElem?_eq_some_iff.mp xb.out).1).trans xb.out)
          replace xc9 := Lib.hid ((hr.block _ (Array.getElem?_eq_some_iff.mp xc9.out).1).trans xc9.out)
          replace xg := Lib.hid ((hr.block _ (Array.getElem?_eq_some_iff.mp xg.out).1).trans xg.out)
          replace hW2 := Lib.hid (hW2.out.trans hr)
          replace hfr := Lib.hid (hfr.out.trans hr)
          clear hr
          try simp only [Act.put, List.setIfInBounds_toArray, List.set_cons_zero, List.set_cons_succ]
          refine wpR_take (i := 41) (v := ?_) (Gr.road) (some 134) rfl (by kernel_rfl) (by kernel_rfl) (by kernel_rfl) (by kernel_rfl) (by kernel_rfl) (fun _ _ _ h => h) (by kernel_rfl) (fun w' hw' => ?_) ?_
          rotate_left
          · go_simp; with_reducible rfl
          simp only [Act.put, List.setIfInBounds_toArray, List.set_cons_zero, List.set_cons_succ]
          refine wpR_take (i := 42) (v := ?_) (Gr.road) (some 135) rfl (by kernel_rfl) (by kernel_rfl) (by kernel_rfl) (by kernel_rfl) (by kernel_rfl) (fun _ _ _ h => h) (by kernel_rfl) (fun w' hw' => ?_) ?_
          rotate_left
          · go_simp; with_reducible rfl
          simp only [Act.put, List.setIfInBounds_toArray, List.set_cons_zero, List.set_cons_succ]
          refine wpR_take (i := 43) (v := ?_) (Gr.road) (some 136) rfl (by kernel_rfl) (by kernel_rfl) (by kernel_rfl) (by kernel_rfl) (by kernel_rfl) (fun _ _ _ h => h) (by kernel_rfl) (fun w' hw' => ?_) ?_
          rotate_left
          · go_simp; with_reducible rfl
          simp only [Act.put, List.setIfInBounds_toArray, List.set_cons_zero, List.set_cons_succ]
          refine wpR_take (i := 44) (v := ?_) (Gr.road) (some 137) rfl (by kernel_rfl) (by kernel_rfl) (by kernel_rfl) (by kernel_rfl) (by kernel_rfl) (fun _ _ _ h => h) (by kernel_rfl) (fun w' hw' => ?_) ?_
          rotate_left
          · have y9 := (hw'.block _ (Array.getElem?_eq_some_iff.mp xc9.out).1).trans xc9.out; have c0 := blk_cell (j := 0) y9 rfl; have c1 := blk_cell (j := 1) y9 rfl; have c2 := blk_cell (j := 2) y9 rfl; have c3 := blk_cell (j := 3) y9 rfl; have c4 := blk_cell (j := 4) y9 rfl; clear y9; go_simp; with_reducible rfl
          simp only [Act.put, List.setIfInBounds_toArray, List.set_cons_zero, List.set_cons_succ]
          refine wpR_take (i := 45) (v := ?_) (Gr.road) (some 138) rfl (by kernel_rfl) (by kernel_rfl) (by kernel_rfl) (by kernel_rfl) (by kernel_rfl) (fun _ _ _ h => h) (by kernel_rfl) (fun w' hw' => ?_) ?_
          rotate_left
          · go_simp; with_reducible rfl
          simp only [Act.put, List.setIfInBounds_toArray, List.set_cons_zero, List.set_cons_succ]
          refine wpR_take (i := 46) (v := ?_) (Gr.road) (some 139) rfl (by kernel_rfl) (by kernel_rfl) (by kernel_rfl) (by kernel_rfl) (by kernel_rfl) (fun _ _ _ h => h) (by kernel_rfl) (fun w' hw' => ?_) ?_
          rotate_left
          · go_simp; with_reducible rfl
          simp only [Act.put, List.setIfInBounds_toArray, List.set_cons_zero, List.set_cons_succ]
          refine wpR_take (i := 47) (v := ?_) (Gr.road) (some 140) rfl (by kernel_rfl) (by kernel_rfl) (by kernel_rfl) (by kernel_rfl) (by kernel_rfl) (fun _ _ _ h => h) (by kernel_rfl) (fun w' hw' => ?_) ?_
          rotate_left
          · go_simp; with_reducible rfl
          simp only [Act.put, List.setIfInBounds_toArray, List.set_cons_zero, List.set_cons_succ]
          refine wpR_take (i := 48) (v := ?_) (Gr.road) (some 141) rfl (by kernel_rfl) (by kernel_rfl) (by kernel_rfl) (by kernel_rfl) (by kernel_rfl) (fun _ _ _ h => h) (by kernel_rfl) (fun w' hw' => ?_) ?_
          rotate_left
          · go_simp; with_reducible rfl
          simp only [Act.put, List.setIfInBounds_toArray, List.set_cons_zero, List.set_cons_succ]
          refine wpR_take (i := 49) (v := ?_) (Gr.road) (some 142) rfl (by kernel_rfl) (by kernel_rfl) (by kernel_rfl) (by kernel_rfl) (by kernel_rfl) (fun _ _ _ h => h) (by kernel_rfl) (fun w' hw' => ?_) ?_
          rotate_left
          · have y9 := hci.out w' (hW2.out.trans hw'); have z0 := y9 0 _ rfl; have z1 := y9 1 _ rfl; have z2 := y9 2 _ rfl; have z3 := y9 3 _ rfl; have z4 := y9 4 _ rfl; have z5 := y9 5 _ rfl; have z6 := y9 6 _ rfl; have z7 := y9 7 _ rfl; have z8 := y9 8 _ rfl; have z9 := y9 9 _ rfl; clear y9; rw [Nat.add_zero] at z0; go_simp; with_reducible rfl
          simp only [Act.put, List.setIfInBounds_toArray, List.set_cons_zero, List.set_cons_succ]
          refine wpR_one 50 rfl (by kernel_rfl) (by kernel_rfl) (fun K hK => ?_)
          go_simp
          refine (k5.out _).mono ?_
          rintro r w10 ⟨rfl, hr⟩
          refine hK _ _ (fun _ => hr) ?_
          clear hK K
          replace x7 := Lib.hid ((hr.block _ (Array.getElem?_eq_some_iff.mp x7.out).1).trans x7.out)
          replace xa := Lib.hid ((hr.block _ (Array.getElem?_eq_some_iff.mp xa.out).1).trans xa.out)
          replace xb := Lib.hid ((hr.block _ (Array.getElem?_eq_some_iff.mp xb.out).1).trans xb.out)
          replace xc9 := Lib.hid ((hr.block _ (Array.getElem?_eq_some_iff.mp xc9.out).1).trans xc9.out)
          replace xg := Lib.hid ((hr.block _ (Array.getElem?_eq_some_iff.mp xg.out).1).trans xg.out)
          replace hW2 := Lib.hid (hW2.out.trans hr)
          replace hfr := Lib.hid (hfr.out.trans hr)
          clear hr
          try simp only [Act.put, List.setIfInBounds_toArray, List.set_cons_zero, List.set_cons_succ]
          refine wpR_take (i := 51) (v := ?_) (Gr.road) (some 144) rfl (by kernel_rfl) (by kernel_rfl) (by kernel_rfl) (by kernel_rfl) (by kernel_rfl) (fun _ _ _ h => h) (by kernel_rfl) (fun w' hw' => ?_) ?_
          rotate_left
          · go_simp; with_reducible rfl
          simp only [Act.put, List.setIfInBounds_toArray, List.set_cons_zero, List.set_cons_succ]
          refine wpR_take (i := 52) (v := ?_) (Gr.road) (some 145) rfl (by kernel_rfl) (by kernel_rfl) (by kernel_rfl) (by kernel_rfl) (by kernel_rfl) (fun _ _ _ h => h) (by kernel_rfl) (fun w' hw' => ?_) ?_
          rotate_left
          · go_simp; with_reducible rfl
          simp only [Act.put, List.setIfInBounds_toArray, List.set_cons_zero, List.set_cons_succ]
          refine wpR_take (i := 53) (v := ?_) (Gr.road) (some 146) rfl (by kernel_rfl) (by kernel_rfl) (by kernel_rfl) (by kernel_rfl) (by kernel_rfl) (fun _ _ _ h => h) (by kernel_rfl) (fun w' hw' => ?_) ?_
          rotate_left
          · go_simp; with_reducible rfl
          simp only [Act.put, List.setIfInBounds_toArray, List.set_cons_zero, List.set_cons_succ]
          refine wpR_take (i := 54) (v := ?_) (Gr.road) (some 147) rfl (by kernel_rfl) (by kernel_rfl) (by kernel_rfl) (by kernel_rfl) (by kernel_rfl) (fun _ _ _ h => h) (by kernel_rfl) (fun w' hw' => ?_) ?_
          rotate_left
          · have y9 := (hw'.block _ (Array.getElem?_eq_some_iff.mp xg.out).1).trans xg.out; have c0 := blk_cell (j := 0) y9 rfl; have c1 := blk_cell (j := 1) y9 rfl; have c2 := blk_cell (j := 2) y9 rfl; have c3 := blk_cell (j := 3) y9 rfl; have c4 := blk_cell (j := 4) y9 rfl; clear y9; go_simp; with_reducible rfl
          simp only [Act.put, List.setIfInBounds_toArray, List.set_cons_zero, List.set_cons_succ]
          refine wpR_take (i := 55) (v := ?_) (Gr.road) (some 148) rfl (by kernel_rfl) (by kernel_rfl) (by kernel_rfl) (by kernel_rfl) (by kernel_rfl) (fun _ _ _ h => h) (by kernel_rfl) (fun w' hw' => ?_) ?_
          rotate_left
          · go_simp; with_reducible rfl
          simp only [Act.put, List.setIfInBounds_toArray, List.set_cons_zero, List.set_cons_succ]
          refine wpR_take (i := 56) (v := ?_) (Gr.road) (some 149) rfl (by kernel_rfl) (by kernel_rfl) (by kernel_rfl) (by kernel_rfl) (by kernel_rfl) (fun _ _ _ h => h) (by kernel_rfl) (fun w' hw' => ?_) ?_
          rotate_left
          · go_simp; with_reducible rfl
          simp only [Act.put, List.setIfInBounds_toArray, List.set_cons_zero, List.set_cons_succ]
          refine wpR_take (i := 57) (v := ?_) (Gr.road) (some 150) rfl (by kernel_rfl) (by kernel_rfl) (by kernel_rfl) (by kernel_rfl) (by kernel_rfl) (fun _ _ _ h => h) (by kernel_rfl) (fun w' hw' => ?_) ?_
          rotate_left
          · go_simp; with_reducible rfl
          simp only [Act.put, List.setIfInBounds_toArray, List.set_cons_zero, List.set_cons_succ]
          refine wpR_take (i := 58) (v := ?_) (Gr.road) (some 151) rfl (by kernel_rfl) (by kernel_rfl) (by kernel_rfl) (by kernel_rfl) (by kernel_rfl) (fun _ _ _ h => h) (by kernel_rfl) (fun w' hw' => ?_) ?_
          rotate_left
          · go_simp; with_reducible rfl
          simp only [Act.put, List.setIfInBounds_toArray, List.set_cons_zero, List.set_cons_succ]
          refine wpR_take (i := 59) (v := ?_) (Gr.road) (some 152) rfl (by kernel_rfl) (by kernel_rfl) (by kernel_rfl) (by kernel_rfl) (by kernel_rfl) (fun _ _ _ h => h) (by kernel_rfl) (fun w' hw' => ?_) ?_
          rotate_left
          · have y9 := hci.out w' (hW2.out.trans hw'); have z0 := y9 0 _ rfl; have z1 := y9 1 _ rfl; have z2 := y9 2 _ rfl; have z3 := y9 3 _ rfl; have z4 := y9 4 _ rfl; have z5 := y9 5 _ rfl; have z6 := y9 6 _ rfl; have z7 := y9 7 _ rfl; have z8 := y9 8 _ rfl; have z9 := y9 9 _ rfl; clear y9; rw [Nat.add_zero] at z0; go_simp; with_reducible rfl
          simp only [Act.put, List.setIfInBounds_toArray, List.set_cons_zero, List.set_cons_succ]
          refine wpR_one 60 rfl (by kernel_rfl) (by kernel_rfl) (fun K hK => ?_)
          go_simp
          refine (k6.out _).mono ?_
          rintro r w11 ⟨rfl, hr⟩
          refine hK _ _ (fun _ => hr) ?_
          clear hK K
          replace x7 := Lib.hid ((hr.block _ (Array.getElem?_eq_some_iff.mp x7.out).1).trans x7.out)
          replace xa := Lib.hid ((hr.block _ (Array.getElem?_eq_some_iff.mp xa.out).1).trans xa.out)
          replace xb := Lib.hid ((hr.block _ (Array.getElem?_eq_some_iff.mp xb.out).1).trans xb.out)
          replace xc9 := Lib.hid ((hr.block _ (Array.getElem?_eq_some_iff.mp xc9.out).1).trans xc9.out)
          replace xg := Lib.hid ((hr.block _ (Array.getElem?_eq_some_iff.mp xg.out).1).trans xg.out)
          replace hW2 := Lib.hid (hW2.out.trans hr)
          replace hfr := Lib.hid (hfr.out.trans hr)
          clear hr
          try simp only [Act.put, List.setIfInBounds_toArray, List.set_cons_zero, List.set_cons_succ]
          refine wpR_take (i := 61) (v := ?_) (Gr.road) (some 154) rfl (by kernel_rfl) (by kernel_rfl) (by kernel_rfl) (by kernel_rfl) (by kernel_rfl) (fun _ _ _ h => h) (by kernel_rfl) (fun w' hw' => ?_) ?_
          rotate_left
          · go_simp; with_reducible rfl
          simp only [Act.put, List.setIfInBounds_toArray, List.set_cons_zero, List.set_cons_succ]
          refine wpR_take (i := 62) (v := ?_) (Gr.road) (some 155) rfl (by kernel_rfl) (by kernel_rfl) (by kernel_rfl) (by kernel_rfl) (by kernel_rfl) (fun _ _ _ h => h) (by kernel_rfl) (fun w' hw' => ?_) ?_
          rotate_left
          · go_simp; with_reducible rfl
          simp only [Act.put, List.setIfInBounds_toArray, List.set_cons_zero, List.set_cons_succ]
          refine wpR_take (i := 63) (v := ?_) (Gr.road) (some 10) rfl (by kernel_rfl) (by kernel_rfl) (by kernel_rfl) (by kernel_rfl) (by kernel_rfl) (fun _ _ _ h => h) (by kernel_rfl) (fun w' hw' => ?_) ?_
          rotate_left
          · go_simp; with_reducible rfl
          simp only [Act.put, List.setIfInBounds_toArray, List.set_cons_zero, List.set_cons_succ]
          refine wpR_done (by kernel_rfl) ?_ _
          go_wp2_with fail
          go_ret
          exact ⟨rfl, hfr.out⟩
  · obtain ⟨hg2, ⟨hyes, -⟩ | ⟨hno, rfl⟩⟩ := hpost
    · exact absurd hyes hk
    have hor : (key.length : Int) < 1 ∨ (¬ ((key.length : Int) < 1) ∧ (16 : Int) < (key.length : Int)) := by
      unfold nameOk inB at hk
      simp at hk
      omega
    have hg2' := Lib.hid (hg1.out.trans hg2)
    replace hk := Lib.hid hk
    replace hno := Lib.hid hno
    clear hg2
    rcases hor with h1 | ⟨h1, h2⟩
    all_goals
      go_wp2_with fail
      refine (awake19_any _).mono ?_
      rintro e w5 ⟨rfl, hg5⟩
      have hfin := Lib.hid (hg2'.out.trans hg5)
      clear hg5
      go_wp2_with fail
      go_ret
      exact ⟨rfl, hfin.out⟩
end Go.Proofs.Ytdgkcgiknfjpjaa
