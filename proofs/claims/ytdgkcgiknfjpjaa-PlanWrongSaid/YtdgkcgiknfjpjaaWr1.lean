/- The law PlanWrong. -/
import Derived.Test.YtdgkcgiknfjpjaaEn2
import Derived.Deep.CutBlock
import Derived.Deep.DeepCutAuto
namespace Go.Proofs.Ytdgkcgiknfjpjaa
set_option linter.unusedVariables false
set_option linter.unusedSimpArgs false
open Go Go.RowKit
set_option maxHeartbeats 8000000 in
set_option maxRecDepth 20000 in
theorem planWrong_any (A : Option Addr) (n c : Nat) (l : List UInt8) (hn : l.length = n) (hnc : n ≤ c) (hcm : c ≤ maxLen) (z : Int) (hz : R64 z) (su : List UInt8) (w : World) (hr : Rd w w.heap.size A l) :
    Calls Try.prog 11 #[.slice A n c, .int .i64 z, .string (bs su)] w fun e w' => e = .returned (.bool true) ∧ Gr w w' := by
  have hsh := Lib.hid (short19_any A n c l 512 (by decide) (by decide) (Lib.hid hn) hnc (by simp only [maxLen] at hcm; omega) w (Lib.hid hr))
  have hd5 : (l.take 512).length ≤ 512 := by rw [List.length_take]; omega
  obtain ⟨d, hd⟩ : ∃ d, l.take 512 = d := ⟨_, rfl⟩
  rw [hd] at hsh hd5
  replace hd := Lib.hid hd
  clear hn hnc hcm hr
  go_enter Try.func11, Try.ntmps11
  go_wp2_with fail
  refine hsh.out.mono ?_
  clear hsh
  rintro e w1 ⟨A1, n1, cq, rfl, ho1, hn1, hg1⟩
  have hd5n := hd5
  rw [hn1.out] at hd5
  obtain ⟨A1x, c1x, e1x, hc1x, -⟩ := ho1.out.form
  injection e1x with e1a e1b e1c
  subst e1a e1c
  rw [hn1.out] at hc1x
  clear e1b
  obtain ⟨hgq, hq1, hq4, hqn⟩ := ngrp_spec hd5
  obtain ⟨q, hq⟩ : ∃ q, ngrp n1 = q := ⟨_, rfl⟩
  obtain ⟨m, hm⟩ : ∃ m, 10 * q = m := ⟨_, rfl⟩
  have hs := Lib.hid (entry_any A1 n1 cq d hn1.out hc1x hd5 m (by rw [hq, hm]) w1 ho1.out.rd.1)
  rw [hq] at hs hq1 hq4
  have hm60 : m ≤ 60 := by omega
  have hq2 : Hid (ngrp d.length = q) := Lib.hid (by rw [hn1.out, hq])
  replace hd5n := Lib.hid hd5n
  replace hq := Lib.hid hq
  replace hg1 := Lib.hid hg1
  replace hqn := Lib.hid hqn
  replace hgq := Lib.hid hgq
  go_wp2_with fail
  refine hs.out.mono ?_
  clear hs
  rintro e w2 ⟨hg2, PA, pc, lv, sv, E, rfl, hpc, hpm, hE, hvs, hrow⟩
  rw [show (⟨[107], 3, d, q⟩ : Rp).l = d from rfl, hn1.out, show bs (⟨[107], 3, d, q⟩ : Rp).key = { data := #[107] } from rfl, show (⟨[107], 3, d, q⟩ : Rp).gen = 3 from rfl]
  have hEl : E.length = m := by rw [← hm, ← recsP_len ⟨[107], 3, d, q⟩, ← hE, List.length_map]
  have hBS : BlobS d q (fun _ _ => false) (E.map (·.r.data)) := blobS_all hE
  rw [← hEl] at hrow
  have hT := tbl_rows hrow hvs
  obtain ⟨SS, hSS⟩ : ∃ SS, E.map (·.r.data) = SS := ⟨_, rfl⟩
  rw [hSS] at hBS hT
  obtain ⟨sm, hsm⟩ : ∃ sm, dg d = sm := ⟨_, rfl⟩
  rw [hsm]
  have hj0 : joinOk (splD d) (n1 : Int) = true := by rw [← hn1.out]; exact join_spl hd5n.out
  have hv0 : joinV (splD d) (n1 : Int) = d := by rw [← hn1.out]; exact join_back hd5n.out
  have hvd : dg (joinV (splD d) (n1 : Int)) = sm := by rw [hv0, hsm]
  have hnz : R64 (n1 : Int) := ⟨by omega, by omega⟩
  have ho2 : Hid (OB w2 w.heap.size (.slice A1 n1 cq) d) := Lib.hid (row_below ho1.out hg2)
  have hg2' := Lib.hid (hg1.out.trans hg2)
  have x8 := heap_alloc_new w2 (.cells #[.string { data := #[107] }, .int .i64 3, .int .i64 (n1 : Int), .string (bs sm), .slice PA m pc] 55)
  have hr8 := alloc_grB w2 (.cells #[.string { data := #[107] }, .int .i64 3, .int .i64 (n1 : Int), .string (bs sm), .slice PA m pc] 55)
  have hT8 := (Tbl.gr hr8 (Lib.hid hT)).out
  have ho8 := row_below ho2.out hr8
  replace hg2' := Lib.hid (hg2'.out.trans hr8)
  obtain ⟨Sv, hSv⟩ : ∃ Sv, Sv = sv := ⟨_, rfl⟩
  subst hSv
  replace hE := Lib.hid hE
  replace hSS := Lib.hid hSS
  replace hsm := Lib.hid hsm
  replace hEl := Lib.hid hEl
  replace hBS := Lib.hid hBS
  replace hm := Lib.hid hm
  replace hj0 := Lib.hid hj0
  replace hv0 := Lib.hid hv0
  replace hvd := Lib.hid hvd
  replace hrow := Lib.hid hrow
  replace hvs := Lib.hid hvs
  replace hT8 := Lib.hid hT8
  replace ho8 := Lib.hid ho8
  clear hT hg2 ho1 hr8 ho2
  go_upto_region 3 with (fail)
  obtain ⟨g8, hg8⟩ : ∃ g8, w2.heap.size = g8 := ⟨_, rfl⟩
  obtain ⟨w8, hw8⟩ : ∃ w8, w2.alloc (.cells #[.string { data := #[107] }, .int .i64 3, .int .i64 (n1 : Int), .string (bs sm), .slice PA m pc] 55) = w8 := ⟨_, rfl⟩
  rw [hg8] at x8 ⊢
  rw [hw8] at x8 hT8 ho8 hg2' ⊢
  replace hg8 := Lib.hid hg8
  replace hw8 := Lib.hid hw8
  replace x8 := Lib.hid x8
  have c0 := blk_cell (j := 0) x8.out rfl
  have c1 := blk_cell (j := 1) x8.out rfl
  have c2 := blk_cell (j := 2) x8.out rfl
  have c3 := blk_cell (j := 3) x8.out rfl
  have c4 := blk_cell (j := 4) x8.out rfl
  have hwh := Lib.hid (whole_any ⟨[107], 3, (n1 : Int), sm⟩ PA m pc hm60 hnz w8 hT8)
  rw [show bs (⟨[107], 3, (n1 : Int), sm⟩ : En).key = { data := #[107] } from rfl] at hwh
  go_wp2_with fail
  clear c0 c1 c2 c3 c4
  refine hwh.out.mono ?_
  clear hwh
  rintro r w9 hp
  rw [← hm.out] at hp
  rcases whole_blob hd5n.out hq2.out hBS.out (fun t _ => by rw [cntQ_none]; decide) hp with ⟨-, -, hr9, A9, c9, rfl, ho9⟩ | ⟨hbad, -⟩
  rotate_left
  · rcases hbad with hbad | hbad
    · rw [hj0.out] at hbad; cases hbad
    · exact absurd hvd.out hbad
  rw [hv0.out] at ho9 ⊢
  rw [hn1.out] at ho9 ⊢
  clear hp
  replace x8 := Lib.hid ((hr9.block _ (Array.getElem?_eq_some_iff.mp x8.out).1).trans x8.out)
  replace hT8 := Tbl.gr hr9 hT8
  replace ho8 := Lib.hid (row_below ho8.out hr9)
  replace hg2' := Lib.hid (hg2'.out.trans hr9)
  clear hr9
  have cv1 := run_str_at c9 (OB.rd ho9).1 hn1.out
  have cv2 := run_str_at cq (OB.rd ho8.out).1 hn1.out
  have hdd : (d != d) = false := by simp
  replace ho9 := Lib.hid ho9
  go_upto_region 6 with (fail)
  clear cv1 cv2 ho9
  obtain ⟨wd, hwd⟩ : ∃ wd, w9.drew = wd := ⟨_, rfl⟩
  have hgd : Gr w9 wd := by rw [← hwd]; exact Below.drew (Below.refl _ _)
  replace x8 := Lib.hid ((hgd.block _ (Array.getElem?_eq_some_iff.mp x8.out).1).trans x8.out)
  replace hT8 := Tbl.gr hgd hT8
  replace ho8 := Lib.hid (row_below ho8.out hgd)
  replace hg2' := Lib.hid (hg2'.out.trans hgd)
  clear hgd
  have hl8 := blk_lt x8.out
  have hen := Lib.hid (Ens.nil_ (wB := wd) (Below.refl _ wd))
  go_cut [13, 14] (fun va vb wq => ∃ ga gb : Nat, va = .pointer (some ⟨ga, 0, none⟩) ∧ vb = .pointer (some ⟨gb, 0, none⟩) ∧ Hid (Ens wd wq [(ga, #[.string { data := #[107] }, .int .i64 3, .int .i64 (n1 : Int), .string (bs sm), .slice PA m pc]), (gb, #[.string { data := #[107] }, .int .i64 3, .int .i64 (n1 : Int), .string (bs sm), .slice PA m pc])]))
  case first =>
    refine wpR_region (Upd (wd.heap.size ≤ ·)) 9999 (by kernel_rfl) ?_
    (rw [hwd]; replace hwd := Lib.hid hwd)
    refine wpR_take (i := 0) (v := ?_) (Upd.road _) (some 42) rfl (by kernel_rfl) (by kernel_rfl) (by kernel_rfl) (by kernel_rfl) (by kernel_rfl) (fun _ _ _ h => h) (by kernel_rfl) (fun w' hw' => ?_) ?_
    rotate_left
    · have y9 := (hw'.2.2.2.2 g8 hl8 (by omega)).trans x8.out; have c0 := blk_cell (j := 0) y9 rfl; have c1 := blk_cell (j := 1) y9 rfl; have c2 := blk_cell (j := 2) y9 rfl; have c3 := blk_cell (j := 3) y9 rfl; have c4 := blk_cell (j := 4) y9 rfl; clear y9; go_simp; with_reducible rfl
    simp only [Act.put, List.setIfInBounds_toArray, List.set_cons_zero, List.set_cons_succ]
    refine wpR_take (i := 1) (v := ?_) (Upd.road _) (some 43) rfl (by kernel_rfl) (by kernel_rfl) (by kernel_rfl) (by kernel_rfl) (by kernel_rfl) (fun _ _ _ h => h) (by kernel_rfl) (fun w' hw' => ?_) ?_
    rotate_left
    · have y9 := (hw'.2.2.2.2 g8 hl8 (by omega)).trans x8.out; have c0 := blk_cell (j := 0) y9 rfl; have c1 := blk_cell (j := 1) y9 rfl; have c2 := blk_cell (j := 2) y9 rfl; have c3 := blk_cell (j := 3) y9 rfl; have c4 := blk_cell (j := 4) y9 rfl; clear y9; go_simp; with_reducible rfl
    simp only [Act.put, List.setIfInBounds_toArray, List.set_cons_zero, List.set_cons_succ]
    refine wpR_two 2 3 rfl rfl (by kernel_rfl) (by kernel_rfl) (by kernel_rfl) (fun K hK => ?_) (fun K hK => ?_)
    · refine wp_alloc_en hen.out rfl 13 rfl ?_
      intro wa2 ga hup hen2
      refine hK _ _ (fun _ => hup) ?_
      clear hK K
      replace hen := Lib.hid hen2
      clear hup hen2
      try simp only [Act.put, List.setIfInBounds_toArray, List.set_cons_zero, List.set_cons_succ]
      refine wpR_one 3 rfl (by kernel_rfl) (by kernel_rfl) (fun K hK => ?_)
      refine wp_alloc_en hen.out rfl 14 rfl ?_
      intro wa3 gb hup hen2
      refine hK _ _ (fun _ => hup) ?_
      clear hK K
      replace hen := Lib.hid hen2
      clear hup hen2
      try simp only [Act.put, List.setIfInBounds_toArray, List.set_cons_zero, List.set_cons_succ]
      refine wpR_one 4 rfl (by kernel_rfl) (by kernel_rfl) (fun K hK => ?_)
      refine wp_store_en hen.out 1 rfl (.tmp 13) (.tmp 42) rfl rfl rfl _ _ _ _ _ rfl (by simp [Value.oneCell']) ?_
      intro wz4 hup hen2
      refine hK _ _ (fun _ => hup) ?_
      clear hK K
      replace hen := Lib.hid hen2
      clear hup hen2
      try simp only [Act.put, List.setIfInBounds_toArray, List.set_cons_zero, List.set_cons_succ]
      refine wpR_one 5 rfl (by kernel_rfl) (by kernel_rfl) (fun K hK => ?_)
      refine wp_store_en hen.out 0 rfl (.tmp 14) (.tmp 43) rfl rfl rfl _ _ _ _ _ rfl (by simp [Value.oneCell']) ?_
      intro wz5 hup hen2
      refine hK _ _ (fun _ => hup) ?_
      clear hK K
      replace hen := Lib.hid hen2
      clear hup hen2
      try simp only [Act.put, List.setIfInBounds_toArray, List.set_cons_zero, List.set_cons_succ]
      refine wpR_done (by kernel_rfl) ?_ _
      go_wp2_with fail
      go_meet
      exact ⟨ga, gb, rfl, rfl, Lib.hid (hen.out.turn (by simp only [List.set_cons_zero, List.set_cons_succ, List.map_cons, List.map_nil, List.nodup_cons, List.mem_cons, List.not_mem_nil, List.nodup_nil]; intro hnd; simp only [or_false, not_or, not_false_eq_true, and_true] at hnd ⊢; omega) (by simp only [List.set_cons_zero, List.set_cons_succ, List.mem_cons, List.not_mem_nil]; rintro x (rfl | rfl | h) <;> simp_all))⟩
    · refine wp_alloc_en hen.out rfl 14 rfl ?_
      intro wa3 gb hup hen2
      refine hK _ _ (fun _ => hup) ?_
      clear hK K
      replace hen := Lib.hid hen2
      clear hup hen2
      try simp only [Act.put, List.setIfInBounds_toArray, List.set_cons_zero, List.set_cons_succ]
      refine wpR_one 2 rfl (by kernel_rfl) (by kernel_rfl) (fun K hK => ?_)
      refine wp_alloc_en hen.out rfl 13 rfl ?_
      intro wa2 ga hup hen2
      refine hK _ _ (fun _ => hup) ?_
      clear hK K
      replace hen := Lib.hid hen2
      clear hup hen2
      try simp only [Act.put, List.setIfInBounds_toArray, List.set_cons_zero, List.set_cons_succ]
      refine wpR_one 4 rfl (by kernel_rfl) (by kernel_rfl) (fun K hK => ?_)
      refine wp_store_en hen.out 0 rfl (.tmp 13) (.tmp 42) rfl rfl rfl _ _ _ _ _ rfl (by simp [Value.oneCell']) ?_
      intro wz4 hup hen2
      refine hK _ _ (fun _ => hup) ?_
      clear hK K
      replace hen := Lib.hid hen2
      clear hup hen2
      try simp only [Act.put, List.setIfInBounds_toArray, List.set_cons_zero, List.set_cons_succ]
      refine wpR_one 5 rfl (by kernel_rfl) (by kernel_rfl) (fun K hK => ?_)
      refine wp_store_en hen.out 1 rfl (.tmp 14) (.tmp 43) rfl rfl rfl _ _ _ _ _ rfl (by simp [Value.oneCell']) ?_
      intro wz5 hup hen2
      refine hK _ _ (fun _ => hup) ?_
      clear hK K
      replace hen := Lib.hid hen2
      clear hup hen2
      try simp only [Act.put, List.setIfInBounds_toArray, List.set_cons_zero, List.set_cons_succ]
      refine wpR_done (by kernel_rfl) ?_ _
      go_wp2_with fail
      go_meet
      exact ⟨ga, gb, rfl, rfl, Lib.hid (hen.out.turn (by simp only [List.set_cons_zero, List.set_cons_succ, List.map_cons, List.map_nil, List.nodup_cons, List.mem_cons, List.not_mem_nil, List.nodup_nil]; intro hnd; simp only [or_false, not_or, not_false_eq_true, and_true] at hnd ⊢; omega) (by simp only [List.set_cons_zero, List.set_cons_succ, List.mem_cons, List.not_mem_nil]; rintro x (rfl | rfl | h) <;> simp_all))⟩
  case rest =>
    obtain ⟨ga, gb, rfl, rfl, hen⟩ := hcut
    have hbx := hen.out.at_ (i := 0) rfl
    have q0 := blk_cell (j := 3) hbx rfl
    have f0 := blk_free hbx 3
    replace hbx := Lib.hid hbx
    go_upto_region 8 with (fail)
    clear q0 f0 hbx
    replace hen := Lib.hid (hen.out.put (i := 0) rfl 3 (.string (bs su)))
    obtain ⟨wA, hwA⟩ : ∃ x, wc.setCell ⟨ga, 3, none⟩ (.string (bs su)) = x := ⟨_, rfl⟩
    rw [hwA] at hen ⊢
    replace hwA := Lib.hid hwA
    have hbx := hen.out.at_ (i := 1) rfl
    have q0 := blk_cell (j := 2) hbx rfl
    have f0 := blk_free hbx 2
    replace hbx := Lib.hid hbx
    go_upto_region 9 with (fail)
    clear q0 f0 hbx
    replace hen := Lib.hid (hen.out.put (i := 1) rfl 2 (.int .i64 z))
    obtain ⟨wB, hwB⟩ : ∃ x, wA.setCell ⟨gb, 2, none⟩ (.int .i64 z) = x := ⟨_, rfl⟩
    rw [hwB] at hen ⊢
    replace hwB := Lib.hid hwB
    have hgG : Gr wd wB := hen.out.1
    replace x8 := Lib.hid ((hgG.block _ (Array.getElem?_eq_some_iff.mp x8.out).1).trans x8.out)
    replace hT8 := Tbl.gr hgG hT8
    replace ho8 := Lib.hid (row_below ho8.out hgG)
    replace hg2' := Lib.hid (hg2'.out.trans hgG)
    clear hgG
    have xa := Lib.hid (hen.out.at_ (i := 0) rfl)
    have xb := Lib.hid (hen.out.at_ (i := 1) rfl)
    clear hen
    have c0 := blk_cell (j := 0) xa.out rfl
    have c1 := blk_cell (j := 1) xa.out rfl
    have c2 := blk_cell (j := 2) xa.out rfl
    have c3 := blk_cell (j := 3) xa.out rfl
    have c4 := blk_cell (j := 4) xa.out rfl
    have hwh := Lib.hid (whole_any ⟨[107], 3, (n1 : Int), su⟩ PA m pc hm60 hnz wB hT8)
    rw [show bs (⟨[107], 3, (n1 : Int), su⟩ : En).key = { data := #[107] } from rfl] at hwh
    go_wp2_with fail
    clear c0 c1 c2 c3 c4
    refine hwh.out.mono ?_
    clear hwh
    rintro r w10 hp
    rw [← hm.out] at hp
    have hA := whole_blob hd5n.out hq2.out hBS.out (fun t _ => by rw [cntQ_none]; decide) hp
    clear hp
    have hX : ∃ (xx : Int) (dx : List UInt8), WAns wB r w10 xx dx ∧ ((su = sm ∧ xx = 0 ∧ dx = d) ∨ (su ≠ sm ∧ xx = 9 ∧ dx = [])) := by
      rcases hA with ⟨h1, h2, h3⟩ | ⟨h1, h3⟩
      · rw [hv0.out] at h3
        exact ⟨_, _, h3, .inl ⟨by rw [← hvd.out]; exact h2.symm, rfl, rfl⟩⟩
      · refine ⟨_, _, h3, .inr ⟨fun e => ?_, rfl, rfl⟩⟩
        rcases h1 with h1 | h1
        · rw [hj0.out] at h1; cases h1
        · exact h1 (by rw [hvd.out, e])
    obtain ⟨xx, dx, ⟨hr10, A10, c10, rfl, ho10⟩, hxx⟩ := hX
    clear hA
    replace x8 := Lib.hid ((hr10.block _ (Array.getElem?_eq_some_iff.mp x8.out).1).trans x8.out)
    replace xa := Lib.hid ((hr10.block _ (Array.getElem?_eq_some_iff.mp xa.out).1).trans xa.out)
    replace xb := Lib.hid ((hr10.block _ (Array.getElem?_eq_some_iff.mp xb.out).1).trans xb.out)
    replace hT8 := Tbl.gr hr10 hT8
    replace ho8 := Lib.hid (row_below ho8.out hr10)
    replace hg2' := Lib.hid (hg2'.out.trans hr10)
    have ho10w := Lib.hid ho10
    clear hr10 ho10
    obtain ⟨N10, hN10⟩ : ∃ N, dx.length = N := ⟨_, rfl⟩
    rw [hN10] at ho10w ⊢
    replace hN10 := Lib.hid hN10
    have c0 := blk_cell (j := 0) xb.out rfl
    have c1 := blk_cell (j := 1) xb.out rfl
    have c2 := blk_cell (j := 2) xb.out rfl
    have c3 := blk_cell (j := 3) xb.out rfl
    have c4 := blk_cell (j := 4) xb.out rfl
    have hwh := Lib.hid (whole_any ⟨[107], 3, z, sm⟩ PA m pc hm60 hz w10 hT8)
    rw [show bs (⟨[107], 3, z, sm⟩ : En).key = { data := #[107] } from rfl] at hwh
    replace hxx := Lib.hid hxx
    go_wp2_with fail
    clear c0 c1 c2 c3 c4
    refine hwh.out.mono ?_
    clear hwh
    rintro r w11 hp
    rw [← hm.out] at hp
    have hA := whole_blob hd5n.out hq2.out hBS.out (fun t _ => by rw [cntQ_none]; decide) hp
    clear hp
    have hY : ∃ (yy : Int) (ny : Nat) (A11 : Option Addr) (c11 : Nat), r = .returned (.tuple #[.slice A11 ny c11, .int .i64 yy]) ∧ Gr w10 w11 ∧ ((yy = 0 ∧ (ny : Int) = z) ∨ (yy = 9 ∧ ny = 0)) := by
      rcases hA with ⟨h1, h2, h3, A11, c11, e11, -⟩ | ⟨-, h3, A11, c11, e11, -⟩
      · exact ⟨0, _, A11, c11, e11, h3, .inl ⟨rfl, joinV_len h1⟩⟩
      · exact ⟨9, _, A11, c11, e11, h3, .inr ⟨rfl, rfl⟩⟩
    obtain ⟨yy, ny, A11, c11, rfl, hr11, hyy⟩ := hY
    clear hA
    replace x8 := Lib.hid ((hr11.block _ (Array.getElem?_eq_some_iff.mp x8.out).1).trans x8.out)
    replace xa := Lib.hid ((hr11.block _ (Array.getElem?_eq_some_iff.mp xa.out).1).trans xa.out)
    replace xb := Lib.hid ((hr11.block _ (Array.getElem?_eq_some_iff.mp xb.out).1).trans xb.out)
    replace hT8 := Tbl.gr hr11 hT8
    replace ho8 := Lib.hid (row_below ho8.out hr11)
    replace hg2' := Lib.hid (hg2'.out.trans hr11)
    replace ho10w := Lib.hid (row_below ho10w.out hr11)
    clear hr11
    replace hyy := Lib.hid hyy
    have c0 := blk_cell (j := 0) x8.out rfl
    have c1 := blk_cell (j := 1) x8.out rfl
    have c2 := blk_cell (j := 2) x8.out rfl
    have c3 := blk_cell (j := 3) x8.out rfl
    have c4 := blk_cell (j := 4) x8.out rfl
    have cv1 := run_str_at c10 (OB.rd ho10w.out).1 hN10.out
    have cv2 := run_str_at cq (OB.rd ho8.out).1 hn1.out
    have hdd2 : (d != d) = false := by simp
    have hss : (sm == sm) = true := by simp
    have hss2 : (sm != sm) = false := by simp
    rcases hxx.out with ⟨rfl, rfl, rfl⟩ | ⟨hne, rfl, rfl⟩
    · go_upto_region 13 with (fail)
      clear c0 c1 c2 c3 c4 cv1 cv2
      rcases hyy.out with ⟨rfl, rfl⟩ | ⟨rfl, rfl⟩
      all_goals
        go_wp2_with fail
        refine (awake19_any _).mono ?_
        rintro r w12 ⟨rfl, hr12⟩
        replace hg2' := Lib.hid (hg2'.out.trans hr12)
        clear hr12
        go_wp2_with fail
        go_ret
        exact ⟨by first | rfl | simp, hg2'.out⟩
    · have hn1b : (su == sm) = false := by rw [beq_eq_false_iff_ne]; exact hne
      have hn2b : (su != sm) = true := by rw [bne_iff_ne]; exact hne
      have hN0 : N10 = 0 := by rw [← hN10.out]; rfl
      subst hN0
      replace hne := Lib.hid hne
      go_upto_region 13 with (fail)
      clear c0 c1 c2 c3 c4 cv1 cv2
      rcases hyy.out with ⟨rfl, rfl⟩ | ⟨rfl, rfl⟩
      all_goals
        go_wp2_with fail
        refine (awake19_any _).mono ?_
        rintro r w12 ⟨rfl, hr12⟩
        replace hg2' := Lib.hid (hg2'.out.trans hr12)
        clear hr12
        go_wp2_with fail
        go_ret
        exact ⟨by first | rfl | simp, hg2'.out⟩
end Go.Proofs.Ytdgkcgiknfjpjaa
