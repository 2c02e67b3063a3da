/- The law of blob: the records of any blob. -/
import Derived.Test.YtdgkcgiknfjpjaaBl12
namespace Go.Proofs.Ytdgkcgiknfjpjaa
set_option linter.unusedVariables false
set_option linter.unusedSimpArgs false
open Go Go.RowKit
/-- whether it may be -/
def okX (p : Rp) : Bool := decide (p.l.length ≤ 512) && nameOk p.key p.gen
def cdX (p : Rp) : Int := cond (okX p) 0 12
def recsX (p : Rp) : List Rc := cond (okX p) (recsP p) []
def RecX (p : Rp) (w : World) (e : Ending) (w' : World) : Prop := ∃ u E, e = .returned (.tuple #[u, .int .i64 (cdX p)]) ∧ E.map (·.r) = recsX p ∧ OR E u w.heap.size w' ∧ Gr w w'
theorem recX_of {p : Rp} {w : World} (h5 : p.l.length ≤ 512) (e : Ending) (w' : World) (h : BRecPost p w e w') : RecX p w e w' := by
  obtain ⟨hg, ⟨hok, u, E, rfl, hE, hR⟩ | ⟨hno, rfl⟩⟩ := h
  · have ho : okX p = true := by unfold okX; rw [hok, decide_eq_true h5]; rfl
    exact ⟨u, E, by unfold cdX; rw [ho]; rfl, by unfold recsX; rw [ho]; exact hE, hR, hg⟩
  · have ho : okX p = false := by unfold okX; rw [hno, Bool.and_false]
    exact ⟨_, [], by unfold cdX; rw [ho]; rfl, by unfold recsX; rw [ho]; rfl, OR.nil_ w' _, hg⟩
theorem recX_over {p : Rp} {w : World} (h5 : ¬ p.l.length ≤ 512) (e : Ending) (w' : World) (h : e = .returned (.tuple #[.slice none 0 0, .int .i64 12]) ∧ w' = w) : RecX p w e w' := by
  obtain ⟨rfl, rfl⟩ := h
  have ho : okX p = false := by unfold okX; rw [decide_eq_false h5]; rfl
  exact ⟨_, [], by unfold cdX; rw [ho]; rfl, by unfold recsX; rw [ho]; rfl, OR.nil_ w' _, Below.refl _ _⟩
theorem brecX (key : List UInt8) (gen : Int) (hkl : key.length ≤ maxLen) (hgen : R64 gen) (A : Option Addr) (n c : Nat) (l : List UInt8) (hn : l.length = n) (w : World) (hr : Rd w w.heap.size A l) :
    Calls Try.prog 21 #[.string (bs key), .int .i64 gen, .slice A n c] w (RecX ⟨key, gen, l, ngrp n⟩ w) := by
  by_cases h5 : n ≤ 512
  · exact (brec_any key gen hkl hgen A n c l hn h5 w hr).mono (recX_of (by show l.length ≤ 512; omega))
  · exact (brec_over key gen A n c (by omega) w).mono (recX_over (by show ¬ l.length ≤ 512; omega))
theorem rrecX (key : List UInt8) (gen : Int) (hkl : key.length ≤ maxLen) (hgen : R64 gen) (A : Option Addr) (n c : Nat) (l : List UInt8) (hn : l.length = n) (hnc : n ≤ c) (w : World) (hr : Rd w w.heap.size A l) :
    Calls Try.prog 22 #[.string (bs key), .int .i64 gen, .slice A n c] w (RecX ⟨key, gen, l, ngrp n⟩ w) := by
  by_cases h5 : n ≤ 512
  · exact (rrec_any key gen hkl hgen A n c l hn hnc h5 w hr).mono (recX_of (by show l.length ≤ 512; omega))
  · exact (rrec_over key gen A n c (by omega) w).mono (recX_over (by show ¬ l.length ≤ 512; omega))
/-- a record of a row -/
theorem OR.get {E : List Re} {A0 : Option Addr} {n0 c0 base : Nat} {w : World} (h : OR E (.slice A0 n0 c0) base w) {i : Nat} (hi : i < E.length) : ∃ (b o : Nat) (xr : Rc) (xA : Option Addr) (xc : Nat), A0 = some ⟨b, o, none⟩ ∧ (E.map (·.r))[i]? = some xr ∧ Rd w w.heap.size xA xr.data ∧ b < w.heap.size ∧
    ∀ w', Gr w w' → w'.cell? ⟨b, o + i * 10, none⟩ = some (.int .i64 xr.kind) ∧ w'.cell? ⟨b, o + i * 10 + 1, none⟩ = some (.int .i64 xr.cart) ∧ w'.cell? ⟨b, o + i * 10 + 2, none⟩ = some (.string (bs xr.key)) ∧ w'.cell? ⟨b, o + i * 10 + 3, none⟩ = some (.int .i64 xr.gen) ∧ w'.cell? ⟨b, o + i * 10 + 4, none⟩ = some (.int .i64 xr.group) ∧ w'.cell? ⟨b, o + i * 10 + 5, none⟩ = some (.int .i64 xr.groups) ∧ w'.cell? ⟨b, o + i * 10 + 6, none⟩ = some (.int .i64 xr.index) ∧ w'.cell? ⟨b, o + i * 10 + 7, none⟩ = some (.int .i64 xr.size) ∧ w'.cell? ⟨b, o + i * 10 + 8, none⟩ = some (.string (bs xr.sum)) ∧ w'.cell? ⟨b, o + i * 10 + 9, none⟩ = some (.slice xA xr.data.length xc) := by
  obtain ⟨g, c, e, -, -, -, hb, -, -, hc, -⟩ := row_at h.row (by omega)
  injection e with e1 e2 e3
  subst e1
  have hx := List.getElem?_eq_getElem hi
  obtain ⟨⟨xr, xA, xc⟩, hxx⟩ : ∃ x, E[i] = x := ⟨_, rfl⟩
  rw [hxx] at hx
  refine ⟨g, 0, xr, xA, xc, rfl, by rw [List.getElem?_map, hx]; rfl, (h.vs _ (List.mem_of_getElem? hx)).2.2, hb, fun w' hw' => ?_⟩
  have hk := fun (j : Nat) (u : Value) (hj : j < 10) (hu : (Re.cells ⟨xr, xA, xc⟩)[j]? = some u) => (Below.cell hw' (p := ⟨g, i * 10 + j, none⟩) hb).trans (hc (i * 10 + j) u (by rw [flatRe_at hx j hj]; exact hu))
  simp only [Nat.zero_add]
  exact ⟨hk 0 _ (by decide) rfl, hk 1 _ (by decide) rfl, hk 2 _ (by decide) rfl, hk 3 _ (by decide) rfl, hk 4 _ (by decide) rfl, hk 5 _ (by decide) rfl, hk 6 _ (by decide) rfl, hk 7 _ (by decide) rfl, hk 8 _ (by decide) rfl, hk 9 _ (by decide) rfl⟩
set_option maxHeartbeats 8000000 in
set_option maxRecDepth 20000 in
theorem blobRecords_any (key : List UInt8) (hkl : key.length ≤ maxLen) (gen : Int) (hgen : R64 gen) (A : Option Addr) (n c : Nat) (l : List UInt8) (hn : l.length = n) (hnc : n ≤ c) (hcm : c ≤ maxLen) (w : World) (hr : Rd w w.heap.size A l) :
    Calls Try.prog 5 #[.string (bs key), .int .i64 gen, .slice A n c] w fun e w' => e = .returned (.bool true) ∧ Gr w w' := by
  have hsh := Lib.hid (short18_any A n c l 520 (by decide) (by decide) (Lib.hid hn) hnc (by simp only [maxLen] at hcm; omega) w (Lib.hid hr))
  obtain ⟨d, hd⟩ : ∃ d, l.take 520 = d := ⟨_, rfl⟩
  rw [hd] at hsh
  replace hd := Lib.hid hd
  replace hkl := Lib.hid hkl
  replace hgen := Lib.hid hgen
  clear hn hnc hcm hr
  go_enter Try.func5, Try.ntmps5
  go_wp2_with fail
  refine hsh.out.mono ?_
  clear hsh
  rintro e w1 ⟨A1, n1, c1, rfl, ho1, hn1, hg1⟩
  obtain ⟨Ax, cx, ex, hnc1, -, -, -⟩ := ho1.out.form
  injection ex with ex1 ex2 ex3
  rw [hn1.out, ← ex3] at hnc1
  clear ex1 ex2 ex3
  have hs := Lib.hid (brecX key gen hkl.out hgen.out A1 n1 c1 d hn1.out w1 ho1.out.rd.1)
  replace hg1 := Lib.hid hg1
  replace hnc1 := Lib.hid hnc1
  go_wp2_with fail
  refine hs.out.mono ?_
  clear hs
  rintro e w2 ⟨u, E, rfl, hE, hR, hg2⟩
  have ho2 : OB w2 w.heap.size (.slice A1 n1 c1) d := row_below ho1.out hg2
  have hs := Lib.hid (rrecX key gen hkl.out hgen.out A1 n1 c1 d hn1.out hnc1.out w2 ho2.rd.1)
  obtain ⟨R, hRR⟩ : ∃ R, recsX ⟨key, gen, d, ngrp n1⟩ = R := ⟨_, rfl⟩
  obtain ⟨z, hz⟩ : ∃ z, cdX ⟨key, gen, d, ngrp n1⟩ = z := ⟨_, rfl⟩
  obtain ⟨m, hm⟩ : ∃ m, R.length = m := ⟨_, rfl⟩
  rw [hRR] at hE
  have hEl : E.length = m := by rw [← hm, ← hE, List.length_map]
  obtain ⟨Au, cu, rfl, hcu, hcv⟩ := hR.form
  rw [hz]
  rw [hEl] at hR hcu ⊢
  have hmc : (m : Int) ≤ 9223372036854775807 := by
    simp only [maxLen] at hcv
    omega
  have hg2 := Lib.hid (hg1.out.trans hg2)
  replace hR := Lib.hid hR
  replace hE := Lib.hid hE
  replace hRR := Lib.hid hRR
  replace hz := Lib.hid hz
  replace hm := Lib.hid hm
  replace hEl := Lib.hid hEl
  clear ho2 ho1 hg1 hcu hcv
  go_wp2_with fail
  refine hs.out.mono ?_
  clear hs
  rintro e w3 ⟨u, E2, rfl, hE2, hR2, hg3⟩
  rw [hRR.out] at hE2
  have hEl2 : E2.length = m := by rw [← hm.out, ← hE2, List.length_map]
  obtain ⟨Av, cv, rfl, -, -⟩ := hR2.form
  rw [hz.out]
  rw [hEl2] at hR2 ⊢
  replace hR := OR.gr hg3 hR
  replace hR2 := Lib.hid hR2
  replace hE2 := Lib.hid hE2
  replace hEl2 := Lib.hid hEl2
  have hg4 := Lib.hid (hg2.out.trans hg3)
  clear hg3 hg2 hz
  have hzz : (z != z) = false := by simp
  have hmm : ((m : Int) != (m : Int)) = false := by simp
  go_wp2_with fail
  go_loopw [12] (fun j wr => ∃ i : Nat, j = .int .i64 i ∧ i ≤ m ∧ Hid (Gr w3 wr)) (fun j _ => m - (intOf j).toNat)
  case atStart => exact ⟨0, rfl, Nat.zero_le _, Lib.hid (Below.refl _ _)⟩
  case round =>
    obtain ⟨i, rfl, hi, hb⟩ := hrel
    by_cases hlt : i < m
    · have ii : (i : Int) < m := by omega
      obtain ⟨b, o, xr, xA, xc, rfl, hq, hxv, hbl, hcx⟩ := (OR.gr hb.out hR).out.get (i := i) (by rw [hEl.out]; exact hlt)
      obtain ⟨b2, o2, yr, yA, yc, rfl, hq2, hyv, hbl2, hcy⟩ := (OR.gr hb.out hR2).out.get (i := i) (by rw [hEl2.out]; exact hlt)
      have hpq : xr = yr := by
        rw [hE.out] at hq
        rw [hE2.out, hq] at hq2
        injection hq2
      have hsm : sameR xr yr = true := by rw [hpq]; exact decide_eq_true rfl
      have hgd : Gr wr wr.drew := (Below.refl _ _).drew
      obtain ⟨wd, hwd⟩ : ∃ wd, wd = wr.drew := ⟨_, rfl⟩
      rw [← hwd] at hgd
      have hcx' : Hid (∀ w', Gr wd w' → w'.cell? ⟨b, o + i * 10, none⟩ = some (.int .i64 xr.kind) ∧ w'.cell? ⟨b, o + i * 10 + 1, none⟩ = some (.int .i64 xr.cart) ∧ w'.cell? ⟨b, o + i * 10 + 2, none⟩ = some (.string (bs xr.key)) ∧ w'.cell? ⟨b, o + i * 10 + 3, none⟩ = some (.int .i64 xr.gen) ∧ w'.cell? ⟨b, o + i * 10 + 4, none⟩ = some (.int .i64 xr.group) ∧ w'.cell? ⟨b, o + i * 10 + 5, none⟩ = some (.int .i64 xr.groups) ∧ w'.cell? ⟨b, o + i * 10 + 6, none⟩ = some (.int .i64 xr.index) ∧ w'.cell? ⟨b, o + i * 10 + 7, none⟩ = some (.int .i64 xr.size) ∧ w'.cell? ⟨b, o + i * 10 + 8, none⟩ = some (.string (bs xr.sum)) ∧ w'.cell? ⟨b, o + i * 10 + 9, none⟩ = some (.slice xA xr.data.length xc)) := Lib.hid (fun w' hw' => hcx w' (hgd.trans hw'))
      have hcy' : Hid (∀ w', Gr wd w' → w'.cell? ⟨b2, o2 + i * 10, none⟩ = some (.int .i64 yr.kind) ∧ w'.cell? ⟨b2, o2 + i * 10 + 1, none⟩ = some (.int .i64 yr.cart) ∧ w'.cell? ⟨b2, o2 + i * 10 + 2, none⟩ = some (.string (bs yr.key)) ∧ w'.cell? ⟨b2, o2 + i * 10 + 3, none⟩ = some (.int .i64 yr.gen) ∧ w'.cell? ⟨b2, o2 + i * 10 + 4, none⟩ = some (.int .i64 yr.group) ∧ w'.cell? ⟨b2, o2 + i * 10 + 5, none⟩ = some (.int .i64 yr.groups) ∧ w'.cell? ⟨b2, o2 + i * 10 + 6, none⟩ = some (.int .i64 yr.index) ∧ w'.cell? ⟨b2, o2 + i * 10 + 7, none⟩ = some (.int .i64 yr.size) ∧ w'.cell? ⟨b2, o2 + i * 10 + 8, none⟩ = some (.string (bs yr.sum)) ∧ w'.cell? ⟨b2, o2 + i * 10 + 9, none⟩ = some (.slice yA yr.data.length yc)) := Lib.hid (fun w' hw' => hcy w' (hgd.trans hw'))
      have hxd : Hid (Rd wd wd.heap.size xA xr.data) := Lib.hid (hxv.up hgd)
      have hyd : Hid (Rd wd wd.heap.size yA yr.data) := Lib.hid (hyv.up hgd)
      have hb2 : Hid (Gr w3 wd) := Lib.hid (hb.out.trans hgd)
      clear hcx hcy hxv hyv hgd hbl hbl2 hq hq2
      replace hpq := Lib.hid hpq
      replace hsm := Lib.hid hsm
      replace hwd := Lib.hid hwd
      go_upto_region 9 with (fail)
      replace hwd := hwd.out
      refine wpR_region (Gr) 9999 (by kernel_rfl) ?_
      (rw [← hwd]; replace hwd := Lib.hid hwd)
      refine wpR_take (i := 0) (v := ?_) (Gr.road) (some 45) rfl (by kernel_rfl) (by kernel_rfl) (by kernel_rfl) (by kernel_rfl) (by kernel_rfl) (fun _ _ _ h => h) (by kernel_rfl) (fun w' hw' => ?_) ?_
      rotate_left
      · go_simp; with_reducible rfl
      simp only [Act.put, List.setIfInBounds_toArray, List.set_cons_zero, List.set_cons_succ]
      refine wpR_take (i := 1) (v := ?_) (Gr.road) (some 46) rfl (by kernel_rfl) (by kernel_rfl) (by kernel_rfl) (by kernel_rfl) (by kernel_rfl) (fun _ _ _ h => h) (by kernel_rfl) (fun w' hw' => ?_) ?_
      rotate_left
      · go_simp; with_reducible rfl
      simp only [Act.put, List.setIfInBounds_toArray, List.set_cons_zero, List.set_cons_succ]
      refine wpR_take (i := 2) (v := ?_) (Gr.road) (some 47) rfl (by kernel_rfl) (by kernel_rfl) (by kernel_rfl) (by kernel_rfl) (by kernel_rfl) (fun _ _ _ h => h) (by kernel_rfl) (fun w' hw' => ?_) ?_
      rotate_left
      · go_simp; with_reducible rfl
      simp only [Act.put, List.setIfInBounds_toArray, List.set_cons_zero, List.set_cons_succ]
      refine wpR_take (i := 3) (v := ?_) (Gr.road) (some 48) rfl (by kernel_rfl) (by kernel_rfl) (by kernel_rfl) (by kernel_rfl) (by kernel_rfl) (fun _ _ _ h => h) (by kernel_rfl) (fun w' hw' => ?_) ?_
      rotate_left
      · obtain ⟨q0, q1, q2, q3, q4, q5, q6, q7, q8, q9⟩ := hcx'.out w' hw'; go_simp; with_reducible rfl
      simp only [Act.put, List.setIfInBounds_toArray, List.set_cons_zero, List.set_cons_succ]
      refine wpR_take (i := 4) (v := ?_) (Gr.road) (some 49) rfl (by kernel_rfl) (by kernel_rfl) (by kernel_rfl) (by kernel_rfl) (by kernel_rfl) (fun _ _ _ h => h) (by kernel_rfl) (fun w' hw' => ?_) ?_
      rotate_left
      · go_simp; with_reducible rfl
      simp only [Act.put, List.setIfInBounds_toArray, List.set_cons_zero, List.set_cons_succ]
      refine wpR_take (i := 5) (v := ?_) (Gr.road) (some 50) rfl (by kernel_rfl) (by kernel_rfl) (by kernel_rfl) (by kernel_rfl) (by kernel_rfl) (fun _ _ _ h => h) (by kernel_rfl) (fun w' hw' => ?_) ?_
      rotate_left
      · go_simp; with_reducible rfl
      simp only [Act.put, List.setIfInBounds_toArray, List.set_cons_zero, List.set_cons_succ]
      refine wpR_take (i := 6) (v := ?_) (Gr.road) (some 51) rfl (by kernel_rfl) (by kernel_rfl) (by kernel_rfl) (by kernel_rfl) (by kernel_rfl) (fun _ _ _ h => h) (by kernel_rfl) (fun w' hw' => ?_) ?_
      rotate_left
      · go_simp; with_reducible rfl
      simp only [Act.put, List.setIfInBounds_toArray, List.set_cons_zero, List.set_cons_succ]
      refine wpR_take (i := 7) (v := ?_) (Gr.road) (some 52) rfl (by kernel_rfl) (by kernel_rfl) (by kernel_rfl) (by kernel_rfl) (by kernel_rfl) (fun _ _ _ h => h) (by kernel_rfl) (fun w' hw' => ?_) ?_
      rotate_left
      · obtain ⟨q0, q1, q2, q3, q4, q5, q6, q7, q8, q9⟩ := hcy'.out w' hw'; go_simp; with_reducible rfl
      simp only [Act.put, List.setIfInBounds_toArray, List.set_cons_zero, List.set_cons_succ]
      refine wpR_one 8 rfl (by kernel_rfl) (by kernel_rfl) (fun K hK => ?_)
      go_simp
      refine (rsame18_any xr yr _ _ _ _ wd hxd.out hyd.out).mono ?_
      rw [hsm.out]
      rintro e w5 ⟨rfl, hr5⟩
      refine hK _ _ (fun _ => hr5) ?_
      clear hK K
      replace hb2 := Lib.hid (hb2.out.trans hr5)
      clear hr5
      try simp only [Act.put, List.setIfInBounds_toArray, List.set_cons_zero, List.set_cons_succ]
      refine wpR_take (i := 9) (v := ?_) (Gr.road) (some 54) rfl (by kernel_rfl) (by kernel_rfl) (by kernel_rfl) (by kernel_rfl) (by kernel_rfl) (fun _ _ _ h => h) (by kernel_rfl) (fun w' hw' => ?_) ?_
      rotate_left
      · go_simp; with_reducible rfl
      simp only [Act.put, List.setIfInBounds_toArray, List.set_cons_zero, List.set_cons_succ]
      refine wpR_done (by kernel_rfl) ?_ _
      go_wp2_with fail
      go_roundw
      case rel => exact ⟨i + 1, by go_num, by omega, hb2⟩
      case measure => simp [intOf]; omega
    · obtain rfl : i = m := by omega
      clear hlt
      have hfin := Lib.hid (hg4.out.trans hb.out)
      go_wp2_with fail
      refine (awake18_any _).mono ?_
      rintro e w5 ⟨rfl, hg5⟩
      replace hfin := Lib.hid (hfin.out.trans hg5)
      clear hg5
      go_wp2_with fail
      go_ret
      exact ⟨rfl, hfin.out⟩
theorem bs_backR (s : ByteArray) : bs s.data.toList = s := by unfold bs; simp
theorem blobRecords_str (s : ByteArray) (hs : s.size ≤ maxLen) (gen : Int) (hgen : R64 gen) (A : Option Addr) (n c : Nat) (l : List UInt8) (hn : l.length = n) (hnc : n ≤ c) (hcm : c ≤ maxLen) (w : World) (hr : Rd w w.heap.size A l) :
    Calls Try.prog 5 #[.string s, .int .i64 gen, .slice A n c] w fun e w' => e = .returned (.bool true) ∧ Gr w w' := by
  have h := blobRecords_any s.data.toList (by rw [Array.length_toList]; exact hs) gen hgen A n c l hn hnc hcm w hr
  rw [bs_backR] at h
  exact h
end Go.Proofs.Ytdgkcgiknfjpjaa
