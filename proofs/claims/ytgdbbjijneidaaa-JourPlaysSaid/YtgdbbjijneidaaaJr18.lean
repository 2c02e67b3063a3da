/- The reference's Scan. -/
import Derived.Test.YtgdbbjijneidaaaJr17
import Derived.Test.YtgdbbjijneidaaaJr13
namespace Go.Proofs.Ytgdbbjijneidaaa
set_option linter.unusedVariables false
set_option linter.unusedSimpArgs false
open Go Go.RowKit
set_option maxHeartbeats 8000000 in
set_option maxRecDepth 20000 in
theorem rscan_at (b : List UInt8) (v : Value) (hl : b.length ≤ 1000000) (w : World) (hy0 : Byt b v w) (hat : 0 < b.length → ∃ g n c, v = .slice (some ⟨g, 0, none⟩) n c) :
    Calls Try.prog 24 #[v] w fun e w' => ∃ u E, e = .returned (.tuple #[u, .int .i64 (scanN b).2]) ∧ E.map (·.n) = (scanN b).1 ∧ ON E u w.heap.size w' ∧ Gr w w' := by
  obtain ⟨N, hN⟩ : ∃ N, w.heap.size = N := ⟨_, rfl⟩
  rw [hN]
  obtain ⟨nb, hnb⟩ : ∃ nb, b.length = nb := ⟨_, rfl⟩
  have h := hy0
  obtain ⟨A, c, rfl, hnc, hcm, hR⟩ := hy0
  have hy0 := h
  have hA : 0 < b.length → ∃ g, A = some ⟨g, 0, none⟩ := fun hp => by
    obtain ⟨g, n, cap, hv⟩ := hat hp
    injection hv with hv
    exact ⟨g, hv⟩
  clear hat
  rw [hnb] at hy0 hl hnc hA ⊢
  obtain ⟨SR, hSR⟩ : ∃ SR, scanN b = SR := ⟨_, rfl⟩
  rw [hSR]
  have hg0 := Gr.alloc w (.cells #[] 25)
  have ho0 : ON [] (.slice (some ⟨w.heap.size, 0, none⟩) 0 0) N (w.alloc (.cells #[] 25)) := ON.empty w N (by omega)
  obtain ⟨w1, hw1⟩ : ∃ w1, w.alloc (.cells #[] 25) = w1 := ⟨_, rfl⟩
  rw [hw1] at hg0 ho0
  rw [hN] at ho0
  have hsc0 : Hid (SR = (([] : List Ne).map (·.n) ++ (scanN (b.drop 0)).1, 0 + (scanN (b.drop 0)).2)) := Lib.hid (by rw [← hSR]; simp)
  replace hg0 := Lib.hid hg0
  replace ho0 := Lib.hid ho0
  have hy := Lib.hid hy0
  replace hnb := Lib.hid hnb
  replace hN := Lib.hid hN
  replace hw1 := Lib.hid hw1
  replace hA := Lib.hid hA
  clear hy0 h hSR hR
  go_enter Try.func24, Try.ntmps24
  go_wp2_with fail
  rw [hN.out, hw1.out]
  clear hw1
  go_loopw [4, 5] (fun nv i wr => ∃ (at_ : Nat) (E : List Ne) (A1 : Option Addr) (m1 c1 : Nat), nv = .slice A1 m1 c1 ∧ i = .int .i64 at_ ∧ at_ ≤ nb ∧ E.length ≤ at_ ∧ Hid (SR = (E.map (·.n) ++ (scanN (b.drop at_)).1, at_ + (scanN (b.drop at_)).2)) ∧ Hid (ON E (.slice A1 m1 c1) N wr) ∧ Hid (Gr w wr)) (fun _ i _ => nb - (intOf i).toNat)
  case atStart => exact ⟨0, [], _, _, _, rfl, rfl, Nat.zero_le _, Nat.zero_le _, hsc0, ho0, hg0⟩
  case round =>
    clear hsc0 ho0 hg0
    obtain ⟨p, E, A1, m1, c1, rfl, rfl, hp, hEp, hsc, ho, hgr⟩ := hrel
    have hNr : N ≤ wr.heap.size := by have := hgr.out.size; rw [hN.out] at this; exact this
    have hdl : (b.drop p).length = nb - p := by rw [List.length_drop, hnb.out]
    by_cases h8 : nb < p + 8
    · have hL : leadN (b.drop p) = none := by unfold leadN; rw [hdl, if_pos (by omega)]
      rw [scanN_none hL] at hsc
      have d1 : ¬ ((8 : Int) ≤ (nb : Int) - (p : Int)) := by omega
      clear hdl hL
      go_wp2_with fail
      go_ret2
      first
        | exact ⟨_, E, by rw [hsc.out]; simp, by rw [hsc.out]; simp, ho.out, hgr.out⟩
        | exact ⟨_, by rw [hsc.out]; simp, E, by rw [hsc.out]; simp, ho.out, hgr.out⟩
        | exact ⟨_, by rw [hsc.out]; simp; rfl, E, by rw [hsc.out]; simp, ho.out, hgr.out⟩
    · obtain ⟨g, rfl⟩ := hA.out (by omega)
      have hyr := (Byt.gr hgr.out hy).out
      obtain ⟨A', c', e', -, -, hRa⟩ := hyr
      injection e' with e1 e2 e3
      subst e1
      clear e2 e3
      obtain ⟨x0, hx0⟩ : ∃ x, b[p]? = some x := ⟨_, List.getElem?_eq_getElem (by rw [hnb.out]; omega)⟩
      obtain ⟨x1, hx1⟩ : ∃ x, b[p + 1]? = some x := ⟨_, List.getElem?_eq_getElem (by rw [hnb.out]; omega)⟩
      obtain ⟨x2, hx2⟩ : ∃ x, b[p + 2]? = some x := ⟨_, List.getElem?_eq_getElem (by rw [hnb.out]; omega)⟩
      obtain ⟨x3, hx3⟩ : ∃ x, b[p + 3]? = some x := ⟨_, List.getElem?_eq_getElem (by rw [hnb.out]; omega)⟩
      obtain ⟨ad, e, -, q0⟩ := hRa.get hx0
      injection e with e
      subst e
      obtain ⟨ad', e, -, q1⟩ := hRa.get hx1
      injection e with e
      subst e
      obtain ⟨ad', e, -, q2⟩ := hRa.get hx2
      injection e with e
      subst e
      obtain ⟨ad', e, -, q3⟩ := hRa.get hx3
      injection e with e
      subst e
      rw [addr0] at q0 q1 q2 q3
      have u0 := x0.toNat_lt
      have u1 := x1.toNat_lt
      have u2 := x2.toNat_lt
      have u3 := x3.toNat_lt
      obtain ⟨y1, hy1⟩ : ∃ y, 256 * x1.toNat = y := ⟨_, rfl⟩
      obtain ⟨z1, hz1⟩ : ∃ z, x0.toNat + y1 = z := ⟨_, rfl⟩
      obtain ⟨y2, hy2⟩ : ∃ y, 65536 * x2.toNat = y := ⟨_, rfl⟩
      obtain ⟨z2, hz2⟩ : ∃ z, z1 + y2 = z := ⟨_, rfl⟩
      obtain ⟨y3, hy3⟩ : ∃ y, 16777216 * x3.toNat = y := ⟨_, rfl⟩
      obtain ⟨L, hz3⟩ : ∃ z, z2 + y3 = z := ⟨_, rfl⟩
      have m1' : IntKind.i64.wrap (U x1 * 256) = (y1 : Int) := by rw [IntKind.wrap_i64]; unfold U; omega
      have a1' : IntKind.i64.wrap (U x0 + (y1 : Int)) = (z1 : Int) := by rw [IntKind.wrap_i64]; unfold U; omega
      have m2' : IntKind.i64.wrap (U x2 * 65536) = (y2 : Int) := by rw [IntKind.wrap_i64]; unfold U; omega
      have a2' : IntKind.i64.wrap ((z1 : Int) + (y2 : Int)) = (z2 : Int) := by rw [IntKind.wrap_i64]; omega
      have m3' : IntKind.i64.wrap (U x3 * 16777216) = (y3 : Int) := by rw [IntKind.wrap_i64]; unfold U; omega
      have a3' : IntKind.i64.wrap ((z2 : Int) + (y3 : Int)) = (L : Int) := by rw [IntKind.wrap_i64]; omega
      have p1' : IntKind.i64.wrap ((p : Int) + 1) = ((p + 1 : Nat) : Int) := by rw [IntKind.wrap_i64]; omega
      have p2' : IntKind.i64.wrap ((p : Int) + 2) = ((p + 2 : Nat) : Int) := by rw [IntKind.wrap_i64]; omega
      have p3' : IntKind.i64.wrap ((p : Int) + 3) = ((p + 3 : Nat) : Int) := by rw [IntKind.wrap_i64]; omega
      have hle : le32 (b.drop p) = L := by
        unfold le32
        rw [List.getD_eq_getElem?_getD, List.getD_eq_getElem?_getD, List.getD_eq_getElem?_getD, List.getD_eq_getElem?_getD, List.getElem?_drop, List.getElem?_drop, List.getElem?_drop, List.getElem?_drop, Nat.add_zero, hx0, hx1, hx2, hx3]
        simp only [Option.getD_some]
        omega
      have hL32 : L < 4294967296 := by omega
      have hld : leadN (b.drop p) = (if nb - p - 8 < L then none else match decN (((b.drop p).drop 8).take L) with | none => none | some n => if frameB (((b.drop p).drop 8).take L) = (b.drop p).take (8 + L) then some (n, 8 + L) else none) := by
        unfold leadN
        rw [hdl, if_neg (by omega), hle]
        rfl
      have i0 : p < nb := by omega
      have i1 : p + 1 < nb := by omega
      have i2 : p + 2 < nb := by omega
      have i3 : p + 3 < nb := by omega
      have j0 : (p : Int) < (nb : Int) := by omega
      have j1 : (p : Int) + 1 < (nb : Int) := by omega
      have j2 : (p : Int) + 2 < (nb : Int) := by omega
      have j3 : (p : Int) + 3 < (nb : Int) := by omega
      have d1 : (8 : Int) ≤ (nb : Int) - (p : Int) := by omega
      have n1 : (0 : Int) ≤ (p : Int) + 1 := by omega
      have n2 : (0 : Int) ≤ (p : Int) + 2 := by omega
      have n3 : (0 : Int) ≤ (p : Int) + 3 := by omega
      have t1' : ((p : Int) + 1).toNat = p + 1 := by omega
      have t2' : ((p : Int) + 2).toNat = p + 2 := by omega
      have t3' : ((p : Int) + 3).toNat = p + 3 := by omega
      replace hld := Lib.hid hld
      clear hx0 hx1 hx2 hx3 hRa u0 u1 u2 u3 hy1 hz1 hy2 hz2 hy3 hz3 hle
      go_upto_region 4 with (fail)
      obtain ⟨wd, hwd⟩ : ∃ wd, wd = wr.drew := ⟨_, rfl⟩
      replace q0 : wd.cell? ⟨g, p, none⟩ = some (.int .u8 (U x0)) := by rw [hwd]; exact q0
      replace q1 : wd.cell? ⟨g, p + 1, none⟩ = some (.int .u8 (U x1)) := by rw [hwd]; exact q1
      replace q2 : wd.cell? ⟨g, p + 2, none⟩ = some (.int .u8 (U x2)) := by rw [hwd]; exact q2
      replace q3 : wd.cell? ⟨g, p + 3, none⟩ = some (.int .u8 (U x3)) := by rw [hwd]; exact q3
      have hdr : Gr wr wd := by rw [hwd]; exact (Below.refl _ _).drew
      replace ho := ON.gr hdr ho
      replace hgr := Lib.hid (hgr.out.trans hdr)
      replace hNr : N ≤ wd.heap.size := Nat.le_trans hNr hdr.size
      clear hdr
      refine wpR_region (Eq) 9999 (by kernel_rfl) ?_
      (rw [← hwd]; replace hwd := Lib.hid hwd)
      refine wpR_take (i := 0) (v := ?_) (⟨fun _ => rfl, Eq.trans⟩) (some 17) rfl (by kernel_rfl) (by kernel_rfl) (by kernel_rfl) (by kernel_rfl) (by kernel_rfl) (fun _ _ _ h => h) (by kernel_rfl) (fun w' hw' => ?_) ?_
      rotate_left
      · go_simp; with_reducible rfl
      simp only [Act.put, List.setIfInBounds_toArray, List.set_cons_zero, List.set_cons_succ]
      refine wpR_take (i := 1) (v := ?_) (⟨fun _ => rfl, Eq.trans⟩) (some 18) rfl (by kernel_rfl) (by kernel_rfl) (by kernel_rfl) (by kernel_rfl) (by kernel_rfl) (fun _ _ _ h => h) (by kernel_rfl) (fun w' hw' => ?_) ?_
      rotate_left
      · go_simp; with_reducible rfl
      simp only [Act.put, List.setIfInBounds_toArray, List.set_cons_zero, List.set_cons_succ]
      refine wpR_take (i := 2) (v := ?_) (⟨fun _ => rfl, Eq.trans⟩) (some 19) rfl (by kernel_rfl) (by kernel_rfl) (by kernel_rfl) (by kernel_rfl) (by kernel_rfl) (fun _ _ _ h => h) (by kernel_rfl) (fun w' hw' => ?_) ?_
      rotate_left
      · go_simp; with_reducible rfl
      simp only [Act.put, List.setIfInBounds_toArray, List.set_cons_zero, List.set_cons_succ]
      refine wpR_take (i := 3) (v := ?_) (⟨fun _ => rfl, Eq.trans⟩) (some 20) rfl (by kernel_rfl) (by kernel_rfl) (by kernel_rfl) (by kernel_rfl) (by kernel_rfl) (fun _ _ _ h => h) (by kernel_rfl) (fun w' hw' => ?_) ?_
      rotate_left
      · subst hw'; go_simp; with_reducible rfl
      simp only [Act.put, List.setIfInBounds_toArray, List.set_cons_zero, List.set_cons_succ]
      refine wpR_take (i := 4) (v := ?_) (⟨fun _ => rfl, Eq.trans⟩) (some 21) rfl (by kernel_rfl) (by kernel_rfl) (by kernel_rfl) (by kernel_rfl) (by kernel_rfl) (fun _ _ _ h => h) (by kernel_rfl) (fun w' hw' => ?_) ?_
      rotate_left
      · go_simp; with_reducible rfl
      simp only [Act.put, List.setIfInBounds_toArray, List.set_cons_zero, List.set_cons_succ]
      refine wpR_take (i := 5) (v := ?_) (⟨fun _ => rfl, Eq.trans⟩) (some 22) rfl (by kernel_rfl) (by kernel_rfl) (by kernel_rfl) (by kernel_rfl) (by kernel_rfl) (fun _ _ _ h => h) (by kernel_rfl) (fun w' hw' => ?_) ?_
      rotate_left
      · go_simp; with_reducible rfl
      simp only [Act.put, List.setIfInBounds_toArray, List.set_cons_zero, List.set_cons_succ]
      refine wpR_take (i := 6) (v := ?_) (⟨fun _ => rfl, Eq.trans⟩) (some 23) rfl (by kernel_rfl) (by kernel_rfl) (by kernel_rfl) (by kernel_rfl) (by kernel_rfl) (fun _ _ _ h => h) (by kernel_rfl) (fun w' hw' => ?_) ?_
      rotate_left
      · go_simp; with_reducible rfl
      simp only [Act.put, List.setIfInBounds_toArray, List.set_cons_zero, List.set_cons_succ]
      refine wpR_take (i := 7) (v := ?_) (⟨fun _ => rfl, Eq.trans⟩) (some 24) rfl (by kernel_rfl) (by kernel_rfl) (by kernel_rfl) (by kernel_rfl) (by kernel_rfl) (fun _ _ _ h => h) (by kernel_rfl) (fun w' hw' => ?_) ?_
      rotate_left
      · go_simp; with_reducible rfl
      simp only [Act.put, List.setIfInBounds_toArray, List.set_cons_zero, List.set_cons_succ]
      refine wpR_take (i := 8) (v := ?_) (⟨fun _ => rfl, Eq.trans⟩) (some 25) rfl (by kernel_rfl) (by kernel_rfl) (by kernel_rfl) (by kernel_rfl) (by kernel_rfl) (fun _ _ _ h => h) (by kernel_rfl) (fun w' hw' => ?_) ?_
      rotate_left
      · go_simp; with_reducible rfl
      simp only [Act.put, List.setIfInBounds_toArray, List.set_cons_zero, List.set_cons_succ]
      refine wpR_take (i := 9) (v := ?_) (⟨fun _ => rfl, Eq.trans⟩) (some 26) rfl (by kernel_rfl) (by kernel_rfl) (by kernel_rfl) (by kernel_rfl) (by kernel_rfl) (fun _ _ _ h => h) (by kernel_rfl) (fun w' hw' => ?_) ?_
      rotate_left
      · subst hw'; go_simp; with_reducible rfl
      simp only [Act.put, List.setIfInBounds_toArray, List.set_cons_zero, List.set_cons_succ]
      refine wpR_take (i := 10) (v := ?_) (⟨fun _ => rfl, Eq.trans⟩) (some 27) rfl (by kernel_rfl) (by kernel_rfl) (by kernel_rfl) (by kernel_rfl) (by kernel_rfl) (fun _ _ _ h => h) (by kernel_rfl) (fun w' hw' => ?_) ?_
      rotate_left
      · go_simp; with_reducible rfl
      simp only [Act.put, List.setIfInBounds_toArray, List.set_cons_zero, List.set_cons_succ]
      refine wpR_take (i := 11) (v := ?_) (⟨fun _ => rfl, Eq.trans⟩) (some 28) rfl (by kernel_rfl) (by kernel_rfl) (by kernel_rfl) (by kernel_rfl) (by kernel_rfl) (fun _ _ _ h => h) (by kernel_rfl) (fun w' hw' => ?_) ?_
      rotate_left
      · go_simp; with_reducible rfl
      simp only [Act.put, List.setIfInBounds_toArray, List.set_cons_zero, List.set_cons_succ]
      refine wpR_take (i := 12) (v := ?_) (⟨fun _ => rfl, Eq.trans⟩) (some 29) rfl (by kernel_rfl) (by kernel_rfl) (by kernel_rfl) (by kernel_rfl) (by kernel_rfl) (fun _ _ _ h => h) (by kernel_rfl) (fun w' hw' => ?_) ?_
      rotate_left
      · go_simp; with_reducible rfl
      simp only [Act.put, List.setIfInBounds_toArray, List.set_cons_zero, List.set_cons_succ]
      refine wpR_take (i := 13) (v := ?_) (⟨fun _ => rfl, Eq.trans⟩) (some 30) rfl (by kernel_rfl) (by kernel_rfl) (by kernel_rfl) (by kernel_rfl) (by kernel_rfl) (fun _ _ _ h => h) (by kernel_rfl) (fun w' hw' => ?_) ?_
      rotate_left
      · go_simp; with_reducible rfl
      simp only [Act.put, List.setIfInBounds_toArray, List.set_cons_zero, List.set_cons_succ]
      refine wpR_take (i := 14) (v := ?_) (⟨fun _ => rfl, Eq.trans⟩) (some 31) rfl (by kernel_rfl) (by kernel_rfl) (by kernel_rfl) (by kernel_rfl) (by kernel_rfl) (fun _ _ _ h => h) (by kernel_rfl) (fun w' hw' => ?_) ?_
      rotate_left
      · go_simp; with_reducible rfl
      simp only [Act.put, List.setIfInBounds_toArray, List.set_cons_zero, List.set_cons_succ]
      refine wpR_take (i := 15) (v := ?_) (⟨fun _ => rfl, Eq.trans⟩) (some 32) rfl (by kernel_rfl) (by kernel_rfl) (by kernel_rfl) (by kernel_rfl) (by kernel_rfl) (fun _ _ _ h => h) (by kernel_rfl) (fun w' hw' => ?_) ?_
      rotate_left
      · go_simp; with_reducible rfl
      simp only [Act.put, List.setIfInBounds_toArray, List.set_cons_zero, List.set_cons_succ]
      refine wpR_take (i := 16) (v := ?_) (⟨fun _ => rfl, Eq.trans⟩) (some 33) rfl (by kernel_rfl) (by kernel_rfl) (by kernel_rfl) (by kernel_rfl) (by kernel_rfl) (fun _ _ _ h => h) (by kernel_rfl) (fun w' hw' => ?_) ?_
      rotate_left
      · go_simp; with_reducible rfl
      simp only [Act.put, List.setIfInBounds_toArray, List.set_cons_zero, List.set_cons_succ]
      refine wpR_take (i := 17) (v := ?_) (⟨fun _ => rfl, Eq.trans⟩) (some 34) rfl (by kernel_rfl) (by kernel_rfl) (by kernel_rfl) (by kernel_rfl) (by kernel_rfl) (fun _ _ _ h => h) (by kernel_rfl) (fun w' hw' => ?_) ?_
      rotate_left
      · subst hw'; go_simp; with_reducible rfl
      simp only [Act.put, List.setIfInBounds_toArray, List.set_cons_zero, List.set_cons_succ]
      refine wpR_take (i := 18) (v := ?_) (⟨fun _ => rfl, Eq.trans⟩) (some 35) rfl (by kernel_rfl) (by kernel_rfl) (by kernel_rfl) (by kernel_rfl) (by kernel_rfl) (fun _ _ _ h => h) (by kernel_rfl) (fun w' hw' => ?_) ?_
      rotate_left
      · go_simp; with_reducible rfl
      simp only [Act.put, List.setIfInBounds_toArray, List.set_cons_zero, List.set_cons_succ]
      refine wpR_take (i := 19) (v := ?_) (⟨fun _ => rfl, Eq.trans⟩) (some 36) rfl (by kernel_rfl) (by kernel_rfl) (by kernel_rfl) (by kernel_rfl) (by kernel_rfl) (fun _ _ _ h => h) (by kernel_rfl) (fun w' hw' => ?_) ?_
      rotate_left
      · go_simp; with_reducible rfl
      simp only [Act.put, List.setIfInBounds_toArray, List.set_cons_zero, List.set_cons_succ]
      refine wpR_take (i := 20) (v := ?_) (⟨fun _ => rfl, Eq.trans⟩) (some 37) rfl (by kernel_rfl) (by kernel_rfl) (by kernel_rfl) (by kernel_rfl) (by kernel_rfl) (fun _ _ _ h => h) (by kernel_rfl) (fun w' hw' => ?_) ?_
      rotate_left
      · go_simp; with_reducible rfl
      simp only [Act.put, List.setIfInBounds_toArray, List.set_cons_zero, List.set_cons_succ]
      refine wpR_take (i := 21) (v := ?_) (⟨fun _ => rfl, Eq.trans⟩) (some 38) rfl (by kernel_rfl) (by kernel_rfl) (by kernel_rfl) (by kernel_rfl) (by kernel_rfl) (fun _ _ _ h => h) (by kernel_rfl) (fun w' hw' => ?_) ?_
      rotate_left
      · go_simp; with_reducible rfl
      simp only [Act.put, List.setIfInBounds_toArray, List.set_cons_zero, List.set_cons_succ]
      refine wpR_take (i := 22) (v := ?_) (⟨fun _ => rfl, Eq.trans⟩) (some 39) rfl (by kernel_rfl) (by kernel_rfl) (by kernel_rfl) (by kernel_rfl) (by kernel_rfl) (fun _ _ _ h => h) (by kernel_rfl) (fun w' hw' => ?_) ?_
      rotate_left
      · go_simp; with_reducible rfl
      simp only [Act.put, List.setIfInBounds_toArray, List.set_cons_zero, List.set_cons_succ]
      refine wpR_take (i := 23) (v := ?_) (⟨fun _ => rfl, Eq.trans⟩) (some 40) rfl (by kernel_rfl) (by kernel_rfl) (by kernel_rfl) (by kernel_rfl) (by kernel_rfl) (fun _ _ _ h => h) (by kernel_rfl) (fun w' hw' => ?_) ?_
      rotate_left
      · go_simp; with_reducible rfl
      simp only [Act.put, List.setIfInBounds_toArray, List.set_cons_zero, List.set_cons_succ]
      refine wpR_take (i := 24) (v := ?_) (⟨fun _ => rfl, Eq.trans⟩) (some 41) rfl (by kernel_rfl) (by kernel_rfl) (by kernel_rfl) (by kernel_rfl) (by kernel_rfl) (fun _ _ _ h => h) (by kernel_rfl) (fun w' hw' => ?_) ?_
      rotate_left
      · go_simp; with_reducible rfl
      simp only [Act.put, List.setIfInBounds_toArray, List.set_cons_zero, List.set_cons_succ]
      refine wpR_take (i := 25) (v := ?_) (⟨fun _ => rfl, Eq.trans⟩) (some 42) rfl (by kernel_rfl) (by kernel_rfl) (by kernel_rfl) (by kernel_rfl) (by kernel_rfl) (fun _ _ _ h => h) (by kernel_rfl) (fun w' hw' => ?_) ?_
      rotate_left
      · subst hw'; go_simp; with_reducible rfl
      simp only [Act.put, List.setIfInBounds_toArray, List.set_cons_zero, List.set_cons_succ]
      refine wpR_take (i := 26) (v := ?_) (⟨fun _ => rfl, Eq.trans⟩) (some 43) rfl (by kernel_rfl) (by kernel_rfl) (by kernel_rfl) (by kernel_rfl) (by kernel_rfl) (fun _ _ _ h => h) (by kernel_rfl) (fun w' hw' => ?_) ?_
      rotate_left
      · go_simp; with_reducible rfl
      simp only [Act.put, List.setIfInBounds_toArray, List.set_cons_zero, List.set_cons_succ]
      refine wpR_take (i := 27) (v := ?_) (⟨fun _ => rfl, Eq.trans⟩) (some 44) rfl (by kernel_rfl) (by kernel_rfl) (by kernel_rfl) (by kernel_rfl) (by kernel_rfl) (fun _ _ _ h => h) (by kernel_rfl) (fun w' hw' => ?_) ?_
      rotate_left
      · go_simp; with_reducible rfl
      simp only [Act.put, List.setIfInBounds_toArray, List.set_cons_zero, List.set_cons_succ]
      refine wpR_take (i := 28) (v := ?_) (⟨fun _ => rfl, Eq.trans⟩) (some 45) rfl (by kernel_rfl) (by kernel_rfl) (by kernel_rfl) (by kernel_rfl) (by kernel_rfl) (fun _ _ _ h => h) (by kernel_rfl) (fun w' hw' => ?_) ?_
      rotate_left
      · go_simp; with_reducible rfl
      simp only [Act.put, List.setIfInBounds_toArray, List.set_cons_zero, List.set_cons_succ]
      refine wpR_take (i := 29) (v := ?_) (⟨fun _ => rfl, Eq.trans⟩) (some 6) rfl (by kernel_rfl) (by kernel_rfl) (by kernel_rfl) (by kernel_rfl) (by kernel_rfl) (fun _ _ _ h => h) (by kernel_rfl) (fun w' hw' => ?_) ?_
      rotate_left
      · go_simp; with_reducible rfl
      simp only [Act.put, List.setIfInBounds_toArray, List.set_cons_zero, List.set_cons_succ]
      refine wpR_done (by kernel_rfl) ?_ _
      clear q0 q1 q2 q3 m1' a1' m2' a2' m3' a3' p1' p2' p3' i0 i1 i2 i3 j0 j1 j2 j3 n1 n2 n3 t1' t2' t3'
      by_cases hbig : nb - p - 8 < L
      · have hL := hld.out
        rw [if_pos hbig] at hL
        rw [scanN_none hL] at hsc
        have d2 : (nb : Int) - (p : Int) - 8 < (L : Int) := by omega
        clear hL hld
        go_wp2_with fail
        go_ret2
        first
          | exact ⟨_, E, by rw [hsc.out]; simp, by rw [hsc.out]; simp, ho.out, hgr.out⟩
          | exact ⟨_, by rw [hsc.out]; simp, E, by rw [hsc.out]; simp, ho.out, hgr.out⟩
          | exact ⟨_, by rw [hsc.out]; simp; rfl, E, by rw [hsc.out]; simp, ho.out, hgr.out⟩
      · have hL := hld.out
        rw [if_neg hbig] at hL
        have d2 : ¬ ((nb : Int) - (p : Int) - 8 < (L : Int)) := by omega
        obtain ⟨P8, hP8⟩ : ∃ P8, p + 8 = P8 := ⟨_, rfl⟩
        obtain ⟨PE, hPE⟩ : ∃ PE, P8 + L = PE := ⟨_, rfl⟩
        have hPEn : PE ≤ nb := by omega
        obtain ⟨X, hX⟩ : ∃ X, ((b.drop p).drop 8).take L = X := ⟨_, rfl⟩
        rw [hX] at hL
        have hX' : (b.drop P8).take L = X := by rw [← hX, List.drop_drop, hP8]
        have hXl : X.length = L := by rw [← hX', List.length_take, List.length_drop, hnb.out]; omega
        have e8 : (p : Int) + 8 = (P8 : Int) := by omega
        have e9 : (P8 : Int) + (L : Int) = (PE : Int) := by omega
        have k1 : (P8 : Int) ≤ (PE : Int) := by omega
        have k2 : (PE : Int) ≤ (c : Int) := by omega
        have hyd := (Byt.gr hgr.out hy).out
        have hcut := Byt.cutR hyd P8 L (by omega)
        rw [hX'] at hcut
        have hcut2 := Byt.cutR hyd p (8 + L) (by omega)
        obtain ⟨T0, hT0⟩ : ∃ T0, (b.drop p).take (8 + L) = T0 := ⟨_, rfl⟩
        rw [hT0] at hcut2 hL
        have hpc : ¬ c = p := by omega
        have hcut3 : Hid (Byt T0 (.slice (some ⟨g, p, none⟩) (8 + L) (c - p)) wd) := Lib.hid (by simpa [hpc, add_of] using hcut2)
        replace hX := Lib.hid hX
        replace hX' := Lib.hid hX'
        replace hXl := Lib.hid hXl
        replace hT0 := Lib.hid hT0
        replace hL := Lib.hid hL
        replace hP8 := Lib.hid hP8
        replace hPE := Lib.hid hPE
        clear hyd hcut2 hld hdl
        by_cases hc8 : c = P8
        · have hXn : X = [] := by
            apply List.eq_nil_of_length_eq_zero
            rw [hXl.out]
            have := hP8.out
            have := hPE.out
            omega
          have hdn : decN [] = none := by
            cases hd : decN [] with
            | none => rfl
            | some n =>
              exfalso
              have h1 := (decN_some hd).2
              have hg := (good_iff n).1 (decN_some hd).1
              have h2 := (enc_length n.kind.toNat (by have := hg.kind; omega)).1
              have h3 := congrArg List.length h1
              unfold encN at h3
              simp only [List.length_append, List.length_nil] at h3
              omega
          subst hXn
          have hL' := hL.out
          rw [hdn] at hL'
          simp only at hL'
          rw [scanN_none hL'] at hsc
          have hdc := rdecode_any [] (.slice (some ⟨g, 0, none⟩) 0 0) (by decide) wd ⟨_, _, rfl, Nat.le_refl _, Nat.zero_le _, Rd.nil_⟩
          rw [hdn] at hdc
          replace hdc := Lib.hid hdc
          obtain rfl : PE = P8 := by omega
          subst hc8
          clear hL' hdn hcut
          go_wp2_with fail
          refine hdc.out.mono ?_
          rintro e w5 ⟨hans, hg5⟩
          replace hans : e = _ := hans
          subst hans
          have hg6 := hg5.trans (Gr.alloc w5 (.cells #[.int .i64 0, .string ⟨#[]⟩, .int .i64 0, .int .i64 0, .slice none 0 0, .string ⟨#[]⟩, .int .i64 0, .slice none 0 0] 25))
          replace ho := ON.gr hg6 ho
          replace hgr := Lib.hid (hgr.out.trans hg6)
          clear hg5 hg6
          go_wp2_with fail
          go_ret2
          first
            | exact ⟨_, E, by rw [hsc.out]; simp, by rw [hsc.out]; simp, ho.out, hgr.out⟩
            | exact ⟨_, by rw [hsc.out]; simp, E, by rw [hsc.out]; simp, ho.out, hgr.out⟩
            | exact ⟨_, by rw [hsc.out]; simp; rfl, E, by rw [hsc.out]; simp, ho.out, hgr.out⟩
        · have hc8' : P8 < c := by omega
          have hcut' : Hid (Byt X (.slice (some ⟨g, P8, none⟩) (PE - P8) (c - P8)) wd) := Lib.hid (by
            rw [if_neg hc8] at hcut
            have e : PE - P8 = L := by have := hPE.out; omega
            rw [e]
            simpa [add_of] using hcut)
          have hdc := rdecode_any X (.slice (some ⟨g, P8, none⟩) (PE - P8) (c - P8)) (by rw [hXl.out]; omega) wd hcut'.out
          cases hd : decN X with
          | none =>
            rw [hd] at hdc
            have hL' := hL.out
            rw [hd] at hL'
            simp only at hL'
            rw [scanN_none hL'] at hsc
            replace hdc := Lib.hid hdc
            clear hL' hcut hcut'
            go_wp2_with fail
            refine hdc.out.mono ?_
            rintro e w5 ⟨hans, hg5⟩
            replace hans : e = _ := hans
            subst hans
            have hg6 := hg5.trans (Gr.alloc w5 (.cells #[.int .i64 0, .string ⟨#[]⟩, .int .i64 0, .int .i64 0, .slice none 0 0, .string ⟨#[]⟩, .int .i64 0, .slice none 0 0] 25))
            replace ho := ON.gr hg6 ho
            replace hgr := Lib.hid (hgr.out.trans hg6)
            clear hg5 hg6
            go_wp2_with fail
            go_ret2
            first
              | exact ⟨_, E, by rw [hsc.out]; simp, by rw [hsc.out]; simp, ho.out, hgr.out⟩
              | exact ⟨_, by rw [hsc.out]; simp, E, by rw [hsc.out]; simp, ho.out, hgr.out⟩
              | exact ⟨_, by rw [hsc.out]; simp; rfl, E, by rw [hsc.out]; simp, ho.out, hgr.out⟩
          | some n =>
            rw [hd] at hdc
            have hL' := hL.out
            rw [hd] at hL'
            simp only at hL'
            obtain ⟨hng, hne⟩ := decN_some hd
            replace hdc := Lib.hid hdc
            clear hcut hcut'
            go_wp2_with fail
            refine hdc.out.mono ?_
            clear hdc
            rintro e w5 ⟨⟨u, rfl, hmv⟩, hg5⟩
            obtain ⟨nA, nc, nA2, nc2, rfl, hn1, hn2, hn3, hn4⟩ := hmv
            have hga := Gr.alloc w5 (.cells #[.int .i64 n.kind, .string (bs n.key), .int .i64 n.gen, .int .i64 n.cart, .slice nA n.data.length nc, .string (bs n.sum), .int .i64 n.size, .slice nA2 n.places.length nc2] 25)
            have hgb := hg5.trans hga
            have hqv0 : NeV ⟨n, nA, nc, nA2, nc2⟩ (w5.alloc (.cells #[.int .i64 n.kind, .string (bs n.key), .int .i64 n.gen, .int .i64 n.cart, .slice nA n.data.length nc, .string (bs n.sum), .int .i64 n.size, .slice nA2 n.places.length nc2] 25)) := NeV.gr hga ⟨hn1, hn2⟩
            have hap0 : Hid (Apt ⟨n, nA, nc, nA2, nc2⟩ (Value.slice A1 m1 c1).ownBlock) := Lib.hid (by
              cases hob : (Value.slice A1 m1 c1).ownBlock with
              | none => exact Apt.none_ _
              | some kk =>
                have hk := (World.ownsRow.lt ho.out.row kk hob).2
                exact ⟨fun _ ad ea => (by have := hn3 ad ea; intro e; injection e with e; omega), fun _ ad ea => (by have := hn4 ad ea; intro e; injection e with e; omega)⟩)
            have hm := heap_alloc_new w5 (.cells #[.int .i64 n.kind, .string (bs n.key), .int .i64 n.gen, .int .i64 n.cart, .slice nA n.data.length nc, .string (bs n.sum), .int .i64 n.size, .slice nA2 n.places.length nc2] 25)
            obtain ⟨M, hM⟩ : ∃ M, w5.heap.size = M := ⟨_, rfl⟩
            rw [hM] at hm
            replace ho := ON.gr hgb ho
            replace hgr := Lib.hid (hgr.out.trans hgb)
            replace hcut3 := Byt.gr hgb hcut3
            obtain ⟨w6, hw6⟩ : ∃ w6, w5.alloc (.cells #[.int .i64 n.kind, .string (bs n.key), .int .i64 n.gen, .int .i64 n.cart, .slice nA n.data.length nc, .string (bs n.sum), .int .i64 n.size, .slice nA2 n.places.length nc2] 25) = w6 := ⟨_, rfl⟩
            rw [hw6] at hqv0 hm ho hgr hcut3
            have hfr := rframe_ok n nA nc nA2 nc2 w6 hqv0.ntv hng
            rw [hne] at hfr
            unfold Nt.agg at hfr
            replace hfr := Lib.hid hfr
            replace hqv0 := Lib.hid hqv0
            replace hm := Lib.hid hm
            replace hM := Lib.hid hM
            replace hw6 := Lib.hid hw6
            have hset : n.agg nA nc nA2 nc2 = .agg #[.int .i64 n.kind, .string (bs n.key), .int .i64 n.gen, .int .i64 n.cart, .slice nA n.data.length nc, .string (bs n.sum), .int .i64 n.size, .slice nA2 n.places.length nc2] := rfl
            rw [hset]
            clear hset hg5 hga hgb hn1 hn2 hn3 hn4
            go_upto_region 10 with (fail)
            rw [hw6.out, hM.out]
            clear hw6 hM
            have y0 := blk_cell (j := 0) (v := .int .i64 n.kind) hm.out rfl
            have y1 := blk_cell (j := 1) (v := .string (bs n.key)) hm.out rfl
            have y2 := blk_cell (j := 2) (v := .int .i64 n.gen) hm.out rfl
            have y3 := blk_cell (j := 3) (v := .int .i64 n.cart) hm.out rfl
            have y4 := blk_cell (j := 4) (v := .slice nA n.data.length nc) hm.out rfl
            have y5 := blk_cell (j := 5) (v := .string (bs n.sum)) hm.out rfl
            have y6 := blk_cell (j := 6) (v := .int .i64 n.size) hm.out rfl
            have y7 := blk_cell (j := 7) (v := .slice nA2 n.places.length nc2) hm.out rfl
            go_wp2_with fail
            refine hfr.out.mono ?_
            clear hfr y0 y1 y2 y3 y4 y5 y6 y7
            rintro e w7 ⟨u7, rfl, ho7, hg7⟩
            replace ho := ON.gr hg7 ho
            replace hgr := Lib.hid (hgr.out.trans hg7)
            replace hcut3 := Byt.gr hg7 hcut3
            replace hqv0 := Lib.hid (hqv0.out.gr hg7)
            replace hm := Lib.hid (blk_below hm.out hg7)
            obtain ⟨A7, c7, rfl, -⟩ := ho7.form
            obtain ⟨F0, hF0⟩ : ∃ F0, frameB X = F0 := ⟨_, rfl⟩
            rw [hF0] at ho7 hL' ⊢
            obtain ⟨nf, hnf⟩ : ∃ nf, F0.length = nf := ⟨_, rfl⟩
            rw [hnf] at ho7 ⊢
            have hdr : Gr w7 w7.drew := (Below.refl _ _).drew
            replace ho := ON.gr hdr ho
            replace hgr := Lib.hid (hgr.out.trans hdr)
            replace hcut3 := Byt.gr hdr hcut3
            replace hqv0 := Lib.hid (hqv0.out.gr hdr)
            replace hm := Lib.hid (blk_below hm.out hdr)
            replace ho7 := OB.gr hdr (Lib.hid ho7)
            obtain ⟨wd2, hwd⟩ : ∃ wd2, wd2 = w7.drew := ⟨_, rfl⟩
            rw [← hwd] at ho hgr hcut3 hqv0 hm ho7
            have cv1 : (convert 22 9 (.slice A7 nf c7)).run Try.prog wd2 = .ok (.string (bs F0)) wd2 := run_str_at c7 ho7.out.rd.1 hnf
            have hTl : T0.length = 8 + L := by
              have h := hcut3.out
              obtain ⟨A', c', e', -⟩ := h
              injection e' with _ e' _
              exact e'.symm
            have ePp : PE - p = 8 + L := by have := hPE.out; have := hP8.out; omega
            have cv2 : (convert 22 9 (.slice (some ⟨g, p, none⟩) (PE - p) (c - p))).run Try.prog wd2 = .ok (.string (bs T0)) wd2 := by
              rw [ePp]
              obtain ⟨A', c', e', -, -, hR'⟩ := hcut3.out
              injection e' with e1 e2 e3
              subst e1
              exact run_str_at (c - p) hR' hTl
            have ePp' : ((PE : Int) - (p : Int)).toNat = PE - p := by omega
            have kp1 : (p : Int) ≤ (PE : Int) := by omega
            have kp2 : p ≤ PE := by omega
            have kp3 : (0 : Int) ≤ (PE : Int) := by omega
            have g1 : IntKind.i64.wrap (P8 : Int) = (P8 : Int) := by rw [IntKind.wrap_i64]; omega
            have g3 : IntKind.i64.wrap (PE : Int) = (PE : Int) := by rw [IntKind.wrap_i64]; omega
            have hbq := bs_beq F0 T0
            replace hnf := Lib.hid hnf
            replace hTl := Lib.hid hTl
            replace ePp := Lib.hid ePp
            replace hF0 := Lib.hid hF0
            clear hg7 hdr
            go_upto_region 11 with (fail)
            by_cases hfe : F0 = T0
            · rw [if_pos hfe] at hL'
              have hs1 : (bs F0 == bs T0) = true := by rw [hbq]; exact beq_iff_eq.mpr hfe
              have hs2 : (bs F0 != bs T0) = false := by unfold bne; rw [hs1]; rfl
              rw [scanN_some hL'] at hsc
              rw [List.drop_drop] at hsc
              replace hL' := Lib.hid hL'
              have hs3 : (F0 == T0) = true := beq_iff_eq.mpr hfe
              replace hfe := Lib.hid hfe
              clear hbq
              refine wpR_region (Eq) 9999 (by kernel_rfl) ?_
              (rw [← hwd]; replace hwd := Lib.hid hwd)
              refine wpR_take (i := 0) (v := ?_) (⟨fun _ => rfl, Eq.trans⟩) (some 76) rfl (by kernel_rfl) (by kernel_rfl) (by kernel_rfl) (by kernel_rfl) (by kernel_rfl) (fun _ _ _ h => h) (by kernel_rfl) (fun w' hw' => ?_) ?_
              rotate_left
              · go_simp; with_reducible rfl
              simp only [Act.put, List.setIfInBounds_toArray, List.set_cons_zero, List.set_cons_succ]
              refine wpR_take (i := 1) (v := ?_) (⟨fun _ => rfl, Eq.trans⟩) (some 77) rfl (by kernel_rfl) (by kernel_rfl) (by kernel_rfl) (by kernel_rfl) (by kernel_rfl) (fun _ _ _ h => h) (by kernel_rfl) (fun w' hw' => ?_) ?_
              rotate_left
              · subst hw'; go_simp; with_reducible rfl
              simp only [Act.put, List.setIfInBounds_toArray, List.set_cons_zero, List.set_cons_succ]
              refine wpR_take (i := 2) (v := ?_) (⟨fun _ => rfl, Eq.trans⟩) (some 78) rfl (by kernel_rfl) (by kernel_rfl) (by kernel_rfl) (by kernel_rfl) (by kernel_rfl) (fun _ _ _ h => h) (by kernel_rfl) (fun w' hw' => ?_) ?_
              rotate_left
              · go_simp; with_reducible rfl
              simp only [Act.put, List.setIfInBounds_toArray, List.set_cons_zero, List.set_cons_succ]
              refine wpR_take (i := 3) (v := ?_) (⟨fun _ => rfl, Eq.trans⟩) (some 79) rfl (by kernel_rfl) (by kernel_rfl) (by kernel_rfl) (by kernel_rfl) (by kernel_rfl) (fun _ _ _ h => h) (by kernel_rfl) (fun w' hw' => ?_) ?_
              rotate_left
              · go_simp; with_reducible rfl
              simp only [Act.put, List.setIfInBounds_toArray, List.set_cons_zero, List.set_cons_succ]
              refine wpR_take (i := 4) (v := ?_) (⟨fun _ => rfl, Eq.trans⟩) (some 80) rfl (by kernel_rfl) (by kernel_rfl) (by kernel_rfl) (by kernel_rfl) (by kernel_rfl) (fun _ _ _ h => h) (by kernel_rfl) (fun w' hw' => ?_) ?_
              rotate_left
              · go_simp; with_reducible rfl
              simp only [Act.put, List.setIfInBounds_toArray, List.set_cons_zero, List.set_cons_succ]
              refine wpR_take (i := 5) (v := ?_) (⟨fun _ => rfl, Eq.trans⟩) (some 81) rfl (by kernel_rfl) (by kernel_rfl) (by kernel_rfl) (by kernel_rfl) (by kernel_rfl) (fun _ _ _ h => h) (by kernel_rfl) (fun w' hw' => ?_) ?_
              rotate_left
              · go_simp; with_reducible rfl
              simp only [Act.put, List.setIfInBounds_toArray, List.set_cons_zero, List.set_cons_succ]
              refine wpR_take (i := 6) (v := ?_) (⟨fun _ => rfl, Eq.trans⟩) (some 82) rfl (by kernel_rfl) (by kernel_rfl) (by kernel_rfl) (by kernel_rfl) (by kernel_rfl) (fun _ _ _ h => h) (by kernel_rfl) (fun w' hw' => ?_) ?_
              rotate_left
              · go_simp; with_reducible rfl
              simp only [Act.put, List.setIfInBounds_toArray, List.set_cons_zero, List.set_cons_succ]
              refine wpR_take (i := 7) (v := ?_) (⟨fun _ => rfl, Eq.trans⟩) (some 83) rfl (by kernel_rfl) (by kernel_rfl) (by kernel_rfl) (by kernel_rfl) (by kernel_rfl) (fun _ _ _ h => h) (by kernel_rfl) (fun w' hw' => ?_) ?_
              rotate_left
              · go_simp; with_reducible rfl
              simp only [Act.put, List.setIfInBounds_toArray, List.set_cons_zero, List.set_cons_succ]
              refine wpR_take (i := 8) (v := ?_) (⟨fun _ => rfl, Eq.trans⟩) (some 84) rfl (by kernel_rfl) (by kernel_rfl) (by kernel_rfl) (by kernel_rfl) (by kernel_rfl) (fun _ _ _ h => h) (by kernel_rfl) (fun w' hw' => ?_) ?_
              rotate_left
              · go_simp; with_reducible rfl
              simp only [Act.put, List.setIfInBounds_toArray, List.set_cons_zero, List.set_cons_succ]
              refine wpR_take (i := 9) (v := ?_) (⟨fun _ => rfl, Eq.trans⟩) (some 85) rfl (by kernel_rfl) (by kernel_rfl) (by kernel_rfl) (by kernel_rfl) (by kernel_rfl) (fun _ _ _ h => h) (by kernel_rfl) (fun w' hw' => ?_) ?_
              rotate_left
              · subst hw'; go_simp; with_reducible rfl
              simp only [Act.put, List.setIfInBounds_toArray, List.set_cons_zero, List.set_cons_succ]
              refine wpR_take (i := 10) (v := ?_) (⟨fun _ => rfl, Eq.trans⟩) (some 86) rfl (by kernel_rfl) (by kernel_rfl) (by kernel_rfl) (by kernel_rfl) (by kernel_rfl) (fun _ _ _ h => h) (by kernel_rfl) (fun w' hw' => ?_) ?_
              rotate_left
              · go_simp; with_reducible rfl
              simp only [Act.put, List.setIfInBounds_toArray, List.set_cons_zero, List.set_cons_succ]
              refine wpR_done (by kernel_rfl) ?_ _
              have hga := Gr.alloc wd2 (.cells #[.int .i64 n.kind, .string (bs n.key), .int .i64 n.gen, .int .i64 n.cart, .slice nA n.data.length nc, .string (bs n.sum), .int .i64 n.size, .slice nA2 n.places.length nc2] 25)
              replace ho := ON.gr hga ho
              replace hgr := Lib.hid (hgr.out.trans hga)
              replace hqv0 := Lib.hid (hqv0.out.gr hga)
              have hlit : Hid (Reads (wd2.alloc (.cells #[.int .i64 n.kind, .string (bs n.key), .int .i64 n.gen, .int .i64 n.cart, .slice nA n.data.length nc, .string (bs n.sum), .int .i64 n.size, .slice nA2 n.places.length nc2] 25)) (wd2.alloc (.cells #[.int .i64 n.kind, .string (bs n.key), .int .i64 n.gen, .int .i64 n.cart, .slice nA n.data.length nc, .string (bs n.sum), .int .i64 n.size, .slice nA2 n.places.length nc2] 25)).heap.size 8 (some ⟨wd2.heap.size, 0, none⟩) 1 (Ne.mk n nA nc nA2 nc2).cells) := Lib.hid (Reads.noteLit wd2 ⟨n, nA, nc, nA2, nc2⟩)
              have hNs2 : N ≤ (wd2.alloc (.cells #[.int .i64 n.kind, .string (bs n.key), .int .i64 n.gen, .int .i64 n.cart, .slice nA n.data.length nc, .string (bs n.sum), .int .i64 n.size, .slice nA2 n.places.length nc2] 25)).heap.size := by have := hgr.out.size; rw [hN.out] at this; exact this
              have hEl : E.length ≤ 1000000000000 := by omega
              have hP88 := hP8.out
              have hPEE := hPE.out
              have y0 := blk_cell (j := 0) (v := .int .i64 n.kind) hm.out rfl
              have y1 := blk_cell (j := 1) (v := .string (bs n.key)) hm.out rfl
              have y2 := blk_cell (j := 2) (v := .int .i64 n.gen) hm.out rfl
              have y3 := blk_cell (j := 3) (v := .int .i64 n.cart) hm.out rfl
              have y4 := blk_cell (j := 4) (v := .slice nA n.data.length nc) hm.out rfl
              have y5 := blk_cell (j := 5) (v := .string (bs n.sum)) hm.out rfl
              have y6 := blk_cell (j := 6) (v := .int .i64 n.size) hm.out rfl
              have y7 := blk_cell (j := 7) (v := .slice nA2 n.places.length nc2) hm.out rfl
              clear hga cv1 cv2 g1 g3 hs1 hs2
              go_wp2_with (at_builtin; go_must (refine wpl_appN rfl (.tmp 89) (.tmp 91) rfl N _ E ⟨n, nA, nc, nA2, nc2⟩ rfl ho.out _ _ rfl hlit.out hqv0.out hap0.out hEl hNs2 ?_); intro v9 w9 ho9 hg9 hr9; have hgr9 : Hid (Gr w w9) := Lib.hid (by have h := hgr.out; unfold Gr at *; rw [hN.out] at *; exact h.trans hr9); replace ho9 := Lib.hid ho9; obtain ⟨A9, m9, c9, rfl⟩ : ∃ A m c, v9 = .slice A m c := (by obtain ⟨A, c, e, -⟩ := ho9.out.form; exact ⟨A, _, c, e⟩); clear hg9 hr9)
              go_roundw
              case rel => exact ⟨p + (8 + L), E ++ [⟨n, nA, nc, nA2, nc2⟩], A9, m9, c9, rfl, by go_num, by omega, by rw [List.length_append, List.length_singleton]; omega, Lib.hid (by rw [hsc.out]; simp [Nat.add_assoc]), ho9, hgr9⟩
              case measure => simp [intOf]; omega
            · rw [if_neg hfe] at hL'
              have hs1 : (bs F0 == bs T0) = false := by rw [hbq]; exact beq_eq_false_iff_ne.mpr hfe
              have hs2 : (bs F0 != bs T0) = true := by unfold bne; rw [hs1]; rfl
              rw [scanN_none hL'] at hsc
              replace hL' := Lib.hid hL'
              have hs3 : (F0 == T0) = false := beq_eq_false_iff_ne.mpr hfe
              replace hfe := Lib.hid hfe
              clear hbq
              refine wpR_region (Eq) 9999 (by kernel_rfl) ?_
              (rw [← hwd]; replace hwd := Lib.hid hwd)
              refine wpR_take (i := 0) (v := ?_) (⟨fun _ => rfl, Eq.trans⟩) (some 76) rfl (by kernel_rfl) (by kernel_rfl) (by kernel_rfl) (by kernel_rfl) (by kernel_rfl) (fun _ _ _ h => h) (by kernel_rfl) (fun w' hw' => ?_) ?_
              rotate_left
              · go_simp; with_reducible rfl
              simp only [Act.put, List.setIfInBounds_toArray, List.set_cons_zero, List.set_cons_succ]
              refine wpR_take (i := 1) (v := ?_) (⟨fun _ => rfl, Eq.trans⟩) (some 77) rfl (by kernel_rfl) (by kernel_rfl) (by kernel_rfl) (by kernel_rfl) (by kernel_rfl) (fun _ _ _ h => h) (by kernel_rfl) (fun w' hw' => ?_) ?_
              rotate_left
              · subst hw'; go_simp; with_reducible rfl
              simp only [Act.put, List.setIfInBounds_toArray, List.set_cons_zero, List.set_cons_succ]
              refine wpR_take (i := 2) (v := ?_) (⟨fun _ => rfl, Eq.trans⟩) (some 78) rfl (by kernel_rfl) (by kernel_rfl) (by kernel_rfl) (by kernel_rfl) (by kernel_rfl) (fun _ _ _ h => h) (by kernel_rfl) (fun w' hw' => ?_) ?_
              rotate_left
              · go_simp; with_reducible rfl
              simp only [Act.put, List.setIfInBounds_toArray, List.set_cons_zero, List.set_cons_succ]
              refine wpR_take (i := 3) (v := ?_) (⟨fun _ => rfl, Eq.trans⟩) (some 79) rfl (by kernel_rfl) (by kernel_rfl) (by kernel_rfl) (by kernel_rfl) (by kernel_rfl) (fun _ _ _ h => h) (by kernel_rfl) (fun w' hw' => ?_) ?_
              rotate_left
              · go_simp; with_reducible rfl
              simp only [Act.put, List.setIfInBounds_toArray, List.set_cons_zero, List.set_cons_succ]
              refine wpR_take (i := 4) (v := ?_) (⟨fun _ => rfl, Eq.trans⟩) (some 80) rfl (by kernel_rfl) (by kernel_rfl) (by kernel_rfl) (by kernel_rfl) (by kernel_rfl) (fun _ _ _ h => h) (by kernel_rfl) (fun w' hw' => ?_) ?_
              rotate_left
              · go_simp; with_reducible rfl
              simp only [Act.put, List.setIfInBounds_toArray, List.set_cons_zero, List.set_cons_succ]
              refine wpR_take (i := 5) (v := ?_) (⟨fun _ => rfl, Eq.trans⟩) (some 81) rfl (by kernel_rfl) (by kernel_rfl) (by kernel_rfl) (by kernel_rfl) (by kernel_rfl) (fun _ _ _ h => h) (by kernel_rfl) (fun w' hw' => ?_) ?_
              rotate_left
              · go_simp; with_reducible rfl
              simp only [Act.put, List.setIfInBounds_toArray, List.set_cons_zero, List.set_cons_succ]
              refine wpR_take (i := 6) (v := ?_) (⟨fun _ => rfl, Eq.trans⟩) (some 82) rfl (by kernel_rfl) (by kernel_rfl) (by kernel_rfl) (by kernel_rfl) (by kernel_rfl) (fun _ _ _ h => h) (by kernel_rfl) (fun w' hw' => ?_) ?_
              rotate_left
              · go_simp; with_reducible rfl
              simp only [Act.put, List.setIfInBounds_toArray, List.set_cons_zero, List.set_cons_succ]
              refine wpR_take (i := 7) (v := ?_) (⟨fun _ => rfl, Eq.trans⟩) (some 83) rfl (by kernel_rfl) (by kernel_rfl) (by kernel_rfl) (by kernel_rfl) (by kernel_rfl) (fun _ _ _ h => h) (by kernel_rfl) (fun w' hw' => ?_) ?_
              rotate_left
              · go_simp; with_reducible rfl
              simp only [Act.put, List.setIfInBounds_toArray, List.set_cons_zero, List.set_cons_succ]
              refine wpR_take (i := 8) (v := ?_) (⟨fun _ => rfl, Eq.trans⟩) (some 84) rfl (by kernel_rfl) (by kernel_rfl) (by kernel_rfl) (by kernel_rfl) (by kernel_rfl) (fun _ _ _ h => h) (by kernel_rfl) (fun w' hw' => ?_) ?_
              rotate_left
              · go_simp; with_reducible rfl
              simp only [Act.put, List.setIfInBounds_toArray, List.set_cons_zero, List.set_cons_succ]
              refine wpR_take (i := 9) (v := ?_) (⟨fun _ => rfl, Eq.trans⟩) (some 85) rfl (by kernel_rfl) (by kernel_rfl) (by kernel_rfl) (by kernel_rfl) (by kernel_rfl) (fun _ _ _ h => h) (by kernel_rfl) (fun w' hw' => ?_) ?_
              rotate_left
              · subst hw'; go_simp; with_reducible rfl
              simp only [Act.put, List.setIfInBounds_toArray, List.set_cons_zero, List.set_cons_succ]
              refine wpR_take (i := 10) (v := ?_) (⟨fun _ => rfl, Eq.trans⟩) (some 86) rfl (by kernel_rfl) (by kernel_rfl) (by kernel_rfl) (by kernel_rfl) (by kernel_rfl) (fun _ _ _ h => h) (by kernel_rfl) (fun w' hw' => ?_) ?_
              rotate_left
              · go_simp; with_reducible rfl
              simp only [Act.put, List.setIfInBounds_toArray, List.set_cons_zero, List.set_cons_succ]
              refine wpR_done (by kernel_rfl) ?_ _
              go_wp2_with fail
              go_ret2
              first
                | exact ⟨_, E, by rw [hsc.out]; simp, by rw [hsc.out]; simp, ho.out, hgr.out⟩
                | exact ⟨_, by rw [hsc.out]; simp, E, by rw [hsc.out]; simp, ho.out, hgr.out⟩
                | exact ⟨_, by rw [hsc.out]; simp; rfl, E, by rw [hsc.out]; simp, ho.out, hgr.out⟩
theorem rscan_any (b : List UInt8) (v : Value) (base : Nat) (hl : b.length ≤ 1000000) (w : World) (h : OB w base v b) :
    Calls Try.prog 24 #[v] w fun e w' => ∃ u E, e = .returned (.tuple #[u, .int .i64 (scanN b).2]) ∧ E.map (·.n) = (scanN b).1 ∧ ON E u w.heap.size w' ∧ Gr w w' :=
  rscan_at b v hl w (Byt.ob h) (fun hp => by
    obtain ⟨g, cap, hv, _, hlt⟩ := World.ownsRow.form h hp
    exact ⟨g, _, cap, hv⟩)
end Go.Proofs.Ytgdbbjijneidaaa
