/- place: PlaceTurned. -/
import Derived.Test.YtfiaedhdgbnfiaaPk15m
import Derived.Test.YtfiaedhdgbnfiaaPk13
import Derived.Test.YtfiaedhdgbnfiaaPk14m
namespace Go.Proofs.Ytfiaedhdgbnfiaa
set_option linter.unusedVariables false
set_option linter.unusedSimpArgs false
open Go Go.RowKit
set_option maxHeartbeats 8000000 in
set_option maxRecDepth 10000 in
theorem placeTurned_any (R : List Int) (v : Value) (nn : Nat) (hnn : nn ≤ 255) (At : Option Addr) (nt ct : Nat) (lt : List UInt8) (hnt : lt.length = nt) (hct : nt ≤ ct) (hcm : ct ≤ maxLen) (w : World) (hv : Hid (Ints R v w)) (ht : Rd w w.heap.size At lt) :
    Calls Try.prog 6 #[v, .int .u8 (nn : Int), .slice At nt ct] w fun e w' => e = .returned (.bool true) ∧ Gr w w' := by
  obtain ⟨A0, c0, rfl, hc0, hm0⟩ := hv.out.form
  obtain ⟨n, hn⟩ : ∃ n, R.length = n := ⟨_, rfl⟩
  rw [hn] at hv hc0 ⊢
  replace hn := Lib.hid hn
  obtain ⟨k6, hk⟩ : ∃ k, nn % 16 = k := ⟨_, rfl⟩
  have hk15 : k6 ≤ 15 := by omega
  have hmod := tmod16 hk
  have hw8 : IntKind.u8.wrap (k6 : Int) = (k6 : Int) := by rw [IntKind.wrap_u8]; omega
  replace hk := Lib.hid hk
  obtain ⟨B, hB⟩ : ∃ B, w.heap.size = B := ⟨_, rfl⟩
  have hml : ct ≤ 9223372036854775807 := by simpa [maxLen] using hcm
  rw [hB] at ht
  replace ht := Lib.hid ht
  obtain ⟨w1, hw1⟩ : ∃ w1, w1 = w.alloc (.cells #[] 32) := ⟨_, rfl⟩
  have hs0 : Hid (OF (lst (R.take 0)) (.slice (some ⟨B, 0, none⟩) 0 0) B w1) := Lib.hid (by rw [hw1, ← hB]; exact OF.empty w _ (Nat.le_refl _))
  have hq0 : Hid (Below B w w1) := Lib.hid (by rw [hw1, ← hB]; exact Gr.alloc _ _)
  have hz0 : Hid (B ≤ w1.heap.size) := Lib.hid (by rw [hw1, ← hB]; simp)
  go_enter Try.func6, Try.ntmps6
  go_upto_region 2 with (fail)
  rw [← hw1]
  have hBg : Hid (∀ x, Below B w x → Gr w x) := Lib.hid (fun x h => by unfold Gr; rw [hB]; exact h)
  replace hw1 := Lib.hid hw1
  replace hB := Lib.hid hB
  go_wp2_with fail
  go_loopw [7, 8] (fun s z wr => ∃ (k : Nat) (A7 : Option Addr) (c7 : Nat), k ≤ n ∧ k ≤ 40 ∧ z = .int .i64 k ∧ s = .slice A7 k c7 ∧ Hid (OF (lst (R.take k)) (.slice A7 k c7) B wr) ∧ Hid (Below B w wr) ∧ Hid (B ≤ wr.heap.size)) (fun _ z _ => (40 - intOf z).toNat)
  case atStart => exact ⟨0, some ⟨B, 0, none⟩, 0, Nat.zero_le _, Nat.zero_le _, rfl, rfl, hs0, hq0, hz0⟩
  case round =>
    obtain ⟨k, A7, c7, hkn, hk40, rfl, rfl, hs, hq, hz⟩ := hrel
    clear hs0 hq0 hz0
    have hlk : Hid ((lst (R.take k)).length = k) := Lib.hid (by rw [lst_len, List.length_take, hn.out]; omega)
    obtain ⟨d0, hd0⟩ : ∃ d0, d0 = (decide (k < n) && decide (k < 40)) := ⟨_, rfl⟩
    go_upto_region 3 with (fail)
    go_cut [26] (fun z wq => z = .bool d0 ∧ wr = wq)
    case first =>
      by_cases p1 : k < n
      · have ip1 : (k : Int) < (n : Int) := by omega
        by_cases p2 : k < 40
        · have ip2 : (k : Int) < 40 := by omega
          rw [decide_eq_true p1, decide_eq_true p2] at hd0
          subst hd0
          go_wp2_with fail
          go_meet
          exact ⟨by first | rfl | simp [*], rfl⟩
        · have ip2 : decide ((k : Int) < 40) = false := decide_eq_false (by omega)
          rw [decide_eq_true p1, decide_eq_false p2] at hd0
          subst hd0
          clear p2
          go_wp2_with fail
          go_meet
          exact ⟨by first | rfl | simp [*], rfl⟩
      · have ip1 : decide ((k : Int) < (n : Int)) = false := decide_eq_false (by omega)
        have ip1n : decide (k < n) = false := decide_eq_false p1
        rw [decide_eq_false p1, Bool.false_and] at hd0
        subst hd0
        clear p1
        go_wp2_with fail
        go_meet
        exact ⟨by first | rfl | simp [*], rfl⟩
    case rest =>
      obtain ⟨rfl, rfl⟩ := hcut
      cases d0 with
      | true =>
        have hkk : k < n ∧ k < 40 := by
          have := hd0.symm
          simp only [Bool.and_eq_true, decide_eq_true_eq] at this
          exact this
        obtain ⟨p1, p2⟩ := hkk
        have ik : (k : Int) < (n : Int) := by omega
        obtain ⟨b, o, rfl, hbl, hcl⟩ := (Ints.gr (hBg.out _ hq.out) hv).out.cells (by omega)
        obtain ⟨x, hx⟩ : ∃ x, R[k]? = some x := ⟨_, List.getElem?_eq_getElem (by rw [hn.out]; exact p1)⟩
        have cx := hcl k x hx
        have ix : I64 x := by
          obtain ⟨_, _, _, _, _, _, h9⟩ := hv.out
          exact h9 x (List.mem_of_getElem? hx)
        have htk : R.take (k + 1) = R.take k ++ [x] := by rw [List.take_add_one, hx]; rfl
        have hnext : Hid (lst (R.take (k + 1)) = lst (R.take k) ++ [((k : Int), x)]) := Lib.hid (by
          rw [htk, lst_snoc, List.length_take, hn.out, Nat.min_eq_left (by omega)])
        obtain ⟨W, hW⟩ : ∃ W, W = wr.alloc (.cells #[.int .i64 (k : Int), .int .i64 x] 32) := ⟨_, rfl⟩
        have hgW : Gr wr W := by rw [hW]; exact Gr.alloc _ _
        have hf := Lib.hid (Frs.one wr ((k : Int), x) ⟨by unfold I64; simp only; omega, ix⟩ 32)
        rw [← hW] at hf
        have hsW := OF.gr hgW hs
        have hqW : Hid (Below B w W) := Lib.hid (hq.out.trans (Below.mono hgW hz.out))
        have hzW : B ≤ W.heap.size := Nat.le_trans hz.out hgW.size
        have hll : (lst (R.take k)).length + [((k : Int), x)].length ≤ 100000000 := by rw [hlk.out]; simp; omega
        replace hW := Lib.hid hW.symm
        replace hx := Lib.hid hx
        replace htk := Lib.hid htk
        replace ix := Lib.hid ix
        replace hd0 := Lib.hid hd0
        clear hgW hs hq hcl hbl
        go_wp2_with (at_builtin; rw [hW.out]; go_must (refine wpl_appF rfl (.tmp 29) (.tmp 36) rfl B _ _ (lst (R.take k)) [((k : Int), x)] rfl hsW.out rfl hf.out hll hzW ?_); intro v6 w6 ho6 hg6 hloc6)
        have hl6 : (lst (R.take k) ++ [((k : Int), x)]).length = k + 1 := by rw [List.length_append, hlk.out]; rfl
        obtain ⟨A6, c6, rfl, hn6, hm6⟩ := ho6.form
        rw [hl6] at ho6 hn6 hloc6 ⊢
        have hq6 : Hid (Below B w w6) := Lib.hid (hqW.out.grown hg6 hzW (fun j hj => OF.up hsW.out j hj))
        have hz6 : Hid (B ≤ w6.heap.size) := Lib.hid (Nat.le_trans hzW hg6.size)
        go_roundw
        case rel => exact ⟨k + 1, A6, c6, by omega, by omega, by go_num, by first | rfl | trivial, Lib.hid (by rw [hnext.out]; exact ho6), hq6, hz6⟩
        case measure => simp [intOf]; omega
      | false =>
        replace hd0 := Lib.hid hd0
        have hap : Hid (Apart (lst (R.take k))) := Lib.hid (lst_apart _)
        obtain ⟨l, hl⟩ : ∃ l, lst (R.take k) = l := ⟨_, rfl⟩
        rw [hl] at hs hlk hap
        replace hl := Lib.hid hl
        clear hkn
        -- a copy
        obtain ⟨M, hM⟩ : ∃ M, wr.heap.size = M := ⟨_, rfl⟩
        obtain ⟨W, hW⟩ : ∃ W, W = wr.alloc (.cells #[] 32) := ⟨_, rfl⟩
        have hgW : Gr wr W := by rw [hW]; exact Gr.alloc _ _
        have hoW : Hid (OF [] (.slice (some ⟨M, 0, none⟩) 0 0) M W) := Lib.hid (by rw [hW, ← hM]; exact OF.empty _ _ (Nat.le_refl _))
        have hsrc := Lib.hid (OF.frs (OF.gr hgW hs).out)
        have hMW : M ≤ W.heap.size := by rw [← hM]; exact hgW.size
        have hBM : Hid (B ≤ M) := Lib.hid (by rw [← hM]; exact hz.out)
        have hll : ([] : List Fr).length + l.length ≤ 100000000 := by rw [hlk.out]; simp; omega
        have hbW : Hid (Below M wr W) := Lib.hid (by rw [← hM]; exact hgW)
        have hMg : Hid (∀ x, Below M wr x → Gr wr x) := Lib.hid (fun x h => by unfold Gr; rw [hM]; exact h)
        replace hW := Lib.hid hW.symm
        have hsf := Lib.hid (OF.frs hs.out)
        clear hgW hs
        go_upto_region 6 with (fail)
        go_upto_region 7 with (at_builtin; rw [hW.out]; go_must (refine wpl_appF rfl (.tmp 38) (.tmp 39) rfl M _ _ [] l rfl hoW.out rfl hsrc.out hll hMW ?_); intro v9 w9 ho9 hg9 hloc9)
        rw [List.nil_append] at ho9
        obtain ⟨A9, c9, rfl, hn9, hm9⟩ := ho9.form
        rw [hlk.out] at ho9 hn9 ⊢
        have hb9 : Hid (Below M wr w9) := Lib.hid (hbW.out.grown hg9 hMW (fun j hj => OF.up hoW.out j hj))
        have hz9 : Hid (M ≤ w9.heap.size) := Lib.hid (Nat.le_trans hMW hg9.size)
        replace ho9 := Lib.hid ho9
        replace hM := Lib.hid hM
        clear hoW hsrc hbW hg9 hloc9 hW
        go_wp2_with fail
        go_loopw [10] (fun z wq => ∃ (i : Nat) (m : List Fr), z = .int .i64 i ∧ i ≤ 62 ∧ Hid (m.Perm l) ∧ Hid (OF m (.slice A9 k c9) M wq) ∧ Hid (Below M wr wq) ∧ Hid (M ≤ wq.heap.size)) (fun z _ => (62 - intOf z).toNat)
        case atStart => exact ⟨0, l, rfl, Nat.zero_le _, Lib.hid (List.Perm.refl _), ho9, hb9, hz9⟩
        case round =>
          rename World => wq
          clear ho9 hb9 hz9
          obtain ⟨i, m, rfl, hi62, hpm, hm, hbq, hzq⟩ := hrel
          have hmk : Hid (m.length = k) := Lib.hid (by rw [hpm.out.length_eq]; exact hlk.out)
          have iw : IntKind.i64.wrap ((i : Int) + 1) = (i : Int) + 1 := i64_wrap_id (by omega) (by omega)
          obtain ⟨d1, hd1⟩ : ∃ d1, d1 = (decide (i + 1 < nt) && decide (i < 60) && decide (0 < k)) := ⟨_, rfl⟩
          go_upto_region 8 with (fail)
          go_cut [54] (fun z wz => z = .bool d1 ∧ wq = wz)
          case first =>
            by_cases p1 : i + 1 < nt
            · have ip1 : (i : Int) + 1 < (nt : Int) := by omega
              by_cases p2 : i < 60
              · have ip2 : (i : Int) < 60 := by omega
                by_cases p3 : 0 < k
                · have ip3 : (0 : Int) < (k : Int) := by omega
                  rw [decide_eq_true p1, decide_eq_true p2, decide_eq_true p3] at hd1
                  subst hd1
                  go_wp2_with fail
                  go_meet
                  exact ⟨by first | rfl | simp [*], rfl⟩
                · have ip3 : decide ((0 : Int) < (k : Int)) = false := decide_eq_false (by omega)
                  have ip3n : decide (0 < k) = false := decide_eq_false (by omega)
                  rw [decide_eq_true p1, decide_eq_true p2, ip3n] at hd1
                  subst hd1
                  clear p3
                  go_wp2_with fail
                  go_meet
                  exact ⟨by first | rfl | simp [*], rfl⟩
              · have ip2 : decide ((i : Int) < 60) = false := decide_eq_false (by omega)
                rw [decide_eq_true p1, decide_eq_false p2] at hd1
                simp only [Bool.and_false, Bool.false_and] at hd1
                subst hd1
                clear p2
                go_wp2_with fail
                go_meet
                exact ⟨by first | rfl | simp [*], rfl⟩
            · have ip1 : decide ((i : Int) + 1 < (nt : Int)) = false := decide_eq_false (by omega)
              rw [decide_eq_false p1] at hd1
              simp only [Bool.and_false, Bool.false_and] at hd1
              subst hd1
              clear p1
              go_wp2_with fail
              go_meet
              exact ⟨by first | rfl | simp [*], rfl⟩
          case rest =>
            obtain ⟨rfl, rfl⟩ := hcut
            cases d1 with
            | true =>
              have hkk : (i + 1 < nt ∧ i < 60) ∧ 0 < k := by
                have := hd1.symm
                simp only [Bool.and_eq_true, decide_eq_true_eq] at this
                exact this
              obtain ⟨⟨p1, p2⟩, p3⟩ := hkk
              replace hd1 := Lib.hid hd1
              obtain ⟨wd, hwd⟩ : ∃ wd, wd = wq.drew := ⟨_, rfl⟩
              have hbd : Hid (Below M wr wd) := Lib.hid (by rw [hwd]; exact hbq.out.drew)
              have hmd : Hid (OF m (.slice A9 k c9) M wd) := Lib.hid (by rw [hwd]; exact ⟨World.ownsRow.drew hm.out.1, hm.out.2⟩)
              have hzd : Hid (M ≤ wd.heap.size) := Lib.hid (by rw [hwd]; exact hzq.out)
              have htd : Rd wd B At lt := (ht.out.below hq.out).below (Below.mono hbd.out hBM.out)
              obtain ⟨t1, ht1⟩ : ∃ t, lt[i]? = some t := ⟨_, List.getElem?_eq_getElem (by omega)⟩
              obtain ⟨t2, ht2⟩ : ∃ t, lt[i + 1]? = some t := ⟨_, List.getElem?_eq_getElem (by omega)⟩
              obtain ⟨ad, rfl, -, ct1⟩ := htd.get ht1
              obtain ⟨ad', e', -, ct2⟩ := htd.get ht2
              injection e' with e'
              subst e'
              have ct3 : wd.cell? ⟨ad.block, ad.off + (i + 1), none⟩ = some (.int .u8 (U t2)) := by
                have := ct2; unfold Addr.add at this; first | rwa [if_neg (by omega)] at this | simpa using this
              obtain ⟨p, hp⟩ : ∃ p, t1.toNat % k = p := ⟨_, rfl⟩
              obtain ⟨s, hs⟩ : ∃ s, t2.toNat % k = s := ⟨_, rfl⟩
              have hpk : p < k := by rw [← hp]; exact Nat.mod_lt _ p3
              have hsk : s < k := by rw [← hs]; exact Nat.mod_lt _ p3
              have mp : (U t1).tmod (k : Int) = (p : Int) := by
                unfold U; rw [Int.tmod_eq_emod_of_nonneg (by omega), ← hp]; rfl
              have ms : (U t2).tmod (k : Int) = (s : Int) := by
                unfold U; rw [Int.tmod_eq_emod_of_nonneg (by omega), ← hs]; rfl
              have wp_ : IntKind.i64.wrap (p : Int) = (p : Int) := i64_wrap_id (by omega) (by omega)
              have ws_ : IntKind.i64.wrap (s : Int) = (s : Int) := i64_wrap_id (by omega) (by omega)
              have ipk : (p : Int) < (k : Int) := by omega
              have isk : (s : Int) < (k : Int) := by omega
              have ik0 : ((k : Int) == 0) = false := by simp; omega
              have ik0n : k ≠ 0 := by omega
              have ii0 : (0 : Int) ≤ (i : Int) + 1 := by omega
              have ii1 : (i : Int) < (nt : Int) := by omega
              have ii2 : (i : Int) + 1 < (nt : Int) := by omega
              obtain ⟨g, cg, eg, hgc, hgm, hMg', hgl, -, -, -, -⟩ := row_at hmd.out.1 (by rw [hmk.out]; exact p3)
              have eg' : A9 = some ⟨g, 0, none⟩ := by injection eg
              subst eg'
              clear eg
              obtain ⟨g2, o2, e2, -, hcm'⟩ := (OF.frs hmd.out).cells (by omega)
              injection e2 with e2; injection e2 with e2 e3; subst e2 e3
              obtain ⟨x, hx⟩ : ∃ x, m[p]? = some x := ⟨_, List.getElem?_eq_getElem (by rw [hmk.out]; exact hpk)⟩
              obtain ⟨y, hy⟩ : ∃ y, m[s]? = some y := ⟨_, List.getElem?_eq_getElem (by rw [hmk.out]; exact hsk)⟩
              have hperm : Hid (((m.set p y).set s x).Perm l) := Lib.hid ((swap_perm hx hy).trans hpm.out)
              obtain ⟨x0, x1⟩ := hcm' p x hx
              obtain ⟨y0, y1⟩ := hcm' s y hy
              rw [Nat.zero_add] at x0 x1 y0 y1
              have ixy := hmd.out.2
              have ix := ixy x (List.mem_of_getElem? hx)
              have iy := ixy y (List.mem_of_getElem? hy)
              replace hx := Lib.hid hx
              replace hy := Lib.hid hy
              replace hp := Lib.hid hp
              replace hs := Lib.hid hs
              replace ht1 := Lib.hid ht1
              replace ht2 := Lib.hid ht2
              clear htd hcm' ixy
              go_upto_region 10 with (fail)
              refine wpR_region (Eq) 9999 (by kernel_rfl) ?_
              (rw [← hwd]; replace hwd := Lib.hid hwd)
              refine wpR_take (i := 0) (v := ?_) (⟨fun _ => rfl, Eq.trans⟩) (some 57) rfl (by kernel_rfl) (by kernel_rfl) (by kernel_rfl) (by kernel_rfl) (by kernel_rfl) (fun _ _ _ h => h) (by kernel_rfl) (fun w' hw' => ?_) ?_
              rotate_left
              · go_simp; with_reducible rfl
              simp only [Act.put, List.setIfInBounds_toArray, List.set_cons_zero, List.set_cons_succ]
              refine wpR_take (i := 1) (v := ?_) (⟨fun _ => rfl, Eq.trans⟩) (some 58) rfl (by kernel_rfl) (by kernel_rfl) (by kernel_rfl) (by kernel_rfl) (by kernel_rfl) (fun _ _ _ h => h) (by kernel_rfl) (fun w' hw' => ?_) ?_
              rotate_left
              · go_simp; with_reducible rfl
              simp only [Act.put, List.setIfInBounds_toArray, List.set_cons_zero, List.set_cons_succ]
              refine wpR_take (i := 2) (v := ?_) (⟨fun _ => rfl, Eq.trans⟩) (some 59) rfl (by kernel_rfl) (by kernel_rfl) (by kernel_rfl) (by kernel_rfl) (by kernel_rfl) (fun _ _ _ h => h) (by kernel_rfl) (fun w' hw' => ?_) ?_
              rotate_left
              · go_simp; with_reducible rfl
              simp only [Act.put, List.setIfInBounds_toArray, List.set_cons_zero, List.set_cons_succ]
              refine wpR_take (i := 3) (v := ?_) (⟨fun _ => rfl, Eq.trans⟩) (some 60) rfl (by kernel_rfl) (by kernel_rfl) (by kernel_rfl) (by kernel_rfl) (by kernel_rfl) (fun _ _ _ h => h) (by kernel_rfl) (fun w' hw' => ?_) ?_
              rotate_left
              · subst hw'; go_simp; with_reducible rfl
              simp only [Act.put, List.setIfInBounds_toArray, List.set_cons_zero, List.set_cons_succ]
              refine wpR_take (i := 4) (v := ?_) (⟨fun _ => rfl, Eq.trans⟩) (some 61) rfl (by kernel_rfl) (by kernel_rfl) (by kernel_rfl) (by kernel_rfl) (by kernel_rfl) (fun _ _ _ h => h) (by kernel_rfl) (fun w' hw' => ?_) ?_
              rotate_left
              · go_simp; with_reducible rfl
              simp only [Act.put, List.setIfInBounds_toArray, List.set_cons_zero, List.set_cons_succ]
              refine wpR_take (i := 5) (v := ?_) (⟨fun _ => rfl, Eq.trans⟩) (some 62) rfl (by kernel_rfl) (by kernel_rfl) (by kernel_rfl) (by kernel_rfl) (by kernel_rfl) (fun _ _ _ h => h) (by kernel_rfl) (fun w' hw' => ?_) ?_
              rotate_left
              · go_simp; with_reducible rfl
              simp only [Act.put, List.setIfInBounds_toArray, List.set_cons_zero, List.set_cons_succ]
              refine wpR_take (i := 6) (v := ?_) (⟨fun _ => rfl, Eq.trans⟩) (some 63) rfl (by kernel_rfl) (by kernel_rfl) (by kernel_rfl) (by kernel_rfl) (by kernel_rfl) (fun _ _ _ h => h) (by kernel_rfl) (fun w' hw' => ?_) ?_
              rotate_left
              · go_simp; with_reducible rfl
              simp only [Act.put, List.setIfInBounds_toArray, List.set_cons_zero, List.set_cons_succ]
              refine wpR_take (i := 7) (v := ?_) (⟨fun _ => rfl, Eq.trans⟩) (some 64) rfl (by kernel_rfl) (by kernel_rfl) (by kernel_rfl) (by kernel_rfl) (by kernel_rfl) (fun _ _ _ h => h) (by kernel_rfl) (fun w' hw' => ?_) ?_
              rotate_left
              · go_simp; with_reducible rfl
              simp only [Act.put, List.setIfInBounds_toArray, List.set_cons_zero, List.set_cons_succ]
              refine wpR_take (i := 8) (v := ?_) (⟨fun _ => rfl, Eq.trans⟩) (some 65) rfl (by kernel_rfl) (by kernel_rfl) (by kernel_rfl) (by kernel_rfl) (by kernel_rfl) (fun _ _ _ h => h) (by kernel_rfl) (fun w' hw' => ?_) ?_
              rotate_left
              · go_simp; with_reducible rfl
              simp only [Act.put, List.setIfInBounds_toArray, List.set_cons_zero, List.set_cons_succ]
              refine wpR_take (i := 9) (v := ?_) (⟨fun _ => rfl, Eq.trans⟩) (some 66) rfl (by kernel_rfl) (by kernel_rfl) (by kernel_rfl) (by kernel_rfl) (by kernel_rfl) (fun _ _ _ h => h) (by kernel_rfl) (fun w' hw' => ?_) ?_
              rotate_left
              · go_simp; with_reducible rfl
              simp only [Act.put, List.setIfInBounds_toArray, List.set_cons_zero, List.set_cons_succ]
              refine wpR_take (i := 10) (v := ?_) (⟨fun _ => rfl, Eq.trans⟩) (some 67) rfl (by kernel_rfl) (by kernel_rfl) (by kernel_rfl) (by kernel_rfl) (by kernel_rfl) (fun _ _ _ h => h) (by kernel_rfl) (fun w' hw' => ?_) ?_
              rotate_left
              · go_simp; with_reducible rfl
              simp only [Act.put, List.setIfInBounds_toArray, List.set_cons_zero, List.set_cons_succ]
              refine wpR_take (i := 11) (v := ?_) (⟨fun _ => rfl, Eq.trans⟩) (some 68) rfl (by kernel_rfl) (by kernel_rfl) (by kernel_rfl) (by kernel_rfl) (by kernel_rfl) (fun _ _ _ h => h) (by kernel_rfl) (fun w' hw' => ?_) ?_
              rotate_left
              · go_simp; with_reducible rfl
              simp only [Act.put, List.setIfInBounds_toArray, List.set_cons_zero, List.set_cons_succ]
              refine wpR_take (i := 12) (v := ?_) (⟨fun _ => rfl, Eq.trans⟩) (some 69) rfl (by kernel_rfl) (by kernel_rfl) (by kernel_rfl) (by kernel_rfl) (by kernel_rfl) (fun _ _ _ h => h) (by kernel_rfl) (fun w' hw' => ?_) ?_
              rotate_left
              · subst hw'; go_simp; with_reducible rfl
              simp only [Act.put, List.setIfInBounds_toArray, List.set_cons_zero, List.set_cons_succ]
              refine wpR_take (i := 13) (v := ?_) (⟨fun _ => rfl, Eq.trans⟩) (some 70) rfl (by kernel_rfl) (by kernel_rfl) (by kernel_rfl) (by kernel_rfl) (by kernel_rfl) (fun _ _ _ h => h) (by kernel_rfl) (fun w' hw' => ?_) ?_
              rotate_left
              · go_simp; with_reducible rfl
              simp only [Act.put, List.setIfInBounds_toArray, List.set_cons_zero, List.set_cons_succ]
              refine wpR_take (i := 14) (v := ?_) (⟨fun _ => rfl, Eq.trans⟩) (some 71) rfl (by kernel_rfl) (by kernel_rfl) (by kernel_rfl) (by kernel_rfl) (by kernel_rfl) (fun _ _ _ h => h) (by kernel_rfl) (fun w' hw' => ?_) ?_
              rotate_left
              · go_simp; with_reducible rfl
              simp only [Act.put, List.setIfInBounds_toArray, List.set_cons_zero, List.set_cons_succ]
              refine wpR_take (i := 15) (v := ?_) (⟨fun _ => rfl, Eq.trans⟩) (some 72) rfl (by kernel_rfl) (by kernel_rfl) (by kernel_rfl) (by kernel_rfl) (by kernel_rfl) (fun _ _ _ h => h) (by kernel_rfl) (fun w' hw' => ?_) ?_
              rotate_left
              · go_simp; with_reducible rfl
              simp only [Act.put, List.setIfInBounds_toArray, List.set_cons_zero, List.set_cons_succ]
              refine wpR_take (i := 16) (v := ?_) (⟨fun _ => rfl, Eq.trans⟩) (some 73) rfl (by kernel_rfl) (by kernel_rfl) (by kernel_rfl) (by kernel_rfl) (by kernel_rfl) (fun _ _ _ h => h) (by kernel_rfl) (fun w' hw' => ?_) ?_
              rotate_left
              · go_simp; with_reducible rfl
              simp only [Act.put, List.setIfInBounds_toArray, List.set_cons_zero, List.set_cons_succ]
              refine wpR_take (i := 17) (v := ?_) (⟨fun _ => rfl, Eq.trans⟩) (some 11) rfl (by kernel_rfl) (by kernel_rfl) (by kernel_rfl) (by kernel_rfl) (by kernel_rfl) (fun _ _ _ h => h) (by kernel_rfl) (fun w' hw' => ?_) ?_
              rotate_left
              · go_simp; with_reducible rfl
              simp only [Act.put, List.setIfInBounds_toArray, List.set_cons_zero, List.set_cons_succ]
              refine wpR_take (i := 18) (v := ?_) (⟨fun _ => rfl, Eq.trans⟩) (some 12) rfl (by kernel_rfl) (by kernel_rfl) (by kernel_rfl) (by kernel_rfl) (by kernel_rfl) (fun _ _ _ h => h) (by kernel_rfl) (fun w' hw' => ?_) ?_
              rotate_left
              · go_simp; with_reducible rfl
              simp only [Act.put, List.setIfInBounds_toArray, List.set_cons_zero, List.set_cons_succ]
              refine wpR_done (by kernel_rfl) ?_ _
              go_upto_region 12 with (fail)
              obtain ⟨gx, hgx⟩ : ∃ gx, wd.heap.size = gx := ⟨_, rfl⟩
              obtain ⟨W2, hW2⟩ : ∃ W2, W2 = wd.alloc (.cells #[.int .i64 x.1, .int .i64 x.2] 32) := ⟨_, rfl⟩
              have hgW2 : Gr wd W2 := by rw [hW2]; exact Gr.alloc _ _
              have hs2 : Hid (W2.heap.size = gx + 1) := Lib.hid (by rw [hW2, ← hgx]; simp)
              have hgg : g < gx := by rw [← hgx]; exact hgl
              have xx0 : W2.cell? ⟨gx, 0, none⟩ = some (.int .i64 x.1) := by rw [hW2, ← hgx]; exact cell_new wd _ _ rfl
              have xx1 : W2.cell? ⟨gx, 1, none⟩ = some (.int .i64 x.2) := by rw [hW2, ← hgx]; exact cell_new wd _ _ rfl
              replace y0 := (cellGr hgW2 hgl).trans y0
              replace y1 := (cellGr hgW2 hgl).trans y1
              have hm2 := OF.gr hgW2 hmd
              have hb2 : Hid (Below M wr W2) := Lib.hid (hbd.out.trans (Below.mono hgW2 hzd.out))
              have hz2 : Hid (M ≤ W2.heap.size) := Lib.hid (Nat.le_trans hzd.out hgW2.size)
              rw [← hW2, hgx]
              replace hW2 := Lib.hid hW2
              clear hgW2 x0 x1 hgl hmd hbd hzd
              obtain ⟨hput, hup, hth⟩ := OF.put hm2.out (k := p) (by rw [hmk.out]; exact hpk) y iy
              have hb3 : Hid (Below M wr (W2.setCells g (p * 2) [.int .i64 y.1, .int .i64 y.2])) := Lib.hid (Upd.to_below hb2.out hup hz2.out (fun j hj => by rw [hj]; exact hMg'))
              have hz3 : Hid (M ≤ (W2.setCells g (p * 2) [.int .i64 y.1, .int .i64 y.2]).heap.size) := Lib.hid (Nat.le_trans hz2.out hup.2.2.2.1)
              have hblk : (W2.setCells g (p * 2) [.int .i64 y.1, .int .i64 y.2]).heap[gx]? = W2.heap[gx]? := hup.2.2.2.2 gx (by rw [hs2.out]; omega) (by omega)
              have z0 : (W2.setCells g (p * 2) [.int .i64 y.1, .int .i64 y.2]).cell? ⟨gx, 0, none⟩ = some (.int .i64 x.1) := by
                rw [← xx0]; unfold World.cell?; simp only [hblk]
              have z1 : (W2.setCells g (p * 2) [.int .i64 y.1, .int .i64 y.2]).cell? ⟨gx, 1, none⟩ = some (.int .i64 x.2) := by
                rw [← xx1]; unfold World.cell?; simp only [hblk]
              obtain ⟨W3, hW3⟩ : ∃ W3, W2.setCells g (p * 2) [.int .i64 y.1, .int .i64 y.2] = W3 := ⟨_, rfl⟩
              rw [hW3] at hput hb3 hz3 z0 z1
              clear hup hblk xx0 xx1
              replace hth := Lib.hid hth
              replace hput := Lib.hid hput
              replace hW3 := Lib.hid hW3
              go_upto_region 13 with (refine wpList_store_mid rfl 32 (.tmp 84) (.tmp 83) rfl g (p * 2) #[.int .i64 y.1, .int .i64 y.2] rfl rfl hth.out free_size (all_oneCell_toArray (encF_one y)) ?_; rw [show (W2.setCells g (p * 2) #[Value.int .i64 y.1, .int .i64 y.2].toList) = W3 from hW3.out])
              obtain ⟨hput4, hup4, hth4⟩ := OF.put hput.out (k := s) (by rw [List.length_set, hmk.out]; exact hsk) x ix
              have hb4 : Hid (Below M wr (W3.setCells g (s * 2) [.int .i64 x.1, .int .i64 x.2])) := Lib.hid (Upd.to_below hb3.out hup4 hz3.out (fun j hj => by rw [hj]; exact hMg'))
              have hz4 : Hid (M ≤ (W3.setCells g (s * 2) [.int .i64 x.1, .int .i64 x.2]).heap.size) := Lib.hid (Nat.le_trans hz3.out hup4.2.2.2.1)
              obtain ⟨W4, hW4⟩ : ∃ W4, W3.setCells g (s * 2) [.int .i64 x.1, .int .i64 x.2] = W4 := ⟨_, rfl⟩
              rw [hW4] at hput4 hb4 hz4
              clear hup4 y0 y1
              replace hth4 := Lib.hid hth4
              replace hput4 := Lib.hid hput4
              replace hW4 := Lib.hid hW4
              have iw2 : IntKind.i64.wrap ((i : Int) + 2) = (i : Int) + 2 := i64_wrap_id (by omega) (by omega)
              go_wp2_with (refine wpList_store_mid rfl 32 (.tmp 88) (.tmp 87) rfl g (s * 2) #[.int .i64 x.1, .int .i64 x.2] rfl rfl hth4.out free_size (all_oneCell_toArray (encF_one x)) ?_; rw [show (W3.setCells g (s * 2) #[Value.int .i64 x.1, .int .i64 x.2].toList) = W4 from hW4.out])
              go_roundw
              case rel => exact ⟨i + 2, (m.set p y).set s x, by go_num, by omega, hperm, hput4, hb4, hz4⟩
              case measure => simp [intOf]; omega
            | false =>
              replace hd1 := Lib.hid hd1
              have hfl := Frs.gr (hMg.out _ hbq.out) hsf
              have hfm := Lib.hid (OF.frs hm.out)
              have hl60 : l.length ≤ 60 := by rw [hlk.out]; omega
              have hm60 : m.length ≤ 60 := by rw [hmk.out]; omega
              have hp1 := Lib.hid (pick_any l k6 (by unfold I64; omega) [] (.slice A7 k c7) (.slice none 0 0) wq hfl (Lib.hid (Ints.nil_ _ _ _ (Nat.zero_le _))) hl60 (by simp))
              have hp2 : Hid (∀ x, Gr wq x → Calls Try.prog 8 #[.slice A9 k c9, .int .i64 (k6 : Int), .slice none 0 0] x fun e w' => PickPost m k6 [] x e w') := Lib.hid (fun x hg => pick_any m k6 (by unfold I64; omega) [] _ _ x (Frs.gr hg hfm) (Lib.hid (Ints.nil_ _ _ _ (Nat.zero_le _))) hm60 (by simp))
              unfold PickPost at hp1 hp2
              have ea := pickOk_perm hpm.out (apart_perm hpm.out.symm hap.out) k6
              have eb := pickR_perm hpm.out (apart_perm hpm.out.symm hap.out) k6
              have hlen : (pickR l k6 []).length ≤ 1000000 := Nat.le_trans (pickR_len _ _ _) (Nat.le_trans (mayL_le _ _) (by omega))
              rw [ea, eb] at hp2
              obtain ⟨ok, hok⟩ : ∃ ok, pickOk l k6 [] = ok := ⟨_, rfl⟩
              obtain ⟨r, hr0⟩ : ∃ r, pickR l k6 [] = r := ⟨_, rfl⟩
              rw [hok, hr0] at hp1 hp2
              rw [hr0] at hlen
              clear ea eb
              replace hok := Lib.hid hok
              replace hr0 := Lib.hid hr0
              have i1 : (ok == ok) = true := by cases ok <;> rfl
              have i2 : (r == r) = true := by simp
              have hqz : Hid (Gr w wq) := Lib.hid (hBg.out _ (hq.out.trans (Below.mono hbq.out hBM.out)))
              go_upto_region 15 with (go_at_call 8; go_must (refine hp1.out.mono ?_); rintro e w5 ⟨va, rfl, ha, hg1⟩)
              replace hp2 := Lib.hid (hp2.out w5 hg1)
              go_upto_region 16 with (go_at_call 8; go_must (refine hp2.out.mono ?_); rintro e w6 ⟨vb, rfl, hb, hg2⟩)
              replace ha := OI.gr hg2 ha
              have haw := Lib.hid (awake14_any w6)
              have hsame : Hid (∀ w3, Gr w6 w3 → Calls Try.prog 11 #[va, vb] w3 fun e w' => e = .returned (.bool (r == r)) ∧ Gr w3 w') := Lib.hid (fun w3 hg => same_any r r va vb w3 (Lib.hid (OI.ints (OI.gr hg ha).out)) (Lib.hid (OI.ints (OI.gr hg hb).out)) hlen hlen)
              rw [i2] at hsame
              have hg := Lib.hid (hqz.out.trans (hg1.trans hg2))
              clear hp1 hp2 ha hb hg1 hg2 i2 hfl hfm hm hsf
              go_wp2_with (first
                | (go_at_call 10; go_must (refine haw.out.mono ?_); clear haw; rintro e w7 ⟨rfl, hg3⟩; replace hg3 := Lib.hid hg3; replace hsame := Lib.hid (hsame.out w7 hg3.out))
                | (go_at_call 11; go_must (refine hsame.out.mono ?_); rintro e w8 ⟨rfl, hg4⟩; replace hg4 := Lib.hid hg4))
              go_ret
              exact ⟨rfl, hg.out.trans (hg3.out.trans hg4.out)⟩
end Go.Proofs.Ytfiaedhdgbnfiaa
