/- place: PlaceMore. -/
import Derived.Test.YtfiaedhdgbnfiaaPk11
import Derived.Test.YtfiaedhdgbnfiaaPk12
import Derived.Test.YtfiaedhdgbnfiaaReg2
namespace Go.Proofs.Ytfiaedhdgbnfiaa
set_option linter.unusedVariables false
set_option linter.unusedSimpArgs false
open Go Go.RowKit
theorem OI.one (w : World) (base : Nat) (x : Int) (hx : I64 x) (hb : base ≤ w.heap.size) : OI [x] (.slice (some ⟨w.heap.size, 0, none⟩) 1 1) base (w.alloc (.cells #[.int .i64 x] 3)) :=
  ⟨⟨by simp [icells], .inr ⟨w.heap.size, 1, _, rfl, hb, heap_alloc_new w _, by simp, by decide, by simp, by simp [icells]⟩⟩, fun y hy => by simp at hy; subst hy; exact hx⟩
theorem wp_appI2 {w : World} {o : Oper} {a : Act} {Q : Exit → Act → World → Prop} {K : Act → World → Prop} (s x : Operand)
    (ho : o.op = .call { callee := .builtin .append, args := #[s, x], argTypes := #[23, 23] })
    (base : Nat) (v u : Value) (l news : List Int) (hs : a.eval s = v) (hown : OI l v base w) (hx : a.eval x = u) (hr : Ints news u w)
    (hlen : l.length + news.length ≤ 100000000) (hbase : base ≤ w.heap.size)
    (h : ∀ v' w', OI (l ++ news) v' base w' → w.grownBy w' v.ownBlock → (v'.ownBlock = v.ownBlock ∨ v'.ownBlock = some w.heap.size) → K (a.put o.dst v') w') : Oper.wp Try.prog o a w K Q := by
  obtain ⟨i0, hi, hz0, hz1, hz2⟩ := info_parts info_int
  obtain ⟨A, c, rfl, hrd⟩ := hr.reads
  refine wp_append_any w s x 23 ho base 3 i0 _ 1 8 Try.underlying23 hi hz0 hz1 hz2 rfl (by omega) v l.length (icells l) hs hown.1 w.heap.size A news.length c (icells news) hx hrd (icells_one news)
    (by simp only [maxLen]; omega) (by omega) hbase fun v' w' h2 h3 h4 => h v' w' ⟨?_, ?_⟩ h3 h4
  · rw [List.length_append, icells_app]; exact h2
  · intro y hy
    obtain ⟨_, _, _, _, _, _, h9⟩ := hr
    rcases List.mem_append.mp hy with h | h
    · exact hown.2 y h
    · exact h9 y h
theorem tmod16 {nn k : Nat} (h : nn % 16 = k) : (nn : Int).tmod 16 = (k : Int) := by
  rw [Int.tmod_eq_emod_of_nonneg (by omega)]; omega
set_option maxHeartbeats 8000000 in
set_option maxRecDepth 10000 in
theorem placeMore_any (L : List Fr) (but : List Int) (v u : Value) (nn : Nat) (hnn : nn ≤ 255) (w : World) (hv : Hid (Frs L v w)) (hu : Hid (Ints but u w)) :
    Calls Try.prog 5 #[v, .int .u8 (nn : Int), u] w fun e w' => e = .returned (.bool true) ∧ Gr w w' := by
  obtain ⟨A2, cap2, rfl, hc2, hm2, -, -⟩ := hu.out
  obtain ⟨nb, hnb⟩ : ∃ nb, but.length = nb := ⟨_, rfl⟩
  rw [hnb] at hu hc2 ⊢
  replace hnb := Lib.hid hnb
  have hfew := Lib.hid (few_any L v w hv)
  obtain ⟨k, hk⟩ : ∃ k, nn % 16 = k := ⟨_, rfl⟩
  have hk15 : k ≤ 15 := by omega
  have hmod := tmod16 hk
  have hw8 : IntKind.u8.wrap (k : Int) = (k : Int) := by rw [IntKind.wrap_u8]; omega
  replace hk := Lib.hid hk
  go_enter Try.func5, Try.ntmps5
  go_upto_if 19 with (go_at_call 7; go_must (refine hfew.out.mono ?_); rintro e w' ⟨v2, rfl, hv2, hee⟩; rw [hee]; clear hee)
  replace hv2 := Lib.hid hv2
  go_cut [2] (fun u2 wq => Hid (Ints (but.take 60) u2 w) ∧ w = wq)
  case first =>
    by_cases h60 : 60 < nb
    · have i1 : (60 : Int) < (nb : Int) := by omega
      have hT := Lib.hid (hu.out.take 60 (by rw [hnb.out]; omega))
      go_wp2_with fail
      go_meet
      exact ⟨hT, rfl⟩
    · have i1 : decide ((60 : Int) < (nb : Int)) = false := decide_eq_false (by omega)
      have hT : Hid (Ints (but.take 60) (.slice A2 nb cap2) w) := Lib.hid (by rw [List.take_of_length_le (by rw [hnb.out]; omega)]; exact hu.out)
      clear h60
      simp only [i1]
      go_wp2_with fail
      go_meet
      exact ⟨hT, rfl⟩
  case rest =>
    obtain ⟨hu2, rfl⟩ := hcut
    obtain ⟨l, hl⟩ : ∃ l, L.take 60 = l := ⟨_, rfl⟩
    obtain ⟨b, hb⟩ : ∃ b, but.take 60 = b := ⟨_, rfl⟩
    rw [hl] at hv2
    rw [hb] at hu2
    have hl60 : l.length ≤ 60 := by rw [← hl, List.length_take]; omega
    have hb60 : b.length ≤ 60 := by rw [← hb, List.length_take]; omega
    clear hl hb hfew hv hu
    go_upto_region 5 with (fail)
    have hp1 := Lib.hid (pick_any l k (by unfold I64; omega) b v2 u2 w hv2 hu2 hl60 (by omega))
    have hp2 : Hid (∀ w1, Gr w w1 → Calls Try.prog 8 #[v2, .int .i64 ((k : Int) + 1), u2] w1 fun e w' => PickPost l ((k : Int) + 1) b w1 e w') := Lib.hid (fun w1 hg => pick_any l ((k : Int) + 1) (by unfold I64; omega) b v2 u2 w1 (Frs.gr hg hv2) (Ints.gr hg hu2) hl60 (by omega))
    unfold PickPost at hp1 hp2
    have ek : ((k + 1 : Nat) : Int) = (k : Int) + 1 := by omega
    by_cases hy : k + 1 ≤ (mayL b l).length
    · obtain ⟨c, y1, y2, y3, y4, y5, y6⟩ := more_yes hy
      rw [ek] at y1 y4
      obtain ⟨r, hr⟩ : ∃ r, pickR l k b = r := ⟨_, rfl⟩
      rw [hr] at y1 y2 y6 hp1
      rw [y3] at hp1
      rw [y1, y4] at hp2
      have hp3 : Hid (∀ u3 w3, Hid (Ints (b ++ [c]) u3 w3) → Gr w w3 → Calls Try.prog 8 #[v2, .int .i64 (k : Int), u3] w3 fun e w' => ∃ v, e = .returned (.tuple #[v, .bool true]) ∧ Hid (OI r v w3.heap.size w') ∧ Gr w3 w') := Lib.hid (fun u3 w3 hu3 hg => by
        have := pick_any l k (by unfold I64; omega) (b ++ [c]) v2 u3 w3 (Frs.gr hg hv2) hu3 hl60 (by simp; omega)
        unfold PickPost at this
        rw [y5, y6] at this
        exact this)
      have irr : (r == r) = true := by simp
      have hrc : (r ++ [c]).length = k + 1 := by simp [y2]
      have htk : (r ++ [c]).take k = r := by rw [← y2]; simp
      clear y1 y3 y4 y5 y6 hr hy
      go_upto_region 6 with (go_at_call 8; go_must (refine hp1.out.mono ?_); rintro e w1 ⟨va, rfl, hva, hg1⟩)
      replace hp2 := Lib.hid (hp2.out w1 hg1)
      go_upto_region 7 with (go_at_call 8; go_must (refine hp2.out.mono ?_); rintro e w2 ⟨vb, rfl, hvb, hg2⟩)
      replace hva := OI.gr hg2 hva
      have hg12 := Lib.hid (hg1.trans hg2)
      obtain ⟨Ab, cb, rfl, hnb2, hmb2⟩ := hvb.out.form
      rw [hrc] at hvb hnb2 ⊢
      have hvbt : Hid (Ints r (.slice Ab k cb) w2) := Lib.hid (by
        have := (OI.ints hvb.out).take k (by rw [hrc]; omega)
        rwa [htk] at this)
      have hsm := Lib.hid (same_any r r (.slice Ab k cb) va w2 hvbt (Lib.hid (OI.ints hva.out)) (by omega) (by omega))
      rw [irr] at hsm
      have hkc : k ≤ cb := by omega
      replace hrc := Lib.hid hrc
      replace htk := Lib.hid htk
      clear hp1 hp2 hg1 hg2
      go_upto_region 11 with (go_at_call 11; go_must (refine hsm.out.mono ?_); rintro e w5 ⟨rfl, hg5⟩)
      clear hsm hvbt
      obtain ⟨wd, hwd⟩ : ∃ wd, wd = w5.drew := ⟨_, rfl⟩
      have hgd2 : Hid (Gr w2 wd) := Lib.hid (by rw [hwd]; exact hg5.drew)
      have hgd : Hid (Gr w wd) := Lib.hid (hg12.out.trans hgd2.out)
      replace hva := OI.gr hgd2.out hva
      replace hvb := OI.gr hgd2.out hvb
      obtain ⟨A', c', e', -, -, h3, h4⟩ := OI.ints hvb.out
      rw [hrc.out] at e' h3
      injection e' with e1 _ e2
      subst e1 e2
      obtain ⟨bk, ok, rfl, hbk, hck⟩ := h3 (by omega)
      have hcell := hck k c (by rw [List.getElem?_append_right (by omega), y2]; simp)
      have hc64 : Hid (I64 c) := Lib.hid (h4 c (by simp))
      have hki : (k : Int) < (k : Int) + 1 := by omega
      clear h3 h4 hck hgd2 hg5 hg12
      obtain ⟨B0, hB0⟩ : ∃ B0, wd.heap.size = B0 := ⟨_, rfl⟩
      have hqd : Hid (Below B0 wd wd) := Lib.hid (Below.refl _ _)
      have hzd : Hid (B0 ≤ wd.heap.size) := Lib.hid (by omega)
      have hBg : Hid (∀ x, Below B0 wd x → Gr wd x) := Lib.hid (fun x h => by unfold Gr; rw [hB0]; exact h)
      replace hB0 := Lib.hid hB0
      refine wpR_region (Below B0) 9999 (by kernel_rfl) ?_
      (rw [← hwd]; replace hwd := Lib.hid hwd)
      refine wpR_take (i := 0) (v := ?_) (⟨fun x => Below.refl _ x, fun h1 h2 => h1.trans h2⟩) (some 69) rfl (by kernel_rfl) (by kernel_rfl) (by kernel_rfl) (by kernel_rfl) (by kernel_rfl) (fun _ _ _ h => h) (by kernel_rfl) (fun w' hw' => ?_) ?_
      rotate_left
      · go_simp; with_reducible rfl
      simp only [Act.put, List.setIfInBounds_toArray, List.set_cons_zero, List.set_cons_succ]
      refine wpR_take (i := 1) (v := ?_) (⟨fun x => Below.refl _ x, fun h1 h2 => h1.trans h2⟩) (some 70) rfl (by kernel_rfl) (by kernel_rfl) (by kernel_rfl) (by kernel_rfl) (by kernel_rfl) (fun _ _ _ h => h) (by kernel_rfl) (fun w' hw' => ?_) ?_
      rotate_left
      · go_simp; with_reducible rfl
      simp only [Act.put, List.setIfInBounds_toArray, List.set_cons_zero, List.set_cons_succ]
      refine wpR_take (i := 3) (v := ?_) (⟨fun x => Below.refl _ x, fun h1 h2 => h1.trans h2⟩) (some 72) rfl (by kernel_rfl) (by kernel_rfl) (by kernel_rfl) (by kernel_rfl) (by kernel_rfl) (fun _ _ _ h => h) (by kernel_rfl) (fun w' hw' => ?_) ?_
      rotate_left
      · go_simp; with_reducible rfl
      simp only [Act.put, List.setIfInBounds_toArray, List.set_cons_zero, List.set_cons_succ]
      refine wpR_take (i := 5) (v := ?_) (⟨fun x => Below.refl _ x, fun h1 h2 => h1.trans h2⟩) (some 74) rfl (by kernel_rfl) (by kernel_rfl) (by kernel_rfl) (by kernel_rfl) (by kernel_rfl) (fun _ _ _ h => h) (by kernel_rfl) (fun w' hw' => ?_) ?_
      rotate_left
      · go_simp; with_reducible rfl
      simp only [Act.put, List.setIfInBounds_toArray, List.set_cons_zero, List.set_cons_succ]
      refine wpR_take (i := 6) (v := ?_) (⟨fun x => Below.refl _ x, fun h1 h2 => h1.trans h2⟩) (some 75) rfl (by kernel_rfl) (by kernel_rfl) (by kernel_rfl) (by kernel_rfl) (by kernel_rfl) (fun _ _ _ h => h) (by kernel_rfl) (fun w' hw' => ?_) ?_
      rotate_left
      · go_simp; with_reducible rfl
      simp only [Act.put, List.setIfInBounds_toArray, List.set_cons_zero, List.set_cons_succ]
      refine wpR_take (i := 7) (v := ?_) (⟨fun x => Below.refl _ x, fun h1 h2 => h1.trans h2⟩) (some 76) rfl (by kernel_rfl) (by kernel_rfl) (by kernel_rfl) (by kernel_rfl) (by kernel_rfl) (fun _ _ _ h => h) (by kernel_rfl) (fun w' hw' => ?_) ?_
      rotate_left
      · go_simp; with_reducible rfl
      simp only [Act.put, List.setIfInBounds_toArray, List.set_cons_zero, List.set_cons_succ]
      refine wpR_take (i := 8) (v := ?_) (⟨fun x => Below.refl _ x, fun h1 h2 => h1.trans h2⟩) (some 77) rfl (by kernel_rfl) (by kernel_rfl) (by kernel_rfl) (by kernel_rfl) (by kernel_rfl) (fun _ _ _ h => h) (by kernel_rfl) (fun w' hw' => ?_) ?_
      rotate_left
      · have qb := (cellGr (hBg.out _ hw') hbk).trans hcell; go_simp; with_reducible rfl
      simp only [Act.put, List.setIfInBounds_toArray, List.set_cons_zero, List.set_cons_succ]
      refine wpR_two 2 9 rfl rfl (by kernel_rfl) (by kernel_rfl) (by kernel_rfl) (fun K hK => ?_) (fun K hK => ?_)
      · go_simp
        obtain ⟨g2, hg2⟩ : ∃ g2, wd.heap.size = g2 := ⟨_, rfl⟩
        obtain ⟨W2, hW2⟩ : ∃ W2, W2 = wd.alloc (.cells #[] 3) := ⟨_, rfl⟩
        have hr2 : Below B0 wd W2 := by rw [hW2]; exact (Below.refl _ _).alloc hzd.out _
        have hs2 : W2.heap.size = g2 + 1 := by rw [hW2, ← hg2]; simp
        have ho2 : Hid (OI [] (.slice (some ⟨g2, 0, none⟩) 0 0) B0 W2) := Lib.hid (by rw [hW2, ← hg2]; exact OI.empty _ _ hzd.out)
        have hq2 : Hid (Below B0 wd W2) := Lib.hid (hqd.out.trans hr2)
        have hz2 : Hid (B0 ≤ W2.heap.size) := Lib.hid (by have := hzd.out; omega)
        rw [← hW2, hg2]
        replace hW2 := Lib.hid hW2
        replace hg2 := Lib.hid hg2
        replace hs2 := Lib.hid hs2
        refine hK _ _ (fun _ => hr2) ?_
        clear hK K
        try simp only [Act.put, List.setIfInBounds_toArray, List.set_cons_zero, List.set_cons_succ]
        refine wpR_two 4 9 rfl rfl (by kernel_rfl) (by kernel_rfl) (by kernel_rfl) (fun K hK => ?_) (fun K hK => ?_)
        · refine wp_appI2 (.tmp 71) (.tmp 72) rfl B0 _ u2 [] b rfl ho2.out rfl (Ints.gr (hgd.out.trans (hBg.out _ hq2.out)) hu2).out (by simp; omega) hz2.out ?_
          intro v4 W4 ho4 hgr4 hloc4
          rw [List.nil_append] at ho4
          have hr4 : Below B0 W2 W4 := (Below.refl _ _).grown hgr4 hz2.out (fun j hj => OI.up ho2.out j hj)
          replace ho4 := Lib.hid ho4
          have hq4 : Hid (Below B0 wd W4) := Lib.hid (hq2.out.trans hr4)
          have hz4 : Hid (B0 ≤ W4.heap.size) := Lib.hid (Nat.le_trans hz2.out hr4.size)
          refine hK _ _ (fun _ => hr4) ?_
          clear hK K
          clear hgr4 hloc4 hr4
          try simp only [Act.put, List.setIfInBounds_toArray, List.set_cons_zero, List.set_cons_succ]
          refine wpR_one 9 rfl (by kernel_rfl) (by kernel_rfl) (fun K hK => ?_)
          go_simp
          obtain ⟨g9, hg9⟩ : ∃ g9, W4.heap.size = g9 := ⟨_, rfl⟩
          obtain ⟨W9, hW9⟩ : ∃ W9, W9 = W4.alloc (.cells #[.int .i64 c] 3) := ⟨_, rfl⟩
          have hr9 : Below B0 W4 W9 := by rw [hW9]; exact (Below.refl _ _).alloc hz4.out _
          have hs9 : W9.heap.size = g9 + 1 := by rw [hW9, ← hg9]; simp
          have ho9 : Hid (OI [c] (.slice (some ⟨g9, 0, none⟩) 1 1) B0 W9) := Lib.hid (by rw [hW9, ← hg9]; exact OI.one _ _ c hc64.out hz4.out)
          replace ho4 : Hid (OI b v4 B0 W9) := OI.gr (by rw [hW9]; exact Gr.alloc _ _) ho4
          have hq9 : Hid (Below B0 wd W9) := Lib.hid (hq4.out.trans hr9)
          have hz9 : Hid (B0 ≤ W9.heap.size) := Lib.hid (by have := hz4.out; omega)
          rw [← hW9, hg9]
          replace hW9 := Lib.hid hW9
          replace hg9 := Lib.hid hg9
          replace hs9 := Lib.hid hs9
          refine hK _ _ (fun _ => hr9) ?_
          clear hK K
          try simp only [Act.put, List.setIfInBounds_toArray, List.set_cons_zero, List.set_cons_succ]
          refine wpR_one 10 rfl (by kernel_rfl) (by kernel_rfl) (fun K hK => ?_)
          refine wp_appI2 (.tmp 73) (.tmp 78) rfl B0 _ _ b [c] rfl ho4.out rfl (OI.ints ho9.out) (by simp; omega) hz9.out ?_
          intro v10 W10 ho10 hgr10 hloc10
          have hr10 : Below B0 W9 W10 := (Below.refl _ _).grown hgr10 hz9.out (fun j hj => OI.up ho4.out j hj)
          replace ho10 := Lib.hid ho10
          have hq10 : Hid (Below B0 wd W10) := Lib.hid (hq9.out.trans hr10)
          have hz10 : Hid (B0 ≤ W10.heap.size) := Lib.hid (Nat.le_trans hz9.out hr10.size)
          refine hK _ _ (fun _ => hr10) ?_
          clear hK K
          clear hgr10 hloc10 hr10
          try simp only [Act.put, List.setIfInBounds_toArray, List.set_cons_zero, List.set_cons_succ]
          refine wpR_one 11 rfl (by kernel_rfl) (by kernel_rfl) (fun K hK => ?_)
          go_simp
          have hcall := hp3.out v10 W10 (Lib.hid (OI.ints ho10.out)) (hgd.out.trans (hBg.out _ hq10.out))
          refine hcall.mono ?_
          rintro e w11 ⟨vc, rfl, hvc, hg11⟩
          have hr11 : Below B0 W10 w11 := Below.mono hg11 hz10.out
          refine hK _ _ (fun _ => hr11) ?_
          clear hK K
          have hq11d : Hid (Gr wd w11) := Lib.hid (hBg.out _ (hq10.out.trans hr11))
          have hq11 : Hid (Gr w w11) := Lib.hid (hgd.out.trans hq11d.out)
          clear hcall hr11
          try simp only [Act.put, List.setIfInBounds_toArray, List.set_cons_zero, List.set_cons_succ]
          refine wpR_take (i := 12) (v := ?_) (⟨fun x => Below.refl _ x, fun h1 h2 => h1.trans h2⟩) (some 68) rfl (by kernel_rfl) (by kernel_rfl) (by kernel_rfl) (by kernel_rfl) (by kernel_rfl) (fun _ _ _ h => h) (by kernel_rfl) (fun w' hw' => ?_) ?_
          rotate_left
          · go_simp; with_reducible rfl
          simp only [Act.put, List.setIfInBounds_toArray, List.set_cons_zero, List.set_cons_succ]
          refine wpR_take (i := 13) (v := ?_) (⟨fun x => Below.refl _ x, fun h1 h2 => h1.trans h2⟩) (some 81) rfl (by kernel_rfl) (by kernel_rfl) (by kernel_rfl) (by kernel_rfl) (by kernel_rfl) (fun _ _ _ h => h) (by kernel_rfl) (fun w' hw' => ?_) ?_
          rotate_left
          · go_simp; with_reducible rfl
          simp only [Act.put, List.setIfInBounds_toArray, List.set_cons_zero, List.set_cons_succ]
          refine wpR_take (i := 14) (v := ?_) (⟨fun x => Below.refl _ x, fun h1 h2 => h1.trans h2⟩) (some 82) rfl (by kernel_rfl) (by kernel_rfl) (by kernel_rfl) (by kernel_rfl) (by kernel_rfl) (fun _ _ _ h => h) (by kernel_rfl) (fun w' hw' => ?_) ?_
          rotate_left
          · go_simp; with_reducible rfl
          simp only [Act.put, List.setIfInBounds_toArray, List.set_cons_zero, List.set_cons_succ]
          refine wpR_take (i := 15) (v := ?_) (⟨fun x => Below.refl _ x, fun h1 h2 => h1.trans h2⟩) (some 13) rfl (by kernel_rfl) (by kernel_rfl) (by kernel_rfl) (by kernel_rfl) (by kernel_rfl) (fun _ _ _ h => h) (by kernel_rfl) (fun w' hw' => ?_) ?_
          rotate_left
          · go_simp; with_reducible rfl
          simp only [Act.put, List.setIfInBounds_toArray, List.set_cons_zero, List.set_cons_succ]
          refine wpR_take (i := 16) (v := ?_) (⟨fun x => Below.refl _ x, fun h1 h2 => h1.trans h2⟩) (some 14) rfl (by kernel_rfl) (by kernel_rfl) (by kernel_rfl) (by kernel_rfl) (by kernel_rfl) (fun _ _ _ h => h) (by kernel_rfl) (fun w' hw' => ?_) ?_
          rotate_left
          · go_simp; with_reducible rfl
          simp only [Act.put, List.setIfInBounds_toArray, List.set_cons_zero, List.set_cons_succ]
          refine wpR_done (by kernel_rfl) ?_ _
          have haw := Lib.hid (awake14_any w11)
          have hsame : Hid (∀ w3, Gr w11 w3 → Calls Try.prog 11 #[vc, va] w3 fun e w' => e = .returned (.bool (r == r)) ∧ Gr w3 w') := Lib.hid (fun w3 hg => same_any r r vc va w3 (Lib.hid (OI.ints (OI.gr hg hvc).out)) (Lib.hid (OI.ints (OI.gr (hq11d.out.trans hg) hva).out)) (by omega) (by omega))
          rw [irr] at hsame
          clear hp3 hva hvb hvc hv2 hu2 hq10 hqd hgd
          go_wp2_with (first
            | (go_at_call 10; go_must (refine haw.out.mono ?_); clear haw; rintro e w3 ⟨rfl, hg3⟩; replace hg3 := Lib.hid hg3; replace hsame := Lib.hid (hsame.out w3 hg3.out))
            | (go_at_call 11; go_must (refine hsame.out.mono ?_); rintro e w4 ⟨rfl, hg4⟩; replace hg4 := Lib.hid hg4))
          go_ret
          exact ⟨rfl, hq11.out.trans (hg3.out.trans hg4.out)⟩
        · go_simp
          obtain ⟨g9, hg9⟩ : ∃ g9, W2.heap.size = g9 := ⟨_, rfl⟩
          obtain ⟨W9, hW9⟩ : ∃ W9, W9 = W2.alloc (.cells #[.int .i64 c] 3) := ⟨_, rfl⟩
          have hr9 : Below B0 W2 W9 := by rw [hW9]; exact (Below.refl _ _).alloc hz2.out _
          have hs9 : W9.heap.size = g9 + 1 := by rw [hW9, ← hg9]; simp
          have ho9 : Hid (OI [c] (.slice (some ⟨g9, 0, none⟩) 1 1) B0 W9) := Lib.hid (by rw [hW9, ← hg9]; exact OI.one _ _ c hc64.out hz2.out)
          have hne : g9 ≠ g2 := by have := hs2.out; omega
          replace ho2 : Hid (OI [] (.slice (some ⟨g2, 0, none⟩) 0 0) B0 W9) := OI.gr (by rw [hW9]; exact Gr.alloc _ _) ho2
          have hq9 : Hid (Below B0 wd W9) := Lib.hid (hq2.out.trans hr9)
          have hz9 : Hid (B0 ≤ W9.heap.size) := Lib.hid (by have := hz2.out; omega)
          rw [← hW9, hg9]
          replace hW9 := Lib.hid hW9
          replace hg9 := Lib.hid hg9
          replace hs9 := Lib.hid hs9
          refine hK _ _ (fun _ => hr9) ?_
          clear hK K
          try simp only [Act.put, List.setIfInBounds_toArray, List.set_cons_zero, List.set_cons_succ]
          refine wpR_one 4 rfl (by kernel_rfl) (by kernel_rfl) (fun K hK => ?_)
          refine wp_appI2 (.tmp 71) (.tmp 72) rfl B0 _ u2 [] b rfl ho2.out rfl (Ints.gr (hgd.out.trans (hBg.out _ hq9.out)) hu2).out (by simp; omega) hz9.out ?_
          intro v4 W4 ho4 hgr4 hloc4
          rw [List.nil_append] at ho4
          have hr4 : Below B0 W9 W4 := (Below.refl _ _).grown hgr4 hz9.out (fun j hj => OI.up ho2.out j hj)
          replace ho9 : Hid (OI [c] (.slice (some ⟨g9, 0, none⟩) 1 1) B0 W4) := Lib.hid (OI.kept ho9.out hgr4 (fun e => hne (by injection e)))
          replace ho4 := Lib.hid ho4
          have hq4 : Hid (Below B0 wd W4) := Lib.hid (hq9.out.trans hr4)
          have hz4 : Hid (B0 ≤ W4.heap.size) := Lib.hid (Nat.le_trans hz9.out hr4.size)
          refine hK _ _ (fun _ => hr4) ?_
          clear hK K
          clear hgr4 hloc4 hr4
          try simp only [Act.put, List.setIfInBounds_toArray, List.set_cons_zero, List.set_cons_succ]
          refine wpR_one 10 rfl (by kernel_rfl) (by kernel_rfl) (fun K hK => ?_)
          refine wp_appI2 (.tmp 73) (.tmp 78) rfl B0 _ _ b [c] rfl ho4.out rfl (OI.ints ho9.out) (by simp; omega) hz4.out ?_
          intro v10 W10 ho10 hgr10 hloc10
          have hr10 : Below B0 W4 W10 := (Below.refl _ _).grown hgr10 hz4.out (fun j hj => OI.up ho4.out j hj)
          replace ho10 := Lib.hid ho10
          have hq10 : Hid (Below B0 wd W10) := Lib.hid (hq4.out.trans hr10)
          have hz10 : Hid (B0 ≤ W10.heap.size) := Lib.hid (Nat.le_trans hz4.out hr10.size)
          refine hK _ _ (fun _ => hr10) ?_
          clear hK K
          clear hgr10 hloc10 hr10
          try simp only [Act.put, List.setIfInBounds_toArray, List.set_cons_zero, List.set_cons_succ]
          refine wpR_one 11 rfl (by kernel_rfl) (by kernel_rfl) (fun K hK => ?_)
          go_simp
          have hcall := hp3.out v10 W10 (Lib.hid (OI.ints ho10.out)) (hgd.out.trans (hBg.out _ hq10.out))
          refine hcall.mono ?_
          rintro e w11 ⟨vc, rfl, hvc, hg11⟩
          have hr11 : Below B0 W10 w11 := Below.mono hg11 hz10.out
          refine hK _ _ (fun _ => hr11) ?_
          clear hK K
          have hq11d : Hid (Gr wd w11) := Lib.hid (hBg.out _ (hq10.out.trans hr11))
          have hq11 : Hid (Gr w w11) := Lib.hid (hgd.out.trans hq11d.out)
          clear hcall hr11
          try simp only [Act.put, List.setIfInBounds_toArray, List.set_cons_zero, List.set_cons_succ]
          refine wpR_take (i := 12) (v := ?_) (⟨fun x => Below.refl _ x, fun h1 h2 => h1.trans h2⟩) (some 68) rfl (by kernel_rfl) (by kernel_rfl) (by kernel_rfl) (by kernel_rfl) (by kernel_rfl) (fun _ _ _ h => h) (by kernel_rfl) (fun w' hw' => ?_) ?_
          rotate_left
          · go_simp; with_reducible rfl
          simp only [Act.put, List.setIfInBounds_toArray, List.set_cons_zero, List.set_cons_succ]
          refine wpR_take (i := 13) (v := ?_) (⟨fun x => Below.refl _ x, fun h1 h2 => h1.trans h2⟩) (some 81) rfl (by kernel_rfl) (by kernel_rfl) (by kernel_rfl) (by kernel_rfl) (by kernel_rfl) (fun _ _ _ h => h) (by kernel_rfl) (fun w' hw' => ?_) ?_
          rotate_left
          · go_simp; with_reducible rfl
          simp only [Act.put, List.setIfInBounds_toArray, List.set_cons_zero, List.set_cons_succ]
          refine wpR_take (i := 14) (v := ?_) (⟨fun x => Below.refl _ x, fun h1 h2 => h1.trans h2⟩) (some 82) rfl (by kernel_rfl) (by kernel_rfl) (by kernel_rfl) (by kernel_rfl) (by kernel_rfl) (fun _ _ _ h => h) (by kernel_rfl) (fun w' hw' => ?_) ?_
          rotate_left
          · go_simp; with_reducible rfl
          simp only [Act.put, List.setIfInBounds_toArray, List.set_cons_zero, List.set_cons_succ]
          refine wpR_take (i := 15) (v := ?_) (⟨fun x => Below.refl _ x, fun h1 h2 => h1.trans h2⟩) (some 13) rfl (by kernel_rfl) (by kernel_rfl) (by kernel_rfl) (by kernel_rfl) (by kernel_rfl) (fun _ _ _ h => h) (by kernel_rfl) (fun w' hw' => ?_) ?_
          rotate_left
          · go_simp; with_reducible rfl
          simp only [Act.put, List.setIfInBounds_toArray, List.set_cons_zero, List.set_cons_succ]
          refine wpR_take (i := 16) (v := ?_) (⟨fun x => Below.refl _ x, fun h1 h2 => h1.trans h2⟩) (some 14) rfl (by kernel_rfl) (by kernel_rfl) (by kernel_rfl) (by kernel_rfl) (by kernel_rfl) (fun _ _ _ h => h) (by kernel_rfl) (fun w' hw' => ?_) ?_
          rotate_left
          · go_simp; with_reducible rfl
          simp only [Act.put, List.setIfInBounds_toArray, List.set_cons_zero, List.set_cons_succ]
          refine wpR_done (by kernel_rfl) ?_ _
          have haw := Lib.hid (awake14_any w11)
          have hsame : Hid (∀ w3, Gr w11 w3 → Calls Try.prog 11 #[vc, va] w3 fun e w' => e = .returned (.bool (r == r)) ∧ Gr w3 w') := Lib.hid (fun w3 hg => same_any r r vc va w3 (Lib.hid (OI.ints (OI.gr hg hvc).out)) (Lib.hid (OI.ints (OI.gr (hq11d.out.trans hg) hva).out)) (by omega) (by omega))
          rw [irr] at hsame
          clear hp3 hva hvb hvc hv2 hu2 hq10 hqd hgd
          go_wp2_with (first
            | (go_at_call 10; go_must (refine haw.out.mono ?_); clear haw; rintro e w3 ⟨rfl, hg3⟩; replace hg3 := Lib.hid hg3; replace hsame := Lib.hid (hsame.out w3 hg3.out))
            | (go_at_call 11; go_must (refine hsame.out.mono ?_); rintro e w4 ⟨rfl, hg4⟩; replace hg4 := Lib.hid hg4))
          go_ret
          exact ⟨rfl, hq11.out.trans (hg3.out.trans hg4.out)⟩
      · go_simp
        obtain ⟨g9, hg9⟩ : ∃ g9, wd.heap.size = g9 := ⟨_, rfl⟩
        obtain ⟨W9, hW9⟩ : ∃ W9, W9 = wd.alloc (.cells #[.int .i64 c] 3) := ⟨_, rfl⟩
        have hr9 : Below B0 wd W9 := by rw [hW9]; exact (Below.refl _ _).alloc hzd.out _
        have hs9 : W9.heap.size = g9 + 1 := by rw [hW9, ← hg9]; simp
        have ho9 : Hid (OI [c] (.slice (some ⟨g9, 0, none⟩) 1 1) B0 W9) := Lib.hid (by rw [hW9, ← hg9]; exact OI.one _ _ c hc64.out hzd.out)
        have hq9 : Hid (Below B0 wd W9) := Lib.hid (hqd.out.trans hr9)
        have hz9 : Hid (B0 ≤ W9.heap.size) := Lib.hid (by have := hzd.out; omega)
        rw [← hW9, hg9]
        replace hW9 := Lib.hid hW9
        replace hg9 := Lib.hid hg9
        replace hs9 := Lib.hid hs9
        refine hK _ _ (fun _ => hr9) ?_
        clear hK K
        try simp only [Act.put, List.setIfInBounds_toArray, List.set_cons_zero, List.set_cons_succ]
        refine wpR_one 2 rfl (by kernel_rfl) (by kernel_rfl) (fun K hK => ?_)
        go_simp
        obtain ⟨g2, hg2⟩ : ∃ g2, W9.heap.size = g2 := ⟨_, rfl⟩
        obtain ⟨W2, hW2⟩ : ∃ W2, W2 = W9.alloc (.cells #[] 3) := ⟨_, rfl⟩
        have hr2 : Below B0 W9 W2 := by rw [hW2]; exact (Below.refl _ _).alloc hz9.out _
        have hs2 : W2.heap.size = g2 + 1 := by rw [hW2, ← hg2]; simp
        have ho2 : Hid (OI [] (.slice (some ⟨g2, 0, none⟩) 0 0) B0 W2) := Lib.hid (by rw [hW2, ← hg2]; exact OI.empty _ _ hz9.out)
        replace ho9 : Hid (OI [c] (.slice (some ⟨g9, 0, none⟩) 1 1) B0 W2) := OI.gr (by rw [hW2]; exact Gr.alloc _ _) ho9
        have hq2 : Hid (Below B0 wd W2) := Lib.hid (hq9.out.trans hr2)
        have hz2 : Hid (B0 ≤ W2.heap.size) := Lib.hid (by have := hz9.out; omega)
        rw [← hW2, hg2]
        replace hW2 := Lib.hid hW2
        have hne : g9 ≠ g2 := by have := hs9.out; omega
        replace hg2 := Lib.hid hg2
        replace hs2 := Lib.hid hs2
        refine hK _ _ (fun _ => hr2) ?_
        clear hK K
        try simp only [Act.put, List.setIfInBounds_toArray, List.set_cons_zero, List.set_cons_succ]
        refine wpR_one 4 rfl (by kernel_rfl) (by kernel_rfl) (fun K hK => ?_)
        refine wp_appI2 (.tmp 71) (.tmp 72) rfl B0 _ u2 [] b rfl ho2.out rfl (Ints.gr (hgd.out.trans (hBg.out _ hq2.out)) hu2).out (by simp; omega) hz2.out ?_
        intro v4 W4 ho4 hgr4 hloc4
        rw [List.nil_append] at ho4
        have hr4 : Below B0 W2 W4 := (Below.refl _ _).grown hgr4 hz2.out (fun j hj => OI.up ho2.out j hj)
        replace ho9 : Hid (OI [c] (.slice (some ⟨g9, 0, none⟩) 1 1) B0 W4) := Lib.hid (OI.kept ho9.out hgr4 (fun e => hne (by injection e)))
        replace ho4 := Lib.hid ho4
        have hq4 : Hid (Below B0 wd W4) := Lib.hid (hq2.out.trans hr4)
        have hz4 : Hid (B0 ≤ W4.heap.size) := Lib.hid (Nat.le_trans hz2.out hr4.size)
        refine hK _ _ (fun _ => hr4) ?_
        clear hK K
        clear hgr4 hloc4 hr4
        try simp only [Act.put, List.setIfInBounds_toArray, List.set_cons_zero, List.set_cons_succ]
        refine wpR_one 10 rfl (by kernel_rfl) (by kernel_rfl) (fun K hK => ?_)
        refine wp_appI2 (.tmp 73) (.tmp 78) rfl B0 _ _ b [c] rfl ho4.out rfl (OI.ints ho9.out) (by simp; omega) hz4.out ?_
        intro v10 W10 ho10 hgr10 hloc10
        have hr10 : Below B0 W4 W10 := (Below.refl _ _).grown hgr10 hz4.out (fun j hj => OI.up ho4.out j hj)
        replace ho10 := Lib.hid ho10
        have hq10 : Hid (Below B0 wd W10) := Lib.hid (hq4.out.trans hr10)
        have hz10 : Hid (B0 ≤ W10.heap.size) := Lib.hid (Nat.le_trans hz4.out hr10.size)
        refine hK _ _ (fun _ => hr10) ?_
        clear hK K
        clear hgr10 hloc10 hr10
        try simp only [Act.put, List.setIfInBounds_toArray, List.set_cons_zero, List.set_cons_succ]
        refine wpR_one 11 rfl (by kernel_rfl) (by kernel_rfl) (fun K hK => ?_)
        go_simp
        have hcall := hp3.out v10 W10 (Lib.hid (OI.ints ho10.out)) (hgd.out.trans (hBg.out _ hq10.out))
        refine hcall.mono ?_
        rintro e w11 ⟨vc, rfl, hvc, hg11⟩
        have hr11 : Below B0 W10 w11 := Below.mono hg11 hz10.out
        refine hK _ _ (fun _ => hr11) ?_
        clear hK K
        have hq11d : Hid (Gr wd w11) := Lib.hid (hBg.out _ (hq10.out.trans hr11))
        have hq11 : Hid (Gr w w11) := Lib.hid (hgd.out.trans hq11d.out)
        clear hcall hr11
        try simp only [Act.put, List.setIfInBounds_toArray, List.set_cons_zero, List.set_cons_succ]
        refine wpR_take (i := 12) (v := ?_) (⟨fun x => Below.refl _ x, fun h1 h2 => h1.trans h2⟩) (some 68) rfl (by kernel_rfl) (by kernel_rfl) (by kernel_rfl) (by kernel_rfl) (by kernel_rfl) (fun _ _ _ h => h) (by kernel_rfl) (fun w' hw' => ?_) ?_
        rotate_left
        · go_simp; with_reducible rfl
        simp only [Act.put, List.setIfInBounds_toArray, List.set_cons_zero, List.set_cons_succ]
        refine wpR_take (i := 13) (v := ?_) (⟨fun x => Below.refl _ x, fun h1 h2 => h1.trans h2⟩) (some 81) rfl (by kernel_rfl) (by kernel_rfl) (by kernel_rfl) (by kernel_rfl) (by kernel_rfl) (fun _ _ _ h => h) (by kernel_rfl) (fun w' hw' => ?_) ?_
        rotate_left
        · go_simp; with_reducible rfl
        simp only [Act.put, List.setIfInBounds_toArray, List.set_cons_zero, List.set_cons_succ]
        refine wpR_take (i := 14) (v := ?_) (⟨fun x => Below.refl _ x, fun h1 h2 => h1.trans h2⟩) (some 82) rfl (by kernel_rfl) (by kernel_rfl) (by kernel_rfl) (by kernel_rfl) (by kernel_rfl) (fun _ _ _ h => h) (by kernel_rfl) (fun w' hw' => ?_) ?_
        rotate_left
        · go_simp; with_reducible rfl
        simp only [Act.put, List.setIfInBounds_toArray, List.set_cons_zero, List.set_cons_succ]
        refine wpR_take (i := 15) (v := ?_) (⟨fun x => Below.refl _ x, fun h1 h2 => h1.trans h2⟩) (some 13) rfl (by kernel_rfl) (by kernel_rfl) (by kernel_rfl) (by kernel_rfl) (by kernel_rfl) (fun _ _ _ h => h) (by kernel_rfl) (fun w' hw' => ?_) ?_
        rotate_left
        · go_simp; with_reducible rfl
        simp only [Act.put, List.setIfInBounds_toArray, List.set_cons_zero, List.set_cons_succ]
        refine wpR_take (i := 16) (v := ?_) (⟨fun x => Below.refl _ x, fun h1 h2 => h1.trans h2⟩) (some 14) rfl (by kernel_rfl) (by kernel_rfl) (by kernel_rfl) (by kernel_rfl) (by kernel_rfl) (fun _ _ _ h => h) (by kernel_rfl) (fun w' hw' => ?_) ?_
        rotate_left
        · go_simp; with_reducible rfl
        simp only [Act.put, List.setIfInBounds_toArray, List.set_cons_zero, List.set_cons_succ]
        refine wpR_done (by kernel_rfl) ?_ _
        have haw := Lib.hid (awake14_any w11)
        have hsame : Hid (∀ w3, Gr w11 w3 → Calls Try.prog 11 #[vc, va] w3 fun e w' => e = .returned (.bool (r == r)) ∧ Gr w3 w') := Lib.hid (fun w3 hg => same_any r r vc va w3 (Lib.hid (OI.ints (OI.gr hg hvc).out)) (Lib.hid (OI.ints (OI.gr (hq11d.out.trans hg) hva).out)) (by omega) (by omega))
        rw [irr] at hsame
        clear hp3 hva hvb hvc hv2 hu2 hq10 hqd hgd
        go_wp2_with (first
          | (go_at_call 10; go_must (refine haw.out.mono ?_); clear haw; rintro e w3 ⟨rfl, hg3⟩; replace hg3 := Lib.hid hg3; replace hsame := Lib.hid (hsame.out w3 hg3.out))
          | (go_at_call 11; go_must (refine hsame.out.mono ?_); rintro e w4 ⟨rfl, hg4⟩; replace hg4 := Lib.hid hg4))
        go_ret
        exact ⟨rfl, hq11.out.trans (hg3.out.trans hg4.out)⟩
    · have y3 : pickOk l ((k : Int) + 1) b = false := by rw [← ek, pickOk_nat]; exact decide_eq_false hy
      have y4 : pickR l ((k : Int) + 1) b = [] := by rw [← ek]; exact pickR_no hy
      rw [y3, y4] at hp2
      go_upto_region 6 with (go_at_call 8; go_must (refine hp1.out.mono ?_); rintro e w1 ⟨va, rfl, hva, hg1⟩)
      replace hp2 := Lib.hid (hp2.out w1 hg1)
      go_upto_region 7 with (go_at_call 8; go_must (refine hp2.out.mono ?_); rintro e w2 ⟨vb, rfl, hvb, hg2⟩)
      have hg12 := Lib.hid (hg1.trans hg2)
      obtain ⟨Ab, cb, rfl, hnb2, hmb2⟩ := hvb.out.form
      have hl0 : ([] : List Int).length = 0 := rfl
      rw [hl0] at hvb hnb2 ⊢
      have haw := Lib.hid (awake14_any w2)
      clear hp1 hp2 hg1 hg2 hva y3 y4 hy
      go_wp2_with (go_at_call 10; go_must (refine haw.out.mono ?_); clear haw; rintro e w3 ⟨rfl, hg3⟩; replace hg3 := Lib.hid hg3)
      go_ret
      exact ⟨rfl, hg12.out.trans hg3.out⟩
end Go.Proofs.Ytfiaedhdgbnfiaa
