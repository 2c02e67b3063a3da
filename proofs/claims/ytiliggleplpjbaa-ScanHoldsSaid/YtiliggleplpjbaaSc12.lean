/- scan: fewest. -/
import Derived.RangeFuncNested
import Derived.RangeFuncBound
import Derived.RangeFuncCalls
import Derived.RangeFuncWrites
import Derived.RangeFuncLeaves
import Derived.Shelf.Abstract
import Derived.Shelf.RegionOpen
import Derived.WalkKit
import Derived.OwnWalkIn
import Derived.TacticsInMore
import Derived.LoopNIn
import Derived.LoopIn
import Derived.Sort.CutIn
import Derived.WalkSpells
import Derived.Laws.StructEq
import Derived.Maps.OwnIn
import Derived.Test.YtiliggleplpjbaaSc11
namespace Go.Proofs.Ytiliggleplpjbaa
set_option linter.unusedVariables false
set_option linter.unusedSimpArgs false
open Go Go.RowKit Go.Maps Go.Shelf Go.Proofs
attribute [local go_sem] Oper.semAt_some
/-- the least of the chunks met so far -/
def leastC {q : Nat} (l : List (Int × Int)) (pre : List (Fin q)) : Nat := pre.foldl (fun m x => min m (present (chunkOf l x.1))) 10
theorem leastC_snoc {q : Nat} (l : List (Int × Int)) (pre : List (Fin q)) (x : Fin q) : leastC l (pre ++ [x]) = min (leastC l pre) (present (chunkOf l x.1)) := by unfold leastC; rw [List.foldl_append]; rfl
theorem leastC_all (l : List (Int × Int)) (q : Nat) (h : l.length = 10 * q) : leastC l (List.finRange q) = fewestL l := by
  unfold leastC fewestL
  rw [show l.length / 10 = q from by omega]
  have e : (List.range q) = (List.finRange q).map (·.1) := by
    apply List.ext_getElem
    · simp
    · intro i h1 h2; simp
  rw [e, List.foldl_map]
  rfl
theorem leastC_le {q : Nat} (l : List (Int × Int)) (pre : List (Fin q)) : leastC l pre ≤ 10 := by
  unfold leastC
  generalize hz : (10 : Nat) = z
  have : ∀ (L : List (Fin q)) (z : Nat), z ≤ 10 → L.foldl (fun m x => min m (present (chunkOf l x.1))) z ≤ 10 := fun L => by
    induction L with
    | nil => exact fun z h => h
    | cons x L ih => exact fun z h => ih _ (Nat.le_trans (Nat.min_le_left _ _) h)
  rw [← hz]; exact this pre 10 (Nat.le_refl _)
theorem present_take {l : List (Int × Int)} {i : Nat} {p : Int × Int} (h : l[i]? = some p) : present (l.take (i + 1)) = present (l.take i) + (if p = nowP then 0 else 1) := by
  unfold present
  rw [List.take_add_one, h, List.filter_append, List.length_append]
  congr 1
  by_cases e : p = nowP
  · rw [if_pos e]; simp [e]
  · rw [if_neg e]; simp [e]
theorem chunk_get {l : List (Int × Int)} {g i : Nat} (hi : i < 10) : (chunkOf l g)[i]? = l[10 * g + i]? := by
  unfold chunkOf
  rw [List.getElem?_take, if_pos hi, List.getElem?_drop]
set_option maxRecDepth 100000 in
set_option maxHeartbeats 8000000 in
theorem fewest_any (ek : By) (eg ez : Int) (eu : By) (pl : List (Int × Int)) (A : Option Addr) (c G : Nat) (hG1 : 1 ≤ G) (hG4 : G ≤ 4) (hl : pl.length = 10 * G) (w : World) (hp : Pls pl (.slice A (10 * G) c) w) :
    Calls Try.prog 20 #[.agg #[.string (bs ek), .int .i64 eg, .int .i64 ez, .string (bs eu), .slice A (10 * G) c]] w fun e w' => e = .returned (.int .i64 (fewestL pl)) ∧ Gr w w' := by
  obtain ⟨A', c', e, hc1, hc2, hc3, -⟩ := hp
  injection e with e1 _ e3
  subst e1 e3
  obtain ⟨b, o, rfl, hb, hcell⟩ := hc3 (by omega)
  rw [hl] at hc1
  replace hl := Lib.hid hl
  have hcl := Lib.hid hcell
  clear hcell
  obtain ⟨Q, hQ⟩ : ∃ Q, 10 * G = Q := ⟨_, rfl⟩
  rw [hQ] at hc1 ⊢
  refine (callsIn_wide (n := 8)).1 ?_
  refine callsIn_of_wp_marks Try.func20 rfl trivial ?_ rfl
  simp only [Try.ntmps20, List.size_toArray, List.length_cons, List.length_nil, Nat.reduceAdd, Nat.reduceSub, Array.replicate_succ, Array.replicate_zero, List.push_toArray, List.append_toArray, List.nil_append, List.cons_append]
  gi_wp2_with (refine ⟨trivial, (callsIn_wide.2 (chunk_any _ _ _ _)).mono ?_⟩; rintro e w' ⟨rfl, rfl⟩)
  have hbS : Boxed ((w.alloc (.cells #[.string (bs ek), .int .i64 eg, .int .i64 ez, .string (bs eu), .slice (some ⟨b, o, none⟩) Q c] 32)).alloc (.cells #[.int .i64 10] 3)) (w.heap.size + 1) 3 (.int .i64 10) := by
    have := Boxed.new (w.alloc (.cells #[.string (bs ek), .int .i64 eg, .int .i64 ez, .string (bs eu), .slice (some ⟨b, o, none⟩) Q c] 32)) 3 (.int .i64 10)
    rwa [World.size_alloc] at this
  obtain ⟨w2, hw2⟩ : ∃ x, (w.alloc (.cells #[.string (bs ek), .int .i64 eg, .int .i64 ez, .string (bs eu), .slice (some ⟨b, o, none⟩) Q c] 32)).alloc (.cells #[.int .i64 10] 3) = x := ⟨_, rfl⟩
  have hs2 : w2.heap.size = w.heap.size + 2 := by rw [← hw2]; simp
  have hg2 : Gr w w2 := by rw [← hw2]; exact (Gr.alloc _ _).trans (Gr.alloc _ _)
  rw [hw2] at hbS ⊢
  have hb1 : ((w2.alloc (.cells #[.slice (some ⟨b, o, none⟩) Q c] 30)).alloc (.cells #[.int .i64 10] 3)).heap[w.heap.size + 2]? = some (.cells #[.slice (some ⟨b, o, none⟩) Q c] 30 (0, 0)) := by rw [← hs2]; exact blk_below (heap_alloc_new w2 _) (Gr.alloc _ _)
  have hb2 : ((w2.alloc (.cells #[.slice (some ⟨b, o, none⟩) Q c] 30)).alloc (.cells #[.int .i64 10] 3)).heap[w.heap.size + 3]? = some (.cells #[.int .i64 10] 3 (0, 0)) := by
    have := heap_alloc_new (w2.alloc (.cells #[.slice (some ⟨b, o, none⟩) Q c] 30)) (.cells #[.int .i64 10] 3)
    rwa [World.size_alloc, hs2] at this
  have hbS2 := (hbS.alloc (.cells #[.slice (some ⟨b, o, none⟩) Q c] 30)).alloc (.cells #[.int .i64 10] 3)
  have hg3 : Gr w ((w2.alloc (.cells #[.slice (some ⟨b, o, none⟩) Q c] 30)).alloc (.cells #[.int .i64 10] 3)) := hg2.trans ((Gr.alloc _ _).trans (Gr.alloc _ _))
  have hs3 : ((w2.alloc (.cells #[.slice (some ⟨b, o, none⟩) Q c] 30)).alloc (.cells #[.int .i64 10] 3)).heap.size = w.heap.size + 4 := by simp [hs2]
  obtain ⟨W0, hW0⟩ : ∃ x, (w2.alloc (.cells #[.slice (some ⟨b, o, none⟩) Q c] 30)).alloc (.cells #[.int .i64 10] 3) = x := ⟨_, rfl⟩
  rw [hW0] at hb1 hb2 hbS2 hg3 hs3 ⊢
  try rw [hs2]
  clear hW0 hbS hw2 hg2
  refine wpIn_rangeFunc_ownG rfl (by omega) (gf := 57) (lb := #[.pointer (some ⟨w.heap.size + 2, 0, none⟩), .pointer (some ⟨w.heap.size + 3, 0, none⟩)]) rfl trivial (enters_of Try.func57 (by kernel_rfl) rfl)
    (chunkS_stops Fence.wide (8 - 1) trivial rfl (by omega) (fun k => k = w.heap.size + 1) (w.heap.size + 2) (w.heap.size + 3) (w.heap.size + 4) b o c G 10 (by omega) Q (by omega) (by omega) hc1 hc2 W0 (by omega) (by omega) (by omega) (by omega) (by omega) (blk_cell (j := 0) hb1 rfl) (blk_cell (j := 0) hb2 rfl))
    KpS.trans (fun W l o o' h1 _ _ _ => KpS.putObj W l o' (by omega)) (Below.refl _ _) (fun _ => rfl)
    (fun (pre : List (Fin G)) W => Boxed W (w.heap.size + 1) 3 (.int .i64 (leastC pl pre)) ∧ Below w.heap.size w W ∧ w.heap.size + 4 ≤ W.heap.size)
    (fun _ _ _ => False)
    (OwnFrom.and (Own.from (boxed_own _ _ _) _) (OwnFrom.and (ownFrom_below (Nat.le_refl _) (by omega)) (fun _ W W' row hs hg hr => Nat.le_trans hs hg.size)))
    (fun _ _ _ _ _ hs _ _ => hs)
    ⟨hbS2, hg3, by omega⟩
    (fun x => { tmps := #[.agg #[.string (bs ek), .int .i64 eg, .int .i64 ez, .string (bs eu), .slice (some ⟨b, o, none⟩) Q c], .pointer (some ⟨w.heap.size, 0, none⟩), .int .i64 0, .pointer (some ⟨w.heap.size + 1, 0, none⟩), .slice (some ⟨b, o + x.1 * 10 * 2, none⟩) 10 10, undef, undef, undef, .pointer (some ⟨w.heap.size, 4, none⟩), .slice (some ⟨b, o, none⟩) Q c, .func (.func 57) #[] #[.pointer (some ⟨w.heap.size + 2, 0, none⟩), .pointer (some ⟨w.heap.size + 3, 0, none⟩)], .slice (some ⟨b, o + x.1 * 10 * 2, none⟩) 10 10, undef, undef, undef, undef, undef, undef, undef, undef, undef, undef, undef, undef, undef, undef, undef, undef], defers := [] })
    ?assign ?body ?done ?stop
  case assign =>
    intro l x W K hK
    gi_wp2
    exact hK
  case body =>
    rintro l pre x W ⟨hI1, hI2, hI3⟩ hlt
    have e9 := leastC_snoc pl pre x
    have hxl := x.2
    obtain ⟨xn, hxn⟩ : ∃ n, x.1 = n := ⟨_, rfl⟩
    rw [hxn] at e9 hxl ⊢
    have hI1' := Lib.hid hI1
    have e9' := Lib.hid e9
    obtain ⟨ob, hob⟩ : ∃ z, o + xn * 10 * 2 = z := ⟨_, rfl⟩
    rw [hob]
    have hob' := Lib.hid hob
    clear hI1 e9 hob hxn
    gi_wp2
    gi_loopw [5, 14] (fun u v wr => ∃ i : Nat, i ≤ 10 ∧ u = .int .i64 ((present ((chunkOf pl xn).take i) : Nat) : Int) ∧ v = .int .i64 i ∧ Hid (Gr W wr)) (fun _ v _ => (10 - intOf v).toNat)
    case atStart => exact ⟨0, Nat.zero_le _, rfl, rfl, Lib.hid (Gr.refl _)⟩
    case round =>
      obtain ⟨i, hi, rfl, rfl, hg⟩ := hrel
      by_cases hlt2 : i < 10
      · have ii : (i : Int) < 10 := by omega
        obtain ⟨⟨pa, pb⟩, hpp⟩ : ∃ p, pl[10 * xn + i]? = some p := ⟨_, List.getElem?_eq_getElem (by rw [hl.out]; omega)⟩
        have hpt := present_take ((chunk_get (l := pl) (g := xn) hlt2).trans hpp)
        have hgw : Gr w wr := Below.trans hI2 (Below.mono hg.out hI2.size)
        obtain ⟨q0, q1⟩ := hcl.out _ _ hpp
        have q0 := (cellGr hgw (a := ⟨b, o + (10 * xn + i) * 2, none⟩) hb).trans q0
        have q1 := (cellGr hgw (a := ⟨b, o + (10 * xn + i) * 2 + 1, none⟩) hb).trans q1
        rw [show o + (10 * xn + i) * 2 = ob + i * 2 from by rw [← hob'.out]; omega] at q0 q1
        have hpr : present ((chunkOf pl xn).take i) ≤ 10 := Nat.le_trans (present_le _) (by rw [List.length_take]; omega)
        obtain ⟨pr, hpre⟩ : ∃ n, present ((chunkOf pl xn).take i) = n := ⟨_, rfl⟩
        rw [hpre] at hpt hpr ⊢
        replace hpt := Lib.hid hpt
        replace hpre := Lib.hid hpre
        replace hpp := Lib.hid hpp
        replace hgw := Lib.hid hgw
        gi_upto_region 8 with (fail)
        obtain ⟨wb, hwb⟩ : ∃ x, wr.alloc (.cells #[.int .i64 pa, .int .i64 pb] 34) = x := ⟨_, rfl⟩
        have hgb : Gr wr wb := by rw [← hwb]; exact Gr.alloc _ _
        have hbb : wb.heap[wr.heap.size]? = some (.cells #[.int .i64 pa, .int .i64 pb] 34 (0, 0)) := by rw [← hwb]; exact heap_alloc_new wr _
        rw [hwb]
        clear q0 q1
        replace hwb := Lib.hid hwb
        obtain ⟨we, hwe⟩ : ∃ we, we = wb.drew := ⟨_, rfl⟩
        have hgd : Gr wb we := by rw [hwe]; exact (Below.refl _ _).drew
        have hbe := Lib.hid (blk_below hbb hgd)
        have hge := Lib.hid (hg.out.trans (hgb.trans hgd))
        replace hgb := Lib.hid hgb
        replace hgd := Lib.hid hgd
        replace hbb := Lib.hid hbb
        have hqs := neqS pa pb
        by_cases hpn : ((pa, pb) : Int × Int) = nowP
        · have hpa : pa = 0 := congrArg Prod.fst hpn
          have hpb : pb = 1024 := congrArg Prod.snd hpn
          subst hpa hpb
          simp only [beq_self_eq_true, Bool.and_self, Bool.not_true] at hqs
          rw [if_pos hpn, Nat.add_zero] at hpt
          refine wpR_regionIn ?_ (Gr) 9999 (by kernel_rfl) (by kernel_rfl) ?_
          · rintro ⟨_, _, h⟩; exact h
          (rw [← hwe]; replace hwe := Lib.hid hwe)
          refine wpR_take (i := 0) (v := ?_) (Gr.road) (some 18) rfl (by kernel_rfl) (by kernel_rfl) (by kernel_rfl) (by kernel_rfl) (by kernel_rfl) (fun _ _ _ h => h) (by kernel_rfl) (fun w' hw' => ?_) ?_
          rotate_left
          · have z0 := blk_cell (j := 0) (blk_below hbe.out hw') rfl; have z1 := blk_cell (j := 1) (blk_below hbe.out hw') rfl; go_simp; with_reducible rfl
          simp only [Act.put, List.setIfInBounds_toArray, List.set_cons_zero, List.set_cons_succ]
          refine wpR_one 1 rfl (by kernel_rfl) (by kernel_rfl) (fun K hK => ?_)
          go_simp
          refine (nowhere_any we).mono ?_
          rintro e wa ⟨rfl, hga⟩
          refine hK _ _ (fun _ => hga) ?_
          clear hK K
          have hga' := Lib.hid hga
          clear hga
          try simp only [Act.put, List.setIfInBounds_toArray, List.set_cons_zero, List.set_cons_succ]
          refine wpR_take (i := 2) (v := ?_) (Gr.road) (some 20) rfl (by kernel_rfl) (by kernel_rfl) (by kernel_rfl) (by kernel_rfl) (by kernel_rfl) (fun _ _ _ h => h) (by kernel_rfl) (fun w' hw' => ?_) ?_
          rotate_left
          · go_simp; with_reducible rfl
          simp only [Act.put, List.setIfInBounds_toArray, List.set_cons_zero, List.set_cons_succ]
          refine wpR_done (by kernel_rfl) ?_ _
          gi_wp2
          go_roundw
          case rel => exact ⟨i + 1, by omega, by rw [hpt.out]; first | rfl | skip, by go_num, Lib.hid (hge.out.trans hga'.out)⟩
          case measure => simp [intOf]; omega
        · have hfb : (pa == 0 && pb == 1024) = false := by
            cases h1 : (pa == 0 && pb == 1024) with
            | false => rfl
            | true =>
              rw [Bool.and_eq_true, beq_iff_eq, beq_iff_eq] at h1
              exact absurd (by rw [h1.1, h1.2]; rfl) hpn
          rw [hfb, Bool.not_false] at hqs
          rw [if_neg hpn] at hpt
          clear hfb
          refine wpR_regionIn ?_ (Gr) 9999 (by kernel_rfl) (by kernel_rfl) ?_
          · rintro ⟨_, _, h⟩; exact h
          (rw [← hwe]; replace hwe := Lib.hid hwe)
          refine wpR_take (i := 0) (v := ?_) (Gr.road) (some 18) rfl (by kernel_rfl) (by kernel_rfl) (by kernel_rfl) (by kernel_rfl) (by kernel_rfl) (fun _ _ _ h => h) (by kernel_rfl) (fun w' hw' => ?_) ?_
          rotate_left
          · have z0 := blk_cell (j := 0) (blk_below hbe.out hw') rfl; have z1 := blk_cell (j := 1) (blk_below hbe.out hw') rfl; go_simp; with_reducible rfl
          simp only [Act.put, List.setIfInBounds_toArray, List.set_cons_zero, List.set_cons_succ]
          refine wpR_one 1 rfl (by kernel_rfl) (by kernel_rfl) (fun K hK => ?_)
          go_simp
          refine (nowhere_any we).mono ?_
          rintro e wa ⟨rfl, hga⟩
          refine hK _ _ (fun _ => hga) ?_
          clear hK K
          have hga' := Lib.hid hga
          clear hga
          try simp only [Act.put, List.setIfInBounds_toArray, List.set_cons_zero, List.set_cons_succ]
          refine wpR_take (i := 2) (v := ?_) (Gr.road) (some 20) rfl (by kernel_rfl) (by kernel_rfl) (by kernel_rfl) (by kernel_rfl) (by kernel_rfl) (fun _ _ _ h => h) (by kernel_rfl) (fun w' hw' => ?_) ?_
          rotate_left
          · go_simp; with_reducible rfl
          simp only [Act.put, List.setIfInBounds_toArray, List.set_cons_zero, List.set_cons_succ]
          refine wpR_done (by kernel_rfl) ?_ _
          gi_wp2
          go_roundw
          case rel => exact ⟨i + 1, by omega, by rw [hpt.out]; go_num, by go_num, Lib.hid (hge.out.trans hga'.out)⟩
          case measure => simp [intOf]; omega
      · obtain rfl : i = 10 := by omega
        have c0 := blk_cell (j := 0) (blk_below hI1'.out hg.out) rfl
        have f0 := blk_free (blk_below hI1'.out hg.out) 0
        have hch : (chunkOf pl xn).take 10 = chunkOf pl xn := List.take_of_length_le (by unfold chunkOf; rw [List.length_take]; omega)
        rw [hch]
        generalize hpx : present (chunkOf pl xn) = px at e9' ⊢
        generalize hlx : leastC pl pre = lx at e9' c0
        gi_wp2
        all_goals
          have hkf : KeepsFrom (w.heap.size + 4) W wr := KeepsFrom.of_grownBy hg.out.grown (fun j e => by cases e)
          have hks : ∀ v, KpS (w.heap.size + 4) (fun k => k = w.heap.size + 1) W (wr.setCell ⟨w.heap.size + 1, 0, none⟩ v) := fun v => ⟨Nat.le_trans (Below.size hg.out) (by simp [World.setCell]), fun k hk hx => (blk_other hx 0 v).trans (Below.block hg.out k (by omega))⟩
          have hbw : Below w.heap.size w wr := hI2.trans (Below.mono hg.out hI2.size)
          have hbx : Boxed wr (w.heap.size + 1) 3 (.int .i64 lx) := by rw [← hlx]; exact blk_below hI1'.out hg.out
        · have e8 : min lx px = px := by omega
          refine ⟨hkf.trans ((KeepsOthers.setCell _ _ _).from _), hks _, ?_, hbw.setCell (p := ⟨w.heap.size + 1, 0, none⟩) (by show w.heap.size ≤ w.heap.size + 1; omega) _, Nat.le_trans hI3 (hks _).1⟩
          rw [e9'.out, e8]
          exact hbx.set _
        · have e8 : min lx px = lx := by omega
          refine ⟨hkf.trans ((KeepsOthers.setCell _ _ _).from _), hks _, ?_, hbw.setCell (p := ⟨w.heap.size + 1, 0, none⟩) (by show w.heap.size ≤ w.heap.size + 1; omega) _, Nat.le_trans hI3 (hks _).1⟩
          rw [e9'.out, e8]
          exact hbx.set _
  case done =>
    rintro D ys W hD hS ⟨hI1, hI2, hI3⟩ hK
    subst hS
    rw [leastC_all pl G hl.out] at hI1
    have c0 := hI1.cell
    gi_wp2
    refine ⟨by simp, .inl ⟨_, _, rfl, run_takeDeferred hK, ?_⟩⟩
    exact ⟨_, results_tmp rfl _ _ _, rfl, hI2.trans (belowK_b (w := w) (Nat.le_refl _) W D _ _ (by omega) hK rfl rfl)⟩
  case stop =>
    rintro D c pre W _ _ h _
    exact h.elim
end Go.Proofs.Ytiliggleplpjbaa
