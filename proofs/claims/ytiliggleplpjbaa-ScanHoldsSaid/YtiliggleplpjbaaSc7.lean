/- scan: nowhere; slices.Repeat of one place. -/
import Derived.Test.YtiliggleplpjbaaSc2
import Derived.Laws.CopyOwn
import Derived.Laws.CopyRow
import Derived.Laws.MakeOwn
namespace Go.Proofs.Ytiliggleplpjbaa
set_option linter.unusedVariables false
set_option linter.unusedSimpArgs false
open Go Go.RowKit Go.Maps
theorem results_cellQ {P : Program} {fn : Func} {tmps : Array Value} {w : World} {k : Nat} {t : TypeId} {a : Addr} {v : Value} (hr : fn.results = #[.cell k t]) (hk : tmps.getD k undef = .pointer (some a)) (hl : (loadVar t a).run P w = .ok v w) : (results fn tmps).run P w = .ok v w := by
  have hk' : tmps[k]?.getD undef = .pointer (some a) := by rw [← hk]; simp
  have ha : (asAddr (.pointer (some a))).run P w = .ok a w := rfl
  simp [results, hr, hk', ha, hl]
theorem nowhere_any (w : World) : Calls Try.prog 42 #[] w fun e w' => e = .returned (.agg #[.int .i64 0, .int .i64 1024]) ∧ Gr w w' := by
  go_enter Try.func42, Try.ntmps42
  go_wp2_with fail
  have hl := run_loadVar_row (P := Try.prog) (w.alloc (.cells #[.int .i64 0, .int .i64 1024] 34)) w.heap.size 34 34 #[.int .i64 0, .int .i64 1024] (0, 0) _ (heap_alloc_new w _) Try.underlying34 rfl (by kernel_rfl)
  exact bodyPost_ret (v := .agg #[.int .i64 0, .int .i64 1024]) (results_cellQ rfl rfl hl) rfl ⟨rfl, Gr.alloc _ _⟩
set_option maxRecDepth 10000 in
theorem mul64_10 (w : World) : Calls Try.prog 67 #[.int .u64 1, .int .u64 10] w fun e w' => e = .returned (.tuple #[.int .u64 0, .int .u64 10]) ∧ w' = w := by
  go_enter Try.func67, Try.ntmps67
  go_wp2_with fail
  go_ret2
  exact ⟨rfl, rfl⟩
set_option maxRecDepth 10000 in
theorem mul64_20 (w : World) : Calls Try.prog 67 #[.int .u64 1, .int .u64 20] w fun e w' => e = .returned (.tuple #[.int .u64 0, .int .u64 20]) ∧ w' = w := by
  go_enter Try.func67, Try.ntmps67
  go_wp2_with fail
  go_ret2
  exact ⟨rfl, rfl⟩
set_option maxRecDepth 10000 in
theorem mul64_30 (w : World) : Calls Try.prog 67 #[.int .u64 1, .int .u64 30] w fun e w' => e = .returned (.tuple #[.int .u64 0, .int .u64 30]) ∧ w' = w := by
  go_enter Try.func67, Try.ntmps67
  go_wp2_with fail
  go_ret2
  exact ⟨rfl, rfl⟩
set_option maxRecDepth 10000 in
theorem mul64_40 (w : World) : Calls Try.prog 67 #[.int .u64 1, .int .u64 40] w fun e w' => e = .returned (.tuple #[.int .u64 0, .int .u64 40]) ∧ w' = w := by
  go_enter Try.func67, Try.ntmps67
  go_wp2_with fail
  go_ret2
  exact ⟨rfl, rfl⟩
theorem mul_any (G : Nat) (h1 : 1 ≤ G) (h4 : G ≤ 4) (w : World) : Calls Try.prog 56 #[.int .u64 1, .int .u64 ((10 * G : Nat) : Int)] w fun e w' => e = .returned (.tuple #[.int .u64 0, .int .u64 ((10 * G : Nat) : Int)]) ∧ w' = w := by
  have hm : Calls Try.prog 67 #[.int .u64 1, .int .u64 ((10 * G : Nat) : Int)] w fun e w' => e = .returned (.tuple #[.int .u64 0, .int .u64 ((10 * G : Nat) : Int)]) ∧ w' = w := by
    rcases (by omega : G = 1 ∨ G = 2 ∨ G = 3 ∨ G = 4) with rfl | rfl | rfl | rfl
    · exact mul64_10 w
    · exact mul64_20 w
    · exact mul64_30 w
    · exact mul64_40 w
  generalize ((10 * G : Nat) : Int) = z at hm ⊢
  go_enter Try.func56, Try.ntmps56
  go_wp2_with (go_at_call 67; go_must (refine hm.mono ?_); rintro e w' ⟨rfl, hww⟩; rw [hww]; clear hww w')
  go_ret2
  exact ⟨rfl, rfl⟩
theorem run_copy_rowN {P : Program} (w : World) (dT sT ty elem : TypeId) (g o dLen dCap : Nat) (a : Addr) (sLen sCap : Nat) (cur : Array Value) (t : TypeId) (cs : List Value) (sz n : Nat)
    (hu : P.underlying dT = some (.slice elem)) (hs : (P.info? elem).map (·.size) = some sz)
    (hg : w.heap[g]? = some (.cells cur t (0, 0))) (hn : n = Nat.min sLen dLen) (hl : cs.length = n * sz)
    (hsrc : ∀ j v, cs[j]? = some v → w.cell? (a.add j) = some v) (hfit : o + cs.length ≤ cur.size) (h1 : ∀ v ∈ cs, v.oneCell' = true) :
    (Builtin.copy_ #[dT, sT] ty #[.slice (some ⟨g, o, none⟩) dLen dCap, .slice (some a) sLen sCap]).run P w =
      .ok (goInt n) (w.setRow g (cur.toList.take o ++ cs ++ cur.toList.drop (o + cs.length)).toArray) := by
  have hl' := run_loadCells_list (P := P) w a cs hsrc
  have hst := run_storeCells_at P g o t cs 0 cur w hg (by simpa using hfit) h1
  cases hq : P.info? elem with
  | none => simp [hq] at hs
  | some i =>
    have hi : i.size = sz := by simpa [hq] using hs
    rw [hl] at hl'
    simp [Builtin.copy_, run_underlying hu, Builtin.lenOf, Builtin.firstCells, sizeOf, typeInfo, hq, hi, ← hn, hl', hst]
/-- n places of which the first k are nowhere, the others nought -/
def repC (k n : Nat) : List Value := flatPl (List.replicate k nowP) ++ flatPl (List.replicate (n - k) (0, 0))
theorem repC_len {k n : Nat} (h : k ≤ n) : (repC k n).length = n * 2 := by unfold repC; rw [List.length_append, flatPl_len, flatPl_len, List.length_replicate, List.length_replicate]; omega
theorem repC_one (k n : Nat) : ∀ v ∈ repC k n, v.oneCell' = true := fun v hv => by
  unfold repC at hv
  rcases List.mem_append.mp hv with hv | hv
  · exact flatPl_one _ v hv
  · exact flatPl_one _ v hv
theorem flatPl_rep (a b : Nat) (p : Int × Int) : flatPl (List.replicate a p) ++ flatPl (List.replicate b p) = flatPl (List.replicate (a + b) p) := by
  rw [← flatPl_app, List.replicate_append_replicate]
/-- the first j of those that are told, put behind -/
theorem repC_copy {k n j : Nat} (hj : j ≤ k) (hn : k + j ≤ n) : (repC k n).take (k * 2) ++ flatPl (List.replicate j nowP) ++ (repC k n).drop (k * 2 + j * 2) = repC (k + j) n := by
  have hl : (flatPl (List.replicate k nowP)).length = k * 2 := by rw [flatPl_len, List.length_replicate]
  have e1 : (repC k n).take (k * 2) = flatPl (List.replicate k nowP) := by
    unfold repC; rw [List.take_append_of_le_length (by omega), List.take_of_length_le (by omega)]
  have e2 : (repC k n).drop (k * 2 + j * 2) = flatPl (List.replicate (n - (k + j)) (0, 0)) := by
    unfold repC
    rw [List.drop_append, hl, List.drop_eq_nil_of_le (by omega), List.nil_append, show k * 2 + j * 2 - k * 2 = j * 2 from by omega, show n - k = j + (n - (k + j)) from by omega, ← flatPl_rep, List.drop_append]
    have hl2 : (flatPl (List.replicate j ((0 : Int), (0 : Int)))).length = j * 2 := by rw [flatPl_len, List.length_replicate]
    rw [List.drop_eq_nil_of_le (by omega), List.nil_append, hl2, Nat.sub_self, List.drop_zero]
  rw [e1, e2]
  unfold repC
  rw [flatPl_rep]
theorem repC_src {k n j : Nat} (hj : j ≤ k) : ∀ (i : Nat) (v : Value), (flatPl (List.replicate j nowP))[i]? = some v → (repC k n)[i]? = some v := fun i v h => by
  have hi : i < j * 2 := by have := (List.getElem?_eq_some_iff.mp h).1; rwa [flatPl_len, List.length_replicate] at this
  unfold repC
  rw [show k = j + (k - j) from by omega, ← flatPl_rep, List.append_assoc, List.getElem?_append_left (by rw [flatPl_len, List.length_replicate]; exact hi)]
  exact h
theorem made_rep (n : Nat) : (madeCells #[.int .i64 0, .int .i64 0] (n * 2)) = (repC 0 n).toArray := by
  have h0 : ∀ m, flatPl (List.replicate m ((0 : Int), (0 : Int))) = List.replicate (m * 2) (.int .i64 0) := fun m => by
    induction m with
    | zero => rfl
    | succ m ih =>
      rw [List.replicate_succ, show (m + 1) * 2 = m * 2 + 1 + 1 from by omega, List.replicate_succ, List.replicate_succ, ← ih]
      rfl
  have h1 : repC 0 n = List.replicate (n * 2) (.int .i64 0) := by unfold repC; rw [Nat.sub_zero, h0]; rfl
  rw [h1]
  apply Array.ext
  · simp [madeCells]
  · intro i h2 h3
    simp only [madeCells, Array.getElem_map, Array.getElem_range, List.getElem_toArray, List.getElem_replicate]
    have h4 : i % 2 = 0 ∨ i % 2 = 1 := by omega
    have h5 : (#[Value.int .i64 0, Value.int .i64 0] : Array Value).size = 2 := rfl
    rw [h5]
    rcases h4 with h4 | h4 <;> rw [h4] <;> rfl
theorem info_placeS : (Try.prog.info? 34).map (·.size) = some 2 := by kernel_rfl
set_option maxRecDepth 10000 in
set_option maxHeartbeats 4000000 in
theorem repeat_10 (b : Nat) (w : World) (c0 : w.cell? ⟨b, 0, none⟩ = some (.int .i64 0)) (c1 : w.cell? ⟨b, 1, none⟩ = some (.int .i64 1024)) (hb : b < w.heap.size) : Calls Try.prog 41 #[.slice (some ⟨b, 0, none⟩) 1 1, .int .i64 10] w fun e w' => ∃ g, e = .returned (.slice (some ⟨g, 0, none⟩) 10 10) ∧ w.heap.size ≤ g ∧ w'.heap[g]? = some (.cells (repC 10 10).toArray 34 (0, 0)) ∧ Gr w w' := by
  obtain ⟨i0, hi, hz0, hz1, hz2⟩ := info_parts info_place
  have hmul := mul_any 1 (by omega) (by omega) w
  rw [show ((10 * 1 : Nat) : Int) = 10 from rfl] at hmul
  have hmk := run_make (P := Try.prog) w 30 34 i0 _ Try.underlying30 hi hz0 .i64 .i64 10 10 (by omega) (by omega) (by rw [hz2]; omega) (by omega)
  rw [show (Int.toNat 10) = 10 from rfl, hz1, show (Value.agg #[.int .i64 0, .int .i64 0]).cells = #[.int .i64 0, .int .i64 0] from rfl, made_rep 10] at hmk
  have hg0 : (w.alloc (.cells (repC 0 10).toArray 34)).heap[w.heap.size]? = some (.cells (repC 0 10).toArray 34 (0, 0)) := heap_alloc_new w _
  have hgr0 : Gr w (w.alloc (.cells (repC 0 10).toArray 34)) := Gr.alloc _ _
  obtain ⟨w1, hw1⟩ : ∃ W, w.alloc (.cells (repC 0 10).toArray 34) = W := ⟨_, rfl⟩
  rw [hw1] at hmk hg0 hgr0
  obtain ⟨g, hge⟩ : ∃ g, w.heap.size = g := ⟨_, rfl⟩
  have d0 := (cellGr hgr0 (a := ⟨b, 0, none⟩) hb).trans c0
  have d1 := (cellGr hgr0 (a := ⟨b, 1, none⟩) hb).trans c1
  have hcp := fun ty => run_copy_rowN (P := Try.prog) w1 30 30 ty 34 g 0 10 10 ⟨b, 0, none⟩ 1 1 (repC 0 10).toArray 34 (flatPl (List.replicate 1 nowP)) 2 1 Try.underlying30 info_placeS (by rw [← hge]; exact hg0) rfl rfl
    (fun j v hj => by
      match j, hj with
      | 0, hj => injection hj with hj; rw [← hj]; exact d0
      | 1, hj => injection hj with hj; rw [← hj]; exact d1) (by rw [List.size_toArray, repC_len (by omega)]; decide) (flatPl_one _)
  rw [hge] at hmk hg0
  have e1 : ((repC 0 10).toArray.toList.take 0 ++ flatPl (List.replicate 1 nowP) ++ (repC 0 10).toArray.toList.drop (0 + (flatPl (List.replicate 1 nowP)).length)) = repC 1 10 := by
    rw [List.toList_toArray]
    show ([] ++ flatPl (List.replicate 1 nowP)) ++ (repC 0 10).drop 2 = _
    rfl
  rw [e1, show goInt ((1 : Nat) : Int) = Value.int .i64 1 from rfl] at hcp
  have hg1 := setRow_heap w1 g (repC 0 10).toArray (repC 1 10).toArray 34 (0, 0) hg0
  have hgr1 : Gr w (w1.setRow g (repC 1 10).toArray) := below_setRow hgr0 (Nat.le_of_eq hge) _
  obtain ⟨w2, hw2⟩ : ∃ W, w1.setRow g (repC 1 10).toArray = W := ⟨_, rfl⟩
  rw [hw2] at hcp hg1 hgr1
  replace hg1 := Lib.hid hg1
  replace hgr1 := Lib.hid hgr1
  replace hw1 := Lib.hid hw1
  replace hw2 := Lib.hid hw2
  have hgle : w.heap.size ≤ g := Nat.le_of_eq hge
  replace hge := Lib.hid hge
  clear hgr0 d0 d1 c0 c1 hg0 e1 hi hz0 hz1 hz2
  go_enter Try.func41, Try.ntmps41
  go_wp2_with (go_at_call 56; go_must (refine hmul.mono ?_); clear hmul; rintro e w' ⟨rfl, hww⟩; rw [hww]; clear hww w')
  go_loopw [8] (fun u wr => ∃ k : Nat, 1 ≤ k ∧ k ≤ 10 ∧ u = .int .i64 k ∧ Hid (wr.heap[g]? = some (.cells (repC k 10).toArray 34 (0, 0))) ∧ Hid (Gr w wr)) (fun u _ => (10 - intOf u).toNat)
  case atStart => exact ⟨1, Nat.le_refl _, by omega, rfl, hg1, hgr1⟩
  case round =>
    obtain ⟨k, hk1, hk, rfl, hgk, hgr⟩ := hrel
    clear hmk hcp hg1 hgr1
    by_cases hlt : k < 10
    · have ii : (k : Int) < 10 := by omega
      have ii2 : (k : Int) ≤ 10 := by omega
      have ine : ¬ (10 = k) := by omega
      obtain ⟨we, hwe⟩ : ∃ we, we = wr.drew := ⟨_, rfl⟩
      have hgd : Gr wr we := by rw [hwe]; exact (Below.refl _ _).drew
      have hge2 := Lib.hid (hgr.out.trans hgd)
      have hgk2 := blk_below hgk.out hgd
      obtain ⟨j, hj⟩ : ∃ j, Nat.min k (10 - k) = j := ⟨_, rfl⟩
      have hjk : j ≤ k := by rw [← hj]; exact Nat.min_le_left _ _
      have hjn : k + j ≤ 10 := by
        have h9 : j ≤ 10 - k := by rw [← hj]; exact Nat.min_le_right _ _
        omega
      have hj1 : 1 ≤ j := by rw [← hj]; exact Nat.le_min.mpr ⟨hk1, by omega⟩
      have hcp := fun ty => run_copy_rowN (P := Try.prog) we 30 30 ty 34 g (k * 2) (10 - k) (10 - k) ⟨g, 0, none⟩ k 10 (repC k 10).toArray 34 (flatPl (List.replicate j nowP)) 2 j Try.underlying30 info_placeS hgk2 hj.symm (by rw [flatPl_len, List.length_replicate])
        (fun i v hi => by
          rw [addr0]
          exact blk_cell hgk2 (by rw [List.getElem?_toArray]; exact repC_src hjk i v hi)) (by rw [List.size_toArray, repC_len (by omega), flatPl_len, List.length_replicate]; omega) (flatPl_one _)
      rw [List.toList_toArray, flatPl_len, List.length_replicate, repC_copy hjk hjn, show goInt ((j : Nat) : Int) = Value.int .i64 j from rfl] at hcp
      have hg3 := setRow_heap we g (repC k 10).toArray (repC (k + j) 10).toArray 34 (0, 0) hgk2
      have hgr3 : Below w.heap.size we (we.setRow g (repC (k + j) 10).toArray) := below_setRow (Below.refl _ _) hgle _
      obtain ⟨w3, hw3⟩ : ∃ W, we.setRow g (repC (k + j) 10).toArray = W := ⟨_, rfl⟩
      rw [hw3] at hcp hg3 hgr3
      replace hg3 := Lib.hid hg3
      replace hw3 := Lib.hid hw3
      replace hj := Lib.hid hj
      replace hgk2 := Lib.hid hgk2
      replace hgd := Lib.hid hgd
      have hwr : IntKind.i64.wrap ((k : Int) + (j : Int)) = ((k + j : Nat) : Int) := by rw [i64_wrap_id (by omega) (by omega)]; omega
      go_upto_region 9 with (fail)
      refine wpR_region (Below w.heap.size) 9999 (by kernel_rfl) ?_
      (rw [← hwe]; replace hwe := Lib.hid hwe)
      refine wpR_take (i := 0) (v := ?_) (⟨fun x => Below.refl _ x, fun h1 h2 => h1.trans h2⟩) (some 38) rfl (by kernel_rfl) (by kernel_rfl) (by kernel_rfl) (by kernel_rfl) (by kernel_rfl) (fun _ _ _ h => h) (by kernel_rfl) (fun w' hw' => ?_) ?_
      rotate_left
      · go_simp; with_reducible rfl
      simp only [Act.put, List.setIfInBounds_toArray, List.set_cons_zero, List.set_cons_succ]
      refine wpR_take (i := 1) (v := ?_) (⟨fun x => Below.refl _ x, fun h1 h2 => h1.trans h2⟩) (some 39) rfl (by kernel_rfl) (by kernel_rfl) (by kernel_rfl) (by kernel_rfl) (by kernel_rfl) (fun _ _ _ h => h) (by kernel_rfl) (fun w' hw' => ?_) ?_
      rotate_left
      · go_simp; with_reducible rfl
      simp only [Act.put, List.setIfInBounds_toArray, List.set_cons_zero, List.set_cons_succ]
      refine wpR_take (i := 2) (v := ?_) (⟨fun x => Below.refl _ x, fun h1 h2 => h1.trans h2⟩) (some 40) rfl (by kernel_rfl) (by kernel_rfl) (by kernel_rfl) (by kernel_rfl) (by kernel_rfl) (fun _ _ _ h => h) (by kernel_rfl) (fun w' hw' => ?_) ?_
      rotate_left
      · go_simp; with_reducible rfl
      simp only [Act.put, List.setIfInBounds_toArray, List.set_cons_zero, List.set_cons_succ]
      refine wpR_take (i := 3) (v := ?_) (⟨fun x => Below.refl _ x, fun h1 h2 => h1.trans h2⟩) (some 41) rfl (by kernel_rfl) (by kernel_rfl) (by kernel_rfl) (by kernel_rfl) (by kernel_rfl) (fun _ _ _ h => h) (by kernel_rfl) (fun w' hw' => ?_) ?_
      rotate_left
      · go_simp; with_reducible rfl
      simp only [Act.put, List.setIfInBounds_toArray, List.set_cons_zero, List.set_cons_succ]
      refine wpR_take (i := 4) (v := ?_) (⟨fun x => Below.refl _ x, fun h1 h2 => h1.trans h2⟩) (some 42) rfl (by kernel_rfl) (by kernel_rfl) (by kernel_rfl) (by kernel_rfl) (by kernel_rfl) (fun _ _ _ h => h) (by kernel_rfl) (fun w' hw' => ?_) ?_
      rotate_left
      · go_simp; with_reducible rfl
      simp only [Act.put, List.setIfInBounds_toArray, List.set_cons_zero, List.set_cons_succ]
      refine wpR_take (i := 5) (v := ?_) (⟨fun x => Below.refl _ x, fun h1 h2 => h1.trans h2⟩) (some 43) rfl (by kernel_rfl) (by kernel_rfl) (by kernel_rfl) (by kernel_rfl) (by kernel_rfl) (fun _ _ _ h => h) (by kernel_rfl) (fun w' hw' => ?_) ?_
      rotate_left
      · go_simp; with_reducible rfl
      simp only [Act.put, List.setIfInBounds_toArray, List.set_cons_zero, List.set_cons_succ]
      refine wpR_take (i := 6) (v := ?_) (⟨fun x => Below.refl _ x, fun h1 h2 => h1.trans h2⟩) (some 44) rfl (by kernel_rfl) (by kernel_rfl) (by kernel_rfl) (by kernel_rfl) (by kernel_rfl) (fun _ _ _ h => h) (by kernel_rfl) (fun w' hw' => ?_) ?_
      rotate_left
      · go_simp; with_reducible rfl
      simp only [Act.put, List.setIfInBounds_toArray, List.set_cons_zero, List.set_cons_succ]
      refine wpR_one 7 rfl (by kernel_rfl) (by kernel_rfl) (fun K hK => ?_)
      go_simp
      refine hK _ _ (fun _ => hgr3) ?_
      clear hK K
      have hgr3' := hgr3
      try simp only [Act.put, List.setIfInBounds_toArray, List.set_cons_zero, List.set_cons_succ]
      refine wpR_take (i := 8) (v := ?_) (⟨fun x => Below.refl _ x, fun h1 h2 => h1.trans h2⟩) (some 46) rfl (by kernel_rfl) (by kernel_rfl) (by kernel_rfl) (by kernel_rfl) (by kernel_rfl) (fun _ _ _ h => h) (by kernel_rfl) (fun w' hw' => ?_) ?_
      rotate_left
      · go_simp; with_reducible rfl
      simp only [Act.put, List.setIfInBounds_toArray, List.set_cons_zero, List.set_cons_succ]
      refine wpR_take (i := 9) (v := ?_) (⟨fun x => Below.refl _ x, fun h1 h2 => h1.trans h2⟩) (some 8) rfl (by kernel_rfl) (by kernel_rfl) (by kernel_rfl) (by kernel_rfl) (by kernel_rfl) (fun _ _ _ h => h) (by kernel_rfl) (fun w' hw' => ?_) ?_
      rotate_left
      · go_simp; with_reducible rfl
      simp only [Act.put, List.setIfInBounds_toArray, List.set_cons_zero, List.set_cons_succ]
      refine wpR_done (by kernel_rfl) ?_ _
      go_wp2_with fail
      go_roundw
      case rel => exact ⟨k + j, by omega, hjn, by first | rfl | (rw [hwr]) | go_num, hg3, Lib.hid (Below.trans hge2.out hgr3')⟩
      case measure => simp [intOf, hwr]; omega
    · obtain rfl : k = 10 := by omega
      go_wp2_with fail
      go_ret
      exact ⟨g, rfl, hgle, hgk.out, hgr.out⟩
set_option maxRecDepth 10000 in
set_option maxHeartbeats 4000000 in
theorem repeat_20 (b : Nat) (w : World) (c0 : w.cell? ⟨b, 0, none⟩ = some (.int .i64 0)) (c1 : w.cell? ⟨b, 1, none⟩ = some (.int .i64 1024)) (hb : b < w.heap.size) : Calls Try.prog 41 #[.slice (some ⟨b, 0, none⟩) 1 1, .int .i64 20] w fun e w' => ∃ g, e = .returned (.slice (some ⟨g, 0, none⟩) 20 20) ∧ w.heap.size ≤ g ∧ w'.heap[g]? = some (.cells (repC 20 20).toArray 34 (0, 0)) ∧ Gr w w' := by
  obtain ⟨i0, hi, hz0, hz1, hz2⟩ := info_parts info_place
  have hmul := mul_any 2 (by omega) (by omega) w
  rw [show ((10 * 2 : Nat) : Int) = 20 from rfl] at hmul
  have hmk := run_make (P := Try.prog) w 30 34 i0 _ Try.underlying30 hi hz0 .i64 .i64 20 20 (by omega) (by omega) (by rw [hz2]; omega) (by omega)
  rw [show (Int.toNat 20) = 20 from rfl, hz1, show (Value.agg #[.int .i64 0, .int .i64 0]).cells = #[.int .i64 0, .int .i64 0] from rfl, made_rep 20] at hmk
  have hg0 : (w.alloc (.cells (repC 0 20).toArray 34)).heap[w.heap.size]? = some (.cells (repC 0 20).toArray 34 (0, 0)) := heap_alloc_new w _
  have hgr0 : Gr w (w.alloc (.cells (repC 0 20).toArray 34)) := Gr.alloc _ _
  obtain ⟨w1, hw1⟩ : ∃ W, w.alloc (.cells (repC 0 20).toArray 34) = W := ⟨_, rfl⟩
  rw [hw1] at hmk hg0 hgr0
  obtain ⟨g, hge⟩ : ∃ g, w.heap.size = g := ⟨_, rfl⟩
  have d0 := (cellGr hgr0 (a := ⟨b, 0, none⟩) hb).trans c0
  have d1 := (cellGr hgr0 (a := ⟨b, 1, none⟩) hb).trans c1
  have hcp := fun ty => run_copy_rowN (P := Try.prog) w1 30 30 ty 34 g 0 20 20 ⟨b, 0, none⟩ 1 1 (repC 0 20).toArray 34 (flatPl (List.replicate 1 nowP)) 2 1 Try.underlying30 info_placeS (by rw [← hge]; exact hg0) rfl rfl
    (fun j v hj => by
      match j, hj with
      | 0, hj => injection hj with hj; rw [← hj]; exact d0
      | 1, hj => injection hj with hj; rw [← hj]; exact d1) (by rw [List.size_toArray, repC_len (by omega)]; decide) (flatPl_one _)
  rw [hge] at hmk hg0
  have e1 : ((repC 0 20).toArray.toList.take 0 ++ flatPl (List.replicate 1 nowP) ++ (repC 0 20).toArray.toList.drop (0 + (flatPl (List.replicate 1 nowP)).length)) = repC 1 20 := by
    rw [List.toList_toArray]
    show ([] ++ flatPl (List.replicate 1 nowP)) ++ (repC 0 20).drop 2 = _
    rfl
  rw [e1, show goInt ((1 : Nat) : Int) = Value.int .i64 1 from rfl] at hcp
  have hg1 := setRow_heap w1 g (repC 0 20).toArray (repC 1 20).toArray 34 (0, 0) hg0
  have hgr1 : Gr w (w1.setRow g (repC 1 20).toArray) := below_setRow hgr0 (Nat.le_of_eq hge) _
  obtain ⟨w2, hw2⟩ : ∃ W, w1.setRow g (repC 1 20).toArray = W := ⟨_, rfl⟩
  rw [hw2] at hcp hg1 hgr1
  replace hg1 := Lib.hid hg1
  replace hgr1 := Lib.hid hgr1
  replace hw1 := Lib.hid hw1
  replace hw2 := Lib.hid hw2
  have hgle : w.heap.size ≤ g := Nat.le_of_eq hge
  replace hge := Lib.hid hge
  clear hgr0 d0 d1 c0 c1 hg0 e1 hi hz0 hz1 hz2
  go_enter Try.func41, Try.ntmps41
  go_wp2_with (go_at_call 56; go_must (refine hmul.mono ?_); clear hmul; rintro e w' ⟨rfl, hww⟩; rw [hww]; clear hww w')
  go_loopw [8] (fun u wr => ∃ k : Nat, 1 ≤ k ∧ k ≤ 20 ∧ u = .int .i64 k ∧ Hid (wr.heap[g]? = some (.cells (repC k 20).toArray 34 (0, 0))) ∧ Hid (Gr w wr)) (fun u _ => (20 - intOf u).toNat)
  case atStart => exact ⟨1, Nat.le_refl _, by omega, rfl, hg1, hgr1⟩
  case round =>
    obtain ⟨k, hk1, hk, rfl, hgk, hgr⟩ := hrel
    clear hmk hcp hg1 hgr1
    by_cases hlt : k < 20
    · have ii : (k : Int) < 20 := by omega
      have ii2 : (k : Int) ≤ 20 := by omega
      have ine : ¬ (20 = k) := by omega
      obtain ⟨we, hwe⟩ : ∃ we, we = wr.drew := ⟨_, rfl⟩
      have hgd : Gr wr we := by rw [hwe]; exact (Below.refl _ _).drew
      have hge2 := Lib.hid (hgr.out.trans hgd)
      have hgk2 := blk_below hgk.out hgd
      obtain ⟨j, hj⟩ : ∃ j, Nat.min k (20 - k) = j := ⟨_, rfl⟩
      have hjk : j ≤ k := by rw [← hj]; exact Nat.min_le_left _ _
      have hjn : k + j ≤ 20 := by
        have h9 : j ≤ 20 - k := by rw [← hj]; exact Nat.min_le_right _ _
        omega
      have hj1 : 1 ≤ j := by rw [← hj]; exact Nat.le_min.mpr ⟨hk1, by omega⟩
      have hcp := fun ty => run_copy_rowN (P := Try.prog) we 30 30 ty 34 g (k * 2) (20 - k) (20 - k) ⟨g, 0, none⟩ k 20 (repC k 20).toArray 34 (flatPl (List.replicate j nowP)) 2 j Try.underlying30 info_placeS hgk2 hj.symm (by rw [flatPl_len, List.length_replicate])
        (fun i v hi => by
          rw [addr0]
          exact blk_cell hgk2 (by rw [List.getElem?_toArray]; exact repC_src hjk i v hi)) (by rw [List.size_toArray, repC_len (by omega), flatPl_len, List.length_replicate]; omega) (flatPl_one _)
      rw [List.toList_toArray, flatPl_len, List.length_replicate, repC_copy hjk hjn, show goInt ((j : Nat) : Int) = Value.int .i64 j from rfl] at hcp
      have hg3 := setRow_heap we g (repC k 20).toArray (repC (k + j) 20).toArray 34 (0, 0) hgk2
      have hgr3 : Below w.heap.size we (we.setRow g (repC (k + j) 20).toArray) := below_setRow (Below.refl _ _) hgle _
      obtain ⟨w3, hw3⟩ : ∃ W, we.setRow g (repC (k + j) 20).toArray = W := ⟨_, rfl⟩
      rw [hw3] at hcp hg3 hgr3
      replace hg3 := Lib.hid hg3
      replace hw3 := Lib.hid hw3
      replace hj := Lib.hid hj
      replace hgk2 := Lib.hid hgk2
      replace hgd := Lib.hid hgd
      have hwr : IntKind.i64.wrap ((k : Int) + (j : Int)) = ((k + j : Nat) : Int) := by rw [i64_wrap_id (by omega) (by omega)]; omega
      go_upto_region 9 with (fail)
      refine wpR_region (Below w.heap.size) 9999 (by kernel_rfl) ?_
      (rw [← hwe]; replace hwe := Lib.hid hwe)
      refine wpR_take (i := 0) (v := ?_) (⟨fun x => Below.refl _ x, fun h1 h2 => h1.trans h2⟩) (some 38) rfl (by kernel_rfl) (by kernel_rfl) (by kernel_rfl) (by kernel_rfl) (by kernel_rfl) (fun _ _ _ h => h) (by kernel_rfl) (fun w' hw' => ?_) ?_
      rotate_left
      · go_simp; with_reducible rfl
      simp only [Act.put, List.setIfInBounds_toArray, List.set_cons_zero, List.set_cons_succ]
      refine wpR_take (i := 1) (v := ?_) (⟨fun x => Below.refl _ x, fun h1 h2 => h1.trans h2⟩) (some 39) rfl (by kernel_rfl) (by kernel_rfl) (by kernel_rfl) (by kernel_rfl) (by kernel_rfl) (fun _ _ _ h => h) (by kernel_rfl) (fun w' hw' => ?_) ?_
      rotate_left
      · go_simp; with_reducible rfl
      simp only [Act.put, List.setIfInBounds_toArray, List.set_cons_zero, List.set_cons_succ]
      refine wpR_take (i := 2) (v := ?_) (⟨fun x => Below.refl _ x, fun h1 h2 => h1.trans h2⟩) (some 40) rfl (by kernel_rfl) (by kernel_rfl) (by kernel_rfl) (by kernel_rfl) (by kernel_rfl) (fun _ _ _ h => h) (by kernel_rfl) (fun w' hw' => ?_) ?_
      rotate_left
      · go_simp; with_reducible rfl
      simp only [Act.put, List.setIfInBounds_toArray, List.set_cons_zero, List.set_cons_succ]
      refine wpR_take (i := 3) (v := ?_) (⟨fun x => Below.refl _ x, fun h1 h2 => h1.trans h2⟩) (some 41) rfl (by kernel_rfl) (by kernel_rfl) (by kernel_rfl) (by kernel_rfl) (by kernel_rfl) (fun _ _ _ h => h) (by kernel_rfl) (fun w' hw' => ?_) ?_
      rotate_left
      · go_simp; with_reducible rfl
      simp only [Act.put, List.setIfInBounds_toArray, List.set_cons_zero, List.set_cons_succ]
      refine wpR_take (i := 4) (v := ?_) (⟨fun x => Below.refl _ x, fun h1 h2 => h1.trans h2⟩) (some 42) rfl (by kernel_rfl) (by kernel_rfl) (by kernel_rfl) (by kernel_rfl) (by kernel_rfl) (fun _ _ _ h => h) (by kernel_rfl) (fun w' hw' => ?_) ?_
      rotate_left
      · go_simp; with_reducible rfl
      simp only [Act.put, List.setIfInBounds_toArray, List.set_cons_zero, List.set_cons_succ]
      refine wpR_take (i := 5) (v := ?_) (⟨fun x => Below.refl _ x, fun h1 h2 => h1.trans h2⟩) (some 43) rfl (by kernel_rfl) (by kernel_rfl) (by kernel_rfl) (by kernel_rfl) (by kernel_rfl) (fun _ _ _ h => h) (by kernel_rfl) (fun w' hw' => ?_) ?_
      rotate_left
      · go_simp; with_reducible rfl
      simp only [Act.put, List.setIfInBounds_toArray, List.set_cons_zero, List.set_cons_succ]
      refine wpR_take (i := 6) (v := ?_) (⟨fun x => Below.refl _ x, fun h1 h2 => h1.trans h2⟩) (some 44) rfl (by kernel_rfl) (by kernel_rfl) (by kernel_rfl) (by kernel_rfl) (by kernel_rfl) (fun _ _ _ h => h) (by kernel_rfl) (fun w' hw' => ?_) ?_
      rotate_left
      · go_simp; with_reducible rfl
      simp only [Act.put, List.setIfInBounds_toArray, List.set_cons_zero, List.set_cons_succ]
      refine wpR_one 7 rfl (by kernel_rfl) (by kernel_rfl) (fun K hK => ?_)
      go_simp
      refine hK _ _ (fun _ => hgr3) ?_
      clear hK K
      have hgr3' := hgr3
      try simp only [Act.put, List.setIfInBounds_toArray, List.set_cons_zero, List.set_cons_succ]
      refine wpR_take (i := 8) (v := ?_) (⟨fun x => Below.refl _ x, fun h1 h2 => h1.trans h2⟩) (some 46) rfl (by kernel_rfl) (by kernel_rfl) (by kernel_rfl) (by kernel_rfl) (by kernel_rfl) (fun _ _ _ h => h) (by kernel_rfl) (fun w' hw' => ?_) ?_
      rotate_left
      · go_simp; with_reducible rfl
      simp only [Act.put, List.setIfInBounds_toArray, List.set_cons_zero, List.set_cons_succ]
      refine wpR_take (i := 9) (v := ?_) (⟨fun x => Below.refl _ x, fun h1 h2 => h1.trans h2⟩) (some 8) rfl (by kernel_rfl) (by kernel_rfl) (by kernel_rfl) (by kernel_rfl) (by kernel_rfl) (fun _ _ _ h => h) (by kernel_rfl) (fun w' hw' => ?_) ?_
      rotate_left
      · go_simp; with_reducible rfl
      simp only [Act.put, List.setIfInBounds_toArray, List.set_cons_zero, List.set_cons_succ]
      refine wpR_done (by kernel_rfl) ?_ _
      go_wp2_with fail
      go_roundw
      case rel => exact ⟨k + j, by omega, hjn, by first | rfl | (rw [hwr]) | go_num, hg3, Lib.hid (Below.trans hge2.out hgr3')⟩
      case measure => simp [intOf, hwr]; omega
    · obtain rfl : k = 20 := by omega
      go_wp2_with fail
      go_ret
      exact ⟨g, rfl, hgle, hgk.out, hgr.out⟩
set_option maxRecDepth 10000 in
set_option maxHeartbeats 4000000 in
theorem repeat_30 (b : Nat) (w : World) (c0 : w.cell? ⟨b, 0, none⟩ = some (.int .i64 0)) (c1 : w.cell? ⟨b, 1, none⟩ = some (.int .i64 1024)) (hb : b < w.heap.size) : Calls Try.prog 41 #[.slice (some ⟨b, 0, none⟩) 1 1, .int .i64 30] w fun e w' => ∃ g, e = .returned (.slice (some ⟨g, 0, none⟩) 30 30) ∧ w.heap.size ≤ g ∧ w'.heap[g]? = some (.cells (repC 30 30).toArray 34 (0, 0)) ∧ Gr w w' := by
  obtain ⟨i0, hi, hz0, hz1, hz2⟩ := info_parts info_place
  have hmul := mul_any 3 (by omega) (by omega) w
  rw [show ((10 * 3 : Nat) : Int) = 30 from rfl] at hmul
  have hmk := run_make (P := Try.prog) w 30 34 i0 _ Try.underlying30 hi hz0 .i64 .i64 30 30 (by omega) (by omega) (by rw [hz2]; omega) (by omega)
  rw [show (Int.toNat 30) = 30 from rfl, hz1, show (Value.agg #[.int .i64 0, .int .i64 0]).cells = #[.int .i64 0, .int .i64 0] from rfl, made_rep 30] at hmk
  have hg0 : (w.alloc (.cells (repC 0 30).toArray 34)).heap[w.heap.size]? = some (.cells (repC 0 30).toArray 34 (0, 0)) := heap_alloc_new w _
  have hgr0 : Gr w (w.alloc (.cells (repC 0 30).toArray 34)) := Gr.alloc _ _
  obtain ⟨w1, hw1⟩ : ∃ W, w.alloc (.cells (repC 0 30).toArray 34) = W := ⟨_, rfl⟩
  rw [hw1] at hmk hg0 hgr0
  obtain ⟨g, hge⟩ : ∃ g, w.heap.size = g := ⟨_, rfl⟩
  have d0 := (cellGr hgr0 (a := ⟨b, 0, none⟩) hb).trans c0
  have d1 := (cellGr hgr0 (a := ⟨b, 1, none⟩) hb).trans c1
  have hcp := fun ty => run_copy_rowN (P := Try.prog) w1 30 30 ty 34 g 0 30 30 ⟨b, 0, none⟩ 1 1 (repC 0 30).toArray 34 (flatPl (List.replicate 1 nowP)) 2 1 Try.underlying30 info_placeS (by rw [← hge]; exact hg0) rfl rfl
    (fun j v hj => by
      match j, hj with
      | 0, hj => injection hj with hj; rw [← hj]; exact d0
      | 1, hj => injection hj with hj; rw [← hj]; exact d1) (by rw [List.size_toArray, repC_len (by omega)]; decide) (flatPl_one _)
  rw [hge] at hmk hg0
  have e1 : ((repC 0 30).toArray.toList.take 0 ++ flatPl (List.replicate 1 nowP) ++ (repC 0 30).toArray.toList.drop (0 + (flatPl (List.replicate 1 nowP)).length)) = repC 1 30 := by
    rw [List.toList_toArray]
    show ([] ++ flatPl (List.replicate 1 nowP)) ++ (repC 0 30).drop 2 = _
    rfl
  rw [e1, show goInt ((1 : Nat) : Int) = Value.int .i64 1 from rfl] at hcp
  have hg1 := setRow_heap w1 g (repC 0 30).toArray (repC 1 30).toArray 34 (0, 0) hg0
  have hgr1 : Gr w (w1.setRow g (repC 1 30).toArray) := below_setRow hgr0 (Nat.le_of_eq hge) _
  obtain ⟨w2, hw2⟩ : ∃ W, w1.setRow g (repC 1 30).toArray = W := ⟨_, rfl⟩
  rw [hw2] at hcp hg1 hgr1
  replace hg1 := Lib.hid hg1
  replace hgr1 := Lib.hid hgr1
  replace hw1 := Lib.hid hw1
  replace hw2 := Lib.hid hw2
  have hgle : w.heap.size ≤ g := Nat.le_of_eq hge
  replace hge := Lib.hid hge
  clear hgr0 d0 d1 c0 c1 hg0 e1 hi hz0 hz1 hz2
  go_enter Try.func41, Try.ntmps41
  go_wp2_with (go_at_call 56; go_must (refine hmul.mono ?_); clear hmul; rintro e w' ⟨rfl, hww⟩; rw [hww]; clear hww w')
  go_loopw [8] (fun u wr => ∃ k : Nat, 1 ≤ k ∧ k ≤ 30 ∧ u = .int .i64 k ∧ Hid (wr.heap[g]? = some (.cells (repC k 30).toArray 34 (0, 0))) ∧ Hid (Gr w wr)) (fun u _ => (30 - intOf u).toNat)
  case atStart => exact ⟨1, Nat.le_refl _, by omega, rfl, hg1, hgr1⟩
  case round =>
    obtain ⟨k, hk1, hk, rfl, hgk, hgr⟩ := hrel
    clear hmk hcp hg1 hgr1
    by_cases hlt : k < 30
    · have ii : (k : Int) < 30 := by omega
      have ii2 : (k : Int) ≤ 30 := by omega
      have ine : ¬ (30 = k) := by omega
      obtain ⟨we, hwe⟩ : ∃ we, we = wr.drew := ⟨_, rfl⟩
      have hgd : Gr wr we := by rw [hwe]; exact (Below.refl _ _).drew
      have hge2 := Lib.hid (hgr.out.trans hgd)
      have hgk2 := blk_below hgk.out hgd
      obtain ⟨j, hj⟩ : ∃ j, Nat.min k (30 - k) = j := ⟨_, rfl⟩
      have hjk : j ≤ k := by rw [← hj]; exact Nat.min_le_left _ _
      have hjn : k + j ≤ 30 := by
        have h9 : j ≤ 30 - k := by rw [← hj]; exact Nat.min_le_right _ _
        omega
      have hj1 : 1 ≤ j := by rw [← hj]; exact Nat.le_min.mpr ⟨hk1, by omega⟩
      have hcp := fun ty => run_copy_rowN (P := Try.prog) we 30 30 ty 34 g (k * 2) (30 - k) (30 - k) ⟨g, 0, none⟩ k 30 (repC k 30).toArray 34 (flatPl (List.replicate j nowP)) 2 j Try.underlying30 info_placeS hgk2 hj.symm (by rw [flatPl_len, List.length_replicate])
        (fun i v hi => by
          rw [addr0]
          exact blk_cell hgk2 (by rw [List.getElem?_toArray]; exact repC_src hjk i v hi)) (by rw [List.size_toArray, repC_len (by omega), flatPl_len, List.length_replicate]; omega) (flatPl_one _)
      rw [List.toList_toArray, flatPl_len, List.length_replicate, repC_copy hjk hjn, show goInt ((j : Nat) : Int) = Value.int .i64 j from rfl] at hcp
      have hg3 := setRow_heap we g (repC k 30).toArray (repC (k + j) 30).toArray 34 (0, 0) hgk2
      have hgr3 : Below w.heap.size we (we.setRow g (repC (k + j) 30).toArray) := below_setRow (Below.refl _ _) hgle _
      obtain ⟨w3, hw3⟩ : ∃ W, we.setRow g (repC (k + j) 30).toArray = W := ⟨_, rfl⟩
      rw [hw3] at hcp hg3 hgr3
      replace hg3 := Lib.hid hg3
      replace hw3 := Lib.hid hw3
      replace hj := Lib.hid hj
      replace hgk2 := Lib.hid hgk2
      replace hgd := Lib.hid hgd
      have hwr : IntKind.i64.wrap ((k : Int) + (j : Int)) = ((k + j : Nat) : Int) := by rw [i64_wrap_id (by omega) (by omega)]; omega
      go_upto_region 9 with (fail)
      refine wpR_region (Below w.heap.size) 9999 (by kernel_rfl) ?_
      (rw [← hwe]; replace hwe := Lib.hid hwe)
      refine wpR_take (i := 0) (v := ?_) (⟨fun x => Below.refl _ x, fun h1 h2 => h1.trans h2⟩) (some 38) rfl (by kernel_rfl) (by kernel_rfl) (by kernel_rfl) (by kernel_rfl) (by kernel_rfl) (fun _ _ _ h => h) (by kernel_rfl) (fun w' hw' => ?_) ?_
      rotate_left
      · go_simp; with_reducible rfl
      simp only [Act.put, List.setIfInBounds_toArray, List.set_cons_zero, List.set_cons_succ]
      refine wpR_take (i := 1) (v := ?_) (⟨fun x => Below.refl _ x, fun h1 h2 => h1.trans h2⟩) (some 39) rfl (by kernel_rfl) (by kernel_rfl) (by kernel_rfl) (by kernel_rfl) (by kernel_rfl) (fun _ _ _ h => h) (by kernel_rfl) (fun w' hw' => ?_) ?_
      rotate_left
      · go_simp; with_reducible rfl
      simp only [Act.put, List.setIfInBounds_toArray, List.set_cons_zero, List.set_cons_succ]
      refine wpR_take (i := 2) (v := ?_) (⟨fun x => Below.refl _ x, fun h1 h2 => h1.trans h2⟩) (some 40) rfl (by kernel_rfl) (by kernel_rfl) (by kernel_rfl) (by kernel_rfl) (by kernel_rfl) (fun _ _ _ h => h) (by kernel_rfl) (fun w' hw' => ?_) ?_
      rotate_left
      · go_simp; with_reducible rfl
      simp only [Act.put, List.setIfInBounds_toArray, List.set_cons_zero, List.set_cons_succ]
      refine wpR_take (i := 3) (v := ?_) (⟨fun x => Below.refl _ x, fun h1 h2 => h1.trans h2⟩) (some 41) rfl (by kernel_rfl) (by kernel_rfl) (by kernel_rfl) (by kernel_rfl) (by kernel_rfl) (fun _ _ _ h => h) (by kernel_rfl) (fun w' hw' => ?_) ?_
      rotate_left
      · go_simp; with_reducible rfl
      simp only [Act.put, List.setIfInBounds_toArray, List.set_cons_zero, List.set_cons_succ]
      refine wpR_take (i := 4) (v := ?_) (⟨fun x => Below.refl _ x, fun h1 h2 => h1.trans h2⟩) (some 42) rfl (by kernel_rfl) (by kernel_rfl) (by kernel_rfl) (by kernel_rfl) (by kernel_rfl) (fun _ _ _ h => h) (by kernel_rfl) (fun w' hw' => ?_) ?_
      rotate_left
      · go_simp; with_reducible rfl
      simp only [Act.put, List.setIfInBounds_toArray, List.set_cons_zero, List.set_cons_succ]
      refine wpR_take (i := 5) (v := ?_) (⟨fun x => Below.refl _ x, fun h1 h2 => h1.trans h2⟩) (some 43) rfl (by kernel_rfl) (by kernel_rfl) (by kernel_rfl) (by kernel_rfl) (by kernel_rfl) (fun _ _ _ h => h) (by kernel_rfl) (fun w' hw' => ?_) ?_
      rotate_left
      · go_simp; with_reducible rfl
      simp only [Act.put, List.setIfInBounds_toArray, List.set_cons_zero, List.set_cons_succ]
      refine wpR_take (i := 6) (v := ?_) (⟨fun x => Below.refl _ x, fun h1 h2 => h1.trans h2⟩) (some 44) rfl (by kernel_rfl) (by kernel_rfl) (by kernel_rfl) (by kernel_rfl) (by kernel_rfl) (fun _ _ _ h => h) (by kernel_rfl) (fun w' hw' => ?_) ?_
      rotate_left
      · go_simp; with_reducible rfl
      simp only [Act.put, List.setIfInBounds_toArray, List.set_cons_zero, List.set_cons_succ]
      refine wpR_one 7 rfl (by kernel_rfl) (by kernel_rfl) (fun K hK => ?_)
      go_simp
      refine hK _ _ (fun _ => hgr3) ?_
      clear hK K
      have hgr3' := hgr3
      try simp only [Act.put, List.setIfInBounds_toArray, List.set_cons_zero, List.set_cons_succ]
      refine wpR_take (i := 8) (v := ?_) (⟨fun x => Below.refl _ x, fun h1 h2 => h1.trans h2⟩) (some 46) rfl (by kernel_rfl) (by kernel_rfl) (by kernel_rfl) (by kernel_rfl) (by kernel_rfl) (fun _ _ _ h => h) (by kernel_rfl) (fun w' hw' => ?_) ?_
      rotate_left
      · go_simp; with_reducible rfl
      simp only [Act.put, List.setIfInBounds_toArray, List.set_cons_zero, List.set_cons_succ]
      refine wpR_take (i := 9) (v := ?_) (⟨fun x => Below.refl _ x, fun h1 h2 => h1.trans h2⟩) (some 8) rfl (by kernel_rfl) (by kernel_rfl) (by kernel_rfl) (by kernel_rfl) (by kernel_rfl) (fun _ _ _ h => h) (by kernel_rfl) (fun w' hw' => ?_) ?_
      rotate_left
      · go_simp; with_reducible rfl
      simp only [Act.put, List.setIfInBounds_toArray, List.set_cons_zero, List.set_cons_succ]
      refine wpR_done (by kernel_rfl) ?_ _
      go_wp2_with fail
      go_roundw
      case rel => exact ⟨k + j, by omega, hjn, by first | rfl | (rw [hwr]) | go_num, hg3, Lib.hid (Below.trans hge2.out hgr3')⟩
      case measure => simp [intOf, hwr]; omega
    · obtain rfl : k = 30 := by omega
      go_wp2_with fail
      go_ret
      exact ⟨g, rfl, hgle, hgk.out, hgr.out⟩
set_option maxRecDepth 10000 in
set_option maxHeartbeats 4000000 in
theorem repeat_40 (b : Nat) (w : World) (c0 : w.cell? ⟨b, 0, none⟩ = some (.int .i64 0)) (c1 : w.cell? ⟨b, 1, none⟩ = some (.int .i64 1024)) (hb : b < w.heap.size) : Calls Try.prog 41 #[.slice (some ⟨b, 0, none⟩) 1 1, .int .i64 40] w fun e w' => ∃ g, e = .returned (.slice (some ⟨g, 0, none⟩) 40 40) ∧ w.heap.size ≤ g ∧ w'.heap[g]? = some (.cells (repC 40 40).toArray 34 (0, 0)) ∧ Gr w w' := by
  obtain ⟨i0, hi, hz0, hz1, hz2⟩ := info_parts info_place
  have hmul := mul_any 4 (by omega) (by omega) w
  rw [show ((10 * 4 : Nat) : Int) = 40 from rfl] at hmul
  have hmk := run_make (P := Try.prog) w 30 34 i0 _ Try.underlying30 hi hz0 .i64 .i64 40 40 (by omega) (by omega) (by rw [hz2]; omega) (by omega)
  rw [show (Int.toNat 40) = 40 from rfl, hz1, show (Value.agg #[.int .i64 0, .int .i64 0]).cells = #[.int .i64 0, .int .i64 0] from rfl, made_rep 40] at hmk
  have hg0 : (w.alloc (.cells (repC 0 40).toArray 34)).heap[w.heap.size]? = some (.cells (repC 0 40).toArray 34 (0, 0)) := heap_alloc_new w _
  have hgr0 : Gr w (w.alloc (.cells (repC 0 40).toArray 34)) := Gr.alloc _ _
  obtain ⟨w1, hw1⟩ : ∃ W, w.alloc (.cells (repC 0 40).toArray 34) = W := ⟨_, rfl⟩
  rw [hw1] at hmk hg0 hgr0
  obtain ⟨g, hge⟩ : ∃ g, w.heap.size = g := ⟨_, rfl⟩
  have d0 := (cellGr hgr0 (a := ⟨b, 0, none⟩) hb).trans c0
  have d1 := (cellGr hgr0 (a := ⟨b, 1, none⟩) hb).trans c1
  have hcp := fun ty => run_copy_rowN (P := Try.prog) w1 30 30 ty 34 g 0 40 40 ⟨b, 0, none⟩ 1 1 (repC 0 40).toArray 34 (flatPl (List.replicate 1 nowP)) 2 1 Try.underlying30 info_placeS (by rw [← hge]; exact hg0) rfl rfl
    (fun j v hj => by
      match j, hj with
      | 0, hj => injection hj with hj; rw [← hj]; exact d0
      | 1, hj => injection hj with hj; rw [← hj]; exact d1) (by rw [List.size_toArray, repC_len (by omega)]; decide) (flatPl_one _)
  rw [hge] at hmk hg0
  have e1 : ((repC 0 40).toArray.toList.take 0 ++ flatPl (List.replicate 1 nowP) ++ (repC 0 40).toArray.toList.drop (0 + (flatPl (List.replicate 1 nowP)).length)) = repC 1 40 := by
    rw [List.toList_toArray]
    show ([] ++ flatPl (List.replicate 1 nowP)) ++ (repC 0 40).drop 2 = _
    rfl
  rw [e1, show goInt ((1 : Nat) : Int) = Value.int .i64 1 from rfl] at hcp
  have hg1 := setRow_heap w1 g (repC 0 40).toArray (repC 1 40).toArray 34 (0, 0) hg0
  have hgr1 : Gr w (w1.setRow g (repC 1 40).toArray) := below_setRow hgr0 (Nat.le_of_eq hge) _
  obtain ⟨w2, hw2⟩ : ∃ W, w1.setRow g (repC 1 40).toArray = W := ⟨_, rfl⟩
  rw [hw2] at hcp hg1 hgr1
  replace hg1 := Lib.hid hg1
  replace hgr1 := Lib.hid hgr1
  replace hw1 := Lib.hid hw1
  replace hw2 := Lib.hid hw2
  have hgle : w.heap.size ≤ g := Nat.le_of_eq hge
  replace hge := Lib.hid hge
  clear hgr0 d0 d1 c0 c1 hg0 e1 hi hz0 hz1 hz2
  go_enter Try.func41, Try.ntmps41
  go_wp2_with (go_at_call 56; go_must (refine hmul.mono ?_); clear hmul; rintro e w' ⟨rfl, hww⟩; rw [hww]; clear hww w')
  go_loopw [8] (fun u wr => ∃ k : Nat, 1 ≤ k ∧ k ≤ 40 ∧ u = .int .i64 k ∧ Hid (wr.heap[g]? = some (.cells (repC k 40).toArray 34 (0, 0))) ∧ Hid (Gr w wr)) (fun u _ => (40 - intOf u).toNat)
  case atStart => exact ⟨1, Nat.le_refl _, by omega, rfl, hg1, hgr1⟩
  case round =>
    obtain ⟨k, hk1, hk, rfl, hgk, hgr⟩ := hrel
    clear hmk hcp hg1 hgr1
    by_cases hlt : k < 40
    · have ii : (k : Int) < 40 := by omega
      have ii2 : (k : Int) ≤ 40 := by omega
      have ine : ¬ (40 = k) := by omega
      obtain ⟨we, hwe⟩ : ∃ we, we = wr.drew := ⟨_, rfl⟩
      have hgd : Gr wr we := by rw [hwe]; exact (Below.refl _ _).drew
      have hge2 := Lib.hid (hgr.out.trans hgd)
      have hgk2 := blk_below hgk.out hgd
      obtain ⟨j, hj⟩ : ∃ j, Nat.min k (40 - k) = j := ⟨_, rfl⟩
      have hjk : j ≤ k := by rw [← hj]; exact Nat.min_le_left _ _
      have hjn : k + j ≤ 40 := by
        have h9 : j ≤ 40 - k := by rw [← hj]; exact Nat.min_le_right _ _
        omega
      have hj1 : 1 ≤ j := by rw [← hj]; exact Nat.le_min.mpr ⟨hk1, by omega⟩
      have hcp := fun ty => run_copy_rowN (P := Try.prog) we 30 30 ty 34 g (k * 2) (40 - k) (40 - k) ⟨g, 0, none⟩ k 40 (repC k 40).toArray 34 (flatPl (List.replicate j nowP)) 2 j Try.underlying30 info_placeS hgk2 hj.symm (by rw [flatPl_len, List.length_replicate])
        (fun i v hi => by
          rw [addr0]
          exact blk_cell hgk2 (by rw [List.getElem?_toArray]; exact repC_src hjk i v hi)) (by rw [List.size_toArray, repC_len (by omega), flatPl_len, List.length_replicate]; omega) (flatPl_one _)
      rw [List.toList_toArray, flatPl_len, List.length_replicate, repC_copy hjk hjn, show goInt ((j : Nat) : Int) = Value.int .i64 j from rfl] at hcp
      have hg3 := setRow_heap we g (repC k 40).toArray (repC (k + j) 40).toArray 34 (0, 0) hgk2
      have hgr3 : Below w.heap.size we (we.setRow g (repC (k + j) 40).toArray) := below_setRow (Below.refl _ _) hgle _
      obtain ⟨w3, hw3⟩ : ∃ W, we.setRow g (repC (k + j) 40).toArray = W := ⟨_, rfl⟩
      rw [hw3] at hcp hg3 hgr3
      replace hg3 := Lib.hid hg3
      replace hw3 := Lib.hid hw3
      replace hj := Lib.hid hj
      replace hgk2 := Lib.hid hgk2
      replace hgd := Lib.hid hgd
      have hwr : IntKind.i64.wrap ((k : Int) + (j : Int)) = ((k + j : Nat) : Int) := by rw [i64_wrap_id (by omega) (by omega)]; omega
      go_upto_region 9 with (fail)
      refine wpR_region (Below w.heap.size) 9999 (by kernel_rfl) ?_
      (rw [← hwe]; replace hwe := Lib.hid hwe)
      refine wpR_take (i := 0) (v := ?_) (⟨fun x => Below.refl _ x, fun h1 h2 => h1.trans h2⟩) (some 38) rfl (by kernel_rfl) (by kernel_rfl) (by kernel_rfl) (by kernel_rfl) (by kernel_rfl) (fun _ _ _ h => h) (by kernel_rfl) (fun w' hw' => ?_) ?_
      rotate_left
      · go_simp; with_reducible rfl
      simp only [Act.put, List.setIfInBounds_toArray, List.set_cons_zero, List.set_cons_succ]
      refine wpR_take (i := 1) (v := ?_) (⟨fun x => Below.refl _ x, fun h1 h2 => h1.trans h2⟩) (some 39) rfl (by kernel_rfl) (by kernel_rfl) (by kernel_rfl) (by kernel_rfl) (by kernel_rfl) (fun _ _ _ h => h) (by kernel_rfl) (fun w' hw' => ?_) ?_
      rotate_left
      · go_simp; with_reducible rfl
      simp only [Act.put, List.setIfInBounds_toArray, List.set_cons_zero, List.set_cons_succ]
      refine wpR_take (i := 2) (v := ?_) (⟨fun x => Below.refl _ x, fun h1 h2 => h1.trans h2⟩) (some 40) rfl (by kernel_rfl) (by kernel_rfl) (by kernel_rfl) (by kernel_rfl) (by kernel_rfl) (fun _ _ _ h => h) (by kernel_rfl) (fun w' hw' => ?_) ?_
      rotate_left
      · go_simp; with_reducible rfl
      simp only [Act.put, List.setIfInBounds_toArray, List.set_cons_zero, List.set_cons_succ]
      refine wpR_take (i := 3) (v := ?_) (⟨fun x => Below.refl _ x, fun h1 h2 => h1.trans h2⟩) (some 41) rfl (by kernel_rfl) (by kernel_rfl) (by kernel_rfl) (by kernel_rfl) (by kernel_rfl) (fun _ _ _ h => h) (by kernel_rfl) (fun w' hw' => ?_) ?_
      rotate_left
      · go_simp; with_reducible rfl
      simp only [Act.put, List.setIfInBounds_toArray, List.set_cons_zero, List.set_cons_succ]
      refine wpR_take (i := 4) (v := ?_) (⟨fun x => Below.refl _ x, fun h1 h2 => h1.trans h2⟩) (some 42) rfl (by kernel_rfl) (by kernel_rfl) (by kernel_rfl) (by kernel_rfl) (by kernel_rfl) (fun _ _ _ h => h) (by kernel_rfl) (fun w' hw' => ?_) ?_
      rotate_left
      · go_simp; with_reducible rfl
      simp only [Act.put, List.setIfInBounds_toArray, List.set_cons_zero, List.set_cons_succ]
      refine wpR_take (i := 5) (v := ?_) (⟨fun x => Below.refl _ x, fun h1 h2 => h1.trans h2⟩) (some 43) rfl (by kernel_rfl) (by kernel_rfl) (by kernel_rfl) (by kernel_rfl) (by kernel_rfl) (fun _ _ _ h => h) (by kernel_rfl) (fun w' hw' => ?_) ?_
      rotate_left
      · go_simp; with_reducible rfl
      simp only [Act.put, List.setIfInBounds_toArray, List.set_cons_zero, List.set_cons_succ]
      refine wpR_take (i := 6) (v := ?_) (⟨fun x => Below.refl _ x, fun h1 h2 => h1.trans h2⟩) (some 44) rfl (by kernel_rfl) (by kernel_rfl) (by kernel_rfl) (by kernel_rfl) (by kernel_rfl) (fun _ _ _ h => h) (by kernel_rfl) (fun w' hw' => ?_) ?_
      rotate_left
      · go_simp; with_reducible rfl
      simp only [Act.put, List.setIfInBounds_toArray, List.set_cons_zero, List.set_cons_succ]
      refine wpR_one 7 rfl (by kernel_rfl) (by kernel_rfl) (fun K hK => ?_)
      go_simp
      refine hK _ _ (fun _ => hgr3) ?_
      clear hK K
      have hgr3' := hgr3
      try simp only [Act.put, List.setIfInBounds_toArray, List.set_cons_zero, List.set_cons_succ]
      refine wpR_take (i := 8) (v := ?_) (⟨fun x => Below.refl _ x, fun h1 h2 => h1.trans h2⟩) (some 46) rfl (by kernel_rfl) (by kernel_rfl) (by kernel_rfl) (by kernel_rfl) (by kernel_rfl) (fun _ _ _ h => h) (by kernel_rfl) (fun w' hw' => ?_) ?_
      rotate_left
      · go_simp; with_reducible rfl
      simp only [Act.put, List.setIfInBounds_toArray, List.set_cons_zero, List.set_cons_succ]
      refine wpR_take (i := 9) (v := ?_) (⟨fun x => Below.refl _ x, fun h1 h2 => h1.trans h2⟩) (some 8) rfl (by kernel_rfl) (by kernel_rfl) (by kernel_rfl) (by kernel_rfl) (by kernel_rfl) (fun _ _ _ h => h) (by kernel_rfl) (fun w' hw' => ?_) ?_
      rotate_left
      · go_simp; with_reducible rfl
      simp only [Act.put, List.setIfInBounds_toArray, List.set_cons_zero, List.set_cons_succ]
      refine wpR_done (by kernel_rfl) ?_ _
      go_wp2_with fail
      go_roundw
      case rel => exact ⟨k + j, by omega, hjn, by first | rfl | (rw [hwr]) | go_num, hg3, Lib.hid (Below.trans hge2.out hgr3')⟩
      case measure => simp [intOf, hwr]; omega
    · obtain rfl : k = 40 := by omega
      go_wp2_with fail
      go_ret
      exact ⟨g, rfl, hgle, hgk.out, hgr.out⟩

theorem repC_all (n : Nat) : repC n n = flatPl (List.replicate n nowP) := by unfold repC; rw [Nat.sub_self]; simp [flatPl]
theorem repeat_any (G : Nat) (h1 : 1 ≤ G) (h4 : G ≤ 4) (b : Nat) (w : World) (c0 : w.cell? ⟨b, 0, none⟩ = some (.int .i64 0)) (c1 : w.cell? ⟨b, 1, none⟩ = some (.int .i64 1024)) (hb : b < w.heap.size) : Calls Try.prog 41 #[.slice (some ⟨b, 0, none⟩) 1 1, .int .i64 ((10 * G : Nat) : Int)] w fun e w' => ∃ g, e = .returned (.slice (some ⟨g, 0, none⟩) (10 * G) (10 * G)) ∧ w.heap.size ≤ g ∧ w'.heap[g]? = some (.cells (flatPl (List.replicate (10 * G) nowP)).toArray 34 (0, 0)) ∧ Gr w w' := by
  rw [← repC_all]
  rcases (by omega : G = 1 ∨ G = 2 ∨ G = 3 ∨ G = 4) with rfl | rfl | rfl | rfl
  · exact repeat_10 b w c0 c1 hb
  · exact repeat_20 b w c0 c1 hb
  · exact repeat_30 b w c0 c1 hb
  · exact repeat_40 b w c0 c1 hb
end Go.Proofs.Ytiliggleplpjbaa
