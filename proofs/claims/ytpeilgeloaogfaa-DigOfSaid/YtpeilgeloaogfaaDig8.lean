/- dig: a block added to the state. -/
import Derived.Test.YtpeilgeloaogfaaDig6
import Derived.Test.YtpeilgeloaogfaaDig7
namespace Go.Proofs.Ytpeilgeloaogfaa
set_option linter.unusedVariables false
set_option linter.unusedSimpArgs false
open Go Go.RowKit
theorem info_s : (Try.prog.info? 115).map (·.size) = some 8 := by kernel_rfl
theorem Ar.lt {w : World} {g n : Nat} {t : TypeId} {f : Nat → BitVec 32} (h : Ar w g t n f) : g < w.heap.size := (Array.getElem?_eq_some_iff.mp h).1
theorem Ar.below {w w' : World} {B g n : Nat} {t : TypeId} {f : Nat → BitVec 32} (h : Ar w g t n f) (hb : Below B w w') (hg : g < B) : Ar w' g t n f := h.other (by
  obtain ⟨-, -, -, -, e⟩ := hb
  exact e _ hg)
theorem Ar.new (w : World) (t : TypeId) (n : Nat) (f : Nat → BitVec 32) : Ar (w.alloc (.cells (wcells n f).toArray t)) w.heap.size t n f := heap_alloc_new w _
theorem Ar.alloc {w : World} {g n : Nat} {t : TypeId} {f : Nat → BitVec 32} (h : Ar w g t n f) (o : Obj) : Ar (w.alloc o) g t n f := h.below ((Below.refl _ w).alloc (Nat.le_refl _) o) h.lt
@[go_sem] theorem u32_not (x : BitVec 32) : bits .xor .u32 (W x) (-1) = W (~~~x) := u32_back _ _ (by
  rw [u32_bv]
  show x ^^^ BitVec.ofInt 32 (-1) = ~~~x
  rw [show BitVec.ofInt 32 (-1) = BitVec.allOnes 32 from by decide, BitVec.xor_allOnes])
theorem z8 : (#[.int .u32 0, .int .u32 0, .int .u32 0, .int .u32 0, .int .u32 0, .int .u32 0, .int .u32 0, .int .u32 0] : Array Value) = (wcells 8 (fun _ => 0)).toArray := rfl
set_option maxHeartbeats 8000000 in
set_option maxRecDepth 20000 in
theorem addBlock_any (s f : Nat → BitVec 32) (kb : Nat) (w : World) (hk : Hid (Ar w kb 116 64 kF)) : Calls Try.prog 96 #[.agg (wcells 8 s).toArray, .agg (wcells 64 f).toArray, .pointer (some ⟨kb, 0, none⟩)] w fun e w' => e = .returned (.agg (wcells 8 (blkS s f)).toArray) ∧ Gr w w' := by
  have hkl := Lib.hid hk.out.lt
  obtain ⟨w3, hw3⟩ : ∃ x, ((w.alloc (.cells (wcells 8 s).toArray 115)).alloc (.cells (wcells 64 f).toArray 116)).alloc (.cells #[.int .u32 0, .int .u32 0, .int .u32 0, .int .u32 0, .int .u32 0, .int .u32 0, .int .u32 0, .int .u32 0] 115) = x := ⟨_, rfl⟩
  have s3 : w3.heap.size = w.heap.size + 1 + 1 + 1 := by rw [← hw3]; simp
  have hS : Hid (Ar w3 w.heap.size 115 8 s) := Lib.hid (by rw [← hw3]; exact ((Ar.new w _ _ _).alloc _).alloc _)
  have hF : Hid (Ar w3 (w.heap.size + 1) 116 64 f) := Lib.hid (by rw [← hw3]; have := (Ar.new (w.alloc (.cells (wcells 8 s).toArray 115)) 116 64 f).alloc (.cells #[.int .u32 0, .int .u32 0, .int .u32 0, .int .u32 0, .int .u32 0, .int .u32 0, .int .u32 0, .int .u32 0] 115); simpa using this)
  have hZ : Hid (Ar w3 (w.heap.size + 1 + 1) 115 8 (fun _ => 0)) := Lib.hid (by rw [← hw3, z8]; have := Ar.new ((w.alloc (.cells (wcells 8 s).toArray 115)).alloc (.cells (wcells 64 f).toArray 116)) 115 8 (fun _ => 0); simpa using this)
  have hq : Hid (Below w.heap.size w w3) := Lib.hid (by rw [← hw3]; exact (((Below.refl _ w).alloc (Nat.le_refl _) _).alloc (by simp) _).alloc (by simp; omega) _)
  have hK : Hid (Ar w3 kb 116 64 kF) := Lib.hid (hk.out.below hq.out hk.out.lt)
  have c0 := hS.out.at (i := 0) (by decide)
  have c1 := hS.out.at (i := 1) (by decide)
  have c2 := hS.out.at (i := 2) (by decide)
  have c3 := hS.out.at (i := 3) (by decide)
  have c4 := hS.out.at (i := 4) (by decide)
  have c5 := hS.out.at (i := 5) (by decide)
  have c6 := hS.out.at (i := 6) (by decide)
  have c7 := hS.out.at (i := 7) (by decide)
  go_enter Try.func96, Try.ntmps96
  go_upto_region 1 with (fail)
  try rw [hw3]
  replace hw3 := Lib.hid hw3
  replace s3 := Lib.hid s3
  go_upto_region 2 with (fail)
  rw [show (#[.int .u32 (W (s 0)), .int .u32 (W (s 1)), .int .u32 (W (s 2)), .int .u32 (W (s 3)), .int .u32 (W (s 4)), .int .u32 (W (s 5)), .int .u32 (W (s 6)), .int .u32 (W (s 7))] : Array Value) = (wcells 8 s).toArray from rfl]
  have hM : Hid (Ar (w3.alloc (.cells (wcells 8 s).toArray 115)) w3.heap.size 115 8 s) := Lib.hid (Ar.new w3 _ _ _)
  replace hS := Lib.hid (hS.out.alloc (.cells (wcells 8 s).toArray 115))
  replace hF := Lib.hid (hF.out.alloc (.cells (wcells 8 s).toArray 115))
  replace hZ := Lib.hid (hZ.out.alloc (.cells (wcells 8 s).toArray 115))
  replace hK := Lib.hid (hK.out.alloc (.cells (wcells 8 s).toArray 115))
  replace hq := Lib.hid (hq.out.alloc hq.out.size (.cells (wcells 8 s).toArray 115))
  clear c0 c1 c2 c3 c4 c5 c6 c7 hk
  obtain ⟨w4, hw4⟩ : ∃ x, w3.alloc (.cells (wcells 8 s).toArray 115) = x := ⟨_, rfl⟩
  rw [hw4] at hM hS hF hZ hK hq ⊢
  rw [s3.out] at hM ⊢
  replace hw4 := Lib.hid hw4
  generalize hg : w.heap.size = g at hM hS hF hZ hq ⊢
  have hkb : Hid (kb < g) := Lib.hid (by rw [← hg]; exact hkl.out)
  replace hg := Lib.hid hg
  go_wp2_with fail
  go_loopw [21] (fun v wr => ∃ (k : Nat), k ≤ 64 ∧ v = .int .i64 k ∧ Hid (Ar wr (g + 1 + 1 + 1) 115 8 (rnd s f k)) ∧ Hid (Ar wr g 115 8 s) ∧ Hid (Ar wr (g + 1) 116 64 f) ∧ Hid (Ar wr (g + 1 + 1) 115 8 (fun _ => 0)) ∧ Hid (Ar wr kb 116 64 kF) ∧ Hid (Below g w wr)) (fun v _ => (64 - intOf v).toNat)
  case atStart => exact ⟨0, by omega, rfl, hM, hS, hF, hZ, hK, hq⟩
  case round =>
    obtain ⟨k, hk, rfl, hM1, hS1, hF1, hZ1, hK1, hq1⟩ := hrel
    clear hM hS hF hZ hK hq
    by_cases hlt : k < 64
    · have i64' : (k : Int) < 64 := by omega
      go_wp2_with fail
      have hMd : Ar wr.drew (g + 1 + 1 + 1) 115 8 (rnd s f k) := hM1.out.other rfl
      obtain ⟨x0, e0⟩ : ∃ x, rnd s f k 0 = x := ⟨_, rfl⟩
      obtain ⟨x1, e1⟩ : ∃ x, rnd s f k 1 = x := ⟨_, rfl⟩
      obtain ⟨x2, e2⟩ : ∃ x, rnd s f k 2 = x := ⟨_, rfl⟩
      obtain ⟨x3, e3⟩ : ∃ x, rnd s f k 3 = x := ⟨_, rfl⟩
      obtain ⟨x4, e4⟩ : ∃ x, rnd s f k 4 = x := ⟨_, rfl⟩
      obtain ⟨x5, e5⟩ : ∃ x, rnd s f k 5 = x := ⟨_, rfl⟩
      obtain ⟨x6, e6⟩ : ∃ x, rnd s f k 6 = x := ⟨_, rfl⟩
      obtain ⟨x7, e7⟩ : ∃ x, rnd s f k 7 = x := ⟨_, rfl⟩
      have c0 := hMd.at (i := 0) (by decide)
      rw [e0] at c0
      have c1 := hMd.at (i := 1) (by decide)
      rw [e1] at c1
      have c2 := hMd.at (i := 2) (by decide)
      rw [e2] at c2
      have c3 := hMd.at (i := 3) (by decide)
      rw [e3] at c3
      have c4 := hMd.at (i := 4) (by decide)
      rw [e4] at c4
      have c5 := hMd.at (i := 5) (by decide)
      rw [e5] at c5
      have c6 := hMd.at (i := 6) (by decide)
      rw [e6] at c6
      have c7 := hMd.at (i := 7) (by decide)
      rw [e7] at c7
      replace hMd := Lib.hid hMd
      refine wpR_region (Eq) 9999 (by kernel_rfl) ?_
      refine wpR_take (i := 0) (v := ?_) (⟨fun _ => rfl, Eq.trans⟩) (some 24) rfl (by kernel_rfl) (by kernel_rfl) (by kernel_rfl) (by kernel_rfl) (by kernel_rfl) (fun _ _ _ h => h) (by kernel_rfl) (fun w' hw' => ?_) ?_
      rotate_left
      · go_simp; with_reducible rfl
      simp only [Act.put, List.setIfInBounds_toArray, List.set_cons_zero, List.set_cons_succ]
      refine wpR_take (i := 1) (v := ?_) (⟨fun _ => rfl, Eq.trans⟩) (some 25) rfl (by kernel_rfl) (by kernel_rfl) (by kernel_rfl) (by kernel_rfl) (by kernel_rfl) (fun _ _ _ h => h) (by kernel_rfl) (fun w' hw' => ?_) ?_
      rotate_left
      · subst hw'; go_simp; with_reducible rfl
      simp only [Act.put, List.setIfInBounds_toArray, List.set_cons_zero, List.set_cons_succ]
      refine wpR_take (i := 2) (v := ?_) (⟨fun _ => rfl, Eq.trans⟩) (some 26) rfl (by kernel_rfl) (by kernel_rfl) (by kernel_rfl) (by kernel_rfl) (by kernel_rfl) (fun _ _ _ h => h) (by kernel_rfl) (fun w' hw' => ?_) ?_
      rotate_left
      · go_simp; with_reducible rfl
      simp only [Act.put, List.setIfInBounds_toArray, List.set_cons_zero, List.set_cons_succ]
      refine wpR_take (i := 3) (v := ?_) (⟨fun _ => rfl, Eq.trans⟩) (some 27) rfl (by kernel_rfl) (by kernel_rfl) (by kernel_rfl) (by kernel_rfl) (by kernel_rfl) (fun _ _ _ h => h) (by kernel_rfl) (fun w' hw' => ?_) ?_
      rotate_left
      · subst hw'; go_simp; with_reducible rfl
      simp only [Act.put, List.setIfInBounds_toArray, List.set_cons_zero, List.set_cons_succ]
      refine wpR_take (i := 4) (v := ?_) (⟨fun _ => rfl, Eq.trans⟩) (some 28) rfl (by kernel_rfl) (by kernel_rfl) (by kernel_rfl) (by kernel_rfl) (by kernel_rfl) (fun _ _ _ h => h) (by kernel_rfl) (fun w' hw' => ?_) ?_
      rotate_left
      · go_simp; with_reducible rfl
      simp only [Act.put, List.setIfInBounds_toArray, List.set_cons_zero, List.set_cons_succ]
      refine wpR_take (i := 5) (v := ?_) (⟨fun _ => rfl, Eq.trans⟩) (some 29) rfl (by kernel_rfl) (by kernel_rfl) (by kernel_rfl) (by kernel_rfl) (by kernel_rfl) (fun _ _ _ h => h) (by kernel_rfl) (fun w' hw' => ?_) ?_
      rotate_left
      · subst hw'; go_simp; with_reducible rfl
      simp only [Act.put, List.setIfInBounds_toArray, List.set_cons_zero, List.set_cons_succ]
      refine wpR_take (i := 6) (v := ?_) (⟨fun _ => rfl, Eq.trans⟩) (some 30) rfl (by kernel_rfl) (by kernel_rfl) (by kernel_rfl) (by kernel_rfl) (by kernel_rfl) (fun _ _ _ h => h) (by kernel_rfl) (fun w' hw' => ?_) ?_
      rotate_left
      · go_simp; with_reducible rfl
      simp only [Act.put, List.setIfInBounds_toArray, List.set_cons_zero, List.set_cons_succ]
      refine wpR_take (i := 7) (v := ?_) (⟨fun _ => rfl, Eq.trans⟩) (some 31) rfl (by kernel_rfl) (by kernel_rfl) (by kernel_rfl) (by kernel_rfl) (by kernel_rfl) (fun _ _ _ h => h) (by kernel_rfl) (fun w' hw' => ?_) ?_
      rotate_left
      · subst hw'; go_simp; with_reducible rfl
      simp only [Act.put, List.setIfInBounds_toArray, List.set_cons_zero, List.set_cons_succ]
      refine wpR_take (i := 8) (v := ?_) (⟨fun _ => rfl, Eq.trans⟩) (some 32) rfl (by kernel_rfl) (by kernel_rfl) (by kernel_rfl) (by kernel_rfl) (by kernel_rfl) (fun _ _ _ h => h) (by kernel_rfl) (fun w' hw' => ?_) ?_
      rotate_left
      · go_simp; with_reducible rfl
      simp only [Act.put, List.setIfInBounds_toArray, List.set_cons_zero, List.set_cons_succ]
      refine wpR_take (i := 9) (v := ?_) (⟨fun _ => rfl, Eq.trans⟩) (some 33) rfl (by kernel_rfl) (by kernel_rfl) (by kernel_rfl) (by kernel_rfl) (by kernel_rfl) (fun _ _ _ h => h) (by kernel_rfl) (fun w' hw' => ?_) ?_
      rotate_left
      · subst hw'; go_simp; with_reducible rfl
      simp only [Act.put, List.setIfInBounds_toArray, List.set_cons_zero, List.set_cons_succ]
      refine wpR_take (i := 10) (v := ?_) (⟨fun _ => rfl, Eq.trans⟩) (some 34) rfl (by kernel_rfl) (by kernel_rfl) (by kernel_rfl) (by kernel_rfl) (by kernel_rfl) (fun _ _ _ h => h) (by kernel_rfl) (fun w' hw' => ?_) ?_
      rotate_left
      · go_simp; with_reducible rfl
      simp only [Act.put, List.setIfInBounds_toArray, List.set_cons_zero, List.set_cons_succ]
      refine wpR_take (i := 11) (v := ?_) (⟨fun _ => rfl, Eq.trans⟩) (some 35) rfl (by kernel_rfl) (by kernel_rfl) (by kernel_rfl) (by kernel_rfl) (by kernel_rfl) (fun _ _ _ h => h) (by kernel_rfl) (fun w' hw' => ?_) ?_
      rotate_left
      · subst hw'; go_simp; with_reducible rfl
      simp only [Act.put, List.setIfInBounds_toArray, List.set_cons_zero, List.set_cons_succ]
      refine wpR_take (i := 12) (v := ?_) (⟨fun _ => rfl, Eq.trans⟩) (some 9) rfl (by kernel_rfl) (by kernel_rfl) (by kernel_rfl) (by kernel_rfl) (by kernel_rfl) (fun _ _ _ h => h) (by kernel_rfl) (fun w' hw' => ?_) ?_
      rotate_left
      · go_simp; with_reducible rfl
      simp only [Act.put, List.setIfInBounds_toArray, List.set_cons_zero, List.set_cons_succ]
      refine wpR_take (i := 13) (v := ?_) (⟨fun _ => rfl, Eq.trans⟩) (some 10) rfl (by kernel_rfl) (by kernel_rfl) (by kernel_rfl) (by kernel_rfl) (by kernel_rfl) (fun _ _ _ h => h) (by kernel_rfl) (fun w' hw' => ?_) ?_
      rotate_left
      · go_simp; with_reducible rfl
      simp only [Act.put, List.setIfInBounds_toArray, List.set_cons_zero, List.set_cons_succ]
      refine wpR_take (i := 14) (v := ?_) (⟨fun _ => rfl, Eq.trans⟩) (some 11) rfl (by kernel_rfl) (by kernel_rfl) (by kernel_rfl) (by kernel_rfl) (by kernel_rfl) (fun _ _ _ h => h) (by kernel_rfl) (fun w' hw' => ?_) ?_
      rotate_left
      · go_simp; with_reducible rfl
      simp only [Act.put, List.setIfInBounds_toArray, List.set_cons_zero, List.set_cons_succ]
      refine wpR_take (i := 15) (v := ?_) (⟨fun _ => rfl, Eq.trans⟩) (some 12) rfl (by kernel_rfl) (by kernel_rfl) (by kernel_rfl) (by kernel_rfl) (by kernel_rfl) (fun _ _ _ h => h) (by kernel_rfl) (fun w' hw' => ?_) ?_
      rotate_left
      · go_simp; with_reducible rfl
      simp only [Act.put, List.setIfInBounds_toArray, List.set_cons_zero, List.set_cons_succ]
      refine wpR_take (i := 16) (v := ?_) (⟨fun _ => rfl, Eq.trans⟩) (some 13) rfl (by kernel_rfl) (by kernel_rfl) (by kernel_rfl) (by kernel_rfl) (by kernel_rfl) (fun _ _ _ h => h) (by kernel_rfl) (fun w' hw' => ?_) ?_
      rotate_left
      · go_simp; with_reducible rfl
      simp only [Act.put, List.setIfInBounds_toArray, List.set_cons_zero, List.set_cons_succ]
      refine wpR_take (i := 17) (v := ?_) (⟨fun _ => rfl, Eq.trans⟩) (some 14) rfl (by kernel_rfl) (by kernel_rfl) (by kernel_rfl) (by kernel_rfl) (by kernel_rfl) (fun _ _ _ h => h) (by kernel_rfl) (fun w' hw' => ?_) ?_
      rotate_left
      · go_simp; with_reducible rfl
      simp only [Act.put, List.setIfInBounds_toArray, List.set_cons_zero, List.set_cons_succ]
      refine wpR_done (by kernel_rfl) ?_ _
      go_wp2_with fail
      clear c0 c1 c2 c4 c5 c6
      have d7 : wr.drew.drew.cell? ⟨g + 1 + 1 + 1, 7, none⟩ = some (.int .u32 (W x7)) := c7
      have d3 : wr.drew.drew.cell? ⟨g + 1 + 1 + 1, 3, none⟩ = some (.int .u32 (W x3)) := c3
      clear c3 c7
      obtain ⟨kk, ekk⟩ : ∃ x, kF k = x := ⟨_, rfl⟩
      obtain ⟨wk, ewk⟩ : ∃ x, f k = x := ⟨_, rfl⟩
      have dk := (show Ar wr.drew.drew kb 116 64 kF from hK1.out.other rfl).at (i := k) hlt
      have df := (show Ar wr.drew.drew (g + 1) 116 64 f from hF1.out.other rfl).at (i := k) hlt
      rw [ekk] at dk
      rw [ewk] at df
      replace ekk := Lib.hid ekk
      replace ewk := Lib.hid ewk
      replace e0 := Lib.hid e0
      replace e1 := Lib.hid e1
      replace e2 := Lib.hid e2
      replace e3 := Lib.hid e3
      replace e4 := Lib.hid e4
      replace e5 := Lib.hid e5
      replace e6 := Lib.hid e6
      replace e7 := Lib.hid e7
      refine wpR_region (Eq) 9999 (by kernel_rfl) ?_
      refine wpR_take (i := 0) (v := ?_) (⟨fun _ => rfl, Eq.trans⟩) (some 55) rfl (by kernel_rfl) (by kernel_rfl) (by kernel_rfl) (by kernel_rfl) (by kernel_rfl) (fun _ _ _ h => h) (by kernel_rfl) (fun w' hw' => ?_) ?_
      rotate_left
      · go_simp; with_reducible rfl
      simp only [Act.put, List.setIfInBounds_toArray, List.set_cons_zero, List.set_cons_succ]
      refine wpR_take (i := 1) (v := ?_) (⟨fun _ => rfl, Eq.trans⟩) (some 56) rfl (by kernel_rfl) (by kernel_rfl) (by kernel_rfl) (by kernel_rfl) (by kernel_rfl) (fun _ _ _ h => h) (by kernel_rfl) (fun w' hw' => ?_) ?_
      rotate_left
      · subst hw'; go_simp; with_reducible rfl
      simp only [Act.put, List.setIfInBounds_toArray, List.set_cons_zero, List.set_cons_succ]
      refine wpR_take (i := 2) (v := ?_) (⟨fun _ => rfl, Eq.trans⟩) (some 57) rfl (by kernel_rfl) (by kernel_rfl) (by kernel_rfl) (by kernel_rfl) (by kernel_rfl) (fun _ _ _ h => h) (by kernel_rfl) (fun w' hw' => ?_) ?_
      rotate_left
      · go_simp; with_reducible rfl
      simp only [Act.put, List.setIfInBounds_toArray, List.set_cons_zero, List.set_cons_succ]
      refine wpR_call (i := 3) (v := (.int .u32 (W (tn 6 x4)))) (⟨fun _ => rfl, Eq.trans⟩) (some 58) rfl (by kernel_rfl) (by kernel_rfl) (by kernel_rfl) (by kernel_rfl) (by kernel_rfl) (fun _ _ _ h => h) (by kernel_rfl) (fun w' hw' => ?_) ?_
      · refine ⟨122, #[.int .u32 (W x4), .int .i64 6], ?_, ?_⟩
        · go_simp
        · subst hw'; exact turn_6 _ _
      simp only [Act.put, List.setIfInBounds_toArray, List.set_cons_zero, List.set_cons_succ]
      refine wpR_take (i := 4) (v := ?_) (⟨fun _ => rfl, Eq.trans⟩) (some 59) rfl (by kernel_rfl) (by kernel_rfl) (by kernel_rfl) (by kernel_rfl) (by kernel_rfl) (fun _ _ _ h => h) (by kernel_rfl) (fun w' hw' => ?_) ?_
      rotate_left
      · go_simp; with_reducible rfl
      simp only [Act.put, List.setIfInBounds_toArray, List.set_cons_zero, List.set_cons_succ]
      refine wpR_call (i := 5) (v := (.int .u32 (W (tn 11 x4)))) (⟨fun _ => rfl, Eq.trans⟩) (some 60) rfl (by kernel_rfl) (by kernel_rfl) (by kernel_rfl) (by kernel_rfl) (by kernel_rfl) (fun _ _ _ h => h) (by kernel_rfl) (fun w' hw' => ?_) ?_
      · refine ⟨122, #[.int .u32 (W x4), .int .i64 11], ?_, ?_⟩
        · go_simp
        · subst hw'; exact turn_11 _ _
      simp only [Act.put, List.setIfInBounds_toArray, List.set_cons_zero, List.set_cons_succ]
      refine wpR_take (i := 6) (v := ?_) (⟨fun _ => rfl, Eq.trans⟩) (some 61) rfl (by kernel_rfl) (by kernel_rfl) (by kernel_rfl) (by kernel_rfl) (by kernel_rfl) (fun _ _ _ h => h) (by kernel_rfl) (fun w' hw' => ?_) ?_
      rotate_left
      · go_simp; with_reducible rfl
      simp only [Act.put, List.setIfInBounds_toArray, List.set_cons_zero, List.set_cons_succ]
      refine wpR_take (i := 7) (v := ?_) (⟨fun _ => rfl, Eq.trans⟩) (some 62) rfl (by kernel_rfl) (by kernel_rfl) (by kernel_rfl) (by kernel_rfl) (by kernel_rfl) (fun _ _ _ h => h) (by kernel_rfl) (fun w' hw' => ?_) ?_
      rotate_left
      · go_simp; with_reducible rfl
      simp only [Act.put, List.setIfInBounds_toArray, List.set_cons_zero, List.set_cons_succ]
      refine wpR_call (i := 8) (v := (.int .u32 (W (tn 25 x4)))) (⟨fun _ => rfl, Eq.trans⟩) (some 63) rfl (by kernel_rfl) (by kernel_rfl) (by kernel_rfl) (by kernel_rfl) (by kernel_rfl) (fun _ _ _ h => h) (by kernel_rfl) (fun w' hw' => ?_) ?_
      · refine ⟨122, #[.int .u32 (W x4), .int .i64 25], ?_, ?_⟩
        · go_simp
        · subst hw'; exact turn_25 _ _
      simp only [Act.put, List.setIfInBounds_toArray, List.set_cons_zero, List.set_cons_succ]
      refine wpR_take (i := 9) (v := ?_) (⟨fun _ => rfl, Eq.trans⟩) (some 64) rfl (by kernel_rfl) (by kernel_rfl) (by kernel_rfl) (by kernel_rfl) (by kernel_rfl) (fun _ _ _ h => h) (by kernel_rfl) (fun w' hw' => ?_) ?_
      rotate_left
      · go_simp; with_reducible rfl
      simp only [Act.put, List.setIfInBounds_toArray, List.set_cons_zero, List.set_cons_succ]
      refine wpR_take (i := 10) (v := ?_) (⟨fun _ => rfl, Eq.trans⟩) (some 65) rfl (by kernel_rfl) (by kernel_rfl) (by kernel_rfl) (by kernel_rfl) (by kernel_rfl) (fun _ _ _ h => h) (by kernel_rfl) (fun w' hw' => ?_) ?_
      rotate_left
      · go_simp; with_reducible rfl
      simp only [Act.put, List.setIfInBounds_toArray, List.set_cons_zero, List.set_cons_succ]
      refine wpR_take (i := 11) (v := ?_) (⟨fun _ => rfl, Eq.trans⟩) (some 66) rfl (by kernel_rfl) (by kernel_rfl) (by kernel_rfl) (by kernel_rfl) (by kernel_rfl) (fun _ _ _ h => h) (by kernel_rfl) (fun w' hw' => ?_) ?_
      rotate_left
      · go_simp; with_reducible rfl
      simp only [Act.put, List.setIfInBounds_toArray, List.set_cons_zero, List.set_cons_succ]
      refine wpR_take (i := 12) (v := ?_) (⟨fun _ => rfl, Eq.trans⟩) (some 67) rfl (by kernel_rfl) (by kernel_rfl) (by kernel_rfl) (by kernel_rfl) (by kernel_rfl) (fun _ _ _ h => h) (by kernel_rfl) (fun w' hw' => ?_) ?_
      rotate_left
      · go_simp; with_reducible rfl
      simp only [Act.put, List.setIfInBounds_toArray, List.set_cons_zero, List.set_cons_succ]
      refine wpR_take (i := 13) (v := ?_) (⟨fun _ => rfl, Eq.trans⟩) (some 68) rfl (by kernel_rfl) (by kernel_rfl) (by kernel_rfl) (by kernel_rfl) (by kernel_rfl) (fun _ _ _ h => h) (by kernel_rfl) (fun w' hw' => ?_) ?_
      rotate_left
      · go_simp; with_reducible rfl
      simp only [Act.put, List.setIfInBounds_toArray, List.set_cons_zero, List.set_cons_succ]
      refine wpR_take (i := 14) (v := ?_) (⟨fun _ => rfl, Eq.trans⟩) (some 69) rfl (by kernel_rfl) (by kernel_rfl) (by kernel_rfl) (by kernel_rfl) (by kernel_rfl) (fun _ _ _ h => h) (by kernel_rfl) (fun w' hw' => ?_) ?_
      rotate_left
      · go_simp; with_reducible rfl
      simp only [Act.put, List.setIfInBounds_toArray, List.set_cons_zero, List.set_cons_succ]
      refine wpR_take (i := 15) (v := ?_) (⟨fun _ => rfl, Eq.trans⟩) (some 70) rfl (by kernel_rfl) (by kernel_rfl) (by kernel_rfl) (by kernel_rfl) (by kernel_rfl) (fun _ _ _ h => h) (by kernel_rfl) (fun w' hw' => ?_) ?_
      rotate_left
      · go_simp; with_reducible rfl
      simp only [Act.put, List.setIfInBounds_toArray, List.set_cons_zero, List.set_cons_succ]
      refine wpR_take (i := 16) (v := ?_) (⟨fun _ => rfl, Eq.trans⟩) (some 71) rfl (by kernel_rfl) (by kernel_rfl) (by kernel_rfl) (by kernel_rfl) (by kernel_rfl) (fun _ _ _ h => h) (by kernel_rfl) (fun w' hw' => ?_) ?_
      rotate_left
      · go_simp; with_reducible rfl
      simp only [Act.put, List.setIfInBounds_toArray, List.set_cons_zero, List.set_cons_succ]
      refine wpR_take (i := 17) (v := ?_) (⟨fun _ => rfl, Eq.trans⟩) (some 72) rfl (by kernel_rfl) (by kernel_rfl) (by kernel_rfl) (by kernel_rfl) (by kernel_rfl) (fun _ _ _ h => h) (by kernel_rfl) (fun w' hw' => ?_) ?_
      rotate_left
      · subst hw'; go_simp; with_reducible rfl
      simp only [Act.put, List.setIfInBounds_toArray, List.set_cons_zero, List.set_cons_succ]
      refine wpR_take (i := 18) (v := ?_) (⟨fun _ => rfl, Eq.trans⟩) (some 73) rfl (by kernel_rfl) (by kernel_rfl) (by kernel_rfl) (by kernel_rfl) (by kernel_rfl) (fun _ _ _ h => h) (by kernel_rfl) (fun w' hw' => ?_) ?_
      rotate_left
      · go_simp; with_reducible rfl
      simp only [Act.put, List.setIfInBounds_toArray, List.set_cons_zero, List.set_cons_succ]
      refine wpR_take (i := 19) (v := ?_) (⟨fun _ => rfl, Eq.trans⟩) (some 74) rfl (by kernel_rfl) (by kernel_rfl) (by kernel_rfl) (by kernel_rfl) (by kernel_rfl) (fun _ _ _ h => h) (by kernel_rfl) (fun w' hw' => ?_) ?_
      rotate_left
      · go_simp; with_reducible rfl
      simp only [Act.put, List.setIfInBounds_toArray, List.set_cons_zero, List.set_cons_succ]
      refine wpR_take (i := 20) (v := ?_) (⟨fun _ => rfl, Eq.trans⟩) (some 75) rfl (by kernel_rfl) (by kernel_rfl) (by kernel_rfl) (by kernel_rfl) (by kernel_rfl) (fun _ _ _ h => h) (by kernel_rfl) (fun w' hw' => ?_) ?_
      rotate_left
      · go_simp; with_reducible rfl
      simp only [Act.put, List.setIfInBounds_toArray, List.set_cons_zero, List.set_cons_succ]
      refine wpR_take (i := 21) (v := ?_) (⟨fun _ => rfl, Eq.trans⟩) (some 76) rfl (by kernel_rfl) (by kernel_rfl) (by kernel_rfl) (by kernel_rfl) (by kernel_rfl) (fun _ _ _ h => h) (by kernel_rfl) (fun w' hw' => ?_) ?_
      rotate_left
      · subst hw'; go_simp; with_reducible rfl
      simp only [Act.put, List.setIfInBounds_toArray, List.set_cons_zero, List.set_cons_succ]
      refine wpR_take (i := 22) (v := ?_) (⟨fun _ => rfl, Eq.trans⟩) (some 77) rfl (by kernel_rfl) (by kernel_rfl) (by kernel_rfl) (by kernel_rfl) (by kernel_rfl) (fun _ _ _ h => h) (by kernel_rfl) (fun w' hw' => ?_) ?_
      rotate_left
      · go_simp; with_reducible rfl
      simp only [Act.put, List.setIfInBounds_toArray, List.set_cons_zero, List.set_cons_succ]
      refine wpR_take (i := 23) (v := ?_) (⟨fun _ => rfl, Eq.trans⟩) (some 17) rfl (by kernel_rfl) (by kernel_rfl) (by kernel_rfl) (by kernel_rfl) (by kernel_rfl) (fun _ _ _ h => h) (by kernel_rfl) (fun w' hw' => ?_) ?_
      rotate_left
      · go_simp; with_reducible rfl
      simp only [Act.put, List.setIfInBounds_toArray, List.set_cons_zero, List.set_cons_succ]
      refine wpR_done (by kernel_rfl) ?_ _
      go_wp2_with fail
      refine (turn_2 _ _).mono ?_
      rintro e w' ⟨rfl, rfl⟩
      go_wp2_with fail
      refine (turn_13 _ _).mono ?_
      rintro e w' ⟨rfl, rfl⟩
      go_wp2_with fail
      refine (turn_22 _ _).mono ?_
      rintro e w' ⟨rfl, rfl⟩
      have hth : Hid (wr.drew.drew.there (g + 1 + 1 + 1) 0 8) := Lib.hid (there_of (show wr.drew.drew.heap[g + 1 + 1 + 1]? = some (.cells (wcells 8 (rnd s f k)).toArray 115 (0, 0)) from hM1.out) (by simp [wcells_length]))
      generalize ho : x7 + (tn 6 x4 ^^^ tn 11 x4 ^^^ tn 25 x4) + (x4 &&& x5 ^^^ ~~~x4 &&& x6) + kk + wk = o1
      replace ho := Lib.hid ho
      have hcl : Hid ([.int .u32 (W (o1 + ((tn 2 x0 ^^^ tn 13 x0 ^^^ tn 22 x0) + (x0 &&& x1 ^^^ x0 &&& x2 ^^^ x1 &&& x2)))), .int .u32 (W x0), .int .u32 (W x1), .int .u32 (W x2), .int .u32 (W (x3 + o1)), .int .u32 (W x4), .int .u32 (W x5), .int .u32 (W x6)] = wcells 8 (rnd s f (k + 1))) := Lib.hid (by rw [show rnd s f (k + 1) = nx (rnd s f k) (kF k) (f k) from rfl, nx_cells]; unfold one1 two2 ch3w mj3w; rw [e0.out, e1.out, e2.out, e3.out, e4.out, e5.out, e6.out, e7.out, ekk.out, ewk.out, ho.out])
      have h1c : (#[.int .u32 (W (o1 + ((tn 2 x0 ^^^ tn 13 x0 ^^^ tn 22 x0) + (x0 &&& x1 ^^^ x0 &&& x2 ^^^ x1 &&& x2)))), .int .u32 (W x0), .int .u32 (W x1), .int .u32 (W x2), .int .u32 (W (x3 + o1)), .int .u32 (W x4), .int .u32 (W x5), .int .u32 (W x6)] : Array Value).all (·.oneCell') = true := by rw [show (#[.int .u32 (W (o1 + ((tn 2 x0 ^^^ tn 13 x0 ^^^ tn 22 x0) + (x0 &&& x1 ^^^ x0 &&& x2 ^^^ x1 &&& x2)))), .int .u32 (W x0), .int .u32 (W x1), .int .u32 (W x2), .int .u32 (W (x3 + o1)), .int .u32 (W x4), .int .u32 (W x5), .int .u32 (W x6)] : Array Value) = (wcells 8 (rnd s f (k + 1))).toArray from by rw [← hcl.out]]; exact all_oneCell_toArray (wcells_one _ _)
      replace h1c := Lib.hid h1c
      go_wp2_with (refine wpList_store_mid rfl 115 (.tmp 7) (.tmp 101) rfl (g + 1 + 1 + 1) 0 #[.int .u32 (W (o1 + ((tn 2 x0 ^^^ tn 13 x0 ^^^ tn 22 x0) + (x0 &&& x1 ^^^ x0 &&& x2 ^^^ x1 &&& x2)))), .int .u32 (W x0), .int .u32 (W x1), .int .u32 (W x2), .int .u32 (W (x3 + o1)), .int .u32 (W x4), .int .u32 (W x5), .int .u32 (W x6)] rfl rfl hth.out info_s h1c.out ?_; rw [hcl.out]; obtain ⟨w5, hw5⟩ : ∃ x, wr.drew.drew.setCells (g + 1 + 1 + 1) 0 (wcells 8 (rnd s f (k + 1))) = x := ⟨_, rfl⟩; rw [hw5]; replace hw5 := Lib.hid hw5)
      have hM2 : Hid (Ar w5 (g + 1 + 1 + 1) 115 8 (rnd s f (k + 1))) := Lib.hid (by rw [← hw5.out]; exact Ar.of_store (show wr.drew.drew.heap[g + 1 + 1 + 1]? = some (.cells (wcells 8 (rnd s f k)).toArray 115 (0, 0)) from hM1.out) (by simp [wcells_length]))
      have oth : ∀ b, b ≠ g + 1 + 1 + 1 → w5.heap[b]? = wr.heap[b]? := fun b hb => by rw [← hw5.out]; exact (setCells_other hb _ _ _).1
      have hS2 : Hid (Ar w5 g 115 8 s) := Lib.hid (hS1.out.other (oth _ (by omega)))
      have hF2 : Hid (Ar w5 (g + 1) 116 64 f) := Lib.hid (hF1.out.other (oth _ (by omega)))
      have hZ2 : Hid (Ar w5 (g + 1 + 1) 115 8 (fun _ => 0)) := Lib.hid (hZ1.out.other (oth _ (by omega)))
      have hK2 : Hid (Ar w5 kb 116 64 kF) := Lib.hid (hK1.out.other (oth _ (by have := hkb.out; omega)))
      have hq2 : Hid (Below g w w5) := Lib.hid (by rw [← hw5.out]; exact below_setCells (b := g + 1 + 1 + 1) hq1.out.drew.drew (by omega) 0 _)
      clear oth
      go_roundw
      case rel => first | exact ⟨k + 1, by omega, by go_num, hM2, hS2, hF2, hZ2, hK2, hq2⟩ | ((repeat apply Exists.intro); exact ⟨⟨k + 1, by omega, by go_num, hM2, hS2, hF2, hZ2, hK2, hq2⟩, rfl⟩)
      case measure => simp [intOf]; omega
    · obtain rfl : k = 64 := by omega
      have i64' : decide (((64 : Nat) : Int) < 64) = false := by decide
      clear hlt
      go_wp2_with fail
      rw [← blkTo_zero s f] at hM1
      go_loopw [103] (fun v wr => ∃ (k : Nat), k ≤ 8 ∧ v = .int .i64 k ∧ Hid (Ar wr (g + 1 + 1 + 1) 115 8 (blkTo s f k)) ∧ Hid (Ar wr g 115 8 s) ∧ Hid (Ar wr (g + 1 + 1) 115 8 (fun _ => 0)) ∧ Hid (Below g w wr)) (fun v _ => (8 - intOf v).toNat)
      case atStart => exact ⟨0, by omega, rfl, hM1, hS1, hZ1, hq1⟩
      case round =>
        obtain ⟨k, hk, rfl, hM, hS, hZ, hq⟩ := hrel
        clear hM1 hS1 hF1 hZ1 hK1 hq1
        by_cases hlt : k < 8
        · have i8' : (k : Int) < 8 := by omega
          go_wp2_with fail
          have cm := (show Ar wr.drew (g + 1 + 1 + 1) 115 8 (blkTo s f k) from hM.out.other rfl).at (i := k) hlt
          rw [blkTo_at] at cm
          have cs := (show Ar wr.drew g 115 8 s from hS.out.other rfl).at (i := k) hlt
          have fz : wr.frozen? ⟨g + 1 + 1 + 1, k, none⟩ = false := by have := hM.out; unfold Ar at this; simp [World.frozen?, this]
          have cw : wr.drew.cell? ⟨g + 1 + 1 + 1, k, none⟩ = some (.int .u32 (W (rnd s f 64 k))) := cm
          obtain ⟨x, hx⟩ : ∃ x, rnd s f 64 k = x := ⟨_, rfl⟩
          rw [hx] at cm cw
          obtain ⟨y, hy⟩ : ∃ y, s k = y := ⟨_, rfl⟩
          rw [hy] at cs
          replace hx := Lib.hid hx
          replace hy := Lib.hid hy
          refine wpR_region (Eq) 8 (by kernel_rfl) ?_
          refine wpR_take (i := 0) (v := ?_) (⟨fun _ => rfl, Eq.trans⟩) (some 106) rfl (by kernel_rfl) (by kernel_rfl) (by kernel_rfl) (by kernel_rfl) (by kernel_rfl) (fun _ _ _ h => h) (by kernel_rfl) (fun w' hw' => ?_) ?_
          rotate_left
          · go_simp; with_reducible rfl
          simp only [Act.put, List.setIfInBounds_toArray, List.set_cons_zero, List.set_cons_succ]
          refine wpR_take (i := 1) (v := ?_) (⟨fun _ => rfl, Eq.trans⟩) (some 107) rfl (by kernel_rfl) (by kernel_rfl) (by kernel_rfl) (by kernel_rfl) (by kernel_rfl) (fun _ _ _ h => h) (by kernel_rfl) (fun w' hw' => ?_) ?_
          rotate_left
          · go_simp; with_reducible rfl
          simp only [Act.put, List.setIfInBounds_toArray, List.set_cons_zero, List.set_cons_succ]
          refine wpR_take (i := 2) (v := ?_) (⟨fun _ => rfl, Eq.trans⟩) (some 108) rfl (by kernel_rfl) (by kernel_rfl) (by kernel_rfl) (by kernel_rfl) (by kernel_rfl) (fun _ _ _ h => h) (by kernel_rfl) (fun w' hw' => ?_) ?_
          rotate_left
          · subst hw'; go_simp; with_reducible rfl
          simp only [Act.put, List.setIfInBounds_toArray, List.set_cons_zero, List.set_cons_succ]
          refine wpR_take (i := 3) (v := ?_) (⟨fun _ => rfl, Eq.trans⟩) (some 109) rfl (by kernel_rfl) (by kernel_rfl) (by kernel_rfl) (by kernel_rfl) (by kernel_rfl) (fun _ _ _ h => h) (by kernel_rfl) (fun w' hw' => ?_) ?_
          rotate_left
          · go_simp; with_reducible rfl
          simp only [Act.put, List.setIfInBounds_toArray, List.set_cons_zero, List.set_cons_succ]
          refine wpR_take (i := 4) (v := ?_) (⟨fun _ => rfl, Eq.trans⟩) (some 110) rfl (by kernel_rfl) (by kernel_rfl) (by kernel_rfl) (by kernel_rfl) (by kernel_rfl) (fun _ _ _ h => h) (by kernel_rfl) (fun w' hw' => ?_) ?_
          rotate_left
          · go_simp; with_reducible rfl
          simp only [Act.put, List.setIfInBounds_toArray, List.set_cons_zero, List.set_cons_succ]
          refine wpR_take (i := 5) (v := ?_) (⟨fun _ => rfl, Eq.trans⟩) (some 111) rfl (by kernel_rfl) (by kernel_rfl) (by kernel_rfl) (by kernel_rfl) (by kernel_rfl) (fun _ _ _ h => h) (by kernel_rfl) (fun w' hw' => ?_) ?_
          rotate_left
          · subst hw'; go_simp; with_reducible rfl
          simp only [Act.put, List.setIfInBounds_toArray, List.set_cons_zero, List.set_cons_succ]
          refine wpR_take (i := 6) (v := ?_) (⟨fun _ => rfl, Eq.trans⟩) (some 112) rfl (by kernel_rfl) (by kernel_rfl) (by kernel_rfl) (by kernel_rfl) (by kernel_rfl) (fun _ _ _ h => h) (by kernel_rfl) (fun w' hw' => ?_) ?_
          rotate_left
          · go_simp; with_reducible rfl
          simp only [Act.put, List.setIfInBounds_toArray, List.set_cons_zero, List.set_cons_succ]
          refine wpR_take (i := 7) (v := ?_) (⟨fun _ => rfl, Eq.trans⟩) (some 113) rfl (by kernel_rfl) (by kernel_rfl) (by kernel_rfl) (by kernel_rfl) (by kernel_rfl) (fun _ _ _ h => h) (by kernel_rfl) (fun w' hw' => ?_) ?_
          rotate_left
          · go_simp; with_reducible rfl
          simp only [Act.put, List.setIfInBounds_toArray, List.set_cons_zero, List.set_cons_succ]
          refine wpR_one 8 rfl (by kernel_rfl) (by kernel_rfl) (fun K hK => ?_)
          go_simp
          refine hK _ _ (fun h => absurd h (by decide)) ?_
          clear hK K
          try simp only [Act.put, List.setIfInBounds_toArray, List.set_cons_zero, List.set_cons_succ]
          refine wpR_done (by kernel_rfl) ?_ _
          have hM3 : Hid (Ar (wr.setCell ⟨g + 1 + 1 + 1, k, none⟩ (.int .u32 (W (x + y)))).drew (g + 1 + 1 + 1) 115 8 (blkTo s f (k + 1))) := Lib.hid (by rw [blkTo_succ, hx.out, hy.out]; exact (hM.out.set hlt _).other rfl)
          have oth : ∀ b, b ≠ g + 1 + 1 + 1 → (wr.setCell ⟨g + 1 + 1 + 1, k, none⟩ (.int .u32 (W (x + y)))).drew.heap[b]? = wr.heap[b]? := fun b hb => (setCells_other hb [.int .u32 (W (x + y))] k wr).1
          have hS3 : Hid (Ar (wr.setCell ⟨g + 1 + 1 + 1, k, none⟩ (.int .u32 (W (x + y)))).drew g 115 8 s) := Lib.hid (hS.out.other (oth _ (by omega)))
          have hZ3 : Hid (Ar (wr.setCell ⟨g + 1 + 1 + 1, k, none⟩ (.int .u32 (W (x + y)))).drew (g + 1 + 1) 115 8 (fun _ => 0)) := Lib.hid (hZ.out.other (oth _ (by omega)))
          have hq3 : Hid (Below g w (wr.setCell ⟨g + 1 + 1 + 1, k, none⟩ (.int .u32 (W (x + y)))).drew) := Lib.hid ((below_setCells (b := g + 1 + 1 + 1) hq.out (by omega) k [.int .u32 (W (x + y))]).drew)
          clear oth cm cs cw fz
          go_wp2_with fail
          go_roundw
          case rel => first | exact ⟨k + 1, by omega, by go_num, hM3, hS3, hZ3, hq3⟩ | ((repeat apply Exists.intro); exact ⟨⟨k + 1, by omega, by go_num, hM3, hS3, hZ3, hq3⟩, rfl⟩)
          case measure => simp [intOf]; omega
        · obtain rfl : k = 8 := by omega
          have i8' : decide (((8 : Nat) : Int) < 8) = false := by decide
          clear hlt
          go_upto_region 17 with (fail)
          have hlen : (wcells 8 (blkS s f)).length = 8 := wcells_length _ _
          have hone := wcells_one 8 (blkS s f)
          have hAr : Ar wr (g + 1 + 1 + 1) 115 8 (blkS s f) := hM.out.congr (fun k hk => by unfold blkTo; rw [if_pos hk])
          have ht := Lib.hid (there_of hZ.out (n := 8) (by simp [wcells_length]))
          have hA9 := (Ar.of_store (n := 8) (f := blkS s f) hZ.out (by simp [wcells_length])).range
          have hq9 := below_setCells (b := g + 1 + 1) hq.out (by omega) 0 (wcells 8 (blkS s f))
          have hrg := hAr.range
          have hu : Try.prog.underlying 115 = some (.array 8 113) := by kernel_rfl
          replace hu := Lib.hid hu
          clear hAr hM hZ hq hS
          obtain ⟨Lc, hLc⟩ : ∃ x, wcells 8 (blkS s f) = x := ⟨_, rfl⟩
          rw [hLc] at hlen hone hA9 hq9 hrg
          replace hA9 := Lib.hid hA9
          replace hq9 := Lib.hid hq9
          replace hrg := Lib.hid hrg
          have h1 := Lib.hid (all_oneCell_toArray hone)
          have h2 : Hid (Lc.toArray.size = 8) := Lib.hid (by rw [List.size_toArray, hlen])
          have h3 : Hid (Lc.toArray.toList = Lc) := Lib.hid rfl
          refine wp_region_lit ?_
          refine wpList_load_mid rfl 115 (.tmp 7) rfl (g + 1 + 1 + 1) 0 rfl Lc _ hrg.out hu.out rfl (by rw [hlen]; exact info_s) ?_
          generalize hcs : Lc.toArray = cs at h1 h2 h3 ⊢
          replace hcs := Lib.hid hcs
          refine wpList_store_mid rfl 115 (.tmp 6) (.tmp 115) rfl (g + 1 + 1) 0 cs rfl rfl (by rw [h2.out]; exact ht.out) (by rw [h2.out]; exact info_s) h1.out ?_
          rw [h3.out]
          refine wpList_nil ?_
          simp only [Act.put, List.setIfInBounds_toArray, List.set_cons_zero, List.set_cons_succ]
          go_wp2
          have hl := run_loadVar_mid (P := Try.prog) _ (g + 1 + 1) 0 115 Lc _ hA9.out hu.out rfl (by rw [hlen]; exact info_s)
          rw [hLc]
          exact bodyPost_ret (v := .agg Lc.toArray) (results_cell rfl rfl hl) rfl ⟨rfl, by show Below w.heap.size w _; rw [hg.out]; exact hq9.out⟩
end Go.Proofs.Ytpeilgeloaogfaa
