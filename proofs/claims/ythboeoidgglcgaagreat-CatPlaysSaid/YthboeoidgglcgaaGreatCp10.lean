/- cat: the reference's rest: tombs. -/
import Derived.Test.YthboeoidgglcgaaGreatCpC
import Derived.Test.YthboeoidgglcgaaGreatCpB
namespace Go.Proofs.YthboeoidgglcgaaGreat
set_option linter.unusedVariables false
set_option linter.unusedSimpArgs false
set_option linter.unusedSectionVars false
open Go Go.RowKit Go.Maps Go.Sort Go.Shelf Go.Proofs
/-- the last place of a mark among the first j -/
def lastT (T : List (By × Int)) (e : By × Int) : Nat → Int
  | 0 => -1
  | j + 1 => if T[j]? = some e then (j : Int) else lastT T e j
theorem lastT_no {T : List (By × Int)} {e : By × Int} (h : e ∉ T) (j : Nat) : lastT T e j = -1 := by
  induction j with
  | zero => rfl
  | succ j ih =>
    show (if T[j]? = some e then (j : Int) else lastT T e j) = -1
    rw [if_neg (fun h1 => h (List.mem_of_getElem? h1))]
    exact ih
theorem lastT_yes {T : List (By × Int)} {e : By × Int} (hn : T.Nodup) {i : Nat} (hi : T[i]? = some e) (j : Nat) (hj : i < j) : lastT T e j = (i : Int) := by
  induction j with
  | zero => omega
  | succ j ih =>
    show (if T[j]? = some e then (j : Int) else lastT T e j) = _
    by_cases h1 : T[j]? = some e
    · rw [if_pos h1]
      obtain ⟨a1, a2⟩ := List.getElem?_eq_some_iff.mp hi
      obtain ⟨b1, b2⟩ := List.getElem?_eq_some_iff.mp h1
      rcases Nat.lt_trichotomy i j with h3 | rfl | h3
      · exact absurd (a2.trans b2.symm) (List.pairwise_iff_getElem.mp hn i j a1 b1 h3)
      · rfl
      · omega
    · rw [if_neg h1]
      have : i ≠ j := fun e => h1 (by rw [← e]; exact hi)
      exact ih (by omega)
theorem lastT_ge (T : List (By × Int)) (e : By × Int) (j : Nat) : -1 ≤ lastT T e j ∧ lastT T e j < (j : Int) := by
  induction j with
  | zero => exact ⟨Int.le_refl _, by show (-1 : Int) < ((0 : Nat) : Int); decide⟩
  | succ j ih =>
    show -1 ≤ (if T[j]? = some e then (j : Int) else lastT T e j) ∧ (if T[j]? = some e then (j : Int) else lastT T e j) < _
    split <;> omega
theorem erase_at2 {T : List (By × Int)} {e : By × Int} (hn : T.Nodup) {i : Nat} (hi : T[i]? = some e) : T.erase e = T.take i ++ T.drop (i + 1) := by
  induction T generalizing i with
  | nil => simp at hi
  | cons a T ih =>
    obtain ⟨h1, h2⟩ := List.nodup_cons.mp hn
    cases i with
    | zero =>
      simp at hi
      subst hi
      simp
    | succ i =>
      have hi' : T[i]? = some e := by simpa using hi
      have hne : a ≠ e := fun e2 => h1 (by rw [e2]; exact List.mem_of_getElem? hi')
      rw [List.erase_cons_tail (by simpa using hne), ih h2 hi']
      rfl
set_option maxRecDepth 10000 in
set_option maxHeartbeats 4000000 in
theorem rap6_any (lo g : Nat) (y : RcX) (c : CtP) (w : World) (h : Hid (Rc w lo g y c)) (hf : c.Few 999) (hok : c.Ok) (n : Nt) (v : Value) (hk : n.key.length ≤ maxLen) (w0 : World) (hv : NtV n v w0) (h0 : w0.heap.size ≤ lo) (hg0 : Gr w0 w) (hI : I64 n.cart) (hk1 : n.kind = 6) :
    Calls Tryz.prog 27 #[.pointer (some ⟨g, 0, none⟩), v] w (RPost lo g y w (c.turnT n)) := by
  obtain ⟨A, ca, A2, c2, rfl, hdt, hpl⟩ := hv
  obtain ⟨N, hN⟩ : ∃ N, w.heap.size = N := ⟨_, rfl⟩
  obtain ⟨rc, hrc⟩ : ∃ rc, c.turnT n = rc := ⟨_, rfl⟩
  rw [hrc]
  unfold CtP.turnT at hrc
  obtain ⟨nk, ny, ng, nc, nd, nu, ns, np⟩ := n
  unfold Nt.agg
  simp only at hk1 hk hrc hdt hpl hI ⊢
  subst hk1
  obtain ⟨ld, hld⟩ : ∃ ld, nd.length = ld := ⟨_, rfl⟩
  obtain ⟨lp, hlp⟩ : ∃ lp, np.length = lp := ⟨_, rfl⟩
  rw [hld] at hdt ⊢
  rw [hlp] at hpl ⊢
  obtain ⟨W, hW⟩ : ∃ W, w.alloc (.cells #[.int .i64 6, .string (bs ny), .int .i64 ng, .int .i64 nc, .slice A ld ca, .string (bs nu), .int .i64 ns, .slice A2 lp c2] 37) = W := ⟨_, rfl⟩
  have hgW : Gr w W := by rw [← hW]; exact Gr.alloc _ _
  have hbW : W.heap[N]? = some (.cells #[.int .i64 6, .string (bs ny), .int .i64 ng, .int .i64 nc, .slice A ld ca, .string (bs nu), .int .i64 ns, .slice A2 lp c2] 37 (0, 0)) := by rw [← hW, ← hN]; exact heap_alloc_new w _
  have z0 := blk_cell (j := 0) hbW rfl
  have z1 := blk_cell (j := 1) hbW rfl
  have z2 := blk_cell (j := 2) hbW rfl
  have z4 := blk_cell (j := 4) hbW rfl
  have z6 := blk_cell (j := 6) hbW rfl
  have hcW := Lib.hid (h.out.gr hgW)
  have hfr : Hid (∀ {c' w'}, RcAct lo g y W c' w' → RcAct lo g y w c' w') := Lib.hid (fun h1 => RcAct.from_ hgW h1)
  have hsame : Hid (∀ w', Gr W w' → RcAct lo g y w c w') := Lib.hid (fun w' h1 => RcAct.gr h (hgW.trans h1))
  have hnm := Lib.hid (rnamed_any ny hk)
  have hhx : Hid (c.T.length ≤ 999) := Lib.hid hf.2.2.2.1
  have hbB := Lib.hid hbW
  obtain ⟨AT, cT, hvT, hcT, -⟩ := row_form hcW.out.ts
  obtain ⟨nT, hnT⟩ : ∃ m, c.T.length = m := ⟨_, rfl⟩
  have hTl : nT ≤ 999 := by rw [← hnT]; exact hf.2.2.2.1
  rw [hnT] at hvT hcT
  have hrT : Hid (∀ q, Gr W q → Rc q lo g y c) := Lib.hid (fun q hq => hcW.out.gr hq)
  have hkey : Hid (∀ j x, c.T[j]? = some x → ∃ bH, AT = some ⟨bH, 0, none⟩ ∧ ∀ q, Gr W q → q.cell? ⟨bH, j * 2, none⟩ = some (.string (bs x.1)) ∧ q.cell? ⟨bH, j * 2 + 1, none⟩ = some (.int .i64 x.2)) := Lib.hid (fun j x hx => by
    have hj := (List.getElem?_eq_some_iff.mp hx).1
    obtain ⟨bH, cH', e, -, -, -, hb, -, -, hcell, -⟩ := row_at hcW.out.ts (by omega)
    rw [hvT] at e
    injection e with e1 _ _
    exact ⟨bH, e1, fun q hq => ⟨(cellGr hq (a := ⟨bH, j * 2, none⟩) hb).trans (hcell _ _ (flatT_at hx).1), (cellGr hq (a := ⟨bH, j * 2 + 1, none⟩) hb).trans (hcell _ _ (flatT_at hx).2)⟩⟩)
  obtain ⟨G, hG⟩ : ∃ z, c.G = z := ⟨_, rfl⟩
  have hnd : ∀ b : Bool, keyOk ny = b → (c.named ny ng = true ↔ b = true ∧ 1 ≤ ng ∧ ng ≤ G) := fun b e => by rw [← e, ← hG]; exact named_iff c ny ng
  replace hnd := Lib.hid hnd
  have y3 := blk_cell (j := 3) hcW.out.blk rfl
  rw [hvT] at y3
  replace hvT := Lib.hid hvT
  replace hnT := Lib.hid hnT
  replace hG := Lib.hid hG
  obtain ⟨at_, hat⟩ : ∃ z, lastT c.T (ny, ng) nT = z := ⟨_, rfl⟩
  replace hat := Lib.hid hat
  replace hgW := Lib.hid hgW
  replace hbW := Lib.hid hbW
  replace hld := Lib.hid hld
  replace hlp := Lib.hid hlp
  replace hdt := Lib.hid hdt
  replace hpl := Lib.hid hpl
  go_enter Tryz.func27, Tryz.ntmps27
  go_upto_block 0 with (fail)
  go_cut [5] (fun v5 wq => v5 = .int .i64 at_ ∧ Hid (Gr W wq))
  case first =>
    go_wp2_with fail
    go_loopw [5, 6] (fun p u wr => ∃ (j : Nat) (z : Int), j ≤ nT ∧ p = .int .i64 z ∧ u = .int .i64 j ∧ Hid (lastT c.T (ny, ng) j = z) ∧ Hid (Gr W wr)) (fun _ u _ => (nT - intOf u).toNat)
    case atStart => exact ⟨0, -1, Nat.zero_le _, rfl, rfl, Lib.hid rfl, Lib.hid (Gr.refl _)⟩
    case round =>
      obtain ⟨j, z, hj, rfl, rfl, hz, hgj⟩ := hrel
      have y3' := blk_cell (j := 3) (hrT.out wr hgj.out).blk rfl
      rw [hvT.out] at y3'
      by_cases hlt : j < nT
      · have ii : (j : Int) < (nT : Int) := by omega
        obtain ⟨x, hx⟩ : ∃ x, c.T[j]? = some x := ⟨_, List.getElem?_eq_getElem (by rw [hnT.out]; exact hlt)⟩
        obtain ⟨bH, rfl, hkx⟩ := hkey.out j x hx
        obtain ⟨we, hwe⟩ : ∃ we, we = wr.drew := ⟨_, rfl⟩
        have hgwe : Gr wr we := by rw [hwe]; exact (Below.refl _ _).drew
        have hge := Lib.hid (hgj.out.trans hgwe)
        have d1 := blk_cell (j := 3) (hrT.out we hge.out).blk rfl
        rw [hvT.out] at d1
        obtain ⟨d2, d3⟩ := hkx we hge.out
        have hbe := blk_below hbB.out hge.out
        have d4 := blk_cell (j := 1) hbe rfl
        have d5 := blk_cell (j := 2) hbe rfl
        replace hbe := Lib.hid hbe
        have hls : Hid (lastT c.T (ny, ng) (j + 1) = if x = (ny, ng) then (j : Int) else z) := Lib.hid (by show (if c.T[j]? = some (ny, ng) then (j : Int) else lastT c.T (ny, ng) j) = _; rw [hx, hz.out]; by_cases e : x = (ny, ng) <;> simp [e])
        replace hgwe := Lib.hid hgwe
        clear hkx
        replace hx := Lib.hid hx
        obtain ⟨xk, xg⟩ := x
        simp only at d2 d3
        by_cases hk1 : xk = ny
        · subst hk1
          by_cases hg1 : xg = ng
          · subst hg1
            go_upto_region 22 with (fail)
            refine wpR_region (Eq) 9999 (by kernel_rfl) ?_
            (rw [← hwe]; replace hwe := Lib.hid hwe)
            refine wT (i := 0) (v := ?_) (⟨fun _ => rfl, Eq.trans⟩) (some 91) rfl (fun w' hw' => ?_) ?_
            rotate_left
            · go_simp; with_reducible rfl
            simp only [Act.put, List.setIfInBounds_toArray, List.set_cons_zero, List.set_cons_succ]
            refine wT (i := 1) (v := ?_) (⟨fun _ => rfl, Eq.trans⟩) (some 92) rfl (fun w' hw' => ?_) ?_
            rotate_left
            · go_simp; with_reducible rfl
            simp only [Act.put, List.setIfInBounds_toArray, List.set_cons_zero, List.set_cons_succ]
            refine wT (i := 2) (v := ?_) (⟨fun _ => rfl, Eq.trans⟩) (some 93) rfl (fun w' hw' => ?_) ?_
            rotate_left
            · go_simp; with_reducible rfl
            simp only [Act.put, List.setIfInBounds_toArray, List.set_cons_zero, List.set_cons_succ]
            refine wT (i := 3) (v := ?_) (⟨fun _ => rfl, Eq.trans⟩) (some 94) rfl (fun w' hw' => ?_) ?_
            rotate_left
            · subst hw'; go_simp; with_reducible rfl
            simp only [Act.put, List.setIfInBounds_toArray, List.set_cons_zero, List.set_cons_succ]
            refine wT (i := 4) (v := ?_) (⟨fun _ => rfl, Eq.trans⟩) (some 95) rfl (fun w' hw' => ?_) ?_
            rotate_left
            · go_simp; with_reducible rfl
            simp only [Act.put, List.setIfInBounds_toArray, List.set_cons_zero, List.set_cons_succ]
            refine wT (i := 5) (v := ?_) (⟨fun _ => rfl, Eq.trans⟩) (some 96) rfl (fun w' hw' => ?_) ?_
            rotate_left
            · go_simp; with_reducible rfl
            simp only [Act.put, List.setIfInBounds_toArray, List.set_cons_zero, List.set_cons_succ]
            refine wT (i := 6) (v := ?_) (⟨fun _ => rfl, Eq.trans⟩) (some 97) rfl (fun w' hw' => ?_) ?_
            rotate_left
            · go_simp; with_reducible rfl
            simp only [Act.put, List.setIfInBounds_toArray, List.set_cons_zero, List.set_cons_succ]
            refine wT (i := 7) (v := ?_) (⟨fun _ => rfl, Eq.trans⟩) (some 98) rfl (fun w' hw' => ?_) ?_
            rotate_left
            · subst hw'; go_simp; with_reducible rfl
            simp only [Act.put, List.setIfInBounds_toArray, List.set_cons_zero, List.set_cons_succ]
            refine wT (i := 8) (v := ?_) (⟨fun _ => rfl, Eq.trans⟩) (some 99) rfl (fun w' hw' => ?_) ?_
            rotate_left
            · go_simp; with_reducible rfl
            simp only [Act.put, List.setIfInBounds_toArray, List.set_cons_zero, List.set_cons_succ]
            refine wT (i := 9) (v := ?_) (⟨fun _ => rfl, Eq.trans⟩) (some 100) rfl (fun w' hw' => ?_) ?_
            rotate_left
            · subst hw'; go_simp; with_reducible rfl
            simp only [Act.put, List.setIfInBounds_toArray, List.set_cons_zero, List.set_cons_succ]
            refine wT (i := 10) (v := ?_) (⟨fun _ => rfl, Eq.trans⟩) (some 101) rfl (fun w' hw' => ?_) ?_
            rotate_left
            · go_simp; with_reducible rfl
            simp only [Act.put, List.setIfInBounds_toArray, List.set_cons_zero, List.set_cons_succ]
            refine wT (i := 11) (v := ?_) (⟨fun _ => rfl, Eq.trans⟩) (some 102) rfl (fun w' hw' => ?_) ?_
            rotate_left
            · go_simp; with_reducible rfl
            simp only [Act.put, List.setIfInBounds_toArray, List.set_cons_zero, List.set_cons_succ]
            refine wT (i := 12) (v := ?_) (⟨fun _ => rfl, Eq.trans⟩) (some 103) rfl (fun w' hw' => ?_) ?_
            rotate_left
            · go_simp; with_reducible rfl
            simp only [Act.put, List.setIfInBounds_toArray, List.set_cons_zero, List.set_cons_succ]
            refine wT (i := 13) (v := ?_) (⟨fun _ => rfl, Eq.trans⟩) (some 104) rfl (fun w' hw' => ?_) ?_
            rotate_left
            · go_simp; with_reducible rfl
            simp only [Act.put, List.setIfInBounds_toArray, List.set_cons_zero, List.set_cons_succ]
            refine wT (i := 14) (v := ?_) (⟨fun _ => rfl, Eq.trans⟩) (some 105) rfl (fun w' hw' => ?_) ?_
            rotate_left
            · go_simp; with_reducible rfl
            simp only [Act.put, List.setIfInBounds_toArray, List.set_cons_zero, List.set_cons_succ]
            refine wT (i := 15) (v := ?_) (⟨fun _ => rfl, Eq.trans⟩) (some 106) rfl (fun w' hw' => ?_) ?_
            rotate_left
            · subst hw'; go_simp; with_reducible rfl
            simp only [Act.put, List.setIfInBounds_toArray, List.set_cons_zero, List.set_cons_succ]
            refine wT (i := 16) (v := ?_) (⟨fun _ => rfl, Eq.trans⟩) (some 107) rfl (fun w' hw' => ?_) ?_
            rotate_left
            · go_simp; with_reducible rfl
            simp only [Act.put, List.setIfInBounds_toArray, List.set_cons_zero, List.set_cons_succ]
            refine wT (i := 17) (v := ?_) (⟨fun _ => rfl, Eq.trans⟩) (some 108) rfl (fun w' hw' => ?_) ?_
            rotate_left
            · go_simp; with_reducible rfl
            simp only [Act.put, List.setIfInBounds_toArray, List.set_cons_zero, List.set_cons_succ]
            refine wT (i := 18) (v := ?_) (⟨fun _ => rfl, Eq.trans⟩) (some 109) rfl (fun w' hw' => ?_) ?_
            rotate_left
            · go_simp; with_reducible rfl
            simp only [Act.put, List.setIfInBounds_toArray, List.set_cons_zero, List.set_cons_succ]
            refine wT (i := 19) (v := ?_) (⟨fun _ => rfl, Eq.trans⟩) (some 110) rfl (fun w' hw' => ?_) ?_
            rotate_left
            · subst hw'; go_simp; with_reducible rfl
            simp only [Act.put, List.setIfInBounds_toArray, List.set_cons_zero, List.set_cons_succ]
            refine wT (i := 20) (v := ?_) (⟨fun _ => rfl, Eq.trans⟩) (some 111) rfl (fun w' hw' => ?_) ?_
            rotate_left
            · go_simp; with_reducible rfl
            simp only [Act.put, List.setIfInBounds_toArray, List.set_cons_zero, List.set_cons_succ]
            refine wT (i := 21) (v := ?_) (⟨fun _ => rfl, Eq.trans⟩) (some 112) rfl (fun w' hw' => ?_) ?_
            rotate_left
            · subst hw'; go_simp; with_reducible rfl
            simp only [Act.put, List.setIfInBounds_toArray, List.set_cons_zero, List.set_cons_succ]
            refine wT (i := 22) (v := ?_) (⟨fun _ => rfl, Eq.trans⟩) (some 113) rfl (fun w' hw' => ?_) ?_
            rotate_left
            · go_simp; with_reducible rfl
            simp only [Act.put, List.setIfInBounds_toArray, List.set_cons_zero, List.set_cons_succ]
            refine wT (i := 23) (v := ?_) (⟨fun _ => rfl, Eq.trans⟩) (some 114) rfl (fun w' hw' => ?_) ?_
            rotate_left
            · go_simp; with_reducible rfl
            simp only [Act.put, List.setIfInBounds_toArray, List.set_cons_zero, List.set_cons_succ]
            refine wpR_done (by kernel_rfl) ?_ _
            go_wp2_with fail
            go_roundw
            case rel => exact ⟨j + 1, (j : Int), by omega, rfl, by go_num, Lib.hid (by rw [hls.out, if_pos rfl]), hge⟩
            case measure => simp [intOf]; omega
          · have hne : (xg == ng) = false := by simpa using hg1
            go_upto_region 22 with (fail)
            refine wpR_region (Eq) 9999 (by kernel_rfl) ?_
            (rw [← hwe]; replace hwe := Lib.hid hwe)
            refine wT (i := 0) (v := ?_) (⟨fun _ => rfl, Eq.trans⟩) (some 91) rfl (fun w' hw' => ?_) ?_
            rotate_left
            · go_simp; with_reducible rfl
            simp only [Act.put, List.setIfInBounds_toArray, List.set_cons_zero, List.set_cons_succ]
            refine wT (i := 1) (v := ?_) (⟨fun _ => rfl, Eq.trans⟩) (some 92) rfl (fun w' hw' => ?_) ?_
            rotate_left
            · go_simp; with_reducible rfl
            simp only [Act.put, List.setIfInBounds_toArray, List.set_cons_zero, List.set_cons_succ]
            refine wT (i := 2) (v := ?_) (⟨fun _ => rfl, Eq.trans⟩) (some 93) rfl (fun w' hw' => ?_) ?_
            rotate_left
            · go_simp; with_reducible rfl
            simp only [Act.put, List.setIfInBounds_toArray, List.set_cons_zero, List.set_cons_succ]
            refine wT (i := 3) (v := ?_) (⟨fun _ => rfl, Eq.trans⟩) (some 94) rfl (fun w' hw' => ?_) ?_
            rotate_left
            · subst hw'; go_simp; with_reducible rfl
            simp only [Act.put, List.setIfInBounds_toArray, List.set_cons_zero, List.set_cons_succ]
            refine wT (i := 4) (v := ?_) (⟨fun _ => rfl, Eq.trans⟩) (some 95) rfl (fun w' hw' => ?_) ?_
            rotate_left
            · go_simp; with_reducible rfl
            simp only [Act.put, List.setIfInBounds_toArray, List.set_cons_zero, List.set_cons_succ]
            refine wT (i := 5) (v := ?_) (⟨fun _ => rfl, Eq.trans⟩) (some 96) rfl (fun w' hw' => ?_) ?_
            rotate_left
            · go_simp; with_reducible rfl
            simp only [Act.put, List.setIfInBounds_toArray, List.set_cons_zero, List.set_cons_succ]
            refine wT (i := 6) (v := ?_) (⟨fun _ => rfl, Eq.trans⟩) (some 97) rfl (fun w' hw' => ?_) ?_
            rotate_left
            · go_simp; with_reducible rfl
            simp only [Act.put, List.setIfInBounds_toArray, List.set_cons_zero, List.set_cons_succ]
            refine wT (i := 7) (v := ?_) (⟨fun _ => rfl, Eq.trans⟩) (some 98) rfl (fun w' hw' => ?_) ?_
            rotate_left
            · subst hw'; go_simp; with_reducible rfl
            simp only [Act.put, List.setIfInBounds_toArray, List.set_cons_zero, List.set_cons_succ]
            refine wT (i := 8) (v := ?_) (⟨fun _ => rfl, Eq.trans⟩) (some 99) rfl (fun w' hw' => ?_) ?_
            rotate_left
            · go_simp; with_reducible rfl
            simp only [Act.put, List.setIfInBounds_toArray, List.set_cons_zero, List.set_cons_succ]
            refine wT (i := 9) (v := ?_) (⟨fun _ => rfl, Eq.trans⟩) (some 100) rfl (fun w' hw' => ?_) ?_
            rotate_left
            · subst hw'; go_simp; with_reducible rfl
            simp only [Act.put, List.setIfInBounds_toArray, List.set_cons_zero, List.set_cons_succ]
            refine wT (i := 10) (v := ?_) (⟨fun _ => rfl, Eq.trans⟩) (some 101) rfl (fun w' hw' => ?_) ?_
            rotate_left
            · go_simp; with_reducible rfl
            simp only [Act.put, List.setIfInBounds_toArray, List.set_cons_zero, List.set_cons_succ]
            refine wT (i := 11) (v := ?_) (⟨fun _ => rfl, Eq.trans⟩) (some 102) rfl (fun w' hw' => ?_) ?_
            rotate_left
            · go_simp; with_reducible rfl
            simp only [Act.put, List.setIfInBounds_toArray, List.set_cons_zero, List.set_cons_succ]
            refine wT (i := 12) (v := ?_) (⟨fun _ => rfl, Eq.trans⟩) (some 103) rfl (fun w' hw' => ?_) ?_
            rotate_left
            · go_simp; with_reducible rfl
            simp only [Act.put, List.setIfInBounds_toArray, List.set_cons_zero, List.set_cons_succ]
            refine wT (i := 13) (v := ?_) (⟨fun _ => rfl, Eq.trans⟩) (some 104) rfl (fun w' hw' => ?_) ?_
            rotate_left
            · go_simp; with_reducible rfl
            simp only [Act.put, List.setIfInBounds_toArray, List.set_cons_zero, List.set_cons_succ]
            refine wT (i := 14) (v := ?_) (⟨fun _ => rfl, Eq.trans⟩) (some 105) rfl (fun w' hw' => ?_) ?_
            rotate_left
            · go_simp; with_reducible rfl
            simp only [Act.put, List.setIfInBounds_toArray, List.set_cons_zero, List.set_cons_succ]
            refine wT (i := 15) (v := ?_) (⟨fun _ => rfl, Eq.trans⟩) (some 106) rfl (fun w' hw' => ?_) ?_
            rotate_left
            · subst hw'; go_simp; with_reducible rfl
            simp only [Act.put, List.setIfInBounds_toArray, List.set_cons_zero, List.set_cons_succ]
            refine wT (i := 16) (v := ?_) (⟨fun _ => rfl, Eq.trans⟩) (some 107) rfl (fun w' hw' => ?_) ?_
            rotate_left
            · go_simp; with_reducible rfl
            simp only [Act.put, List.setIfInBounds_toArray, List.set_cons_zero, List.set_cons_succ]
            refine wT (i := 17) (v := ?_) (⟨fun _ => rfl, Eq.trans⟩) (some 108) rfl (fun w' hw' => ?_) ?_
            rotate_left
            · go_simp; with_reducible rfl
            simp only [Act.put, List.setIfInBounds_toArray, List.set_cons_zero, List.set_cons_succ]
            refine wT (i := 18) (v := ?_) (⟨fun _ => rfl, Eq.trans⟩) (some 109) rfl (fun w' hw' => ?_) ?_
            rotate_left
            · go_simp; with_reducible rfl
            simp only [Act.put, List.setIfInBounds_toArray, List.set_cons_zero, List.set_cons_succ]
            refine wT (i := 19) (v := ?_) (⟨fun _ => rfl, Eq.trans⟩) (some 110) rfl (fun w' hw' => ?_) ?_
            rotate_left
            · subst hw'; go_simp; with_reducible rfl
            simp only [Act.put, List.setIfInBounds_toArray, List.set_cons_zero, List.set_cons_succ]
            refine wT (i := 20) (v := ?_) (⟨fun _ => rfl, Eq.trans⟩) (some 111) rfl (fun w' hw' => ?_) ?_
            rotate_left
            · go_simp; with_reducible rfl
            simp only [Act.put, List.setIfInBounds_toArray, List.set_cons_zero, List.set_cons_succ]
            refine wT (i := 21) (v := ?_) (⟨fun _ => rfl, Eq.trans⟩) (some 112) rfl (fun w' hw' => ?_) ?_
            rotate_left
            · subst hw'; go_simp; with_reducible rfl
            simp only [Act.put, List.setIfInBounds_toArray, List.set_cons_zero, List.set_cons_succ]
            refine wT (i := 22) (v := ?_) (⟨fun _ => rfl, Eq.trans⟩) (some 113) rfl (fun w' hw' => ?_) ?_
            rotate_left
            · go_simp; with_reducible rfl
            simp only [Act.put, List.setIfInBounds_toArray, List.set_cons_zero, List.set_cons_succ]
            refine wT (i := 23) (v := ?_) (⟨fun _ => rfl, Eq.trans⟩) (some 114) rfl (fun w' hw' => ?_) ?_
            rotate_left
            · go_simp; with_reducible rfl
            simp only [Act.put, List.setIfInBounds_toArray, List.set_cons_zero, List.set_cons_succ]
            refine wpR_done (by kernel_rfl) ?_ _
            go_wp2_with fail
            go_roundw
            case rel => exact ⟨j + 1, z, by omega, rfl, by go_num, Lib.hid (by rw [hls.out, if_neg (fun e => hg1 (by injection e))]), hge⟩
            case measure => simp [intOf]; omega
        · have hne : (xk == ny) = false := by simpa using hk1
          go_upto_region 22 with (fail)
          refine wpR_region (Eq) 9999 (by kernel_rfl) ?_
          (rw [← hwe]; replace hwe := Lib.hid hwe)
          refine wT (i := 0) (v := ?_) (⟨fun _ => rfl, Eq.trans⟩) (some 91) rfl (fun w' hw' => ?_) ?_
          rotate_left
          · go_simp; with_reducible rfl
          simp only [Act.put, List.setIfInBounds_toArray, List.set_cons_zero, List.set_cons_succ]
          refine wT (i := 1) (v := ?_) (⟨fun _ => rfl, Eq.trans⟩) (some 92) rfl (fun w' hw' => ?_) ?_
          rotate_left
          · go_simp; with_reducible rfl
          simp only [Act.put, List.setIfInBounds_toArray, List.set_cons_zero, List.set_cons_succ]
          refine wT (i := 2) (v := ?_) (⟨fun _ => rfl, Eq.trans⟩) (some 93) rfl (fun w' hw' => ?_) ?_
          rotate_left
          · go_simp; with_reducible rfl
          simp only [Act.put, List.setIfInBounds_toArray, List.set_cons_zero, List.set_cons_succ]
          refine wT (i := 3) (v := ?_) (⟨fun _ => rfl, Eq.trans⟩) (some 94) rfl (fun w' hw' => ?_) ?_
          rotate_left
          · subst hw'; go_simp; with_reducible rfl
          simp only [Act.put, List.setIfInBounds_toArray, List.set_cons_zero, List.set_cons_succ]
          refine wT (i := 4) (v := ?_) (⟨fun _ => rfl, Eq.trans⟩) (some 95) rfl (fun w' hw' => ?_) ?_
          rotate_left
          · go_simp; with_reducible rfl
          simp only [Act.put, List.setIfInBounds_toArray, List.set_cons_zero, List.set_cons_succ]
          refine wT (i := 5) (v := ?_) (⟨fun _ => rfl, Eq.trans⟩) (some 96) rfl (fun w' hw' => ?_) ?_
          rotate_left
          · go_simp; with_reducible rfl
          simp only [Act.put, List.setIfInBounds_toArray, List.set_cons_zero, List.set_cons_succ]
          refine wT (i := 6) (v := ?_) (⟨fun _ => rfl, Eq.trans⟩) (some 97) rfl (fun w' hw' => ?_) ?_
          rotate_left
          · go_simp; with_reducible rfl
          simp only [Act.put, List.setIfInBounds_toArray, List.set_cons_zero, List.set_cons_succ]
          refine wT (i := 7) (v := ?_) (⟨fun _ => rfl, Eq.trans⟩) (some 98) rfl (fun w' hw' => ?_) ?_
          rotate_left
          · subst hw'; go_simp; with_reducible rfl
          simp only [Act.put, List.setIfInBounds_toArray, List.set_cons_zero, List.set_cons_succ]
          refine wT (i := 8) (v := ?_) (⟨fun _ => rfl, Eq.trans⟩) (some 99) rfl (fun w' hw' => ?_) ?_
          rotate_left
          · go_simp; with_reducible rfl
          simp only [Act.put, List.setIfInBounds_toArray, List.set_cons_zero, List.set_cons_succ]
          refine wT (i := 9) (v := ?_) (⟨fun _ => rfl, Eq.trans⟩) (some 100) rfl (fun w' hw' => ?_) ?_
          rotate_left
          · subst hw'; go_simp; with_reducible rfl
          simp only [Act.put, List.setIfInBounds_toArray, List.set_cons_zero, List.set_cons_succ]
          refine wT (i := 10) (v := ?_) (⟨fun _ => rfl, Eq.trans⟩) (some 101) rfl (fun w' hw' => ?_) ?_
          rotate_left
          · go_simp; with_reducible rfl
          simp only [Act.put, List.setIfInBounds_toArray, List.set_cons_zero, List.set_cons_succ]
          refine wT (i := 11) (v := ?_) (⟨fun _ => rfl, Eq.trans⟩) (some 102) rfl (fun w' hw' => ?_) ?_
          rotate_left
          · go_simp; with_reducible rfl
          simp only [Act.put, List.setIfInBounds_toArray, List.set_cons_zero, List.set_cons_succ]
          refine wpR_skip (i := 12) (⟨fun _ => rfl, Eq.trans⟩) (some 103) rfl (by kernel_rfl) (by kernel_rfl) (by kernel_rfl) (by kernel_rfl) (by kernel_rfl) (fun _ _ _ h => h) (by kernel_rfl) ?_
          simp only [Act.put, List.setIfInBounds_toArray, List.set_cons_zero, List.set_cons_succ]
          refine wpR_skip (i := 13) (⟨fun _ => rfl, Eq.trans⟩) (some 104) rfl (by kernel_rfl) (by kernel_rfl) (by kernel_rfl) (by kernel_rfl) (by kernel_rfl) (fun _ _ _ h => h) (by kernel_rfl) ?_
          simp only [Act.put, List.setIfInBounds_toArray, List.set_cons_zero, List.set_cons_succ]
          refine wpR_skip (i := 14) (⟨fun _ => rfl, Eq.trans⟩) (some 105) rfl (by kernel_rfl) (by kernel_rfl) (by kernel_rfl) (by kernel_rfl) (by kernel_rfl) (fun _ _ _ h => h) (by kernel_rfl) ?_
          simp only [Act.put, List.setIfInBounds_toArray, List.set_cons_zero, List.set_cons_succ]
          refine wpR_skip (i := 15) (⟨fun _ => rfl, Eq.trans⟩) (some 106) rfl (by kernel_rfl) (by kernel_rfl) (by kernel_rfl) (by kernel_rfl) (by kernel_rfl) (fun _ _ _ h => h) (by kernel_rfl) ?_
          simp only [Act.put, List.setIfInBounds_toArray, List.set_cons_zero, List.set_cons_succ]
          refine wpR_skip (i := 16) (⟨fun _ => rfl, Eq.trans⟩) (some 107) rfl (by kernel_rfl) (by kernel_rfl) (by kernel_rfl) (by kernel_rfl) (by kernel_rfl) (fun _ _ _ h => h) (by kernel_rfl) ?_
          simp only [Act.put, List.setIfInBounds_toArray, List.set_cons_zero, List.set_cons_succ]
          refine wpR_skip (i := 17) (⟨fun _ => rfl, Eq.trans⟩) (some 108) rfl (by kernel_rfl) (by kernel_rfl) (by kernel_rfl) (by kernel_rfl) (by kernel_rfl) (fun _ _ _ h => h) (by kernel_rfl) ?_
          simp only [Act.put, List.setIfInBounds_toArray, List.set_cons_zero, List.set_cons_succ]
          refine wpR_skip (i := 18) (⟨fun _ => rfl, Eq.trans⟩) (some 109) rfl (by kernel_rfl) (by kernel_rfl) (by kernel_rfl) (by kernel_rfl) (by kernel_rfl) (fun _ _ _ h => h) (by kernel_rfl) ?_
          simp only [Act.put, List.setIfInBounds_toArray, List.set_cons_zero, List.set_cons_succ]
          refine wpR_skip (i := 19) (⟨fun _ => rfl, Eq.trans⟩) (some 110) rfl (by kernel_rfl) (by kernel_rfl) (by kernel_rfl) (by kernel_rfl) (by kernel_rfl) (fun _ _ _ h => h) (by kernel_rfl) ?_
          simp only [Act.put, List.setIfInBounds_toArray, List.set_cons_zero, List.set_cons_succ]
          refine wpR_skip (i := 20) (⟨fun _ => rfl, Eq.trans⟩) (some 111) rfl (by kernel_rfl) (by kernel_rfl) (by kernel_rfl) (by kernel_rfl) (by kernel_rfl) (fun _ _ _ h => h) (by kernel_rfl) ?_
          simp only [Act.put, List.setIfInBounds_toArray, List.set_cons_zero, List.set_cons_succ]
          refine wpR_skip (i := 21) (⟨fun _ => rfl, Eq.trans⟩) (some 112) rfl (by kernel_rfl) (by kernel_rfl) (by kernel_rfl) (by kernel_rfl) (by kernel_rfl) (fun _ _ _ h => h) (by kernel_rfl) ?_
          simp only [Act.put, List.setIfInBounds_toArray, List.set_cons_zero, List.set_cons_succ]
          refine wpR_skip (i := 22) (⟨fun _ => rfl, Eq.trans⟩) (some 113) rfl (by kernel_rfl) (by kernel_rfl) (by kernel_rfl) (by kernel_rfl) (by kernel_rfl) (fun _ _ _ h => h) (by kernel_rfl) ?_
          simp only [Act.put, List.setIfInBounds_toArray, List.set_cons_zero, List.set_cons_succ]
          refine wT (i := 23) (v := ?_) (⟨fun _ => rfl, Eq.trans⟩) (some 114) rfl (fun w' hw' => ?_) ?_
          rotate_left
          · go_simp; with_reducible rfl
          simp only [Act.put, List.setIfInBounds_toArray, List.set_cons_zero, List.set_cons_succ]
          refine wpR_done (by kernel_rfl) ?_ _
          go_wp2_with fail
          go_roundw
          case rel => exact ⟨j + 1, z, by omega, rfl, by go_num, Lib.hid (by rw [hls.out, if_neg (fun e => hk1 (by injection e))]), hge⟩
          case measure => simp [intOf]; omega
      · obtain rfl : nT = j := by omega
        obtain rfl : z = at_ := by rw [← hz.out, hat.out]
        go_wp2_with fail
        go_meet
        exact ⟨rfl, hgj⟩
  case rest =>
    obtain ⟨rfl, hgF⟩ := hcut
    rename World => wF
    clear y3 z0 z1 z2 z4 z6
    obtain ⟨we, hwe⟩ : ∃ we, we = wF.drew := ⟨_, rfl⟩
    have hgwe : Gr wF we := by rw [hwe]; exact (Below.refl _ _).drew
    have hge := Lib.hid (hgF.out.trans hgwe)
    have hce := Lib.hid (hrT.out we hge.out)
    have hbe := blk_below hbB.out hge.out
    have d1 := blk_cell (j := 1) hbe rfl
    have d2 := blk_cell (j := 2) hbe rfl
    have d6 := blk_cell (j := 6) hbe rfl
    have d5 := blk_cell (j := 5) hce.out.blk rfl
    rw [hG.out] at d5
    have hsm := Lib.hid (hsame.out _ hge.out)
    replace hgwe := Lib.hid hgwe
    replace hbe := Lib.hid hbe
    have hat2 : Hid ((((ny, ng) ∈ c.T) ∧ ∃ i : Nat, at_ = (i : Int) ∧ c.T[i]? = some (ny, ng)) ∨ ((ny, ng) ∉ c.T ∧ at_ = -1)) := Lib.hid (by
      by_cases hm : (ny, ng) ∈ c.T
      · obtain ⟨i, hi⟩ := List.mem_iff_getElem?.mp hm
        exact .inl ⟨hm, i, by rw [← hat.out]; exact lastT_yes hok.dT hi _ (by have := (List.getElem?_eq_some_iff.mp hi).1; rw [hnT.out] at this; exact this), hi⟩
      · exact .inr ⟨hm, by rw [← hat.out]; exact lastT_no hm _⟩)
    go_upto_region 24 with (fail)
    by_cases hs1 : ns = 1
    · subst hs1
      rcases hat2.out with ⟨hm, i, hai, hi⟩ | ⟨hm, hai⟩
      · subst hai
        obtain rfl : rc = (12, c) := by rw [← hrc, if_neg (by rintro ⟨-, h2, -⟩; exact h2 hm), if_neg (by rintro ⟨h2, -⟩; omega)]
        clear hrc
        replace hm := Lib.hid hm
        replace hi := Lib.hid hi
        have ia : ¬ ((i : Int) < 0) := by omega
        refine wpR_region (Eq) 9999 (by kernel_rfl) ?_
        (rw [← hwe]; replace hwe := Lib.hid hwe)
        refine wT (i := 0) (v := ?_) (⟨fun _ => rfl, Eq.trans⟩) (some 116) rfl (fun w' hw' => ?_) ?_
        rotate_left
        · go_simp; with_reducible rfl
        simp only [Act.put, List.setIfInBounds_toArray, List.set_cons_zero, List.set_cons_succ]
        refine wT (i := 1) (v := ?_) (⟨fun _ => rfl, Eq.trans⟩) (some 117) rfl (fun w' hw' => ?_) ?_
        rotate_left
        · subst hw'; go_simp; with_reducible rfl
        simp only [Act.put, List.setIfInBounds_toArray, List.set_cons_zero, List.set_cons_succ]
        refine wT (i := 2) (v := ?_) (⟨fun _ => rfl, Eq.trans⟩) (some 118) rfl (fun w' hw' => ?_) ?_
        rotate_left
        · go_simp; with_reducible rfl
        simp only [Act.put, List.setIfInBounds_toArray, List.set_cons_zero, List.set_cons_succ]
        refine wT (i := 3) (v := ?_) (⟨fun _ => rfl, Eq.trans⟩) (some 119) rfl (fun w' hw' => ?_) ?_
        rotate_left
        · go_simp; with_reducible rfl
        simp only [Act.put, List.setIfInBounds_toArray, List.set_cons_zero, List.set_cons_succ]
        refine wT (i := 4) (v := ?_) (⟨fun _ => rfl, Eq.trans⟩) (some 120) rfl (fun w' hw' => ?_) ?_
        rotate_left
        · go_simp; with_reducible rfl
        simp only [Act.put, List.setIfInBounds_toArray, List.set_cons_zero, List.set_cons_succ]
        refine wT (i := 5) (v := ?_) (⟨fun _ => rfl, Eq.trans⟩) (some 121) rfl (fun w' hw' => ?_) ?_
        rotate_left
        · go_simp; with_reducible rfl
        simp only [Act.put, List.setIfInBounds_toArray, List.set_cons_zero, List.set_cons_succ]
        refine wT (i := 6) (v := ?_) (⟨fun _ => rfl, Eq.trans⟩) (some 122) rfl (fun w' hw' => ?_) ?_
        rotate_left
        · go_simp; with_reducible rfl
        simp only [Act.put, List.setIfInBounds_toArray, List.set_cons_zero, List.set_cons_succ]
        refine wT (i := 7) (v := ?_) (⟨fun _ => rfl, Eq.trans⟩) (some 123) rfl (fun w' hw' => ?_) ?_
        rotate_left
        · go_simp; with_reducible rfl
        simp only [Act.put, List.setIfInBounds_toArray, List.set_cons_zero, List.set_cons_succ]
        refine wpR_skip (i := 8) (⟨fun _ => rfl, Eq.trans⟩) (some 124) rfl (by kernel_rfl) (by kernel_rfl) (by kernel_rfl) (by kernel_rfl) (by kernel_rfl) (fun _ _ _ h => h) (by kernel_rfl) ?_
        simp only [Act.put, List.setIfInBounds_toArray, List.set_cons_zero, List.set_cons_succ]
        refine wpR_skip (i := 9) (⟨fun _ => rfl, Eq.trans⟩) (some 125) rfl (by kernel_rfl) (by kernel_rfl) (by kernel_rfl) (by kernel_rfl) (by kernel_rfl) (fun _ _ _ h => h) (by kernel_rfl) ?_
        simp only [Act.put, List.setIfInBounds_toArray, List.set_cons_zero, List.set_cons_succ]
        refine wpR_skip (i := 10) (⟨fun _ => rfl, Eq.trans⟩) (some 126) rfl (by kernel_rfl) (by kernel_rfl) (by kernel_rfl) (by kernel_rfl) (by kernel_rfl) (fun _ _ _ h => h) (by kernel_rfl) ?_
        simp only [Act.put, List.setIfInBounds_toArray, List.set_cons_zero, List.set_cons_succ]
        refine wT (i := 11) (v := ?_) (⟨fun _ => rfl, Eq.trans⟩) (some 127) rfl (fun w' hw' => ?_) ?_
        rotate_left
        · go_simp; with_reducible rfl
        simp only [Act.put, List.setIfInBounds_toArray, List.set_cons_zero, List.set_cons_succ]
        refine wT (i := 12) (v := ?_) (⟨fun _ => rfl, Eq.trans⟩) (some 128) rfl (fun w' hw' => ?_) ?_
        rotate_left
        · go_simp; with_reducible rfl
        simp only [Act.put, List.setIfInBounds_toArray, List.set_cons_zero, List.set_cons_succ]
        refine wpR_skip (i := 13) (⟨fun _ => rfl, Eq.trans⟩) (some 129) rfl (by kernel_rfl) (by kernel_rfl) (by kernel_rfl) (by kernel_rfl) (by kernel_rfl) (fun _ _ _ h => h) (by kernel_rfl) ?_
        simp only [Act.put, List.setIfInBounds_toArray, List.set_cons_zero, List.set_cons_succ]
        refine wpR_skip (i := 14) (⟨fun _ => rfl, Eq.trans⟩) (some 130) rfl (by kernel_rfl) (by kernel_rfl) (by kernel_rfl) (by kernel_rfl) (by kernel_rfl) (fun _ _ _ h => h) (by kernel_rfl) ?_
        simp only [Act.put, List.setIfInBounds_toArray, List.set_cons_zero, List.set_cons_succ]
        refine wpR_skip (i := 15) (⟨fun _ => rfl, Eq.trans⟩) (some 131) rfl (by kernel_rfl) (by kernel_rfl) (by kernel_rfl) (by kernel_rfl) (by kernel_rfl) (fun _ _ _ h => h) (by kernel_rfl) ?_
        simp only [Act.put, List.setIfInBounds_toArray, List.set_cons_zero, List.set_cons_succ]
        refine wT (i := 16) (v := ?_) (⟨fun _ => rfl, Eq.trans⟩) (some 132) rfl (fun w' hw' => ?_) ?_
        rotate_left
        · go_simp; with_reducible rfl
        simp only [Act.put, List.setIfInBounds_toArray, List.set_cons_zero, List.set_cons_succ]
        refine wT (i := 17) (v := ?_) (⟨fun _ => rfl, Eq.trans⟩) (some 133) rfl (fun w' hw' => ?_) ?_
        rotate_left
        · go_simp; with_reducible rfl
        simp only [Act.put, List.setIfInBounds_toArray, List.set_cons_zero, List.set_cons_succ]
        refine wpR_skip (i := 18) (⟨fun _ => rfl, Eq.trans⟩) (some 134) rfl (by kernel_rfl) (by kernel_rfl) (by kernel_rfl) (by kernel_rfl) (by kernel_rfl) (fun _ _ _ h => h) (by kernel_rfl) ?_
        simp only [Act.put, List.setIfInBounds_toArray, List.set_cons_zero, List.set_cons_succ]
        refine wpR_skip (i := 19) (⟨fun _ => rfl, Eq.trans⟩) (some 135) rfl (by kernel_rfl) (by kernel_rfl) (by kernel_rfl) (by kernel_rfl) (by kernel_rfl) (fun _ _ _ h => h) (by kernel_rfl) ?_
        simp only [Act.put, List.setIfInBounds_toArray, List.set_cons_zero, List.set_cons_succ]
        refine wpR_skip (i := 20) (⟨fun _ => rfl, Eq.trans⟩) (some 136) rfl (by kernel_rfl) (by kernel_rfl) (by kernel_rfl) (by kernel_rfl) (by kernel_rfl) (fun _ _ _ h => h) (by kernel_rfl) ?_
        simp only [Act.put, List.setIfInBounds_toArray, List.set_cons_zero, List.set_cons_succ]
        refine wpR_skip (i := 21) (⟨fun _ => rfl, Eq.trans⟩) (some 137) rfl (by kernel_rfl) (by kernel_rfl) (by kernel_rfl) (by kernel_rfl) (by kernel_rfl) (fun _ _ _ h => h) (by kernel_rfl) ?_
        simp only [Act.put, List.setIfInBounds_toArray, List.set_cons_zero, List.set_cons_succ]
        refine wpR_skip (i := 22) (⟨fun _ => rfl, Eq.trans⟩) (some 138) rfl (by kernel_rfl) (by kernel_rfl) (by kernel_rfl) (by kernel_rfl) (by kernel_rfl) (fun _ _ _ h => h) (by kernel_rfl) ?_
        simp only [Act.put, List.setIfInBounds_toArray, List.set_cons_zero, List.set_cons_succ]
        refine wpR_skip (i := 23) (⟨fun _ => rfl, Eq.trans⟩) (some 139) rfl (by kernel_rfl) (by kernel_rfl) (by kernel_rfl) (by kernel_rfl) (by kernel_rfl) (fun _ _ _ h => h) (by kernel_rfl) ?_
        simp only [Act.put, List.setIfInBounds_toArray, List.set_cons_zero, List.set_cons_succ]
        refine wpR_skip (i := 24) (⟨fun _ => rfl, Eq.trans⟩) (some 140) rfl (by kernel_rfl) (by kernel_rfl) (by kernel_rfl) (by kernel_rfl) (by kernel_rfl) (fun _ _ _ h => h) (by kernel_rfl) ?_
        simp only [Act.put, List.setIfInBounds_toArray, List.set_cons_zero, List.set_cons_succ]
        refine wT (i := 25) (v := ?_) (⟨fun _ => rfl, Eq.trans⟩) (some 141) rfl (fun w' hw' => ?_) ?_
        rotate_left
        · go_simp; with_reducible rfl
        simp only [Act.put, List.setIfInBounds_toArray, List.set_cons_zero, List.set_cons_succ]
        refine wpR_done (by kernel_rfl) ?_ _
        go_wp2_with fail
        go_ret
        exact ⟨rfl, hsm.out⟩
      · subst hai
        cases hko : keyOk ny with
        | false =>
          rw [hko] at hnm
          obtain rfl : rc = (12, c) := by rw [← hrc, if_neg (by rintro ⟨-, -, h2⟩; exact absurd ((hnd.out _ hko).mp h2).1 (by decide)), if_neg (by rintro ⟨h2, -⟩; omega)]
          clear hrc
          replace hm := Lib.hid hm
          replace hko := Lib.hid hko
          refine wpR_region (Eq) 9999 (by kernel_rfl) ?_
          (rw [← hwe]; replace hwe := Lib.hid hwe)
          refine wT (i := 0) (v := ?_) (⟨fun _ => rfl, Eq.trans⟩) (some 116) rfl (fun w' hw' => ?_) ?_
          rotate_left
          · go_simp; with_reducible rfl
          simp only [Act.put, List.setIfInBounds_toArray, List.set_cons_zero, List.set_cons_succ]
          refine wT (i := 1) (v := ?_) (⟨fun _ => rfl, Eq.trans⟩) (some 117) rfl (fun w' hw' => ?_) ?_
          rotate_left
          · subst hw'; go_simp; with_reducible rfl
          simp only [Act.put, List.setIfInBounds_toArray, List.set_cons_zero, List.set_cons_succ]
          refine wT (i := 2) (v := ?_) (⟨fun _ => rfl, Eq.trans⟩) (some 118) rfl (fun w' hw' => ?_) ?_
          rotate_left
          · go_simp; with_reducible rfl
          simp only [Act.put, List.setIfInBounds_toArray, List.set_cons_zero, List.set_cons_succ]
          refine wT (i := 3) (v := ?_) (⟨fun _ => rfl, Eq.trans⟩) (some 119) rfl (fun w' hw' => ?_) ?_
          rotate_left
          · go_simp; with_reducible rfl
          simp only [Act.put, List.setIfInBounds_toArray, List.set_cons_zero, List.set_cons_succ]
          refine wT (i := 4) (v := ?_) (⟨fun _ => rfl, Eq.trans⟩) (some 120) rfl (fun w' hw' => ?_) ?_
          rotate_left
          · go_simp; with_reducible rfl
          simp only [Act.put, List.setIfInBounds_toArray, List.set_cons_zero, List.set_cons_succ]
          refine wT (i := 5) (v := ?_) (⟨fun _ => rfl, Eq.trans⟩) (some 121) rfl (fun w' hw' => ?_) ?_
          rotate_left
          · go_simp; with_reducible rfl
          simp only [Act.put, List.setIfInBounds_toArray, List.set_cons_zero, List.set_cons_succ]
          refine wT (i := 6) (v := ?_) (⟨fun _ => rfl, Eq.trans⟩) (some 122) rfl (fun w' hw' => ?_) ?_
          rotate_left
          · go_simp; with_reducible rfl
          simp only [Act.put, List.setIfInBounds_toArray, List.set_cons_zero, List.set_cons_succ]
          refine wT (i := 7) (v := ?_) (⟨fun _ => rfl, Eq.trans⟩) (some 123) rfl (fun w' hw' => ?_) ?_
          rotate_left
          · go_simp; with_reducible rfl
          simp only [Act.put, List.setIfInBounds_toArray, List.set_cons_zero, List.set_cons_succ]
          refine wT (i := 8) (v := ?_) (⟨fun _ => rfl, Eq.trans⟩) (some 124) rfl (fun w' hw' => ?_) ?_
          rotate_left
          · go_simp; with_reducible rfl
          simp only [Act.put, List.setIfInBounds_toArray, List.set_cons_zero, List.set_cons_succ]
          refine wT (i := 9) (v := ?_) (⟨fun _ => rfl, Eq.trans⟩) (some 125) rfl (fun w' hw' => ?_) ?_
          rotate_left
          · subst hw'; go_simp; with_reducible rfl
          simp only [Act.put, List.setIfInBounds_toArray, List.set_cons_zero, List.set_cons_succ]
          refine wpR_one 10 rfl (by kernel_rfl) (by kernel_rfl) (fun K hK => ?_)
          go_simp
          refine (hnm.out _).mono ?_
          rintro e w' ⟨rfl, hww⟩
          rw [hww]
          clear hww w'
          refine hK _ _ (fun _ => rfl) ?_
          clear hK K
          clear hnm
          try simp only [Act.put, List.setIfInBounds_toArray, List.set_cons_zero, List.set_cons_succ]
          refine wT (i := 11) (v := ?_) (⟨fun _ => rfl, Eq.trans⟩) (some 127) rfl (fun w' hw' => ?_) ?_
          rotate_left
          · go_simp; with_reducible rfl
          simp only [Act.put, List.setIfInBounds_toArray, List.set_cons_zero, List.set_cons_succ]
          refine wT (i := 12) (v := ?_) (⟨fun _ => rfl, Eq.trans⟩) (some 128) rfl (fun w' hw' => ?_) ?_
          rotate_left
          · go_simp; with_reducible rfl
          simp only [Act.put, List.setIfInBounds_toArray, List.set_cons_zero, List.set_cons_succ]
          refine wpR_skip (i := 13) (⟨fun _ => rfl, Eq.trans⟩) (some 129) rfl (by kernel_rfl) (by kernel_rfl) (by kernel_rfl) (by kernel_rfl) (by kernel_rfl) (fun _ _ _ h => h) (by kernel_rfl) ?_
          simp only [Act.put, List.setIfInBounds_toArray, List.set_cons_zero, List.set_cons_succ]
          refine wpR_skip (i := 14) (⟨fun _ => rfl, Eq.trans⟩) (some 130) rfl (by kernel_rfl) (by kernel_rfl) (by kernel_rfl) (by kernel_rfl) (by kernel_rfl) (fun _ _ _ h => h) (by kernel_rfl) ?_
          simp only [Act.put, List.setIfInBounds_toArray, List.set_cons_zero, List.set_cons_succ]
          refine wpR_skip (i := 15) (⟨fun _ => rfl, Eq.trans⟩) (some 131) rfl (by kernel_rfl) (by kernel_rfl) (by kernel_rfl) (by kernel_rfl) (by kernel_rfl) (fun _ _ _ h => h) (by kernel_rfl) ?_
          simp only [Act.put, List.setIfInBounds_toArray, List.set_cons_zero, List.set_cons_succ]
          refine wT (i := 16) (v := ?_) (⟨fun _ => rfl, Eq.trans⟩) (some 132) rfl (fun w' hw' => ?_) ?_
          rotate_left
          · go_simp; with_reducible rfl
          simp only [Act.put, List.setIfInBounds_toArray, List.set_cons_zero, List.set_cons_succ]
          refine wT (i := 17) (v := ?_) (⟨fun _ => rfl, Eq.trans⟩) (some 133) rfl (fun w' hw' => ?_) ?_
          rotate_left
          · go_simp; with_reducible rfl
          simp only [Act.put, List.setIfInBounds_toArray, List.set_cons_zero, List.set_cons_succ]
          refine wpR_skip (i := 18) (⟨fun _ => rfl, Eq.trans⟩) (some 134) rfl (by kernel_rfl) (by kernel_rfl) (by kernel_rfl) (by kernel_rfl) (by kernel_rfl) (fun _ _ _ h => h) (by kernel_rfl) ?_
          simp only [Act.put, List.setIfInBounds_toArray, List.set_cons_zero, List.set_cons_succ]
          refine wpR_skip (i := 19) (⟨fun _ => rfl, Eq.trans⟩) (some 135) rfl (by kernel_rfl) (by kernel_rfl) (by kernel_rfl) (by kernel_rfl) (by kernel_rfl) (fun _ _ _ h => h) (by kernel_rfl) ?_
          simp only [Act.put, List.setIfInBounds_toArray, List.set_cons_zero, List.set_cons_succ]
          refine wpR_skip (i := 20) (⟨fun _ => rfl, Eq.trans⟩) (some 136) rfl (by kernel_rfl) (by kernel_rfl) (by kernel_rfl) (by kernel_rfl) (by kernel_rfl) (fun _ _ _ h => h) (by kernel_rfl) ?_
          simp only [Act.put, List.setIfInBounds_toArray, List.set_cons_zero, List.set_cons_succ]
          refine wpR_skip (i := 21) (⟨fun _ => rfl, Eq.trans⟩) (some 137) rfl (by kernel_rfl) (by kernel_rfl) (by kernel_rfl) (by kernel_rfl) (by kernel_rfl) (fun _ _ _ h => h) (by kernel_rfl) ?_
          simp only [Act.put, List.setIfInBounds_toArray, List.set_cons_zero, List.set_cons_succ]
          refine wpR_skip (i := 22) (⟨fun _ => rfl, Eq.trans⟩) (some 138) rfl (by kernel_rfl) (by kernel_rfl) (by kernel_rfl) (by kernel_rfl) (by kernel_rfl) (fun _ _ _ h => h) (by kernel_rfl) ?_
          simp only [Act.put, List.setIfInBounds_toArray, List.set_cons_zero, List.set_cons_succ]
          refine wpR_skip (i := 23) (⟨fun _ => rfl, Eq.trans⟩) (some 139) rfl (by kernel_rfl) (by kernel_rfl) (by kernel_rfl) (by kernel_rfl) (by kernel_rfl) (fun _ _ _ h => h) (by kernel_rfl) ?_
          simp only [Act.put, List.setIfInBounds_toArray, List.set_cons_zero, List.set_cons_succ]
          refine wpR_skip (i := 24) (⟨fun _ => rfl, Eq.trans⟩) (some 140) rfl (by kernel_rfl) (by kernel_rfl) (by kernel_rfl) (by kernel_rfl) (by kernel_rfl) (fun _ _ _ h => h) (by kernel_rfl) ?_
          simp only [Act.put, List.setIfInBounds_toArray, List.set_cons_zero, List.set_cons_succ]
          refine wT (i := 25) (v := ?_) (⟨fun _ => rfl, Eq.trans⟩) (some 141) rfl (fun w' hw' => ?_) ?_
          rotate_left
          · go_simp; with_reducible rfl
          simp only [Act.put, List.setIfInBounds_toArray, List.set_cons_zero, List.set_cons_succ]
          refine wpR_done (by kernel_rfl) ?_ _
          go_wp2_with fail
          go_ret
          exact ⟨rfl, hsm.out⟩
        | true =>
          rw [hko] at hnm
          by_cases ig1 : ng < 1
          · obtain rfl : rc = (12, c) := by rw [← hrc, if_neg (by rintro ⟨-, -, h2⟩; exact absurd ((hnd.out _ hko).mp h2).2.1 (by omega)), if_neg (by rintro ⟨h2, -⟩; omega)]
            clear hrc
            replace hm := Lib.hid hm
            replace hko := Lib.hid hko
            have ig3 : ¬ (1 ≤ ng) := by omega
            refine wpR_region (Eq) 9999 (by kernel_rfl) ?_
            (rw [← hwe]; replace hwe := Lib.hid hwe)
            refine wT (i := 0) (v := ?_) (⟨fun _ => rfl, Eq.trans⟩) (some 116) rfl (fun w' hw' => ?_) ?_
            rotate_left
            · go_simp; with_reducible rfl
            simp only [Act.put, List.setIfInBounds_toArray, List.set_cons_zero, List.set_cons_succ]
            refine wT (i := 1) (v := ?_) (⟨fun _ => rfl, Eq.trans⟩) (some 117) rfl (fun w' hw' => ?_) ?_
            rotate_left
            · subst hw'; go_simp; with_reducible rfl
            simp only [Act.put, List.setIfInBounds_toArray, List.set_cons_zero, List.set_cons_succ]
            refine wT (i := 2) (v := ?_) (⟨fun _ => rfl, Eq.trans⟩) (some 118) rfl (fun w' hw' => ?_) ?_
            rotate_left
            · go_simp; with_reducible rfl
            simp only [Act.put, List.setIfInBounds_toArray, List.set_cons_zero, List.set_cons_succ]
            refine wT (i := 3) (v := ?_) (⟨fun _ => rfl, Eq.trans⟩) (some 119) rfl (fun w' hw' => ?_) ?_
            rotate_left
            · go_simp; with_reducible rfl
            simp only [Act.put, List.setIfInBounds_toArray, List.set_cons_zero, List.set_cons_succ]
            refine wT (i := 4) (v := ?_) (⟨fun _ => rfl, Eq.trans⟩) (some 120) rfl (fun w' hw' => ?_) ?_
            rotate_left
            · go_simp; with_reducible rfl
            simp only [Act.put, List.setIfInBounds_toArray, List.set_cons_zero, List.set_cons_succ]
            refine wT (i := 5) (v := ?_) (⟨fun _ => rfl, Eq.trans⟩) (some 121) rfl (fun w' hw' => ?_) ?_
            rotate_left
            · go_simp; with_reducible rfl
            simp only [Act.put, List.setIfInBounds_toArray, List.set_cons_zero, List.set_cons_succ]
            refine wT (i := 6) (v := ?_) (⟨fun _ => rfl, Eq.trans⟩) (some 122) rfl (fun w' hw' => ?_) ?_
            rotate_left
            · go_simp; with_reducible rfl
            simp only [Act.put, List.setIfInBounds_toArray, List.set_cons_zero, List.set_cons_succ]
            refine wT (i := 7) (v := ?_) (⟨fun _ => rfl, Eq.trans⟩) (some 123) rfl (fun w' hw' => ?_) ?_
            rotate_left
            · go_simp; with_reducible rfl
            simp only [Act.put, List.setIfInBounds_toArray, List.set_cons_zero, List.set_cons_succ]
            refine wT (i := 8) (v := ?_) (⟨fun _ => rfl, Eq.trans⟩) (some 124) rfl (fun w' hw' => ?_) ?_
            rotate_left
            · go_simp; with_reducible rfl
            simp only [Act.put, List.setIfInBounds_toArray, List.set_cons_zero, List.set_cons_succ]
            refine wT (i := 9) (v := ?_) (⟨fun _ => rfl, Eq.trans⟩) (some 125) rfl (fun w' hw' => ?_) ?_
            rotate_left
            · subst hw'; go_simp; with_reducible rfl
            simp only [Act.put, List.setIfInBounds_toArray, List.set_cons_zero, List.set_cons_succ]
            refine wpR_one 10 rfl (by kernel_rfl) (by kernel_rfl) (fun K hK => ?_)
            go_simp
            refine (hnm.out _).mono ?_
            rintro e w' ⟨rfl, hww⟩
            rw [hww]
            clear hww w'
            refine hK _ _ (fun _ => rfl) ?_
            clear hK K
            clear hnm
            try simp only [Act.put, List.setIfInBounds_toArray, List.set_cons_zero, List.set_cons_succ]
            refine wT (i := 11) (v := ?_) (⟨fun _ => rfl, Eq.trans⟩) (some 127) rfl (fun w' hw' => ?_) ?_
            rotate_left
            · go_simp; with_reducible rfl
            simp only [Act.put, List.setIfInBounds_toArray, List.set_cons_zero, List.set_cons_succ]
            refine wT (i := 12) (v := ?_) (⟨fun _ => rfl, Eq.trans⟩) (some 128) rfl (fun w' hw' => ?_) ?_
            rotate_left
            · go_simp; with_reducible rfl
            simp only [Act.put, List.setIfInBounds_toArray, List.set_cons_zero, List.set_cons_succ]
            refine wT (i := 13) (v := ?_) (⟨fun _ => rfl, Eq.trans⟩) (some 129) rfl (fun w' hw' => ?_) ?_
            rotate_left
            · go_simp; with_reducible rfl
            simp only [Act.put, List.setIfInBounds_toArray, List.set_cons_zero, List.set_cons_succ]
            refine wT (i := 14) (v := ?_) (⟨fun _ => rfl, Eq.trans⟩) (some 130) rfl (fun w' hw' => ?_) ?_
            rotate_left
            · subst hw'; go_simp; with_reducible rfl
            simp only [Act.put, List.setIfInBounds_toArray, List.set_cons_zero, List.set_cons_succ]
            refine wT (i := 15) (v := ?_) (⟨fun _ => rfl, Eq.trans⟩) (some 131) rfl (fun w' hw' => ?_) ?_
            rotate_left
            · go_simp; with_reducible rfl
            simp only [Act.put, List.setIfInBounds_toArray, List.set_cons_zero, List.set_cons_succ]
            refine wT (i := 16) (v := ?_) (⟨fun _ => rfl, Eq.trans⟩) (some 132) rfl (fun w' hw' => ?_) ?_
            rotate_left
            · go_simp; with_reducible rfl
            simp only [Act.put, List.setIfInBounds_toArray, List.set_cons_zero, List.set_cons_succ]
            refine wT (i := 17) (v := ?_) (⟨fun _ => rfl, Eq.trans⟩) (some 133) rfl (fun w' hw' => ?_) ?_
            rotate_left
            · go_simp; with_reducible rfl
            simp only [Act.put, List.setIfInBounds_toArray, List.set_cons_zero, List.set_cons_succ]
            refine wpR_skip (i := 18) (⟨fun _ => rfl, Eq.trans⟩) (some 134) rfl (by kernel_rfl) (by kernel_rfl) (by kernel_rfl) (by kernel_rfl) (by kernel_rfl) (fun _ _ _ h => h) (by kernel_rfl) ?_
            simp only [Act.put, List.setIfInBounds_toArray, List.set_cons_zero, List.set_cons_succ]
            refine wpR_skip (i := 19) (⟨fun _ => rfl, Eq.trans⟩) (some 135) rfl (by kernel_rfl) (by kernel_rfl) (by kernel_rfl) (by kernel_rfl) (by kernel_rfl) (fun _ _ _ h => h) (by kernel_rfl) ?_
            simp only [Act.put, List.setIfInBounds_toArray, List.set_cons_zero, List.set_cons_succ]
            refine wpR_skip (i := 20) (⟨fun _ => rfl, Eq.trans⟩) (some 136) rfl (by kernel_rfl) (by kernel_rfl) (by kernel_rfl) (by kernel_rfl) (by kernel_rfl) (fun _ _ _ h => h) (by kernel_rfl) ?_
            simp only [Act.put, List.setIfInBounds_toArray, List.set_cons_zero, List.set_cons_succ]
            refine wpR_skip (i := 21) (⟨fun _ => rfl, Eq.trans⟩) (some 137) rfl (by kernel_rfl) (by kernel_rfl) (by kernel_rfl) (by kernel_rfl) (by kernel_rfl) (fun _ _ _ h => h) (by kernel_rfl) ?_
            simp only [Act.put, List.setIfInBounds_toArray, List.set_cons_zero, List.set_cons_succ]
            refine wpR_skip (i := 22) (⟨fun _ => rfl, Eq.trans⟩) (some 138) rfl (by kernel_rfl) (by kernel_rfl) (by kernel_rfl) (by kernel_rfl) (by kernel_rfl) (fun _ _ _ h => h) (by kernel_rfl) ?_
            simp only [Act.put, List.setIfInBounds_toArray, List.set_cons_zero, List.set_cons_succ]
            refine wpR_skip (i := 23) (⟨fun _ => rfl, Eq.trans⟩) (some 139) rfl (by kernel_rfl) (by kernel_rfl) (by kernel_rfl) (by kernel_rfl) (by kernel_rfl) (fun _ _ _ h => h) (by kernel_rfl) ?_
            simp only [Act.put, List.setIfInBounds_toArray, List.set_cons_zero, List.set_cons_succ]
            refine wpR_skip (i := 24) (⟨fun _ => rfl, Eq.trans⟩) (some 140) rfl (by kernel_rfl) (by kernel_rfl) (by kernel_rfl) (by kernel_rfl) (by kernel_rfl) (fun _ _ _ h => h) (by kernel_rfl) ?_
            simp only [Act.put, List.setIfInBounds_toArray, List.set_cons_zero, List.set_cons_succ]
            refine wT (i := 25) (v := ?_) (⟨fun _ => rfl, Eq.trans⟩) (some 141) rfl (fun w' hw' => ?_) ?_
            rotate_left
            · go_simp; with_reducible rfl
            simp only [Act.put, List.setIfInBounds_toArray, List.set_cons_zero, List.set_cons_succ]
            refine wpR_done (by kernel_rfl) ?_ _
            go_wp2_with fail
            go_ret
            exact ⟨rfl, hsm.out⟩
          have ig3 : 1 ≤ ng := by omega
          by_cases ig2 : G < ng
          · obtain rfl : rc = (12, c) := by rw [← hrc, if_neg (by rintro ⟨-, -, h2⟩; exact absurd ((hnd.out _ hko).mp h2).2.2 (by omega)), if_neg (by rintro ⟨h2, -⟩; omega)]
            clear hrc
            replace hm := Lib.hid hm
            replace hko := Lib.hid hko
            have ig4 : ¬ (ng ≤ G) := by omega
            refine wpR_region (Eq) 9999 (by kernel_rfl) ?_
            (rw [← hwe]; replace hwe := Lib.hid hwe)
            refine wT (i := 0) (v := ?_) (⟨fun _ => rfl, Eq.trans⟩) (some 116) rfl (fun w' hw' => ?_) ?_
            rotate_left
            · go_simp; with_reducible rfl
            simp only [Act.put, List.setIfInBounds_toArray, List.set_cons_zero, List.set_cons_succ]
            refine wT (i := 1) (v := ?_) (⟨fun _ => rfl, Eq.trans⟩) (some 117) rfl (fun w' hw' => ?_) ?_
            rotate_left
            · subst hw'; go_simp; with_reducible rfl
            simp only [Act.put, List.setIfInBounds_toArray, List.set_cons_zero, List.set_cons_succ]
            refine wT (i := 2) (v := ?_) (⟨fun _ => rfl, Eq.trans⟩) (some 118) rfl (fun w' hw' => ?_) ?_
            rotate_left
            · go_simp; with_reducible rfl
            simp only [Act.put, List.setIfInBounds_toArray, List.set_cons_zero, List.set_cons_succ]
            refine wT (i := 3) (v := ?_) (⟨fun _ => rfl, Eq.trans⟩) (some 119) rfl (fun w' hw' => ?_) ?_
            rotate_left
            · go_simp; with_reducible rfl
            simp only [Act.put, List.setIfInBounds_toArray, List.set_cons_zero, List.set_cons_succ]
            refine wT (i := 4) (v := ?_) (⟨fun _ => rfl, Eq.trans⟩) (some 120) rfl (fun w' hw' => ?_) ?_
            rotate_left
            · go_simp; with_reducible rfl
            simp only [Act.put, List.setIfInBounds_toArray, List.set_cons_zero, List.set_cons_succ]
            refine wT (i := 5) (v := ?_) (⟨fun _ => rfl, Eq.trans⟩) (some 121) rfl (fun w' hw' => ?_) ?_
            rotate_left
            · go_simp; with_reducible rfl
            simp only [Act.put, List.setIfInBounds_toArray, List.set_cons_zero, List.set_cons_succ]
            refine wT (i := 6) (v := ?_) (⟨fun _ => rfl, Eq.trans⟩) (some 122) rfl (fun w' hw' => ?_) ?_
            rotate_left
            · go_simp; with_reducible rfl
            simp only [Act.put, List.setIfInBounds_toArray, List.set_cons_zero, List.set_cons_succ]
            refine wT (i := 7) (v := ?_) (⟨fun _ => rfl, Eq.trans⟩) (some 123) rfl (fun w' hw' => ?_) ?_
            rotate_left
            · go_simp; with_reducible rfl
            simp only [Act.put, List.setIfInBounds_toArray, List.set_cons_zero, List.set_cons_succ]
            refine wT (i := 8) (v := ?_) (⟨fun _ => rfl, Eq.trans⟩) (some 124) rfl (fun w' hw' => ?_) ?_
            rotate_left
            · go_simp; with_reducible rfl
            simp only [Act.put, List.setIfInBounds_toArray, List.set_cons_zero, List.set_cons_succ]
            refine wT (i := 9) (v := ?_) (⟨fun _ => rfl, Eq.trans⟩) (some 125) rfl (fun w' hw' => ?_) ?_
            rotate_left
            · subst hw'; go_simp; with_reducible rfl
            simp only [Act.put, List.setIfInBounds_toArray, List.set_cons_zero, List.set_cons_succ]
            refine wpR_one 10 rfl (by kernel_rfl) (by kernel_rfl) (fun K hK => ?_)
            go_simp
            refine (hnm.out _).mono ?_
            rintro e w' ⟨rfl, hww⟩
            rw [hww]
            clear hww w'
            refine hK _ _ (fun _ => rfl) ?_
            clear hK K
            clear hnm
            try simp only [Act.put, List.setIfInBounds_toArray, List.set_cons_zero, List.set_cons_succ]
            refine wT (i := 11) (v := ?_) (⟨fun _ => rfl, Eq.trans⟩) (some 127) rfl (fun w' hw' => ?_) ?_
            rotate_left
            · go_simp; with_reducible rfl
            simp only [Act.put, List.setIfInBounds_toArray, List.set_cons_zero, List.set_cons_succ]
            refine wT (i := 12) (v := ?_) (⟨fun _ => rfl, Eq.trans⟩) (some 128) rfl (fun w' hw' => ?_) ?_
            rotate_left
            · go_simp; with_reducible rfl
            simp only [Act.put, List.setIfInBounds_toArray, List.set_cons_zero, List.set_cons_succ]
            refine wT (i := 13) (v := ?_) (⟨fun _ => rfl, Eq.trans⟩) (some 129) rfl (fun w' hw' => ?_) ?_
            rotate_left
            · go_simp; with_reducible rfl
            simp only [Act.put, List.setIfInBounds_toArray, List.set_cons_zero, List.set_cons_succ]
            refine wT (i := 14) (v := ?_) (⟨fun _ => rfl, Eq.trans⟩) (some 130) rfl (fun w' hw' => ?_) ?_
            rotate_left
            · subst hw'; go_simp; with_reducible rfl
            simp only [Act.put, List.setIfInBounds_toArray, List.set_cons_zero, List.set_cons_succ]
            refine wT (i := 15) (v := ?_) (⟨fun _ => rfl, Eq.trans⟩) (some 131) rfl (fun w' hw' => ?_) ?_
            rotate_left
            · go_simp; with_reducible rfl
            simp only [Act.put, List.setIfInBounds_toArray, List.set_cons_zero, List.set_cons_succ]
            refine wT (i := 16) (v := ?_) (⟨fun _ => rfl, Eq.trans⟩) (some 132) rfl (fun w' hw' => ?_) ?_
            rotate_left
            · go_simp; with_reducible rfl
            simp only [Act.put, List.setIfInBounds_toArray, List.set_cons_zero, List.set_cons_succ]
            refine wT (i := 17) (v := ?_) (⟨fun _ => rfl, Eq.trans⟩) (some 133) rfl (fun w' hw' => ?_) ?_
            rotate_left
            · go_simp; with_reducible rfl
            simp only [Act.put, List.setIfInBounds_toArray, List.set_cons_zero, List.set_cons_succ]
            refine wT (i := 18) (v := ?_) (⟨fun _ => rfl, Eq.trans⟩) (some 134) rfl (fun w' hw' => ?_) ?_
            rotate_left
            · go_simp; with_reducible rfl
            simp only [Act.put, List.setIfInBounds_toArray, List.set_cons_zero, List.set_cons_succ]
            refine wT (i := 19) (v := ?_) (⟨fun _ => rfl, Eq.trans⟩) (some 135) rfl (fun w' hw' => ?_) ?_
            rotate_left
            · subst hw'; go_simp; with_reducible rfl
            simp only [Act.put, List.setIfInBounds_toArray, List.set_cons_zero, List.set_cons_succ]
            refine wT (i := 20) (v := ?_) (⟨fun _ => rfl, Eq.trans⟩) (some 136) rfl (fun w' hw' => ?_) ?_
            rotate_left
            · go_simp; with_reducible rfl
            simp only [Act.put, List.setIfInBounds_toArray, List.set_cons_zero, List.set_cons_succ]
            refine wT (i := 21) (v := ?_) (⟨fun _ => rfl, Eq.trans⟩) (some 137) rfl (fun w' hw' => ?_) ?_
            rotate_left
            · go_simp; with_reducible rfl
            simp only [Act.put, List.setIfInBounds_toArray, List.set_cons_zero, List.set_cons_succ]
            refine wT (i := 22) (v := ?_) (⟨fun _ => rfl, Eq.trans⟩) (some 138) rfl (fun w' hw' => ?_) ?_
            rotate_left
            · go_simp; with_reducible rfl
            simp only [Act.put, List.setIfInBounds_toArray, List.set_cons_zero, List.set_cons_succ]
            refine wT (i := 23) (v := ?_) (⟨fun _ => rfl, Eq.trans⟩) (some 139) rfl (fun w' hw' => ?_) ?_
            rotate_left
            · subst hw'; go_simp; with_reducible rfl
            simp only [Act.put, List.setIfInBounds_toArray, List.set_cons_zero, List.set_cons_succ]
            refine wT (i := 24) (v := ?_) (⟨fun _ => rfl, Eq.trans⟩) (some 140) rfl (fun w' hw' => ?_) ?_
            rotate_left
            · go_simp; with_reducible rfl
            simp only [Act.put, List.setIfInBounds_toArray, List.set_cons_zero, List.set_cons_succ]
            refine wT (i := 25) (v := ?_) (⟨fun _ => rfl, Eq.trans⟩) (some 141) rfl (fun w' hw' => ?_) ?_
            rotate_left
            · go_simp; with_reducible rfl
            simp only [Act.put, List.setIfInBounds_toArray, List.set_cons_zero, List.set_cons_succ]
            refine wpR_done (by kernel_rfl) ?_ _
            go_wp2_with fail
            go_ret
            exact ⟨rfl, hsm.out⟩
          have ig4 : ng ≤ G := by omega
          rw [if_pos ⟨rfl, hm, (hnd.out _ hko).mpr ⟨rfl, ig3, ig4⟩⟩] at hrc
          replace hm := Lib.hid hm
          replace hko := Lib.hid hko
          refine wpR_region (Eq) 9999 (by kernel_rfl) ?_
          (rw [← hwe]; replace hwe := Lib.hid hwe)
          refine wT (i := 0) (v := ?_) (⟨fun _ => rfl, Eq.trans⟩) (some 116) rfl (fun w' hw' => ?_) ?_
          rotate_left
          · go_simp; with_reducible rfl
          simp only [Act.put, List.setIfInBounds_toArray, List.set_cons_zero, List.set_cons_succ]
          refine wT (i := 1) (v := ?_) (⟨fun _ => rfl, Eq.trans⟩) (some 117) rfl (fun w' hw' => ?_) ?_
          rotate_left
          · subst hw'; go_simp; with_reducible rfl
          simp only [Act.put, List.setIfInBounds_toArray, List.set_cons_zero, List.set_cons_succ]
          refine wT (i := 2) (v := ?_) (⟨fun _ => rfl, Eq.trans⟩) (some 118) rfl (fun w' hw' => ?_) ?_
          rotate_left
          · go_simp; with_reducible rfl
          simp only [Act.put, List.setIfInBounds_toArray, List.set_cons_zero, List.set_cons_succ]
          refine wT (i := 3) (v := ?_) (⟨fun _ => rfl, Eq.trans⟩) (some 119) rfl (fun w' hw' => ?_) ?_
          rotate_left
          · go_simp; with_reducible rfl
          simp only [Act.put, List.setIfInBounds_toArray, List.set_cons_zero, List.set_cons_succ]
          refine wT (i := 4) (v := ?_) (⟨fun _ => rfl, Eq.trans⟩) (some 120) rfl (fun w' hw' => ?_) ?_
          rotate_left
          · go_simp; with_reducible rfl
          simp only [Act.put, List.setIfInBounds_toArray, List.set_cons_zero, List.set_cons_succ]
          refine wT (i := 5) (v := ?_) (⟨fun _ => rfl, Eq.trans⟩) (some 121) rfl (fun w' hw' => ?_) ?_
          rotate_left
          · go_simp; with_reducible rfl
          simp only [Act.put, List.setIfInBounds_toArray, List.set_cons_zero, List.set_cons_succ]
          refine wT (i := 6) (v := ?_) (⟨fun _ => rfl, Eq.trans⟩) (some 122) rfl (fun w' hw' => ?_) ?_
          rotate_left
          · go_simp; with_reducible rfl
          simp only [Act.put, List.setIfInBounds_toArray, List.set_cons_zero, List.set_cons_succ]
          refine wT (i := 7) (v := ?_) (⟨fun _ => rfl, Eq.trans⟩) (some 123) rfl (fun w' hw' => ?_) ?_
          rotate_left
          · go_simp; with_reducible rfl
          simp only [Act.put, List.setIfInBounds_toArray, List.set_cons_zero, List.set_cons_succ]
          refine wT (i := 8) (v := ?_) (⟨fun _ => rfl, Eq.trans⟩) (some 124) rfl (fun w' hw' => ?_) ?_
          rotate_left
          · go_simp; with_reducible rfl
          simp only [Act.put, List.setIfInBounds_toArray, List.set_cons_zero, List.set_cons_succ]
          refine wT (i := 9) (v := ?_) (⟨fun _ => rfl, Eq.trans⟩) (some 125) rfl (fun w' hw' => ?_) ?_
          rotate_left
          · subst hw'; go_simp; with_reducible rfl
          simp only [Act.put, List.setIfInBounds_toArray, List.set_cons_zero, List.set_cons_succ]
          refine wpR_one 10 rfl (by kernel_rfl) (by kernel_rfl) (fun K hK => ?_)
          go_simp
          refine (hnm.out _).mono ?_
          rintro e w' ⟨rfl, hww⟩
          rw [hww]
          clear hww w'
          refine hK _ _ (fun _ => rfl) ?_
          clear hK K
          clear hnm
          try simp only [Act.put, List.setIfInBounds_toArray, List.set_cons_zero, List.set_cons_succ]
          refine wT (i := 11) (v := ?_) (⟨fun _ => rfl, Eq.trans⟩) (some 127) rfl (fun w' hw' => ?_) ?_
          rotate_left
          · go_simp; with_reducible rfl
          simp only [Act.put, List.setIfInBounds_toArray, List.set_cons_zero, List.set_cons_succ]
          refine wT (i := 12) (v := ?_) (⟨fun _ => rfl, Eq.trans⟩) (some 128) rfl (fun w' hw' => ?_) ?_
          rotate_left
          · go_simp; with_reducible rfl
          simp only [Act.put, List.setIfInBounds_toArray, List.set_cons_zero, List.set_cons_succ]
          refine wT (i := 13) (v := ?_) (⟨fun _ => rfl, Eq.trans⟩) (some 129) rfl (fun w' hw' => ?_) ?_
          rotate_left
          · go_simp; with_reducible rfl
          simp only [Act.put, List.setIfInBounds_toArray, List.set_cons_zero, List.set_cons_succ]
          refine wT (i := 14) (v := ?_) (⟨fun _ => rfl, Eq.trans⟩) (some 130) rfl (fun w' hw' => ?_) ?_
          rotate_left
          · subst hw'; go_simp; with_reducible rfl
          simp only [Act.put, List.setIfInBounds_toArray, List.set_cons_zero, List.set_cons_succ]
          refine wT (i := 15) (v := ?_) (⟨fun _ => rfl, Eq.trans⟩) (some 131) rfl (fun w' hw' => ?_) ?_
          rotate_left
          · go_simp; with_reducible rfl
          simp only [Act.put, List.setIfInBounds_toArray, List.set_cons_zero, List.set_cons_succ]
          refine wT (i := 16) (v := ?_) (⟨fun _ => rfl, Eq.trans⟩) (some 132) rfl (fun w' hw' => ?_) ?_
          rotate_left
          · go_simp; with_reducible rfl
          simp only [Act.put, List.setIfInBounds_toArray, List.set_cons_zero, List.set_cons_succ]
          refine wT (i := 17) (v := ?_) (⟨fun _ => rfl, Eq.trans⟩) (some 133) rfl (fun w' hw' => ?_) ?_
          rotate_left
          · go_simp; with_reducible rfl
          simp only [Act.put, List.setIfInBounds_toArray, List.set_cons_zero, List.set_cons_succ]
          refine wT (i := 18) (v := ?_) (⟨fun _ => rfl, Eq.trans⟩) (some 134) rfl (fun w' hw' => ?_) ?_
          rotate_left
          · go_simp; with_reducible rfl
          simp only [Act.put, List.setIfInBounds_toArray, List.set_cons_zero, List.set_cons_succ]
          refine wT (i := 19) (v := ?_) (⟨fun _ => rfl, Eq.trans⟩) (some 135) rfl (fun w' hw' => ?_) ?_
          rotate_left
          · subst hw'; go_simp; with_reducible rfl
          simp only [Act.put, List.setIfInBounds_toArray, List.set_cons_zero, List.set_cons_succ]
          refine wT (i := 20) (v := ?_) (⟨fun _ => rfl, Eq.trans⟩) (some 136) rfl (fun w' hw' => ?_) ?_
          rotate_left
          · go_simp; with_reducible rfl
          simp only [Act.put, List.setIfInBounds_toArray, List.set_cons_zero, List.set_cons_succ]
          refine wT (i := 21) (v := ?_) (⟨fun _ => rfl, Eq.trans⟩) (some 137) rfl (fun w' hw' => ?_) ?_
          rotate_left
          · go_simp; with_reducible rfl
          simp only [Act.put, List.setIfInBounds_toArray, List.set_cons_zero, List.set_cons_succ]
          refine wT (i := 22) (v := ?_) (⟨fun _ => rfl, Eq.trans⟩) (some 138) rfl (fun w' hw' => ?_) ?_
          rotate_left
          · go_simp; with_reducible rfl
          simp only [Act.put, List.setIfInBounds_toArray, List.set_cons_zero, List.set_cons_succ]
          refine wT (i := 23) (v := ?_) (⟨fun _ => rfl, Eq.trans⟩) (some 139) rfl (fun w' hw' => ?_) ?_
          rotate_left
          · subst hw'; go_simp; with_reducible rfl
          simp only [Act.put, List.setIfInBounds_toArray, List.set_cons_zero, List.set_cons_succ]
          refine wT (i := 24) (v := ?_) (⟨fun _ => rfl, Eq.trans⟩) (some 140) rfl (fun w' hw' => ?_) ?_
          rotate_left
          · go_simp; with_reducible rfl
          simp only [Act.put, List.setIfInBounds_toArray, List.set_cons_zero, List.set_cons_succ]
          refine wT (i := 25) (v := ?_) (⟨fun _ => rfl, Eq.trans⟩) (some 141) rfl (fun w' hw' => ?_) ?_
          rotate_left
          · go_simp; with_reducible rfl
          simp only [Act.put, List.setIfInBounds_toArray, List.set_cons_zero, List.set_cons_succ]
          refine wpR_done (by kernel_rfl) ?_ _
          clear d1 d2 d5 d6
          go_upto_region 25 with (fail)
          obtain ⟨wd, hwd⟩ : ∃ wd, wd = we.drew := ⟨_, rfl⟩
          have hgd : Gr we wd := by rw [hwd]; exact (Below.refl _ _).drew
          have hcd := Lib.hid (hce.out.gr hgd)
          have hbd := Lib.hid (blk_below hbe.out hgd)
          obtain ⟨B2, hB2⟩ : ∃ b, wd.heap.size = b := ⟨_, rfl⟩
          have hgB : g < B2 := by rw [← hB2]; exact blk_lt hcd.out.blk
          have hqd : Hid (Below B2 wd wd) := Lib.hid (Below.refl _ _)
          have hzd : Hid (B2 ≤ wd.heap.size) := Lib.hid (by rw [hB2]; exact Nat.le_refl _)
          have hlB : Hid (lo ≤ B2) := Lib.hid (by have := hcd.out.lg; omega)
          have hgBB : Hid (∀ q, Below B2 wd q → Gr we q) := Lib.hid (fun q h1 => Gr.trans hgd (by unfold Gr; rw [hB2]; exact h1))
          replace hgd := Lib.hid hgd
          replace hB2 := Lib.hid hB2
          have hRt : Hid (Reads wd B2 2 AT nT (flatT c.T)) := Lib.hid (by have := hcd.out.ts; rw [hvT.out, hnT.out] at this; have h2 := Reads.of_own this; rw [hB2.out] at h2; exact h2)
          have hLl : Hid (c.T.length ≤ 1000) := Lib.hid (by have := hhx.out; omega)
          refine wpR_region (Below B2) 16 (by kernel_rfl) ?_
          (rw [← hwd]; replace hwd := Lib.hid hwd)
          refine wT (i := 0) (v := ?_) (⟨fun x => Below.refl _ x, fun h1 h2 => h1.trans h2⟩) (some 142) rfl (fun w' hw' => ?_) ?_
          rotate_left
          · go_simp; with_reducible rfl
          simp only [Act.put, List.setIfInBounds_toArray, List.set_cons_zero, List.set_cons_succ]
          refine wT (i := 2) (v := ?_) (⟨fun x => Below.refl _ x, fun h1 h2 => h1.trans h2⟩) (some 144) rfl (fun w' hw' => ?_) ?_
          rotate_left
          · go_simp; with_reducible rfl
          simp only [Act.put, List.setIfInBounds_toArray, List.set_cons_zero, List.set_cons_succ]
          refine wT (i := 3) (v := ?_) (⟨fun x => Below.refl _ x, fun h1 h2 => h1.trans h2⟩) (some 145) rfl (fun w' hw' => ?_) ?_
          rotate_left
          · go_simp; with_reducible rfl
          simp only [Act.put, List.setIfInBounds_toArray, List.set_cons_zero, List.set_cons_succ]
          refine wT (i := 4) (v := ?_) (⟨fun x => Below.refl _ x, fun h1 h2 => h1.trans h2⟩) (some 146) rfl (fun w' hw' => ?_) ?_
          rotate_left
          · go_simp; with_reducible rfl
          simp only [Act.put, List.setIfInBounds_toArray, List.set_cons_zero, List.set_cons_succ]
          refine wT (i := 5) (v := ?_) (⟨fun x => Below.refl _ x, fun h1 h2 => h1.trans h2⟩) (some 147) rfl (fun w' hw' => ?_) ?_
          rotate_left
          · have q := blk_cell (j := 3) ((hw'.block g hgB).trans hcd.out.blk) rfl; rw [hvT.out] at q; go_simp; with_reducible rfl
          simp only [Act.put, List.setIfInBounds_toArray, List.set_cons_zero, List.set_cons_succ]
          refine wT (i := 7) (v := ?_) (⟨fun x => Below.refl _ x, fun h1 h2 => h1.trans h2⟩) (some 149) rfl (fun w' hw' => ?_) ?_
          rotate_left
          · go_simp; with_reducible rfl
          simp only [Act.put, List.setIfInBounds_toArray, List.set_cons_zero, List.set_cons_succ]
          refine wT (i := 8) (v := ?_) (⟨fun x => Below.refl _ x, fun h1 h2 => h1.trans h2⟩) (some 150) rfl (fun w' hw' => ?_) ?_
          rotate_left
          · have q1 := blk_cell (j := 1) ((hw'.block N (by rw [← hB2.out]; exact blk_lt hbd.out)).trans hbd.out) rfl; go_simp; with_reducible rfl
          simp only [Act.put, List.setIfInBounds_toArray, List.set_cons_zero, List.set_cons_succ]
          refine wT (i := 9) (v := ?_) (⟨fun x => Below.refl _ x, fun h1 h2 => h1.trans h2⟩) (some 151) rfl (fun w' hw' => ?_) ?_
          rotate_left
          · go_simp; with_reducible rfl
          simp only [Act.put, List.setIfInBounds_toArray, List.set_cons_zero, List.set_cons_succ]
          refine wT (i := 10) (v := ?_) (⟨fun x => Below.refl _ x, fun h1 h2 => h1.trans h2⟩) (some 152) rfl (fun w' hw' => ?_) ?_
          rotate_left
          · have q2 := blk_cell (j := 2) ((hw'.block N (by rw [← hB2.out]; exact blk_lt hbd.out)).trans hbd.out) rfl; go_simp; with_reducible rfl
          simp only [Act.put, List.setIfInBounds_toArray, List.set_cons_zero, List.set_cons_succ]
          refine wT (i := 11) (v := ?_) (⟨fun x => Below.refl _ x, fun h1 h2 => h1.trans h2⟩) (some 153) rfl (fun w' hw' => ?_) ?_
          rotate_left
          · go_simp; with_reducible rfl
          simp only [Act.put, List.setIfInBounds_toArray, List.set_cons_zero, List.set_cons_succ]
          refine wpR_two 1 12 rfl rfl (by kernel_rfl) (by kernel_rfl) (by kernel_rfl) (fun K hK => ?_) (fun K hK => ?_)
          · go_simp
            obtain ⟨g0, hg0e⟩ : ∃ g0, wd.heap.size = g0 := ⟨_, rfl⟩
            obtain ⟨V1, hV0⟩ : ∃ W, W = wd.alloc (.cells #[] 63) := ⟨_, rfl⟩
            have hr0 : Below B2 wd V1 := by rw [hV0]; exact (Below.refl _ _).alloc hzd.out _
            have ho0 : Hid (V1.ownsRow lo 63 2 (.slice (some ⟨g0, 0, none⟩) 0 0) ([] : List (By × Int)).length (flatT [])) := Lib.hid (by rw [hV0, ← hg0e]; exact World.ownsRow_made _ #[] 0 (Nat.le_trans hlB.out hzd.out) (by simp [maxLen]) rfl)
            have hgB0 : Hid (B2 ≤ g0) := Lib.hid (by rw [← hg0e]; exact hzd.out)
            have hq1 : Hid (Below B2 wd V1) := Lib.hid (hqd.out.trans hr0)
            have hz1 : Hid (B2 ≤ V1.heap.size) := Lib.hid (Nat.le_trans hzd.out hr0.size)
            rw [← hV0, hg0e]
            replace hV0 := Lib.hid hV0
            replace hg0e := Lib.hid hg0e
            refine hK _ _ (fun _ => hr0) ?_
            clear hK K
            try simp only [Act.put, List.setIfInBounds_toArray, List.set_cons_zero, List.set_cons_succ]
            refine wpR_two 6 12 rfl rfl (by kernel_rfl) (by kernel_rfl) (by kernel_rfl) (fun K hK => ?_) (fun K hK => ?_)
            · refine wp_appM (.tmp 143) (.tmp 147) rfl lo _ [] rfl ho0.out _ _ c.T rfl ((hRt.out.below hq1.out).more (Nat.le_refl _)) (by have := hLl.out; simp; omega) (Nat.le_trans hlB.out hz1.out) ?_
              intro v7 V6 ho7 hgr7 hlc7
              rw [List.nil_append] at ho7
              have hr7 : Below B2 V1 V6 := (Below.refl _ _).grown hgr7 hz1.out (fun j hj => by injection hj with hj; have hj : g0 = j := hj; rw [← hj]; exact hgB0.out)
              have hown7 : Hid (∀ j, v7.ownBlock = some j → B2 ≤ j) := Lib.hid (fun j hj => by rcases hlc7 with e | e; (· have e2 := e.symm.trans hj; injection e2 with e2; have e2 : g0 = j := e2; rw [← e2]; exact hgB0.out); (· have e2 := e.symm.trans hj; injection e2 with e2; rw [← e2]; exact hz1.out))
              replace ho7 := Lib.hid ho7
              have hq6 : Hid (Below B2 wd V6) := Lib.hid (hq1.out.trans hr7)
              have hz6 : Hid (B2 ≤ V6.heap.size) := Lib.hid (Nat.le_trans hz1.out hr7.size)
              refine hK _ _ (fun _ => hr7) ?_
              clear hK K
              clear hgr7 hr7 hlc7
              try simp only [Act.put, List.setIfInBounds_toArray, List.set_cons_zero, List.set_cons_succ]
              refine wpR_one 12 rfl (by kernel_rfl) (by kernel_rfl) (fun K hK => ?_)
              go_simp
              obtain ⟨g9, hg9e⟩ : ∃ g9, V6.heap.size = g9 := ⟨_, rfl⟩
              obtain ⟨V12, hV9⟩ : ∃ W, W = V6.alloc (.cells #[.string (bs ny), .int .i64 ng] 63) := ⟨_, rfl⟩
              have hr9 : Below B2 V6 V12 := by rw [hV9]; exact (Below.refl _ _).alloc hz6.out _
              have hl9 : Hid (V12.heap[g9]? = some (.cells #[.string (bs ny), .int .i64 ng] 63 (0, 0))) := Lib.hid (by rw [hV9, ← hg9e]; exact heap_alloc_new _ _)
              have hq12 : Hid (Below B2 wd V12) := Lib.hid (hq6.out.trans hr9)
              have hz12 : Hid (B2 ≤ V12.heap.size) := Lib.hid (Nat.le_trans hz6.out hr9.size)
              replace ho7 := Lib.hid (row_below ho7.out (show Gr V6 V12 by rw [hV9]; exact Gr.alloc _ _))
              rw [← hV9, hg9e]
              replace hV9 := Lib.hid hV9
              replace hg9e := Lib.hid hg9e
              refine hK _ _ (fun _ => hr9) ?_
              clear hK K
              try simp only [Act.put, List.setIfInBounds_toArray, List.set_cons_zero, List.set_cons_succ]
              refine wpR_one 13 rfl (by kernel_rfl) (by kernel_rfl) (fun K hK => ?_)
              refine wp_appM (.tmp 148) (.tmp 154) rfl lo _ c.T rfl ho7.out _ _ [(ny, ng)] rfl (Reads.blk2 hl9.out) (by have := hLl.out; simp; omega) (Nat.le_trans hlB.out hz12.out) ?_
              intro v8 V13 ho10 hgr10 hlc10
              have hr10 : Below B2 V12 V13 := (Below.refl _ _).grown hgr10 hz12.out hown7.out
              obtain ⟨A10, k10, rfl, -, -⟩ := row_form ho10
              obtain ⟨m10, hm10⟩ : ∃ m, (c.T ++ [(ny, ng)]).length = m := ⟨_, rfl⟩
              replace ho10 := Lib.hid ho10
              rw [hm10]
              have hq13 : Hid (Below B2 wd V13) := Lib.hid (hq12.out.trans hr10)
              have hb10 := Lib.hid ((hq13.out.block g hgB).trans hcd.out.blk)
              refine hK _ _ (fun _ => hr10) ?_
              clear hK K
              clear hgr10 hr10 hlc10
              try simp only [Act.put, List.setIfInBounds_toArray, List.set_cons_zero, List.set_cons_succ]
              refine wU (i := 14) (v := ?_) (⟨fun x => Below.refl _ x, fun h1 h2 => h1.trans h2⟩) (some 156) rfl (fun w' => ?_) ?_
              rotate_left
              · go_simp; with_reducible rfl
              simp only [Act.put, List.setIfInBounds_toArray, List.set_cons_zero, List.set_cons_succ]
              refine wT (i := 15) (v := ?_) (⟨fun x => Below.refl _ x, fun h1 h2 => h1.trans h2⟩) (some 157) rfl (fun w' hw' => ?_) ?_
              rotate_left
              · go_simp; with_reducible rfl
              simp only [Act.put, List.setIfInBounds_toArray, List.set_cons_zero, List.set_cons_succ]
              refine wpR_one 16 rfl (by kernel_rfl) (by kernel_rfl) (fun K hK => ?_)
              have cc3 := blk_cell (j := 3) hb10.out rfl
              have f3 := blk_free hb10.out 3
              go_simp
              refine hK _ _ (fun h => absurd h (by decide)) ?_
              clear hK K
              clear cc3 f3
              skip
              try simp only [Act.put, List.setIfInBounds_toArray, List.set_cons_zero, List.set_cons_succ]
              refine wpR_done (by kernel_rfl) ?_ _
              have hgV : Gr we V13 := hgBB.out _ hq13.out
              have hact : Hid (RcAct lo g y w { c with T := c.T ++ [(ny, ng)] } (V13.setCell ⟨g, 3, none⟩ (.slice A10 m10 k10))) := Lib.hid (hfr.out (RcAct.from_ hge.out ⟨{ y with vT := Value.slice A10 m10 k10 }, Lib.hid ((hce.out.gr hgV).setT (T' := c.T ++ [(ny, ng)]) (v := .slice A10 m10 k10) (by rw [← hm10]; exact ho10.out)), Upd.gr_set hgV (.inl rfl), fun q hq => .inl hq⟩))
              clear hgV hm10
              go_wp2_with fail
              go_ret
              exact ⟨by subst hrc; rfl, by subst hrc; exact hact.out⟩
            · go_simp
              obtain ⟨g9, hg9e⟩ : ∃ g9, V1.heap.size = g9 := ⟨_, rfl⟩
              obtain ⟨V12, hV9⟩ : ∃ W, W = V1.alloc (.cells #[.string (bs ny), .int .i64 ng] 63) := ⟨_, rfl⟩
              have hr9 : Below B2 V1 V12 := by rw [hV9]; exact (Below.refl _ _).alloc hz1.out _
              have hl9 : Hid (V12.heap[g9]? = some (.cells #[.string (bs ny), .int .i64 ng] 63 (0, 0))) := Lib.hid (by rw [hV9, ← hg9e]; exact heap_alloc_new _ _)
              have hq12 : Hid (Below B2 wd V12) := Lib.hid (hq1.out.trans hr9)
              have hz12 : Hid (B2 ≤ V12.heap.size) := Lib.hid (Nat.le_trans hz1.out hr9.size)
              have hne : Hid (g9 ≠ g0) := Lib.hid (by have := (World.ownsRow.lt ho0.out g0 rfl).2; omega)
              replace ho0 := Lib.hid (row_below ho0.out (show Gr V1 V12 by rw [hV9]; exact Gr.alloc _ _))
              rw [← hV9, hg9e]
              replace hV9 := Lib.hid hV9
              replace hg9e := Lib.hid hg9e
              refine hK _ _ (fun _ => hr9) ?_
              clear hK K
              try simp only [Act.put, List.setIfInBounds_toArray, List.set_cons_zero, List.set_cons_succ]
              refine wpR_one 6 rfl (by kernel_rfl) (by kernel_rfl) (fun K hK => ?_)
              refine wp_appM (.tmp 143) (.tmp 147) rfl lo _ [] rfl ho0.out _ _ c.T rfl ((hRt.out.below hq12.out).more (Nat.le_refl _)) (by have := hLl.out; simp; omega) (Nat.le_trans hlB.out hz12.out) ?_
              intro v7 V6 ho7 hgr7 hlc7
              rw [List.nil_append] at ho7
              have hr7 : Below B2 V12 V6 := (Below.refl _ _).grown hgr7 hz12.out (fun j hj => by injection hj with hj; have hj : g0 = j := hj; rw [← hj]; exact hgB0.out)
              have hown7 : Hid (∀ j, v7.ownBlock = some j → B2 ≤ j) := Lib.hid (fun j hj => by rcases hlc7 with e | e; (· have e2 := e.symm.trans hj; injection e2 with e2; have e2 : g0 = j := e2; rw [← e2]; exact hgB0.out); (· have e2 := e.symm.trans hj; injection e2 with e2; rw [← e2]; exact hz12.out))
              replace hl9 := Lib.hid ((hgr7.block g9 (blk_lt hl9.out) (fun e => hne.out (by injection e))).trans hl9.out)
              replace ho7 := Lib.hid ho7
              have hq6 : Hid (Below B2 wd V6) := Lib.hid (hq12.out.trans hr7)
              have hz6 : Hid (B2 ≤ V6.heap.size) := Lib.hid (Nat.le_trans hz12.out hr7.size)
              refine hK _ _ (fun _ => hr7) ?_
              clear hK K
              clear hgr7 hr7 hlc7
              try simp only [Act.put, List.setIfInBounds_toArray, List.set_cons_zero, List.set_cons_succ]
              refine wpR_one 13 rfl (by kernel_rfl) (by kernel_rfl) (fun K hK => ?_)
              refine wp_appM (.tmp 148) (.tmp 154) rfl lo _ c.T rfl ho7.out _ _ [(ny, ng)] rfl (Reads.blk2 hl9.out) (by have := hLl.out; simp; omega) (Nat.le_trans hlB.out hz6.out) ?_
              intro v8 V13 ho10 hgr10 hlc10
              have hr10 : Below B2 V6 V13 := (Below.refl _ _).grown hgr10 hz6.out hown7.out
              obtain ⟨A10, k10, rfl, -, -⟩ := row_form ho10
              obtain ⟨m10, hm10⟩ : ∃ m, (c.T ++ [(ny, ng)]).length = m := ⟨_, rfl⟩
              replace ho10 := Lib.hid ho10
              rw [hm10]
              have hq13 : Hid (Below B2 wd V13) := Lib.hid (hq6.out.trans hr10)
              have hb10 := Lib.hid ((hq13.out.block g hgB).trans hcd.out.blk)
              refine hK _ _ (fun _ => hr10) ?_
              clear hK K
              clear hgr10 hr10 hlc10
              try simp only [Act.put, List.setIfInBounds_toArray, List.set_cons_zero, List.set_cons_succ]
              refine wU (i := 14) (v := ?_) (⟨fun x => Below.refl _ x, fun h1 h2 => h1.trans h2⟩) (some 156) rfl (fun w' => ?_) ?_
              rotate_left
              · go_simp; with_reducible rfl
              simp only [Act.put, List.setIfInBounds_toArray, List.set_cons_zero, List.set_cons_succ]
              refine wT (i := 15) (v := ?_) (⟨fun x => Below.refl _ x, fun h1 h2 => h1.trans h2⟩) (some 157) rfl (fun w' hw' => ?_) ?_
              rotate_left
              · go_simp; with_reducible rfl
              simp only [Act.put, List.setIfInBounds_toArray, List.set_cons_zero, List.set_cons_succ]
              refine wpR_one 16 rfl (by kernel_rfl) (by kernel_rfl) (fun K hK => ?_)
              have cc3 := blk_cell (j := 3) hb10.out rfl
              have f3 := blk_free hb10.out 3
              go_simp
              refine hK _ _ (fun h => absurd h (by decide)) ?_
              clear hK K
              clear cc3 f3
              skip
              try simp only [Act.put, List.setIfInBounds_toArray, List.set_cons_zero, List.set_cons_succ]
              refine wpR_done (by kernel_rfl) ?_ _
              have hgV : Gr we V13 := hgBB.out _ hq13.out
              have hact : Hid (RcAct lo g y w { c with T := c.T ++ [(ny, ng)] } (V13.setCell ⟨g, 3, none⟩ (.slice A10 m10 k10))) := Lib.hid (hfr.out (RcAct.from_ hge.out ⟨{ y with vT := Value.slice A10 m10 k10 }, Lib.hid ((hce.out.gr hgV).setT (T' := c.T ++ [(ny, ng)]) (v := .slice A10 m10 k10) (by rw [← hm10]; exact ho10.out)), Upd.gr_set hgV (.inl rfl), fun q hq => .inl hq⟩))
              clear hgV hm10
              go_wp2_with fail
              go_ret
              exact ⟨by subst hrc; rfl, by subst hrc; exact hact.out⟩
          · go_simp
            obtain ⟨g9, hg9e⟩ : ∃ g9, wd.heap.size = g9 := ⟨_, rfl⟩
            obtain ⟨V12, hV9⟩ : ∃ W, W = wd.alloc (.cells #[.string (bs ny), .int .i64 ng] 63) := ⟨_, rfl⟩
            have hr9 : Below B2 wd V12 := by rw [hV9]; exact (Below.refl _ _).alloc hzd.out _
            have hl9 : Hid (V12.heap[g9]? = some (.cells #[.string (bs ny), .int .i64 ng] 63 (0, 0))) := Lib.hid (by rw [hV9, ← hg9e]; exact heap_alloc_new _ _)
            have hq12 : Hid (Below B2 wd V12) := Lib.hid (hqd.out.trans hr9)
            have hz12 : Hid (B2 ≤ V12.heap.size) := Lib.hid (Nat.le_trans hzd.out hr9.size)
            rw [← hV9, hg9e]
            replace hV9 := Lib.hid hV9
            replace hg9e := Lib.hid hg9e
            refine hK _ _ (fun _ => hr9) ?_
            clear hK K
            try simp only [Act.put, List.setIfInBounds_toArray, List.set_cons_zero, List.set_cons_succ]
            refine wpR_one 1 rfl (by kernel_rfl) (by kernel_rfl) (fun K hK => ?_)
            go_simp
            obtain ⟨g0, hg0e⟩ : ∃ g0, V12.heap.size = g0 := ⟨_, rfl⟩
            obtain ⟨V1, hV0⟩ : ∃ W, W = V12.alloc (.cells #[] 63) := ⟨_, rfl⟩
            have hr0 : Below B2 V12 V1 := by rw [hV0]; exact (Below.refl _ _).alloc hz12.out _
            have ho0 : Hid (V1.ownsRow lo 63 2 (.slice (some ⟨g0, 0, none⟩) 0 0) ([] : List (By × Int)).length (flatT [])) := Lib.hid (by rw [hV0, ← hg0e]; exact World.ownsRow_made _ #[] 0 (Nat.le_trans hlB.out hz12.out) (by simp [maxLen]) rfl)
            have hgB0 : Hid (B2 ≤ g0) := Lib.hid (by rw [← hg0e]; exact hz12.out)
            have hq1 : Hid (Below B2 wd V1) := Lib.hid (hq12.out.trans hr0)
            have hz1 : Hid (B2 ≤ V1.heap.size) := Lib.hid (Nat.le_trans hz12.out hr0.size)
            have hne : Hid (g9 ≠ g0) := Lib.hid (by have := blk_lt hl9.out; omega)
            replace hl9 := Lib.hid (blk_below hl9.out (show Below V12.heap.size V12 V1 by rw [hV0]; exact Gr.alloc _ _))
            rw [← hV0, hg0e]
            replace hV0 := Lib.hid hV0
            replace hg0e := Lib.hid hg0e
            refine hK _ _ (fun _ => hr0) ?_
            clear hK K
            try simp only [Act.put, List.setIfInBounds_toArray, List.set_cons_zero, List.set_cons_succ]
            refine wpR_one 6 rfl (by kernel_rfl) (by kernel_rfl) (fun K hK => ?_)
            refine wp_appM (.tmp 143) (.tmp 147) rfl lo _ [] rfl ho0.out _ _ c.T rfl ((hRt.out.below hq1.out).more (Nat.le_refl _)) (by have := hLl.out; simp; omega) (Nat.le_trans hlB.out hz1.out) ?_
            intro v7 V6 ho7 hgr7 hlc7
            rw [List.nil_append] at ho7
            have hr7 : Below B2 V1 V6 := (Below.refl _ _).grown hgr7 hz1.out (fun j hj => by injection hj with hj; have hj : g0 = j := hj; rw [← hj]; exact hgB0.out)
            have hown7 : Hid (∀ j, v7.ownBlock = some j → B2 ≤ j) := Lib.hid (fun j hj => by rcases hlc7 with e | e; (· have e2 := e.symm.trans hj; injection e2 with e2; have e2 : g0 = j := e2; rw [← e2]; exact hgB0.out); (· have e2 := e.symm.trans hj; injection e2 with e2; rw [← e2]; exact hz1.out))
            replace hl9 := Lib.hid ((hgr7.block g9 (blk_lt hl9.out) (fun e => hne.out (by injection e))).trans hl9.out)
            replace ho7 := Lib.hid ho7
            have hq6 : Hid (Below B2 wd V6) := Lib.hid (hq1.out.trans hr7)
            have hz6 : Hid (B2 ≤ V6.heap.size) := Lib.hid (Nat.le_trans hz1.out hr7.size)
            refine hK _ _ (fun _ => hr7) ?_
            clear hK K
            clear hgr7 hr7 hlc7
            try simp only [Act.put, List.setIfInBounds_toArray, List.set_cons_zero, List.set_cons_succ]
            refine wpR_one 13 rfl (by kernel_rfl) (by kernel_rfl) (fun K hK => ?_)
            refine wp_appM (.tmp 148) (.tmp 154) rfl lo _ c.T rfl ho7.out _ _ [(ny, ng)] rfl (Reads.blk2 hl9.out) (by have := hLl.out; simp; omega) (Nat.le_trans hlB.out hz6.out) ?_
            intro v8 V13 ho10 hgr10 hlc10
            have hr10 : Below B2 V6 V13 := (Below.refl _ _).grown hgr10 hz6.out hown7.out
            obtain ⟨A10, k10, rfl, -, -⟩ := row_form ho10
            obtain ⟨m10, hm10⟩ : ∃ m, (c.T ++ [(ny, ng)]).length = m := ⟨_, rfl⟩
            replace ho10 := Lib.hid ho10
            rw [hm10]
            have hq13 : Hid (Below B2 wd V13) := Lib.hid (hq6.out.trans hr10)
            have hb10 := Lib.hid ((hq13.out.block g hgB).trans hcd.out.blk)
            refine hK _ _ (fun _ => hr10) ?_
            clear hK K
            clear hgr10 hr10 hlc10
            try simp only [Act.put, List.setIfInBounds_toArray, List.set_cons_zero, List.set_cons_succ]
            refine wU (i := 14) (v := ?_) (⟨fun x => Below.refl _ x, fun h1 h2 => h1.trans h2⟩) (some 156) rfl (fun w' => ?_) ?_
            rotate_left
            · go_simp; with_reducible rfl
            simp only [Act.put, List.setIfInBounds_toArray, List.set_cons_zero, List.set_cons_succ]
            refine wT (i := 15) (v := ?_) (⟨fun x => Below.refl _ x, fun h1 h2 => h1.trans h2⟩) (some 157) rfl (fun w' hw' => ?_) ?_
            rotate_left
            · go_simp; with_reducible rfl
            simp only [Act.put, List.setIfInBounds_toArray, List.set_cons_zero, List.set_cons_succ]
            refine wpR_one 16 rfl (by kernel_rfl) (by kernel_rfl) (fun K hK => ?_)
            have cc3 := blk_cell (j := 3) hb10.out rfl
            have f3 := blk_free hb10.out 3
            go_simp
            refine hK _ _ (fun h => absurd h (by decide)) ?_
            clear hK K
            clear cc3 f3
            skip
            try simp only [Act.put, List.setIfInBounds_toArray, List.set_cons_zero, List.set_cons_succ]
            refine wpR_done (by kernel_rfl) ?_ _
            have hgV : Gr we V13 := hgBB.out _ hq13.out
            have hact : Hid (RcAct lo g y w { c with T := c.T ++ [(ny, ng)] } (V13.setCell ⟨g, 3, none⟩ (.slice A10 m10 k10))) := Lib.hid (hfr.out (RcAct.from_ hge.out ⟨{ y with vT := Value.slice A10 m10 k10 }, Lib.hid ((hce.out.gr hgV).setT (T' := c.T ++ [(ny, ng)]) (v := .slice A10 m10 k10) (by rw [← hm10]; exact ho10.out)), Upd.gr_set hgV (.inl rfl), fun q hq => .inl hq⟩))
            clear hgV hm10
            go_wp2_with fail
            go_ret
            exact ⟨by subst hrc; rfl, by subst hrc; exact hact.out⟩
    · have hs1b : (ns == 1) = false := by simpa using hs1
      rw [if_neg (by rintro ⟨h2, -⟩; exact hs1 h2)] at hrc
      refine wpR_region (Eq) 9999 (by kernel_rfl) ?_
      (rw [← hwe]; replace hwe := Lib.hid hwe)
      refine wT (i := 0) (v := ?_) (⟨fun _ => rfl, Eq.trans⟩) (some 116) rfl (fun w' hw' => ?_) ?_
      rotate_left
      · go_simp; with_reducible rfl
      simp only [Act.put, List.setIfInBounds_toArray, List.set_cons_zero, List.set_cons_succ]
      refine wT (i := 1) (v := ?_) (⟨fun _ => rfl, Eq.trans⟩) (some 117) rfl (fun w' hw' => ?_) ?_
      rotate_left
      · subst hw'; go_simp; with_reducible rfl
      simp only [Act.put, List.setIfInBounds_toArray, List.set_cons_zero, List.set_cons_succ]
      refine wT (i := 2) (v := ?_) (⟨fun _ => rfl, Eq.trans⟩) (some 118) rfl (fun w' hw' => ?_) ?_
      rotate_left
      · go_simp; with_reducible rfl
      simp only [Act.put, List.setIfInBounds_toArray, List.set_cons_zero, List.set_cons_succ]
      refine wT (i := 3) (v := ?_) (⟨fun _ => rfl, Eq.trans⟩) (some 119) rfl (fun w' hw' => ?_) ?_
      rotate_left
      · go_simp; with_reducible rfl
      simp only [Act.put, List.setIfInBounds_toArray, List.set_cons_zero, List.set_cons_succ]
      refine wpR_skip (i := 4) (⟨fun _ => rfl, Eq.trans⟩) (some 120) rfl (by kernel_rfl) (by kernel_rfl) (by kernel_rfl) (by kernel_rfl) (by kernel_rfl) (fun _ _ _ h => h) (by kernel_rfl) ?_
      simp only [Act.put, List.setIfInBounds_toArray, List.set_cons_zero, List.set_cons_succ]
      refine wpR_skip (i := 5) (⟨fun _ => rfl, Eq.trans⟩) (some 121) rfl (by kernel_rfl) (by kernel_rfl) (by kernel_rfl) (by kernel_rfl) (by kernel_rfl) (fun _ _ _ h => h) (by kernel_rfl) ?_
      simp only [Act.put, List.setIfInBounds_toArray, List.set_cons_zero, List.set_cons_succ]
      refine wT (i := 6) (v := ?_) (⟨fun _ => rfl, Eq.trans⟩) (some 122) rfl (fun w' hw' => ?_) ?_
      rotate_left
      · go_simp; with_reducible rfl
      simp only [Act.put, List.setIfInBounds_toArray, List.set_cons_zero, List.set_cons_succ]
      refine wT (i := 7) (v := ?_) (⟨fun _ => rfl, Eq.trans⟩) (some 123) rfl (fun w' hw' => ?_) ?_
      rotate_left
      · go_simp; with_reducible rfl
      simp only [Act.put, List.setIfInBounds_toArray, List.set_cons_zero, List.set_cons_succ]
      refine wpR_skip (i := 8) (⟨fun _ => rfl, Eq.trans⟩) (some 124) rfl (by kernel_rfl) (by kernel_rfl) (by kernel_rfl) (by kernel_rfl) (by kernel_rfl) (fun _ _ _ h => h) (by kernel_rfl) ?_
      simp only [Act.put, List.setIfInBounds_toArray, List.set_cons_zero, List.set_cons_succ]
      refine wpR_skip (i := 9) (⟨fun _ => rfl, Eq.trans⟩) (some 125) rfl (by kernel_rfl) (by kernel_rfl) (by kernel_rfl) (by kernel_rfl) (by kernel_rfl) (fun _ _ _ h => h) (by kernel_rfl) ?_
      simp only [Act.put, List.setIfInBounds_toArray, List.set_cons_zero, List.set_cons_succ]
      refine wpR_skip (i := 10) (⟨fun _ => rfl, Eq.trans⟩) (some 126) rfl (by kernel_rfl) (by kernel_rfl) (by kernel_rfl) (by kernel_rfl) (by kernel_rfl) (fun _ _ _ h => h) (by kernel_rfl) ?_
      simp only [Act.put, List.setIfInBounds_toArray, List.set_cons_zero, List.set_cons_succ]
      refine wT (i := 11) (v := ?_) (⟨fun _ => rfl, Eq.trans⟩) (some 127) rfl (fun w' hw' => ?_) ?_
      rotate_left
      · go_simp; with_reducible rfl
      simp only [Act.put, List.setIfInBounds_toArray, List.set_cons_zero, List.set_cons_succ]
      refine wT (i := 12) (v := ?_) (⟨fun _ => rfl, Eq.trans⟩) (some 128) rfl (fun w' hw' => ?_) ?_
      rotate_left
      · go_simp; with_reducible rfl
      simp only [Act.put, List.setIfInBounds_toArray, List.set_cons_zero, List.set_cons_succ]
      refine wpR_skip (i := 13) (⟨fun _ => rfl, Eq.trans⟩) (some 129) rfl (by kernel_rfl) (by kernel_rfl) (by kernel_rfl) (by kernel_rfl) (by kernel_rfl) (fun _ _ _ h => h) (by kernel_rfl) ?_
      simp only [Act.put, List.setIfInBounds_toArray, List.set_cons_zero, List.set_cons_succ]
      refine wpR_skip (i := 14) (⟨fun _ => rfl, Eq.trans⟩) (some 130) rfl (by kernel_rfl) (by kernel_rfl) (by kernel_rfl) (by kernel_rfl) (by kernel_rfl) (fun _ _ _ h => h) (by kernel_rfl) ?_
      simp only [Act.put, List.setIfInBounds_toArray, List.set_cons_zero, List.set_cons_succ]
      refine wpR_skip (i := 15) (⟨fun _ => rfl, Eq.trans⟩) (some 131) rfl (by kernel_rfl) (by kernel_rfl) (by kernel_rfl) (by kernel_rfl) (by kernel_rfl) (fun _ _ _ h => h) (by kernel_rfl) ?_
      simp only [Act.put, List.setIfInBounds_toArray, List.set_cons_zero, List.set_cons_succ]
      refine wT (i := 16) (v := ?_) (⟨fun _ => rfl, Eq.trans⟩) (some 132) rfl (fun w' hw' => ?_) ?_
      rotate_left
      · go_simp; with_reducible rfl
      simp only [Act.put, List.setIfInBounds_toArray, List.set_cons_zero, List.set_cons_succ]
      refine wT (i := 17) (v := ?_) (⟨fun _ => rfl, Eq.trans⟩) (some 133) rfl (fun w' hw' => ?_) ?_
      rotate_left
      · go_simp; with_reducible rfl
      simp only [Act.put, List.setIfInBounds_toArray, List.set_cons_zero, List.set_cons_succ]
      refine wpR_skip (i := 18) (⟨fun _ => rfl, Eq.trans⟩) (some 134) rfl (by kernel_rfl) (by kernel_rfl) (by kernel_rfl) (by kernel_rfl) (by kernel_rfl) (fun _ _ _ h => h) (by kernel_rfl) ?_
      simp only [Act.put, List.setIfInBounds_toArray, List.set_cons_zero, List.set_cons_succ]
      refine wpR_skip (i := 19) (⟨fun _ => rfl, Eq.trans⟩) (some 135) rfl (by kernel_rfl) (by kernel_rfl) (by kernel_rfl) (by kernel_rfl) (by kernel_rfl) (fun _ _ _ h => h) (by kernel_rfl) ?_
      simp only [Act.put, List.setIfInBounds_toArray, List.set_cons_zero, List.set_cons_succ]
      refine wpR_skip (i := 20) (⟨fun _ => rfl, Eq.trans⟩) (some 136) rfl (by kernel_rfl) (by kernel_rfl) (by kernel_rfl) (by kernel_rfl) (by kernel_rfl) (fun _ _ _ h => h) (by kernel_rfl) ?_
      simp only [Act.put, List.setIfInBounds_toArray, List.set_cons_zero, List.set_cons_succ]
      refine wpR_skip (i := 21) (⟨fun _ => rfl, Eq.trans⟩) (some 137) rfl (by kernel_rfl) (by kernel_rfl) (by kernel_rfl) (by kernel_rfl) (by kernel_rfl) (fun _ _ _ h => h) (by kernel_rfl) ?_
      simp only [Act.put, List.setIfInBounds_toArray, List.set_cons_zero, List.set_cons_succ]
      refine wpR_skip (i := 22) (⟨fun _ => rfl, Eq.trans⟩) (some 138) rfl (by kernel_rfl) (by kernel_rfl) (by kernel_rfl) (by kernel_rfl) (by kernel_rfl) (fun _ _ _ h => h) (by kernel_rfl) ?_
      simp only [Act.put, List.setIfInBounds_toArray, List.set_cons_zero, List.set_cons_succ]
      refine wpR_skip (i := 23) (⟨fun _ => rfl, Eq.trans⟩) (some 139) rfl (by kernel_rfl) (by kernel_rfl) (by kernel_rfl) (by kernel_rfl) (by kernel_rfl) (fun _ _ _ h => h) (by kernel_rfl) ?_
      simp only [Act.put, List.setIfInBounds_toArray, List.set_cons_zero, List.set_cons_succ]
      refine wpR_skip (i := 24) (⟨fun _ => rfl, Eq.trans⟩) (some 140) rfl (by kernel_rfl) (by kernel_rfl) (by kernel_rfl) (by kernel_rfl) (by kernel_rfl) (fun _ _ _ h => h) (by kernel_rfl) ?_
      simp only [Act.put, List.setIfInBounds_toArray, List.set_cons_zero, List.set_cons_succ]
      refine wT (i := 25) (v := ?_) (⟨fun _ => rfl, Eq.trans⟩) (some 141) rfl (fun w' hw' => ?_) ?_
      rotate_left
      · go_simp; with_reducible rfl
      simp only [Act.put, List.setIfInBounds_toArray, List.set_cons_zero, List.set_cons_succ]
      refine wpR_done (by kernel_rfl) ?_ _
      by_cases hs0 : ns = 0
      · subst hs0
        rcases hat2.out with ⟨hm, i, hai, hi⟩ | ⟨hm, hai⟩
        · subst hai
          rw [if_pos ⟨rfl, hm⟩, erase_at2 hok.dT hi] at hrc
          have ia : 0 ≤ (i : Int) := by omega
          have hin : i < nT := by have := (List.getElem?_eq_some_iff.mp hi).1; rw [hnT.out] at this; exact this
          obtain ⟨b, rfl, -⟩ := hkey.out i _ hi
          replace hm := Lib.hid hm
          replace hi := Lib.hid hi
          go_upto_region 28 with (fail)
          clear d1 d2 d5 d6
          obtain ⟨wd, hwd⟩ : ∃ wd, wd = we.drew := ⟨_, rfl⟩
          have hgd : Gr we wd := by rw [hwd]; exact (Below.refl _ _).drew
          have hcd := Lib.hid (hce.out.gr hgd)
          have hbd := Lib.hid (blk_below hbe.out hgd)
          obtain ⟨B2, hB2⟩ : ∃ b, wd.heap.size = b := ⟨_, rfl⟩
          have hgB : g < B2 := by rw [← hB2]; exact blk_lt hcd.out.blk
          have hqd : Hid (Below B2 wd wd) := Lib.hid (Below.refl _ _)
          have hzd : Hid (B2 ≤ wd.heap.size) := Lib.hid (by rw [hB2]; exact Nat.le_refl _)
          have hlB : Hid (lo ≤ B2) := Lib.hid (by have := hcd.out.lg; omega)
          have hgBB : Hid (∀ q, Below B2 wd q → Gr we q) := Lib.hid (fun q h1 => Gr.trans hgd (by unfold Gr; rw [hB2]; exact h1))
          replace hgd := Lib.hid hgd
          replace hB2 := Lib.hid hB2
          have ip : (i : Int) + 1 ≤ (nT : Int) := by omega
          have ip2 : (i : Int) ≤ (nT : Int) := by omega
          have ip0 : (0 : Int) ≤ (i : Int) + 1 := by omega
          have ipc : (i : Int) ≤ (cT : Int) := by omega
          have ipw : IntKind.i64.wrap ((i : Int) + 1) = (i : Int) + 1 := by rw [i64_wrap_id (by omega) (by omega)]
          have hrow2 : wd.ownsRow lo 63 2 (.slice (some ⟨b, 0, none⟩) nT cT) nT (flatT c.T) := by have := hcd.out.ts; rw [hvT.out, hnT.out] at this; exact this
          have hrn := Reads.of_own hrow2
          rw [hB2.out] at hrn
          have hRt0 := (hrn.part hcT (p := i) (by omega)).1
          have hcut := (hrn.part hcT (p := i + 1) (by omega)).2
          rw [flatT_take] at hRt0
          rw [flatT_drop] at hcut
          have hRtl : Hid ((c.T.take i).length = i) := Lib.hid (by rw [List.length_take, hnT.out]; omega)
          have eA : (if cT = i + 1 then (some ⟨b, 0, none⟩ : Option Addr) else (some (⟨b, 0, none⟩ : Addr)).map (·.add ((i + 1) * 2))) = (if cT = i + 1 then some ⟨b, 0, none⟩ else some ⟨b, (i + 1) * 2, none⟩) := by
            split
            · rfl
            · show some ((⟨b, 0, none⟩ : Addr).add ((i + 1) * 2)) = _
              unfold Addr.add; split <;> simp_all
          rw [eA] at hcut
          have hRd := Lib.hid hcut
          have hRt := Lib.hid hRt0
          replace hrow2 := Lib.hid hrow2
          clear eA hcut hrn hRt0
          refine wpR_region (Below B2) 19 (by kernel_rfl) ?_
          (rw [← hwd]; replace hwd := Lib.hid hwd)
          refine wT (i := 0) (v := ?_) (⟨fun x => Below.refl _ x, fun h1 h2 => h1.trans h2⟩) (some 165) rfl (fun w' hw' => ?_) ?_
          rotate_left
          · go_simp; with_reducible rfl
          simp only [Act.put, List.setIfInBounds_toArray, List.set_cons_zero, List.set_cons_succ]
          refine wT (i := 2) (v := ?_) (⟨fun x => Below.refl _ x, fun h1 h2 => h1.trans h2⟩) (some 167) rfl (fun w' hw' => ?_) ?_
          rotate_left
          · go_simp; with_reducible rfl
          simp only [Act.put, List.setIfInBounds_toArray, List.set_cons_zero, List.set_cons_succ]
          refine wT (i := 3) (v := ?_) (⟨fun x => Below.refl _ x, fun h1 h2 => h1.trans h2⟩) (some 168) rfl (fun w' hw' => ?_) ?_
          rotate_left
          · go_simp; with_reducible rfl
          simp only [Act.put, List.setIfInBounds_toArray, List.set_cons_zero, List.set_cons_succ]
          refine wT (i := 4) (v := ?_) (⟨fun x => Below.refl _ x, fun h1 h2 => h1.trans h2⟩) (some 169) rfl (fun w' hw' => ?_) ?_
          rotate_left
          · go_simp; with_reducible rfl
          simp only [Act.put, List.setIfInBounds_toArray, List.set_cons_zero, List.set_cons_succ]
          refine wT (i := 5) (v := ?_) (⟨fun x => Below.refl _ x, fun h1 h2 => h1.trans h2⟩) (some 170) rfl (fun w' hw' => ?_) ?_
          rotate_left
          · have qb := (hw'.block g hgB).trans hcd.out.blk; have qc := blk_cell (j := 3) qb rfl; rw [hvT.out] at qc; go_simp; with_reducible rfl
          simp only [Act.put, List.setIfInBounds_toArray, List.set_cons_zero, List.set_cons_succ]
          refine wT (i := 6) (v := ?_) (⟨fun x => Below.refl _ x, fun h1 h2 => h1.trans h2⟩) (some 171) rfl (fun w' hw' => ?_) ?_
          rotate_left
          · go_simp; with_reducible rfl
          simp only [Act.put, List.setIfInBounds_toArray, List.set_cons_zero, List.set_cons_succ]
          refine wT (i := 7) (v := ?_) (⟨fun x => Below.refl _ x, fun h1 h2 => h1.trans h2⟩) (some 172) rfl (fun w' hw' => ?_) ?_
          rotate_left
          · go_simp; with_reducible rfl
          simp only [Act.put, List.setIfInBounds_toArray, List.set_cons_zero, List.set_cons_succ]
          refine wT (i := 9) (v := ?_) (⟨fun x => Below.refl _ x, fun h1 h2 => h1.trans h2⟩) (some 174) rfl (fun w' hw' => ?_) ?_
          rotate_left
          · go_simp; with_reducible rfl
          simp only [Act.put, List.setIfInBounds_toArray, List.set_cons_zero, List.set_cons_succ]
          refine wT (i := 10) (v := ?_) (⟨fun x => Below.refl _ x, fun h1 h2 => h1.trans h2⟩) (some 175) rfl (fun w' hw' => ?_) ?_
          rotate_left
          · go_simp; with_reducible rfl
          simp only [Act.put, List.setIfInBounds_toArray, List.set_cons_zero, List.set_cons_succ]
          refine wT (i := 11) (v := ?_) (⟨fun x => Below.refl _ x, fun h1 h2 => h1.trans h2⟩) (some 176) rfl (fun w' hw' => ?_) ?_
          rotate_left
          · go_simp; with_reducible rfl
          simp only [Act.put, List.setIfInBounds_toArray, List.set_cons_zero, List.set_cons_succ]
          refine wT (i := 12) (v := ?_) (⟨fun x => Below.refl _ x, fun h1 h2 => h1.trans h2⟩) (some 177) rfl (fun w' hw' => ?_) ?_
          rotate_left
          · have qb := (hw'.block g hgB).trans hcd.out.blk; have qc := blk_cell (j := 3) qb rfl; rw [hvT.out] at qc; go_simp; with_reducible rfl
          simp only [Act.put, List.setIfInBounds_toArray, List.set_cons_zero, List.set_cons_succ]
          refine wT (i := 13) (v := ?_) (⟨fun x => Below.refl _ x, fun h1 h2 => h1.trans h2⟩) (some 178) rfl (fun w' hw' => ?_) ?_
          rotate_left
          · go_simp; with_reducible rfl
          simp only [Act.put, List.setIfInBounds_toArray, List.set_cons_zero, List.set_cons_succ]
          refine wT (i := 14) (v := ?_) (⟨fun x => Below.refl _ x, fun h1 h2 => h1.trans h2⟩) (some 179) rfl (fun w' hw' => ?_) ?_
          rotate_left
          · go_simp; with_reducible rfl
          simp only [Act.put, List.setIfInBounds_toArray, List.set_cons_zero, List.set_cons_succ]
          refine wT (i := 15) (v := ?_) (⟨fun x => Below.refl _ x, fun h1 h2 => h1.trans h2⟩) (some 180) rfl (fun w' hw' => ?_) ?_
          rotate_left
          · go_simp; with_reducible rfl
          simp only [Act.put, List.setIfInBounds_toArray, List.set_cons_zero, List.set_cons_succ]
          refine wpR_one 1 rfl (by kernel_rfl) (by kernel_rfl) (fun K hK => ?_)
          go_simp
          obtain ⟨g0, hg0e⟩ : ∃ g0, wd.heap.size = g0 := ⟨_, rfl⟩
          obtain ⟨W1, hW1⟩ : ∃ W1, W1 = wd.alloc (.cells #[] 63) := ⟨_, rfl⟩
          have hr1 : Below B2 wd W1 := by rw [hW1]; exact (Below.refl _ _).alloc hzd.out _
          have ho1 : Hid (W1.ownsRow lo 63 2 (.slice (some ⟨g0, 0, none⟩) 0 0) ([] : List (By × Int)).length (flatT [])) := Lib.hid (by rw [hW1, ← hg0e]; exact World.ownsRow_made wd #[] 0 (Nat.le_trans hlB.out hzd.out) (by simp [maxLen]) rfl)
          have hgB0 : Hid (B2 ≤ g0) := Lib.hid (by rw [← hg0e]; exact hzd.out)
          rw [← hW1, hg0e]
          replace hW1 := Lib.hid hW1
          replace hg0e := Lib.hid hg0e
          refine hK _ _ (fun _ => hr1) ?_
          clear hK K
          have hs1 := Lib.hid (hRt.out.below hr1)
          have hs2 := Lib.hid (hRd.out.below hr1)
          have hz1 : Hid (B2 ≤ W1.heap.size) := Lib.hid (Nat.le_trans hzd.out hr1.size)
          try simp only [Act.put, List.setIfInBounds_toArray, List.set_cons_zero, List.set_cons_succ]
          refine wpR_one 8 rfl (by kernel_rfl) (by kernel_rfl) (fun K hK => ?_)
          refine wp_appM (.tmp 166) (.tmp 172) rfl lo _ [] rfl ho1.out _ _ (c.T.take i) rfl (hs1.out.more (Nat.le_refl _)) (by rw [hRtl.out]; simp; omega) (Nat.le_trans hlB.out hz1.out) ?_
          intro v2 W2 ho2 hg2 hl2
          rw [List.nil_append] at ho2
          have hown2 : Hid (∀ j, v2.ownBlock = some j → B2 ≤ j) := Lib.hid (fun j hj => by rcases hl2 with e | e; (· have e2 := e.symm.trans hj; injection e2 with e2; have e2 : g0 = j := e2; rw [← e2]; exact hgB0.out); (· have e2 := e.symm.trans hj; injection e2 with e2; rw [← e2]; exact hz1.out))
          have hr2 : Below B2 W1 W2 := (Below.refl _ _).grown hg2 hz1.out (fun j hj => by injection hj with hj; have hj : g0 = j := hj; rw [← hj]; exact hgB0.out)
          refine hK _ _ (fun _ => hr2) ?_
          clear hK K
          replace ho2 := Lib.hid ho2
          have hz2 : Hid (B2 ≤ W2.heap.size) := Lib.hid (Nat.le_trans hz1.out hr2.size)
          have hs3 := Lib.hid (hs2.out.below hr2)
          try simp only [Act.put, List.setIfInBounds_toArray, List.set_cons_zero, List.set_cons_succ]
          refine wpR_one 16 rfl (by kernel_rfl) (by kernel_rfl) (fun K hK => ?_)
          refine wp_appM (.tmp 173) (.tmp 180) rfl lo _ (c.T.take i) rfl ho2.out _ _ (c.T.drop (i + 1)) rfl (hs3.out.more (Nat.le_refl _)) (by rw [hRtl.out, List.length_drop, hnT.out]; omega) (Nat.le_trans hlB.out hz2.out) ?_
          intro v3 W3 ho3 hg3 hl3
          obtain ⟨A3, c3, rfl, -, -⟩ := row_form ho3
          obtain ⟨m3, hm3⟩ : ∃ m3, (c.T.take i ++ c.T.drop (i + 1)).length = m3 := ⟨_, rfl⟩
          replace ho3 := Lib.hid ho3
          rw [hm3]
          have hr3 : Below B2 W2 W3 := (Below.refl _ _).grown hg3 hz2.out hown2.out
          refine hK _ _ (fun _ => hr3) ?_
          clear hK K
          have hw3 : Hid (Below B2 wd W3) := Lib.hid ((hr1.trans hr2).trans hr3)
          have hb3 := Lib.hid ((hw3.out.block g hgB).trans hcd.out.blk)
          try simp only [Act.put, List.setIfInBounds_toArray, List.set_cons_zero, List.set_cons_succ]
          refine wU (i := 17) (v := ?_) (⟨fun x => Below.refl _ x, fun h1 h2 => h1.trans h2⟩) (some 182) rfl (fun w' => ?_) ?_
          rotate_left
          · go_simp; with_reducible rfl
          simp only [Act.put, List.setIfInBounds_toArray, List.set_cons_zero, List.set_cons_succ]
          refine wT (i := 18) (v := ?_) (⟨fun x => Below.refl _ x, fun h1 h2 => h1.trans h2⟩) (some 183) rfl (fun w' hw' => ?_) ?_
          rotate_left
          · go_simp; with_reducible rfl
          simp only [Act.put, List.setIfInBounds_toArray, List.set_cons_zero, List.set_cons_succ]
          refine wpR_one 19 rfl (by kernel_rfl) (by kernel_rfl) (fun K hK => ?_)
          have cc3 := blk_cell (j := 3) hb3.out rfl
          have f3 := blk_free hb3.out 3
          go_simp
          refine hK _ _ (fun h => absurd h (by decide)) ?_
          clear hK K
          clear cc3 f3
          try simp only [Act.put, List.setIfInBounds_toArray, List.set_cons_zero, List.set_cons_succ]
          refine wpR_done (by kernel_rfl) ?_ _
          have hgV : Gr we W3 := hgBB.out _ hw3.out
          have hact : Hid (RcAct lo g y w { c with T := c.T.take i ++ c.T.drop (i + 1) } (W3.setCell ⟨g, 3, none⟩ (.slice A3 m3 c3))) := Lib.hid (hfr.out (RcAct.from_ hge.out ⟨{ y with vT := Value.slice A3 m3 c3 }, Lib.hid ((hce.out.gr hgV).setT (T' := c.T.take i ++ c.T.drop (i + 1)) (v := .slice A3 m3 c3) (by rw [← hm3]; exact ho3.out)), Upd.gr_set hgV (.inl rfl), fun q hq => .inl hq⟩))
          clear hgV hm3 ip ip2 ip0 ipc ipw
          go_wp2_with fail
          all_goals go_ret
          all_goals exact ⟨by subst hrc; rfl, by subst hrc; exact hact.out⟩
        · subst hai
          obtain rfl : rc = (12, c) := by rw [← hrc, if_neg (by rintro ⟨-, h2⟩; exact hm h2)]
          clear hrc
          replace hm := Lib.hid hm
          go_wp2_with fail
          go_ret
          exact ⟨rfl, hsm.out⟩
      · have hs0b : (ns == 0) = false := by simpa using hs0
        obtain rfl : rc = (12, c) := by rw [← hrc, if_neg (by rintro ⟨h2, -⟩; exact hs0 h2)]
        clear hrc
        go_wp2_with fail
        go_ret
        exact ⟨rfl, hsm.out⟩
end Go.Proofs.YthboeoidgglcgaaGreat
