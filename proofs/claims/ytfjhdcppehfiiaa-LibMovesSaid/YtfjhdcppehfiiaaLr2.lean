/- lib: the reference's library: takes, asked. -/
import Derived.Test.YtfjhdcppehfiiaaLr1
namespace Go.Proofs.Ytfjhdcppehfiiaa
set_option linter.unusedVariables false
set_option linter.unusedSimpArgs false
open Go Go.RowKit
theorem info_in : (Try.prog.info? 3).map (fun i => (i.zero, i.size, i.bytes)) = some (some (.int .i64 0), 1, 8) := by kernel_rfl
def iV (k : Nat) : Value := .int .i64 (k : Int)
theorem wpl_appI {w : World} {ops : Array Oper} {rest : List Oper} {o : Oper} {a : Act} {Q : Exit → Act → World → Prop} (hgd : o.guard = none) (s x : Operand)
    (ho : o.op = .call { callee := .builtin .append, args := #[s, x], argTypes := #[78, 78] })
    (base : Nat) (v : Value) (R : List Nat) (hs : a.eval s = v) (hown : w.ownsRow base 3 1 v R.length (R.map iV)) (A : Option Addr) (c B : Nat) (d : Nat) (hx : a.eval x = .slice A 1 c) (hr : Reads w B 1 A 1 [iV d])
    (hlen : R.length ≤ 10000000) (hbase : base ≤ w.heap.size)
    (h : ∀ v' w', w'.ownsRow base 3 1 v' (R ++ [d]).length ((R ++ [d]).map iV) → w.grownBy w' v.ownBlock → wpList Try.prog ops Q rest (a.put o.dst v') w') : wpList Try.prog ops Q (o :: rest) a w := by
  obtain ⟨i0, hi, hz0, hz1, hz2⟩ := info_parts info_in
  refine wpList_plain hgd fun _ hK => wp_append_any w s x 78 ho base 3 i0 _ 1 8 Try.underlying78 hi hz0 hz1 hz2 rfl (by omega) v R.length _ hs hown B A 1 c [iV d] hx hr (fun u hu => by rw [List.mem_singleton.1 hu]; rfl)
    (by simp only [maxLen]; omega) (by omega) hbase fun v' w' h2 h3 h4 => hK _ _ (h v' w' ?_ h3)
  rw [List.length_append, List.map_append]; exact h2
theorem ask_end {w wr w8 : World} {lo g : Nat} {vc vd va v v8 : Value} {C : List Nat} {D : List RD} {L R : List Nat} {cc : Array Value} {T : TypeId} {j : Nat} (h : Lr wr lo g vc vd va C D L) (hg : Below w.heap.size w wr) (hlo : lo ≤ w.heap.size) (hr : wr.ownsRow w.heap.size 3 1 v R.length (R.map iV))
    (hr8 : w8.ownsRow w.heap.size 3 1 v8 (R ++ [j]).length ((R ++ [j]).map iV)) (hg8 : (wr.alloc (.cells cc T)).grownBy w8 v.ownBlock) (hb8 : w8.heap[g]? = some (.cells #[vc, vd, va] 80 (0, 0))) (hR : ∀ k ∈ R, k ∈ L) (hj : j < D.length) :
    Lr (w8.setCell ⟨g, 2, none⟩ v8) lo g vc vd v8 C D (R ++ [j]) ∧ TChg lo rlts w (w8.setCell ⟨g, 2, none⟩ v8) := by
  have t1 : TChg w.heap.size [3] wr w8 := (TChg.of_below (alloc_gr wr _)).trans (TChg.of_row (hr.alloc _) hg8 (by simp))
  have t2 : TChg lo [80] w8 (w8.setCell ⟨g, 2, none⟩ v8) := TChg.of_set hb8 (by simp) h.lg 2 _
  refine ⟨⟨blk_set hb8 2 _, h.lg, row_tchg (row_tchg h.carts t1 (by decide)) t2 (by decide), row_tchg (row_tchg h.drives t1 (by decide)) t2 (by decide), row_more (row_tchg hr8 t2 (by decide)) hlo, h.lc, h.ld, fun k hk => ?_⟩, ((TChg.of_below hg).trans (t1.mono hlo (by simp))).trans (t2.mono (Nat.le_refl _) (by simp))⟩
  rcases List.mem_append.1 hk with hk | hk
  · exact h.la k (hR k hk)
  · rw [List.mem_singleton.1 hk]; exact hj
section
variable (lo g : Nat) (vc vd va : Value) (C : List Nat) (D : List RD) (L : List Nat) (w : World) (h : Hid (Lr w lo g vc vd va C D L))
include h
set_option maxHeartbeats 2000000 in
set_option maxRecDepth 10000 in
theorem rtakes_any (hL : L.length ≤ 1000000) : Calls Try.prog 55 #[.pointer (some ⟨g, 0, none⟩)] w fun e w' => (e = .returned (.int .i64 (-1)) ∨ ∃ i : Nat, e = .returned (.int .i64 i) ∧ i < D.length) ∧ Below w.heap.size w w' := by
  obtain ⟨Ac, cc, Ad, cd, Aa, ca, rfl, rfl, rfl⟩ := h.out.form
  have c1 := blk_cell (j := 1) h.out.blk rfl
  obtain ⟨n, hn⟩ : ∃ n, D.length = n := ⟨_, rfl⟩
  obtain ⟨m, hm⟩ : ∃ m, L.length = m := ⟨_, rfl⟩
  have hn4 : n ≤ 4 := by rw [← hn]; exact h.out.ld
  rw [hm] at hL
  rw [hn] at c1
  have h' := h.out
  rw [hn, hm] at h'
  rw [hn]
  replace h := Lib.hid h'
  replace hn := Lib.hid hn
  replace hm := Lib.hid hm
  clear h'
  go_enter Try.func55, Try.ntmps55
  go_wp2_with fail
  go_loopw [3] (fun q wr => ∃ i : Nat, q = .int .i64 i ∧ i ≤ n ∧ wr = w) (fun q _ => n - (intOf q).toNat)
  case atStart => exact ⟨0, rfl, Nat.zero_le _, rfl⟩
  case round =>
    obtain ⟨i, rfl, hi, rfl⟩ := hrel
    by_cases hlt : i < n
    · have ii : (i : Int) < (n : Int) := by omega
      have iip : (0 : Int) ≤ (i : Int) := by omega
      obtain ⟨bd, rfl, -, -, hc⟩ := h.out.driveAt (by rw [hn.out]; omega)
      obtain ⟨d, hd⟩ : ∃ d, D[i]? = some d := ⟨_, List.getElem?_eq_getElem (by rw [hn.out]; exact hlt)⟩
      obtain ⟨a1, -, a3⟩ := hc i d hd
      obtain ⟨c, p, wk⟩ := d
      replace hd := Lib.hid hd
      clear hc
      simp only at a1 a3
      cases wk with
      | true =>
        by_cases hz : c < 0
        · go_wp2_with fail
          go_ret
          exact ⟨.inr ⟨i, rfl, hlt⟩, Below.refl _ _⟩
        · have hzb : decide (c < 0) = false := decide_eq_false hz
          replace hz := Lib.hid hz
          go_wp2_with fail
          go_roundw
          case rel => exact ⟨i + 1, by go_num, by omega, by trivial⟩
          case measure => simp [intOf]; omega
      | false =>
        go_wp2_with fail
        go_roundw
        case rel => exact ⟨i + 1, by go_num, by omega, by trivial⟩
        case measure => simp [intOf]; omega
    · obtain rfl : i = n := by omega
      have ii : decide ((i : Int) < (i : Int)) = false := decide_eq_false (by omega)
      have hg0 : Hid (Below wr.heap.size wr wr) := Lib.hid (Below.refl _ _)
      go_wp2_with fail
      clear c1
      go_loopw [4] (fun q wd => ∃ i : Nat, q = .int .i64 i ∧ i ≤ m ∧ Hid (Below wr.heap.size wr wd)) (fun q _ => m - (intOf q).toNat)
      case atStart => exact ⟨0, rfl, Nat.zero_le _, hg0⟩
      case round =>
        obtain ⟨k, rfl, hk, hgr⟩ := hrel
        have hl := Lr.gr hgr.out h
        have c2 := blk_cell (j := 2) hl.out.blk rfl
        by_cases hlt : k < m
        · have ik : (k : Int) < (m : Int) := by omega
          have ikp : (0 : Int) ≤ (k : Int) := by omega
          obtain ⟨x, hx⟩ : ∃ x, L[k]? = some x := ⟨_, List.getElem?_eq_getElem (by rw [hm.out]; exact hlt)⟩
          have hxn : x < i := by rw [← hn.out]; exact h.out.la x (List.mem_of_getElem? hx)
          have ix : (x : Int) < (i : Int) := by omega
          have ixp : (0 : Int) ≤ (x : Int) := by omega
          go_upto_region 9 with (fail)
          clear c2
          rename World => wq
          obtain ⟨wd, hwd⟩ : ∃ wd, wd = wq.drew := ⟨_, rfl⟩
          have hgd : Hid (Below wr.heap.size wr wd) := Lib.hid (by rw [hwd]; exact hgr.out.trans (Below.refl _ _).drew)
          have hld := Lr.gr hgd.out h
          have c1 := blk_cell (j := 1) hld.out.blk rfl
          have c2 := blk_cell (j := 2) hld.out.blk rfl
          obtain ⟨ba, rfl, -, b1⟩ := hld.out.askAt hx
          obtain ⟨bd, rfl, -, -, hc⟩ := hld.out.driveAt (by rw [hn.out]; omega)
          obtain ⟨d, hd⟩ : ∃ d, D[x]? = some d := ⟨_, List.getElem?_eq_getElem (by rw [hn.out]; exact hxn)⟩
          obtain ⟨-, -, a3⟩ := hc x d hd
          obtain ⟨c, p, wk⟩ := d
          replace hd := Lib.hid hd
          replace hx := Lib.hid hx
          clear hc
          simp only at a3
          refine wpR_region (Eq) 9999 (by kernel_rfl) ?_
          (rw [← hwd]; replace hwd := Lib.hid hwd)
          refine wpR_take (i := 0) (v := ?_) (⟨fun _ => rfl, Eq.trans⟩) (some 43) rfl (by kernel_rfl) (by kernel_rfl) (by kernel_rfl) (by kernel_rfl) (by kernel_rfl) (fun _ _ _ h => h) (by kernel_rfl) (fun w' hw' => ?_) ?_
          rotate_left
          · go_simp; with_reducible rfl
          simp only [Act.put, List.setIfInBounds_toArray, List.set_cons_zero, List.set_cons_succ]
          refine wpR_take (i := 1) (v := ?_) (⟨fun _ => rfl, Eq.trans⟩) (some 44) rfl (by kernel_rfl) (by kernel_rfl) (by kernel_rfl) (by kernel_rfl) (by kernel_rfl) (fun _ _ _ h => h) (by kernel_rfl) (fun w' hw' => ?_) ?_
          rotate_left
          · go_simp; with_reducible rfl
          simp only [Act.put, List.setIfInBounds_toArray, List.set_cons_zero, List.set_cons_succ]
          refine wpR_take (i := 2) (v := ?_) (⟨fun _ => rfl, Eq.trans⟩) (some 45) rfl (by kernel_rfl) (by kernel_rfl) (by kernel_rfl) (by kernel_rfl) (by kernel_rfl) (fun _ _ _ h => h) (by kernel_rfl) (fun w' hw' => ?_) ?_
          rotate_left
          · go_simp; with_reducible rfl
          simp only [Act.put, List.setIfInBounds_toArray, List.set_cons_zero, List.set_cons_succ]
          refine wpR_take (i := 3) (v := ?_) (⟨fun _ => rfl, Eq.trans⟩) (some 46) rfl (by kernel_rfl) (by kernel_rfl) (by kernel_rfl) (by kernel_rfl) (by kernel_rfl) (fun _ _ _ h => h) (by kernel_rfl) (fun w' hw' => ?_) ?_
          rotate_left
          · subst hw'; go_simp; with_reducible rfl
          simp only [Act.put, List.setIfInBounds_toArray, List.set_cons_zero, List.set_cons_succ]
          refine wpR_take (i := 4) (v := ?_) (⟨fun _ => rfl, Eq.trans⟩) (some 47) rfl (by kernel_rfl) (by kernel_rfl) (by kernel_rfl) (by kernel_rfl) (by kernel_rfl) (fun _ _ _ h => h) (by kernel_rfl) (fun w' hw' => ?_) ?_
          rotate_left
          · go_simp; with_reducible rfl
          simp only [Act.put, List.setIfInBounds_toArray, List.set_cons_zero, List.set_cons_succ]
          refine wpR_take (i := 5) (v := ?_) (⟨fun _ => rfl, Eq.trans⟩) (some 48) rfl (by kernel_rfl) (by kernel_rfl) (by kernel_rfl) (by kernel_rfl) (by kernel_rfl) (fun _ _ _ h => h) (by kernel_rfl) (fun w' hw' => ?_) ?_
          rotate_left
          · go_simp; with_reducible rfl
          simp only [Act.put, List.setIfInBounds_toArray, List.set_cons_zero, List.set_cons_succ]
          refine wpR_take (i := 6) (v := ?_) (⟨fun _ => rfl, Eq.trans⟩) (some 49) rfl (by kernel_rfl) (by kernel_rfl) (by kernel_rfl) (by kernel_rfl) (by kernel_rfl) (fun _ _ _ h => h) (by kernel_rfl) (fun w' hw' => ?_) ?_
          rotate_left
          · go_simp; with_reducible rfl
          simp only [Act.put, List.setIfInBounds_toArray, List.set_cons_zero, List.set_cons_succ]
          refine wpR_take (i := 7) (v := ?_) (⟨fun _ => rfl, Eq.trans⟩) (some 50) rfl (by kernel_rfl) (by kernel_rfl) (by kernel_rfl) (by kernel_rfl) (by kernel_rfl) (fun _ _ _ h => h) (by kernel_rfl) (fun w' hw' => ?_) ?_
          rotate_left
          · subst hw'; go_simp; with_reducible rfl
          simp only [Act.put, List.setIfInBounds_toArray, List.set_cons_zero, List.set_cons_succ]
          refine wpR_take (i := 8) (v := ?_) (⟨fun _ => rfl, Eq.trans⟩) (some 51) rfl (by kernel_rfl) (by kernel_rfl) (by kernel_rfl) (by kernel_rfl) (by kernel_rfl) (fun _ _ _ h => h) (by kernel_rfl) (fun w' hw' => ?_) ?_
          rotate_left
          · go_simp; with_reducible rfl
          simp only [Act.put, List.setIfInBounds_toArray, List.set_cons_zero, List.set_cons_succ]
          refine wpR_take (i := 9) (v := ?_) (⟨fun _ => rfl, Eq.trans⟩) (some 52) rfl (by kernel_rfl) (by kernel_rfl) (by kernel_rfl) (by kernel_rfl) (by kernel_rfl) (fun _ _ _ h => h) (by kernel_rfl) (fun w' hw' => ?_) ?_
          rotate_left
          · go_simp; with_reducible rfl
          simp only [Act.put, List.setIfInBounds_toArray, List.set_cons_zero, List.set_cons_succ]
          refine wpR_take (i := 10) (v := ?_) (⟨fun _ => rfl, Eq.trans⟩) (some 53) rfl (by kernel_rfl) (by kernel_rfl) (by kernel_rfl) (by kernel_rfl) (by kernel_rfl) (fun _ _ _ h => h) (by kernel_rfl) (fun w' hw' => ?_) ?_
          rotate_left
          · subst hw'; go_simp; with_reducible rfl
          simp only [Act.put, List.setIfInBounds_toArray, List.set_cons_zero, List.set_cons_succ]
          refine wpR_take (i := 11) (v := ?_) (⟨fun _ => rfl, Eq.trans⟩) (some 54) rfl (by kernel_rfl) (by kernel_rfl) (by kernel_rfl) (by kernel_rfl) (by kernel_rfl) (fun _ _ _ h => h) (by kernel_rfl) (fun w' hw' => ?_) ?_
          rotate_left
          · go_simp; with_reducible rfl
          simp only [Act.put, List.setIfInBounds_toArray, List.set_cons_zero, List.set_cons_succ]
          refine wpR_take (i := 12) (v := ?_) (⟨fun _ => rfl, Eq.trans⟩) (some 55) rfl (by kernel_rfl) (by kernel_rfl) (by kernel_rfl) (by kernel_rfl) (by kernel_rfl) (fun _ _ _ h => h) (by kernel_rfl) (fun w' hw' => ?_) ?_
          rotate_left
          · go_simp; with_reducible rfl
          simp only [Act.put, List.setIfInBounds_toArray, List.set_cons_zero, List.set_cons_succ]
          refine wpR_take (i := 13) (v := ?_) (⟨fun _ => rfl, Eq.trans⟩) (some 56) rfl (by kernel_rfl) (by kernel_rfl) (by kernel_rfl) (by kernel_rfl) (by kernel_rfl) (fun _ _ _ h => h) (by kernel_rfl) (fun w' hw' => ?_) ?_
          rotate_left
          · subst hw'; go_simp; with_reducible rfl
          simp only [Act.put, List.setIfInBounds_toArray, List.set_cons_zero, List.set_cons_succ]
          refine wpR_done (by kernel_rfl) ?_ _
          cases wk with
          | true =>
            go_wp2_with fail
            go_ret
            exact ⟨.inr ⟨x, rfl, hxn⟩, hgd.out⟩
          | false =>
            go_wp2_with fail
            go_roundw
            case rel => exact ⟨k + 1, by go_num, by omega, hgd⟩
            case measure => simp [intOf]; omega
        · obtain rfl : k = m := by omega
          have ik : decide ((k : Int) < (k : Int)) = false := decide_eq_false (by omega)
          go_wp2_with fail
          go_ret
          exact ⟨.inl rfl, hgr.out⟩
set_option maxHeartbeats 2000000 in
set_option maxRecDepth 10000 in
theorem rasked_any (hL : L.length ≤ 1000000) (j : Nat) (hj : j < D.length) : Calls Try.prog 56 #[.pointer (some ⟨g, 0, none⟩), .int .i64 j] w fun e w' => e = .returned (.tuple #[]) ∧ (∃ va' L', Hid (Lr w' lo g vc vd va' C D L') ∧ L'.length ≤ L.length + 1) ∧ Hid (TChg lo rlts w w') := by
  obtain ⟨Ac, cc, Ad, cd, Aa, ca, rfl, rfl, rfl⟩ := h.out.form
  have hlo : lo ≤ w.heap.size := Nat.le_of_lt (Nat.lt_of_le_of_lt h.out.lg (blk_lt h.out.blk))
  have hgl : g < w.heap.size := blk_lt h.out.blk
  obtain ⟨m, hm⟩ : ∃ m, L.length = m := ⟨_, rfl⟩
  rw [hm] at hL
  have h' := h.out
  rw [hm] at h' ⊢
  replace h := Lib.hid h'
  replace hm := Lib.hid hm
  clear h'
  have hr0 := Lib.hid (row_empty w w.heap.size 3 1 (Nat.le_refl _))
  have hg0 : Hid (Below w.heap.size w (w.alloc (.cells #[] 3))) := Lib.hid ((Below.refl _ _).alloc (Nat.le_refl _) _)
  have hjd := Lib.hid hj
  go_enter Try.func56, Try.ntmps56
  go_wp2_with fail
  go_loopw [4, 5] (fun s z wr => ∃ (i : Nat) (R : List Nat), Hid (wr.ownsRow w.heap.size 3 1 s R.length (R.map iV)) ∧ z = .int .i64 i ∧ i ≤ m ∧ R.length ≤ i ∧ Hid (∀ k ∈ R, k ∈ L) ∧ Hid (Below w.heap.size w wr)) (fun _ z _ => m - (intOf z).toNat)
  case atStart => exact ⟨0, [], hr0, rfl, Nat.zero_le _, Nat.zero_le _, Lib.hid (fun k hk => by cases hk), hg0⟩
  case round =>
    obtain ⟨i, R, hR, rfl, hi, hRi, hRL, hgr⟩ := hrel
    obtain ⟨A, c, rfl, -, -⟩ := row_form hR.out
    have hl := Lr.gr hgr.out h
    have c2 := blk_cell (j := 2) hl.out.blk rfl
    have hsz : w.heap.size ≤ wr.heap.size := hgr.out.size
    by_cases hlt : i < m
    · have ii : (i : Int) < (m : Int) := by omega
      have iip : (0 : Int) ≤ (i : Int) := by omega
      obtain ⟨x, hx⟩ : ∃ x, L[i]? = some x := ⟨_, List.getElem?_eq_getElem (by rw [hm.out]; exact hlt)⟩
      obtain ⟨ba, rfl, -, b1⟩ := hl.out.askAt hx
      replace hx := Lib.hid hx
      by_cases hxj : (x : Int) = (j : Int)
      · have hxb : ((x : Int) != (j : Int)) = false := by rw [hxj]; simp
        replace hxj := Lib.hid hxj
        go_wp2_with fail
        go_roundw
        case rel => exact ⟨i + 1, R, hR, by go_num, by omega, by omega, hRL, hgr⟩
        case measure => simp [intOf]; omega
      · have hxb : ((x : Int) != (j : Int)) = true := by simpa using hxj
        replace hxj := Lib.hid hxj
        go_wp2_with (at_builtin; refine wpl_appI rfl (.tmp 25) (.tmp 33) rfl w.heap.size (.slice A R.length c) R rfl (hR.out.alloc _) (some ⟨wr.heap.size, 0, none⟩) 1 (wr.heap.size + 1) x rfl (Reads.lit1 wr _ _ _ (Nat.lt_succ_self _)) (by omega) (by simp; omega) ?_; intro v8 w8 hr8 hg8; obtain ⟨A8, c8, rfl, -, -⟩ := row_form hr8; have hgr8 : Hid (Below w.heap.size w w8) := Lib.hid ((hgr.out.alloc hsz _).grown hg8 (by simp; omega) (fun k hk => (hR.out.lt k hk).1)); replace hr8 := Lib.hid hr8; clear hg8)
        go_roundw
        case rel => exact ⟨i + 1, R ++ [x], Lib.hid ((show R.length + 1 = (R ++ [x]).length by simp) ▸ hr8.out), by go_num, by omega, by simp; omega, Lib.hid (fun k hk => by
          rcases List.mem_append.1 hk with hk | hk
          · exact hRL.out k hk
          · rw [List.mem_singleton.1 hk]; exact List.mem_of_getElem? hx.out), hgr8⟩
        case measure => simp [intOf]; omega
    · obtain rfl : i = m := by omega
      have ii : decide ((i : Int) < (i : Int)) = false := decide_eq_false (by omega)
      have hbA := Lib.hid (blk_alloc hl.out.blk (.cells #[.int .i64 (j : Int)] 3))
      have hneA := Lib.hid (row_ne (hR.out.alloc (.cells #[.int .i64 (j : Int)] 3)) hbA.out (by decide))
      go_upto_region 6 with (fail)
      go_wp2_with (at_builtin; refine wpl_appI rfl (.tmp 36) (.tmp 38) rfl w.heap.size (.slice A R.length c) R rfl (hR.out.alloc _) (some ⟨wr.heap.size, 0, none⟩) 1 (wr.heap.size + 1) j rfl (Reads.lit1 wr _ _ _ (Nat.lt_succ_self _)) (by omega) (by simp; omega) ?_; intro v8 w8 hr8 hg8; go_loud (have hb8 := blk_grow hbA.out hg8 hneA.out; have f8 := blk_free hb8 2; have q8 := blk_cell (j := 2) hb8 rfl; have hend := Lib.hid (ask_end hl.out hgr.out hlo hR.out hr8 hg8 hb8 hRL.out hjd.out); obtain ⟨A8, c8, rfl, -, -⟩ := row_form hr8; clear hr8 hg8; replace hb8 := Lib.hid hb8))
      go_end0
      have e1 : (R ++ [j]).length = R.length + 1 := by simp
      rw [e1] at hend
      exact ⟨rfl, ⟨_, R ++ [j], Lib.hid hend.out.1, by omega⟩, Lib.hid hend.out.2⟩
end
end Go.Proofs.Ytfjhdcppehfiiaa
