/- The reference cartridge: its state in memory, what its methods come to. -/
import Derived.Test.YtppclmidnomkjaaCartLaw5
namespace Go.Proofs.Ytppclmidnomkjaa
set_option linter.unusedVariables false
set_option linter.unusedSimpArgs false
open Go Go.RowKit
/-- block g is the reference's cartridge in this state -/
def Rt (w : World) (lo g : Nat) (s : CS) : Prop :=
  ∃ v1 v2, w.heap[g]? = some (.cells #[v1, v2, .int .i64 s.most, .bool s.lost] 35 (0, 0)) ∧ lo ≤ g ∧ SRow w lo v1 (s.recs.map (·.1)) ∧ BRow w lo v2 (s.recs.map (·.2)) ∧ s.Ok
abbrev RT : List TypeId := [35, 9, 4]
section
variable {w w' : World} {lo g : Nat} {s : CS}
theorem Rt.tchg {lo' : Nat} {ts : List TypeId} (h : Rt w lo g s) (hc : TChg lo' ts w w') (h0 : 35 ∉ ts) (h1 : 9 ∉ ts) (h2 : 4 ∉ ts) : Rt w' lo g s := by
  obtain ⟨v1, v2, a, b, c, d, e⟩ := h
  exact ⟨v1, v2, hc.block a h0, b, row_tchg c hc h1, row_tchg d hc h2, e⟩
theorem Rt.below (h : Rt w lo g s) (hb : Below w.heap.size w w') : Rt w' lo g s := h.tchg (lo' := 0) (ts := []) (TChg.of_below hb) (by simp) (by simp) (by simp)
theorem Rt.drewN (h : Rt w lo g s) (n : Nat) : Rt (w.drewN n) lo g s := h
theorem Rt.ok (h : Rt w lo g s) : s.Ok := by obtain ⟨v1, v2, a, b, c, d, e⟩ := h; exact e
theorem Rt.open_ (h : Rt w lo g s) : ∃ A1 c1 A2 c2, w.heap[g]? = some (.cells #[.slice A1 s.recs.length c1, .slice A2 s.recs.length c2, .int .i64 s.most, .bool s.lost] 35 (0, 0)) ∧ lo ≤ g ∧ SRow w lo (.slice A1 s.recs.length c1) (s.recs.map (·.1)) ∧ BRow w lo (.slice A2 s.recs.length c2) (s.recs.map (·.2)) ∧
    w.cell? ⟨g, 0, none⟩ = some (.slice A1 s.recs.length c1) ∧ w.cell? ⟨g, 1, none⟩ = some (.slice A2 s.recs.length c2) ∧ w.cell? ⟨g, 2, none⟩ = some (.int .i64 s.most) ∧ w.cell? ⟨g, 3, none⟩ = some (.bool s.lost) ∧ s.recs.length ≤ c1 ∧ c1 ≤ maxLen ∧ s.recs.length ≤ c2 ∧ c2 ≤ maxLen := by
  obtain ⟨v1, v2, a, b, c, d, e⟩ := h
  obtain ⟨A1, c1, rfl, h1, h2⟩ := row_form c
  obtain ⟨A2, c2, rfl, h3, h4⟩ := row_form d
  simp only [List.length_map] at *
  exact ⟨A1, c1, A2, c2, a, b, c, d, blk_cell a rfl, blk_cell a rfl, blk_cell a rfl, blk_cell a rfl, h1, h2, h3, h4⟩
end
set_option maxRecDepth 10000 in
theorem rnew_any (z : Int) (hz : I64 z) (w : World) :
    Calls Try.prog 16 #[.int .i64 z] w fun e w' => e = .returned (.pointer (some ⟨w.heap.size, 0, none⟩)) ∧ Rt w' w.heap.size w.heap.size ⟨[], (min (max z 0) 1024).toNat, false⟩ ∧ Below w.heap.size w w' := by
  obtain ⟨m, hm⟩ : ∃ m : Nat, (m : Int) = min (max z 0) 1024 := ⟨(min (max z 0) 1024).toNat, by omega⟩
  have hm2 : (min (max z 0) 1024).toNat = m := by omega
  rw [hm2]
  have hm3 : m ≤ 1024 := by omega
  replace hm := Lib.hid hm
  replace hm2 := Lib.hid hm2
  rcases (by have := hm.out; omega : (z < 0 ∧ (m : Int) = 0) ∨ (0 ≤ z ∧ z ≤ 1024 ∧ (m : Int) = z) ∨ (1024 < z ∧ (m : Int) = 1024)) with ⟨h1, hme⟩ | ⟨h1, h2, hme⟩ | ⟨h1, hme⟩
  all_goals
    replace hme := Lib.hid hme
    go_enter Try.func16, Try.ntmps16
    go_wp2
    try rw [← hme.out]
    go_ret
    exact ⟨rfl, ⟨_, _, by first | exact heap_alloc_new w _ | (rw [hme.out]; exact heap_alloc_new w _), Nat.le_refl _, World.ownsRow_nil _ _ _ 1, World.ownsRow_nil _ _ _ 1, ⟨Nat.zero_le _, hm3, fun r h => (by cases h)⟩⟩, (Below.refl _ _).alloc (Nat.le_refl _) _⟩
set_option maxHeartbeats 1000000 in
set_option maxRecDepth 10000 in
theorem rappend_any (lo g : Nat) (s : CS) (A : Option Addr) (n c : Nat) (b : List UInt8) (hn : b.length = n) (hnm : n ≤ maxLen) (w : World) (h : Rt w lo g s) (hlw : lo ≤ w.heap.size) (hrd : Rd w lo A b) :
    Calls Try.prog 45 #[.pointer (some ⟨g, 0, none⟩), .slice A n c] w fun e w' => e = .returned (.tuple #[.int .i64 (s.append b).1, .int .i64 (s.append b).2.1]) ∧ Rt w' lo g (s.append b).2.2 ∧ TChg lo RT w w' := by
  obtain ⟨A1, c1, A2, c2, hh, hg, hs, hz, q0, q1, q2, q3, hc1, hm1, hc2, hm2⟩ := h.open_
  have hrl := h.ok.recs
  have hmo := h.ok.most
  have hok := Lib.hid h.ok
  unfold maxLen at hnm hm1 hm2
  replace h := Lib.hid h
  replace hrd := Lib.hid hrd
  replace hn := Lib.hid hn
  replace hh := Lib.hid hh
  replace hs := Lib.hid hs
  replace hz := Lib.hid hz
  obtain ⟨r, hr⟩ : ∃ r, s.append b = r := ⟨_, rfl⟩
  rw [hr]
  unfold CS.append at hr
  rw [hn.out] at hr
  by_cases h1 : n < 1
  · rw [if_pos (.inl h1)] at hr
    subst hr
    obtain rfl : n = 0 := by omega
    go_enter Try.func45, Try.ntmps45
    go_wp2
    go_ret2
    exact ⟨rfl, h.out, TChg.refl _ _ _⟩
  · by_cases h2 : 256 < n
    · rw [if_pos (.inr h2)] at hr
      subst hr
      go_enter Try.func45, Try.ntmps45
      go_wp2
      go_ret2
      exact ⟨rfl, h.out, TChg.refl _ _ _⟩
    · rw [if_neg (by omega)] at hr
      cases hlo : s.lost with
      | true =>
        rw [if_pos hlo] at hr
        rw [hlo] at q3
        replace hlo := Lib.hid hlo
        subst hr
        go_enter Try.func45, Try.ntmps45
        go_wp2
        go_ret2
        exact ⟨rfl, h.out, TChg.refl _ _ _⟩
      | false =>
        rw [if_neg (by rw [hlo]; decide)] at hr
        rw [hlo] at q3
        replace hlo := Lib.hid hlo
        by_cases h3 : s.most ≤ s.recs.length
        · rw [if_pos h3] at hr
          subst hr
          go_enter Try.func45, Try.ntmps45
          go_wp2_with fail
          go_quiet (fail)
          go_wp2
          go_ret2
          exact ⟨rfl, h.out.drewN _, TChg.drewN _ _⟩
        · rw [if_neg h3] at hr
          replace hr := Lib.hid hr
          obtain ⟨N, hN⟩ : ∃ N, s.recs.length = N := ⟨_, rfl⟩
          obtain ⟨L, hL⟩ : ∃ L, s.recs.map (·.1) = L := ⟨_, rfl⟩
          obtain ⟨Z, hZ⟩ : ∃ Z, s.recs.map (·.2) = Z := ⟨_, rfl⟩
          rw [hN] at hrl hh hs hz q0 q1 hc1 hc2 h3
          rw [hL] at hs
          rw [hZ] at hz
          have hLN : L.length = N := by rw [← hL, List.length_map, hN]
          have hZN : Z.length = N := by rw [← hZ, List.length_map, hN]
          have hs' : Hid (w.ownsRow lo 9 1 (.slice A1 N c1) N (L.map sv)) := Lib.hid (by have := hs.out; unfold SRow at this; rw [hLN] at this; exact this)
          have hz' : Hid (w.ownsRow lo 4 1 (.slice A2 N c2) N (Z.map Value.bool)) := Lib.hid (by have := hz.out; unfold BRow at this; rw [hZN] at this; exact this)
          clear hs hz
          have hs := hs'
          have hz := hz'
          clear hs' hz'
          replace hN := Lib.hid hN
          replace hL := Lib.hid hL
          replace hZ := Lib.hid hZ
          replace hLN := Lib.hid hLN
          replace hZN := Lib.hid hZN
          have hd := decide_eq_false (p := (s.most : Int) ≤ N) (by omega)
          have hZ1 : Hid ((Z ++ [false]).length = N + 1) := Lib.hid (by rw [List.length_append, hZN.out]; rfl)
          obtain ⟨i0, hi0, hz0, hz1, hz2'⟩ := info_parts info_bool
          obtain ⟨j0, hj0, hy0, hy1, hy2⟩ := info_parts info_str
          go_enter Try.func45, Try.ntmps45
          go_wp2_with fail
          go_quiet (fail)
          go_wp2_with fail
          obtain ⟨w0, hw0⟩ : ∃ w0, w.drewN nq = w0 := ⟨_, rfl⟩
          rw [hw0]
          have hch0 : Hid (TChg lo RT w w0.drew) := Lib.hid (by rw [← hw0]; exact TChg.drewN w nq)
          replace hh : Hid (w0.drew.heap[g]? = some (.cells #[.slice A1 N c1, .slice A2 N c2, .int .i64 s.most, .bool s.lost] 35 (0, 0))) := Lib.hid (by rw [← hw0]; exact hh.out)
          have hsD : Hid (w0.drew.ownsRow lo 9 1 (.slice A1 N c1) N (L.map sv)) := Lib.hid (by rw [← hw0]; exact hs.out)
          replace hz : Hid (w0.drew.ownsRow lo 4 1 (.slice A2 N c2) N (Z.map Value.bool)) := Lib.hid (by rw [← hw0]; exact hz.out)
          replace hrd : Hid (Rd w0.drew lo A b) := Lib.hid (by rw [← hw0]; exact hrd.out)
          replace hlw : lo ≤ w0.drew.heap.size := by rw [← hw0]; exact hlw
          clear hs h q0 q1 q2 q3
          replace hw0 := Lib.hid hw0
          obtain ⟨wd, hwd⟩ : ∃ wd, wd = w0.drew := ⟨_, rfl⟩
          rw [← hwd] at hch0 hh hsD hz hrd hlw
          refine wpR_region (TChg lo [9]) 11 (by kernel_rfl) ?_
          (rw [← hwd]; replace hwd := Lib.hid hwd)
          refine wpR_take (i := 0) (v := ?_) (TChg.road _ _) (some 28) rfl (by kernel_rfl) (by kernel_rfl) (by kernel_rfl) (by kernel_rfl) (by kernel_rfl) (fun _ _ _ h => h) (by kernel_rfl) (fun w' hw' => ?_) ?_
          rotate_left
          · go_simp; with_reducible rfl
          simp only [Act.put, List.setIfInBounds_toArray, List.set_cons_zero, List.set_cons_succ]
          refine wpR_take (i := 1) (v := ?_) (TChg.road _ _) (some 29) rfl (by kernel_rfl) (by kernel_rfl) (by kernel_rfl) (by kernel_rfl) (by kernel_rfl) (fun _ _ _ h => h) (by kernel_rfl) (fun w' hw' => ?_) ?_
          rotate_left
          · go_simp; with_reducible rfl
          simp only [Act.put, List.setIfInBounds_toArray, List.set_cons_zero, List.set_cons_succ]
          refine wpR_take (i := 2) (v := ?_) (TChg.road _ _) (some 30) rfl (by kernel_rfl) (by kernel_rfl) (by kernel_rfl) (by kernel_rfl) (by kernel_rfl) (fun _ _ _ h => h) (by kernel_rfl) (fun w' hw' => ?_) ?_
          rotate_left
          · go_simp; with_reducible rfl
          simp only [Act.put, List.setIfInBounds_toArray, List.set_cons_zero, List.set_cons_succ]
          refine wpR_take (i := 3) (v := ?_) (TChg.road _ _) (some 31) rfl (by kernel_rfl) (by kernel_rfl) (by kernel_rfl) (by kernel_rfl) (by kernel_rfl) (fun _ _ _ h => h) (by kernel_rfl) (fun w' hw' => ?_) ?_
          rotate_left
          · go_simp; with_reducible rfl
          simp only [Act.put, List.setIfInBounds_toArray, List.set_cons_zero, List.set_cons_succ]
          refine wpR_take (i := 4) (v := ?_) (TChg.road _ _) (some 32) rfl (by kernel_rfl) (by kernel_rfl) (by kernel_rfl) (by kernel_rfl) (by kernel_rfl) (fun _ _ _ h => h) (by kernel_rfl) (fun w' hw' => ?_) ?_
          rotate_left
          · have q := blk_cell (j := 0) (hw'.block hh.out (by decide)) rfl; go_simp; with_reducible rfl
          simp only [Act.put, List.setIfInBounds_toArray, List.set_cons_zero, List.set_cons_succ]
          refine wpR_take (i := 5) (v := ?_) (TChg.road _ _) (some 33) rfl (by kernel_rfl) (by kernel_rfl) (by kernel_rfl) (by kernel_rfl) (by kernel_rfl) (fun _ _ _ h => h) (by kernel_rfl) (fun w' hw' => ?_) ?_
          rotate_left
          · go_simp; with_reducible rfl
          simp only [Act.put, List.setIfInBounds_toArray, List.set_cons_zero, List.set_cons_succ]
          refine wpR_take (i := 6) (v := ?_) (TChg.road _ _) (some 34) rfl (by kernel_rfl) (by kernel_rfl) (by kernel_rfl) (by kernel_rfl) (by kernel_rfl) (fun _ _ _ h => h) (by kernel_rfl) (fun w' hw' => ?_) ?_
          rotate_left
          · have hcv := run_str_at (n := n) c (hrd.out.below (hw'.below hlw)) hn.out; go_simp; with_reducible rfl
          simp only [Act.put, List.setIfInBounds_toArray, List.set_cons_zero, List.set_cons_succ]
          refine wpR_one 7 rfl (by kernel_rfl) (by kernel_rfl) (fun K hK => ?_)
          go_simp
          refine hK _ _ (fun _ => TChg.of_alloc _ _) ?_
          clear hK K
          try simp only [Act.put, List.setIfInBounds_toArray, List.set_cons_zero, List.set_cons_succ]
          refine wpR_one 8 rfl (by kernel_rfl) (by kernel_rfl) (fun K hK => ?_)
          refine wp_append_any _ (.tmp 32) (.tmp 35) 32 rfl lo 9 j0 _ 1 16 Try.underlying32 hj0 hy0 hy1 hy2 rfl (by omega) (.slice A1 N c1) N (L.map sv) rfl (hsD.out.alloc _) _ _ 1 1 [.string (bs b)] rfl (Reads.lit1 _ _ _ _ (Nat.lt_succ_self _)) (sv_one [b]) (by unfold maxLen; omega) (by omega) (by simp; omega) ?_
          intro v2 w2 hs2 hg2 hv2
          obtain ⟨A3, c3, rfl, hc3, hm3⟩ := row_form hs2
          refine hK _ _ (fun _ => TChg.of_row (hsD.out.alloc _) hg2 (by simp)) ?_
          clear hK K
          have ht2 : TChg lo [9] wd w2 := (TChg.of_alloc wd _).trans (TChg.of_row (hsD.out.alloc _) hg2 (by simp))
          have hh2 := ht2.block hh.out (by decide)
          have q0 := blk_cell (j := 0) hh2 rfl
          have q1 := blk_free hh2 0
          have hz2 := Lib.hid (row_tchg hz.out ht2 (by decide))
          have hset := blk_set hh2 0 (.slice A3 (N + 1) c3)
          have hs3 := Lib.hid (row_set_other hs2 g 0 (.slice A3 (N + 1) c3) (row_ne hs2 hh2 (by decide)))
          have hz3 := Lib.hid (row_set_other hz2.out g 0 (.slice A3 (N + 1) c3) (row_ne hz2.out hh2 (by decide)))
          have ht3 := Lib.hid ((ht2.mono (Nat.le_refl _) (by decide) : TChg lo [35, 9, 4] wd w2).trans (TChg.of_set hh2 (by decide) hg 0 (.slice A3 (N + 1) c3)))
          have hzz : lo ≤ w2.heap.size := Nat.le_trans hlw ht2.size
          replace hset := Lib.hid hset
          clear hs2 hg2 hv2 ht2 hh2 hz2
          try simp only [Act.put, List.setIfInBounds_toArray, List.set_cons_zero, List.set_cons_succ]
          refine wpR_one 9 rfl (by kernel_rfl) (by kernel_rfl) (fun K hK => ?_)
          go_simp
          refine hK _ _ (fun _ => TChg.refl _ _ _) ?_
          clear hK K
          try simp only [Act.put, List.setIfInBounds_toArray, List.set_cons_zero, List.set_cons_succ]
          refine wpR_take (i := 10) (v := ?_) (TChg.road _ _) (some 38) rfl (by kernel_rfl) (by kernel_rfl) (by kernel_rfl) (by kernel_rfl) (by kernel_rfl) (fun _ _ _ h => h) (by kernel_rfl) (fun w' hw' => ?_) ?_
          rotate_left
          · go_simp; with_reducible rfl
          simp only [Act.put, List.setIfInBounds_toArray, List.set_cons_zero, List.set_cons_succ]
          refine wpR_one 11 rfl (by kernel_rfl) (by kernel_rfl) (fun K hK => ?_)
          go_simp
          refine hK _ _ (fun h => absurd rfl h) ?_
          clear hK K
          try simp only [Act.put, List.setIfInBounds_toArray, List.set_cons_zero, List.set_cons_succ]
          refine wpR_done (by kernel_rfl) ?_ _
          obtain ⟨w5, hw5⟩ : ∃ w5, w2.setCell ⟨g, 0, none⟩ (.slice A3 (N + 1) c3) = w5 := ⟨_, rfl⟩
          have hz5' : lo ≤ w5.heap.size := by rw [← hw5, World.size_setCell]; exact hzz
          rw [hw5] at hset hs3 hz3 ht3 ⊢
          replace hset : Hid (w5.heap[g]? = some (.cells #[.slice A3 (N + 1) c3, .slice A2 N c2, .int .i64 s.most, .bool s.lost] 35 (0, 0))) := Lib.hid hset.out
          replace hz3 : Hid (BRow w5 lo (.slice A2 N c2) Z) := Lib.hid (by unfold BRow; rw [hZN.out]; exact hz3.out)
          clear q0 q1
          replace hw5 := Lib.hid hw5
          have q0 := blk_cell (j := 0) hset.out rfl
          have q1 := blk_cell (j := 1) hset.out rfl
          have hgz := blk_lt hset.out
          go_wp2_with (at_builtin; refine wpl_append_bools rfl (.tmp 43) (.tmp 44) rfl lo (.slice A2 N c2) Z rfl (hz3.out.alloc _) (w5.heap.size + 1) (some ⟨w5.heap.size, 0, none⟩) 1 [false] 1 rfl rfl (Reads.lit1 w5 _ _ _ (Nat.lt_succ_self _)) (by rw [hZN.out]; omega) (by simp; omega) ?_; intro v6 w6 hb6 hg6; obtain ⟨A4, c4, rfl, hn4, hc4⟩ := row_form hb6; rw [hZ1.out] at hb6 hn4 ⊢; have ht6 : TChg lo [4] w5 w6 := (TChg.of_alloc w5 _).trans (TChg.of_row (hz3.out.alloc _) hg6 (by simp)); have hh6 := ht6.block hset.out (by decide); have p0 := blk_cell (j := 0) hh6 rfl; have p1 := blk_cell (j := 1) hh6 rfl; have p2 := blk_free hh6 1; have hs6 := Lib.hid (row_tchg hs3.out ht6 (by decide)); have hs7 := Lib.hid (row_set_other hs6.out g 1 (.slice A4 (N + 1) c4) (row_ne hs6.out hh6 (by decide))); have hb7 : Hid (BRow _ lo (.slice A4 (N + 1) c4) (Z ++ [false])) := Lib.hid (row_set_other hb6 g 1 (.slice A4 (N + 1) c4) (row_ne hb6 hh6 (by decide))); have ht7 := Lib.hid ((ht6.mono (Nat.le_refl _) (by decide) : TChg lo RT w5 w6).trans (TChg.of_set hh6 (by decide) hg 1 (.slice A4 (N + 1) c4))); have hst6 := Lib.hid (blk_set hh6 1 (.slice A4 (N + 1) c4)); replace hh6 := Lib.hid hh6; clear hb6 hg6 ht6)
          go_ret2
          rw [← hr.out, hN.out]
          refine ⟨rfl, ⟨_, _, hst6.out, hg, ?_, ?_, ⟨by show (s.recs ++ [(b, false)]).length ≤ s.most; rw [List.length_append, hN.out]; simp; omega, hmo, fun r hr => by
            rcases List.mem_append.1 hr with hr | hr
            · exact hok.out.len r hr
            · simp at hr; subst hr; show b.length ≤ 256; rw [hn.out]; omega⟩⟩, (hch0.out.trans ht3.out).trans ht7.out⟩
          · show SRow _ lo _ ((s.recs ++ [(b, false)]).map (·.1))
            rw [List.map_append, hL.out]
            show World.ownsRow _ lo _ 1 _ (L ++ [b]).length ((L ++ [b]).map sv)
            rw [List.map_append, List.length_append, hLN.out]
            exact hs7.out
          · show BRow _ lo _ ((s.recs ++ [(b, false)]).map (·.2))
            rw [List.map_append, hZ.out]
            exact hb7.out
end Go.Proofs.Ytppclmidnomkjaa
