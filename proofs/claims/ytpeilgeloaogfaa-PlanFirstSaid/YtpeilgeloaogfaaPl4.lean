/- plan: the slots that are read first. -/
import Derived.Test.YtpeilgeloaogfaaPl3
namespace Go.Proofs.Ytpeilgeloaogfaa
set_option linter.unusedVariables false
set_option linter.unusedSimpArgs false
open Go Go.RowKit
def unm (bad : List Bool) (s j : Nat) : Bool := !markB bad (s + j)
def fgT (bad : List Bool) (s t : Nat) : List Nat := (((List.range t).filter (unm bad s)).take 8).map (s + ·)
def fg (bad : List Bool) (g : Nat) : List Nat := fgT bad (10 * g) 10
theorem fgT_le (bad : List Bool) (s t : Nat) : (fgT bad s t).length ≤ 8 := by unfold fgT; rw [List.length_map, List.length_take]; omega
theorem fgT_succ (bad : List Bool) (s t : Nat) (h : (fgT bad s t).length < 8) : fgT bad s (t + 1) = fgT bad s t ++ (if markB bad (s + t) = true then [] else [s + t]) := by
  unfold fgT at h ⊢
  rw [List.length_map, List.length_take] at h
  rw [List.range_succ, List.filter_append]
  have e1 : ((List.range t).filter (unm bad s)).take 8 = (List.range t).filter (unm bad s) := List.take_of_length_le (by omega)
  cases hb : markB bad (s + t) with
  | true =>
    rw [List.filter_cons_of_neg (by unfold unm; rw [hb]; decide), List.filter_nil, List.append_nil, if_pos rfl, List.append_nil]
  | false =>
    rw [List.filter_cons_of_pos (by unfold unm; rw [hb]; rfl), List.filter_nil, if_neg (by decide), e1, List.take_of_length_le (by rw [List.length_append, List.length_singleton]; omega), List.map_append]
    rfl
theorem fgT_full (bad : List Bool) (s t : Nat) (ht : t ≤ 10) (h : (fgT bad s t).length = 8) : fgT bad s t = fgT bad s 10 := by
  unfold fgT at h ⊢
  rw [List.length_map, List.length_take] at h
  have e : List.range 10 = List.range t ++ (List.range (10 - t)).map (t + ·) := by rw [← List.range_add]; congr 1; omega
  rw [e, List.filter_append, List.take_append, show 8 - ((List.range t).filter (unm bad s)).length = 0 from by omega, List.take_zero, List.append_nil]
set_option maxHeartbeats 4000000 in
set_option maxRecDepth 10000 in
theorem group_slots (g : Nat) (hg : g ≤ 1000) (A : Option Addr) (n c : Nat) (bad : List Bool) (w : World) (h : Hid (Bl w A n bad)) :
    Calls Try.prog 113 #[.int .i64 g, .slice A n c] w fun r w' => ∃ v, r = .returned v ∧ Hid (OI w' w.heap.size v (fg bad g)) ∧ Gr w w' := by
  obtain ⟨B, hB⟩ : ∃ B, w.heap.size = B := ⟨_, rfl⟩
  obtain ⟨s, hs⟩ : ∃ s, 10 * g = s := ⟨_, rfl⟩
  have e1 : IntKind.i64.wrap ((g : Int) * 10) = (s : Int) := by rw [i64_wrap_idP (by omega) (by omega)]; omega
  have e2 : IntKind.i64.wrap ((g : Int) + 1) = ((g + 1 : Nat) : Int) := by rw [i64_wrap_idP (by omega) (by omega)]; omega
  have e3 : IntKind.i64.wrap (((g + 1 : Nat) : Int) * 10) = ((s + 10 : Nat) : Int) := by rw [i64_wrap_idP (by omega) (by omega)]; omega
  have e2' : (g : Int) + 1 = ((g + 1 : Nat) : Int) := by omega
  obtain ⟨g1, hg1⟩ : ∃ x, g + 1 = x := ⟨_, rfl⟩
  obtain ⟨s1, hs1⟩ : ∃ x, s + 10 = x := ⟨_, rfl⟩
  rw [hg1] at e2 e3 e2'
  rw [hs1] at e3
  have hsb : s1 ≤ 20000 := by omega
  replace hg1 := Lib.hid hg1
  replace hs1 := Lib.hid hs1
  have hfg : Hid (fg bad g = fgT bad s 10) := Lib.hid (by unfold fg; rw [hs])
  replace hs := Lib.hid hs
  have hq0 : Hid (Below B w w) := Lib.hid (Below.refl _ _)
  have hsz0 : Hid (B ≤ w.heap.size) := Lib.hid (Nat.le_of_eq hB.symm)
  rw [hB]
  go_enter Try.func113, Try.ntmps113
  go_wp2_with fail
  go_loopw [5, 6] (fun u v wr => ∃ (t : Nat) (l : List Nat) (A4 : Option Addr) (c4 : Nat), t ≤ 10 ∧ u = .slice A4 l.length c4 ∧ v = .int .i64 ((s + t : Nat) : Int) ∧ l.length ≤ 8 ∧ Hid (l = fgT bad s t) ∧ Hid (OI wr B (.slice A4 l.length c4) l) ∧ Hid (Below B w wr) ∧ Hid (B ≤ wr.heap.size)) (fun _ v _ => (s + 10 - (intOf v).toNat))
  case atStart => exact ⟨0, [], none, 0, by omega, rfl, rfl, by decide, Lib.hid rfl, Lib.hid (OI.nil_ _ _), hq0, hsz0⟩
  case round =>
    obtain ⟨t, l, A4, c4, ht, rfl, rfl, hl8, hl, ho, hq, hsz⟩ := hrel
    clear hq0 hsz0
    obtain ⟨k, hk⟩ : ∃ k, s + t = k := ⟨_, rfl⟩
    rw [hk]
    have fin : ∀ (_ : t = 10 ∨ l.length = 8), fg bad g = l := fun hh => by
      rw [hfg.out, hl.out]
      rcases hh with hh | hh
      · rw [hh]
      · exact (fgT_full bad s t ht (by rw [← hl.out]; exact hh)).symm
    by_cases ht10 : t < 10
    · have i1 : (k : Int) < (s1 : Int) := by have := hs1.out; omega
      by_cases h8 : l.length < 8
      · have i2 : (l.length : Int) < 8 := by omega
        replace fin := Lib.hid fin
        have hbl : Hid (Bl wr A n bad) := Bl.gr (show Gr w wr from by show Below w.heap.size w wr; rw [hB]; exact hq.out) h
        have hnext := fgT_succ bad s t (by rw [← hl.out]; exact h8)
        rw [hk, ← hl.out] at hnext
        go_wp2_with fail
        refine (marked_any A n c bad k (by omega) _ hbl).mono ?_
        rintro r wr ⟨rfl, rfl⟩
        cases hm : markB bad k with
        | true =>
          rw [hm, if_pos rfl, List.append_nil] at hnext
          replace hnext := Lib.hid hnext
          replace hm := Lib.hid hm
          go_wp2_with fail
          go_roundw
          case rel => exact ⟨t + 1, l, A4, c4, by omega, rfl, by rw [← Nat.add_assoc, hk]; go_num, hl8, Lib.hid hnext.out.symm, ho, hq, hsz⟩
          case measure => simp [intOf]; omega
        | false =>
          rw [hm, if_neg (by decide)] at hnext
          replace hnext := Lib.hid hnext
          replace hm := Lib.hid hm
          have hlit : Hid (Reads (wr.alloc (.cells #[.int .i64 k] 3)) (wr.alloc (.cells #[.int .i64 k] 3)).heap.size 1 (some ⟨wr.heap.size, 0, none⟩) 1 (icells [k])) := Lib.hid ⟨rfl, fun _ => ⟨_, rfl, by simp, World.news_of_block (heap_alloc_new wr _)⟩⟩
          have hgr : Gr wr (wr.alloc (.cells #[.int .i64 k] 3)) := (Below.refl _ _).alloc (Nat.le_refl _) _
          have ho7 := OI.gr hgr ho
          have hq7 : Hid (Below B w (wr.alloc (.cells #[.int .i64 k] 3))) := Lib.hid (hq.out.trans (Below.mono hgr hsz.out))
          have hsz7 : B ≤ (wr.alloc (.cells #[.int .i64 k] 3)).heap.size := Nat.le_trans hsz.out hgr.size
          clear hgr ho hq hsz
          go_wp2_with (at_builtin; go_must (refine wpl_appI rfl (.tmp 25) (.tmp 27) rfl B (.slice A4 l.length c4) l rfl ho7.out _ 1 _ [k] rfl hlit.out (by omega) hsz7 ?_); intro v8 w8 ho8 hb8; obtain ⟨A8, c8, rfl, -, -, -⟩ := ho8.form; replace ho8 := Lib.hid ho8; have hq8 := Lib.hid (hq7.out.trans hb8); have hsz8 := Lib.hid (Nat.le_trans hsz7 hb8.size); clear hb8)
          have hl9 : (l ++ [k]).length ≤ 8 := by rw [List.length_append, List.length_singleton]; omega
          go_roundw
          case rel => exact ⟨t + 1, l ++ [k], A8, c8, by omega, by rw [List.length_append]; rfl, by rw [← Nat.add_assoc, hk]; go_num, hl9, Lib.hid hnext.out.symm, ho8, hq8, hsz8⟩
          case measure => simp [intOf]; omega
      · have i2 : decide ((l.length : Int) < 8) = false := decide_eq_false (by omega)
        have i2' : ¬ ((l.length : Int) < 8) := by omega
        have hfin := Lib.hid (fin (.inr (by omega)))
        clear fin
        go_wp2_with fail
        go_ret
        refine ⟨_, rfl, by rw [hfin.out]; exact ho, ?_⟩
        show Below w.heap.size w _
        rw [hB]
        exact hq.out
    · have i1 : decide ((k : Int) < (s1 : Int)) = false := decide_eq_false (by have := hs1.out; omega)
      have i1' : ¬ ((k : Int) < (s1 : Int)) := by have := hs1.out; omega
      have hfin := Lib.hid (fin (.inl (by omega)))
      clear fin
      go_wp2_with fail
      go_ret
      refine ⟨_, rfl, by rw [hfin.out]; exact ho, ?_⟩
      show Below w.heap.size w _
      rw [hB]
      exact hq.out
end Go.Proofs.Ytpeilgeloaogfaa
