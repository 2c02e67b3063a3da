/- place: the room of each cartridge that may be chosen: a map. -/
import Derived.Test.YtfiaedhdgbnfiaaPk2
import Derived.Maps.OwnSet
import Derived.Maps.RangeWalk
import Derived.Deep.DeepCutAuto
namespace Go.Proofs.Ytfiaedhdgbnfiaa
set_option linter.unusedVariables false
set_option linter.unusedSimpArgs false
open Go Go.RowKit Go.Maps
abbrev kI (c : Int) : Lit := .int .i64 c
abbrev dI (c : Int) : DataW Unit := .lit (.int .i64 c)
/-- the map that holds these -/
def DMs (acc : List Fr) : DataW Unit := acc.foldl (fun m x => m.put (kI x.1) (dI x.2)) (.map [])
theorem DMs_snoc (acc : List Fr) (x : Fr) : DMs (acc ++ [x]) = (DMs acc).put (kI x.1) (dI x.2) := by unfold DMs; rw [List.foldl_append]; rfl
theorem DMs_tidy (acc : List Fr) : Tidy (DMs acc) :=
  list_snoc_ind (p := fun acc => Tidy (DMs acc)) tidy_empty (fun l x ih => by rw [DMs_snoc]; exact ih.put (k := kI x.1) trivial _) acc
theorem DMs_has (acc : List Fr) (c : Int) : Maps.has (DMs acc) (kI c) = hasC acc c :=
  list_snoc_ind (p := fun acc => Maps.has (DMs acc) (kI c) = hasC acc c) rfl (fun l x ih => by
    rw [DMs_snoc]
    unfold hasC at ih ⊢
    rw [List.any_append, ← ih]
    by_cases h : c = x.1
    · subst h
      rw [has_put_same (k := kI x.1) (DMs_tidy l).isMap trivial]
      simp
    · rw [has_put_other (fun e => h (by injection e))]
      simp [Ne.symm h]) acc
theorem apart_snoc {l : List Fr} {x : Fr} (h : Apart (l ++ [x])) : Apart l ∧ ∀ y ∈ l, y.1 ≠ x.1 := by
  unfold Apart at *
  rw [List.pairwise_append] at h
  exact ⟨h.1, fun y hy => h.2.2 y hy x (by simp)⟩
theorem DMs_at (acc : List Fr) (h : Apart acc) : ∀ x ∈ acc, ∀ z, (DMs acc).atKey (kI x.1) z = dI x.2 :=
  list_snoc_ind (p := fun acc => Apart acc → ∀ x ∈ acc, ∀ z, (DMs acc).atKey (kI x.1) z = dI x.2) (fun _ x h => by cases h) (fun l y ih ha x hx z => by
    obtain ⟨h1, h2⟩ := apart_snoc ha
    rw [DMs_snoc]
    rcases List.mem_append.mp hx with hx | hx
    · rw [atKey_put_other (fun e => h2 x hx (by injection e))]
      exact ih h1 x hx z
    · simp at hx; subst hx
      exact atKey_put_same (k := kI x.1) (DMs_tidy l).isMap trivial _ _) acc h
theorem DMs_size (acc : List Fr) (h : Apart acc) : Maps.size (DMs acc) = acc.length :=
  list_snoc_ind (p := fun acc => Apart acc → Maps.size (DMs acc) = acc.length) (fun _ => rfl) (fun l y ih ha => by
    obtain ⟨h1, h2⟩ := apart_snoc ha
    rw [DMs_snoc, size_put (DMs_tidy l), ih h1, DMs_has, if_neg, List.length_append]
    · rfl
    · intro e
      obtain ⟨z, hz, e⟩ := (hasC_iff _ _).mp e
      exact h2 z hz e) acc h
theorem lawI : Keyed Try.prog 3 := int_keyed Try.underlying3
theorem zeroI (w : World) : (zeroValue 3).run Try.prog w = .ok (.int .i64 0) w := by kernel_rfl
theorem wfI {x : Int} (h : I64 x) : (Lit.int .i64 x).wf = true := WalkArith.wf_i64 (by unfold I64 at h; omega)
theorem keyI {x : Int} (h : I64 x) : keyOf Try.prog 3 (.int .i64 x) = some (kI x) := keyOf_int_mk Try.underlying3 (wfI h)
/-- block b is a map that holds these -/
def OM (acc : List Fr) (n b : Nat) (w : World) : Prop := w.ownsMap (H := Unit) Try.prog 3 (plainElem Try.prog 3) b n (DMs acc)
theorem OM.gr {acc : List Fr} {n b : Nat} {w w' : World} (hr : Gr w w') (h : Hid (OM acc n b w)) : Hid (OM acc n b w') := Lib.hid (World.ownsMap.kept (row := none) h.out ⟨hr.os, hr.tape, hr.output, hr.size, fun k hk _ => hr.block k hk⟩ (by simp))
set_option maxHeartbeats 4000000 in
set_option maxRecDepth 10000 in
theorem cand_any (l : List Fr) (but : List Int) (v u : Value) (w : World) (hv : Hid (Frs l v w)) (hu : Hid (Ints but u w)) (hl : l.length ≤ 60) (hb : but.length ≤ 1000000) :
    Calls Try.prog 13 #[v, u] w fun e w' => ∃ b, e = .returned (.map (some b)) ∧ Hid (OM (mayL but l) 60 b w') ∧ w.heap.size ≤ b ∧ Gr w w' := by
  obtain ⟨B, hB⟩ : ∃ B, w.heap.size = B := ⟨_, rfl⟩
  obtain ⟨n, hn⟩ : ∃ n, l.length = n := ⟨_, rfl⟩
  obtain ⟨A, c, rfl, -, -, -, -⟩ := hv.out
  rw [hn] at hl hv ⊢
  have hmm := @run_makeMap Try.prog
  have hs : Hid (OM (mayL but (l.take 0)) 0 B (w.alloc (.map #[] 0))) := Lib.hid (by rw [← hB]; exact World.ownsMap_made w _ _ _)
  have hq0 : Hid (Below B w (w.alloc (.map #[] 0))) := Lib.hid (by rw [← hB]; exact Gr.alloc w _)
  have hz0 : Hid (B + 1 ≤ (w.alloc (.map #[] 0)).heap.size) := Lib.hid (by rw [← hB]; simp)
  rw [hB]
  replace hn := Lib.hid hn
  go_enter Try.func13, Try.ntmps13
  go_wp2_with fail
  replace hB := Lib.hid hB
  go_loopw [13] (fun i wr => ∃ k : Nat, k ≤ n ∧ i = .int .i64 k ∧ Hid (OM (mayL but (l.take k)) k B wr) ∧ Hid (Below B w wr) ∧ Hid (B + 1 ≤ wr.heap.size)) (fun i _ => (n - intOf i).toNat)
  case atStart => exact ⟨0, Nat.zero_le _, rfl, hs, hq0, hz0⟩
  case round =>
    obtain ⟨k, hk, rfl, hm, hq, hsz⟩ := hrel
    clear hs hq0 hz0 hmm
    have hgr : Gr w wr := by show Below w.heap.size w wr; rw [hB.out]; exact hq.out
    have hvr := Frs.gr hgr hv
    have hur := Ints.gr hgr hu
    replace hgr := Lib.hid hgr
    by_cases hkn : k < n
    · have ik : (k : Int) < (n : Int) := by omega
      obtain ⟨A', c', e', -, -, h3, h4⟩ := hvr.out
      rw [hn.out] at e' h3
      injection e' with e1 _ e2
      subst e1 e2
      obtain ⟨b, o, rfl, hbl, hc⟩ := h3 (by omega)
      obtain ⟨x, hx⟩ : ∃ x, l[k]? = some x := ⟨_, List.getElem?_eq_getElem (by rw [hn.out]; exact hkn)⟩
      obtain ⟨c0, c1⟩ := hc k x hx
      obtain ⟨i0, i1⟩ := h4 x (List.mem_of_getElem? hx)
      have htk : l.take (k + 1) = l.take k ++ [x] := by rw [List.take_add_one, hx]; rfl
      have hnext := mayL_snoc but (l.take k) x
      rw [← htk] at hnext
      obtain ⟨acc, hacc⟩ : ∃ acc, acc = mayL but (l.take k) := ⟨_, rfl⟩
      obtain ⟨nxt, hnxt⟩ : ∃ nxt, nxt = mayL but (l.take (k + 1)) := ⟨_, rfl⟩
      rw [← hacc, ← hnxt] at hnext
      rw [← hacc] at hm
      have hkey := keyI i0
      obtain ⟨W1, hW1⟩ : ∃ W1, W1 = wr.alloc (.cells #[.int .i64 x.1, .int .i64 x.2] 32) := ⟨_, rfl⟩
      have hg1 : Gr wr W1 := by rw [hW1]; exact Gr.alloc wr _
      have hm1 := OM.gr hg1 hm
      have hu1 := Ints.gr hg1 hur
      have hq1 : Hid (Below B w W1) := Lib.hid (hq.out.trans (Below.mono hg1 (by have := hsz.out; omega)))
      have hsz1 : Hid (B + 1 ≤ W1.heap.size) := Lib.hid (Nat.le_trans hsz.out hg1.size)
      have d0 : W1.cell? ⟨wr.heap.size, 0, none⟩ = some (.int .i64 x.1) := by rw [hW1]; exact cell_new wr _ _ rfl
      have d1 : W1.cell? ⟨wr.heap.size, 1, none⟩ = some (.int .i64 x.2) := by rw [hW1]; exact cell_new wr _ _ rfl
      have hct := Lib.hid (contains_any but x.1 u W1 hu1 hb)
      have hhas := DMs_has acc x.1
      have hown := hm1.out
      unfold OM at hown
      replace hW1 := Lib.hid hW1.symm
      replace hx := Lib.hid hx
      replace hacc := Lib.hid hacc
      replace hnxt := Lib.hid hnxt
      replace htk := Lib.hid htk
      replace i1 := Lib.hid i1
      replace i0 := Lib.hid i0
      clear hg1 hm hur hvr hq hsz h3 h4 hc
      unfold addM at hnext
      have stay : ∀ (hh : nxt = acc), Hid (OM (mayL but (l.take (k + 1))) (k + 1) B W1) := fun hh => Lib.hid (by
        rw [← hnxt.out, hh]; exact World.ownsMap.mono hm1.out (by omega))
      by_cases p1 : 0 < x.2
      · have p1' : ¬ (x.2 ≤ 0) := by omega
        rw [decide_eq_true p1, Bool.true_and] at hnext
        cases hk1 : hasC acc x.1 with
        | true =>
          rw [hk1] at hnext hhas
          have hst := stay (by simpa using hnext)
          clear stay hnext
          go_upto_region 5 with (fail)
          rw [hW1.out]
          go_wp2_with (first
            | (at_lookup; go_must (refine wpList_lookup_own_ok_int _ rfl _ _ 36 rfl 3 3 .i64 lawI Try.underlying36 Try.underlying3 (zeroI _) B k (DMs acc) rfl hown _ _ rfl hkey ?_); intro c hat hwc; rw [hhas]))
          go_roundw
          case rel => exact ⟨k + 1, by omega, by go_num, hst, hq1, hsz1⟩
          case measure => simp [intOf]; omega
        | false =>
          rw [hk1] at hnext hhas
          cases hc1 : but.contains x.1 with
          | true =>
            rw [hc1] at hnext hct
            have hst := stay (by simpa using hnext)
            clear stay hnext
            replace hc1 := Lib.hid hc1
            go_upto_region 5 with (fail)
            rw [hW1.out]
            go_wp2_with (first
              | (at_lookup; go_must (refine wpList_lookup_own_ok_int _ rfl _ _ 36 rfl 3 3 .i64 lawI Try.underlying36 Try.underlying3 (zeroI _) B k (DMs acc) rfl hown _ _ rfl hkey ?_); intro c hat hwc; rw [hhas])
              | (go_at_call 19; go_must (refine hct.out.mono ?_); rintro e w' ⟨rfl, rfl⟩))
            go_roundw
            case rel => exact ⟨k + 1, by omega, by go_num, hst, hq1, hsz1⟩
            case measure => simp [intOf]; omega
          | false =>
            rw [hc1] at hnext hct
            have hnx : nxt = acc ++ [x] := by simpa using hnext
            clear stay hnext
            replace hc1 := Lib.hid hc1
            go_upto_region 5 with (fail)
            rw [hW1.out]
            go_wp2_with (first
              | (at_lookup; go_must (refine wpList_lookup_own_ok_int _ rfl _ _ 36 rfl 3 3 .i64 lawI Try.underlying36 Try.underlying3 (zeroI _) B k (DMs acc) rfl hown _ _ rfl hkey ?_); intro c hat hwc; rw [hhas])
              | (go_at_call 19; go_must (refine hct.out.mono ?_); rintro e w' ⟨rfl, rfl⟩)
              | (at_mapUpdate; go_must (refine wpList_mapUpdate_own _ rfl _ _ _ 36 rfl 3 3 lawI Try.underlying36 _ B k _ rfl hown (by unfold maxLen; omega) _ _ _ rfl rfl hkey _ [] (plainElem_int Try.underlying3 (wfI i1.out)) ?_); intro w9 hown9 hgrow9))
            have hst : Hid (OM (mayL but (l.take (k + 1))) (k + 1) B w9) := Lib.hid (by
              rw [← hnxt.out, hnx]; unfold OM; rw [DMs_snoc]; exact hown9)
            have hq9 : Hid (Below B w w9) := Lib.hid (hq1.out.grown hgrow9 (by have := hsz1.out; omega) (fun j e => by cases e; exact Nat.le_refl _))
            have hsz9 : Hid (B + 1 ≤ w9.heap.size) := Lib.hid (Nat.le_trans hsz1.out hgrow9.size)
            go_roundw
            case rel => exact ⟨k + 1, by omega, by go_num, hst, hq9, hsz9⟩
            case measure => simp [intOf]; omega
      · have p1' : x.2 ≤ 0 := by omega
        rw [decide_eq_false p1, Bool.false_and] at hnext
        have hst := stay (by simpa using hnext)
        clear stay hnext
        go_upto_region 5 with (fail)
        rw [hW1.out]
        go_wp2_with (first
          | (at_lookup; go_must (refine wpList_lookup_own_ok_int _ rfl _ _ 36 rfl 3 3 .i64 lawI Try.underlying36 Try.underlying3 (zeroI _) B k (DMs acc) rfl hown _ _ rfl hkey ?_); intro c hat hwc; generalize Maps.has (DMs acc) (kI x.1) = kb))
        go_roundw
        case rel => exact ⟨k + 1, by omega, by go_num, hst, hq1, hsz1⟩
        case measure => simp [intOf]; omega
    · obtain rfl : k = n := by omega
      have ik : decide ((k : Int) < (k : Int)) = false := decide_eq_false (by omega)
      clear hkn
      have hfin : Hid (OM (mayL but l) 60 B wr) := Lib.hid (by
        have := hm.out
        rw [List.take_of_length_le (by rw [hn.out]; omega)] at this
        exact World.ownsMap.mono this (by omega))
      go_wp2_with fail
      go_ret
      exact ⟨_, rfl, hfin, Nat.le_refl _, hgr.out⟩
end Go.Proofs.Ytfiaedhdgbnfiaa
