/- model: New, has, Put, Delete, Get. -/
import Derived.Test.YtipdjchgdhfciaaMdM
import Derived.Test.YtipdjchgdhfciaaClone
import Derived.Test.YtipdjchgdhfciaaReg2
import Derived.Deep.DeepCutAuto
import Derived.LoopTactic
import Derived.WalkSpells
namespace Go.Proofs.Ytipdjchgdhfciaa
set_option linter.unusedVariables false
set_option linter.unusedSimpArgs false
open Go Go.RowKit Go.Maps
def GrM (w w' : World) : Prop := Below w.heap.size w w'
theorem GrM.refl (w : World) : GrM w w := Below.refl _ w
theorem GrM.trans {x y z : World} (h1 : GrM x y) (h2 : GrM y z) : GrM x z := Below.trans h1 (Below.mono h2 (Below.size h1))
theorem GrM.road : Road GrM := ⟨GrM.refl, GrM.trans⟩
theorem GrM.alloc (w : World) (o : Obj) : GrM w (w.alloc o) := (Below.refl _ w).alloc (Nat.le_refl _) o
set_option maxRecDepth 10000 in
theorem fitIn_any (n a b : Int) (w : World) : Calls Try.prog 35 #[.int .i64 n, .int .i64 a, .int .i64 b] w fun e w' => e = .returned (.bool (decide (a ≤ n) && decide (n ≤ b))) ∧ w' = w := by
  by_cases h1 : a ≤ n
  · have i1 : decide (a ≤ n) = true := decide_eq_true h1
    rw [i1]
    go_enter Try.func35, Try.ntmps35
    go_wp2_with fail
    go_ret
    exact ⟨by first | rfl | simp, rfl⟩
  · have i1 : decide (a ≤ n) = false := decide_eq_false h1
    rw [i1]
    clear h1
    go_enter Try.func35, Try.ntmps35
    go_wp2_with fail
    go_ret
    exact ⟨by first | rfl | simp, rfl⟩
def keyOk (k : List UInt8) : Bool := decide (1 ≤ k.length) && decide (k.length ≤ 16)
set_option maxRecDepth 10000 in
theorem fitKey_any (k : List UInt8) (hk : k.length ≤ maxLen) (w : World) : Calls Try.prog 27 #[.string (bs k)] w fun e w' => e = .returned (.bool (keyOk k)) ∧ w' = w := by
  have hs : (bs k).size = k.length := rfl
  have hc := Lib.hid (fitIn_any (k.length : Int) 1 16 w)
  have e : (decide ((1 : Int) ≤ (k.length : Int)) && decide ((k.length : Int) ≤ 16)) = keyOk k := by unfold keyOk; congr 1 <;> (apply decide_eq_decide.mpr; omega)
  rw [e] at hc
  go_enter Try.func27, Try.ntmps27
  go_wp2_with (go_at_call 35; go_must (refine hc.out.mono ?_); rintro e w' ⟨rfl, hee⟩; rw [hee]; clear hee)
  go_ret
  exact ⟨rfl, rfl⟩
set_option maxRecDepth 10000 in
theorem new22_any (w : World) : Calls Try.prog 8 #[] w fun e w' => ∃ g b, e = .returned (.pointer (some ⟨g, 0, none⟩)) ∧ Hid (Md w' w.heap.size g b 0 []) ∧ GrM w w' := by
  have hmm := @run_makeMap Try.prog
  go_enter Try.func8, Try.ntmps8
  go_wp2_with fail
  go_ret
  refine ⟨_, w.heap.size, rfl, Lib.hid ?_, (GrM.alloc _ _).trans (GrM.alloc _ _)⟩
  refine ⟨by simpa using heap_alloc_new (w.alloc (.map #[] 0)) _, by simp, Nat.le_refl _, ⟨_, World.ownsMap.alloc (World.ownsMap_made w _ _ _) _, MRel.nil_⟩, fun e h => (by cases h), fun e h => (by cases h)⟩
set_option maxRecDepth 10000 in
theorem has22_any (lo g b n : Nat) (L : List En) (k : List UInt8) (hk : k.length ≤ maxLen) (w : World) (h : Hid (Md w lo g b n L)) :
    Calls Try.prog 25 #[.pointer (some ⟨g, 0, none⟩), .string (bs k)] w fun e w' => e = .returned (.bool (hasK L k)) ∧ w' = w := by
  obtain ⟨D, hown, hrel⟩ := h.out.own
  have hkey := keyS hk
  have c0 := blk_cell (j := 0) (v := .map (some b)) h.out.blk rfl
  have hh := hrel.has k
  replace hrel := Lib.hid hrel
  go_enter Try.func25, Try.ntmps25
  go_wp2_with (at_lookup; go_must (refine wpList_lookup_own_ok _ rfl _ _ 55 rfl 9 29 lawS Try.underlying55 RV (zeroV _) (.held (.slice none 0 0)) [] rfl b n D rfl hown _ _ rfl hkey ?_); intro v ps hv; rw [hh])
  go_ret
  exact ⟨rfl, rfl⟩
def putE (L : List En) (k d : List UInt8) : Int := if keyOk k = false then 2 else if 512 < d.length then 3 else if hasK L k = true then 4 else 0
/-- a put: refused, or one more -/
def PutPost (lo g b n : Nat) (L : List En) (k d : List UInt8) (w : World) (e : Ending) (w' : World) : Prop :=
  e = .returned (.int .i64 (putE L k d)) ∧ ((putE L k d ≠ 0 ∧ w' = w) ∨ (putE L k d = 0 ∧ ∃ v, Hid (Md w' lo g b (n + 1) (L ++ [(k, v, d)])) ∧ Upd (· = b) w w'))
theorem Upd.of_gr {S : Nat → Prop} {w w' : World} (h : GrM w w') : Upd S w w' := Upd.of_below h
set_option maxHeartbeats 1000000 in
set_option maxRecDepth 10000 in
theorem put22_any (lo g b n : Nat) (L : List En) (k d : List UInt8) (A : Option Addr) (m c : Nat) (hk : k.length ≤ maxLen) (hd : d.length = m) (hn : n ≤ 1000000) (w : World) (hlo : lo ≤ w.heap.size) (h : Hid (Md w lo g b n L)) (hr : Rd w w.heap.size A d) :
    Calls Try.prog 11 #[.pointer (some ⟨g, 0, none⟩), .string (bs k), .slice A m c] w fun e w' => PutPost lo g b n L k d w e w' := by
  have hkc := Lib.hid (fitKey_any k hk w)
  have hhc := Lib.hid (has22_any lo g b n L k hk w h)
  have hkey := keyS hk
  have hsz : (bs k).size = k.length := rfl
  unfold PutPost
  by_cases h1 : keyOk k = true
  · rw [h1] at hkc
    by_cases h2 : 512 < m
    · have he : putE L k d = 3 := by unfold putE; rw [h1, if_neg (by simp), if_pos (by omega)]
      rw [he]
      have i2 : (512 : Int) < (m : Int) := by omega
      replace hd := Lib.hid hd
      go_enter Try.func11, Try.ntmps11
      go_wp2_with (go_at_call 27; go_must (refine hkc.out.mono ?_); rintro e w' ⟨rfl, hee⟩; rw [hee]; clear hee)
      go_ret
      exact ⟨rfl, .inl ⟨by decide, rfl⟩⟩
    · have i2 : decide ((512 : Int) < (m : Int)) = false := decide_eq_false (by omega)
      have i2n : decide (512 < m) = false := decide_eq_false h2
      have h2' : m ≤ 512 := by omega
      cases h3 : hasK L k with
      | true =>
        have he : putE L k d = 4 := by unfold putE; rw [h1, if_neg (by simp), if_neg (by omega), h3]; rfl
        rw [he]
        rw [h3] at hhc
        replace hd := Lib.hid hd
        clear h2
        go_enter Try.func11, Try.ntmps11
        go_wp2_with (first
          | (go_at_call 27; go_must (refine hkc.out.mono ?_); rintro e w' ⟨rfl, hee⟩; rw [hee]; clear hee)
          | (go_at_call 25; go_must (refine hhc.out.mono ?_); rintro e w' ⟨rfl, hee⟩; rw [hee]; clear hee))
        go_ret
        exact ⟨rfl, .inl ⟨by decide, rfl⟩⟩
      | false =>
        have he : putE L k d = 0 := by unfold putE; rw [h1, if_neg (by simp), if_neg (by omega), h3]; rfl
        rw [he]
        rw [h3] at hhc
        have hhas := Lib.hid h3
        have hnm : n < maxLen := by simp only [maxLen]; omega
        have hko : 1 ≤ k.length ∧ k.length ≤ 16 ∧ d.length ≤ 512 := by
          unfold keyOk at h1
          simp only [Bool.and_eq_true, decide_eq_true_eq] at h1
          exact ⟨h1.1, h1.2, by omega⟩
        replace hko := Lib.hid hko
        have hdl := Lib.hid hd
        have c0 := blk_cell (j := 0) (v := .map (some b)) h.out.blk rfl
        obtain ⟨wd, hwd⟩ : ∃ wd, wd = w.drew := ⟨_, rfl⟩
        have hgd : GrM w wd := by rw [hwd]; exact (Below.refl _ _).drew
        have hmd := Md.below hgd h
        have hcl := Lib.hid (clone_any A m c d hd (by omega) wd (by have := hr.below hgd; exact this.more hgd.size))
        have hblk := Lib.hid hmd.out.blk
        have hgd2 := Lib.hid hmd.out.lt.1
        have hlod : Hid (lo ≤ wd.heap.size) := Lib.hid (Nat.le_trans hlo hgd.size)
        replace hd := Lib.hid hd
        replace h3 := Lib.hid h3
        clear h2 hdl
        replace hgd := Lib.hid hgd
        have hnil := fun (w : World) (r : Option Nat) => run_eql_map_nil (P := Try.prog) w 55 _ _ r Try.underlying55
        go_enter Try.func11, Try.ntmps11
        go_upto_region 11 with (first
          | (go_at_call 27; go_must (refine hkc.out.mono ?_); rintro e w' ⟨rfl, hee⟩; rw [hee]; clear hee)
          | (go_at_call 25; go_must (refine hhc.out.mono ?_); rintro e w' ⟨rfl, hee⟩; rw [hee]; clear hee))
        refine wpR_region (GrM) 7 (by kernel_rfl) ?_
        (rw [← hwd]; replace hwd := Lib.hid hwd)
        refine wpR_take (i := 0) (v := ?_) (GrM.road) (some 31) rfl (by kernel_rfl) (by kernel_rfl) (by kernel_rfl) (by kernel_rfl) (by kernel_rfl) (fun _ _ _ h => h) (by kernel_rfl) (fun w' hw' => ?_) ?_
        rotate_left
        · go_simp; with_reducible rfl
        simp only [Act.put, List.setIfInBounds_toArray, List.set_cons_zero, List.set_cons_succ]
        refine wpR_take (i := 1) (v := ?_) (GrM.road) (some 32) rfl (by kernel_rfl) (by kernel_rfl) (by kernel_rfl) (by kernel_rfl) (by kernel_rfl) (fun _ _ _ h => h) (by kernel_rfl) (fun w' hw' => ?_) ?_
        rotate_left
        · go_simp; with_reducible rfl
        simp only [Act.put, List.setIfInBounds_toArray, List.set_cons_zero, List.set_cons_succ]
        refine wpR_take (i := 2) (v := ?_) (GrM.road) (some 33) rfl (by kernel_rfl) (by kernel_rfl) (by kernel_rfl) (by kernel_rfl) (by kernel_rfl) (fun _ _ _ h => h) (by kernel_rfl) (fun w' hw' => ?_) ?_
        rotate_left
        · go_simp; with_reducible rfl
        simp only [Act.put, List.setIfInBounds_toArray, List.set_cons_zero, List.set_cons_succ]
        refine wpR_take (i := 3) (v := ?_) (GrM.road) (some 34) rfl (by kernel_rfl) (by kernel_rfl) (by kernel_rfl) (by kernel_rfl) (by kernel_rfl) (fun _ _ _ h => h) (by kernel_rfl) (fun w' hw' => ?_) ?_
        rotate_left
        · have q := (blk_cell (j := 0) (v := .map (some b)) (((hw'.block g hgd2.out).trans hblk.out)) rfl); go_simp; with_reducible rfl
        simp only [Act.put, List.setIfInBounds_toArray, List.set_cons_zero, List.set_cons_succ]
        refine wpR_take (i := 4) (v := ?_) (GrM.road) (some 35) rfl (by kernel_rfl) (by kernel_rfl) (by kernel_rfl) (by kernel_rfl) (by kernel_rfl) (fun _ _ _ h => h) (by kernel_rfl) (fun w' hw' => ?_) ?_
        rotate_left
        · go_simp; with_reducible rfl
        simp only [Act.put, List.setIfInBounds_toArray, List.set_cons_zero, List.set_cons_succ]
        refine wpR_take (i := 5) (v := ?_) (GrM.road) (some 36) rfl (by kernel_rfl) (by kernel_rfl) (by kernel_rfl) (by kernel_rfl) (by kernel_rfl) (fun _ _ _ h => h) (by kernel_rfl) (fun w' hw' => ?_) ?_
        rotate_left
        · go_simp; with_reducible rfl
        simp only [Act.put, List.setIfInBounds_toArray, List.set_cons_zero, List.set_cons_succ]
        refine wpR_one 6 rfl (by kernel_rfl) (by kernel_rfl) (fun K hK => ?_)
        go_simp
        refine hcl.out.mono ?_
        rintro e w5 ⟨v5, rfl, hv5, hb5⟩
        refine hK _ _ (fun _ => hb5) ?_
        clear hK K
        have hm5 := Md.below hb5 hmd
        have hgw5 : Hid (GrM w w5) := Lib.hid (hgd.out.trans hb5)
        replace hv5 : Hid (OB w5 lo v5 d) := Lib.hid (hv5.more hlod.out)
        clear hcl
        try simp only [Act.put, List.setIfInBounds_toArray, List.set_cons_zero, List.set_cons_succ]
        refine wpR_one 7 rfl (by kernel_rfl) (by kernel_rfl) (fun K hK => ?_)
        go_simp
        obtain ⟨D, hown, hrel⟩ := hm5.out.own
        obtain ⟨w9, hrun, hown9, hgr9⟩ := hown.update lawS Try.underlying55 hnm hkey (val := v5) (show RV v5 = some (.held v5, []) from rfl)
        go_simp
        refine hK _ _ (fun h => absurd h (by decide)) ?_
        clear hK K
        have hput := hrel.put hhas.out v5 d
        replace hgr9 := Lib.hid hgr9
        replace hown9 := Lib.hid hown9
        replace hput := Lib.hid hput
        clear hrun hown
        try simp only [Act.put, List.setIfInBounds_toArray, List.set_cons_zero, List.set_cons_succ]
        refine wpR_done (by kernel_rfl) ?_ _
        go_wp2_with fail
        go_ret
        refine ⟨rfl, .inr ⟨by first | rfl | trivial, v5, Lib.hid ?_, ?_⟩⟩
        · have hne := hm5.out.ne
          have hu : Upd (· = b) w5 w9 := Upd.of_grown hgr9.out rfl
          refine ⟨(hu.2.2.2.2 g hm5.out.lt.1 hne).trans hm5.out.blk, hm5.out.gl, hm5.out.bl, ⟨_, hown9.out, hput.out⟩, fun e he => ?_, fun e he => ?_⟩
          · obtain ⟨D, hown, -⟩ := hm5.out.own
            rcases List.mem_append.mp he with he | he
            · exact row_keep (hm5.out.rows e he) (fun j hj => hu.2.2.2.2 j ((hm5.out.rows e he).lt j hj).2 (fun eb => row_notmap (hm5.out.rows e he) hown (eb ▸ hj)))
            · simp at he; subst he
              exact row_keep hv5.out (fun j hj => hu.2.2.2.2 j (hv5.out.lt j hj).2 (fun eb => row_notmap hv5.out hown (eb ▸ hj)))
          · rcases List.mem_append.mp he with he | he
            · exact hm5.out.ok e he
            · simp at he; subst he; exact hko.out
        · exact (Upd.of_gr hgw5.out).trans (Upd.of_grown hgr9.out rfl)
  · have h1' : keyOk k = false := by simpa using h1
    have he : putE L k d = 2 := by unfold putE; rw [h1', if_pos rfl]
    rw [he]
    rw [h1'] at hkc
    replace hd := Lib.hid hd
    clear h1
    go_enter Try.func11, Try.ntmps11
    go_wp2_with (go_at_call 27; go_must (refine hkc.out.mono ?_); rintro e w' ⟨rfl, hee⟩; rw [hee]; clear hee)
    go_ret
    exact ⟨rfl, .inl ⟨by decide, rfl⟩⟩
theorem mapTurned_upd {w w' : World} {b : Nat} (h : w.mapTurned w' b) : Upd (· = b) w w' := Upd.of_grown h.grown rfl
def DelPost (lo g b n : Nat) (L : List En) (k : List UInt8) (w : World) (e : Ending) (w' : World) : Prop :=
  (hasK L k = false ∧ e = .returned (.int .i64 5) ∧ w' = w) ∨ (hasK L k = true ∧ e = .returned (.int .i64 0) ∧ Hid (Md w' lo g b n (delK L k)) ∧ Upd (· = b) w w')
set_option maxHeartbeats 1000000 in
set_option maxRecDepth 10000 in
theorem del22_any (lo g b n : Nat) (L : List En) (k : List UInt8) (hk : k.length ≤ maxLen) (w : World) (h : Hid (Md w lo g b n L)) :
    Calls Try.prog 9 #[.pointer (some ⟨g, 0, none⟩), .string (bs k)] w fun e w' => DelPost lo g b n L k w e w' := by
  have hhc := Lib.hid (has22_any lo g b n L k hk w h)
  have hkey := keyS hk
  unfold DelPost
  cases h3 : hasK L k with
  | false =>
    rw [h3] at hhc
    go_enter Try.func9, Try.ntmps9
    go_wp2_with (go_at_call 25; go_must (refine hhc.out.mono ?_); rintro e w' ⟨rfl, hee⟩; rw [hee]; clear hee)
    go_ret
    exact .inl ⟨by first | rfl | trivial, rfl, rfl⟩
  | true =>
    rw [h3] at hhc
    obtain ⟨D, hown, hrel⟩ := h.out.own
    have hdel := Lib.hid (hrel.del h3)
    have c0 := blk_cell (j := 0) (v := .map (some b)) h.out.blk rfl
    replace hrel := Lib.hid hrel
    replace h3 := Lib.hid h3
    go_enter Try.func9, Try.ntmps9
    go_wp2_with (first
      | (go_at_call 25; go_must (refine hhc.out.mono ?_); rintro e w' ⟨rfl, hee⟩; rw [hee]; clear hee)
      | (at_delete; go_must (refine wpList_delete_own _ rfl _ _ 55 9 rfl 29 lawS Try.underlying55 RV b n D rfl hown _ _ rfl hkey ?_); intro w9 hown9 ht9))
    go_ret
    have hu := mapTurned_upd ht9
    refine .inr ⟨by first | rfl | trivial, rfl, Lib.hid ?_, hu⟩
    refine ⟨(hu.2.2.2.2 g h.out.lt.1 h.out.ne).trans h.out.blk, h.out.gl, h.out.bl, ⟨_, hown9, hdel.out⟩, fun e he => ?_, fun e he => h.out.ok e (List.mem_filter.mp he).1⟩
    have he' := (List.mem_filter.mp he).1
    exact row_keep (h.out.rows e he') (fun j hj => hu.2.2.2.2 j ((h.out.rows e he').lt j hj).2 (fun eb => row_notmap (h.out.rows e he') hown (eb ▸ hj)))
/-- what is stored of a key -/
def GetPost (L : List En) (k : List UInt8) (w : World) (e : Ending) (w' : World) : Prop :=
  (hasK L k = false ∧ e = .returned (.tuple #[.slice none 0 0, .bool false]) ∧ w' = w) ∨
  (hasK L k = true ∧ ∃ x ∈ L, x.1 = k ∧ ∃ v, e = .returned (.tuple #[v, .bool true]) ∧ Hid (OB w' w.heap.size v x.2.2) ∧ GrM w w')
set_option maxHeartbeats 1000000 in
set_option maxRecDepth 10000 in
theorem get22_any (lo g b n : Nat) (L : List En) (k : List UInt8) (hk : k.length ≤ maxLen) (w : World) (h : Hid (Md w lo g b n L)) :
    Calls Try.prog 18 #[.pointer (some ⟨g, 0, none⟩), .string (bs k)] w fun e w' => GetPost L k w e w' := by
  have hhc := Lib.hid (has22_any lo g b n L k hk w h)
  have hkey := keyS hk
  unfold GetPost
  cases h3 : hasK L k with
  | false =>
    rw [h3] at hhc
    go_enter Try.func18, Try.ntmps18
    go_wp2_with (go_at_call 25; go_must (refine hhc.out.mono ?_); rintro e w' ⟨rfl, hee⟩; rw [hee]; clear hee)
    go_ret2
    exact .inl ⟨by first | rfl | trivial, rfl, rfl⟩
  | true =>
    rw [h3] at hhc
    obtain ⟨x, hx, rfl⟩ := (hasK_iff L k).mp h3
    obtain ⟨D, hown, hrel⟩ := h.out.own
    obtain ⟨v, ps, hrun, hv⟩ := hown.lookup lawS Try.underlying55 (zeroV w) (zd := .held (.slice none 0 0)) (zp := []) rfl hkey
    rw [hrel.at_ x hx] at hv
    obtain rfl := RV_inv hv
    have hrow := h.out.rows x hx
    have hok := h.out.ok x hx
    obtain ⟨A, c, hxv, hc1, hc2, hrd, -⟩ := hrow.form
    rw [hxv] at hrun
    have hcl := Lib.hid (clone_any A x.2.2.length c x.2.2 rfl (by omega) w hrd)
    have c0 := blk_cell (j := 0) (v := .map (some b)) h.out.blk rfl
    replace h3 := Lib.hid h3
    replace hrel := Lib.hid hrel
    replace hx := Lib.hid hx
    replace hok := Lib.hid hok
    clear hv hrow hrd
    go_enter Try.func18, Try.ntmps18
    go_wp2_with (first
      | (go_at_call 25; go_must (refine hhc.out.mono ?_); rintro e w' ⟨rfl, hee⟩; rw [hee]; clear hee)
      | (go_at_call 28; go_must (refine hcl.out.mono ?_); rintro e w5 ⟨v5, rfl, hv5, hb5⟩))
    go_ret2
    exact .inr ⟨by first | rfl | trivial, x, hx.out, rfl, v5, rfl, Lib.hid hv5, hb5⟩
end Go.Proofs.Ytipdjchgdhfciaa
