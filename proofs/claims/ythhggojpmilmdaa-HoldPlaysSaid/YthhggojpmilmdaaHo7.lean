/- hold: Put. -/
import Derived.Test.YthhggojpmilmdaaHo6
import Derived.Deep.LoopGhost
namespace Go.Proofs.Ythhggojpmilmdaa
set_option linter.unusedVariables false
set_option linter.unusedSimpArgs false
open Go Go.RowKit
/-- bytes that the cache does not turn -/
def BytH (lo : Nat) (l : List UInt8) (A : Option Addr) (w : World) : Prop := Rd w w.heap.size A l ∧ ∀ ad, A = some ad → 0 < l.length → ad.block < lo ∨ ∃ cs, w.heap[ad.block]? = some (.cells cs 5 (0, 0))
theorem BytH.tchg {lo : Nat} {l : List UInt8} {A : Option Addr} {w w' : World} {ts : List TypeId} (hc : TChg lo ts w w') (hu : 5 ∉ ts) (h : Hid (BytH lo l A w)) : Hid (BytH lo l A w') := Lib.hid (by
  obtain ⟨hr, hb⟩ := h.out
  refine ⟨⟨hr.1, fun hn => ?_⟩, fun ad ha hl => ?_⟩
  · obtain ⟨ad, ha, hlt, hcell⟩ := hr.2 hn
    refine ⟨ad, ha, Nat.lt_of_lt_of_le hlt hc.size, fun j u hj => ?_⟩
    rw [← hcell j u hj]
    refine World.cell?_of_block ?_
    rw [block_of_add]
    rcases hb ad ha (by have := hr.1; simpa using hn) with hh | ⟨cs, hh⟩
    · exact hc.2.2.2.2 _ hlt (fun hs => by have := hs.1; omega)
    · exact (hc.block hh hu).trans hh.symm
  · rcases hb ad ha hl with hh | ⟨cs, hh⟩
    · exact .inl hh
    · exact .inr ⟨cs, hc.block hh hu⟩)
theorem BytH.gr {lo : Nat} {l : List UInt8} {A : Option Addr} {w w' : World} (hg : GrM w w') (h : Hid (BytH lo l A w)) : Hid (BytH lo l A w') := BytH.tchg (ts := []) (TChg.of_below hg) (by simp) h
theorem link_any (lo g r q : Nat) (L : List Nd) (k : List UInt8) (p : Nat) (v : Value) (w1 w : World) (h : Hid (Hd w1 lo g r q L)) (hg : GrM w1 w) (hlo : lo ≤ w1.heap.size) (hpe : p = w1.heap.size) (x y : Value)
    (hp : w.heap[p]? = some (.cells #[.string (bs k), v, x, y] 60 (0, 0))) :
    Calls Try.prog 26 #[.pointer (some ⟨g, 0, none⟩), .pointer (some ⟨p, 0, none⟩)] w fun en w' => (∃ v, en = .returned v) ∧
      (∃ nx bf, Hid (Nds w' nx bf ((p, k, v) :: rootM r :: L.map mnOf)) ∧ Hid (Linked nx bf (r :: (L.map Prod.fst ++ [p]) ++ [r]))) ∧ TChg lo pts w w' := by
  obtain ⟨nx, bf, hn, hl⟩ := (Hd.gr hg h).out.ring
  have hz := ring_last hl
  have hnot : p ∉ r :: L.map Prod.fst := by
    intro hm
    obtain ⟨hg', hr', hL'⟩ := h.out.lt
    rcases List.mem_cons.1 hm with hh | hh
    · omega
    · obtain ⟨e, he, hh⟩ := List.mem_map.1 hh
      have := hL' e he
      omega
  refine (add_any lo g r nx bf _ p k v x y 52 _ w (Lib.hid hn) (Hd.gr hg h).out.blk (by decide) rfl hp ⟨_, _, List.mem_cons_self⟩ (mn_ex hz) (by omega) h.out.lr (ls_of h.out hz)).mono ?_
  rintro en w' ⟨hv, hn', ht⟩
  refine ⟨hv, ⟨_, _, hn', Lib.hid ?_⟩, ht⟩
  have := ring_add hl h.out.nd hnot
  simpa using this
/-- a cache with one pair more -/
theorem Hd.add {w1 w8 w9 : World} {lo g r q p : Nat} {L : List Nd} {k d : List UInt8} {v : Value} (h : Hd w1 lo g r q L) (hlo : lo ≤ w1.heap.size) (hpe : p = w1.heap.size) (hk : ∀ e ∈ L, e.2.1 ≠ k) (hs : sumD L + d.length ≤ q) (ho : OB w1 lo v d)
    {nx bf : Nat → Nat} (hn : Nds w8 nx bf ((p, k, v) :: rootM r :: L.map mnOf)) (hl : Linked nx bf (r :: (L.map Prod.fst ++ [p]) ++ [r])) (ht : TChg lo pts w1 w8) (hu : w9 = w8.setCell ⟨g, 2, none⟩ (.int .i64 ((sumD L + d.length : Nat) : Int))) :
    Hd w9 lo g r q (L ++ [(p, k, v, d)]) ∧ TChg lo hts w8 w9 := by
  have hgb := ht.block h.blk (by decide)
  have htc : TChg lo hts w8 w9 := by rw [hu]; exact TChg.of_set hgb (by simp) h.lg 2 _
  have hgp : ∀ x ∈ (p, k, v) :: rootM r :: L.map mnOf, x.1 ≠ g := fun x hx hh => by
    have := hn x hx
    rw [hh, hgb] at this
    injection this with this
    injection this with _ hT _
    exact absurd hT (by decide)
  have hsum : sumD (L ++ [(p, k, v, d)]) = sumD L + d.length := by rw [sumD_app, sumD_cons, sumD_nil]; rfl
  have hlt := h.lt
  refine ⟨?_, htc⟩
  exact {
    blk := by rw [hsum, hu]; exact blk_set hgb 2 _
    lg := h.lg
    ring := by
      refine ⟨nx, bf, fun x hx => ?_, by simpa using hl⟩
      have hm : x ∈ (p, k, v) :: rootM r :: L.map mnOf := by
        simp only [List.map_append, List.map_cons, List.map_nil, List.mem_cons, List.mem_append, List.mem_singleton, List.not_mem_nil, or_false] at hx ⊢
        rcases hx with hx | hx | hx
        · exact .inr (.inl hx)
        · exact .inr (.inr hx)
        · exact .inl hx
      have := hn.other (j := 2) (u := .int .i64 ((sumD L + d.length : Nat) : Int)) hgp x hm
      rw [hu]
      exact this
    nd := by
      rw [List.map_append, ← List.cons_append, List.nodup_append]
      refine ⟨h.nd, by simp, fun a ha b hb hab => ?_⟩
      simp only [List.map_cons, List.map_nil, List.mem_singleton] at hb
      subst hb
      rcases List.mem_cons.1 ha with hh | hh
      · omega
      · obtain ⟨e, he, hh⟩ := List.mem_map.1 hh
        have := hlt.2.2 e he
        omega
    lr := h.lr
    ls := fun e he => by
      rcases List.mem_append.1 he with he | he
      · exact h.ls e he
      · rw [List.mem_singleton.1 he]
        show lo ≤ p
        omega
    rows := fun e he => by
      rcases List.mem_append.1 he with he | he
      · exact row_tchg (h.rows e he) ((pts_hts ht).trans htc) (by decide)
      · rw [List.mem_singleton.1 he]
        exact row_tchg ho ((pts_hts ht).trans htc) (by decide)
    dist := by
      unfold DistN
      rw [List.pairwise_append]
      refine ⟨h.dist, by simp, fun a ha b hb => ?_⟩
      rw [List.mem_singleton.1 hb]
      exact hk a ha
    le := by rw [hsum]; exact hs
    lq := h.lq }
set_option maxHeartbeats 1000000 in
set_option maxRecDepth 10000 in
theorem put17_no (lo g r q : Nat) (L : List Nd) (k d : List UInt8) (A : Option Addr) (m c : Nat) (hd : d.length = m) (hm : q < m) (w : World) (h : Hid (Hd w lo g r q L)) :
    Calls Try.prog 14 #[.pointer (some ⟨g, 0, none⟩), .string (bs k), .slice A m c] w fun en w' => en = .returned (.bool false) ∧ Hid (Hd w' lo g r q (dropN L k)) ∧ TChg lo hts w w' := by
  have hms := Lib.hid (missing_any lo g r q L w h)
  have hdp := Lib.hid (drop17_any lo g r q L k w h)
  have i1 : (q : Int) < (m : Int) := by omega
  replace hd := Lib.hid hd
  generalize hasN L k = hb at hdp
  go_enter Try.func14, Try.ntmps14
  go_wp2_with (first
    | (go_at_call 23; go_must (refine hms.out.mono ?_); rintro en w1 ⟨rfl, hee⟩; rw [hee]; clear hee hms)
    | (go_at_call 12; go_must (refine hdp.out.mono ?_); rintro en w1 ⟨rfl, hh1, ht1⟩; clear hdp; have c1 := blk_cell (j := 1) hh1.out.blk rfl))
  go_ret
  exact ⟨rfl, hh1, ht1⟩
set_option maxHeartbeats 4000000 in
set_option maxRecDepth 10000 in
theorem put17_yes (lo g r q : Nat) (L : List Nd) (k d : List UInt8) (A : Option Addr) (m c : Nat) (hd : Hid (d.length = m)) (hm : m ≤ q) (w : World) (hlo : Hid (lo ≤ w.heap.size)) (h : Hid (Hd w lo g r q L)) (hby : Hid (BytH lo d A w)) :
    Calls Try.prog 14 #[.pointer (some ⟨g, 0, none⟩), .string (bs k), .slice A m c] w fun en w' => en = .returned (.bool true) ∧
      (∃ p v, w.heap.size ≤ p ∧ Hid (Hd w' lo g r q (trimN q m (dropN L k) ++ [(p, k, v, d)])) ∧ Hid (OB w' w.heap.size v d)) ∧ TChg lo hts w w' := by
  have hms := Lib.hid (missing_any lo g r q L w h)
  have hdp := Lib.hid (drop17_any lo g r q L k w h)
  have hmq : Hid (m ≤ 32768) := Lib.hid (by have := h.out.lq; omega)
  have i1 : decide ((q : Int) < (m : Int)) = false := decide_eq_false (by omega)
  have i1n : decide (q < m) = false := decide_eq_false (by omega)
  have hqq : Hid (q ≤ 32768) := Lib.hid h.out.lq
  replace hm := Lib.hid hm
  generalize hasN L k = hb at hdp
  have hfix : ∃ G, G = trimN q m (dropN L k) ∧ ∀ e ∈ dropN L k, e.2.1 ≠ k := ⟨_, rfl, drop_not⟩
  obtain ⟨G, hG, hne⟩ := hfix
  rw [← hG]
  generalize hDL : dropN L k = D1 at hdp hne hG
  replace hG := Lib.hid hG
  clear hDL
  go_enter Try.func14, Try.ntmps14
  go_wp2_with (first
    | (go_at_call 23; go_must (refine hms.out.mono ?_); rintro en w1 ⟨rfl, hee⟩; rw [hee]; clear hee hms)
    | (go_at_call 12; go_must (refine hdp.out.mono ?_); rintro en w1 ⟨rfl, hh1, ht1⟩; clear hdp; have c1 := blk_cell (j := 1) hh1.out.blk rfl))
  clear c1
  go_loopg [] D1.length (fun gk wr => ∃ L', gk = L'.length ∧ Hid (G = trimN q m L') ∧ (∀ e ∈ L', e.2.1 ≠ k) ∧ Hid (Hd wr lo g r q L') ∧ Hid (TChg lo hts w wr))
  case atStart => exact ⟨D1, rfl, hG, hne, hh1, Lib.hid ht1⟩
  case round =>
    obtain ⟨L', hgk, hGt, hne', hh2, ht2⟩ := hrel
    obtain ⟨wd, hwd⟩ : ∃ wd, wd = wr.drew := ⟨_, rfl⟩
    have hhd : Hid (Hd wd lo g r q L') := Hd.gr (by rw [hwd]; exact (Below.refl _ _).drew) hh2
    have htd : Hid (TChg lo hts w wd) := Lib.hid (by rw [hwd]; exact ht2.out)
    have cu := blk_cell (j := 2) hhd.out.blk rfl
    have cq := blk_cell (j := 1) hhd.out.blk rfl
    have hle := hhd.out.le
    have hwr : IntKind.i64.wrap ((sumD L' : Int) + (m : Int)) = (sumD L' : Int) + (m : Int) := by have := hqq.out; have := hm.out; rw [IntKind.wrap_i64]; omega
    replace hgk := Lib.hid hgk
    clear hh2 ht2 hh1 ht1 hne hG
    by_cases hgt : q < sumD L' + m
    · have i2 : decide ((q : Int) < (sumD L' : Int) + (m : Int)) = true := decide_eq_true (by omega)
      have i2n : decide (q < sumD L' + m) = true := decide_eq_true hgt
      replace hgt := Lib.hid hgt
      replace hle := Lib.hid hle
      go_upto_region 6 with (fail)
      refine wpR_region (Eq) 9999 (by kernel_rfl) ?_
      (rw [← hwd]; replace hwd := Lib.hid hwd)
      refine wpR_take (i := 0) (v := ?_) (⟨fun _ => rfl, Eq.trans⟩) (some 19) rfl (by kernel_rfl) (by kernel_rfl) (by kernel_rfl) (by kernel_rfl) (by kernel_rfl) (fun _ _ _ h => h) (by kernel_rfl) (fun w' hw' => ?_) ?_
      rotate_left
      · go_simp; with_reducible rfl
      simp only [Act.put, List.setIfInBounds_toArray, List.set_cons_zero, List.set_cons_succ]
      refine wpR_take (i := 1) (v := ?_) (⟨fun _ => rfl, Eq.trans⟩) (some 20) rfl (by kernel_rfl) (by kernel_rfl) (by kernel_rfl) (by kernel_rfl) (by kernel_rfl) (fun _ _ _ h => h) (by kernel_rfl) (fun w' hw' => ?_) ?_
      rotate_left
      · go_simp; with_reducible rfl
      simp only [Act.put, List.setIfInBounds_toArray, List.set_cons_zero, List.set_cons_succ]
      refine wpR_take (i := 2) (v := ?_) (⟨fun _ => rfl, Eq.trans⟩) (some 21) rfl (by kernel_rfl) (by kernel_rfl) (by kernel_rfl) (by kernel_rfl) (by kernel_rfl) (fun _ _ _ h => h) (by kernel_rfl) (fun w' hw' => ?_) ?_
      rotate_left
      · go_simp; with_reducible rfl
      simp only [Act.put, List.setIfInBounds_toArray, List.set_cons_zero, List.set_cons_succ]
      refine wpR_take (i := 3) (v := ?_) (⟨fun _ => rfl, Eq.trans⟩) (some 22) rfl (by kernel_rfl) (by kernel_rfl) (by kernel_rfl) (by kernel_rfl) (by kernel_rfl) (fun _ _ _ h => h) (by kernel_rfl) (fun w' hw' => ?_) ?_
      rotate_left
      · subst hw'; go_simp; with_reducible rfl
      simp only [Act.put, List.setIfInBounds_toArray, List.set_cons_zero, List.set_cons_succ]
      refine wpR_take (i := 4) (v := ?_) (⟨fun _ => rfl, Eq.trans⟩) (some 23) rfl (by kernel_rfl) (by kernel_rfl) (by kernel_rfl) (by kernel_rfl) (by kernel_rfl) (fun _ _ _ h => h) (by kernel_rfl) (fun w' hw' => ?_) ?_
      rotate_left
      · go_simp; with_reducible rfl
      simp only [Act.put, List.setIfInBounds_toArray, List.set_cons_zero, List.set_cons_succ]
      refine wpR_take (i := 5) (v := ?_) (⟨fun _ => rfl, Eq.trans⟩) (some 24) rfl (by kernel_rfl) (by kernel_rfl) (by kernel_rfl) (by kernel_rfl) (by kernel_rfl) (fun _ _ _ h => h) (by kernel_rfl) (fun w' hw' => ?_) ?_
      rotate_left
      · go_simp; with_reducible rfl
      simp only [Act.put, List.setIfInBounds_toArray, List.set_cons_zero, List.set_cons_succ]
      refine wpR_take (i := 6) (v := ?_) (⟨fun _ => rfl, Eq.trans⟩) (some 25) rfl (by kernel_rfl) (by kernel_rfl) (by kernel_rfl) (by kernel_rfl) (by kernel_rfl) (fun _ _ _ h => h) (by kernel_rfl) (fun w' hw' => ?_) ?_
      rotate_left
      · go_simp; with_reducible rfl
      simp only [Act.put, List.setIfInBounds_toArray, List.set_cons_zero, List.set_cons_succ]
      refine wpR_take (i := 7) (v := ?_) (⟨fun _ => rfl, Eq.trans⟩) (some 26) rfl (by kernel_rfl) (by kernel_rfl) (by kernel_rfl) (by kernel_rfl) (by kernel_rfl) (fun _ _ _ h => h) (by kernel_rfl) (fun w' hw' => ?_) ?_
      rotate_left
      · go_simp; with_reducible rfl
      simp only [Act.put, List.setIfInBounds_toArray, List.set_cons_zero, List.set_cons_succ]
      refine wpR_take (i := 8) (v := ?_) (⟨fun _ => rfl, Eq.trans⟩) (some 27) rfl (by kernel_rfl) (by kernel_rfl) (by kernel_rfl) (by kernel_rfl) (by kernel_rfl) (fun _ _ _ h => h) (by kernel_rfl) (fun w' hw' => ?_) ?_
      rotate_left
      · go_simp; with_reducible rfl
      simp only [Act.put, List.setIfInBounds_toArray, List.set_cons_zero, List.set_cons_succ]
      refine wpR_take (i := 9) (v := ?_) (⟨fun _ => rfl, Eq.trans⟩) (some 28) rfl (by kernel_rfl) (by kernel_rfl) (by kernel_rfl) (by kernel_rfl) (by kernel_rfl) (fun _ _ _ h => h) (by kernel_rfl) (fun w' hw' => ?_) ?_
      rotate_left
      · go_simp; with_reducible rfl
      simp only [Act.put, List.setIfInBounds_toArray, List.set_cons_zero, List.set_cons_succ]
      refine wpR_take (i := 10) (v := ?_) (⟨fun _ => rfl, Eq.trans⟩) (some 29) rfl (by kernel_rfl) (by kernel_rfl) (by kernel_rfl) (by kernel_rfl) (by kernel_rfl) (fun _ _ _ h => h) (by kernel_rfl) (fun w' hw' => ?_) ?_
      rotate_left
      · subst hw'; go_simp; with_reducible rfl
      simp only [Act.put, List.setIfInBounds_toArray, List.set_cons_zero, List.set_cons_succ]
      refine wpR_take (i := 11) (v := ?_) (⟨fun _ => rfl, Eq.trans⟩) (some 30) rfl (by kernel_rfl) (by kernel_rfl) (by kernel_rfl) (by kernel_rfl) (by kernel_rfl) (fun _ _ _ h => h) (by kernel_rfl) (fun w' hw' => ?_) ?_
      rotate_left
      · go_simp; with_reducible rfl
      simp only [Act.put, List.setIfInBounds_toArray, List.set_cons_zero, List.set_cons_succ]
      refine wpR_done (by kernel_rfl) ?_ _
      cases L' with
      | nil => exact absurd hgt.out (by have := hm.out; rw [sumD_nil]; omega)
      | cons e0 L0 =>
        have hfi := Lib.hid (first_any lo g r q e0 L0 wd hhd)
        go_wp2_with (first
          | (go_at_call 31; go_must (refine hfi.out.mono ?_); rintro en w2 ⟨rfl, hg2⟩; clear hfi; have hev := Lib.hid (evict_any lo g r q [] e0 L0 w2 (Hd.gr hg2 hhd)))
          | (go_at_call 29; go_must (refine hev.out.mono ?_); rintro en w3 ⟨⟨vv, rfl⟩, hh3, ht3⟩; clear hev))
        go_roundg L0.length
        case measure => rw [hgk.out]; simp
        case rel => exact ⟨L0, rfl, Lib.hid (by rw [hGt.out, trim_step hgt.out]), fun e he => hne' e (List.mem_cons_of_mem _ he), hh3, Lib.hid ((htd.out.trans (TChg.of_below hg2)).trans ht3)⟩
    · have i2 : decide ((q : Int) < (sumD L' : Int) + (m : Int)) = false := decide_eq_false (by omega)
      have i2n : decide (q < sumD L' + m) = false := decide_eq_false hgt
      replace hgt := Lib.hid hgt
      replace hle := Lib.hid hle
      go_upto_region 6 with (fail)
      refine wpR_region (Eq) 9999 (by kernel_rfl) ?_
      (rw [← hwd]; replace hwd := Lib.hid hwd)
      refine wpR_take (i := 0) (v := ?_) (⟨fun _ => rfl, Eq.trans⟩) (some 19) rfl (by kernel_rfl) (by kernel_rfl) (by kernel_rfl) (by kernel_rfl) (by kernel_rfl) (fun _ _ _ h => h) (by kernel_rfl) (fun w' hw' => ?_) ?_
      rotate_left
      · go_simp; with_reducible rfl
      simp only [Act.put, List.setIfInBounds_toArray, List.set_cons_zero, List.set_cons_succ]
      refine wpR_take (i := 1) (v := ?_) (⟨fun _ => rfl, Eq.trans⟩) (some 20) rfl (by kernel_rfl) (by kernel_rfl) (by kernel_rfl) (by kernel_rfl) (by kernel_rfl) (fun _ _ _ h => h) (by kernel_rfl) (fun w' hw' => ?_) ?_
      rotate_left
      · go_simp; with_reducible rfl
      simp only [Act.put, List.setIfInBounds_toArray, List.set_cons_zero, List.set_cons_succ]
      refine wpR_take (i := 2) (v := ?_) (⟨fun _ => rfl, Eq.trans⟩) (some 21) rfl (by kernel_rfl) (by kernel_rfl) (by kernel_rfl) (by kernel_rfl) (by kernel_rfl) (fun _ _ _ h => h) (by kernel_rfl) (fun w' hw' => ?_) ?_
      rotate_left
      · go_simp; with_reducible rfl
      simp only [Act.put, List.setIfInBounds_toArray, List.set_cons_zero, List.set_cons_succ]
      refine wpR_take (i := 3) (v := ?_) (⟨fun _ => rfl, Eq.trans⟩) (some 22) rfl (by kernel_rfl) (by kernel_rfl) (by kernel_rfl) (by kernel_rfl) (by kernel_rfl) (fun _ _ _ h => h) (by kernel_rfl) (fun w' hw' => ?_) ?_
      rotate_left
      · subst hw'; go_simp; with_reducible rfl
      simp only [Act.put, List.setIfInBounds_toArray, List.set_cons_zero, List.set_cons_succ]
      refine wpR_take (i := 4) (v := ?_) (⟨fun _ => rfl, Eq.trans⟩) (some 23) rfl (by kernel_rfl) (by kernel_rfl) (by kernel_rfl) (by kernel_rfl) (by kernel_rfl) (fun _ _ _ h => h) (by kernel_rfl) (fun w' hw' => ?_) ?_
      rotate_left
      · go_simp; with_reducible rfl
      simp only [Act.put, List.setIfInBounds_toArray, List.set_cons_zero, List.set_cons_succ]
      refine wpR_take (i := 5) (v := ?_) (⟨fun _ => rfl, Eq.trans⟩) (some 24) rfl (by kernel_rfl) (by kernel_rfl) (by kernel_rfl) (by kernel_rfl) (by kernel_rfl) (fun _ _ _ h => h) (by kernel_rfl) (fun w' hw' => ?_) ?_
      rotate_left
      · go_simp; with_reducible rfl
      simp only [Act.put, List.setIfInBounds_toArray, List.set_cons_zero, List.set_cons_succ]
      refine wpR_take (i := 6) (v := ?_) (⟨fun _ => rfl, Eq.trans⟩) (some 25) rfl (by kernel_rfl) (by kernel_rfl) (by kernel_rfl) (by kernel_rfl) (by kernel_rfl) (fun _ _ _ h => h) (by kernel_rfl) (fun w' hw' => ?_) ?_
      rotate_left
      · go_simp; with_reducible rfl
      simp only [Act.put, List.setIfInBounds_toArray, List.set_cons_zero, List.set_cons_succ]
      refine wpR_take (i := 7) (v := ?_) (⟨fun _ => rfl, Eq.trans⟩) (some 26) rfl (by kernel_rfl) (by kernel_rfl) (by kernel_rfl) (by kernel_rfl) (by kernel_rfl) (fun _ _ _ h => h) (by kernel_rfl) (fun w' hw' => ?_) ?_
      rotate_left
      · go_simp; with_reducible rfl
      simp only [Act.put, List.setIfInBounds_toArray, List.set_cons_zero, List.set_cons_succ]
      refine wpR_take (i := 8) (v := ?_) (⟨fun _ => rfl, Eq.trans⟩) (some 27) rfl (by kernel_rfl) (by kernel_rfl) (by kernel_rfl) (by kernel_rfl) (by kernel_rfl) (fun _ _ _ h => h) (by kernel_rfl) (fun w' hw' => ?_) ?_
      rotate_left
      · go_simp; with_reducible rfl
      simp only [Act.put, List.setIfInBounds_toArray, List.set_cons_zero, List.set_cons_succ]
      refine wpR_take (i := 9) (v := ?_) (⟨fun _ => rfl, Eq.trans⟩) (some 28) rfl (by kernel_rfl) (by kernel_rfl) (by kernel_rfl) (by kernel_rfl) (by kernel_rfl) (fun _ _ _ h => h) (by kernel_rfl) (fun w' hw' => ?_) ?_
      rotate_left
      · go_simp; with_reducible rfl
      simp only [Act.put, List.setIfInBounds_toArray, List.set_cons_zero, List.set_cons_succ]
      refine wpR_take (i := 10) (v := ?_) (⟨fun _ => rfl, Eq.trans⟩) (some 29) rfl (by kernel_rfl) (by kernel_rfl) (by kernel_rfl) (by kernel_rfl) (by kernel_rfl) (fun _ _ _ h => h) (by kernel_rfl) (fun w' hw' => ?_) ?_
      rotate_left
      · subst hw'; go_simp; with_reducible rfl
      simp only [Act.put, List.setIfInBounds_toArray, List.set_cons_zero, List.set_cons_succ]
      refine wpR_take (i := 11) (v := ?_) (⟨fun _ => rfl, Eq.trans⟩) (some 30) rfl (by kernel_rfl) (by kernel_rfl) (by kernel_rfl) (by kernel_rfl) (by kernel_rfl) (fun _ _ _ h => h) (by kernel_rfl) (fun w' hw' => ?_) ?_
      rotate_left
      · go_simp; with_reducible rfl
      simp only [Act.put, List.setIfInBounds_toArray, List.set_cons_zero, List.set_cons_succ]
      refine wpR_done (by kernel_rfl) ?_ _
      go_upto_region 8 with (fail)
      obtain ⟨wd5, hwd5⟩ : ∃ wd5, wd5 = wd.drew := ⟨_, rfl⟩
      have hg5 : GrM wd wd5 := by rw [hwd5]; exact (Below.refl _ _).drew
      have hh5 := Hd.gr hg5 hhd
      have ht5 : Hid (TChg lo hts w wd5) := Lib.hid (htd.out.trans (TChg.of_below hg5))
      have hrd5 : Hid (Rd wd5 wd5.heap.size A d) := Lib.hid (BytH.tchg ht5.out (by decide) hby).out.1
      have hlo5 : Hid (lo ≤ wd5.heap.size) := Lib.hid (Nat.le_trans hlo.out ht5.out.size)
      clear hg5 cu cq
      refine wpR_region (GrM) 8 (by kernel_rfl) ?_
      (rw [← hwd5]; replace hwd5 := Lib.hid hwd5)
      refine wpR_takeU (i := 0) (v := ?_) (GrM.road) (some 37) rfl (by kernel_rfl) (by kernel_rfl) (by kernel_rfl) (by kernel_rfl) (fun _ _ _ h => h) (by kernel_rfl) (fun w' => ?_) ?_
      rotate_left
      · go_simp; with_reducible rfl
      simp only [Act.put, List.setIfInBounds_toArray, List.set_cons_zero, List.set_cons_succ]
      refine wpR_takeU (i := 1) (v := ?_) (GrM.road) (some 38) rfl (by kernel_rfl) (by kernel_rfl) (by kernel_rfl) (by kernel_rfl) (fun _ _ _ h => h) (by kernel_rfl) (fun w' => ?_) ?_
      rotate_left
      · go_simp; with_reducible rfl
      simp only [Act.put, List.setIfInBounds_toArray, List.set_cons_zero, List.set_cons_succ]
      refine wpR_take (i := 2) (v := ?_) (GrM.road) (some 39) rfl (by kernel_rfl) (by kernel_rfl) (by kernel_rfl) (by kernel_rfl) (by kernel_rfl) (fun _ _ _ h => h) (by kernel_rfl) (fun w' hw' => ?_) ?_
      rotate_left
      · go_simp; with_reducible rfl
      simp only [Act.put, List.setIfInBounds_toArray, List.set_cons_zero, List.set_cons_succ]
      refine wpR_takeU (i := 3) (v := ?_) (GrM.road) (some 40) rfl (by kernel_rfl) (by kernel_rfl) (by kernel_rfl) (by kernel_rfl) (fun _ _ _ h => h) (by kernel_rfl) (fun w' => ?_) ?_
      rotate_left
      · go_simp; with_reducible rfl
      simp only [Act.put, List.setIfInBounds_toArray, List.set_cons_zero, List.set_cons_succ]
      refine wpR_takeU (i := 4) (v := ?_) (GrM.road) (some 41) rfl (by kernel_rfl) (by kernel_rfl) (by kernel_rfl) (by kernel_rfl) (fun _ _ _ h => h) (by kernel_rfl) (fun w' => ?_) ?_
      rotate_left
      · go_simp; with_reducible rfl
      simp only [Act.put, List.setIfInBounds_toArray, List.set_cons_zero, List.set_cons_succ]
      refine wpR_one 5 rfl (by kernel_rfl) (by kernel_rfl) (fun K hK => ?_)
      go_simp
      refine (clone_any A m c d hd.out (by have := hmq.out; omega) wd5 hrd5.out).mono ?_
      rintro en w6 ⟨v6, rfl, ho6, hb6⟩
      obtain ⟨A6, c6, hv6, -, -, -, -⟩ := ho6.form
      rw [hd.out] at hv6
      subst hv6
      refine hK _ _ (fun _ => hb6) ?_
      clear hK K
      have hh6 := Hd.gr hb6 hh5
      try simp only [Act.put, List.setIfInBounds_toArray, List.set_cons_zero, List.set_cons_succ]
      refine wpR_takeU (i := 6) (v := ?_) (GrM.road) (some 43) rfl (by kernel_rfl) (by kernel_rfl) (by kernel_rfl) (by kernel_rfl) (fun _ _ _ h => h) (by kernel_rfl) (fun w' => ?_) ?_
      rotate_left
      · go_simp; with_reducible rfl
      simp only [Act.put, List.setIfInBounds_toArray, List.set_cons_zero, List.set_cons_succ]
      refine wpR_one 7 rfl (by kernel_rfl) (by kernel_rfl) (fun K hK => ?_)
      go_simp
      refine hK _ _ (fun _ => GrM.alloc _ _) ?_
      clear hK K
      try simp only [Act.put, List.setIfInBounds_toArray, List.set_cons_zero, List.set_cons_succ]
      refine wpR_one 8 rfl (by kernel_rfl) (by kernel_rfl) (fun K hK => ?_)
      go_simp
      refine (link_any lo g r q L' k w6.heap.size (.slice A6 m c6) w6 _ hh6 (GrM.alloc w6 _) (Nat.le_trans hlo5.out (Below.size hb6)) rfl _ _ (World.alloc_heap_new w6 (.cells #[.string (bs k), .slice A6 m c6, .pointer none, .pointer none] 60))).mono ?_
      rintro en w8 ⟨⟨vv, rfl⟩, ⟨nx, bf, hn8, hl8⟩, ht8⟩
      refine hK _ _ (fun h => absurd h (by decide)) ?_
      clear hK K
      try simp only [Act.put, List.setIfInBounds_toArray, List.set_cons_zero, List.set_cons_succ]
      refine wpR_done (by kernel_rfl) ?_ _
      have hgb := (((TChg.of_below (lo := lo) (ts := pts) (GrM.alloc w6 (.cells #[.string (bs k), .slice A6 m c6, .pointer none, .pointer none] 60))).trans ht8).block hh6.out.blk (by decide))
      have cu := blk_cell (j := 2) hgb rfl
      have fu := blk_free hgb 2
      have hlen := hd.out
      have hadd := Hd.add (w9 := w8.setCell ⟨g, 2, none⟩ (.int .i64 ((sumD L' + d.length : Nat) : Int))) hh6.out (Nat.le_trans hlo5.out (Below.size hb6)) rfl hne' (by rw [hlen]; have := hgt.out; omega) (OB.more ho6 hlo5.out) hn8.out hl8.out ((TChg.of_below (GrM.alloc w6 _)).trans ht8) rfl
      have htt : TChg lo hts wd5 w8 := (TChg.of_below hb6).trans ((TChg.of_below (GrM.alloc w6 (.cells #[.string (bs k), .slice A6 m c6, .pointer none, .pointer none] 60))).trans (pts_hts ht8))
      have hob := row_tchg ho6 (((TChg.of_below (lo := lo) (ts := hts) (GrM.alloc w6 (.cells #[.string (bs k), .slice A6 m c6, .pointer none, .pointer none] 60))).trans (pts_hts ht8)).trans hadd.2) (by decide)
      rw [hlen] at hadd hob
      have ecast : ((sumD L' + m : Nat) : Int) = (sumD L' : Int) + (m : Int) := by omega
      rw [ecast] at hadd hob
      have hb6' := Lib.hid hb6
      have hh := Lib.hid hadd.1
      have hhu := Lib.hid hadd.2
      replace hob := Lib.hid hob
      replace htt := Lib.hid htt
      replace ecast := Lib.hid ecast
      replace hlen := Lib.hid hlen
      replace ht8 := Lib.hid ht8
      clear hadd hgb
      go_wp2_with fail
      go_ret
      refine ⟨rfl, ⟨w6.heap.size, .slice A6 m c6, Nat.le_trans ht5.out.size (Below.size hb6'.out), ?_, Lib.hid ?_⟩, (ht5.out.trans htt.out).trans hhu.out⟩
      · rw [hGt.out, trim_stop hgt.out]
        exact hh
      · exact OB.more (by unfold OB; rw [hd.out]; exact hob.out) ht5.out.size
end Go.Proofs.Ythhggojpmilmdaa
