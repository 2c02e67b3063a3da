/- hold: evict, Drop, Get. -/
import Derived.Test.YthhggojpmilmdaaHo5
namespace Go.Proofs.Ythhggojpmilmdaa
set_option linter.unusedVariables false
set_option linter.unusedSimpArgs false
open Go Go.RowKit
abbrev mnOf (e : Nd) : Mn := (e.1, e.2.1, e.2.2.1)
abbrev rootM (r : Nat) : Mn := (r, [], .slice none 0 0)
/-- a cache whose pairs were some of another's -/
theorem Hd.to {w w' : World} {lo g r q : Nat} {L L' : List Nd} (h : Hd w lo g r q L) (hsub : ∀ e ∈ L', e ∈ L) (hnd : (r :: L'.map Prod.fst).Nodup) (hd : DistN L') (hs : sumD L' ≤ q)
    (hb : w'.heap[g]? = some (.cells #[.pointer (some ⟨r, 0, none⟩), .int .i64 q, .int .i64 (sumD L')] 52 (0, 0))) {nx bf : Nat → Nat} {M : List Mn} (hM : Nds w' nx bf M) (hMs : ∀ x ∈ rootM r :: L'.map mnOf, x ∈ M) (hl : Linked nx bf (r :: L'.map Prod.fst ++ [r])) (ht : TChg lo hts w w') : Hd w' lo g r q L' where
  blk := hb
  lg := h.lg
  ring := ⟨nx, bf, fun x hx => hM x (hMs x hx), hl⟩
  nd := hnd
  lr := h.lr
  ls e he := h.ls e (hsub e he)
  rows e he := row_tchg (h.rows e (hsub e he)) ht (by decide)
  dist := hd
  le := hs
  lq := h.lq
theorem nd_del {r : Nat} {L1 L2 : List Nd} {e : Nd} (h : (r :: (L1 ++ e :: L2).map Prod.fst).Nodup) : (r :: (L1 ++ L2).map Prod.fst).Nodup ∧ e.1 ∉ r :: (L1 ++ L2).map Prod.fst := by
  simp only [List.map_append, List.map_cons, List.nodup_cons, List.mem_append, List.mem_cons, not_or, List.nodup_append] at h ⊢
  obtain ⟨⟨h1, h2, h3⟩, h4, ⟨h5, h6⟩, h7⟩ := h
  refine ⟨⟨⟨h1, h3⟩, h4, h6, fun a ha b hb => h7 a ha b (.inr hb)⟩, fun hh => h2 hh.symm, fun hh => h7 _ hh _ (.inl rfl) rfl, h5⟩
theorem dist_del {L1 L2 : List Nd} {e : Nd} (h : DistN (L1 ++ e :: L2)) : DistN (L1 ++ L2) := by
  unfold DistN at h ⊢
  exact h.sublist (List.Sublist.append (List.Sublist.refl _) (List.sublist_cons_self _ _))
theorem sub_del {L1 L2 : List Nd} {e : Nd} : ∀ x ∈ L1 ++ L2, x ∈ L1 ++ e :: L2 := fun x hx => by
  rcases List.mem_append.1 hx with hx | hx
  · exact List.mem_append.2 (.inl hx)
  · exact List.mem_append.2 (.inr (List.mem_cons_of_mem _ hx))
theorem sum_del (L1 L2 : List Nd) (e : Nd) : sumD (L1 ++ e :: L2) = sumD (L1 ++ L2) + e.2.2.2.length := by
  rw [sumD_app, sumD_app, sumD_cons]; omega
theorem mn_ex {L : List Nd} {r k : Nat} (h : k ∈ r :: L.map Prod.fst) : ∃ s v, (k, s, v) ∈ rootM r :: L.map mnOf := by
  rcases List.mem_cons.1 h with rfl | h
  · exact ⟨_, _, List.mem_cons_self⟩
  · obtain ⟨e, he, rfl⟩ := List.mem_map.1 h
    exact ⟨_, _, List.mem_cons_of_mem _ (List.mem_map.2 ⟨e, he, rfl⟩)⟩
theorem mn_sub {L L' : List Nd} {r : Nat} (h : ∀ e ∈ L', e ∈ L) : ∀ x ∈ rootM r :: L'.map mnOf, x ∈ rootM r :: L.map mnOf := fun x hx => by
  rcases List.mem_cons.1 hx with rfl | hx
  · exact List.mem_cons_self
  · obtain ⟨e, he, rfl⟩ := List.mem_map.1 hx
    exact List.mem_cons_of_mem _ (List.mem_map.2 ⟨e, h e he, rfl⟩)
theorem ls_of {w : World} {lo g r q : Nat} {L : List Nd} (h : Hd w lo g r q L) {k : Nat} (hk : k ∈ r :: L.map Prod.fst) : lo ≤ k := by
  rcases List.mem_cons.1 hk with rfl | hk
  · exact h.lr
  · obtain ⟨e, he, rfl⟩ := List.mem_map.1 hk
    exact h.ls e he
theorem pts_hts {lo : Nat} {w w' : World} (h : TChg lo pts w w') : TChg lo hts w w' := h.mono (Nat.le_refl _) (fun t ht => by rw [List.mem_singleton.1 ht]; exact List.mem_cons_of_mem _ (List.mem_singleton.2 rfl))
/-- a pair leaves the ring; nothing else of the cache turns -/
theorem out_any (lo g r q : Nat) (L1 : List Nd) (e : Nd) (L2 : List Nd) (x : Value) (w : World) (h : Hid (Hd w lo g r q (L1 ++ e :: L2))) :
    Calls Try.prog 25 #[x, .pointer (some ⟨e.1, 0, none⟩)] w fun en w' => (∃ v, en = .returned v) ∧
      (∃ nx bf, Hid (Nds w' nx bf (rootM r :: (L1 ++ e :: L2).map mnOf)) ∧ Hid (Linked nx bf (r :: (L1 ++ L2).map Prod.fst ++ [r]))) ∧ TChg lo pts w w' := by
  obtain ⟨nx, bf, hn, hl⟩ := h.out.ring
  have hl' : Linked nx bf (r :: (L1.map Prod.fst ++ e.1 :: L2.map Prod.fst) ++ [r]) := by simpa using hl
  have hnd : (r :: (L1.map Prod.fst ++ e.1 :: L2.map Prod.fst)).Nodup := by simpa using h.out.nd
  obtain ⟨ma, mb⟩ := ring_mem hl'
  have ha : bf e.1 ∈ r :: (L1 ++ e :: L2).map Prod.fst := by
    rcases List.mem_cons.1 ma with hh | hh
    · rw [hh]; exact List.mem_cons_self
    · simp [hh]
  have hb : nx e.1 ∈ r :: (L1 ++ e :: L2).map Prod.fst := by
    rcases List.mem_append.1 mb with hh | hh
    · simp [hh]
    · rw [List.mem_singleton.1 hh]; exact List.mem_cons_self
  refine (rem_any x lo nx bf _ e.1 w (Lib.hid hn) (mn_ex (by simp)) (mn_ex ha) (mn_ex hb) (ls_of h.out ha) (ls_of h.out hb)).mono ?_
  rintro en w' ⟨hv, hn', ht⟩
  exact ⟨hv, ⟨_, _, hn', Lib.hid (by simpa using ring_del hl' hnd)⟩, ht⟩
set_option maxHeartbeats 1000000 in
set_option maxRecDepth 10000 in
theorem evict_any (lo g r q : Nat) (L1 : List Nd) (e : Nd) (L2 : List Nd) (w : World) (h : Hid (Hd w lo g r q (L1 ++ e :: L2))) :
    Calls Try.prog 29 #[.pointer (some ⟨g, 0, none⟩), .pointer (some ⟨e.1, 0, none⟩)] w fun en w' => (∃ v, en = .returned v) ∧ Hid (Hd w' lo g r q (L1 ++ L2)) ∧ TChg lo hts w w' := by
  have hout := Lib.hid (out_any lo g r q L1 e L2 (.pointer (some ⟨g, 0, none⟩)) w h)
  go_enter Try.func29, Try.ntmps29
  go_upto_region 1 with (go_at_call 25; go_must (refine hout.out.mono ?_); rintro en w1 ⟨⟨vv, rfl⟩, ⟨nx, bf, hn, hl⟩, ht⟩; clear hout)
  have hsum := sum_del L1 L2 e
  have hle := h.out.le
  have hlq := h.out.lq
  obtain ⟨wd, hwd⟩ : ∃ wd, wd = w1.drew := ⟨_, rfl⟩
  have ht1 : TChg lo pts w wd := by rw [hwd]; exact ht
  have hnd : Nds wd nx bf (rootM r :: (L1 ++ e :: L2).map mnOf) := by rw [hwd]; exact hn.out
  have hgb := ht1.block h.out.blk (by decide)
  have hpb := hnd (mnOf e) (by simp)
  have hrow := h.out.rows e (by simp)
  obtain ⟨A, c, hv, -, -, -, -⟩ := hrow.form
  dsimp only at hpb
  rw [hv] at hpb
  have c1 := blk_cell (j := 1) hpb rfl
  have c2 := blk_cell (j := 2) hgb rfl
  have f2 := blk_free hgb 2
  have hwr : IntKind.i64.wrap ((sumD (L1 ++ e :: L2) : Int) - (e.2.2.2.length : Int)) = ((sumD (L1 ++ L2) : Nat) : Int) := by rw [IntKind.wrap_i64]; omega
  have hgp : ∀ x ∈ rootM r :: (L1 ++ e :: L2).map mnOf, x.1 ≠ g := fun x hx hh => by
    have := hnd x hx
    rw [hh, hgb] at this
    injection this with this
    injection this with _ hT _
    exact absurd hT (by decide)
  have hnf := hnd.other (j := 2) (u := .int .i64 (sumD (L1 ++ L2))) hgp
  have hbf := blk_set hgb 2 (.int .i64 (sumD (L1 ++ L2)))
  have htf : TChg lo hts w (wd.setCell ⟨g, 2, none⟩ (.int .i64 (sumD (L1 ++ L2)))) := (pts_hts ht1).trans (TChg.of_set hgb (by simp) h.out.lg 2 _)
  obtain ⟨hnd2, -⟩ := nd_del h.out.nd
  have hfin := Lib.hid (h.out.to sub_del hnd2 (dist_del h.out.dist) (by omega) hbf hnf (mn_sub sub_del) hl.out htf)
  replace htf := Lib.hid htf
  clear hbf hnf hgp hrow hv hpb hgb hnd ht1 hn hl ht hnd2 hsum hle hlq
  generalize sumD (L1 ++ e :: L2) = u at *
  generalize sumD (L1 ++ L2) = u2 at *
  refine wpR_region (Eq) 12 (by kernel_rfl) ?_
  (rw [← hwd]; replace hwd := Lib.hid hwd)
  refine wpR_take (i := 0) (v := ?_) (⟨fun _ => rfl, Eq.trans⟩) (some 9) rfl (by kernel_rfl) (by kernel_rfl) (by kernel_rfl) (by kernel_rfl) (by kernel_rfl) (fun _ _ _ h => h) (by kernel_rfl) (fun w' hw' => ?_) ?_
  rotate_left
  · go_simp; with_reducible rfl
  simp only [Act.put, List.setIfInBounds_toArray, List.set_cons_zero, List.set_cons_succ]
  refine wpR_take (i := 1) (v := ?_) (⟨fun _ => rfl, Eq.trans⟩) (some 10) rfl (by kernel_rfl) (by kernel_rfl) (by kernel_rfl) (by kernel_rfl) (by kernel_rfl) (fun _ _ _ h => h) (by kernel_rfl) (fun w' hw' => ?_) ?_
  rotate_left
  · go_simp; with_reducible rfl
  simp only [Act.put, List.setIfInBounds_toArray, List.set_cons_zero, List.set_cons_succ]
  refine wpR_take (i := 2) (v := ?_) (⟨fun _ => rfl, Eq.trans⟩) (some 11) rfl (by kernel_rfl) (by kernel_rfl) (by kernel_rfl) (by kernel_rfl) (by kernel_rfl) (fun _ _ _ h => h) (by kernel_rfl) (fun w' hw' => ?_) ?_
  rotate_left
  · go_simp; with_reducible rfl
  simp only [Act.put, List.setIfInBounds_toArray, List.set_cons_zero, List.set_cons_succ]
  refine wpR_take (i := 3) (v := ?_) (⟨fun _ => rfl, Eq.trans⟩) (some 12) rfl (by kernel_rfl) (by kernel_rfl) (by kernel_rfl) (by kernel_rfl) (by kernel_rfl) (fun _ _ _ h => h) (by kernel_rfl) (fun w' hw' => ?_) ?_
  rotate_left
  · subst hw'; go_simp; with_reducible rfl
  simp only [Act.put, List.setIfInBounds_toArray, List.set_cons_zero, List.set_cons_succ]
  refine wpR_take (i := 4) (v := ?_) (⟨fun _ => rfl, Eq.trans⟩) (some 13) rfl (by kernel_rfl) (by kernel_rfl) (by kernel_rfl) (by kernel_rfl) (by kernel_rfl) (fun _ _ _ h => h) (by kernel_rfl) (fun w' hw' => ?_) ?_
  rotate_left
  · go_simp; with_reducible rfl
  simp only [Act.put, List.setIfInBounds_toArray, List.set_cons_zero, List.set_cons_succ]
  refine wpR_take (i := 5) (v := ?_) (⟨fun _ => rfl, Eq.trans⟩) (some 14) rfl (by kernel_rfl) (by kernel_rfl) (by kernel_rfl) (by kernel_rfl) (by kernel_rfl) (fun _ _ _ h => h) (by kernel_rfl) (fun w' hw' => ?_) ?_
  rotate_left
  · go_simp; with_reducible rfl
  simp only [Act.put, List.setIfInBounds_toArray, List.set_cons_zero, List.set_cons_succ]
  refine wpR_take (i := 6) (v := ?_) (⟨fun _ => rfl, Eq.trans⟩) (some 15) rfl (by kernel_rfl) (by kernel_rfl) (by kernel_rfl) (by kernel_rfl) (by kernel_rfl) (fun _ _ _ h => h) (by kernel_rfl) (fun w' hw' => ?_) ?_
  rotate_left
  · go_simp; with_reducible rfl
  simp only [Act.put, List.setIfInBounds_toArray, List.set_cons_zero, List.set_cons_succ]
  refine wpR_take (i := 7) (v := ?_) (⟨fun _ => rfl, Eq.trans⟩) (some 16) rfl (by kernel_rfl) (by kernel_rfl) (by kernel_rfl) (by kernel_rfl) (by kernel_rfl) (fun _ _ _ h => h) (by kernel_rfl) (fun w' hw' => ?_) ?_
  rotate_left
  · subst hw'; go_simp; with_reducible rfl
  simp only [Act.put, List.setIfInBounds_toArray, List.set_cons_zero, List.set_cons_succ]
  refine wpR_take (i := 8) (v := ?_) (⟨fun _ => rfl, Eq.trans⟩) (some 17) rfl (by kernel_rfl) (by kernel_rfl) (by kernel_rfl) (by kernel_rfl) (by kernel_rfl) (fun _ _ _ h => h) (by kernel_rfl) (fun w' hw' => ?_) ?_
  rotate_left
  · go_simp; with_reducible rfl
  simp only [Act.put, List.setIfInBounds_toArray, List.set_cons_zero, List.set_cons_succ]
  refine wpR_take (i := 9) (v := ?_) (⟨fun _ => rfl, Eq.trans⟩) (some 18) rfl (by kernel_rfl) (by kernel_rfl) (by kernel_rfl) (by kernel_rfl) (by kernel_rfl) (fun _ _ _ h => h) (by kernel_rfl) (fun w' hw' => ?_) ?_
  rotate_left
  · go_simp; with_reducible rfl
  simp only [Act.put, List.setIfInBounds_toArray, List.set_cons_zero, List.set_cons_succ]
  refine wpR_takeU (i := 10) (v := ?_) (⟨fun _ => rfl, Eq.trans⟩) (some 19) rfl (by kernel_rfl) (by kernel_rfl) (by kernel_rfl) (by kernel_rfl) (fun _ _ _ h => h) (by kernel_rfl) (fun w' => ?_) ?_
  rotate_left
  · go_simp; with_reducible rfl
  simp only [Act.put, List.setIfInBounds_toArray, List.set_cons_zero, List.set_cons_succ]
  refine wpR_take (i := 11) (v := ?_) (⟨fun _ => rfl, Eq.trans⟩) (some 20) rfl (by kernel_rfl) (by kernel_rfl) (by kernel_rfl) (by kernel_rfl) (by kernel_rfl) (fun _ _ _ h => h) (by kernel_rfl) (fun w' hw' => ?_) ?_
  rotate_left
  · go_simp; with_reducible rfl
  simp only [Act.put, List.setIfInBounds_toArray, List.set_cons_zero, List.set_cons_succ]
  refine wpR_one 12 rfl (by kernel_rfl) (by kernel_rfl) (fun K hK => ?_)
  go_simp
  refine hK _ _ (fun h => absurd h (by decide)) ?_
  clear hK K
  try simp only [Act.put, List.setIfInBounds_toArray, List.set_cons_zero, List.set_cons_succ]
  refine wpR_done (by kernel_rfl) ?_ _
  go_end0
  exact ⟨⟨_, rfl⟩, hfin, htf.out⟩
theorem findV_no {L : List Nd} {k : List UInt8} (h : hasN L k = false) : findV L k = .pointer none := by
  have : L.find? (fun e => e.2.1 == k) = none := by
    rw [List.find?_eq_none]
    unfold hasN at h
    rw [List.any_eq_false] at h
    exact h
  unfold findV
  rw [this]
theorem findV_yes {L : List Nd} (hd : DistN L) {e : Nd} (he : e ∈ L) {k : List UInt8} (hk : e.2.1 = k) : findV L k = .pointer (some ⟨e.1, 0, none⟩) := by
  unfold findV
  rw [find_some hd he hk]
theorem ring_last {nx bf : Nat → Nat} {r : Nat} {B : List Nat} (h : Linked nx bf (r :: B ++ [r])) : bf r ∈ r :: B := by
  obtain ⟨A0, a, ha⟩ := snoc_of r B
  rw [ha, show A0 ++ [a] ++ [r] = A0 ++ a :: [r] from by simp, linked_app] at h
  rw [h.2.2.1, ha]
  simp
theorem back_any (lo g r q : Nat) (L1 : List Nd) (e : Nd) (L2 : List Nd) (w w1 : World) (h : Hid (Hd w lo g r q (L1 ++ e :: L2))) (nx bf : Nat → Nat) (hn : Hid (Nds w1 nx bf (rootM r :: (L1 ++ e :: L2).map mnOf))) (hl : Hid (Linked nx bf (r :: (L1 ++ L2).map Prod.fst ++ [r]))) (ht : TChg lo pts w w1) :
    Calls Try.prog 26 #[.pointer (some ⟨g, 0, none⟩), .pointer (some ⟨e.1, 0, none⟩)] w1 fun en w' => (∃ v, en = .returned v) ∧ Hid (Hd w' lo g r q ((L1 ++ L2) ++ [e])) ∧ TChg lo hts w w' := by
  obtain ⟨hnd, hnot⟩ := nd_del h.out.nd
  have hgb := ht.block h.out.blk (by decide)
  have hpb := hn.out (mnOf e) (by simp)
  have hz := ring_last hl.out
  have hz2 : bf r ∈ r :: (L1 ++ e :: L2).map Prod.fst := by
    rcases List.mem_cons.1 hz with hh | hh
    · rw [hh]; exact List.mem_cons_self
    · obtain ⟨y, hy, hy2⟩ := List.mem_map.1 hh
      rw [← hy2]
      exact List.mem_cons_of_mem _ (List.mem_map.2 ⟨y, sub_del y hy, rfl⟩)
  refine (add_any lo g r nx bf _ e.1 e.2.1 e.2.2.1 _ _ 52 _ w1 hn hgb (by decide) rfl hpb ⟨_, _, List.mem_cons_self⟩ (mn_ex hz2) (h.out.ls e (by simp)) h.out.lr (ls_of h.out hz2)).mono ?_
  rintro en w' ⟨hv, hn', ht'⟩
  have htf := ht.trans ht'
  refine ⟨hv, Lib.hid ?_, pts_hts htf⟩
  have hs : sumD ((L1 ++ L2) ++ [e]) = sumD (L1 ++ e :: L2) := by rw [sum_del L1 L2 e, sumD_app (L1 ++ L2) [e], sumD_cons, sumD_nil]; omega
  have hsub : ∀ x ∈ (L1 ++ L2) ++ [e], x ∈ L1 ++ e :: L2 := fun x hx => by
    rcases List.mem_append.1 hx with hx | hx
    · exact sub_del x hx
    · rw [List.mem_singleton.1 hx]; simp
  have hperm : ((L1 ++ L2) ++ [e]).Perm (L1 ++ e :: L2) := by
    rw [List.append_assoc]
    exact List.Perm.append_left _ (List.perm_append_singleton e L2)
  refine h.out.to (M := (e.1, e.2.1, e.2.2.1) :: rootM r :: (L1 ++ e :: L2).map mnOf) hsub ?_ ?_ (by rw [hs]; exact h.out.le) ?_ hn'.out (fun x hx => List.mem_cons_of_mem _ (mn_sub hsub x hx)) ?_ (pts_hts htf)
  · exact ((hperm.map Prod.fst).cons r).nodup_iff.2 h.out.nd
  · exact hperm.symm.pairwise h.out.dist (fun hh => hh.symm)
  · rw [hs]
    exact htf.block h.out.blk (by decide)
  · have := ring_add hl.out hnd hnot
    simpa using this
set_option maxHeartbeats 1000000 in
set_option maxRecDepth 10000 in
theorem drop17_any (lo g r q : Nat) (L : List Nd) (k : List UInt8) (w : World) (h : Hid (Hd w lo g r q L)) :
    Calls Try.prog 12 #[.pointer (some ⟨g, 0, none⟩), .string (bs k)] w fun en w' => en = .returned (.bool (hasN L k)) ∧ Hid (Hd w' lo g r q (dropN L k)) ∧ TChg lo hts w w' := by
  have hms := Lib.hid (missing_any lo g r q L w h)
  have hfd := Lib.hid (find_any lo g r q L k w h)
  cases hk : hasN L k with
  | false =>
    rw [findV_no hk] at hfd
    rw [drop_has_no hk]
    clear hk
    go_enter Try.func12, Try.ntmps12
    go_wp2_with (first
      | (go_at_call 23; go_must (refine hms.out.mono ?_); rintro en w1 ⟨rfl, hee⟩; rw [hee]; clear hee hms)
      | (go_at_call 24; go_must (refine hfd.out.mono ?_); rintro en w1 ⟨rfl, hg1⟩; clear hfd))
    go_ret
    exact ⟨rfl, Hd.gr hg1 h, TChg.of_below hg1⟩
  | true =>
    obtain ⟨L1, e, L2, rfl, he, hdr⟩ := split_at h.out.dist hk
    rw [findV_yes h.out.dist (by simp) he] at hfd
    rw [hdr]
    clear hk hdr he
    go_enter Try.func12, Try.ntmps12
    go_wp2_with (first
      | (go_at_call 23; go_must (refine hms.out.mono ?_); rintro en w1 ⟨rfl, hee⟩; rw [hee]; clear hee hms)
      | (go_at_call 24; go_must (refine hfd.out.mono ?_); rintro en w1 ⟨rfl, hg1⟩; clear hfd; have hev := Lib.hid (evict_any lo g r q L1 e L2 w1 (Hd.gr hg1 h)))
      | (go_at_call 29; go_must (refine hev.out.mono ?_); rintro en w2 ⟨⟨vv, rfl⟩, hh2, ht2⟩; clear hev))
    go_ret
    exact ⟨rfl, hh2, (TChg.of_below hg1).trans ht2⟩
set_option maxHeartbeats 1000000 in
set_option maxRecDepth 10000 in
theorem get17_no (lo g r q : Nat) (L : List Nd) (k : List UInt8) (hk : hasN L k = false) (w : World) (h : Hid (Hd w lo g r q L)) :
    Calls Try.prog 10 #[.pointer (some ⟨g, 0, none⟩), .string (bs k)] w fun en w' => en = .returned (.tuple #[.slice none 0 0, .bool false]) ∧ Hid (Hd w' lo g r q L) ∧ TChg lo hts w w' := by
  have hms := Lib.hid (missing_any lo g r q L w h)
  have hfd := Lib.hid (find_any lo g r q L k w h)
  rw [findV_no hk] at hfd
  clear hk
  go_enter Try.func10, Try.ntmps10
  go_wp2_with (first
    | (go_at_call 23; go_must (refine hms.out.mono ?_); rintro en w1 ⟨rfl, hee⟩; rw [hee]; clear hee hms)
    | (go_at_call 24; go_must (refine hfd.out.mono ?_); rintro en w1 ⟨rfl, hg1⟩; clear hfd))
  go_ret2
  exact ⟨rfl, Hd.gr hg1 h, TChg.of_below hg1⟩
set_option maxHeartbeats 1000000 in
set_option maxRecDepth 10000 in
theorem get17_yes (lo g r q : Nat) (L1 : List Nd) (e : Nd) (L2 : List Nd) (k : List UInt8) (hk : e.2.1 = k) (w : World) (h : Hid (Hd w lo g r q (L1 ++ e :: L2))) :
    Calls Try.prog 10 #[.pointer (some ⟨g, 0, none⟩), .string (bs k)] w fun en w' => ∃ v, en = .returned (.tuple #[v, .bool true]) ∧ Hid (OB w' w.heap.size v e.2.2.2) ∧ Hid (Hd w' lo g r q ((L1 ++ L2) ++ [e])) ∧ TChg lo hts w w' := by
  have hms := Lib.hid (missing_any lo g r q _ w h)
  have hfd := Lib.hid (find_any lo g r q _ k w h)
  rw [findV_yes h.out.dist (by simp) hk] at hfd
  have hle : e.2.2.2.length ≤ 140737488355328 := by have h1 := h.out.le; have h2 := h.out.lq; rw [sum_del] at h1; omega
  clear hk
  go_enter Try.func10, Try.ntmps10
  go_wp2_with (first
    | (go_at_call 23; go_must (refine hms.out.mono ?_); rintro en w1 ⟨rfl, hee⟩; rw [hee]; clear hee hms)
    | (go_at_call 24; go_must (refine hfd.out.mono ?_); rintro en w1 ⟨rfl, hg1⟩; clear hfd; have hh1 := Hd.gr hg1 h; have hout := Lib.hid (out_any lo g r q L1 e L2 (.pointer (some ⟨g, 0, none⟩)) w1 hh1))
    | (go_at_call 25; go_must (refine hout.out.mono ?_); rintro en w2 ⟨⟨vv, rfl⟩, ⟨nx, bf, hn, hl⟩, ht2⟩; clear hout; have hbk := Lib.hid (back_any lo g r q L1 e L2 w1 w2 hh1 nx bf hn hl ht2))
    | (go_at_call 26; go_must (refine hbk.out.mono ?_); go_loud ( rintro en w3 ⟨⟨vv, rfl⟩, hh3, ht3⟩; clear hbk; obtain ⟨nx3, bf3, hn3, -⟩ := hh3.out.ring; have hp3 := hn3 (mnOf e) (by simp); have hrow := hh3.out.rows e (by simp); obtain ⟨A, c, hv, hc1, hc2, hrd, -⟩ := hrow.form; dsimp only at hp3; rw [hv] at hp3; have c1 := blk_cell (j := 1) hp3 rfl; have hcl := Lib.hid (clone_any A e.2.2.2.length c e.2.2.2 rfl hle w3 hrd)))
    | (go_at_call 27; go_must (refine hcl.out.mono ?_); rintro en w4 ⟨v4, rfl, ho4, hb4⟩; clear hcl))
  go_ret2
  have hsz := ((TChg.of_below (lo := lo) (ts := hts) hg1).trans ht3).size
  exact ⟨v4, rfl, Lib.hid (OB.more ho4 hsz), Hd.gr hb4 hh3, ((TChg.of_below hg1).trans ht3).trans (TChg.of_below hb4)⟩
end Go.Proofs.Ythhggojpmilmdaa
