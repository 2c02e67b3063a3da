/- cat: rows of tombs: one more, where one is, without one. -/
import Derived.Test.YthboeoidgglcgaaCt2
namespace Go.Proofs.Ythboeoidgglcgaa
set_option linter.unusedVariables false
set_option linter.unusedSimpArgs false
set_option linter.unusedSectionVars false
open Go Go.RowKit Go.Maps
def TRow (w : World) (base : Nat) (v : Value) (l : List (By × Int)) : Prop := w.ownsRow base 85 2 v l.length (flatT l)
def aggT (x : By × Int) : Value := .agg #[.string (bs x.1), .int .i64 x.2]
theorem info_tomb : (Try.prog.info? 85).map (fun i => (i.zero, i.size, i.bytes)) = some (some (.agg #[.string ⟨#[]⟩, .int .i64 0]), 2, 24) := by kernel_rfl
theorem tomb0_one : ∀ u ∈ (Value.agg #[.string ⟨#[]⟩, .int .i64 0]).cells.toList, u.oneCell' = true := fun u hu => by
  simp [Value.cells] at hu
  rcases hu with rfl | rfl <;> rfl
theorem flatT_take (l : List (By × Int)) (m : Nat) : (flatT l).take (m * 2) = flatT (l.take m) := by
  induction l generalizing m with
  | nil => simp [flatT]
  | cons p l ih =>
    cases m with
    | zero => simp [flatT]
    | succ m =>
      show (encT p ++ flatT l).take _ = encT p ++ flatT (l.take m)
      rw [show (m + 1) * 2 = (encT p).length + m * 2 from by show (m + 1) * 2 = 2 + m * 2; omega, List.take_length_add_append, ih]
theorem flatT_drop (l : List (By × Int)) (m : Nat) : (flatT l).drop (m * 2) = flatT (l.drop m) := by
  induction l generalizing m with
  | nil => simp [flatT]
  | cons p l ih =>
    cases m with
    | zero => simp
    | succ m =>
      show (encT p ++ flatT l).drop _ = flatT (l.drop m)
      rw [show (m + 1) * 2 = (encT p).length + m * 2 from by show (m + 1) * 2 = 2 + m * 2; omega, List.drop_length_add_append, ih]
theorem wpl_append_T {w : World} {ops : Array Oper} {rest : List Oper} {o : Oper} {a : Act} {Q : Exit → Act → World → Prop} (hgd : o.guard = none) (s x : Operand)
    (ho : o.op = .call { callee := .builtin .append, args := #[s, x], argTypes := #[63, 63] })
    (base : Nat) (v : Value) (l : List (By × Int)) (hs : a.eval s = v) (hown : TRow w base v l)
    (B : Nat) (A : Option Addr) (c m : Nat) (news : List (By × Int)) (hm : news.length = m) (hx : a.eval x = .slice A m c) (hr : Reads w B 2 A m (flatT news))
    (hlen : (l.length + m) * 24 ≤ 140737488355328) (hbase : base ≤ w.heap.size)
    (h : ∀ v' w', TRow w' base v' (l ++ news) → w.grownBy w' v.ownBlock → (v'.ownBlock = v.ownBlock ∨ v'.ownBlock = some w.heap.size) → wpList Try.prog ops Q rest (a.put o.dst v') w') : wpList Try.prog ops Q (o :: rest) a w := by
  obtain ⟨i0, hi, hz0, hz1, hz2⟩ := info_parts info_tomb
  refine wpList_plain hgd fun _ hK => wp_append_any w s x 63 ho base 85 i0 _ 2 24 Try.underlying63 hi hz0 hz1 hz2 rfl (by omega) v l.length (flatT l) hs hown B A m c (flatT news) hx hr (flatT_one news)
    (by simp only [maxLen]; omega) hlen hbase fun v' w' h2 h3 h4 => hK _ _ (h v' w' ?_ h3 h4)
  unfold TRow
  rw [List.length_append, flatT_app, hm]
  exact h2
/-- one block -/
def QS' (g k : Nat) : Prop := k = g
theorem wp_append_fits_T {w : World} {o : Oper} {a : Act} {K : Act → World → Prop} {Q : Exit → Act → World → Prop} (s x : Operand)
    (ho : o.op = .call { callee := .builtin .append, args := #[s, x], argTypes := #[63, 63] })
    (base g n c : Nat) (l : List (By × Int)) (hs : a.eval s = .slice (some ⟨g, 0, none⟩) n c) (hown : w.ownsRow base 85 2 (.slice (some ⟨g, 0, none⟩) n c) n (flatT l))
    (ad : Addr) (m c' : Nat) (news : List (By × Int)) (hx : a.eval x = .slice (some ad) m c') (hr : ∀ j u, (flatT news)[j]? = some u → w.cell? (ad.add j) = some u) (hm : news.length = m) (tot : Nat) (htot : n + m = tot) (hroom : tot ≤ c)
    (h : ∀ w', w'.ownsRow base 85 2 (.slice (some ⟨g, 0, none⟩) tot c) tot (flatT l ++ flatT news) → w.grownBy w' (some g) → K (a.put o.dst (.slice (some ⟨g, 0, none⟩) tot c)) w') : o.wp Try.prog a w K Q := by
  subst htot
  obtain ⟨i0, hi, hz0, hz1, hz2⟩ := info_parts info_tomb
  obtain ⟨w', hrun, h2, h3⟩ := run_append_fits (P := Try.prog) w base 63 o.type 85 i0 2 Try.underlying63 hi hz1 g n c (flatT l) hown ad m c' (flatT news) (by rw [flatT_len, hm]) hr
    (flatT_one news) hroom
  unfold Oper.wp execOp
  simp only [ho, resolve, invoke, builtin, Sem.run_bind, Sem.run_pure, Result.andThen_ok, List.map_toArray, List.map_cons, List.map_nil, hs, hx, hrun]
  exact h w' h2 h3
set_option maxHeartbeats 1000000 in
set_option maxRecDepth 10000 in
theorem delete_T (lo g n c i j m : Nat) (l : List (By × Int)) (hj : j = i + 1) (hm : n = m + 1) (hi : i < n) (hn : l.length = n) (hnm : n ≤ 1000000) (w : World) (h : TRow w lo (.slice (some ⟨g, 0, none⟩) n c) l) :
    Calls Try.prog 58 #[.slice (some ⟨g, 0, none⟩) n c, .int .i64 i, .int .i64 j] w fun e w' => e = .returned (.slice (some ⟨g, 0, none⟩) m c) ∧ TRow w' lo (.slice (some ⟨g, 0, none⟩) m c) (l.eraseIdx i) ∧ Upd (· = g) w w' := by
  unfold TRow at h
  rw [hn] at h
  obtain ⟨hc1, hc2⟩ : n ≤ c ∧ c ≤ maxLen := by obtain ⟨A', c', e, h1, h2⟩ := row_form h; injection e with _ _ e; rw [e]; exact ⟨h1, h2⟩
  unfold maxLen at hc2
  obtain ⟨i0, hi0, hz0, hz1, hz2⟩ := info_parts info_tomb
  have hpre : Hid (w.drew.ownsRow lo 85 2 (.slice (some ⟨g, 0, none⟩) i c) i (flatT (l.take i))) := Lib.hid (by rw [← flatT_take]; exact row_take (w := w) h (by omega))
  have hrd := Reads.of_own h
  have hdc := flatT_drop l j
  have hers : Hid (flatT (l.take i) ++ flatT (l.drop j) = flatT (l.eraseIdx i) ∧ (l.eraseIdx i).length = m) := Lib.hid ⟨by rw [← flatT_app, List.eraseIdx_eq_take_drop_succ, hj], by rw [List.length_eraseIdx, if_pos (by omega)]; omega⟩
  have hmi : i ≤ m := by omega
  have hij : i < j := by omega
  have hjn : j ≤ n := by omega
  have htot : Hid (i + (n - j) = m) := Lib.hid (by omega)
  have hmn : m ≤ n := by omega
  have hic : i ≤ c := by omega
  have hjc : j ≤ c := by omega
  have hij2 : i ≤ j := by omega
  have hmc : m ≤ c := by omega
  have hcm1 : ¬ (c = m) := by omega
  have hcm2 : ¬ (m = c) := by omega
  have hnm1 : Hid (n - m = 1) := Lib.hid (by omega)
  have hld : Hid ((l.drop j).length = n - j) := Lib.hid (by rw [List.length_drop, hn])
  by_cases hcap : c = j
  · have hsrc : Hid (∀ k u, (flatT (l.drop j))[k]? = some u → w.drew.cell? ((⟨g, 0, none⟩ : Addr).add k) = some u) := Lib.hid (fun k u hu => by
      rw [List.drop_eq_nil_of_le (by omega)] at hu
      simp [flatT] at hu)
    replace h := Lib.hid h
    replace hrd := Lib.hid hrd
    replace hdc := Lib.hid hdc
    replace hn := Lib.hid hn
    replace hj := Lib.hid hj
    replace hm := Lib.hid hm
    subst hcap
    replace hld := Lib.hid (hld.out.trans (show n - c = 0 from by omega))
    replace htot := Lib.hid (show i + 0 = m from by have := htot.out; omega)
    go_enter Try.func58, Try.ntmps58
    go_wp2_with fail
    refine wpR_region (Upd (QS' g)) 9999 (by kernel_rfl) ?_
    refine wpR_take (i := 0) (v := ?_) (Upd.road _) (some 20) rfl (by kernel_rfl) (by kernel_rfl) (by kernel_rfl) (by kernel_rfl) (by kernel_rfl) (fun _ _ _ h => h) (by kernel_rfl) (fun w' hw' => ?_) ?_
    rotate_left
    · go_simp; with_reducible rfl
    simp only [Act.put, List.setIfInBounds_toArray, List.set_cons_zero, List.set_cons_succ]
    refine wpR_take (i := 1) (v := ?_) (Upd.road _) (some 21) rfl (by kernel_rfl) (by kernel_rfl) (by kernel_rfl) (by kernel_rfl) (by kernel_rfl) (fun _ _ _ h => h) (by kernel_rfl) (fun w' hw' => ?_) ?_
    rotate_left
    · go_simp; with_reducible rfl
    simp only [Act.put, List.setIfInBounds_toArray, List.set_cons_zero, List.set_cons_succ]
    refine wpR_take (i := 2) (v := ?_) (Upd.road _) (some 22) rfl (by kernel_rfl) (by kernel_rfl) (by kernel_rfl) (by kernel_rfl) (by kernel_rfl) (fun _ _ _ h => h) (by kernel_rfl) (fun w' hw' => ?_) ?_
    rotate_left
    · go_simp; with_reducible rfl
    simp only [Act.put, List.setIfInBounds_toArray, List.set_cons_zero, List.set_cons_succ]
    refine wpR_take (i := 3) (v := ?_) (Upd.road _) (some 23) rfl (by kernel_rfl) (by kernel_rfl) (by kernel_rfl) (by kernel_rfl) (by kernel_rfl) (fun _ _ _ h => h) (by kernel_rfl) (fun w' hw' => ?_) ?_
    rotate_left
    · go_simp; with_reducible rfl
    simp only [Act.put, List.setIfInBounds_toArray, List.set_cons_zero, List.set_cons_succ]
    refine wpR_take (i := 4) (v := ?_) (Upd.road _) (some 24) rfl (by kernel_rfl) (by kernel_rfl) (by kernel_rfl) (by kernel_rfl) (by kernel_rfl) (fun _ _ _ h => h) (by kernel_rfl) (fun w' hw' => ?_) ?_
    rotate_left
    · go_simp; with_reducible rfl
    simp only [Act.put, List.setIfInBounds_toArray, List.set_cons_zero, List.set_cons_succ]
    refine wpR_take (i := 5) (v := ?_) (Upd.road _) (some 25) rfl (by kernel_rfl) (by kernel_rfl) (by kernel_rfl) (by kernel_rfl) (by kernel_rfl) (fun _ _ _ h => h) (by kernel_rfl) (fun w' hw' => ?_) ?_
    rotate_left
    · go_simp; with_reducible rfl
    simp only [Act.put, List.setIfInBounds_toArray, List.set_cons_zero, List.set_cons_succ]
    refine wpR_one 6 rfl (by kernel_rfl) (by kernel_rfl) (fun K hK => ?_)
    refine wp_append_fits_T (.tmp 22) (.tmp 25) rfl lo g i c (l.take i) rfl (hpre.out) _ _ _ _ rfl hsrc.out hld.out m htot.out hmc ?_
    intro w2 hrow2 hg2
    refine hK _ _ (fun _ => Upd.mono (Upd.of_grown (S := (· = g)) hg2 rfl) (fun k h => h)) ?_
    clear hK K
    have hsz2 := hg2.size
    have hu2 := Lib.hid (Upd.of_grown (S := (· = g)) hg2 rfl)
    replace hrow2 := Lib.hid hrow2
    clear hg2
    try simp only [Act.put, List.setIfInBounds_toArray, List.set_cons_zero, List.set_cons_succ]
    refine wpR_take (i := 7) (v := ?_) (Upd.road _) (some 0) rfl (by kernel_rfl) (by kernel_rfl) (by kernel_rfl) (by kernel_rfl) (by kernel_rfl) (fun _ _ _ h => h) (by kernel_rfl) (fun w' hw' => ?_) ?_
    rotate_left
    · go_simp; with_reducible rfl
    simp only [Act.put, List.setIfInBounds_toArray, List.set_cons_zero, List.set_cons_succ]
    refine wpR_done (by kernel_rfl) ?_ _
    obtain ⟨vs, hclr⟩ := run_clear_row 63 i0 _ Try.underlying63 hi0 hz0 rfl tomb0_one (by decide) hrow2.out 1 (c - m) (m * 2) rfl (by decide) (by omega)
    have htl := Lib.hid (row_tail hrow2.out vs (m * 2) (Nat.le_refl _))
    rw [← hnm1.out] at hclr
    go_wp2
    go_ret
    refine ⟨rfl, ?_, (Upd.refl _ w : Upd (· = g) w w.drew).trans (hu2.out.trans htl.out.2)⟩
    unfold TRow
    rw [hers.out.2, ← hers.out.1]
    exact htl.out.1
  · have hsrc : Hid (∀ k u, (flatT (l.drop j))[k]? = some u → w.drew.cell? ((⟨g, j * 2, none⟩ : Addr).add k) = some u) := Lib.hid (fun k u hu => by
      obtain ⟨ad, e, -, hcell⟩ := hrd.2 (by omega)
      injection e with e
      subst e
      rw [← hdc, List.getElem?_drop] at hu
      have := hcell _ u hu
      rw [show ((⟨g, j * 2, none⟩ : Addr).add k) = (⟨g, 0, none⟩ : Addr).add (j * 2 + k) from by
        have := add_of_add (⟨g, 0, none⟩ : Addr) (j * 2) k
        rw [← this]; congr 1; unfold Addr.add; split <;> simp_all]
      exact this)
    have hcap2 : ¬ (j = c) := fun e => hcap e.symm
    replace h := Lib.hid h
    replace hrd := Lib.hid hrd
    replace hdc := Lib.hid hdc
    replace hn := Lib.hid hn
    replace hj := Lib.hid hj
    replace hm := Lib.hid hm
    go_enter Try.func58, Try.ntmps58
    go_wp2_with fail
    refine wpR_region (Upd (QS' g)) 9999 (by kernel_rfl) ?_
    refine wpR_take (i := 0) (v := ?_) (Upd.road _) (some 20) rfl (by kernel_rfl) (by kernel_rfl) (by kernel_rfl) (by kernel_rfl) (by kernel_rfl) (fun _ _ _ h => h) (by kernel_rfl) (fun w' hw' => ?_) ?_
    rotate_left
    · go_simp; with_reducible rfl
    simp only [Act.put, List.setIfInBounds_toArray, List.set_cons_zero, List.set_cons_succ]
    refine wpR_take (i := 1) (v := ?_) (Upd.road _) (some 21) rfl (by kernel_rfl) (by kernel_rfl) (by kernel_rfl) (by kernel_rfl) (by kernel_rfl) (fun _ _ _ h => h) (by kernel_rfl) (fun w' hw' => ?_) ?_
    rotate_left
    · go_simp; with_reducible rfl
    simp only [Act.put, List.setIfInBounds_toArray, List.set_cons_zero, List.set_cons_succ]
    refine wpR_take (i := 2) (v := ?_) (Upd.road _) (some 22) rfl (by kernel_rfl) (by kernel_rfl) (by kernel_rfl) (by kernel_rfl) (by kernel_rfl) (fun _ _ _ h => h) (by kernel_rfl) (fun w' hw' => ?_) ?_
    rotate_left
    · go_simp; with_reducible rfl
    simp only [Act.put, List.setIfInBounds_toArray, List.set_cons_zero, List.set_cons_succ]
    refine wpR_take (i := 3) (v := ?_) (Upd.road _) (some 23) rfl (by kernel_rfl) (by kernel_rfl) (by kernel_rfl) (by kernel_rfl) (by kernel_rfl) (fun _ _ _ h => h) (by kernel_rfl) (fun w' hw' => ?_) ?_
    rotate_left
    · go_simp; with_reducible rfl
    simp only [Act.put, List.setIfInBounds_toArray, List.set_cons_zero, List.set_cons_succ]
    refine wpR_take (i := 4) (v := ?_) (Upd.road _) (some 24) rfl (by kernel_rfl) (by kernel_rfl) (by kernel_rfl) (by kernel_rfl) (by kernel_rfl) (fun _ _ _ h => h) (by kernel_rfl) (fun w' hw' => ?_) ?_
    rotate_left
    · go_simp; with_reducible rfl
    simp only [Act.put, List.setIfInBounds_toArray, List.set_cons_zero, List.set_cons_succ]
    refine wpR_take (i := 5) (v := ?_) (Upd.road _) (some 25) rfl (by kernel_rfl) (by kernel_rfl) (by kernel_rfl) (by kernel_rfl) (by kernel_rfl) (fun _ _ _ h => h) (by kernel_rfl) (fun w' hw' => ?_) ?_
    rotate_left
    · go_simp; with_reducible rfl
    simp only [Act.put, List.setIfInBounds_toArray, List.set_cons_zero, List.set_cons_succ]
    refine wpR_one 6 rfl (by kernel_rfl) (by kernel_rfl) (fun K hK => ?_)
    refine wp_append_fits_T (.tmp 22) (.tmp 25) rfl lo g i c (l.take i) rfl (hpre.out) _ _ _ _ rfl hsrc.out hld.out m htot.out hmc ?_
    intro w2 hrow2 hg2
    refine hK _ _ (fun _ => Upd.mono (Upd.of_grown (S := (· = g)) hg2 rfl) (fun k h => h)) ?_
    clear hK K
    have hsz2 := hg2.size
    have hu2 := Lib.hid (Upd.of_grown (S := (· = g)) hg2 rfl)
    replace hrow2 := Lib.hid hrow2
    clear hg2
    try simp only [Act.put, List.setIfInBounds_toArray, List.set_cons_zero, List.set_cons_succ]
    refine wpR_take (i := 7) (v := ?_) (Upd.road _) (some 0) rfl (by kernel_rfl) (by kernel_rfl) (by kernel_rfl) (by kernel_rfl) (by kernel_rfl) (fun _ _ _ h => h) (by kernel_rfl) (fun w' hw' => ?_) ?_
    rotate_left
    · go_simp; with_reducible rfl
    simp only [Act.put, List.setIfInBounds_toArray, List.set_cons_zero, List.set_cons_succ]
    refine wpR_done (by kernel_rfl) ?_ _
    obtain ⟨vs, hclr⟩ := run_clear_row 63 i0 _ Try.underlying63 hi0 hz0 rfl tomb0_one (by decide) hrow2.out 1 (c - m) (m * 2) rfl (by decide) (by omega)
    have htl := Lib.hid (row_tail hrow2.out vs (m * 2) (Nat.le_refl _))
    rw [← hnm1.out] at hclr
    go_wp2
    go_ret
    refine ⟨rfl, ?_, (Upd.refl _ w : Upd (· = g) w w.drew).trans (hu2.out.trans htl.out.2)⟩
    unfold TRow
    rw [hers.out.2, ← hers.out.1]
    exact htl.out.1
end Go.Proofs.Ythboeoidgglcgaa
