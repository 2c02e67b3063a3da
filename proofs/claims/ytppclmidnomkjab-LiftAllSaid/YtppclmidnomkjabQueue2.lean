/- The queue of requests: rows of requests, Clone, Delete, Take, All. -/
import Derived.Test.YtppclmidnomkjabQueue
import Derived.Lib.SliceRun
namespace Go.Proofs.Ytppclmidnomkjab
set_option linter.unusedVariables false
set_option linter.unusedSimpArgs false
open Go Go.RowKit
section
variable {w w' : World} {lo e size n c g : Nat} {A : Option Addr} {xs : List Value}
theorem row_take (ho : w.ownsRow lo e size (.slice A n c) n xs) {m : Nat} (hm : m ≤ n) : w.ownsRow lo e size (.slice A m c) m (xs.take (m * size)) := by
  refine ⟨by rw [List.length_take, ho.1]; exact Nat.min_eq_left (Nat.mul_le_mul_right _ hm), ?_⟩
  rcases ho.2 with ⟨e, h0⟩ | ⟨g, cap, cur, e, h1, h2, h3, h4, h5, h6⟩
  · injection e with e1 e2 e3
    subst e1
    subst e3
    have : m = 0 := by omega
    subst this
    exact .inl ⟨rfl, rfl⟩
  · injection e with e1 e2 e3
    subst e1
    subst e3
    refine .inr ⟨g, c, cur, rfl, h1, h2, by omega, h4, h5, ?_⟩
    rw [← h6, List.take_take, Nat.min_eq_left (Nat.mul_le_mul_right _ hm)]
/-- cells behind the row's own may be stored into -/
theorem row_tail (h : w.ownsRow lo e size (.slice (some ⟨g, 0, none⟩) n c) n xs) (vs : List Value) : ∀ (o : Nat), n * size ≤ o → (w.setCells g o vs).ownsRow lo e size (.slice (some ⟨g, 0, none⟩) n c) n xs ∧ Upd (· = g) w (w.setCells g o vs) := by
  induction vs generalizing w with
  | nil => exact fun o _ => ⟨h, Upd.refl _ _⟩
  | cons v vs ih =>
    intro o ho
    have h1 := (h.stored o v).1
    have hx : xs.set o v = xs := List.set_eq_of_length_le (by have := h.1; omega)
    rw [hx] at h1
    obtain ⟨a, b⟩ := ih h1 (o + 1) (by omega)
    exact ⟨a, (Upd.of_grown (S := (· = g)) (blk_grown w g o v) rfl).trans b⟩
theorem run_clear_row {P : Program} (t : TypeId) (i : TypeInfo) (z : Value) (ht : P.underlying t = some (.slice e)) (hi : P.info? e = some i) (hz : i.zero = some z) (hzs : z.cells.size = size) (hz1 : ∀ u ∈ z.cells.toList, u.oneCell' = true) (hs : 0 < size)
    (h : w.ownsRow lo e size (.slice (some ⟨g, 0, none⟩) n c) n xs) (k c' o : Nat) (ho : o = n * size) (hk : 0 < k) (hkc : n + k ≤ c) :
    ∃ vs, ∀ ty, (Builtin.clear_ #[t] ty #[.slice (some ⟨g, o, none⟩) k c']).run P w = .ok (.tuple #[]) (w.setCells g o vs) := by
  subst ho
  refine ⟨(Builtin.zeroCells z.cells k).toList, fun ty => ?_⟩
  obtain ⟨k, rfl⟩ : ∃ j, k = j + 1 := ⟨k - 1, by omega⟩
  have hzv : ∀ w, (zeroValue e).run P w = .ok z w := fun w => by
    simp [zeroValue, typeInfo, hi, hz]
  rcases h.2 with ⟨e', _⟩ | ⟨g', cap, cur, e', _, hg, h3, h4, h5, h6⟩
  · cases e'
  · injection e' with e1 _ e3
    injection e1 with e1
    injection e1 with e1
    subst e1
    subst e3
    have hl : (Builtin.zeroCells z.cells (k + 1)).toList.length = (k + 1) * size := by simp [Builtin.zeroCells, hzs]
    have hst := run_storeCells_cells (P := P) g (n * size) (Builtin.zeroCells z.cells (k + 1)).toList 0 w (fun j hj => by
        rw [hl] at hj
        rw [cell_of_row w g _ cur e (0, 0) hg]
        have h9 : n * size + 0 + j < cur.size := by
          rw [h5]
          calc n * size + 0 + j < n * size + (k + 1) * size := by omega
            _ = (n + (k + 1)) * size := (Nat.add_mul n (k + 1) size).symm
            _ ≤ c * size := Nat.mul_le_mul_right _ hkc
        rw [Array.getElem?_eq_getElem h9]; rfl)
      (fun j _ => blk_free hg _)
      (fun v hv => by
        simp only [Builtin.zeroCells, Array.toList_map, List.mem_map] at hv
        obtain ⟨a, _, rfl⟩ := hv
        have ha : a % z.cells.size < z.cells.size := Nat.mod_lt _ (by omega)
        rw [getElem!_pos z.cells _ ha]
        exact hz1 _ (by rw [Array.mem_toList_iff]; exact Array.getElem_mem ha))
    simp only [Nat.add_zero] at hst
    simp [Builtin.clear_, run_underlying ht, hzv, hst]
end
/-- one block -/
def QS' (g k : Nat) : Prop := k = g
theorem wp_append_fits_ask {w : World} {o : Oper} {a : Act} {K : Act → World → Prop} {Q : Exit → Act → World → Prop} (s x : Operand)
    (ho : o.op = .call { callee := .builtin .append, args := #[s, x], argTypes := #[37, 37] })
    (base g n c : Nat) (l : List AskR) (hs : a.eval s = .slice (some ⟨g, 0, none⟩) n c) (hown : w.ownsRow base 28 6 (.slice (some ⟨g, 0, none⟩) n c) n (flatA l))
    (ad : Addr) (m c' : Nat) (news : List AskR) (hx : a.eval x = .slice (some ad) m c') (hr : ∀ j u, (flatA news)[j]? = some u → w.cell? (ad.add j) = some u) (hm : news.length = m) (tot : Nat) (htot : n + m = tot) (hroom : tot ≤ c)
    (h : ∀ w', w'.ownsRow base 28 6 (.slice (some ⟨g, 0, none⟩) tot c) tot (flatA l ++ flatA news) → w.grownBy w' (some g) → K (a.put o.dst (.slice (some ⟨g, 0, none⟩) tot c)) w') : o.wp Try.prog a w K Q := by
  subst htot
  obtain ⟨i0, hi, hz0, hz1, hz2⟩ := info_parts info_ask
  obtain ⟨w', hrun, h2, h3⟩ := run_append_fits (P := Try.prog) w base 37 o.type 28 i0 6 Try.underlying37 hi hz1 g n c (flatA l) hown ad m c' (flatA news) (by rw [flatA_len, hm]) hr
    (fun u hu => by
      unfold flatA at hu
      obtain ⟨q, _, hq⟩ := List.mem_flatMap.1 hu
      exact q.one u hq) hroom
  unfold Oper.wp execOp
  simp only [ho, resolve, invoke, builtin, Sem.run_bind, Sem.run_pure, Result.andThen_ok, List.map_toArray, List.map_cons, List.map_nil, hs, hx, hrun]
  exact h w' h2 h3
theorem wpl_append_asks {w : World} {ops : Array Oper} {rest : List Oper} {o : Oper} {a : Act} {Q : Exit → Act → World → Prop} (hgd : o.guard = none) (s x : Operand)
    (ho : o.op = .call { callee := .builtin .append, args := #[s, x], argTypes := #[37, 37] })
    (base : Nat) (v : Value) (l : List AskR) (hs : a.eval s = v) (hown : ARow w base v l)
    (B : Nat) (A : Option Addr) (c m : Nat) (news : List AskR) (hm : news.length = m) (hx : a.eval x = .slice A m c) (hr : Reads w B 6 A m (flatA news))
    (hlen : (l.length + m) * 48 ≤ 140737488355328) (hbase : base ≤ w.heap.size)
    (h : ∀ v' w', ARow w' base v' (l ++ news) → w.grownBy w' v.ownBlock → (v'.ownBlock = v.ownBlock ∨ v'.ownBlock = some w.heap.size) → wpList Try.prog ops Q rest (a.put o.dst v') w') : wpList Try.prog ops Q (o :: rest) a w := by
  obtain ⟨i0, hi, hz0, hz1, hz2⟩ := info_parts info_ask
  refine wpList_plain hgd fun _ hK => wp_append_any w s x 37 ho base 28 i0 _ 6 48 Try.underlying37 hi hz0 hz1 hz2 rfl (by omega) v l.length (flatA l) hs hown B A m c (flatA news) hx hr
    (fun u hu => by
      unfold flatA at hu
      obtain ⟨q, _, hq⟩ := List.mem_flatMap.1 hu
      exact q.one u hq)
    (by simp only [maxLen]; omega) hlen hbase fun v' w' h2 h3 h4 => hK _ _ (h v' w' ?_ h3 h4)
  unfold ARow
  rw [List.length_append, flatA_app, hm]
  exact h2
theorem ARow.reads {w : World} {base n c : Nat} {A : Option Addr} {l : List AskR} (h : ARow w base (.slice A n c) l) : Reads w w.heap.size 6 A n (flatA l) ∧ l.length = n := by
  have hn : l.length = n := by
    obtain ⟨A', c', e, -⟩ := row_form h
    injection e with _ e _
    exact e.symm
  refine ⟨?_, hn⟩
  subst hn
  rcases h.2 with ⟨e, h0⟩ | ⟨g, cap, cur, e, -⟩
  · injection e with e1 e2 e3
    have : l = [] := List.eq_nil_of_length_eq_zero h0
    subst this
    exact ⟨by simp [flatA], fun h => absurd h (by simp)⟩
  · injection e with e1 e2 e3
    subst e1
    exact Reads.of_own h
set_option maxRecDepth 10000 in
theorem clone_asks (A : Option Addr) (n c : Nat) (l : List AskR) (hn : l.length = n) (hl : n ≤ 1000000) (w : World) (hr : Reads w w.heap.size 6 A n (flatA l)) :
    Calls Try.prog 34 #[.slice A n c] w fun e w' => ∃ v, e = .returned v ∧ ARow w' w.heap.size v l ∧ Below w.heap.size w w' := by
  rcases A with _ | ad
  · have hl0 : l = [] := by
      rcases Nat.eq_zero_or_pos n with h0 | h0
      · exact List.eq_nil_of_length_eq_zero (by omega)
      · obtain ⟨_, h, _⟩ := hr.2 h0
        cases h
    subst hl0
    obtain rfl : n = 0 := hn.symm
    have hnil := fun w => Lib.run_eql_slice_nil (P := Try.prog) w 37 28 none 0 c 0 0 Try.underlying37
    replace hr := Lib.hid hr
    go_enter Try.func34, Try.ntmps34
    go_wp2
    go_ret
    exact ⟨_, rfl, World.ownsRow_nil _ _ _ 6, Below.refl _ _⟩
  · have ho : Hid (ARow (w.alloc (.cells #[] 28)) w.heap.size (.slice (some ⟨w.heap.size, 0, none⟩) 0 0) []) := Lib.hid (World.ownsRow_made w #[] 0 (Nat.le_refl _) (by simp [maxLen]) rfl)
    have hrw := Lib.hid (hr.alloc (Nat.le_refl _) (.cells #[] 28))
    clear hr
    replace hn := Lib.hid hn
    have hnil := fun w => Lib.run_eql_slice_nil (P := Try.prog) w 37 28 (some ad) n c 0 0 Try.underlying37
    go_enter Try.func34, Try.ntmps34
    go_wp2_with (at_builtin; go_must (refine wpl_append_asks rfl (.tmp 5) (.tmp 6) rfl w.heap.size (.slice (some ⟨w.heap.size, 0, none⟩) 0 0) [] rfl ho.out w.heap.size (some ad) c n l hn.out rfl hrw.out (by simp; omega) (by simp) ?_); intro v1 w1 hown1 hg1 hv1)
    go_ret
    exact ⟨v1, rfl, by simpa using hown1, ((Below.refl w.heap.size w).alloc (Nat.le_refl _) _).grown hg1 (by simp) (fun k hk => (ho.out.lt k hk).1)⟩
set_option maxRecDepth 10000 in
theorem qall_any (lo g : Nat) (v : Value) (l : List AskR) (most : Nat) (w : World) (h : Qu w lo g v l most) :
    Calls Try.prog 23 #[.pointer (some ⟨g, 0, none⟩)] w fun e w' => ∃ v', e = .returned v' ∧ ARow w' w.heap.size v' l ∧ Below w.heap.size w w' := by
  obtain ⟨A, c, rfl, hc, hm⟩ := h.form
  have c0 := blk_cell (j := 0) h.blk rfl
  have hlen := h.len
  have hmo := h.most
  have hr := Lib.hid h.row.reads.1
  replace h := Lib.hid h
  go_enter Try.func23, Try.ntmps23
  go_wp2_with fail
  refine (clone_asks A l.length c l rfl (by omega) w hr.out).mono ?_
  rintro e w1 ⟨v, rfl, ho, hb⟩
  go_wp2
  go_ret
  exact ⟨v, rfl, ho, hb⟩
set_option maxHeartbeats 1000000 in
set_option maxRecDepth 10000 in
theorem delete_asks (lo g n c i j m : Nat) (l : List AskR) (hj : j = i + 1) (hm : n = m + 1) (hi : i < n) (hn : l.length = n) (hnm : n ≤ 1000000) (w : World) (h : ARow w lo (.slice (some ⟨g, 0, none⟩) n c) l) :
    Calls Try.prog 41 #[.slice (some ⟨g, 0, none⟩) n c, .int .i64 i, .int .i64 j] w fun e w' => e = .returned (.slice (some ⟨g, 0, none⟩) m c) ∧ ARow w' lo (.slice (some ⟨g, 0, none⟩) m c) (l.eraseIdx i) ∧ Upd (· = g) w w' := by
  unfold ARow at h
  rw [hn] at h
  obtain ⟨hc1, hc2⟩ : n ≤ c ∧ c ≤ maxLen := by obtain ⟨A', c', e, h1, h2⟩ := row_form h; injection e with _ _ e; rw [e]; exact ⟨h1, h2⟩
  unfold maxLen at hc2
  obtain ⟨i0, hi0, hz0, hz1, hz2⟩ := info_parts info_ask
  have hpre : Hid (w.drew.ownsRow lo 28 6 (.slice (some ⟨g, 0, none⟩) i c) i (flatA (l.take i))) := Lib.hid (by rw [← flatA_take]; exact row_take (w := w) h (by omega))
  have hrd := Reads.of_own h
  have hdc := flatA_drop l j
  have hers : Hid (flatA (l.take i) ++ flatA (l.drop j) = flatA (l.eraseIdx i) ∧ (l.eraseIdx i).length = m) := Lib.hid ⟨by rw [← flatA_app, List.eraseIdx_eq_take_drop_succ, hj], by rw [List.length_eraseIdx, if_pos (by omega)]; omega⟩
  have hmi : i ≤ m := by omega
  have hij : i < j := by omega
  have hjn : j ≤ n := by omega
  have htot : Hid (i + (n - j) = m) := Lib.hid (by omega)
  have hmn : m ≤ n := by omega
  have hic : i ≤ c := by omega
  have hjc : j ≤ c := by omega
  have hij2 : i ≤ j := by omega
  have hmc : m ≤ c := by omega
  have hcm1 : ¬ (c = m) := by omega
  have hcm2 : ¬ (m = c) := by omega
  have hnm1 : Hid (n - m = 1) := Lib.hid (by omega)
  have hld : Hid ((l.drop j).length = n - j) := Lib.hid (by rw [List.length_drop, hn])
  by_cases hcap : c = j
  · have hsrc : Hid (∀ k u, (flatA (l.drop j))[k]? = some u → w.drew.cell? ((⟨g, 0, none⟩ : Addr).add k) = some u) := Lib.hid (fun k u hu => by
      rw [List.drop_eq_nil_of_le (by omega)] at hu
      simp [flatA] at hu)
    replace h := Lib.hid h
    replace hrd := Lib.hid hrd
    replace hdc := Lib.hid hdc
    replace hn := Lib.hid hn
    replace hj := Lib.hid hj
    replace hm := Lib.hid hm
    subst hcap
    replace hld := Lib.hid (hld.out.trans (show n - c = 0 from by omega))
    replace htot := Lib.hid (show i + 0 = m from by have := htot.out; omega)
    go_enter Try.func41, Try.ntmps41
    go_wp2_with fail
    refine wpR_region (Upd (QS' g)) 9999 (by kernel_rfl) ?_
    refine wpR_take (i := 0) (v := ?_) (Upd.road _) (some 20) rfl (by kernel_rfl) (by kernel_rfl) (by kernel_rfl) (by kernel_rfl) (by kernel_rfl) (fun _ _ _ h => h) (by kernel_rfl) (fun w' hw' => ?_) ?_
    rotate_left
    · go_simp; with_reducible rfl
    simp only [Act.put, List.setIfInBounds_toArray, List.set_cons_zero, List.set_cons_succ]
    refine wpR_take (i := 1) (v := ?_) (Upd.road _) (some 21) rfl (by kernel_rfl) (by kernel_rfl) (by kernel_rfl) (by kernel_rfl) (by kernel_rfl) (fun _ _ _ h => h) (by kernel_rfl) (fun w' hw' => ?_) ?_
    rotate_left
    · go_simp; with_reducible rfl
    simp only [Act.put, List.setIfInBounds_toArray, List.set_cons_zero, List.set_cons_succ]
    refine wpR_take (i := 2) (v := ?_) (Upd.road _) (some 22) rfl (by kernel_rfl) (by kernel_rfl) (by kernel_rfl) (by kernel_rfl) (by kernel_rfl) (fun _ _ _ h => h) (by kernel_rfl) (fun w' hw' => ?_) ?_
    rotate_left
    · go_simp; with_reducible rfl
    simp only [Act.put, List.setIfInBounds_toArray, List.set_cons_zero, List.set_cons_succ]
    refine wpR_take (i := 3) (v := ?_) (Upd.road _) (some 23) rfl (by kernel_rfl) (by kernel_rfl) (by kernel_rfl) (by kernel_rfl) (by kernel_rfl) (fun _ _ _ h => h) (by kernel_rfl) (fun w' hw' => ?_) ?_
    rotate_left
    · go_simp; with_reducible rfl
    simp only [Act.put, List.setIfInBounds_toArray, List.set_cons_zero, List.set_cons_succ]
    refine wpR_take (i := 4) (v := ?_) (Upd.road _) (some 24) rfl (by kernel_rfl) (by kernel_rfl) (by kernel_rfl) (by kernel_rfl) (by kernel_rfl) (fun _ _ _ h => h) (by kernel_rfl) (fun w' hw' => ?_) ?_
    rotate_left
    · go_simp; with_reducible rfl
    simp only [Act.put, List.setIfInBounds_toArray, List.set_cons_zero, List.set_cons_succ]
    refine wpR_take (i := 5) (v := ?_) (Upd.road _) (some 25) rfl (by kernel_rfl) (by kernel_rfl) (by kernel_rfl) (by kernel_rfl) (by kernel_rfl) (fun _ _ _ h => h) (by kernel_rfl) (fun w' hw' => ?_) ?_
    rotate_left
    · go_simp; with_reducible rfl
    simp only [Act.put, List.setIfInBounds_toArray, List.set_cons_zero, List.set_cons_succ]
    refine wpR_one 6 rfl (by kernel_rfl) (by kernel_rfl) (fun K hK => ?_)
    refine wp_append_fits_ask (.tmp 22) (.tmp 25) rfl lo g i c (l.take i) rfl (hpre.out) _ _ _ _ rfl hsrc.out hld.out m htot.out hmc ?_
    intro w2 hrow2 hg2
    refine hK _ _ (fun _ => Upd.mono (Upd.of_grown (S := (· = g)) hg2 rfl) (fun k h => h)) ?_
    clear hK K
    have hsz2 := hg2.size
    have hu2 := Lib.hid (Upd.of_grown (S := (· = g)) hg2 rfl)
    replace hrow2 := Lib.hid hrow2
    clear hg2
    try simp only [Act.put, List.setIfInBounds_toArray, List.set_cons_zero, List.set_cons_succ]
    refine wpR_take (i := 7) (v := ?_) (Upd.road _) (some 0) rfl (by kernel_rfl) (by kernel_rfl) (by kernel_rfl) (by kernel_rfl) (by kernel_rfl) (fun _ _ _ h => h) (by kernel_rfl) (fun w' hw' => ?_) ?_
    rotate_left
    · go_simp; with_reducible rfl
    simp only [Act.put, List.setIfInBounds_toArray, List.set_cons_zero, List.set_cons_succ]
    refine wpR_done (by kernel_rfl) ?_ _
    obtain ⟨vs, hclr⟩ := run_clear_row 37 i0 _ Try.underlying37 hi0 hz0 rfl ask0.one (by decide) hrow2.out 1 (c - m) (m * 6) rfl (by decide) (by omega)
    have htl := Lib.hid (row_tail hrow2.out vs (m * 6) (Nat.le_refl _))
    rw [← hnm1.out] at hclr
    go_wp2
    go_ret
    refine ⟨rfl, ?_, (Upd.refl _ w : Upd (· = g) w w.drew).trans (hu2.out.trans htl.out.2)⟩
    unfold ARow
    rw [hers.out.2, ← hers.out.1]
    exact htl.out.1
  · have hsrc : Hid (∀ k u, (flatA (l.drop j))[k]? = some u → w.drew.cell? ((⟨g, j * 6, none⟩ : Addr).add k) = some u) := Lib.hid (fun k u hu => by
      obtain ⟨ad, e, -, hcell⟩ := hrd.2 (by omega)
      injection e with e
      subst e
      rw [← hdc, List.getElem?_drop] at hu
      have := hcell _ u hu
      rw [show ((⟨g, j * 6, none⟩ : Addr).add k) = (⟨g, 0, none⟩ : Addr).add (j * 6 + k) from by
        have := add_of_add (⟨g, 0, none⟩ : Addr) (j * 6) k
        rw [← this]; congr 1; unfold Addr.add; split <;> simp_all]
      exact this)
    have hcap2 : ¬ (j = c) := fun e => hcap e.symm
    replace h := Lib.hid h
    replace hrd := Lib.hid hrd
    replace hdc := Lib.hid hdc
    replace hn := Lib.hid hn
    replace hj := Lib.hid hj
    replace hm := Lib.hid hm
    go_enter Try.func41, Try.ntmps41
    go_wp2_with fail
    refine wpR_region (Upd (QS' g)) 9999 (by kernel_rfl) ?_
    refine wpR_take (i := 0) (v := ?_) (Upd.road _) (some 20) rfl (by kernel_rfl) (by kernel_rfl) (by kernel_rfl) (by kernel_rfl) (by kernel_rfl) (fun _ _ _ h => h) (by kernel_rfl) (fun w' hw' => ?_) ?_
    rotate_left
    · go_simp; with_reducible rfl
    simp only [Act.put, List.setIfInBounds_toArray, List.set_cons_zero, List.set_cons_succ]
    refine wpR_take (i := 1) (v := ?_) (Upd.road _) (some 21) rfl (by kernel_rfl) (by kernel_rfl) (by kernel_rfl) (by kernel_rfl) (by kernel_rfl) (fun _ _ _ h => h) (by kernel_rfl) (fun w' hw' => ?_) ?_
    rotate_left
    · go_simp; with_reducible rfl
    simp only [Act.put, List.setIfInBounds_toArray, List.set_cons_zero, List.set_cons_succ]
    refine wpR_take (i := 2) (v := ?_) (Upd.road _) (some 22) rfl (by kernel_rfl) (by kernel_rfl) (by kernel_rfl) (by kernel_rfl) (by kernel_rfl) (fun _ _ _ h => h) (by kernel_rfl) (fun w' hw' => ?_) ?_
    rotate_left
    · go_simp; with_reducible rfl
    simp only [Act.put, List.setIfInBounds_toArray, List.set_cons_zero, List.set_cons_succ]
    refine wpR_take (i := 3) (v := ?_) (Upd.road _) (some 23) rfl (by kernel_rfl) (by kernel_rfl) (by kernel_rfl) (by kernel_rfl) (by kernel_rfl) (fun _ _ _ h => h) (by kernel_rfl) (fun w' hw' => ?_) ?_
    rotate_left
    · go_simp; with_reducible rfl
    simp only [Act.put, List.setIfInBounds_toArray, List.set_cons_zero, List.set_cons_succ]
    refine wpR_take (i := 4) (v := ?_) (Upd.road _) (some 24) rfl (by kernel_rfl) (by kernel_rfl) (by kernel_rfl) (by kernel_rfl) (by kernel_rfl) (fun _ _ _ h => h) (by kernel_rfl) (fun w' hw' => ?_) ?_
    rotate_left
    · go_simp; with_reducible rfl
    simp only [Act.put, List.setIfInBounds_toArray, List.set_cons_zero, List.set_cons_succ]
    refine wpR_take (i := 5) (v := ?_) (Upd.road _) (some 25) rfl (by kernel_rfl) (by kernel_rfl) (by kernel_rfl) (by kernel_rfl) (by kernel_rfl) (fun _ _ _ h => h) (by kernel_rfl) (fun w' hw' => ?_) ?_
    rotate_left
    · go_simp; with_reducible rfl
    simp only [Act.put, List.setIfInBounds_toArray, List.set_cons_zero, List.set_cons_succ]
    refine wpR_one 6 rfl (by kernel_rfl) (by kernel_rfl) (fun K hK => ?_)
    refine wp_append_fits_ask (.tmp 22) (.tmp 25) rfl lo g i c (l.take i) rfl (hpre.out) _ _ _ _ rfl hsrc.out hld.out m htot.out hmc ?_
    intro w2 hrow2 hg2
    refine hK _ _ (fun _ => Upd.mono (Upd.of_grown (S := (· = g)) hg2 rfl) (fun k h => h)) ?_
    clear hK K
    have hsz2 := hg2.size
    have hu2 := Lib.hid (Upd.of_grown (S := (· = g)) hg2 rfl)
    replace hrow2 := Lib.hid hrow2
    clear hg2
    try simp only [Act.put, List.setIfInBounds_toArray, List.set_cons_zero, List.set_cons_succ]
    refine wpR_take (i := 7) (v := ?_) (Upd.road _) (some 0) rfl (by kernel_rfl) (by kernel_rfl) (by kernel_rfl) (by kernel_rfl) (by kernel_rfl) (fun _ _ _ h => h) (by kernel_rfl) (fun w' hw' => ?_) ?_
    rotate_left
    · go_simp; with_reducible rfl
    simp only [Act.put, List.setIfInBounds_toArray, List.set_cons_zero, List.set_cons_succ]
    refine wpR_done (by kernel_rfl) ?_ _
    obtain ⟨vs, hclr⟩ := run_clear_row 37 i0 _ Try.underlying37 hi0 hz0 rfl ask0.one (by decide) hrow2.out 1 (c - m) (m * 6) rfl (by decide) (by omega)
    have htl := Lib.hid (row_tail hrow2.out vs (m * 6) (Nat.le_refl _))
    rw [← hnm1.out] at hclr
    go_wp2
    go_ret
    refine ⟨rfl, ?_, (Upd.refl _ w : Upd (· = g) w w.drew).trans (hu2.out.trans htl.out.2)⟩
    unfold ARow
    rw [hers.out.2, ← hers.out.1]
    exact htl.out.1
end Go.Proofs.Ytppclmidnomkjab
