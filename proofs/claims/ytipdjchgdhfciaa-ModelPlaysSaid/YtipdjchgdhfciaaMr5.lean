/- model: the reference's Delete. -/
import Derived.Test.YtipdjchgdhfciaaMr4
import Derived.Test.YtipdjchgdhfciaaReg2
namespace Go.Proofs.Ytipdjchgdhfciaa
set_option linter.unusedVariables false
set_option linter.unusedSimpArgs false
open Go Go.RowKit Go.Maps Go.Sort
theorem i64_wrapM {m : Int} (h1 : -9223372036854775808 ≤ m) (h2 : m ≤ 9223372036854775807) : IntKind.i64.wrap m = m := by
  rw [IntKind.wrap_i64]; omega
theorem flatP_one (l : List Pr) : ∀ v ∈ flatP l, v.oneCell' = true := fun v hv => by
  unfold flatP at hv
  obtain ⟨x, -, h⟩ := List.mem_flatMap.mp hv
  simp [encP] at h
  rcases h with rfl | rfl <;> rfl
theorem wp_appP {w : World} {o : Oper} {a : Act} {Q : Exit → Act → World → Prop} {K : Act → World → Prop} (s x : Operand)
    (ho : o.op = .call { callee := .builtin .append, args := #[s, x], argTypes := #[26, 26] })
    (base : Nat) (v : Value) (l : List Pr) (hs : a.eval s = v) (hown : w.ownsRow base 63 2 v l.length (flatP l)) (A : Option Addr) (c : Nat) (news : List Pr) {m : Nat} (hx : a.eval x = .slice A m c) (hr : Reads w w.heap.size 2 A m (flatP news))
    (hlen : l.length + news.length ≤ 1000000) (hbase : base ≤ w.heap.size)
    (h : ∀ v' w', w'.ownsRow base 63 2 v' (l ++ news).length (flatP (l ++ news)) → w.grownBy w' v.ownBlock → K (a.put o.dst v') w') : Oper.wp Try.prog o a w K Q := by
  obtain ⟨i0, hi, hz0, hz1, hz2⟩ := info_parts info_blob
  have hm : m = news.length := by have := hr.1; rw [flatP_len] at this; omega
  subst hm
  refine wp_append_any w s x 26 ho base 63 i0 _ 2 32 Try.underlying26 hi hz0 hz1 hz2 rfl (by omega) v l.length (flatP l) hs hown w.heap.size A news.length c (flatP news) hx hr (flatP_one news)
    (by simp only [maxLen]; omega) (by omega) hbase fun v' w' h2 h3 h4 => h v' w' ?_ h3
  rw [List.length_append, flatP_app]; exact h2
set_option maxHeartbeats 4000000 in
set_option maxRecDepth 10000 in
theorem rdel_yes (lo g : Nat) (v : Value) (R : List Pr) (hr : Rise R) (hR : R.length ≤ 1000) (k : List UInt8) (w : World) (h : Hid (Rm w lo g v R)) (hh : R.any (fun p => p.1 == k) = true) :
    Calls Try.prog 10 #[.pointer (some ⟨g, 0, none⟩), .string (bs k)] w fun e w' => e = .returned (.int .i64 0) ∧ ∃ v', Hid (Rm w' lo g v' (R.take (posR R k) ++ R.drop (posR R k + 1))) ∧ Upd (· = g) w w' := by
  have his := Lib.hid (ris_any lo g v R hr (by omega) k w h)
  rw [hh] at his
  rw [is_at' hr] at hh
  have hpl : posR R k < R.length := by
    unfold atR at hh
    cases hq : R[posR R k]? with
    | none => rw [hq] at hh; cases hh
    | some p => exact (List.getElem?_eq_some_iff.mp hq).1
  obtain ⟨A, c, rfl, hc, hm⟩ := row_form h.out.row
  obtain ⟨n, hn⟩ : ∃ n, R.length = n := ⟨_, rfl⟩
  obtain ⟨p, hp⟩ : ∃ p, posR R k = p := ⟨_, rfl⟩
  rw [hp] at his hpl ⊢
  rw [hn] at h hc hR hpl
  have ip : (p : Int) + 1 ≤ (n : Int) := by omega
  have ip2 : (p : Int) ≤ (n : Int) := by omega
  have ip0 : (0 : Int) ≤ (p : Int) + 1 := by omega
  have ipc : (p : Int) ≤ (c : Int) := by omega
  have ipw : IntKind.i64.wrap ((p : Int) + 1) = (p : Int) + 1 := by rw [i64_wrapM (by omega) (by omega)]
  obtain ⟨b, rfl, -⟩ := h.out.cells (by omega)
  replace hn := Lib.hid hn
  replace hp := Lib.hid hp
  clear hh
  go_enter Try.func10, Try.ntmps10
  go_upto_region 4 with (go_at_call 26; go_must (refine his.out.mono ?_); rintro e w1 ⟨rfl, hg1⟩)
  obtain ⟨wd, hwd⟩ : ∃ wd, wd = w1.drew := ⟨_, rfl⟩
  have hgd : Hid (GrM w wd) := Lib.hid (by rw [hwd]; exact hg1.drew)
  have hrm := Rm.gr hgd.out h
  obtain ⟨B0, hB0⟩ : ∃ B0, wd.heap.size = B0 := ⟨_, rfl⟩
  have hblk := Lib.hid hrm.out.blk
  have hlow : Hid (lo ≤ g) := Lib.hid hrm.out.gl
  have hgB : g < B0 := by rw [← hB0]; exact blk_lt hrm.out.blk
  have hrow2 : wd.ownsRow lo 63 2 (.slice (some ⟨b, 0, none⟩) n c) n (flatP R) := by have := hrm.out.row; rw [hn.out] at this; exact this
  have hrn := Reads.of_own hrow2
  rw [hB0] at hrn
  have htk : (flatP R).take (p * 2) = flatP (R.take p) := by
    conv => lhs; rw [← List.take_append_drop p R, flatP_app]
    rw [List.take_left' (by rw [flatP_len, List.length_take, hn.out]; omega)]
  have hdk : (flatP R).drop ((p + 1) * 2) = flatP (R.drop (p + 1)) := by
    conv => lhs; rw [← List.take_append_drop (p + 1) R, flatP_app]
    rw [List.drop_left' (by rw [flatP_len, List.length_take, hn.out]; omega)]
  have hRt : Hid (Reads wd B0 2 (some ⟨b, 0, none⟩) p (flatP (R.take p))) := Lib.hid (by rw [← htk]; exact hrn.take (by omega))
  have hRtl : Hid ((R.take p).length = p) := Lib.hid (by rw [List.length_take, hn.out]; omega)
  have hcut := hrn.cut (k := p + 1) (cap := c) (by omega) hc
  rw [hdk] at hcut
  have eA : (if c = p + 1 then (some ⟨b, 0, none⟩ : Option Addr) else (some (⟨b, 0, none⟩ : Addr)).map (·.add ((p + 1) * 2))) = (if c = p + 1 then some ⟨b, 0, none⟩ else some ⟨b, (p + 1) * 2, none⟩) := by
    split
    · rfl
    · show some ((⟨b, 0, none⟩ : Addr).add ((p + 1) * 2)) = _
      unfold Addr.add; split <;> simp_all
  rw [eA] at hcut
  have hRd := Lib.hid hcut
  clear eA
  clear hcut htk hdk hrn hrow2 hg1
  refine wpR_region (Below B0) 19 (by kernel_rfl) ?_
  (rw [← hwd]; replace hwd := Lib.hid hwd)
  refine wpR_take (i := 0) (v := ?_) (⟨fun x => Below.refl _ x, fun h1 h2 => h1.trans h2⟩) (some 15) rfl (by kernel_rfl) (by kernel_rfl) (by kernel_rfl) (by kernel_rfl) (by kernel_rfl) (fun _ _ _ h => h) (by kernel_rfl) (fun w' hw' => ?_) ?_
  rotate_left
  · go_simp; with_reducible rfl
  simp only [Act.put, List.setIfInBounds_toArray, List.set_cons_zero, List.set_cons_succ]
  refine wpR_take (i := 2) (v := ?_) (⟨fun x => Below.refl _ x, fun h1 h2 => h1.trans h2⟩) (some 17) rfl (by kernel_rfl) (by kernel_rfl) (by kernel_rfl) (by kernel_rfl) (by kernel_rfl) (fun _ _ _ h => h) (by kernel_rfl) (fun w' hw' => ?_) ?_
  rotate_left
  · go_simp; with_reducible rfl
  simp only [Act.put, List.setIfInBounds_toArray, List.set_cons_zero, List.set_cons_succ]
  refine wpR_take (i := 3) (v := ?_) (⟨fun x => Below.refl _ x, fun h1 h2 => h1.trans h2⟩) (some 18) rfl (by kernel_rfl) (by kernel_rfl) (by kernel_rfl) (by kernel_rfl) (by kernel_rfl) (fun _ _ _ h => h) (by kernel_rfl) (fun w' hw' => ?_) ?_
  rotate_left
  · go_simp; with_reducible rfl
  simp only [Act.put, List.setIfInBounds_toArray, List.set_cons_zero, List.set_cons_succ]
  refine wpR_take (i := 4) (v := ?_) (⟨fun x => Below.refl _ x, fun h1 h2 => h1.trans h2⟩) (some 19) rfl (by kernel_rfl) (by kernel_rfl) (by kernel_rfl) (by kernel_rfl) (by kernel_rfl) (fun _ _ _ h => h) (by kernel_rfl) (fun w' hw' => ?_) ?_
  rotate_left
  · go_simp; with_reducible rfl
  simp only [Act.put, List.setIfInBounds_toArray, List.set_cons_zero, List.set_cons_succ]
  refine wpR_take (i := 5) (v := ?_) (⟨fun x => Below.refl _ x, fun h1 h2 => h1.trans h2⟩) (some 20) rfl (by kernel_rfl) (by kernel_rfl) (by kernel_rfl) (by kernel_rfl) (by kernel_rfl) (fun _ _ _ h => h) (by kernel_rfl) (fun w' hw' => ?_) ?_
  rotate_left
  · have qb := (hw'.block g hgB).trans hblk.out; have qc := blk_cell (j := 0) (v := .slice (some ⟨b, 0, none⟩) n c) qb rfl; go_simp; with_reducible rfl
  simp only [Act.put, List.setIfInBounds_toArray, List.set_cons_zero, List.set_cons_succ]
  refine wpR_take (i := 6) (v := ?_) (⟨fun x => Below.refl _ x, fun h1 h2 => h1.trans h2⟩) (some 21) rfl (by kernel_rfl) (by kernel_rfl) (by kernel_rfl) (by kernel_rfl) (by kernel_rfl) (fun _ _ _ h => h) (by kernel_rfl) (fun w' hw' => ?_) ?_
  rotate_left
  · go_simp; with_reducible rfl
  simp only [Act.put, List.setIfInBounds_toArray, List.set_cons_zero, List.set_cons_succ]
  refine wpR_take (i := 7) (v := ?_) (⟨fun x => Below.refl _ x, fun h1 h2 => h1.trans h2⟩) (some 22) rfl (by kernel_rfl) (by kernel_rfl) (by kernel_rfl) (by kernel_rfl) (by kernel_rfl) (fun _ _ _ h => h) (by kernel_rfl) (fun w' hw' => ?_) ?_
  rotate_left
  · go_simp; with_reducible rfl
  simp only [Act.put, List.setIfInBounds_toArray, List.set_cons_zero, List.set_cons_succ]
  refine wpR_take (i := 9) (v := ?_) (⟨fun x => Below.refl _ x, fun h1 h2 => h1.trans h2⟩) (some 24) rfl (by kernel_rfl) (by kernel_rfl) (by kernel_rfl) (by kernel_rfl) (by kernel_rfl) (fun _ _ _ h => h) (by kernel_rfl) (fun w' hw' => ?_) ?_
  rotate_left
  · go_simp; with_reducible rfl
  simp only [Act.put, List.setIfInBounds_toArray, List.set_cons_zero, List.set_cons_succ]
  refine wpR_take (i := 10) (v := ?_) (⟨fun x => Below.refl _ x, fun h1 h2 => h1.trans h2⟩) (some 25) rfl (by kernel_rfl) (by kernel_rfl) (by kernel_rfl) (by kernel_rfl) (by kernel_rfl) (fun _ _ _ h => h) (by kernel_rfl) (fun w' hw' => ?_) ?_
  rotate_left
  · go_simp; with_reducible rfl
  simp only [Act.put, List.setIfInBounds_toArray, List.set_cons_zero, List.set_cons_succ]
  refine wpR_take (i := 11) (v := ?_) (⟨fun x => Below.refl _ x, fun h1 h2 => h1.trans h2⟩) (some 26) rfl (by kernel_rfl) (by kernel_rfl) (by kernel_rfl) (by kernel_rfl) (by kernel_rfl) (fun _ _ _ h => h) (by kernel_rfl) (fun w' hw' => ?_) ?_
  rotate_left
  · go_simp; with_reducible rfl
  simp only [Act.put, List.setIfInBounds_toArray, List.set_cons_zero, List.set_cons_succ]
  refine wpR_take (i := 12) (v := ?_) (⟨fun x => Below.refl _ x, fun h1 h2 => h1.trans h2⟩) (some 27) rfl (by kernel_rfl) (by kernel_rfl) (by kernel_rfl) (by kernel_rfl) (by kernel_rfl) (fun _ _ _ h => h) (by kernel_rfl) (fun w' hw' => ?_) ?_
  rotate_left
  · have qb := (hw'.block g hgB).trans hblk.out; have qc := blk_cell (j := 0) (v := .slice (some ⟨b, 0, none⟩) n c) qb rfl; go_simp; with_reducible rfl
  simp only [Act.put, List.setIfInBounds_toArray, List.set_cons_zero, List.set_cons_succ]
  refine wpR_take (i := 13) (v := ?_) (⟨fun x => Below.refl _ x, fun h1 h2 => h1.trans h2⟩) (some 28) rfl (by kernel_rfl) (by kernel_rfl) (by kernel_rfl) (by kernel_rfl) (by kernel_rfl) (fun _ _ _ h => h) (by kernel_rfl) (fun w' hw' => ?_) ?_
  rotate_left
  · go_simp; with_reducible rfl
  simp only [Act.put, List.setIfInBounds_toArray, List.set_cons_zero, List.set_cons_succ]
  refine wpR_take (i := 14) (v := ?_) (⟨fun x => Below.refl _ x, fun h1 h2 => h1.trans h2⟩) (some 29) rfl (by kernel_rfl) (by kernel_rfl) (by kernel_rfl) (by kernel_rfl) (by kernel_rfl) (fun _ _ _ h => h) (by kernel_rfl) (fun w' hw' => ?_) ?_
  rotate_left
  · go_simp; with_reducible rfl
  simp only [Act.put, List.setIfInBounds_toArray, List.set_cons_zero, List.set_cons_succ]
  refine wpR_take (i := 15) (v := ?_) (⟨fun x => Below.refl _ x, fun h1 h2 => h1.trans h2⟩) (some 30) rfl (by kernel_rfl) (by kernel_rfl) (by kernel_rfl) (by kernel_rfl) (by kernel_rfl) (fun _ _ _ h => h) (by kernel_rfl) (fun w' hw' => ?_) ?_
  rotate_left
  · go_simp; with_reducible rfl
  simp only [Act.put, List.setIfInBounds_toArray, List.set_cons_zero, List.set_cons_succ]
  refine wpR_one 1 rfl (by kernel_rfl) (by kernel_rfl) (fun K hK => ?_)
  go_simp
  obtain ⟨W1, hW1⟩ : ∃ W1, W1 = wd.alloc (.cells #[] 63) := ⟨_, rfl⟩
  have hr1 : Below B0 wd W1 := by rw [hW1]; exact (Below.refl _ _).alloc (by omega) _
  have ho1 : Hid (W1.ownsRow B0 63 2 (.slice (some ⟨B0, 0, none⟩) 0 0) ([] : List Pr).length (flatP [])) := Lib.hid (by rw [hW1, ← hB0]; exact World.ownsRow_made wd #[] 0 (Nat.le_refl _) (by simp [maxLen]) rfl)
  rw [← hW1]
  try rw [hB0]
  replace hW1 := Lib.hid hW1
  refine hK _ _ (fun _ => hr1) ?_
  clear hK K
  have hs1 := Lib.hid (hRt.out.below hr1)
  have hs2 := Lib.hid (hRd.out.below hr1)
  have hz1 : B0 ≤ W1.heap.size := by have := hr1.size; omega
  try simp only [Act.put, List.setIfInBounds_toArray, List.set_cons_zero, List.set_cons_succ]
  refine wpR_one 8 rfl (by kernel_rfl) (by kernel_rfl) (fun K hK => ?_)
  refine wp_appP (.tmp 16) (.tmp 22) rfl B0 _ [] rfl ho1.out _ _ (R.take p) rfl (hs1.out.more (by omega)) (by rw [hRtl.out]; simp; omega) hz1 ?_
  intro v2 W2 ho2 hg2
  rw [List.nil_append] at ho2
  have hr2 : Below B0 W1 W2 := (Below.refl _ _).grown hg2 hz1 (fun j hj => (World.ownsRow.lt ho1.out j hj).1)
  refine hK _ _ (fun _ => hr2) ?_
  clear hK K
  replace ho2 := Lib.hid ho2
  have hz2 : B0 ≤ W2.heap.size := by have := hr2.size; omega
  have hs3 := Lib.hid (hs2.out.below hr2)
  try simp only [Act.put, List.setIfInBounds_toArray, List.set_cons_zero, List.set_cons_succ]
  refine wpR_one 16 rfl (by kernel_rfl) (by kernel_rfl) (fun K hK => ?_)
  refine wp_appP (.tmp 23) (.tmp 30) rfl B0 _ (R.take p) rfl ho2.out _ _ (R.drop (p + 1)) rfl (hs3.out.more (by omega)) (by rw [hRtl.out, List.length_drop, hn.out]; omega) hz2 ?_
  intro v3 W3 ho3 hg3
  obtain ⟨A3, c3, rfl, -, -⟩ := row_form ho3
  obtain ⟨m3, hm3⟩ : ∃ m3, (R.take p ++ R.drop (p + 1)).length = m3 := ⟨_, rfl⟩
  rw [hm3] at ho3 ⊢
  replace hm3 := Lib.hid hm3
  have hr3 : Below B0 W2 W3 := (Below.refl _ _).grown hg3 hz2 (fun j hj => (World.ownsRow.lt ho2.out j hj).1)
  refine hK _ _ (fun _ => hr3) ?_
  clear hK K
  replace ho3 := Lib.hid ho3
  have hw3 : Hid (Below B0 wd W3) := Lib.hid ((hr1.trans hr2).trans hr3)
  have hb3 := Lib.hid ((hw3.out.block g hgB).trans hblk.out)
  try simp only [Act.put, List.setIfInBounds_toArray, List.set_cons_zero, List.set_cons_succ]
  refine wpR_takeU (i := 17) (v := ?_) (⟨fun x => Below.refl _ x, fun h1 h2 => h1.trans h2⟩) (some 32) rfl (by kernel_rfl) (by kernel_rfl) (by kernel_rfl) (by kernel_rfl) (fun _ _ _ h => h) (by kernel_rfl) (fun w' => ?_) ?_
  rotate_left
  · go_simp; with_reducible rfl
  simp only [Act.put, List.setIfInBounds_toArray, List.set_cons_zero, List.set_cons_succ]
  refine wpR_take (i := 18) (v := ?_) (⟨fun x => Below.refl _ x, fun h1 h2 => h1.trans h2⟩) (some 33) rfl (by kernel_rfl) (by kernel_rfl) (by kernel_rfl) (by kernel_rfl) (by kernel_rfl) (fun _ _ _ h => h) (by kernel_rfl) (fun w' hw' => ?_) ?_
  rotate_left
  · go_simp; with_reducible rfl
  simp only [Act.put, List.setIfInBounds_toArray, List.set_cons_zero, List.set_cons_succ]
  refine wpR_one 19 rfl (by kernel_rfl) (by kernel_rfl) (fun K hK => ?_)
  have cc3 := blk_cell (j := 0) (v := .slice (some ⟨b, 0, none⟩) n c) hb3.out rfl
  have f3 := blk_free hb3.out 0
  go_simp
  refine hK _ _ (fun h => absurd h (by decide)) ?_
  clear hK K
  try simp only [Act.put, List.setIfInBounds_toArray, List.set_cons_zero, List.set_cons_succ]
  refine wpR_done (by kernel_rfl) ?_ _
  have hu : Upd (· = g) w (W3.setCell ⟨g, 0, none⟩ (.slice A3 m3 c3)) := (Upd.of_gr (GrM.trans hgd.out (by unfold GrM; rw [hB0]; exact hw3.out))).trans (Upd.of_grown (blk_grown W3 g 0 _) rfl)
  have hfin : Rm (W3.setCell ⟨g, 0, none⟩ (.slice A3 m3 c3)) lo g (.slice A3 m3 c3) (R.take p ++ R.drop (p + 1)) := by
    refine ⟨blk_set hb3.out 0 _, hrm.out.gl, ?_⟩
    rw [hm3.out]
    exact row_set_other (row_more ho3.out (by have := blk_lt hrm.out.blk; have := hlow.out; omega)) g 0 _ (fun e => by have := (World.ownsRow.lt ho3.out g e).1; omega)
  replace hu := Lib.hid hu
  replace hfin := Lib.hid hfin
  go_wp2_with fail
  all_goals go_ret
  all_goals exact ⟨rfl, ⟨_, hfin⟩, hu.out⟩
end Go.Proofs.Ytipdjchgdhfciaa
