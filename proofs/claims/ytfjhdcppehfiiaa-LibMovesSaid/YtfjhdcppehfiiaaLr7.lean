/- lib: the reference's library: Add. -/
import Derived.Test.YtfjhdcppehfiiaaLr6
namespace Go.Proofs.Ytfjhdcppehfiiaa
set_option linter.unusedVariables false
set_option linter.unusedSimpArgs false
open Go Go.RowKit
theorem info_cpR : (Try.prog.info? 82).map (fun i => (i.zero, i.size, i.bytes)) = some (some (.pointer none), 1, 8) := by kernel_rfl
theorem lit_cR (w : World) (b : Nat) : Reads (w.alloc (.cells #[.pointer (some ⟨b, 0, none⟩)] 82)) (w.heap.size + 1) 1 (some ⟨w.heap.size, 0, none⟩) 1 [pV b] := by
  have hh := World.news_of_block (heap_alloc_new w (.cells #[.pointer (some ⟨b, 0, none⟩)] 82))
  exact ⟨rfl, fun _ => ⟨_, rfl, Nat.lt_succ_self _, fun j u hu => hh j u hu⟩⟩
theorem wp_appCR {w : World} {o : Oper} {a : Act} {Q : Exit → Act → World → Prop} {K : Act → World → Prop} (s x : Operand)
    (ho : o.op = .call { callee := .builtin .append, args := #[s, x], argTypes := #[76, 76] })
    (base : Nat) (v : Value) (C : List Nat) (hs : a.eval s = v) (hown : w.ownsRow base 82 1 v C.length (C.map (fun b => .pointer (some ⟨b, 0, none⟩)))) (A : Option Addr) (c B b : Nat) (hx : a.eval x = .slice A 1 c) (hr : Reads w B 1 A 1 [pV b])
    (hlen : C.length ≤ 100000) (hbase : base ≤ w.heap.size)
    (h : ∀ v' w', w'.ownsRow base 82 1 v' (C ++ [b]).length ((C ++ [b]).map (fun b => .pointer (some ⟨b, 0, none⟩))) → w.grownBy w' v.ownBlock → K (a.put o.dst v') w') : Oper.wp Try.prog o a w K Q := by
  obtain ⟨i0, hi, hz0, hz1, hz2⟩ := info_parts info_cpR
  refine wp_append_any w s x 76 ho base 82 i0 _ 1 8 Try.underlying76 hi hz0 hz1 hz2 rfl (by omega) v C.length _ hs hown B A 1 c [pV b] hx hr (fun u hu => by rw [List.mem_singleton.1 hu]; rfl)
    (by simp only [maxLen]; omega) (by omega) hbase fun v' w' h2 h3 h4 => h v' w' ?_ h3
  rw [List.length_append, List.map_append]; exact h2
theorem radd_end {wd w5 w8 : World} {lo g n n8 q T : Nat} {Ac A8 : Option Addr} {cc c8 : Nat} {vd va : Value} {C : List Nat} {D : List RD} {L : List Nat} {SS : List CS} {s : CS}
    (hR : Hid (Rl wd lo g C SS T)) (hP : Hid (PR T D)) (hL : L.length ≤ T) (hlo : lo ≤ wd.heap.size) (hb5 : Hid (Below wd.heap.size wd w5)) (h5 : Hid (Lr w5 lo g (.slice Ac n cc) vd va C D L)) (hct : Hid (Rt w5 wd.heap.size q s))
    (hr8 : w8.ownsRow lo 82 1 (.slice A8 n8 c8) n8 ((C ++ [q]).map (fun b => .pointer (some ⟨b, 0, none⟩))))
    (hg8 : (w5.alloc (.cells #[.pointer (some ⟨q, 0, none⟩)] 82)).grownBy w8 (Value.slice Ac n cc).ownBlock)
    (hb8 : w8.heap[g]? = some (.cells #[.slice Ac n cc, vd, va] 80 (0, 0))) (hn8 : (C ++ [q]).length = n8) (hlt : C.length < 32) :
    Lr (w8.setCell ⟨g, 0, none⟩ (.slice A8 n8 c8)) lo g (.slice A8 n8 c8) vd va (C ++ [q]) D L ∧ Rl (w8.setCell ⟨g, 0, none⟩ (.slice A8 n8 c8)) lo g (C ++ [q]) (SS ++ [s]) T ∧ TChg lo rlts wd (w8.setCell ⟨g, 0, none⟩ (.slice A8 n8 c8)) := by
  have hro := row_below h5.out.carts (alloc_gr w5 (.cells #[.pointer (some ⟨q, 0, none⟩)] 82))
  have t1 : TChg lo [82] w5 w8 := (TChg.of_below (alloc_gr w5 _)).trans (TChg.of_row hro hg8 (by simp))
  have t2 : TChg lo [80] w8 (w8.setCell ⟨g, 0, none⟩ (.slice A8 n8 c8)) := TChg.of_set hb8 (by simp) h5.out.lg 0 _
  have tt : TChg lo rlts w5 (w8.setCell ⟨g, 0, none⟩ (.slice A8 n8 c8)) := (t1.mono (Nat.le_refl _) (by simp)).trans (t2.mono (Nat.le_refl _) (by simp))
  have hlr : Lr (w8.setCell ⟨g, 0, none⟩ (.slice A8 n8 c8)) lo g (.slice A8 n8 c8) vd va (C ++ [q]) D L := ⟨blk_set hb8 0 _, h5.out.lg, by rw [hn8]; exact row_tchg hr8 t2 (by decide), row_tchg (row_tchg h5.out.drives t1 (by decide)) t2 (by decide), row_tchg (row_tchg h5.out.asked t1 (by decide)) t2 (by decide), by rw [List.length_append]; simp; omega, h5.out.ld, h5.out.la⟩
  have t0 : TChg lo rlts wd (w8.setCell ⟨g, 0, none⟩ (.slice A8 n8 c8)) := (TChg.of_below hb5.out).trans tt
  exact ⟨hlr, hR.out.snoc hlo t0 (by decide) (by decide) (by decide) (hct.out.tchg tt (by decide) (by decide) (by decide)) ⟨_, _, _, _, _, hlr, hP.out, hL⟩, t0⟩
section
variable (lo g : Nat) (C : List Nat) (SS : List CS) (T : Nat) (w : World) (h : Hid (Rl w lo g C SS T))
include h
set_option maxHeartbeats 2000000 in
set_option maxRecDepth 10000 in
theorem radd_li (hlo : lo ≤ w.heap.size) (z : Int) (hz : I64 z) : Calls Try.prog 39 #[.pointer (some ⟨g, 0, none⟩), .int .i64 z] w fun e w' => ∃ a r C' SS', e = .returned (.tuple #[.int .i64 a, .bool r]) ∧ C'.length = min 32 (C.length + 1) ∧ Hid (Rl w' lo g C' SS' T) ∧ Hid (TChg lo rlts w w') := by
  obtain ⟨vc, vd, va, D, L, h1, h2, h3⟩ := h.out.lr
  obtain ⟨Ac, cc, -, -, -, -, rfl, -, -⟩ := h1.form
  obtain ⟨n, hn⟩ : ∃ n, C.length = n := ⟨_, rfl⟩
  have hn32 : n ≤ 32 := by rw [← hn]; exact h1.lc
  rw [hn] at h1
  have c0 := blk_cell (j := 0) h1.blk rfl
  by_cases hlt : n < 32
  · have i1 : decide ((32 : Int) ≤ (n : Int)) = false := decide_eq_false (by omega)
    have hmin : min 32 (C.length + 1) = n + 1 := by rw [hn]; omega
    rw [hmin]
    obtain ⟨wd, hwd⟩ : ∃ wd, wd = w.drew := ⟨_, rfl⟩
    have hgd : Below w.heap.size w wd := by rw [hwd]; exact (Below.refl _ _).drew
    have hd := Lr.gr hgd (Lib.hid h1)
    have hRd : Hid (Rl wd lo g C SS T) := Lib.hid (h.out.gr hgd (Nat.le_refl _))
    obtain ⟨B0, hB0⟩ : ∃ B0, wd.heap.size = B0 := ⟨_, rfl⟩
    have hB : Hid (B0 ≤ wd.heap.size) := Lib.hid (by omega)
    have hgB : Hid (g < B0) := Lib.hid (by rw [← hB0]; exact blk_lt hd.out.blk)
    have hlod : Hid (lo ≤ wd.heap.size) := Lib.hid (Nat.le_trans hlo hgd.size)
    have hltH : Hid (C.length < 32) := Lib.hid (by omega)
    have hwr : IntKind.i64.wrap ((n : Int) + 1 - 1) = (n : Int) := by rw [IntKind.wrap_i64]; omega
    have hP := Lib.hid h2
    replace hgd := Lib.hid hgd
    replace hB0 := Lib.hid hB0
    replace hn := Lib.hid hn
    clear h h1 h2 hmin
    go_enter Try.func39, Try.ntmps39
    go_upto_region 3 with (fail)
    refine wpR_region (Below B0) 8 (by kernel_rfl) ?_
    (rw [← hwd]; replace hwd := Lib.hid hwd)
    refine wpR_takeU (i := 0) (v := ?_) (⟨fun x => Below.refl _ x, fun h1 h2 => h1.trans h2⟩) (some 12) rfl (by kernel_rfl) (by kernel_rfl) (by kernel_rfl) (by kernel_rfl) (fun _ _ _ h => h) (by kernel_rfl) (fun w' => ?_) ?_
    rotate_left
    · go_simp; with_reducible rfl
    simp only [Act.put, List.setIfInBounds_toArray, List.set_cons_zero, List.set_cons_succ]
    refine wpR_takeU (i := 1) (v := ?_) (⟨fun x => Below.refl _ x, fun h1 h2 => h1.trans h2⟩) (some 13) rfl (by kernel_rfl) (by kernel_rfl) (by kernel_rfl) (by kernel_rfl) (fun _ _ _ h => h) (by kernel_rfl) (fun w' => ?_) ?_
    rotate_left
    · go_simp; with_reducible rfl
    simp only [Act.put, List.setIfInBounds_toArray, List.set_cons_zero, List.set_cons_succ]
    refine wpR_takeU (i := 2) (v := ?_) (⟨fun x => Below.refl _ x, fun h1 h2 => h1.trans h2⟩) (some 14) rfl (by kernel_rfl) (by kernel_rfl) (by kernel_rfl) (by kernel_rfl) (fun _ _ _ h => h) (by kernel_rfl) (fun w' => ?_) ?_
    rotate_left
    · go_simp; with_reducible rfl
    simp only [Act.put, List.setIfInBounds_toArray, List.set_cons_zero, List.set_cons_succ]
    refine wpR_takeU (i := 3) (v := ?_) (⟨fun x => Below.refl _ x, fun h1 h2 => h1.trans h2⟩) (some 15) rfl (by kernel_rfl) (by kernel_rfl) (by kernel_rfl) (by kernel_rfl) (fun _ _ _ h => h) (by kernel_rfl) (fun w' => ?_) ?_
    rotate_left
    · go_simp; with_reducible rfl
    simp only [Act.put, List.setIfInBounds_toArray, List.set_cons_zero, List.set_cons_succ]
    refine wpR_take (i := 4) (v := ?_) (⟨fun x => Below.refl _ x, fun h1 h2 => h1.trans h2⟩) (some 16) rfl (by kernel_rfl) (by kernel_rfl) (by kernel_rfl) (by kernel_rfl) (by kernel_rfl) (fun _ _ _ h => h) (by kernel_rfl) (fun w' hw' => ?_) ?_
    rotate_left
    · have qb := (hw'.block g hgB.out).trans hd.out.blk; have qc := blk_cell (j := 0) (v := .slice Ac n cc) qb rfl; go_simp; with_reducible rfl
    simp only [Act.put, List.setIfInBounds_toArray, List.set_cons_zero, List.set_cons_succ]
    refine wpR_takeU (i := 5) (v := ?_) (⟨fun x => Below.refl _ x, fun h1 h2 => h1.trans h2⟩) (some 17) rfl (by kernel_rfl) (by kernel_rfl) (by kernel_rfl) (by kernel_rfl) (fun _ _ _ h => h) (by kernel_rfl) (fun w' => ?_) ?_
    rotate_left
    · go_simp; with_reducible rfl
    simp only [Act.put, List.setIfInBounds_toArray, List.set_cons_zero, List.set_cons_succ]
    refine wpR_one 6 rfl (by kernel_rfl) (by kernel_rfl) (fun K hK => ?_)
    go_simp
    refine (rnew_any z hz wd).mono ?_
    rintro e w5 ⟨rfl, hct, hb5⟩
    refine hK _ _ (fun _ => hb5.mono hB.out) ?_
    clear hK K
    replace hct := Lib.hid hct
    have h5 := Lr.gr hb5 hd
    have hsz5 : Hid (lo ≤ w5.heap.size) := Lib.hid (Nat.le_trans hlod.out hb5.size)
    have hB5 : Hid (B0 ≤ w5.heap.size) := Lib.hid (Nat.le_trans hB.out hb5.size)
    replace hb5 := Lib.hid hb5
    try simp only [Act.put, List.setIfInBounds_toArray, List.set_cons_zero, List.set_cons_succ]
    refine wpR_one 7 rfl (by kernel_rfl) (by kernel_rfl) (fun K hK => ?_)
    go_simp
    refine hK _ _ (fun _ => (Below.refl B0 w5).alloc hB5.out _) ?_
    clear hK K
    try simp only [Act.put, List.setIfInBounds_toArray, List.set_cons_zero, List.set_cons_succ]
    refine wpR_one 8 rfl (by kernel_rfl) (by kernel_rfl) (fun K hK => ?_)
    refine wp_appCR (.tmp 16) (.tmp 19) rfl lo (.slice Ac n cc) C rfl (row_below h5.out.carts (alloc_gr _ _)) (some ⟨w5.heap.size, 0, none⟩) 1 (w5.heap.size + 1) wd.heap.size rfl (lit_cR w5 wd.heap.size) (by have := h5.out.lc; omega) (Nat.le_trans hsz5.out (by simp)) ?_
    intro v8 w8 hr8 hg8
    refine hK _ _ (fun h => absurd h (by decide)) ?_
    clear hK K
    obtain ⟨A8, c8, rfl, -, -⟩ := row_form hr8
    generalize hn8 : (C ++ [wd.heap.size]).length = n8 at hr8 ⊢
    replace hn8 := Lib.hid hn8
    have hb8 : w8.heap[g]? = some (.cells #[.slice Ac n cc, vd, va] 80 (0, 0)) := blk_grow (blk_alloc h5.out.blk (.cells #[.pointer (some ⟨wd.heap.size, 0, none⟩)] 82)) hg8 (row_ne (row_below h5.out.carts (alloc_gr w5 (.cells #[.pointer (some ⟨wd.heap.size, 0, none⟩)] 82))) (blk_alloc h5.out.blk _) (by decide))
    have k0 := blk_cell (j := 0) hb8 rfl
    have f0 := blk_free hb8 0
    have hend := Lib.hid (radd_end hRd hP h3 hlod.out hb5 h5 hct hr8 hg8 hb8 hn8.out hltH.out)
    clear hb8 hg8
    try simp only [Act.put, List.setIfInBounds_toArray, List.set_cons_zero, List.set_cons_succ]
    refine wpR_takeU (i := 9) (v := ?_) (⟨fun x => Below.refl _ x, fun h1 h2 => h1.trans h2⟩) (some 21) rfl (by kernel_rfl) (by kernel_rfl) (by kernel_rfl) (by kernel_rfl) (fun _ _ _ h => h) (by kernel_rfl) (fun w' => ?_) ?_
    rotate_left
    · go_simp; with_reducible rfl
    simp only [Act.put, List.setIfInBounds_toArray, List.set_cons_zero, List.set_cons_succ]
    refine wpR_take (i := 10) (v := ?_) (⟨fun x => Below.refl _ x, fun h1 h2 => h1.trans h2⟩) (some 22) rfl (by kernel_rfl) (by kernel_rfl) (by kernel_rfl) (by kernel_rfl) (by kernel_rfl) (fun _ _ _ h => h) (by kernel_rfl) (fun w' hw' => ?_) ?_
    rotate_left
    · go_simp; with_reducible rfl
    simp only [Act.put, List.setIfInBounds_toArray, List.set_cons_zero, List.set_cons_succ]
    refine wpR_one 11 rfl (by kernel_rfl) (by kernel_rfl) (fun K hK => ?_)
    go_simp
    refine hK _ _ (fun h => absurd h (by decide)) ?_
    clear hK K
    try simp only [Act.put, List.setIfInBounds_toArray, List.set_cons_zero, List.set_cons_succ]
    refine wpR_done (by kernel_rfl) ?_ _
    have hlb := Lib.hid hend.out.1
    have k4 := blk_cell (j := 0) hlb.out.blk rfl
    have hn9 : n8 = n + 1 := by have := hn8.out; have := hn.out; simp at *; omega
    subst hn9
    clear k0 f0
    go_wp2_with fail
    go_ret2
    exact ⟨_, _, _, _, rfl, hn8.out, Lib.hid hend.out.2.1, Lib.hid ((TChg.of_below hgd.out).trans hend.out.2.2)⟩
  · obtain rfl : n = 32 := by omega
    have fin : ∃ a r C' SS', Ending.returned (.tuple #[.int .i64 0, .bool false]) = .returned (.tuple #[.int .i64 a, .bool r]) ∧ C'.length = min 32 (C.length + 1) ∧ Hid (Rl w lo g C' SS' T) ∧ Hid (TChg lo rlts w w) := ⟨_, _, C, SS, rfl, by rw [hn]; rfl, h, Lib.hid (TChg.refl _ _ _)⟩
    replace fin := Lib.hid fin
    have i1 : decide ((32 : Int) ≤ ((32 : Nat) : Int)) = true := by decide
    clear h h1 h2
    go_enter Try.func39, Try.ntmps39
    go_wp2_with fail
    go_ret2
    exact fin.out
end
end Go.Proofs.Ytfjhdcppehfiiaa
