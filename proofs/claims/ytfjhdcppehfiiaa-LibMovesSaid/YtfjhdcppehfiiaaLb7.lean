/- lib: Add. -/
import Derived.Test.YtfjhdcppehfiiaaLb6
import Derived.Test.YtfjhdcppehfiiaaCart3L
namespace Go.Proofs.Ytfjhdcppehfiiaa
set_option linter.unusedVariables false
set_option linter.unusedSimpArgs false
open Go Go.RowKit
def pV (b : Nat) : Value := .pointer (some ⟨b, 0, none⟩)
theorem info_cp : (Try.prog.info? 27).map (fun i => (i.zero, i.size, i.bytes)) = some (some (.pointer none), 1, 8) := by kernel_rfl
theorem alloc_gr (w : World) (o : Obj) : Below w.heap.size w (w.alloc o) := (Below.refl _ w).alloc (Nat.le_refl _) o
theorem lit_c (w : World) (b : Nat) : Reads (w.alloc (.cells #[.pointer (some ⟨b, 0, none⟩)] 27)) (w.heap.size + 1) 1 (some ⟨w.heap.size, 0, none⟩) 1 [pV b] := by
  have hh := World.news_of_block (heap_alloc_new w (.cells #[.pointer (some ⟨b, 0, none⟩)] 27))
  exact ⟨rfl, fun _ => ⟨_, rfl, Nat.lt_succ_self _, fun j u hu => hh j u hu⟩⟩
theorem wp_appC {w : World} {o : Oper} {a : Act} {Q : Exit → Act → World → Prop} {K : Act → World → Prop} (s x : Operand)
    (ho : o.op = .call { callee := .builtin .append, args := #[s, x], argTypes := #[54, 54] })
    (base : Nat) (v : Value) (C : List Nat) (hs : a.eval s = v) (hown : w.ownsRow base 27 1 v C.length (C.map (fun b => .pointer (some ⟨b, 0, none⟩)))) (A : Option Addr) (c B b : Nat) (hx : a.eval x = .slice A 1 c) (hr : Reads w B 1 A 1 [pV b])
    (hlen : C.length ≤ 100000) (hbase : base ≤ w.heap.size)
    (h : ∀ v' w', w'.ownsRow base 27 1 v' (C ++ [b]).length ((C ++ [b]).map (fun b => .pointer (some ⟨b, 0, none⟩))) → w.grownBy w' v.ownBlock → K (a.put o.dst v') w') : Oper.wp Try.prog o a w K Q := by
  obtain ⟨i0, hi, hz0, hz1, hz2⟩ := info_parts info_cp
  refine wp_append_any w s x 54 ho base 27 i0 _ 1 8 Try.underlying54 hi hz0 hz1 hz2 rfl (by omega) v C.length _ hs hown B A 1 c [pV b] hx hr (fun u hu => by rw [List.mem_singleton.1 hu]; rfl)
    (by simp only [maxLen]; omega) (by omega) hbase fun v' w' h2 h3 h4 => h v' w' ?_ h3
  rw [List.length_append, List.map_append]; exact h2
theorem add_end {w5 w8 : World} {lo g n n8 calls b q : Nat} {Ac A8 : Option Addr} {cc c8 : Nat} {vd : Value} {C : List Nat} {D : List Dr} {s : CS}
    (h5 : Hid (Lb w5 lo g (.slice Ac n cc) vd C D calls)) (hct : Hid (Ct w5 b w5.heap.size q s))
    (hr8 : w8.ownsRow lo 27 1 (.slice A8 n8 c8) n8 ((C ++ [q]).map (fun b => .pointer (some ⟨b, 0, none⟩))))
    (hg8 : (w5.alloc (.cells #[.pointer (some ⟨q, 0, none⟩)] 27)).grownBy w8 (Value.slice Ac n cc).ownBlock)
    (hb8 : w8.heap[g]? = some (.cells #[.slice Ac n cc, vd, .int .i64 calls] 57 (0, 0))) (hn8 : (C ++ [q]).length = n8) :
    (C.length < 32 → Lb (w8.setCell ⟨g, 0, none⟩ (.slice A8 n8 c8)) lo g (.slice A8 n8 c8) vd (C ++ [q]) D calls) ∧ Ct (w8.setCell ⟨g, 0, none⟩ (.slice A8 n8 c8)) b w5.heap.size q s ∧ TChg lo lts w5 (w8.setCell ⟨g, 0, none⟩ (.slice A8 n8 c8)) := by
  have t1 : TChg lo lts w5 w8 := (TChg.of_below (alloc_gr w5 _)).trans (TChg.of_row (row_below h5.out.carts (alloc_gr w5 (.cells #[.pointer (some ⟨q, 0, none⟩)] 27))) hg8 (by simp))
  have t1' : TChg lo [27] w5 w8 := (TChg.of_below (alloc_gr w5 _)).trans (TChg.of_row (row_below h5.out.carts (alloc_gr w5 (.cells #[.pointer (some ⟨q, 0, none⟩)] 27))) hg8 (by simp))
  have t2 : TChg lo [57] w8 (w8.setCell ⟨g, 0, none⟩ (.slice A8 n8 c8)) := TChg.of_set hb8 (by simp) h5.out.lg 0 _
  have tt := t1.trans (t2.mono (Nat.le_refl _) (ts' := lts) (by simp))
  refine ⟨fun hlt => ⟨blk_set hb8 0 _, h5.out.lg, ?_, row_tchg (row_tchg h5.out.drives t1' (by decide)) t2 (by decide), by rw [List.length_append]; simp; omega, h5.out.ld⟩, hct.out.tchg tt (by decide) (by decide) (by decide), tt⟩
  rw [hn8]
  exact row_tchg hr8 t2 (by decide)
section
variable (lo g : Nat) (vc vd : Value) (C : List Nat) (D : List Dr) (calls : Nat) (w : World) (hlo : Hid (lo ≤ w.heap.size)) (h : Hid (Lb w lo g vc vd C D calls))
include h hlo
set_option maxHeartbeats 2000000 in
set_option maxRecDepth 10000 in
theorem ladd_any (z : Int) (hz : I64 z) (hlt : C.length < 32) : Calls Try.prog 22 #[.pointer (some ⟨g, 0, none⟩), .int .i64 z] w fun e w' => e = .returned (.tuple #[.int .i64 C.length, .bool true]) ∧ (∃ vc' q hi, Hid (Lb w' lo g vc' vd (C ++ [q]) D calls) ∧ w.heap.size ≤ q ∧ Hid (Ct w' w.heap.size hi q ⟨[], (min (max z 0) 1024).toNat, false⟩)) ∧ TChg lo lts w w' := by
  obtain ⟨Ac, cc, Ad, cd, rfl, -⟩ := h.out.form
  obtain ⟨n, hn⟩ : ∃ n, C.length = n := ⟨_, rfl⟩
  rw [hn] at h ⊢
  have c0 := blk_cell (j := 0) h.out.blk rfl
  obtain ⟨wd, hwd⟩ : ∃ wd, wd = w.drew := ⟨_, rfl⟩
  have hgd : Below w.heap.size w wd := by rw [hwd]; exact (Below.refl _ _).drew
  have hwsz : wd.heap.size = w.heap.size := by rw [hwd]; rfl
  have hd := Lb.gr hgd h
  obtain ⟨B0, hB0⟩ : ∃ B0, wd.heap.size = B0 := ⟨_, rfl⟩
  have hB : Hid (B0 ≤ wd.heap.size) := Lib.hid (by omega)
  have hgB : Hid (g < B0) := Lib.hid (by rw [← hB0]; exact blk_lt hd.out.blk)
  have hlod : Hid (lo ≤ wd.heap.size) := Lib.hid (Nat.le_trans hlo.out hgd.size)
  have hnn := Lib.hid hn
  have hlt' : Hid (C.length < 32) := Lib.hid hlt
  have i1 : decide ((32 : Int) ≤ (n : Int)) = false := decide_eq_false (by omega)
  have hn32 : n ≤ 32 := by omega
  have hwr : IntKind.i64.wrap ((n : Int) + 1 - 1) = (n : Int) := by rw [IntKind.wrap_i64]; omega
  replace hgd := Lib.hid hgd
  replace hwsz := Lib.hid hwsz
  replace hB0 := Lib.hid hB0
  clear hn hlt h
  go_enter Try.func22, Try.ntmps22
  go_upto_region 3 with (fail)
  refine wpR_region (Below B0) 8 (by kernel_rfl) ?_
  (rw [← hwd]; replace hwd := Lib.hid hwd)
  refine wpR_takeU (i := 0) (v := ?_) (⟨fun x => Below.refl _ x, fun h1 h2 => h1.trans h2⟩) (some 16) rfl (by kernel_rfl) (by kernel_rfl) (by kernel_rfl) (by kernel_rfl) (fun _ _ _ h => h) (by kernel_rfl) (fun w' => ?_) ?_
  rotate_left
  · go_simp; with_reducible rfl
  simp only [Act.put, List.setIfInBounds_toArray, List.set_cons_zero, List.set_cons_succ]
  refine wpR_takeU (i := 1) (v := ?_) (⟨fun x => Below.refl _ x, fun h1 h2 => h1.trans h2⟩) (some 17) rfl (by kernel_rfl) (by kernel_rfl) (by kernel_rfl) (by kernel_rfl) (fun _ _ _ h => h) (by kernel_rfl) (fun w' => ?_) ?_
  rotate_left
  · go_simp; with_reducible rfl
  simp only [Act.put, List.setIfInBounds_toArray, List.set_cons_zero, List.set_cons_succ]
  refine wpR_takeU (i := 2) (v := ?_) (⟨fun x => Below.refl _ x, fun h1 h2 => h1.trans h2⟩) (some 18) rfl (by kernel_rfl) (by kernel_rfl) (by kernel_rfl) (by kernel_rfl) (fun _ _ _ h => h) (by kernel_rfl) (fun w' => ?_) ?_
  rotate_left
  · go_simp; with_reducible rfl
  simp only [Act.put, List.setIfInBounds_toArray, List.set_cons_zero, List.set_cons_succ]
  refine wpR_takeU (i := 3) (v := ?_) (⟨fun x => Below.refl _ x, fun h1 h2 => h1.trans h2⟩) (some 19) rfl (by kernel_rfl) (by kernel_rfl) (by kernel_rfl) (by kernel_rfl) (fun _ _ _ h => h) (by kernel_rfl) (fun w' => ?_) ?_
  rotate_left
  · go_simp; with_reducible rfl
  simp only [Act.put, List.setIfInBounds_toArray, List.set_cons_zero, List.set_cons_succ]
  refine wpR_take (i := 4) (v := ?_) (⟨fun x => Below.refl _ x, fun h1 h2 => h1.trans h2⟩) (some 20) rfl (by kernel_rfl) (by kernel_rfl) (by kernel_rfl) (by kernel_rfl) (by kernel_rfl) (fun _ _ _ h => h) (by kernel_rfl) (fun w' hw' => ?_) ?_
  rotate_left
  · have qb := (hw'.block g hgB.out).trans hd.out.blk; have qc := blk_cell (j := 0) (v := .slice Ac n cc) qb rfl; go_simp; with_reducible rfl
  simp only [Act.put, List.setIfInBounds_toArray, List.set_cons_zero, List.set_cons_succ]
  refine wpR_takeU (i := 5) (v := ?_) (⟨fun x => Below.refl _ x, fun h1 h2 => h1.trans h2⟩) (some 21) rfl (by kernel_rfl) (by kernel_rfl) (by kernel_rfl) (by kernel_rfl) (fun _ _ _ h => h) (by kernel_rfl) (fun w' => ?_) ?_
  rotate_left
  · go_simp; with_reducible rfl
  simp only [Act.put, List.setIfInBounds_toArray, List.set_cons_zero, List.set_cons_succ]
  refine wpR_one 6 rfl (by kernel_rfl) (by kernel_rfl) (fun K hK => ?_)
  go_simp
  refine (cnew_any z hz wd).mono ?_
  rintro e w5 ⟨rfl, hct, hb5⟩
  refine hK _ _ (fun _ => hb5.mono hB.out) ?_
  clear hK K
  replace hct := Lib.hid hct
  have h5 := Lb.gr hb5 hd
  have hsz5 : Hid (lo ≤ w5.heap.size) := Lib.hid (Nat.le_trans hlod.out hb5.size)
  have hB5 : Hid (B0 ≤ w5.heap.size) := Lib.hid (Nat.le_trans hB.out hb5.size)
  replace hb5 := Lib.hid hb5
  try simp only [Act.put, List.setIfInBounds_toArray, List.set_cons_zero, List.set_cons_succ]
  refine wpR_one 7 rfl (by kernel_rfl) (by kernel_rfl) (fun K hK => ?_)
  go_simp
  refine hK _ _ (fun _ => (Below.refl B0 w5).alloc hB5.out _) ?_
  clear hK K
  try simp only [Act.put, List.setIfInBounds_toArray, List.set_cons_zero, List.set_cons_succ]
  refine wpR_one 8 rfl (by kernel_rfl) (by kernel_rfl) (fun K hK => ?_)
  refine wp_appC (.tmp 20) (.tmp 23) rfl lo (.slice Ac n cc) C rfl (row_below h5.out.carts (alloc_gr _ _)) (some ⟨w5.heap.size, 0, none⟩) 1 (w5.heap.size + 1) wd.heap.size rfl (lit_c w5 wd.heap.size) (by have := h5.out.lc; omega) (Nat.le_trans hsz5.out (by simp)) ?_
  intro v8 w8 hr8 hg8
  refine hK _ _ (fun h => absurd h (by decide)) ?_
  clear hK K
  obtain ⟨A8, c8, rfl, -, -⟩ := row_form hr8
  generalize hn8 : (C ++ [wd.heap.size]).length = n8 at hr8 ⊢
  replace hn8 := Lib.hid hn8
  have hb8 : w8.heap[g]? = some (.cells #[.slice Ac n cc, vd, .int .i64 calls] 57 (0, 0)) := blk_grow (blk_alloc h5.out.blk (.cells #[.pointer (some ⟨wd.heap.size, 0, none⟩)] 27)) hg8 (row_ne (row_below h5.out.carts (alloc_gr w5 (.cells #[.pointer (some ⟨wd.heap.size, 0, none⟩)] 27))) (blk_alloc h5.out.blk _) (by decide))
  have k0 := blk_cell (j := 0) hb8 rfl
  have f0 := blk_free hb8 0
  have hend := Lib.hid (add_end h5 hct hr8 hg8 hb8 hn8.out)
  clear hb8 hg8
  try simp only [Act.put, List.setIfInBounds_toArray, List.set_cons_zero, List.set_cons_succ]
  refine wpR_takeU (i := 9) (v := ?_) (⟨fun x => Below.refl _ x, fun h1 h2 => h1.trans h2⟩) (some 25) rfl (by kernel_rfl) (by kernel_rfl) (by kernel_rfl) (by kernel_rfl) (fun _ _ _ h => h) (by kernel_rfl) (fun w' => ?_) ?_
  rotate_left
  · go_simp; with_reducible rfl
  simp only [Act.put, List.setIfInBounds_toArray, List.set_cons_zero, List.set_cons_succ]
  refine wpR_take (i := 10) (v := ?_) (⟨fun x => Below.refl _ x, fun h1 h2 => h1.trans h2⟩) (some 26) rfl (by kernel_rfl) (by kernel_rfl) (by kernel_rfl) (by kernel_rfl) (by kernel_rfl) (fun _ _ _ h => h) (by kernel_rfl) (fun w' hw' => ?_) ?_
  rotate_left
  · go_simp; with_reducible rfl
  simp only [Act.put, List.setIfInBounds_toArray, List.set_cons_zero, List.set_cons_succ]
  refine wpR_one 11 rfl (by kernel_rfl) (by kernel_rfl) (fun K hK => ?_)
  go_simp
  refine hK _ _ (fun h => absurd h (by decide)) ?_
  clear hK K
  try simp only [Act.put, List.setIfInBounds_toArray, List.set_cons_zero, List.set_cons_succ]
  refine wpR_done (by kernel_rfl) ?_ _
  have hlb := Lib.hid (hend.out.1 hlt'.out)
  have k4 := blk_cell (j := 0) hlb.out.blk rfl
  have hn9 : n8 = n + 1 := by have := hn8.out; have := hnn.out; simp at *; omega
  subst hn9
  clear k0 f0
  go_wp2_with fail
  go_ret2
  refine ⟨rfl, ⟨_, wd.heap.size, w5.heap.size, hlb, Nat.le_of_eq hwsz.out.symm, Lib.hid ?_⟩, (TChg.of_below hgd.out).trans ((TChg.of_below hb5.out).trans hend.out.2.2)⟩
  have e := hwsz.out
  rw [← e]
  exact hend.out.2.1
end
end Go.Proofs.Ytfjhdcppehfiiaa
