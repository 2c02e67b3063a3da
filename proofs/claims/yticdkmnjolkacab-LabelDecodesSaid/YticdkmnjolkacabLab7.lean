/- Records of label: Decode of a tombstone. -/
import Derived.Test.YticdkmnjolkacabLab6
import Derived.Test.YticdkmnjolkacabReg2
namespace Go.Proofs.Yticdkmnjolkacab
set_option linter.unusedVariables false
set_option linter.unusedSimpArgs false
open Go Go.RowKit
theorem set10_other {w : World} {X g : Nat} {o : Obj} (hne : g ≠ X) (h : w.heap[g]? = some o) (a0 a1 a2 a3 a4 a5 a6 a7 a8 a9 : Value) : ((((((((((w.setCell ⟨X, 0, none⟩ a0).setCell ⟨X, 1, none⟩ a1).setCell ⟨X, 2, none⟩ a2).setCell ⟨X, 3, none⟩ a3).setCell ⟨X, 4, none⟩ a4).setCell ⟨X, 5, none⟩ a5).setCell ⟨X, 6, none⟩ a6).setCell ⟨X, 7, none⟩ a7).setCell ⟨X, 8, none⟩ a8).setCell ⟨X, 9, none⟩ a9).heap[g]? = some o := by
  rw [blk_other hne 9 a9, blk_other hne 8 a8, blk_other hne 7 a7, blk_other hne 6 a6, blk_other hne 5 a5, blk_other hne 4 a4, blk_other hne 3 a3, blk_other hne 2 a2, blk_other hne 1 a1, blk_other hne 0 a0]
  exact h
theorem flat_of {w : World} {a : Addr} {v : Value} (h : w.cell? (a.add 0) = some v) : a = ⟨a.block, a.off, none⟩ := by
  obtain ⟨b, o, s⟩ := a
  cases s with
  | none => rfl
  | some s =>
    exfalso
    have e : (⟨b, o, some s⟩ : Addr).add 0 = ⟨b, o, some s⟩ := by unfold Addr.add; rw [if_pos rfl]
    rw [e] at h
    unfold World.cell? at h
    simp only [Option.isSome_some, if_true] at h
    split at h <;> cases h
theorem add_of (b o k : Nat) : (⟨b, o, none⟩ : Addr).add k = ⟨b, o + k, none⟩ := by
  unfold Addr.add
  split
  · rename_i h; subst h; rfl
  · rfl
theorem Rd.mid {w : World} {B : Nat} {ad : Addr} {l : List UInt8} (h : Rd w B (some ad) l) {i m : Nat} (hi : i + m ≤ l.length) : Rd w B (some (ad.add i)) ((l.drop i).take m) := by
  have h1 : Rd w B (some (ad.add i)) (l.drop i) := h.cutAt (by omega)
  exact h1.take m (by rw [List.length_drop]; omega)
set_option maxHeartbeats 8000000 in
set_option maxRecDepth 20000 in
theorem decode3_any (A : Option Addr) (m c : Nat) (b : List UInt8) (hn : b.length = m + 6) (hnc : m + 6 ≤ c) (hcm : c ≤ 9223372036854775807) (hm : m ≤ 1000000) (tx : List UInt8) (gn : Int) (h1 : b[1]? = some 3)
    (hg3 : guess3 ((b.drop 2).take m) = (Rc.mk 3 0 tx gn 0 0 0 0 [] [])) (hok : ((Rc.mk 3 0 tx gn 0 0 0 0 [] [])).Ok) (hg : goodB (Rc.mk 3 0 tx gn 0 0 0 0 [] []) = true) (he : encB (Rc.mk 3 0 tx gn 0 0 0 0 [] []) = b) (w : World) (hr : Rd w w.heap.size A b) :
    Calls Try.prog 23 #[.slice A (m + 6) c] w fun e w' => e = .returned (.tuple #[(.agg #[.int .i64 3, .int .i64 0, .string (bs tx), .int .i64 gn, .int .i64 0, .int .i64 0, .int .i64 0, .int .i64 0, .string .empty, .slice none 0 0]), .int .i64 0]) ∧ Below w.heap.size w w' := by
  obtain ⟨ad0, rfl, hadb0, hc0⟩ := hr.at_ (k := 0) (by omega)
  have hfl := flat_of hc0
  obtain ⟨ab, hab⟩ : ∃ ab, ad0.block = ab := ⟨_, rfl⟩
  obtain ⟨ao, hao⟩ : ∃ ao, ad0.off = ao := ⟨_, rfl⟩
  rw [hab, hao] at hfl
  subst hfl
  clear hc0 hab hao
  have hadb : ab < w.heap.size := hadb0
  have hgs : Hid (∀ W : World, Rd W W.heap.size (some ⟨ab, ao + 2, none⟩) ((b.drop 2).take m) → Calls Try.prog 43 #[.int .i64 3, .slice (some ⟨ab, ao + 2, none⟩) m (c - 2)] W fun e w' => e = .returned (.agg #[.int .i64 3, .int .i64 0, .string (bs tx), .int .i64 gn, .int .i64 0, .int .i64 0, .int .i64 0, .int .i64 0, .string .empty, .slice none 0 0]) ∧ Below W.heap.size W w') := Lib.hid (fun W hW => by
    have := guess3_any (some ⟨ab, ao + 2, none⟩) m (c - 2) _ (by rw [List.length_take, List.length_drop]; omega) (by omega) W hW
    rw [hg3] at this
    exact this)
  have hN1 := heap_alloc_new w (.cells #[.int .i64 0, .int .i64 0, .string ⟨#[]⟩, .int .i64 0, .int .i64 0, .int .i64 0, .int .i64 0, .int .i64 0, .string ⟨#[]⟩, .slice none 0 0] 34)
  have hb1 := (Below.refl w.heap.size w).alloc (Nat.le_refl _) (.cells #[.int .i64 0, .int .i64 0, .string ⟨#[]⟩, .int .i64 0, .int .i64 0, .int .i64 0, .int .i64 0, .int .i64 0, .string ⟨#[]⟩, .slice none 0 0] 34)
  have hmid : Rd w w.heap.size (some ⟨ab, ao + 2, none⟩) ((b.drop 2).take m) := by have := hr.mid (i := 2) (m := m) (by omega); rwa [add_of] at this
  have hR1 := hr.up hb1
  have hU : U 3 = 3 := rfl
  have hw1 : IntKind.i64.wrap ((m : Int) + 6 - 4) = (m : Int) + 2 := by rw [IntWalk.i64_in _ (by omega)]; omega
  have hc2 : ¬ (c = 2) := by omega
  have hi1 : (1 : Int) < (m : Int) + 6 := by omega
  have hs1 : (2 : Int) ≤ (m : Int) + 2 := by omega
  have hs2 : (m : Int) + 2 ≤ (c : Int) := by omega
  have hs3 : 0 ≤ (m : Int) + 2 := by omega
  have hd6 : decide ((m : Int) + 6 < 6) = false := decide_eq_false (by omega)
  replace hn := Lib.hid hn
  replace hg := Lib.hid hg
  replace he := Lib.hid he
  replace hok := Lib.hid hok
  have hr0 := Lib.hid hr
  go_enter Try.func23, Try.ntmps23
  go_wp2_with fail
  obtain ⟨wd, hwd⟩ : ∃ wd, wd = (w.alloc (.cells #[.int .i64 0, .int .i64 0, .string ⟨#[]⟩, .int .i64 0, .int .i64 0, .int .i64 0, .int .i64 0, .int .i64 0, .string ⟨#[]⟩, .slice none 0 0] 34)).drew := ⟨_, rfl⟩
  have hbd : Hid (Below w.heap.size w wd) := Lib.hid (by rw [hwd]; exact hb1.drew)
  have hNd : Hid (wd.heap[w.heap.size]? = some (.cells #[.int .i64 0, .int .i64 0, .string ⟨#[]⟩, .int .i64 0, .int .i64 0, .int .i64 0, .int .i64 0, .int .i64 0, .string ⟨#[]⟩, .slice none 0 0] 34 (0, 0))) := Lib.hid (by rw [hwd]; exact hN1)
  have hsld : Hid (Rd wd wd.heap.size (some ⟨ab, ao + 2, none⟩) ((b.drop 2).take m)) := Lib.hid (by rw [hwd]; exact (hmid.up hb1).drewN 1)
  obtain ⟨ad', ead, -, c1⟩ := (show Rd wd wd.heap.size (some ⟨ab, ao, none⟩) b by rw [hwd]; exact hR1.drewN 1).get h1
  injection ead with ead
  subst ead
  rw [add_of, hU] at c1
  have hadd : ab < wd.heap.size := Nat.lt_of_lt_of_le hadb hbd.out.size
  clear hg3 hmid hR1 hN1 hb1 hr h1
  have hr := hr0
  clear hr0
  refine wpR_region (Upd (fun _ => False)) 11 (by kernel_rfl) ?_
  (rw [← hwd]; replace hwd := Lib.hid hwd)
  refine wpR_take (i := 0) (v := ?_) (Upd.road _) (some 11) rfl (by kernel_rfl) (by kernel_rfl) (by kernel_rfl) (by kernel_rfl) (by kernel_rfl) (fun _ _ _ h => h) (by kernel_rfl) (fun w' hw' => ?_) ?_
  rotate_left
  · go_simp; with_reducible rfl
  simp only [Act.put, List.setIfInBounds_toArray, List.set_cons_zero, List.set_cons_succ]
  refine wpR_take (i := 1) (v := ?_) (Upd.road _) (some 12) rfl (by kernel_rfl) (by kernel_rfl) (by kernel_rfl) (by kernel_rfl) (by kernel_rfl) (fun _ _ _ h => h) (by kernel_rfl) (fun w' hw' => ?_) ?_
  rotate_left
  · go_simp; with_reducible rfl
  simp only [Act.put, List.setIfInBounds_toArray, List.set_cons_zero, List.set_cons_succ]
  refine wpR_take (i := 2) (v := ?_) (Upd.road _) (some 13) rfl (by kernel_rfl) (by kernel_rfl) (by kernel_rfl) (by kernel_rfl) (by kernel_rfl) (fun _ _ _ h => h) (by kernel_rfl) (fun w' hw' => ?_) ?_
  rotate_left
  · have q := (hw'.cell (p := ⟨ab, ao + 1, none⟩) hadd (fun h => h)).trans c1; go_simp; with_reducible rfl
  simp only [Act.put, List.setIfInBounds_toArray, List.set_cons_zero, List.set_cons_succ]
  refine wpR_take (i := 3) (v := ?_) (Upd.road _) (some 14) rfl (by kernel_rfl) (by kernel_rfl) (by kernel_rfl) (by kernel_rfl) (by kernel_rfl) (fun _ _ _ h => h) (by kernel_rfl) (fun w' hw' => ?_) ?_
  rotate_left
  · go_simp; with_reducible rfl
  simp only [Act.put, List.setIfInBounds_toArray, List.set_cons_zero, List.set_cons_succ]
  refine wpR_take (i := 4) (v := ?_) (Upd.road _) (some 15) rfl (by kernel_rfl) (by kernel_rfl) (by kernel_rfl) (by kernel_rfl) (by kernel_rfl) (fun _ _ _ h => h) (by kernel_rfl) (fun w' hw' => ?_) ?_
  rotate_left
  · go_simp; with_reducible rfl
  simp only [Act.put, List.setIfInBounds_toArray, List.set_cons_zero, List.set_cons_succ]
  refine wpR_take (i := 5) (v := ?_) (Upd.road _) (some 16) rfl (by kernel_rfl) (by kernel_rfl) (by kernel_rfl) (by kernel_rfl) (by kernel_rfl) (fun _ _ _ h => h) (by kernel_rfl) (fun w' hw' => ?_) ?_
  rotate_left
  · go_simp; with_reducible rfl
  simp only [Act.put, List.setIfInBounds_toArray, List.set_cons_zero, List.set_cons_succ]
  refine wpR_take (i := 6) (v := ?_) (Upd.road _) (some 17) rfl (by kernel_rfl) (by kernel_rfl) (by kernel_rfl) (by kernel_rfl) (by kernel_rfl) (fun _ _ _ h => h) (by kernel_rfl) (fun w' hw' => ?_) ?_
  rotate_left
  · go_simp; with_reducible rfl
  simp only [Act.put, List.setIfInBounds_toArray, List.set_cons_zero, List.set_cons_succ]
  refine wpR_take (i := 7) (v := ?_) (Upd.road _) (some 18) rfl (by kernel_rfl) (by kernel_rfl) (by kernel_rfl) (by kernel_rfl) (by kernel_rfl) (fun _ _ _ h => h) (by kernel_rfl) (fun w' hw' => ?_) ?_
  rotate_left
  · go_simp; with_reducible rfl
  simp only [Act.put, List.setIfInBounds_toArray, List.set_cons_zero, List.set_cons_succ]
  refine wpR_take (i := 8) (v := ?_) (Upd.road _) (some 19) rfl (by kernel_rfl) (by kernel_rfl) (by kernel_rfl) (by kernel_rfl) (by kernel_rfl) (fun _ _ _ h => h) (by kernel_rfl) (fun w' hw' => ?_) ?_
  rotate_left
  · go_simp; with_reducible rfl
  simp only [Act.put, List.setIfInBounds_toArray, List.set_cons_zero, List.set_cons_succ]
  refine wpR_two 9 10 rfl rfl (by kernel_rfl) (by kernel_rfl) (by kernel_rfl) (fun K hK => ?_) (fun K hK => ?_)
  · go_simp
    refine hgs.out _ hsld.out |>.mono ?_
    rintro e w3 ⟨rfl, hbb⟩
    refine hK _ _ (fun _ => Upd.of_below hbb) ?_
    clear hK K
    have hN3 := Lib.hid (blk_below hNd.out hbb)
    have hb3 := Lib.hid (hbd.out.trans (hbb.mono hbd.out.size))
    clear hbb
    try simp only [Act.put, List.setIfInBounds_toArray, List.set_cons_zero, List.set_cons_succ]
    refine wpR_one 10 rfl (by kernel_rfl) (by kernel_rfl) (fun K hK => ?_)
    go_simp
    refine hK _ _ (fun _ => Upd.of_below ((Below.refl _ _).alloc (Nat.le_refl _) _)) ?_
    clear hK K
    have hX5 := heap_alloc_new w3 (.cells #[.int .i64 0, .int .i64 0, .string ⟨#[]⟩, .int .i64 0, .int .i64 0, .int .i64 0, .int .i64 0, .int .i64 0, .string ⟨#[]⟩, .slice none 0 0] 34)
    have hN5 := Lib.hid (blk_alloc hN3.out (.cells #[.int .i64 0, .int .i64 0, .string ⟨#[]⟩, .int .i64 0, .int .i64 0, .int .i64 0, .int .i64 0, .int .i64 0, .string ⟨#[]⟩, .slice none 0 0] 34))
    have hb5 := Lib.hid (hb3.out.alloc hb3.out.size (.cells #[.int .i64 0, .int .i64 0, .string ⟨#[]⟩, .int .i64 0, .int .i64 0, .int .i64 0, .int .i64 0, .int .i64 0, .string ⟨#[]⟩, .slice none 0 0] 34))
    obtain ⟨X, hX⟩ : ∃ X, w3.heap.size = X := ⟨_, rfl⟩
    have hXN : w.heap.size < X := by have := blk_lt hN3.out; omega
    rw [hX] at hX5 ⊢
    obtain ⟨w5, hw5⟩ : ∃ w5, w3.alloc (.cells #[.int .i64 0, .int .i64 0, .string ⟨#[]⟩, .int .i64 0, .int .i64 0, .int .i64 0, .int .i64 0, .int .i64 0, .string ⟨#[]⟩, .slice none 0 0] 34) = w5 := ⟨_, rfl⟩
    rw [hw5] at hX5 hN5 hb5 ⊢
    have z0 := blk_cell (j := 0) (v := .int .i64 0) hX5 rfl
    have f0 := blk_free hX5 0
    have z1 := blk_cell (j := 1) (v := .int .i64 0) hX5 rfl
    have f1 := blk_free hX5 1
    have z2 := blk_cell (j := 2) (v := .string ⟨#[]⟩) hX5 rfl
    have f2 := blk_free hX5 2
    have z3 := blk_cell (j := 3) (v := .int .i64 0) hX5 rfl
    have f3 := blk_free hX5 3
    have z4 := blk_cell (j := 4) (v := .int .i64 0) hX5 rfl
    have f4 := blk_free hX5 4
    have z5 := blk_cell (j := 5) (v := .int .i64 0) hX5 rfl
    have f5 := blk_free hX5 5
    have z6 := blk_cell (j := 6) (v := .int .i64 0) hX5 rfl
    have f6 := blk_free hX5 6
    have z7 := blk_cell (j := 7) (v := .int .i64 0) hX5 rfl
    have f7 := blk_free hX5 7
    have z8 := blk_cell (j := 8) (v := .string ⟨#[]⟩) hX5 rfl
    have f8 := blk_free hX5 8
    have z9 := blk_cell (j := 9) (v := .slice none 0 0) hX5 rfl
    have f9 := blk_free hX5 9
    replace hX5 := Lib.hid hX5
    replace hw5 := Lib.hid hw5
    replace hX := Lib.hid hX
    try simp only [Act.put, List.setIfInBounds_toArray, List.set_cons_zero, List.set_cons_succ]
    refine wpR_one 11 rfl (by kernel_rfl) (by kernel_rfl) (fun K hK => ?_)
    go_simp
    refine hK _ _ (fun h => absurd rfl h) ?_
    clear hK K
    clear z0 f0 z1 f1 z2 f2 z3 f3 z4 f4 z5 f5 z6 f6 z7 f7 z8 f8 z9 f9
    have hX6 := blk_set10 hX5.out (.int .i64 3) (.int .i64 0) (.string (bs tx)) (.int .i64 gn) (.int .i64 0) (.int .i64 0) (.int .i64 0) (.int .i64 0) (.string .empty) (.slice none 0 0)
    have hN6 := set10_other (X := X) (g := w.heap.size) (by omega) hN5.out (.int .i64 3) (.int .i64 0) (.string (bs tx)) (.int .i64 gn) (.int .i64 0) (.int .i64 0) (.int .i64 0) (.int .i64 0) (.string .empty) (.slice none 0 0)
    have hb6 := setLo10 hb5.out (g := X) (Nat.le_of_lt hXN) (.int .i64 3) (.int .i64 0) (.string (bs tx)) (.int .i64 gn) (.int .i64 0) (.int .i64 0) (.int .i64 0) (.int .i64 0) (.string .empty) (.slice none 0 0)
    obtain ⟨w6, hw6⟩ : ∃ w6, ((((((((((w5.setCell ⟨X, 0, none⟩ (.int .i64 3)).setCell ⟨X, 1, none⟩ (.int .i64 0)).setCell ⟨X, 2, none⟩ (.string (bs tx))).setCell ⟨X, 3, none⟩ (.int .i64 gn)).setCell ⟨X, 4, none⟩ (.int .i64 0)).setCell ⟨X, 5, none⟩ (.int .i64 0)).setCell ⟨X, 6, none⟩ (.int .i64 0)).setCell ⟨X, 7, none⟩ (.int .i64 0)).setCell ⟨X, 8, none⟩ (.string .empty)).setCell ⟨X, 9, none⟩ (.slice none 0 0)) = w6 := ⟨_, rfl⟩
    rw [hw6] at hX6 hN6 hb6 ⊢
    replace hX6 := Lib.hid hX6
    replace hN6 := Lib.hid hN6
    replace hb6 := Lib.hid hb6
    replace hw6 := Lib.hid hw6
    clear hX5 hN5 hb5
    try simp only [Act.put, List.setIfInBounds_toArray, List.set_cons_zero, List.set_cons_succ]
    refine wpR_done (by kernel_rfl) ?_ _
    have y0 := blk_cell (j := 0) (v := .int .i64 3) hX6.out rfl
    have y1 := blk_cell (j := 1) (v := .int .i64 0) hX6.out rfl
    have y2 := blk_cell (j := 2) (v := .string (bs tx)) hX6.out rfl
    have y3 := blk_cell (j := 3) (v := .int .i64 gn) hX6.out rfl
    have y4 := blk_cell (j := 4) (v := .int .i64 0) hX6.out rfl
    have y5 := blk_cell (j := 5) (v := .int .i64 0) hX6.out rfl
    have y6 := blk_cell (j := 6) (v := .int .i64 0) hX6.out rfl
    have y7 := blk_cell (j := 7) (v := .int .i64 0) hX6.out rfl
    have y8 := blk_cell (j := 8) (v := .string .empty) hX6.out rfl
    have y9 := blk_cell (j := 9) (v := .slice none 0 0) hX6.out rfl
    have hen := Lib.hid (encode_ok (Rc.mk 3 0 tx gn 0 0 0 0 [] []) none 0 hok.out hg.out w6 Rd.nil_)
    unfold Rc.agg at hen
    go_wp2_with fail
    clear y0 y1 y2 y3 y4 y5 y6 y7 y8 y9
    refine hen.out.mono ?_
    rintro e w8 ⟨v8, rfl, ho8, hbb⟩
    rw [he.out] at ho8
    obtain ⟨A8, c8, rfl, -, -, hR8, -⟩ := ho8.form
    rw [hn.out] at ho8 ⊢
    have hX9 := Lib.hid (blk_below hX6.out hbb)
    have hN9 := Lib.hid (blk_below hN6.out hbb)
    have hb9 := Lib.hid (hb6.out.trans (hbb.mono hb6.out.size))
    have hRb := Lib.hid ((hr.out.up hb9.out))
    replace hR8 := Lib.hid hR8
    clear ho8 hbb hen
    go_wp2_with fail
    refine (equal_any A8 (some ⟨ab, ao, none⟩) (m + 6) c8 (m + 6) c _ _ b b hn.out hn.out _ hR8.out hRb.out).mono ?_
    rw [beq_self_eq_true]
    rintro e w9 ⟨rfl, rfl⟩
    have y0 := blk_cell (j := 0) (v := .int .i64 3) hX9.out rfl
    have y1 := blk_cell (j := 1) (v := .int .i64 0) hX9.out rfl
    have y2 := blk_cell (j := 2) (v := .string (bs tx)) hX9.out rfl
    have y3 := blk_cell (j := 3) (v := .int .i64 gn) hX9.out rfl
    have y4 := blk_cell (j := 4) (v := .int .i64 0) hX9.out rfl
    have y5 := blk_cell (j := 5) (v := .int .i64 0) hX9.out rfl
    have y6 := blk_cell (j := 6) (v := .int .i64 0) hX9.out rfl
    have y7 := blk_cell (j := 7) (v := .int .i64 0) hX9.out rfl
    have y8 := blk_cell (j := 8) (v := .string .empty) hX9.out rfl
    have y9 := blk_cell (j := 9) (v := .slice none 0 0) hX9.out rfl
    have z0 := blk_cell (j := 0) (v := .int .i64 0) hN9.out rfl
    have f0 := blk_free hN9.out 0
    have z1 := blk_cell (j := 1) (v := .int .i64 0) hN9.out rfl
    have f1 := blk_free hN9.out 1
    have z2 := blk_cell (j := 2) (v := .string ⟨#[]⟩) hN9.out rfl
    have f2 := blk_free hN9.out 2
    have z3 := blk_cell (j := 3) (v := .int .i64 0) hN9.out rfl
    have f3 := blk_free hN9.out 3
    have z4 := blk_cell (j := 4) (v := .int .i64 0) hN9.out rfl
    have f4 := blk_free hN9.out 4
    have z5 := blk_cell (j := 5) (v := .int .i64 0) hN9.out rfl
    have f5 := blk_free hN9.out 5
    have z6 := blk_cell (j := 6) (v := .int .i64 0) hN9.out rfl
    have f6 := blk_free hN9.out 6
    have z7 := blk_cell (j := 7) (v := .int .i64 0) hN9.out rfl
    have f7 := blk_free hN9.out 7
    have z8 := blk_cell (j := 8) (v := .string ⟨#[]⟩) hN9.out rfl
    have f8 := blk_free hN9.out 8
    have z9 := blk_cell (j := 9) (v := .slice none 0 0) hN9.out rfl
    have f9 := blk_free hN9.out 9
    go_wp2_with fail
    have hz := blk_set10 hN9.out (.int .i64 3) (.int .i64 0) (.string (bs tx)) (.int .i64 gn) (.int .i64 0) (.int .i64 0) (.int .i64 0) (.int .i64 0) (.string .empty) (.slice none 0 0)
    have hbz := setLo10 hb9.out (Nat.le_refl w.heap.size) (.int .i64 3) (.int .i64 0) (.string (bs tx)) (.int .i64 gn) (.int .i64 0) (.int .i64 0) (.int .i64 0) (.int .i64 0) (.string .empty) (.slice none 0 0)
    obtain ⟨w10, hw10⟩ : ∃ w10, ((((((((((w9.setCell ⟨w.heap.size, 0, none⟩ (.int .i64 3)).setCell ⟨w.heap.size, 1, none⟩ (.int .i64 0)).setCell ⟨w.heap.size, 2, none⟩ (.string (bs tx))).setCell ⟨w.heap.size, 3, none⟩ (.int .i64 gn)).setCell ⟨w.heap.size, 4, none⟩ (.int .i64 0)).setCell ⟨w.heap.size, 5, none⟩ (.int .i64 0)).setCell ⟨w.heap.size, 6, none⟩ (.int .i64 0)).setCell ⟨w.heap.size, 7, none⟩ (.int .i64 0)).setCell ⟨w.heap.size, 8, none⟩ (.string .empty)).setCell ⟨w.heap.size, 9, none⟩ (.slice none 0 0)) = w10 := ⟨_, rfl⟩
    rw [hw10] at hz hbz ⊢
    have r0 := blk_cell (j := 0) (v := .int .i64 3) hz rfl
    have r1 := blk_cell (j := 1) (v := .int .i64 0) hz rfl
    have r2 := blk_cell (j := 2) (v := .string (bs tx)) hz rfl
    have r3 := blk_cell (j := 3) (v := .int .i64 gn) hz rfl
    have r4 := blk_cell (j := 4) (v := .int .i64 0) hz rfl
    have r5 := blk_cell (j := 5) (v := .int .i64 0) hz rfl
    have r6 := blk_cell (j := 6) (v := .int .i64 0) hz rfl
    have r7 := blk_cell (j := 7) (v := .int .i64 0) hz rfl
    have r8 := blk_cell (j := 8) (v := .string .empty) hz rfl
    have r9 := blk_cell (j := 9) (v := .slice none 0 0) hz rfl
    exact bodyPost_ret (v := .tuple #[(.agg #[.int .i64 3, .int .i64 0, .string (bs tx), .int .i64 gn, .int .i64 0, .int .i64 0, .int .i64 0, .int .i64 0, .string .empty, .slice none 0 0]), .int .i64 0]) (by simp [results, Try.results23, go_sem, r0, r1, r2, r3, r4, r5, r6, r7, r8, r9]) rfl ⟨rfl, hbz⟩
  · go_simp
    refine hK _ _ (fun _ => Upd.of_below ((Below.refl _ _).alloc (Nat.le_refl _) _)) ?_
    clear hK K
    have hX3 := Lib.hid (heap_alloc_new wd (.cells #[.int .i64 0, .int .i64 0, .string ⟨#[]⟩, .int .i64 0, .int .i64 0, .int .i64 0, .int .i64 0, .int .i64 0, .string ⟨#[]⟩, .slice none 0 0] 34))
    have hN3 := Lib.hid (blk_alloc hNd.out (.cells #[.int .i64 0, .int .i64 0, .string ⟨#[]⟩, .int .i64 0, .int .i64 0, .int .i64 0, .int .i64 0, .int .i64 0, .string ⟨#[]⟩, .slice none 0 0] 34))
    have hb3 := Lib.hid (hbd.out.alloc hbd.out.size (.cells #[.int .i64 0, .int .i64 0, .string ⟨#[]⟩, .int .i64 0, .int .i64 0, .int .i64 0, .int .i64 0, .int .i64 0, .string ⟨#[]⟩, .slice none 0 0] 34))
    have hsl3 := Lib.hid (hsld.out.up ((Below.refl wd.heap.size wd).alloc (Nat.le_refl _) (.cells #[.int .i64 0, .int .i64 0, .string ⟨#[]⟩, .int .i64 0, .int .i64 0, .int .i64 0, .int .i64 0, .int .i64 0, .string ⟨#[]⟩, .slice none 0 0] 34)))
    obtain ⟨X, hX⟩ : ∃ X, wd.heap.size = X := ⟨_, rfl⟩
    have hXN : w.heap.size < X := by have := blk_lt hNd.out; omega
    rw [hX] at hX3 ⊢
    obtain ⟨w3, hw3⟩ : ∃ w3, wd.alloc (.cells #[.int .i64 0, .int .i64 0, .string ⟨#[]⟩, .int .i64 0, .int .i64 0, .int .i64 0, .int .i64 0, .int .i64 0, .string ⟨#[]⟩, .slice none 0 0] 34) = w3 := ⟨_, rfl⟩
    rw [hw3] at hX3 hN3 hb3 hsl3 ⊢
    replace hw3 := Lib.hid hw3
    replace hX := Lib.hid hX
    try simp only [Act.put, List.setIfInBounds_toArray, List.set_cons_zero, List.set_cons_succ]
    refine wpR_one 9 rfl (by kernel_rfl) (by kernel_rfl) (fun K hK => ?_)
    go_simp
    refine hgs.out _ hsl3.out |>.mono ?_
    rintro e w5 ⟨rfl, hbb⟩
    refine hK _ _ (fun _ => Upd.of_below hbb) ?_
    clear hK K
    have hX5 := blk_below hX3.out hbb
    have hN5 := blk_below hN3.out hbb
    have hb5 := Lib.hid (hb3.out.trans (hbb.mono hb3.out.size))
    clear hbb
    have z0 := blk_cell (j := 0) (v := .int .i64 0) hX5 rfl
    have f0 := blk_free hX5 0
    have z1 := blk_cell (j := 1) (v := .int .i64 0) hX5 rfl
    have f1 := blk_free hX5 1
    have z2 := blk_cell (j := 2) (v := .string ⟨#[]⟩) hX5 rfl
    have f2 := blk_free hX5 2
    have z3 := blk_cell (j := 3) (v := .int .i64 0) hX5 rfl
    have f3 := blk_free hX5 3
    have z4 := blk_cell (j := 4) (v := .int .i64 0) hX5 rfl
    have f4 := blk_free hX5 4
    have z5 := blk_cell (j := 5) (v := .int .i64 0) hX5 rfl
    have f5 := blk_free hX5 5
    have z6 := blk_cell (j := 6) (v := .int .i64 0) hX5 rfl
    have f6 := blk_free hX5 6
    have z7 := blk_cell (j := 7) (v := .int .i64 0) hX5 rfl
    have f7 := blk_free hX5 7
    have z8 := blk_cell (j := 8) (v := .string ⟨#[]⟩) hX5 rfl
    have f8 := blk_free hX5 8
    have z9 := blk_cell (j := 9) (v := .slice none 0 0) hX5 rfl
    have f9 := blk_free hX5 9
    replace hX5 := Lib.hid hX5
    replace hN5 := Lib.hid hN5
    try simp only [Act.put, List.setIfInBounds_toArray, List.set_cons_zero, List.set_cons_succ]
    refine wpR_one 11 rfl (by kernel_rfl) (by kernel_rfl) (fun K hK => ?_)
    go_simp
    refine hK _ _ (fun h => absurd rfl h) ?_
    clear hK K
    clear z0 f0 z1 f1 z2 f2 z3 f3 z4 f4 z5 f5 z6 f6 z7 f7 z8 f8 z9 f9
    have hX6 := blk_set10 hX5.out (.int .i64 3) (.int .i64 0) (.string (bs tx)) (.int .i64 gn) (.int .i64 0) (.int .i64 0) (.int .i64 0) (.int .i64 0) (.string .empty) (.slice none 0 0)
    have hN6 := set10_other (X := X) (g := w.heap.size) (by omega) hN5.out (.int .i64 3) (.int .i64 0) (.string (bs tx)) (.int .i64 gn) (.int .i64 0) (.int .i64 0) (.int .i64 0) (.int .i64 0) (.string .empty) (.slice none 0 0)
    have hb6 := setLo10 hb5.out (g := X) (Nat.le_of_lt hXN) (.int .i64 3) (.int .i64 0) (.string (bs tx)) (.int .i64 gn) (.int .i64 0) (.int .i64 0) (.int .i64 0) (.int .i64 0) (.string .empty) (.slice none 0 0)
    obtain ⟨w6, hw6⟩ : ∃ w6, ((((((((((w5.setCell ⟨X, 0, none⟩ (.int .i64 3)).setCell ⟨X, 1, none⟩ (.int .i64 0)).setCell ⟨X, 2, none⟩ (.string (bs tx))).setCell ⟨X, 3, none⟩ (.int .i64 gn)).setCell ⟨X, 4, none⟩ (.int .i64 0)).setCell ⟨X, 5, none⟩ (.int .i64 0)).setCell ⟨X, 6, none⟩ (.int .i64 0)).setCell ⟨X, 7, none⟩ (.int .i64 0)).setCell ⟨X, 8, none⟩ (.string .empty)).setCell ⟨X, 9, none⟩ (.slice none 0 0)) = w6 := ⟨_, rfl⟩
    rw [hw6] at hX6 hN6 hb6 ⊢
    replace hX6 := Lib.hid hX6
    replace hN6 := Lib.hid hN6
    replace hb6 := Lib.hid hb6
    replace hw6 := Lib.hid hw6
    clear hX5 hN5 hb5
    try simp only [Act.put, List.setIfInBounds_toArray, List.set_cons_zero, List.set_cons_succ]
    refine wpR_done (by kernel_rfl) ?_ _
    have y0 := blk_cell (j := 0) (v := .int .i64 3) hX6.out rfl
    have y1 := blk_cell (j := 1) (v := .int .i64 0) hX6.out rfl
    have y2 := blk_cell (j := 2) (v := .string (bs tx)) hX6.out rfl
    have y3 := blk_cell (j := 3) (v := .int .i64 gn) hX6.out rfl
    have y4 := blk_cell (j := 4) (v := .int .i64 0) hX6.out rfl
    have y5 := blk_cell (j := 5) (v := .int .i64 0) hX6.out rfl
    have y6 := blk_cell (j := 6) (v := .int .i64 0) hX6.out rfl
    have y7 := blk_cell (j := 7) (v := .int .i64 0) hX6.out rfl
    have y8 := blk_cell (j := 8) (v := .string .empty) hX6.out rfl
    have y9 := blk_cell (j := 9) (v := .slice none 0 0) hX6.out rfl
    have hen := Lib.hid (encode_ok (Rc.mk 3 0 tx gn 0 0 0 0 [] []) none 0 hok.out hg.out w6 Rd.nil_)
    unfold Rc.agg at hen
    go_wp2_with fail
    clear y0 y1 y2 y3 y4 y5 y6 y7 y8 y9
    refine hen.out.mono ?_
    rintro e w8 ⟨v8, rfl, ho8, hbb⟩
    rw [he.out] at ho8
    obtain ⟨A8, c8, rfl, -, -, hR8, -⟩ := ho8.form
    rw [hn.out] at ho8 ⊢
    have hX9 := Lib.hid (blk_below hX6.out hbb)
    have hN9 := Lib.hid (blk_below hN6.out hbb)
    have hb9 := Lib.hid (hb6.out.trans (hbb.mono hb6.out.size))
    have hRb := Lib.hid ((hr.out.up hb9.out))
    replace hR8 := Lib.hid hR8
    clear ho8 hbb hen
    go_wp2_with fail
    refine (equal_any A8 (some ⟨ab, ao, none⟩) (m + 6) c8 (m + 6) c _ _ b b hn.out hn.out _ hR8.out hRb.out).mono ?_
    rw [beq_self_eq_true]
    rintro e w9 ⟨rfl, rfl⟩
    have y0 := blk_cell (j := 0) (v := .int .i64 3) hX9.out rfl
    have y1 := blk_cell (j := 1) (v := .int .i64 0) hX9.out rfl
    have y2 := blk_cell (j := 2) (v := .string (bs tx)) hX9.out rfl
    have y3 := blk_cell (j := 3) (v := .int .i64 gn) hX9.out rfl
    have y4 := blk_cell (j := 4) (v := .int .i64 0) hX9.out rfl
    have y5 := blk_cell (j := 5) (v := .int .i64 0) hX9.out rfl
    have y6 := blk_cell (j := 6) (v := .int .i64 0) hX9.out rfl
    have y7 := blk_cell (j := 7) (v := .int .i64 0) hX9.out rfl
    have y8 := blk_cell (j := 8) (v := .string .empty) hX9.out rfl
    have y9 := blk_cell (j := 9) (v := .slice none 0 0) hX9.out rfl
    have z0 := blk_cell (j := 0) (v := .int .i64 0) hN9.out rfl
    have f0 := blk_free hN9.out 0
    have z1 := blk_cell (j := 1) (v := .int .i64 0) hN9.out rfl
    have f1 := blk_free hN9.out 1
    have z2 := blk_cell (j := 2) (v := .string ⟨#[]⟩) hN9.out rfl
    have f2 := blk_free hN9.out 2
    have z3 := blk_cell (j := 3) (v := .int .i64 0) hN9.out rfl
    have f3 := blk_free hN9.out 3
    have z4 := blk_cell (j := 4) (v := .int .i64 0) hN9.out rfl
    have f4 := blk_free hN9.out 4
    have z5 := blk_cell (j := 5) (v := .int .i64 0) hN9.out rfl
    have f5 := blk_free hN9.out 5
    have z6 := blk_cell (j := 6) (v := .int .i64 0) hN9.out rfl
    have f6 := blk_free hN9.out 6
    have z7 := blk_cell (j := 7) (v := .int .i64 0) hN9.out rfl
    have f7 := blk_free hN9.out 7
    have z8 := blk_cell (j := 8) (v := .string ⟨#[]⟩) hN9.out rfl
    have f8 := blk_free hN9.out 8
    have z9 := blk_cell (j := 9) (v := .slice none 0 0) hN9.out rfl
    have f9 := blk_free hN9.out 9
    go_wp2_with fail
    have hz := blk_set10 hN9.out (.int .i64 3) (.int .i64 0) (.string (bs tx)) (.int .i64 gn) (.int .i64 0) (.int .i64 0) (.int .i64 0) (.int .i64 0) (.string .empty) (.slice none 0 0)
    have hbz := setLo10 hb9.out (Nat.le_refl w.heap.size) (.int .i64 3) (.int .i64 0) (.string (bs tx)) (.int .i64 gn) (.int .i64 0) (.int .i64 0) (.int .i64 0) (.int .i64 0) (.string .empty) (.slice none 0 0)
    obtain ⟨w10, hw10⟩ : ∃ w10, ((((((((((w9.setCell ⟨w.heap.size, 0, none⟩ (.int .i64 3)).setCell ⟨w.heap.size, 1, none⟩ (.int .i64 0)).setCell ⟨w.heap.size, 2, none⟩ (.string (bs tx))).setCell ⟨w.heap.size, 3, none⟩ (.int .i64 gn)).setCell ⟨w.heap.size, 4, none⟩ (.int .i64 0)).setCell ⟨w.heap.size, 5, none⟩ (.int .i64 0)).setCell ⟨w.heap.size, 6, none⟩ (.int .i64 0)).setCell ⟨w.heap.size, 7, none⟩ (.int .i64 0)).setCell ⟨w.heap.size, 8, none⟩ (.string .empty)).setCell ⟨w.heap.size, 9, none⟩ (.slice none 0 0)) = w10 := ⟨_, rfl⟩
    rw [hw10] at hz hbz ⊢
    have r0 := blk_cell (j := 0) (v := .int .i64 3) hz rfl
    have r1 := blk_cell (j := 1) (v := .int .i64 0) hz rfl
    have r2 := blk_cell (j := 2) (v := .string (bs tx)) hz rfl
    have r3 := blk_cell (j := 3) (v := .int .i64 gn) hz rfl
    have r4 := blk_cell (j := 4) (v := .int .i64 0) hz rfl
    have r5 := blk_cell (j := 5) (v := .int .i64 0) hz rfl
    have r6 := blk_cell (j := 6) (v := .int .i64 0) hz rfl
    have r7 := blk_cell (j := 7) (v := .int .i64 0) hz rfl
    have r8 := blk_cell (j := 8) (v := .string .empty) hz rfl
    have r9 := blk_cell (j := 9) (v := .slice none 0 0) hz rfl
    exact bodyPost_ret (v := .tuple #[(.agg #[.int .i64 3, .int .i64 0, .string (bs tx), .int .i64 gn, .int .i64 0, .int .i64 0, .int .i64 0, .int .i64 0, .string .empty, .slice none 0 0]), .int .i64 0]) (by simp [results, Try.results23, go_sem, r0, r1, r2, r3, r4, r5, r6, r7, r8, r9]) rfl ⟨rfl, hbz⟩

end Go.Proofs.Yticdkmnjolkacab
