/- Records of label: Decode of any bytes. -/
import Derived.Test.YticdkmnjolkacabLab13
import Derived.Test.YticdkmnjolkacabReg2
namespace Go.Proofs.Yticdkmnjolkacab
set_option linter.unusedVariables false
set_option linter.unusedSimpArgs false
open Go Go.RowKit
def zagg : Value := (.agg #[.int .i64 0, .int .i64 0, .string ⟨#[]⟩, .int .i64 0, .int .i64 0, .int .i64 0, .int .i64 0, .int .i64 0, .string ⟨#[]⟩, .slice none 0 0])
set_option maxHeartbeats 8000000 in
set_option maxRecDepth 20000 in
theorem decode_yes (A : Option Addr) (m c : Nat) (b : List UInt8) (hn : b.length = m + 6) (hnc : m + 6 ≤ c) (hcm : c ≤ 9223372036854775807) (hm : m ≤ 140737488355000) (k : UInt8) (h1 : b[1]? = some k) (q : Rc)
    (hg3 : guessR (U k) ((b.drop 2).take m) = q) (hg : goodB q = true) (he : (encB q == b) = true) (w : World) (hr : Rd w w.heap.size A b) :
    Calls Try.prog 23 #[.slice A (m + 6) c] w fun e w' => ∃ A9 c9, e = .returned (.tuple #[(.agg #[.int .i64 q.kind, .int .i64 q.cart, .string (bs q.key), .int .i64 q.gen, .int .i64 q.group, .int .i64 q.groups, .int .i64 q.index, .int .i64 q.size, .string (bs q.sum), .slice A9 q.data.length c9]), .int .i64 0]) ∧ Rd w' w'.heap.size A9 q.data ∧ Below w.heap.size w w' := by
  obtain ⟨ad0, rfl, hadb0, hc0⟩ := hr.at_ (k := 0) (by omega)
  have hfl := flat_of hc0
  obtain ⟨ab, hab⟩ : ∃ ab, ad0.block = ab := ⟨_, rfl⟩
  obtain ⟨ao, hao⟩ : ∃ ao, ad0.off = ao := ⟨_, rfl⟩
  rw [hab, hao] at hfl
  subst hfl
  clear hc0 hab hao
  have hadb : ab < w.heap.size := hadb0
  have hk := U_bd k
  have hok : q.Ok := by rw [← hg3]; exact guessR_ok _ (by unfold R64; omega) _ (by rw [List.length_take, List.length_drop]; omega)
  have hgs : Hid (∀ W : World, ab < W.heap.size → Rd W W.heap.size (some ⟨ab, ao + 2, none⟩) ((b.drop 2).take m) → Calls Try.prog 43 #[.int .i64 (U k), .slice (some ⟨ab, ao + 2, none⟩) m (c - 2)] W fun e w' => ∃ A9 c9, e = .returned (q.agg A9 c9) ∧ Rd w' w'.heap.size A9 q.data ∧ Below W.heap.size W w') := Lib.hid (fun W hab hW => by
    have := guess_any (U k) ab (ao + 2) m (c - 2) _ (by rw [List.length_take, List.length_drop]; omega) (by omega) (by omega) (by omega) W hab hW
    rw [hg3] at this
    exact this)
  clear hk
  have hN1 := heap_alloc_new w (.cells #[.int .i64 0, .int .i64 0, .string ⟨#[]⟩, .int .i64 0, .int .i64 0, .int .i64 0, .int .i64 0, .int .i64 0, .string ⟨#[]⟩, .slice none 0 0] 34)
  have hb1 := (Below.refl w.heap.size w).alloc (Nat.le_refl _) (.cells #[.int .i64 0, .int .i64 0, .string ⟨#[]⟩, .int .i64 0, .int .i64 0, .int .i64 0, .int .i64 0, .int .i64 0, .string ⟨#[]⟩, .slice none 0 0] 34)
  have hmid : Rd w w.heap.size (some ⟨ab, ao + 2, none⟩) ((b.drop 2).take m) := by have := hr.mid (i := 2) (m := m) (by omega); rwa [add_of] at this
  have hR1 := hr.up hb1
  have hw1 : IntKind.i64.wrap ((m : Int) + 6 - 4) = (m : Int) + 2 := by rw [IntWalk.i64_in _ (by omega)]; omega
  have hc2 : ¬ (c = 2) := by omega
  have hi1 : (1 : Int) < (m : Int) + 6 := by omega
  have hs1 : (2 : Int) ≤ (m : Int) + 2 := by omega
  have hs2 : (m : Int) + 2 ≤ (c : Int) := by omega
  have hs3 : 0 ≤ (m : Int) + 2 := by omega
  have hd6 : decide ((m : Int) + 6 < 6) = false := decide_eq_false (by omega)
  replace hn := Lib.hid hn
  replace hg := Lib.hid hg
  replace he := Lib.hid he
  replace hok := Lib.hid hok
  have hr0 := Lib.hid hr
  go_enter Try.func23, Try.ntmps23
  go_wp2_with fail
  obtain ⟨wd, hwd⟩ : ∃ wd, wd = (w.alloc (.cells #[.int .i64 0, .int .i64 0, .string ⟨#[]⟩, .int .i64 0, .int .i64 0, .int .i64 0, .int .i64 0, .int .i64 0, .string ⟨#[]⟩, .slice none 0 0] 34)).drew := ⟨_, rfl⟩
  have hbd : Hid (Below w.heap.size w wd) := Lib.hid (by rw [hwd]; exact hb1.drew)
  have hNd : Hid (wd.heap[w.heap.size]? = some (.cells #[.int .i64 0, .int .i64 0, .string ⟨#[]⟩, .int .i64 0, .int .i64 0, .int .i64 0, .int .i64 0, .int .i64 0, .string ⟨#[]⟩, .slice none 0 0] 34 (0, 0))) := Lib.hid (by rw [hwd]; exact hN1)
  have hsld : Hid (Rd wd wd.heap.size (some ⟨ab, ao + 2, none⟩) ((b.drop 2).take m)) := Lib.hid (by rw [hwd]; exact (hmid.up hb1).drewN 1)
  obtain ⟨ad', ead, -, c1⟩ := (show Rd wd wd.heap.size (some ⟨ab, ao, none⟩) b by rw [hwd]; exact hR1.drewN 1).get h1
  injection ead with ead
  subst ead
  rw [add_of] at c1
  have hadd : ab < wd.heap.size := Nat.lt_of_lt_of_le hadb hbd.out.size
  clear hg3 hmid hR1 hN1 hb1 hr h1
  have hr := hr0
  clear hr0
  refine wpR_region (Upd (fun _ => False)) 11 (by kernel_rfl) ?_
  (rw [← hwd]; replace hwd := Lib.hid hwd)
  refine wpR_take (i := 0) (v := ?_) (Upd.road _) (some 11) rfl (by kernel_rfl) (by kernel_rfl) (by kernel_rfl) (by kernel_rfl) (by kernel_rfl) (fun _ _ _ h => h) (by kernel_rfl) (fun w' hw' => ?_) ?_
  rotate_left
  · go_simp; with_reducible rfl
  simp only [Act.put, List.setIfInBounds_toArray, List.set_cons_zero, List.set_cons_succ]
  refine wpR_take (i := 1) (v := ?_) (Upd.road _) (some 12) rfl (by kernel_rfl) (by kernel_rfl) (by kernel_rfl) (by kernel_rfl) (by kernel_rfl) (fun _ _ _ h => h) (by kernel_rfl) (fun w' hw' => ?_) ?_
  rotate_left
  · go_simp; with_reducible rfl
  simp only [Act.put, List.setIfInBounds_toArray, List.set_cons_zero, List.set_cons_succ]
  refine wpR_take (i := 2) (v := ?_) (Upd.road _) (some 13) rfl (by kernel_rfl) (by kernel_rfl) (by kernel_rfl) (by kernel_rfl) (by kernel_rfl) (fun _ _ _ h => h) (by kernel_rfl) (fun w' hw' => ?_) ?_
  rotate_left
  · have q := (hw'.cell (p := ⟨ab, ao + 1, none⟩) hadd (fun h => h)).trans c1; go_simp; with_reducible rfl
  simp only [Act.put, List.setIfInBounds_toArray, List.set_cons_zero, List.set_cons_succ]
  refine wpR_take (i := 3) (v := ?_) (Upd.road _) (some 14) rfl (by kernel_rfl) (by kernel_rfl) (by kernel_rfl) (by kernel_rfl) (by kernel_rfl) (fun _ _ _ h => h) (by kernel_rfl) (fun w' hw' => ?_) ?_
  rotate_left
  · go_simp; with_reducible rfl
  simp only [Act.put, List.setIfInBounds_toArray, List.set_cons_zero, List.set_cons_succ]
  refine wpR_take (i := 4) (v := ?_) (Upd.road _) (some 15) rfl (by kernel_rfl) (by kernel_rfl) (by kernel_rfl) (by kernel_rfl) (by kernel_rfl) (fun _ _ _ h => h) (by kernel_rfl) (fun w' hw' => ?_) ?_
  rotate_left
  · go_simp; with_reducible rfl
  simp only [Act.put, List.setIfInBounds_toArray, List.set_cons_zero, List.set_cons_succ]
  refine wpR_take (i := 5) (v := ?_) (Upd.road _) (some 16) rfl (by kernel_rfl) (by kernel_rfl) (by kernel_rfl) (by kernel_rfl) (by kernel_rfl) (fun _ _ _ h => h) (by kernel_rfl) (fun w' hw' => ?_) ?_
  rotate_left
  · go_simp; with_reducible rfl
  simp only [Act.put, List.setIfInBounds_toArray, List.set_cons_zero, List.set_cons_succ]
  refine wpR_take (i := 6) (v := ?_) (Upd.road _) (some 17) rfl (by kernel_rfl) (by kernel_rfl) (by kernel_rfl) (by kernel_rfl) (by kernel_rfl) (fun _ _ _ h => h) (by kernel_rfl) (fun w' hw' => ?_) ?_
  rotate_left
  · go_simp; with_reducible rfl
  simp only [Act.put, List.setIfInBounds_toArray, List.set_cons_zero, List.set_cons_succ]
  refine wpR_take (i := 7) (v := ?_) (Upd.road _) (some 18) rfl (by kernel_rfl) (by kernel_rfl) (by kernel_rfl) (by kernel_rfl) (by kernel_rfl) (fun _ _ _ h => h) (by kernel_rfl) (fun w' hw' => ?_) ?_
  rotate_left
  · go_simp; with_reducible rfl
  simp only [Act.put, List.setIfInBounds_toArray, List.set_cons_zero, List.set_cons_succ]
  refine wpR_take (i := 8) (v := ?_) (Upd.road _) (some 19) rfl (by kernel_rfl) (by kernel_rfl) (by kernel_rfl) (by kernel_rfl) (by kernel_rfl) (fun _ _ _ h => h) (by kernel_rfl) (fun w' hw' => ?_) ?_
  rotate_left
  · go_simp; with_reducible rfl
  simp only [Act.put, List.setIfInBounds_toArray, List.set_cons_zero, List.set_cons_succ]
  refine wpR_two 9 10 rfl rfl (by kernel_rfl) (by kernel_rfl) (by kernel_rfl) (fun K hK => ?_) (fun K hK => ?_)
  · go_simp
    refine (hgs.out _ (by have := hbd.out.size; omega) hsld.out).mono ?_
    rintro e w3 ⟨A9, c9, rfl, hd3, hbb⟩
    refine hK _ _ (fun _ => Upd.of_below hbb) ?_
    clear hK K
    have hN3 := Lib.hid (blk_below hNd.out hbb)
    have hb3 := Lib.hid (hbd.out.trans (hbb.mono hbd.out.size))
    clear hbb
    try simp only [Act.put, List.setIfInBounds_toArray, List.set_cons_zero, List.set_cons_succ]
    refine wpR_one 10 rfl (by kernel_rfl) (by kernel_rfl) (fun K hK => ?_)
    go_simp
    refine hK _ _ (fun _ => Upd.of_below ((Below.refl _ _).alloc (Nat.le_refl _) _)) ?_
    clear hK K
    have hX5 := heap_alloc_new w3 (.cells #[.int .i64 0, .int .i64 0, .string ⟨#[]⟩, .int .i64 0, .int .i64 0, .int .i64 0, .int .i64 0, .int .i64 0, .string ⟨#[]⟩, .slice none 0 0] 34)
    have hN5 := Lib.hid (blk_alloc hN3.out (.cells #[.int .i64 0, .int .i64 0, .string ⟨#[]⟩, .int .i64 0, .int .i64 0, .int .i64 0, .int .i64 0, .int .i64 0, .string ⟨#[]⟩, .slice none 0 0] 34))
    have hb5 := Lib.hid (hb3.out.alloc hb3.out.size (.cells #[.int .i64 0, .int .i64 0, .string ⟨#[]⟩, .int .i64 0, .int .i64 0, .int .i64 0, .int .i64 0, .int .i64 0, .string ⟨#[]⟩, .slice none 0 0] 34))
    have hd9 := hd3.up ((Below.refl _ _).alloc (Nat.le_refl _) (.cells #[.int .i64 0, .int .i64 0, .string ⟨#[]⟩, .int .i64 0, .int .i64 0, .int .i64 0, .int .i64 0, .int .i64 0, .string ⟨#[]⟩, .slice none 0 0] 34))
    obtain ⟨X, hX⟩ : ∃ X, w3.heap.size = X := ⟨_, rfl⟩
    have hXN : w.heap.size < X := by have := blk_lt hN3.out; omega
    rw [hX] at hX5 ⊢
    obtain ⟨w5, hw5⟩ : ∃ w5, w3.alloc (.cells #[.int .i64 0, .int .i64 0, .string ⟨#[]⟩, .int .i64 0, .int .i64 0, .int .i64 0, .int .i64 0, .int .i64 0, .string ⟨#[]⟩, .slice none 0 0] 34) = w5 := ⟨_, rfl⟩
    rw [hw5] at hX5 hN5 hb5 hd9 ⊢
    replace hd9 := Lib.hid hd9
    clear hd3
    have z0 := blk_cell (j := 0) (v := .int .i64 0) hX5 rfl
    have f0 := blk_free hX5 0
    have z1 := blk_cell (j := 1) (v := .int .i64 0) hX5 rfl
    have f1 := blk_free hX5 1
    have z2 := blk_cell (j := 2) (v := .string ⟨#[]⟩) hX5 rfl
    have f2 := blk_free hX5 2
    have z3 := blk_cell (j := 3) (v := .int .i64 0) hX5 rfl
    have f3 := blk_free hX5 3
    have z4 := blk_cell (j := 4) (v := .int .i64 0) hX5 rfl
    have f4 := blk_free hX5 4
    have z5 := blk_cell (j := 5) (v := .int .i64 0) hX5 rfl
    have f5 := blk_free hX5 5
    have z6 := blk_cell (j := 6) (v := .int .i64 0) hX5 rfl
    have f6 := blk_free hX5 6
    have z7 := blk_cell (j := 7) (v := .int .i64 0) hX5 rfl
    have f7 := blk_free hX5 7
    have z8 := blk_cell (j := 8) (v := .string ⟨#[]⟩) hX5 rfl
    have f8 := blk_free hX5 8
    have z9 := blk_cell (j := 9) (v := .slice none 0 0) hX5 rfl
    have f9 := blk_free hX5 9
    replace hX5 := Lib.hid hX5
    replace hw5 := Lib.hid hw5
    replace hX := Lib.hid hX
    unfold Rc.agg
    try simp only [Act.put, List.setIfInBounds_toArray, List.set_cons_zero, List.set_cons_succ]
    refine wpR_one 11 rfl (by kernel_rfl) (by kernel_rfl) (fun K hK => ?_)
    go_simp
    refine hK _ _ (fun h => absurd rfl h) ?_
    clear hK K
    clear z0 f0 z1 f1 z2 f2 z3 f3 z4 f4 z5 f5 z6 f6 z7 f7 z8 f8 z9 f9
    have hd6 := hd9.out.recSet10 hX5.out (by rfl) (.int .i64 q.kind) (.int .i64 q.cart) (.string (bs q.key)) (.int .i64 q.gen) (.int .i64 q.group) (.int .i64 q.groups) (.int .i64 q.index) (.int .i64 q.size) (.string (bs q.sum)) (.slice A9 q.data.length c9)
    have hX6 := blk_set10 hX5.out (.int .i64 q.kind) (.int .i64 q.cart) (.string (bs q.key)) (.int .i64 q.gen) (.int .i64 q.group) (.int .i64 q.groups) (.int .i64 q.index) (.int .i64 q.size) (.string (bs q.sum)) (.slice A9 q.data.length c9)
    have hN6 := set10_other (X := X) (g := w.heap.size) (by omega) hN5.out (.int .i64 q.kind) (.int .i64 q.cart) (.string (bs q.key)) (.int .i64 q.gen) (.int .i64 q.group) (.int .i64 q.groups) (.int .i64 q.index) (.int .i64 q.size) (.string (bs q.sum)) (.slice A9 q.data.length c9)
    have hb6 := setLo10 hb5.out (g := X) (Nat.le_of_lt hXN) (.int .i64 q.kind) (.int .i64 q.cart) (.string (bs q.key)) (.int .i64 q.gen) (.int .i64 q.group) (.int .i64 q.groups) (.int .i64 q.index) (.int .i64 q.size) (.string (bs q.sum)) (.slice A9 q.data.length c9)
    have hz6 : ((((((((((w5.setCell ⟨X, 0, none⟩ (.int .i64 q.kind)).setCell ⟨X, 1, none⟩ (.int .i64 q.cart)).setCell ⟨X, 2, none⟩ (.string (bs q.key))).setCell ⟨X, 3, none⟩ (.int .i64 q.gen)).setCell ⟨X, 4, none⟩ (.int .i64 q.group)).setCell ⟨X, 5, none⟩ (.int .i64 q.groups)).setCell ⟨X, 6, none⟩ (.int .i64 q.index)).setCell ⟨X, 7, none⟩ (.int .i64 q.size)).setCell ⟨X, 8, none⟩ (.string (bs q.sum))).setCell ⟨X, 9, none⟩ (.slice A9 q.data.length c9)).heap.size = w5.heap.size := by simp
    obtain ⟨w6, hw6⟩ : ∃ w6, ((((((((((w5.setCell ⟨X, 0, none⟩ (.int .i64 q.kind)).setCell ⟨X, 1, none⟩ (.int .i64 q.cart)).setCell ⟨X, 2, none⟩ (.string (bs q.key))).setCell ⟨X, 3, none⟩ (.int .i64 q.gen)).setCell ⟨X, 4, none⟩ (.int .i64 q.group)).setCell ⟨X, 5, none⟩ (.int .i64 q.groups)).setCell ⟨X, 6, none⟩ (.int .i64 q.index)).setCell ⟨X, 7, none⟩ (.int .i64 q.size)).setCell ⟨X, 8, none⟩ (.string (bs q.sum))).setCell ⟨X, 9, none⟩ (.slice A9 q.data.length c9)) = w6 := ⟨_, rfl⟩
    rw [hw6] at hX6 hN6 hb6 hd6 hz6 ⊢
    rw [← hz6] at hd6
    replace hX6 := Lib.hid hX6
    replace hN6 := Lib.hid hN6
    replace hb6 := Lib.hid hb6
    replace hw6 := Lib.hid hw6
    replace hd6 := Lib.hid hd6
    clear hX5 hN5 hb5 hd9 hz6
    try simp only [Act.put, List.setIfInBounds_toArray, List.set_cons_zero, List.set_cons_succ]
    refine wpR_done (by kernel_rfl) ?_ _
    have y0 := blk_cell (j := 0) (v := .int .i64 q.kind) hX6.out rfl
    have y1 := blk_cell (j := 1) (v := .int .i64 q.cart) hX6.out rfl
    have y2 := blk_cell (j := 2) (v := .string (bs q.key)) hX6.out rfl
    have y3 := blk_cell (j := 3) (v := .int .i64 q.gen) hX6.out rfl
    have y4 := blk_cell (j := 4) (v := .int .i64 q.group) hX6.out rfl
    have y5 := blk_cell (j := 5) (v := .int .i64 q.groups) hX6.out rfl
    have y6 := blk_cell (j := 6) (v := .int .i64 q.index) hX6.out rfl
    have y7 := blk_cell (j := 7) (v := .int .i64 q.size) hX6.out rfl
    have y8 := blk_cell (j := 8) (v := .string (bs q.sum)) hX6.out rfl
    have y9 := blk_cell (j := 9) (v := .slice A9 q.data.length c9) hX6.out rfl
    have hen := Lib.hid (encode_ok q A9 c9 hok.out hg.out w6 hd6.out)
    unfold Rc.agg at hen
    go_wp2_with fail
    clear y0 y1 y2 y3 y4 y5 y6 y7 y8 y9
    refine hen.out.mono ?_
    rintro e w8 ⟨v8, rfl, ho8, hbb⟩
    obtain ⟨A8, c8, rfl, -, -, hR8, -⟩ := ho8.form
    obtain ⟨n8, hn8⟩ : ∃ n8, (encB q).length = n8 := ⟨_, rfl⟩
    rw [hn8] at ho8 ⊢
    replace hn8 := Lib.hid hn8
    have hX9 := Lib.hid (blk_below hX6.out hbb)
    have hN9 := Lib.hid (blk_below hN6.out hbb)
    have hb9 := Lib.hid (hb6.out.trans (hbb.mono hb6.out.size))
    have hRb := Lib.hid ((hr.out.up hb9.out))
    replace hR8 := Lib.hid hR8
    have hd8 := Lib.hid (hd6.out.up hbb)
    clear ho8 hbb hen
    go_wp2_with fail
    refine (equal_any A8 (some ⟨ab, ao, none⟩) n8 c8 (m + 6) c _ _ (encB q) b hn8.out hn.out _ hR8.out hRb.out).mono ?_
    rw [he.out]
    rintro e w9 ⟨rfl, rfl⟩
    have y0 := blk_cell (j := 0) (v := .int .i64 q.kind) hX9.out rfl
    have y1 := blk_cell (j := 1) (v := .int .i64 q.cart) hX9.out rfl
    have y2 := blk_cell (j := 2) (v := .string (bs q.key)) hX9.out rfl
    have y3 := blk_cell (j := 3) (v := .int .i64 q.gen) hX9.out rfl
    have y4 := blk_cell (j := 4) (v := .int .i64 q.group) hX9.out rfl
    have y5 := blk_cell (j := 5) (v := .int .i64 q.groups) hX9.out rfl
    have y6 := blk_cell (j := 6) (v := .int .i64 q.index) hX9.out rfl
    have y7 := blk_cell (j := 7) (v := .int .i64 q.size) hX9.out rfl
    have y8 := blk_cell (j := 8) (v := .string (bs q.sum)) hX9.out rfl
    have y9 := blk_cell (j := 9) (v := .slice A9 q.data.length c9) hX9.out rfl
    have z0 := blk_cell (j := 0) (v := .int .i64 0) hN9.out rfl
    have f0 := blk_free hN9.out 0
    have z1 := blk_cell (j := 1) (v := .int .i64 0) hN9.out rfl
    have f1 := blk_free hN9.out 1
    have z2 := blk_cell (j := 2) (v := .string ⟨#[]⟩) hN9.out rfl
    have f2 := blk_free hN9.out 2
    have z3 := blk_cell (j := 3) (v := .int .i64 0) hN9.out rfl
    have f3 := blk_free hN9.out 3
    have z4 := blk_cell (j := 4) (v := .int .i64 0) hN9.out rfl
    have f4 := blk_free hN9.out 4
    have z5 := blk_cell (j := 5) (v := .int .i64 0) hN9.out rfl
    have f5 := blk_free hN9.out 5
    have z6 := blk_cell (j := 6) (v := .int .i64 0) hN9.out rfl
    have f6 := blk_free hN9.out 6
    have z7 := blk_cell (j := 7) (v := .int .i64 0) hN9.out rfl
    have f7 := blk_free hN9.out 7
    have z8 := blk_cell (j := 8) (v := .string ⟨#[]⟩) hN9.out rfl
    have f8 := blk_free hN9.out 8
    have z9 := blk_cell (j := 9) (v := .slice none 0 0) hN9.out rfl
    have f9 := blk_free hN9.out 9
    go_wp2_with fail
    have hz := blk_set10 hN9.out (.int .i64 q.kind) (.int .i64 q.cart) (.string (bs q.key)) (.int .i64 q.gen) (.int .i64 q.group) (.int .i64 q.groups) (.int .i64 q.index) (.int .i64 q.size) (.string (bs q.sum)) (.slice A9 q.data.length c9)
    have hbz := setLo10 hb9.out (Nat.le_refl w.heap.size) (.int .i64 q.kind) (.int .i64 q.cart) (.string (bs q.key)) (.int .i64 q.gen) (.int .i64 q.group) (.int .i64 q.groups) (.int .i64 q.index) (.int .i64 q.size) (.string (bs q.sum)) (.slice A9 q.data.length c9)
    have hdz := hd8.out.recSet10 hN9.out (by rfl) (.int .i64 q.kind) (.int .i64 q.cart) (.string (bs q.key)) (.int .i64 q.gen) (.int .i64 q.group) (.int .i64 q.groups) (.int .i64 q.index) (.int .i64 q.size) (.string (bs q.sum)) (.slice A9 q.data.length c9)
    have hsz : ((((((((((w9.setCell ⟨w.heap.size, 0, none⟩ (.int .i64 q.kind)).setCell ⟨w.heap.size, 1, none⟩ (.int .i64 q.cart)).setCell ⟨w.heap.size, 2, none⟩ (.string (bs q.key))).setCell ⟨w.heap.size, 3, none⟩ (.int .i64 q.gen)).setCell ⟨w.heap.size, 4, none⟩ (.int .i64 q.group)).setCell ⟨w.heap.size, 5, none⟩ (.int .i64 q.groups)).setCell ⟨w.heap.size, 6, none⟩ (.int .i64 q.index)).setCell ⟨w.heap.size, 7, none⟩ (.int .i64 q.size)).setCell ⟨w.heap.size, 8, none⟩ (.string (bs q.sum))).setCell ⟨w.heap.size, 9, none⟩ (.slice A9 q.data.length c9)).heap.size = w9.heap.size := by simp
    obtain ⟨w10, hw10⟩ : ∃ w10, ((((((((((w9.setCell ⟨w.heap.size, 0, none⟩ (.int .i64 q.kind)).setCell ⟨w.heap.size, 1, none⟩ (.int .i64 q.cart)).setCell ⟨w.heap.size, 2, none⟩ (.string (bs q.key))).setCell ⟨w.heap.size, 3, none⟩ (.int .i64 q.gen)).setCell ⟨w.heap.size, 4, none⟩ (.int .i64 q.group)).setCell ⟨w.heap.size, 5, none⟩ (.int .i64 q.groups)).setCell ⟨w.heap.size, 6, none⟩ (.int .i64 q.index)).setCell ⟨w.heap.size, 7, none⟩ (.int .i64 q.size)).setCell ⟨w.heap.size, 8, none⟩ (.string (bs q.sum))).setCell ⟨w.heap.size, 9, none⟩ (.slice A9 q.data.length c9)) = w10 := ⟨_, rfl⟩
    rw [hw10] at hz hbz hdz hsz ⊢
    rw [← hsz] at hdz
    have r0 := blk_cell (j := 0) (v := .int .i64 q.kind) hz rfl
    have r1 := blk_cell (j := 1) (v := .int .i64 q.cart) hz rfl
    have r2 := blk_cell (j := 2) (v := .string (bs q.key)) hz rfl
    have r3 := blk_cell (j := 3) (v := .int .i64 q.gen) hz rfl
    have r4 := blk_cell (j := 4) (v := .int .i64 q.group) hz rfl
    have r5 := blk_cell (j := 5) (v := .int .i64 q.groups) hz rfl
    have r6 := blk_cell (j := 6) (v := .int .i64 q.index) hz rfl
    have r7 := blk_cell (j := 7) (v := .int .i64 q.size) hz rfl
    have r8 := blk_cell (j := 8) (v := .string (bs q.sum)) hz rfl
    have r9 := blk_cell (j := 9) (v := .slice A9 q.data.length c9) hz rfl
    exact bodyPost_ret (v := .tuple #[(.agg #[.int .i64 q.kind, .int .i64 q.cart, .string (bs q.key), .int .i64 q.gen, .int .i64 q.group, .int .i64 q.groups, .int .i64 q.index, .int .i64 q.size, .string (bs q.sum), .slice A9 q.data.length c9]), .int .i64 0]) (by simp [results, Try.results23, go_sem, r0, r1, r2, r3, r4, r5, r6, r7, r8, r9]) rfl ⟨A9, c9, rfl, hdz, hbz⟩
  · go_simp
    refine hK _ _ (fun _ => Upd.of_below ((Below.refl _ _).alloc (Nat.le_refl _) _)) ?_
    clear hK K
    have hX3 := Lib.hid (heap_alloc_new wd (.cells #[.int .i64 0, .int .i64 0, .string ⟨#[]⟩, .int .i64 0, .int .i64 0, .int .i64 0, .int .i64 0, .int .i64 0, .string ⟨#[]⟩, .slice none 0 0] 34))
    have hN3 := Lib.hid (blk_alloc hNd.out (.cells #[.int .i64 0, .int .i64 0, .string ⟨#[]⟩, .int .i64 0, .int .i64 0, .int .i64 0, .int .i64 0, .int .i64 0, .string ⟨#[]⟩, .slice none 0 0] 34))
    have hb3 := Lib.hid (hbd.out.alloc hbd.out.size (.cells #[.int .i64 0, .int .i64 0, .string ⟨#[]⟩, .int .i64 0, .int .i64 0, .int .i64 0, .int .i64 0, .int .i64 0, .string ⟨#[]⟩, .slice none 0 0] 34))
    have hsl3 := Lib.hid (hsld.out.up ((Below.refl wd.heap.size wd).alloc (Nat.le_refl _) (.cells #[.int .i64 0, .int .i64 0, .string ⟨#[]⟩, .int .i64 0, .int .i64 0, .int .i64 0, .int .i64 0, .int .i64 0, .string ⟨#[]⟩, .slice none 0 0] 34)))
    obtain ⟨X, hX⟩ : ∃ X, wd.heap.size = X := ⟨_, rfl⟩
    have hXN : w.heap.size < X := by have := blk_lt hNd.out; omega
    rw [hX] at hX3 ⊢
    obtain ⟨w3, hw3⟩ : ∃ w3, wd.alloc (.cells #[.int .i64 0, .int .i64 0, .string ⟨#[]⟩, .int .i64 0, .int .i64 0, .int .i64 0, .int .i64 0, .int .i64 0, .string ⟨#[]⟩, .slice none 0 0] 34) = w3 := ⟨_, rfl⟩
    rw [hw3] at hX3 hN3 hb3 hsl3 ⊢
    replace hw3 := Lib.hid hw3
    replace hX := Lib.hid hX
    try simp only [Act.put, List.setIfInBounds_toArray, List.set_cons_zero, List.set_cons_succ]
    refine wpR_one 9 rfl (by kernel_rfl) (by kernel_rfl) (fun K hK => ?_)
    go_simp
    refine (hgs.out _ (by have := hb3.out.size; omega) hsl3.out).mono ?_
    rintro e w5 ⟨A9, c9, rfl, hd9, hbb⟩
    refine hK _ _ (fun _ => Upd.of_below hbb) ?_
    clear hK K
    have hX5 := blk_below hX3.out hbb
    have hN5 := blk_below hN3.out hbb
    have hb5 := Lib.hid (hb3.out.trans (hbb.mono hb3.out.size))
    replace hd9 := Lib.hid hd9
    clear hbb
    have z0 := blk_cell (j := 0) (v := .int .i64 0) hX5 rfl
    have f0 := blk_free hX5 0
    have z1 := blk_cell (j := 1) (v := .int .i64 0) hX5 rfl
    have f1 := blk_free hX5 1
    have z2 := blk_cell (j := 2) (v := .string ⟨#[]⟩) hX5 rfl
    have f2 := blk_free hX5 2
    have z3 := blk_cell (j := 3) (v := .int .i64 0) hX5 rfl
    have f3 := blk_free hX5 3
    have z4 := blk_cell (j := 4) (v := .int .i64 0) hX5 rfl
    have f4 := blk_free hX5 4
    have z5 := blk_cell (j := 5) (v := .int .i64 0) hX5 rfl
    have f5 := blk_free hX5 5
    have z6 := blk_cell (j := 6) (v := .int .i64 0) hX5 rfl
    have f6 := blk_free hX5 6
    have z7 := blk_cell (j := 7) (v := .int .i64 0) hX5 rfl
    have f7 := blk_free hX5 7
    have z8 := blk_cell (j := 8) (v := .string ⟨#[]⟩) hX5 rfl
    have f8 := blk_free hX5 8
    have z9 := blk_cell (j := 9) (v := .slice none 0 0) hX5 rfl
    have f9 := blk_free hX5 9
    replace hX5 := Lib.hid hX5
    replace hN5 := Lib.hid hN5
    unfold Rc.agg
    try simp only [Act.put, List.setIfInBounds_toArray, List.set_cons_zero, List.set_cons_succ]
    refine wpR_one 11 rfl (by kernel_rfl) (by kernel_rfl) (fun K hK => ?_)
    go_simp
    refine hK _ _ (fun h => absurd rfl h) ?_
    clear hK K
    clear z0 f0 z1 f1 z2 f2 z3 f3 z4 f4 z5 f5 z6 f6 z7 f7 z8 f8 z9 f9
    have hd6 := hd9.out.recSet10 hX5.out (by rfl) (.int .i64 q.kind) (.int .i64 q.cart) (.string (bs q.key)) (.int .i64 q.gen) (.int .i64 q.group) (.int .i64 q.groups) (.int .i64 q.index) (.int .i64 q.size) (.string (bs q.sum)) (.slice A9 q.data.length c9)
    have hX6 := blk_set10 hX5.out (.int .i64 q.kind) (.int .i64 q.cart) (.string (bs q.key)) (.int .i64 q.gen) (.int .i64 q.group) (.int .i64 q.groups) (.int .i64 q.index) (.int .i64 q.size) (.string (bs q.sum)) (.slice A9 q.data.length c9)
    have hN6 := set10_other (X := X) (g := w.heap.size) (by omega) hN5.out (.int .i64 q.kind) (.int .i64 q.cart) (.string (bs q.key)) (.int .i64 q.gen) (.int .i64 q.group) (.int .i64 q.groups) (.int .i64 q.index) (.int .i64 q.size) (.string (bs q.sum)) (.slice A9 q.data.length c9)
    have hb6 := setLo10 hb5.out (g := X) (Nat.le_of_lt hXN) (.int .i64 q.kind) (.int .i64 q.cart) (.string (bs q.key)) (.int .i64 q.gen) (.int .i64 q.group) (.int .i64 q.groups) (.int .i64 q.index) (.int .i64 q.size) (.string (bs q.sum)) (.slice A9 q.data.length c9)
    have hz6 : ((((((((((w5.setCell ⟨X, 0, none⟩ (.int .i64 q.kind)).setCell ⟨X, 1, none⟩ (.int .i64 q.cart)).setCell ⟨X, 2, none⟩ (.string (bs q.key))).setCell ⟨X, 3, none⟩ (.int .i64 q.gen)).setCell ⟨X, 4, none⟩ (.int .i64 q.group)).setCell ⟨X, 5, none⟩ (.int .i64 q.groups)).setCell ⟨X, 6, none⟩ (.int .i64 q.index)).setCell ⟨X, 7, none⟩ (.int .i64 q.size)).setCell ⟨X, 8, none⟩ (.string (bs q.sum))).setCell ⟨X, 9, none⟩ (.slice A9 q.data.length c9)).heap.size = w5.heap.size := by simp
    obtain ⟨w6, hw6⟩ : ∃ w6, ((((((((((w5.setCell ⟨X, 0, none⟩ (.int .i64 q.kind)).setCell ⟨X, 1, none⟩ (.int .i64 q.cart)).setCell ⟨X, 2, none⟩ (.string (bs q.key))).setCell ⟨X, 3, none⟩ (.int .i64 q.gen)).setCell ⟨X, 4, none⟩ (.int .i64 q.group)).setCell ⟨X, 5, none⟩ (.int .i64 q.groups)).setCell ⟨X, 6, none⟩ (.int .i64 q.index)).setCell ⟨X, 7, none⟩ (.int .i64 q.size)).setCell ⟨X, 8, none⟩ (.string (bs q.sum))).setCell ⟨X, 9, none⟩ (.slice A9 q.data.length c9)) = w6 := ⟨_, rfl⟩
    rw [hw6] at hX6 hN6 hb6 hd6 hz6 ⊢
    rw [← hz6] at hd6
    replace hX6 := Lib.hid hX6
    replace hN6 := Lib.hid hN6
    replace hb6 := Lib.hid hb6
    replace hw6 := Lib.hid hw6
    replace hd6 := Lib.hid hd6
    clear hX5 hN5 hb5 hd9 hz6
    try simp only [Act.put, List.setIfInBounds_toArray, List.set_cons_zero, List.set_cons_succ]
    refine wpR_done (by kernel_rfl) ?_ _
    have y0 := blk_cell (j := 0) (v := .int .i64 q.kind) hX6.out rfl
    have y1 := blk_cell (j := 1) (v := .int .i64 q.cart) hX6.out rfl
    have y2 := blk_cell (j := 2) (v := .string (bs q.key)) hX6.out rfl
    have y3 := blk_cell (j := 3) (v := .int .i64 q.gen) hX6.out rfl
    have y4 := blk_cell (j := 4) (v := .int .i64 q.group) hX6.out rfl
    have y5 := blk_cell (j := 5) (v := .int .i64 q.groups) hX6.out rfl
    have y6 := blk_cell (j := 6) (v := .int .i64 q.index) hX6.out rfl
    have y7 := blk_cell (j := 7) (v := .int .i64 q.size) hX6.out rfl
    have y8 := blk_cell (j := 8) (v := .string (bs q.sum)) hX6.out rfl
    have y9 := blk_cell (j := 9) (v := .slice A9 q.data.length c9) hX6.out rfl
    have hen := Lib.hid (encode_ok q A9 c9 hok.out hg.out w6 hd6.out)
    unfold Rc.agg at hen
    go_wp2_with fail
    clear y0 y1 y2 y3 y4 y5 y6 y7 y8 y9
    refine hen.out.mono ?_
    rintro e w8 ⟨v8, rfl, ho8, hbb⟩
    obtain ⟨A8, c8, rfl, -, -, hR8, -⟩ := ho8.form
    obtain ⟨n8, hn8⟩ : ∃ n8, (encB q).length = n8 := ⟨_, rfl⟩
    rw [hn8] at ho8 ⊢
    replace hn8 := Lib.hid hn8
    have hX9 := Lib.hid (blk_below hX6.out hbb)
    have hN9 := Lib.hid (blk_below hN6.out hbb)
    have hb9 := Lib.hid (hb6.out.trans (hbb.mono hb6.out.size))
    have hRb := Lib.hid ((hr.out.up hb9.out))
    replace hR8 := Lib.hid hR8
    have hd8 := Lib.hid (hd6.out.up hbb)
    clear ho8 hbb hen
    go_wp2_with fail
    refine (equal_any A8 (some ⟨ab, ao, none⟩) n8 c8 (m + 6) c _ _ (encB q) b hn8.out hn.out _ hR8.out hRb.out).mono ?_
    rw [he.out]
    rintro e w9 ⟨rfl, rfl⟩
    have y0 := blk_cell (j := 0) (v := .int .i64 q.kind) hX9.out rfl
    have y1 := blk_cell (j := 1) (v := .int .i64 q.cart) hX9.out rfl
    have y2 := blk_cell (j := 2) (v := .string (bs q.key)) hX9.out rfl
    have y3 := blk_cell (j := 3) (v := .int .i64 q.gen) hX9.out rfl
    have y4 := blk_cell (j := 4) (v := .int .i64 q.group) hX9.out rfl
    have y5 := blk_cell (j := 5) (v := .int .i64 q.groups) hX9.out rfl
    have y6 := blk_cell (j := 6) (v := .int .i64 q.index) hX9.out rfl
    have y7 := blk_cell (j := 7) (v := .int .i64 q.size) hX9.out rfl
    have y8 := blk_cell (j := 8) (v := .string (bs q.sum)) hX9.out rfl
    have y9 := blk_cell (j := 9) (v := .slice A9 q.data.length c9) hX9.out rfl
    have z0 := blk_cell (j := 0) (v := .int .i64 0) hN9.out rfl
    have f0 := blk_free hN9.out 0
    have z1 := blk_cell (j := 1) (v := .int .i64 0) hN9.out rfl
    have f1 := blk_free hN9.out 1
    have z2 := blk_cell (j := 2) (v := .string ⟨#[]⟩) hN9.out rfl
    have f2 := blk_free hN9.out 2
    have z3 := blk_cell (j := 3) (v := .int .i64 0) hN9.out rfl
    have f3 := blk_free hN9.out 3
    have z4 := blk_cell (j := 4) (v := .int .i64 0) hN9.out rfl
    have f4 := blk_free hN9.out 4
    have z5 := blk_cell (j := 5) (v := .int .i64 0) hN9.out rfl
    have f5 := blk_free hN9.out 5
    have z6 := blk_cell (j := 6) (v := .int .i64 0) hN9.out rfl
    have f6 := blk_free hN9.out 6
    have z7 := blk_cell (j := 7) (v := .int .i64 0) hN9.out rfl
    have f7 := blk_free hN9.out 7
    have z8 := blk_cell (j := 8) (v := .string ⟨#[]⟩) hN9.out rfl
    have f8 := blk_free hN9.out 8
    have z9 := blk_cell (j := 9) (v := .slice none 0 0) hN9.out rfl
    have f9 := blk_free hN9.out 9
    go_wp2_with fail
    have hz := blk_set10 hN9.out (.int .i64 q.kind) (.int .i64 q.cart) (.string (bs q.key)) (.int .i64 q.gen) (.int .i64 q.group) (.int .i64 q.groups) (.int .i64 q.index) (.int .i64 q.size) (.string (bs q.sum)) (.slice A9 q.data.length c9)
    have hbz := setLo10 hb9.out (Nat.le_refl w.heap.size) (.int .i64 q.kind) (.int .i64 q.cart) (.string (bs q.key)) (.int .i64 q.gen) (.int .i64 q.group) (.int .i64 q.groups) (.int .i64 q.index) (.int .i64 q.size) (.string (bs q.sum)) (.slice A9 q.data.length c9)
    have hdz := hd8.out.recSet10 hN9.out (by rfl) (.int .i64 q.kind) (.int .i64 q.cart) (.string (bs q.key)) (.int .i64 q.gen) (.int .i64 q.group) (.int .i64 q.groups) (.int .i64 q.index) (.int .i64 q.size) (.string (bs q.sum)) (.slice A9 q.data.length c9)
    have hsz : ((((((((((w9.setCell ⟨w.heap.size, 0, none⟩ (.int .i64 q.kind)).setCell ⟨w.heap.size, 1, none⟩ (.int .i64 q.cart)).setCell ⟨w.heap.size, 2, none⟩ (.string (bs q.key))).setCell ⟨w.heap.size, 3, none⟩ (.int .i64 q.gen)).setCell ⟨w.heap.size, 4, none⟩ (.int .i64 q.group)).setCell ⟨w.heap.size, 5, none⟩ (.int .i64 q.groups)).setCell ⟨w.heap.size, 6, none⟩ (.int .i64 q.index)).setCell ⟨w.heap.size, 7, none⟩ (.int .i64 q.size)).setCell ⟨w.heap.size, 8, none⟩ (.string (bs q.sum))).setCell ⟨w.heap.size, 9, none⟩ (.slice A9 q.data.length c9)).heap.size = w9.heap.size := by simp
    obtain ⟨w10, hw10⟩ : ∃ w10, ((((((((((w9.setCell ⟨w.heap.size, 0, none⟩ (.int .i64 q.kind)).setCell ⟨w.heap.size, 1, none⟩ (.int .i64 q.cart)).setCell ⟨w.heap.size, 2, none⟩ (.string (bs q.key))).setCell ⟨w.heap.size, 3, none⟩ (.int .i64 q.gen)).setCell ⟨w.heap.size, 4, none⟩ (.int .i64 q.group)).setCell ⟨w.heap.size, 5, none⟩ (.int .i64 q.groups)).setCell ⟨w.heap.size, 6, none⟩ (.int .i64 q.index)).setCell ⟨w.heap.size, 7, none⟩ (.int .i64 q.size)).setCell ⟨w.heap.size, 8, none⟩ (.string (bs q.sum))).setCell ⟨w.heap.size, 9, none⟩ (.slice A9 q.data.length c9)) = w10 := ⟨_, rfl⟩
    rw [hw10] at hz hbz hdz hsz ⊢
    rw [← hsz] at hdz
    have r0 := blk_cell (j := 0) (v := .int .i64 q.kind) hz rfl
    have r1 := blk_cell (j := 1) (v := .int .i64 q.cart) hz rfl
    have r2 := blk_cell (j := 2) (v := .string (bs q.key)) hz rfl
    have r3 := blk_cell (j := 3) (v := .int .i64 q.gen) hz rfl
    have r4 := blk_cell (j := 4) (v := .int .i64 q.group) hz rfl
    have r5 := blk_cell (j := 5) (v := .int .i64 q.groups) hz rfl
    have r6 := blk_cell (j := 6) (v := .int .i64 q.index) hz rfl
    have r7 := blk_cell (j := 7) (v := .int .i64 q.size) hz rfl
    have r8 := blk_cell (j := 8) (v := .string (bs q.sum)) hz rfl
    have r9 := blk_cell (j := 9) (v := .slice A9 q.data.length c9) hz rfl
    exact bodyPost_ret (v := .tuple #[(.agg #[.int .i64 q.kind, .int .i64 q.cart, .string (bs q.key), .int .i64 q.gen, .int .i64 q.group, .int .i64 q.groups, .int .i64 q.index, .int .i64 q.size, .string (bs q.sum), .slice A9 q.data.length c9]), .int .i64 0]) (by simp [results, Try.results23, go_sem, r0, r1, r2, r3, r4, r5, r6, r7, r8, r9]) rfl ⟨A9, c9, rfl, hdz, hbz⟩

set_option maxHeartbeats 8000000 in
set_option maxRecDepth 20000 in
theorem decode_ne (A : Option Addr) (m c : Nat) (b : List UInt8) (hn : b.length = m + 6) (hnc : m + 6 ≤ c) (hcm : c ≤ 9223372036854775807) (hm : m ≤ 140737488355000) (k : UInt8) (h1 : b[1]? = some k) (q : Rc)
    (hg3 : guessR (U k) ((b.drop 2).take m) = q) (hg : goodB q = true) (he : (encB q == b) = false) (w : World) (hr : Rd w w.heap.size A b) :
    Calls Try.prog 23 #[.slice A (m + 6) c] w fun e w' => e = .returned (.tuple #[(.agg #[.int .i64 0, .int .i64 0, .string ⟨#[]⟩, .int .i64 0, .int .i64 0, .int .i64 0, .int .i64 0, .int .i64 0, .string ⟨#[]⟩, .slice none 0 0]), .int .i64 12]) ∧ Below w.heap.size w w' := by
  obtain ⟨ad0, rfl, hadb0, hc0⟩ := hr.at_ (k := 0) (by omega)
  have hfl := flat_of hc0
  obtain ⟨ab, hab⟩ : ∃ ab, ad0.block = ab := ⟨_, rfl⟩
  obtain ⟨ao, hao⟩ : ∃ ao, ad0.off = ao := ⟨_, rfl⟩
  rw [hab, hao] at hfl
  subst hfl
  clear hc0 hab hao
  have hadb : ab < w.heap.size := hadb0
  have hk := U_bd k
  have hok : q.Ok := by rw [← hg3]; exact guessR_ok _ (by unfold R64; omega) _ (by rw [List.length_take, List.length_drop]; omega)
  have hgs : Hid (∀ W : World, ab < W.heap.size → Rd W W.heap.size (some ⟨ab, ao + 2, none⟩) ((b.drop 2).take m) → Calls Try.prog 43 #[.int .i64 (U k), .slice (some ⟨ab, ao + 2, none⟩) m (c - 2)] W fun e w' => ∃ A9 c9, e = .returned (q.agg A9 c9) ∧ Rd w' w'.heap.size A9 q.data ∧ Below W.heap.size W w') := Lib.hid (fun W hab hW => by
    have := guess_any (U k) ab (ao + 2) m (c - 2) _ (by rw [List.length_take, List.length_drop]; omega) (by omega) (by omega) (by omega) W hab hW
    rw [hg3] at this
    exact this)
  clear hk
  have hN1 := heap_alloc_new w (.cells #[.int .i64 0, .int .i64 0, .string ⟨#[]⟩, .int .i64 0, .int .i64 0, .int .i64 0, .int .i64 0, .int .i64 0, .string ⟨#[]⟩, .slice none 0 0] 34)
  have hb1 := (Below.refl w.heap.size w).alloc (Nat.le_refl _) (.cells #[.int .i64 0, .int .i64 0, .string ⟨#[]⟩, .int .i64 0, .int .i64 0, .int .i64 0, .int .i64 0, .int .i64 0, .string ⟨#[]⟩, .slice none 0 0] 34)
  have hmid : Rd w w.heap.size (some ⟨ab, ao + 2, none⟩) ((b.drop 2).take m) := by have := hr.mid (i := 2) (m := m) (by omega); rwa [add_of] at this
  have hR1 := hr.up hb1
  have hw1 : IntKind.i64.wrap ((m : Int) + 6 - 4) = (m : Int) + 2 := by rw [IntWalk.i64_in _ (by omega)]; omega
  have hc2 : ¬ (c = 2) := by omega
  have hi1 : (1 : Int) < (m : Int) + 6 := by omega
  have hs1 : (2 : Int) ≤ (m : Int) + 2 := by omega
  have hs2 : (m : Int) + 2 ≤ (c : Int) := by omega
  have hs3 : 0 ≤ (m : Int) + 2 := by omega
  have hd6 : decide ((m : Int) + 6 < 6) = false := decide_eq_false (by omega)
  replace hn := Lib.hid hn
  replace hg := Lib.hid hg
  replace he := Lib.hid he
  replace hok := Lib.hid hok
  have hr0 := Lib.hid hr
  go_enter Try.func23, Try.ntmps23
  go_wp2_with fail
  obtain ⟨wd, hwd⟩ : ∃ wd, wd = (w.alloc (.cells #[.int .i64 0, .int .i64 0, .string ⟨#[]⟩, .int .i64 0, .int .i64 0, .int .i64 0, .int .i64 0, .int .i64 0, .string ⟨#[]⟩, .slice none 0 0] 34)).drew := ⟨_, rfl⟩
  have hbd : Hid (Below w.heap.size w wd) := Lib.hid (by rw [hwd]; exact hb1.drew)
  have hNd : Hid (wd.heap[w.heap.size]? = some (.cells #[.int .i64 0, .int .i64 0, .string ⟨#[]⟩, .int .i64 0, .int .i64 0, .int .i64 0, .int .i64 0, .int .i64 0, .string ⟨#[]⟩, .slice none 0 0] 34 (0, 0))) := Lib.hid (by rw [hwd]; exact hN1)
  have hsld : Hid (Rd wd wd.heap.size (some ⟨ab, ao + 2, none⟩) ((b.drop 2).take m)) := Lib.hid (by rw [hwd]; exact (hmid.up hb1).drewN 1)
  obtain ⟨ad', ead, -, c1⟩ := (show Rd wd wd.heap.size (some ⟨ab, ao, none⟩) b by rw [hwd]; exact hR1.drewN 1).get h1
  injection ead with ead
  subst ead
  rw [add_of] at c1
  have hadd : ab < wd.heap.size := Nat.lt_of_lt_of_le hadb hbd.out.size
  clear hg3 hmid hR1 hN1 hb1 hr h1
  have hr := hr0
  clear hr0
  refine wpR_region (Upd (fun _ => False)) 11 (by kernel_rfl) ?_
  (rw [← hwd]; replace hwd := Lib.hid hwd)
  refine wpR_take (i := 0) (v := ?_) (Upd.road _) (some 11) rfl (by kernel_rfl) (by kernel_rfl) (by kernel_rfl) (by kernel_rfl) (by kernel_rfl) (fun _ _ _ h => h) (by kernel_rfl) (fun w' hw' => ?_) ?_
  rotate_left
  · go_simp; with_reducible rfl
  simp only [Act.put, List.setIfInBounds_toArray, List.set_cons_zero, List.set_cons_succ]
  refine wpR_take (i := 1) (v := ?_) (Upd.road _) (some 12) rfl (by kernel_rfl) (by kernel_rfl) (by kernel_rfl) (by kernel_rfl) (by kernel_rfl) (fun _ _ _ h => h) (by kernel_rfl) (fun w' hw' => ?_) ?_
  rotate_left
  · go_simp; with_reducible rfl
  simp only [Act.put, List.setIfInBounds_toArray, List.set_cons_zero, List.set_cons_succ]
  refine wpR_take (i := 2) (v := ?_) (Upd.road _) (some 13) rfl (by kernel_rfl) (by kernel_rfl) (by kernel_rfl) (by kernel_rfl) (by kernel_rfl) (fun _ _ _ h => h) (by kernel_rfl) (fun w' hw' => ?_) ?_
  rotate_left
  · have q := (hw'.cell (p := ⟨ab, ao + 1, none⟩) hadd (fun h => h)).trans c1; go_simp; with_reducible rfl
  simp only [Act.put, List.setIfInBounds_toArray, List.set_cons_zero, List.set_cons_succ]
  refine wpR_take (i := 3) (v := ?_) (Upd.road _) (some 14) rfl (by kernel_rfl) (by kernel_rfl) (by kernel_rfl) (by kernel_rfl) (by kernel_rfl) (fun _ _ _ h => h) (by kernel_rfl) (fun w' hw' => ?_) ?_
  rotate_left
  · go_simp; with_reducible rfl
  simp only [Act.put, List.setIfInBounds_toArray, List.set_cons_zero, List.set_cons_succ]
  refine wpR_take (i := 4) (v := ?_) (Upd.road _) (some 15) rfl (by kernel_rfl) (by kernel_rfl) (by kernel_rfl) (by kernel_rfl) (by kernel_rfl) (fun _ _ _ h => h) (by kernel_rfl) (fun w' hw' => ?_) ?_
  rotate_left
  · go_simp; with_reducible rfl
  simp only [Act.put, List.setIfInBounds_toArray, List.set_cons_zero, List.set_cons_succ]
  refine wpR_take (i := 5) (v := ?_) (Upd.road _) (some 16) rfl (by kernel_rfl) (by kernel_rfl) (by kernel_rfl) (by kernel_rfl) (by kernel_rfl) (fun _ _ _ h => h) (by kernel_rfl) (fun w' hw' => ?_) ?_
  rotate_left
  · go_simp; with_reducible rfl
  simp only [Act.put, List.setIfInBounds_toArray, List.set_cons_zero, List.set_cons_succ]
  refine wpR_take (i := 6) (v := ?_) (Upd.road _) (some 17) rfl (by kernel_rfl) (by kernel_rfl) (by kernel_rfl) (by kernel_rfl) (by kernel_rfl) (fun _ _ _ h => h) (by kernel_rfl) (fun w' hw' => ?_) ?_
  rotate_left
  · go_simp; with_reducible rfl
  simp only [Act.put, List.setIfInBounds_toArray, List.set_cons_zero, List.set_cons_succ]
  refine wpR_take (i := 7) (v := ?_) (Upd.road _) (some 18) rfl (by kernel_rfl) (by kernel_rfl) (by kernel_rfl) (by kernel_rfl) (by kernel_rfl) (fun _ _ _ h => h) (by kernel_rfl) (fun w' hw' => ?_) ?_
  rotate_left
  · go_simp; with_reducible rfl
  simp only [Act.put, List.setIfInBounds_toArray, List.set_cons_zero, List.set_cons_succ]
  refine wpR_take (i := 8) (v := ?_) (Upd.road _) (some 19) rfl (by kernel_rfl) (by kernel_rfl) (by kernel_rfl) (by kernel_rfl) (by kernel_rfl) (fun _ _ _ h => h) (by kernel_rfl) (fun w' hw' => ?_) ?_
  rotate_left
  · go_simp; with_reducible rfl
  simp only [Act.put, List.setIfInBounds_toArray, List.set_cons_zero, List.set_cons_succ]
  refine wpR_two 9 10 rfl rfl (by kernel_rfl) (by kernel_rfl) (by kernel_rfl) (fun K hK => ?_) (fun K hK => ?_)
  · go_simp
    refine (hgs.out _ (by have := hbd.out.size; omega) hsld.out).mono ?_
    rintro e w3 ⟨A9, c9, rfl, hd3, hbb⟩
    refine hK _ _ (fun _ => Upd.of_below hbb) ?_
    clear hK K
    have hN3 := Lib.hid (blk_below hNd.out hbb)
    have hb3 := Lib.hid (hbd.out.trans (hbb.mono hbd.out.size))
    clear hbb
    try simp only [Act.put, List.setIfInBounds_toArray, List.set_cons_zero, List.set_cons_succ]
    refine wpR_one 10 rfl (by kernel_rfl) (by kernel_rfl) (fun K hK => ?_)
    go_simp
    refine hK _ _ (fun _ => Upd.of_below ((Below.refl _ _).alloc (Nat.le_refl _) _)) ?_
    clear hK K
    have hX5 := heap_alloc_new w3 (.cells #[.int .i64 0, .int .i64 0, .string ⟨#[]⟩, .int .i64 0, .int .i64 0, .int .i64 0, .int .i64 0, .int .i64 0, .string ⟨#[]⟩, .slice none 0 0] 34)
    have hN5 := Lib.hid (blk_alloc hN3.out (.cells #[.int .i64 0, .int .i64 0, .string ⟨#[]⟩, .int .i64 0, .int .i64 0, .int .i64 0, .int .i64 0, .int .i64 0, .string ⟨#[]⟩, .slice none 0 0] 34))
    have hb5 := Lib.hid (hb3.out.alloc hb3.out.size (.cells #[.int .i64 0, .int .i64 0, .string ⟨#[]⟩, .int .i64 0, .int .i64 0, .int .i64 0, .int .i64 0, .int .i64 0, .string ⟨#[]⟩, .slice none 0 0] 34))
    have hd9 := hd3.up ((Below.refl _ _).alloc (Nat.le_refl _) (.cells #[.int .i64 0, .int .i64 0, .string ⟨#[]⟩, .int .i64 0, .int .i64 0, .int .i64 0, .int .i64 0, .int .i64 0, .string ⟨#[]⟩, .slice none 0 0] 34))
    obtain ⟨X, hX⟩ : ∃ X, w3.heap.size = X := ⟨_, rfl⟩
    have hXN : w.heap.size < X := by have := blk_lt hN3.out; omega
    rw [hX] at hX5 ⊢
    obtain ⟨w5, hw5⟩ : ∃ w5, w3.alloc (.cells #[.int .i64 0, .int .i64 0, .string ⟨#[]⟩, .int .i64 0, .int .i64 0, .int .i64 0, .int .i64 0, .int .i64 0, .string ⟨#[]⟩, .slice none 0 0] 34) = w5 := ⟨_, rfl⟩
    rw [hw5] at hX5 hN5 hb5 hd9 ⊢
    replace hd9 := Lib.hid hd9
    clear hd3
    have z0 := blk_cell (j := 0) (v := .int .i64 0) hX5 rfl
    have f0 := blk_free hX5 0
    have z1 := blk_cell (j := 1) (v := .int .i64 0) hX5 rfl
    have f1 := blk_free hX5 1
    have z2 := blk_cell (j := 2) (v := .string ⟨#[]⟩) hX5 rfl
    have f2 := blk_free hX5 2
    have z3 := blk_cell (j := 3) (v := .int .i64 0) hX5 rfl
    have f3 := blk_free hX5 3
    have z4 := blk_cell (j := 4) (v := .int .i64 0) hX5 rfl
    have f4 := blk_free hX5 4
    have z5 := blk_cell (j := 5) (v := .int .i64 0) hX5 rfl
    have f5 := blk_free hX5 5
    have z6 := blk_cell (j := 6) (v := .int .i64 0) hX5 rfl
    have f6 := blk_free hX5 6
    have z7 := blk_cell (j := 7) (v := .int .i64 0) hX5 rfl
    have f7 := blk_free hX5 7
    have z8 := blk_cell (j := 8) (v := .string ⟨#[]⟩) hX5 rfl
    have f8 := blk_free hX5 8
    have z9 := blk_cell (j := 9) (v := .slice none 0 0) hX5 rfl
    have f9 := blk_free hX5 9
    replace hX5 := Lib.hid hX5
    replace hw5 := Lib.hid hw5
    replace hX := Lib.hid hX
    unfold Rc.agg
    try simp only [Act.put, List.setIfInBounds_toArray, List.set_cons_zero, List.set_cons_succ]
    refine wpR_one 11 rfl (by kernel_rfl) (by kernel_rfl) (fun K hK => ?_)
    go_simp
    refine hK _ _ (fun h => absurd rfl h) ?_
    clear hK K
    clear z0 f0 z1 f1 z2 f2 z3 f3 z4 f4 z5 f5 z6 f6 z7 f7 z8 f8 z9 f9
    have hd6 := hd9.out.recSet10 hX5.out (by rfl) (.int .i64 q.kind) (.int .i64 q.cart) (.string (bs q.key)) (.int .i64 q.gen) (.int .i64 q.group) (.int .i64 q.groups) (.int .i64 q.index) (.int .i64 q.size) (.string (bs q.sum)) (.slice A9 q.data.length c9)
    have hX6 := blk_set10 hX5.out (.int .i64 q.kind) (.int .i64 q.cart) (.string (bs q.key)) (.int .i64 q.gen) (.int .i64 q.group) (.int .i64 q.groups) (.int .i64 q.index) (.int .i64 q.size) (.string (bs q.sum)) (.slice A9 q.data.length c9)
    have hN6 := set10_other (X := X) (g := w.heap.size) (by omega) hN5.out (.int .i64 q.kind) (.int .i64 q.cart) (.string (bs q.key)) (.int .i64 q.gen) (.int .i64 q.group) (.int .i64 q.groups) (.int .i64 q.index) (.int .i64 q.size) (.string (bs q.sum)) (.slice A9 q.data.length c9)
    have hb6 := setLo10 hb5.out (g := X) (Nat.le_of_lt hXN) (.int .i64 q.kind) (.int .i64 q.cart) (.string (bs q.key)) (.int .i64 q.gen) (.int .i64 q.group) (.int .i64 q.groups) (.int .i64 q.index) (.int .i64 q.size) (.string (bs q.sum)) (.slice A9 q.data.length c9)
    have hz6 : ((((((((((w5.setCell ⟨X, 0, none⟩ (.int .i64 q.kind)).setCell ⟨X, 1, none⟩ (.int .i64 q.cart)).setCell ⟨X, 2, none⟩ (.string (bs q.key))).setCell ⟨X, 3, none⟩ (.int .i64 q.gen)).setCell ⟨X, 4, none⟩ (.int .i64 q.group)).setCell ⟨X, 5, none⟩ (.int .i64 q.groups)).setCell ⟨X, 6, none⟩ (.int .i64 q.index)).setCell ⟨X, 7, none⟩ (.int .i64 q.size)).setCell ⟨X, 8, none⟩ (.string (bs q.sum))).setCell ⟨X, 9, none⟩ (.slice A9 q.data.length c9)).heap.size = w5.heap.size := by simp
    obtain ⟨w6, hw6⟩ : ∃ w6, ((((((((((w5.setCell ⟨X, 0, none⟩ (.int .i64 q.kind)).setCell ⟨X, 1, none⟩ (.int .i64 q.cart)).setCell ⟨X, 2, none⟩ (.string (bs q.key))).setCell ⟨X, 3, none⟩ (.int .i64 q.gen)).setCell ⟨X, 4, none⟩ (.int .i64 q.group)).setCell ⟨X, 5, none⟩ (.int .i64 q.groups)).setCell ⟨X, 6, none⟩ (.int .i64 q.index)).setCell ⟨X, 7, none⟩ (.int .i64 q.size)).setCell ⟨X, 8, none⟩ (.string (bs q.sum))).setCell ⟨X, 9, none⟩ (.slice A9 q.data.length c9)) = w6 := ⟨_, rfl⟩
    rw [hw6] at hX6 hN6 hb6 hd6 hz6 ⊢
    rw [← hz6] at hd6
    replace hX6 := Lib.hid hX6
    replace hN6 := Lib.hid hN6
    replace hb6 := Lib.hid hb6
    replace hw6 := Lib.hid hw6
    replace hd6 := Lib.hid hd6
    clear hX5 hN5 hb5 hd9 hz6
    try simp only [Act.put, List.setIfInBounds_toArray, List.set_cons_zero, List.set_cons_succ]
    refine wpR_done (by kernel_rfl) ?_ _
    have y0 := blk_cell (j := 0) (v := .int .i64 q.kind) hX6.out rfl
    have y1 := blk_cell (j := 1) (v := .int .i64 q.cart) hX6.out rfl
    have y2 := blk_cell (j := 2) (v := .string (bs q.key)) hX6.out rfl
    have y3 := blk_cell (j := 3) (v := .int .i64 q.gen) hX6.out rfl
    have y4 := blk_cell (j := 4) (v := .int .i64 q.group) hX6.out rfl
    have y5 := blk_cell (j := 5) (v := .int .i64 q.groups) hX6.out rfl
    have y6 := blk_cell (j := 6) (v := .int .i64 q.index) hX6.out rfl
    have y7 := blk_cell (j := 7) (v := .int .i64 q.size) hX6.out rfl
    have y8 := blk_cell (j := 8) (v := .string (bs q.sum)) hX6.out rfl
    have y9 := blk_cell (j := 9) (v := .slice A9 q.data.length c9) hX6.out rfl
    have hen := Lib.hid (encode_ok q A9 c9 hok.out hg.out w6 hd6.out)
    unfold Rc.agg at hen
    go_wp2_with fail
    clear y0 y1 y2 y3 y4 y5 y6 y7 y8 y9
    refine hen.out.mono ?_
    rintro e w8 ⟨v8, rfl, ho8, hbb⟩
    obtain ⟨A8, c8, rfl, -, -, hR8, -⟩ := ho8.form
    obtain ⟨n8, hn8⟩ : ∃ n8, (encB q).length = n8 := ⟨_, rfl⟩
    rw [hn8] at ho8 ⊢
    replace hn8 := Lib.hid hn8
    have hX9 := Lib.hid (blk_below hX6.out hbb)
    have hN9 := Lib.hid (blk_below hN6.out hbb)
    have hb9 := Lib.hid (hb6.out.trans (hbb.mono hb6.out.size))
    have hRb := Lib.hid ((hr.out.up hb9.out))
    replace hR8 := Lib.hid hR8
    have hd8 := Lib.hid (hd6.out.up hbb)
    clear ho8 hbb hen
    go_wp2_with fail
    refine (equal_any A8 (some ⟨ab, ao, none⟩) n8 c8 (m + 6) c _ _ (encB q) b hn8.out hn.out _ hR8.out hRb.out).mono ?_
    rw [he.out]
    rintro e w9 ⟨rfl, rfl⟩
    have z0 := blk_cell (j := 0) (v := .int .i64 0) hN9.out rfl
    have f0 := blk_free hN9.out 0
    have z1 := blk_cell (j := 1) (v := .int .i64 0) hN9.out rfl
    have f1 := blk_free hN9.out 1
    have z2 := blk_cell (j := 2) (v := .string ⟨#[]⟩) hN9.out rfl
    have f2 := blk_free hN9.out 2
    have z3 := blk_cell (j := 3) (v := .int .i64 0) hN9.out rfl
    have f3 := blk_free hN9.out 3
    have z4 := blk_cell (j := 4) (v := .int .i64 0) hN9.out rfl
    have f4 := blk_free hN9.out 4
    have z5 := blk_cell (j := 5) (v := .int .i64 0) hN9.out rfl
    have f5 := blk_free hN9.out 5
    have z6 := blk_cell (j := 6) (v := .int .i64 0) hN9.out rfl
    have f6 := blk_free hN9.out 6
    have z7 := blk_cell (j := 7) (v := .int .i64 0) hN9.out rfl
    have f7 := blk_free hN9.out 7
    have z8 := blk_cell (j := 8) (v := .string ⟨#[]⟩) hN9.out rfl
    have f8 := blk_free hN9.out 8
    have z9 := blk_cell (j := 9) (v := .slice none 0 0) hN9.out rfl
    have f9 := blk_free hN9.out 9
    go_wp2_with fail
    have hz := blk_set10 hN9.out (.int .i64 0) (.int .i64 0) (.string ⟨#[]⟩) (.int .i64 0) (.int .i64 0) (.int .i64 0) (.int .i64 0) (.int .i64 0) (.string ⟨#[]⟩) (.slice none 0 0)
    have hbz := setLo10 hb9.out (Nat.le_refl w.heap.size) (.int .i64 0) (.int .i64 0) (.string ⟨#[]⟩) (.int .i64 0) (.int .i64 0) (.int .i64 0) (.int .i64 0) (.int .i64 0) (.string ⟨#[]⟩) (.slice none 0 0)
    obtain ⟨w10, hw10⟩ : ∃ w10, ((((((((((w9.setCell ⟨w.heap.size, 0, none⟩ (.int .i64 0)).setCell ⟨w.heap.size, 1, none⟩ (.int .i64 0)).setCell ⟨w.heap.size, 2, none⟩ (.string ⟨#[]⟩)).setCell ⟨w.heap.size, 3, none⟩ (.int .i64 0)).setCell ⟨w.heap.size, 4, none⟩ (.int .i64 0)).setCell ⟨w.heap.size, 5, none⟩ (.int .i64 0)).setCell ⟨w.heap.size, 6, none⟩ (.int .i64 0)).setCell ⟨w.heap.size, 7, none⟩ (.int .i64 0)).setCell ⟨w.heap.size, 8, none⟩ (.string ⟨#[]⟩)).setCell ⟨w.heap.size, 9, none⟩ (.slice none 0 0)) = w10 := ⟨_, rfl⟩
    rw [hw10] at hz hbz ⊢
    have r0 := blk_cell (j := 0) (v := .int .i64 0) hz rfl
    have r1 := blk_cell (j := 1) (v := .int .i64 0) hz rfl
    have r2 := blk_cell (j := 2) (v := .string ⟨#[]⟩) hz rfl
    have r3 := blk_cell (j := 3) (v := .int .i64 0) hz rfl
    have r4 := blk_cell (j := 4) (v := .int .i64 0) hz rfl
    have r5 := blk_cell (j := 5) (v := .int .i64 0) hz rfl
    have r6 := blk_cell (j := 6) (v := .int .i64 0) hz rfl
    have r7 := blk_cell (j := 7) (v := .int .i64 0) hz rfl
    have r8 := blk_cell (j := 8) (v := .string ⟨#[]⟩) hz rfl
    have r9 := blk_cell (j := 9) (v := .slice none 0 0) hz rfl
    exact bodyPost_ret (v := .tuple #[(.agg #[.int .i64 0, .int .i64 0, .string ⟨#[]⟩, .int .i64 0, .int .i64 0, .int .i64 0, .int .i64 0, .int .i64 0, .string ⟨#[]⟩, .slice none 0 0]), .int .i64 12]) (by simp [results, Try.results23, go_sem, r0, r1, r2, r3, r4, r5, r6, r7, r8, r9]) rfl ⟨rfl, hbz⟩
  · go_simp
    refine hK _ _ (fun _ => Upd.of_below ((Below.refl _ _).alloc (Nat.le_refl _) _)) ?_
    clear hK K
    have hX3 := Lib.hid (heap_alloc_new wd (.cells #[.int .i64 0, .int .i64 0, .string ⟨#[]⟩, .int .i64 0, .int .i64 0, .int .i64 0, .int .i64 0, .int .i64 0, .string ⟨#[]⟩, .slice none 0 0] 34))
    have hN3 := Lib.hid (blk_alloc hNd.out (.cells #[.int .i64 0, .int .i64 0, .string ⟨#[]⟩, .int .i64 0, .int .i64 0, .int .i64 0, .int .i64 0, .int .i64 0, .string ⟨#[]⟩, .slice none 0 0] 34))
    have hb3 := Lib.hid (hbd.out.alloc hbd.out.size (.cells #[.int .i64 0, .int .i64 0, .string ⟨#[]⟩, .int .i64 0, .int .i64 0, .int .i64 0, .int .i64 0, .int .i64 0, .string ⟨#[]⟩, .slice none 0 0] 34))
    have hsl3 := Lib.hid (hsld.out.up ((Below.refl wd.heap.size wd).alloc (Nat.le_refl _) (.cells #[.int .i64 0, .int .i64 0, .string ⟨#[]⟩, .int .i64 0, .int .i64 0, .int .i64 0, .int .i64 0, .int .i64 0, .string ⟨#[]⟩, .slice none 0 0] 34)))
    obtain ⟨X, hX⟩ : ∃ X, wd.heap.size = X := ⟨_, rfl⟩
    have hXN : w.heap.size < X := by have := blk_lt hNd.out; omega
    rw [hX] at hX3 ⊢
    obtain ⟨w3, hw3⟩ : ∃ w3, wd.alloc (.cells #[.int .i64 0, .int .i64 0, .string ⟨#[]⟩, .int .i64 0, .int .i64 0, .int .i64 0, .int .i64 0, .int .i64 0, .string ⟨#[]⟩, .slice none 0 0] 34) = w3 := ⟨_, rfl⟩
    rw [hw3] at hX3 hN3 hb3 hsl3 ⊢
    replace hw3 := Lib.hid hw3
    replace hX := Lib.hid hX
    try simp only [Act.put, List.setIfInBounds_toArray, List.set_cons_zero, List.set_cons_succ]
    refine wpR_one 9 rfl (by kernel_rfl) (by kernel_rfl) (fun K hK => ?_)
    go_simp
    refine (hgs.out _ (by have := hb3.out.size; omega) hsl3.out).mono ?_
    rintro e w5 ⟨A9, c9, rfl, hd9, hbb⟩
    refine hK _ _ (fun _ => Upd.of_below hbb) ?_
    clear hK K
    have hX5 := blk_below hX3.out hbb
    have hN5 := blk_below hN3.out hbb
    have hb5 := Lib.hid (hb3.out.trans (hbb.mono hb3.out.size))
    replace hd9 := Lib.hid hd9
    clear hbb
    have z0 := blk_cell (j := 0) (v := .int .i64 0) hX5 rfl
    have f0 := blk_free hX5 0
    have z1 := blk_cell (j := 1) (v := .int .i64 0) hX5 rfl
    have f1 := blk_free hX5 1
    have z2 := blk_cell (j := 2) (v := .string ⟨#[]⟩) hX5 rfl
    have f2 := blk_free hX5 2
    have z3 := blk_cell (j := 3) (v := .int .i64 0) hX5 rfl
    have f3 := blk_free hX5 3
    have z4 := blk_cell (j := 4) (v := .int .i64 0) hX5 rfl
    have f4 := blk_free hX5 4
    have z5 := blk_cell (j := 5) (v := .int .i64 0) hX5 rfl
    have f5 := blk_free hX5 5
    have z6 := blk_cell (j := 6) (v := .int .i64 0) hX5 rfl
    have f6 := blk_free hX5 6
    have z7 := blk_cell (j := 7) (v := .int .i64 0) hX5 rfl
    have f7 := blk_free hX5 7
    have z8 := blk_cell (j := 8) (v := .string ⟨#[]⟩) hX5 rfl
    have f8 := blk_free hX5 8
    have z9 := blk_cell (j := 9) (v := .slice none 0 0) hX5 rfl
    have f9 := blk_free hX5 9
    replace hX5 := Lib.hid hX5
    replace hN5 := Lib.hid hN5
    unfold Rc.agg
    try simp only [Act.put, List.setIfInBounds_toArray, List.set_cons_zero, List.set_cons_succ]
    refine wpR_one 11 rfl (by kernel_rfl) (by kernel_rfl) (fun K hK => ?_)
    go_simp
    refine hK _ _ (fun h => absurd rfl h) ?_
    clear hK K
    clear z0 f0 z1 f1 z2 f2 z3 f3 z4 f4 z5 f5 z6 f6 z7 f7 z8 f8 z9 f9
    have hd6 := hd9.out.recSet10 hX5.out (by rfl) (.int .i64 q.kind) (.int .i64 q.cart) (.string (bs q.key)) (.int .i64 q.gen) (.int .i64 q.group) (.int .i64 q.groups) (.int .i64 q.index) (.int .i64 q.size) (.string (bs q.sum)) (.slice A9 q.data.length c9)
    have hX6 := blk_set10 hX5.out (.int .i64 q.kind) (.int .i64 q.cart) (.string (bs q.key)) (.int .i64 q.gen) (.int .i64 q.group) (.int .i64 q.groups) (.int .i64 q.index) (.int .i64 q.size) (.string (bs q.sum)) (.slice A9 q.data.length c9)
    have hN6 := set10_other (X := X) (g := w.heap.size) (by omega) hN5.out (.int .i64 q.kind) (.int .i64 q.cart) (.string (bs q.key)) (.int .i64 q.gen) (.int .i64 q.group) (.int .i64 q.groups) (.int .i64 q.index) (.int .i64 q.size) (.string (bs q.sum)) (.slice A9 q.data.length c9)
    have hb6 := setLo10 hb5.out (g := X) (Nat.le_of_lt hXN) (.int .i64 q.kind) (.int .i64 q.cart) (.string (bs q.key)) (.int .i64 q.gen) (.int .i64 q.group) (.int .i64 q.groups) (.int .i64 q.index) (.int .i64 q.size) (.string (bs q.sum)) (.slice A9 q.data.length c9)
    have hz6 : ((((((((((w5.setCell ⟨X, 0, none⟩ (.int .i64 q.kind)).setCell ⟨X, 1, none⟩ (.int .i64 q.cart)).setCell ⟨X, 2, none⟩ (.string (bs q.key))).setCell ⟨X, 3, none⟩ (.int .i64 q.gen)).setCell ⟨X, 4, none⟩ (.int .i64 q.group)).setCell ⟨X, 5, none⟩ (.int .i64 q.groups)).setCell ⟨X, 6, none⟩ (.int .i64 q.index)).setCell ⟨X, 7, none⟩ (.int .i64 q.size)).setCell ⟨X, 8, none⟩ (.string (bs q.sum))).setCell ⟨X, 9, none⟩ (.slice A9 q.data.length c9)).heap.size = w5.heap.size := by simp
    obtain ⟨w6, hw6⟩ : ∃ w6, ((((((((((w5.setCell ⟨X, 0, none⟩ (.int .i64 q.kind)).setCell ⟨X, 1, none⟩ (.int .i64 q.cart)).setCell ⟨X, 2, none⟩ (.string (bs q.key))).setCell ⟨X, 3, none⟩ (.int .i64 q.gen)).setCell ⟨X, 4, none⟩ (.int .i64 q.group)).setCell ⟨X, 5, none⟩ (.int .i64 q.groups)).setCell ⟨X, 6, none⟩ (.int .i64 q.index)).setCell ⟨X, 7, none⟩ (.int .i64 q.size)).setCell ⟨X, 8, none⟩ (.string (bs q.sum))).setCell ⟨X, 9, none⟩ (.slice A9 q.data.length c9)) = w6 := ⟨_, rfl⟩
    rw [hw6] at hX6 hN6 hb6 hd6 hz6 ⊢
    rw [← hz6] at hd6
    replace hX6 := Lib.hid hX6
    replace hN6 := Lib.hid hN6
    replace hb6 := Lib.hid hb6
    replace hw6 := Lib.hid hw6
    replace hd6 := Lib.hid hd6
    clear hX5 hN5 hb5 hd9 hz6
    try simp only [Act.put, List.setIfInBounds_toArray, List.set_cons_zero, List.set_cons_succ]
    refine wpR_done (by kernel_rfl) ?_ _
    have y0 := blk_cell (j := 0) (v := .int .i64 q.kind) hX6.out rfl
    have y1 := blk_cell (j := 1) (v := .int .i64 q.cart) hX6.out rfl
    have y2 := blk_cell (j := 2) (v := .string (bs q.key)) hX6.out rfl
    have y3 := blk_cell (j := 3) (v := .int .i64 q.gen) hX6.out rfl
    have y4 := blk_cell (j := 4) (v := .int .i64 q.group) hX6.out rfl
    have y5 := blk_cell (j := 5) (v := .int .i64 q.groups) hX6.out rfl
    have y6 := blk_cell (j := 6) (v := .int .i64 q.index) hX6.out rfl
    have y7 := blk_cell (j := 7) (v := .int .i64 q.size) hX6.out rfl
    have y8 := blk_cell (j := 8) (v := .string (bs q.sum)) hX6.out rfl
    have y9 := blk_cell (j := 9) (v := .slice A9 q.data.length c9) hX6.out rfl
    have hen := Lib.hid (encode_ok q A9 c9 hok.out hg.out w6 hd6.out)
    unfold Rc.agg at hen
    go_wp2_with fail
    clear y0 y1 y2 y3 y4 y5 y6 y7 y8 y9
    refine hen.out.mono ?_
    rintro e w8 ⟨v8, rfl, ho8, hbb⟩
    obtain ⟨A8, c8, rfl, -, -, hR8, -⟩ := ho8.form
    obtain ⟨n8, hn8⟩ : ∃ n8, (encB q).length = n8 := ⟨_, rfl⟩
    rw [hn8] at ho8 ⊢
    replace hn8 := Lib.hid hn8
    have hX9 := Lib.hid (blk_below hX6.out hbb)
    have hN9 := Lib.hid (blk_below hN6.out hbb)
    have hb9 := Lib.hid (hb6.out.trans (hbb.mono hb6.out.size))
    have hRb := Lib.hid ((hr.out.up hb9.out))
    replace hR8 := Lib.hid hR8
    have hd8 := Lib.hid (hd6.out.up hbb)
    clear ho8 hbb hen
    go_wp2_with fail
    refine (equal_any A8 (some ⟨ab, ao, none⟩) n8 c8 (m + 6) c _ _ (encB q) b hn8.out hn.out _ hR8.out hRb.out).mono ?_
    rw [he.out]
    rintro e w9 ⟨rfl, rfl⟩
    have z0 := blk_cell (j := 0) (v := .int .i64 0) hN9.out rfl
    have f0 := blk_free hN9.out 0
    have z1 := blk_cell (j := 1) (v := .int .i64 0) hN9.out rfl
    have f1 := blk_free hN9.out 1
    have z2 := blk_cell (j := 2) (v := .string ⟨#[]⟩) hN9.out rfl
    have f2 := blk_free hN9.out 2
    have z3 := blk_cell (j := 3) (v := .int .i64 0) hN9.out rfl
    have f3 := blk_free hN9.out 3
    have z4 := blk_cell (j := 4) (v := .int .i64 0) hN9.out rfl
    have f4 := blk_free hN9.out 4
    have z5 := blk_cell (j := 5) (v := .int .i64 0) hN9.out rfl
    have f5 := blk_free hN9.out 5
    have z6 := blk_cell (j := 6) (v := .int .i64 0) hN9.out rfl
    have f6 := blk_free hN9.out 6
    have z7 := blk_cell (j := 7) (v := .int .i64 0) hN9.out rfl
    have f7 := blk_free hN9.out 7
    have z8 := blk_cell (j := 8) (v := .string ⟨#[]⟩) hN9.out rfl
    have f8 := blk_free hN9.out 8
    have z9 := blk_cell (j := 9) (v := .slice none 0 0) hN9.out rfl
    have f9 := blk_free hN9.out 9
    go_wp2_with fail
    have hz := blk_set10 hN9.out (.int .i64 0) (.int .i64 0) (.string ⟨#[]⟩) (.int .i64 0) (.int .i64 0) (.int .i64 0) (.int .i64 0) (.int .i64 0) (.string ⟨#[]⟩) (.slice none 0 0)
    have hbz := setLo10 hb9.out (Nat.le_refl w.heap.size) (.int .i64 0) (.int .i64 0) (.string ⟨#[]⟩) (.int .i64 0) (.int .i64 0) (.int .i64 0) (.int .i64 0) (.int .i64 0) (.string ⟨#[]⟩) (.slice none 0 0)
    obtain ⟨w10, hw10⟩ : ∃ w10, ((((((((((w9.setCell ⟨w.heap.size, 0, none⟩ (.int .i64 0)).setCell ⟨w.heap.size, 1, none⟩ (.int .i64 0)).setCell ⟨w.heap.size, 2, none⟩ (.string ⟨#[]⟩)).setCell ⟨w.heap.size, 3, none⟩ (.int .i64 0)).setCell ⟨w.heap.size, 4, none⟩ (.int .i64 0)).setCell ⟨w.heap.size, 5, none⟩ (.int .i64 0)).setCell ⟨w.heap.size, 6, none⟩ (.int .i64 0)).setCell ⟨w.heap.size, 7, none⟩ (.int .i64 0)).setCell ⟨w.heap.size, 8, none⟩ (.string ⟨#[]⟩)).setCell ⟨w.heap.size, 9, none⟩ (.slice none 0 0)) = w10 := ⟨_, rfl⟩
    rw [hw10] at hz hbz ⊢
    have r0 := blk_cell (j := 0) (v := .int .i64 0) hz rfl
    have r1 := blk_cell (j := 1) (v := .int .i64 0) hz rfl
    have r2 := blk_cell (j := 2) (v := .string ⟨#[]⟩) hz rfl
    have r3 := blk_cell (j := 3) (v := .int .i64 0) hz rfl
    have r4 := blk_cell (j := 4) (v := .int .i64 0) hz rfl
    have r5 := blk_cell (j := 5) (v := .int .i64 0) hz rfl
    have r6 := blk_cell (j := 6) (v := .int .i64 0) hz rfl
    have r7 := blk_cell (j := 7) (v := .int .i64 0) hz rfl
    have r8 := blk_cell (j := 8) (v := .string ⟨#[]⟩) hz rfl
    have r9 := blk_cell (j := 9) (v := .slice none 0 0) hz rfl
    exact bodyPost_ret (v := .tuple #[(.agg #[.int .i64 0, .int .i64 0, .string ⟨#[]⟩, .int .i64 0, .int .i64 0, .int .i64 0, .int .i64 0, .int .i64 0, .string ⟨#[]⟩, .slice none 0 0]), .int .i64 12]) (by simp [results, Try.results23, go_sem, r0, r1, r2, r3, r4, r5, r6, r7, r8, r9]) rfl ⟨rfl, hbz⟩

set_option maxHeartbeats 8000000 in
set_option maxRecDepth 20000 in
theorem decode_ng (A : Option Addr) (m c : Nat) (b : List UInt8) (hn : b.length = m + 6) (hnc : m + 6 ≤ c) (hcm : c ≤ 9223372036854775807) (hm : m ≤ 140737488355000) (k : UInt8) (h1 : b[1]? = some k) (q : Rc)
    (hg3 : guessR (U k) ((b.drop 2).take m) = q) (hg : goodB q = false) (w : World) (hr : Rd w w.heap.size A b) :
    Calls Try.prog 23 #[.slice A (m + 6) c] w fun e w' => e = .returned (.tuple #[(.agg #[.int .i64 0, .int .i64 0, .string ⟨#[]⟩, .int .i64 0, .int .i64 0, .int .i64 0, .int .i64 0, .int .i64 0, .string ⟨#[]⟩, .slice none 0 0]), .int .i64 12]) ∧ Below w.heap.size w w' := by
  obtain ⟨ad0, rfl, hadb0, hc0⟩ := hr.at_ (k := 0) (by omega)
  have hfl := flat_of hc0
  obtain ⟨ab, hab⟩ : ∃ ab, ad0.block = ab := ⟨_, rfl⟩
  obtain ⟨ao, hao⟩ : ∃ ao, ad0.off = ao := ⟨_, rfl⟩
  rw [hab, hao] at hfl
  subst hfl
  clear hc0 hab hao
  have hadb : ab < w.heap.size := hadb0
  have hk := U_bd k
  have hok : q.Ok := by rw [← hg3]; exact guessR_ok _ (by unfold R64; omega) _ (by rw [List.length_take, List.length_drop]; omega)
  have hgs : Hid (∀ W : World, ab < W.heap.size → Rd W W.heap.size (some ⟨ab, ao + 2, none⟩) ((b.drop 2).take m) → Calls Try.prog 43 #[.int .i64 (U k), .slice (some ⟨ab, ao + 2, none⟩) m (c - 2)] W fun e w' => ∃ A9 c9, e = .returned (q.agg A9 c9) ∧ Rd w' w'.heap.size A9 q.data ∧ Below W.heap.size W w') := Lib.hid (fun W hab hW => by
    have := guess_any (U k) ab (ao + 2) m (c - 2) _ (by rw [List.length_take, List.length_drop]; omega) (by omega) (by omega) (by omega) W hab hW
    rw [hg3] at this
    exact this)
  clear hk
  have hN1 := heap_alloc_new w (.cells #[.int .i64 0, .int .i64 0, .string ⟨#[]⟩, .int .i64 0, .int .i64 0, .int .i64 0, .int .i64 0, .int .i64 0, .string ⟨#[]⟩, .slice none 0 0] 34)
  have hb1 := (Below.refl w.heap.size w).alloc (Nat.le_refl _) (.cells #[.int .i64 0, .int .i64 0, .string ⟨#[]⟩, .int .i64 0, .int .i64 0, .int .i64 0, .int .i64 0, .int .i64 0, .string ⟨#[]⟩, .slice none 0 0] 34)
  have hmid : Rd w w.heap.size (some ⟨ab, ao + 2, none⟩) ((b.drop 2).take m) := by have := hr.mid (i := 2) (m := m) (by omega); rwa [add_of] at this
  have hR1 := hr.up hb1
  have hw1 : IntKind.i64.wrap ((m : Int) + 6 - 4) = (m : Int) + 2 := by rw [IntWalk.i64_in _ (by omega)]; omega
  have hc2 : ¬ (c = 2) := by omega
  have hi1 : (1 : Int) < (m : Int) + 6 := by omega
  have hs1 : (2 : Int) ≤ (m : Int) + 2 := by omega
  have hs2 : (m : Int) + 2 ≤ (c : Int) := by omega
  have hs3 : 0 ≤ (m : Int) + 2 := by omega
  have hd6 : decide ((m : Int) + 6 < 6) = false := decide_eq_false (by omega)
  replace hn := Lib.hid hn
  replace hg := Lib.hid hg
  replace hok := Lib.hid hok
  have hr0 := Lib.hid hr
  go_enter Try.func23, Try.ntmps23
  go_wp2_with fail
  obtain ⟨wd, hwd⟩ : ∃ wd, wd = (w.alloc (.cells #[.int .i64 0, .int .i64 0, .string ⟨#[]⟩, .int .i64 0, .int .i64 0, .int .i64 0, .int .i64 0, .int .i64 0, .string ⟨#[]⟩, .slice none 0 0] 34)).drew := ⟨_, rfl⟩
  have hbd : Hid (Below w.heap.size w wd) := Lib.hid (by rw [hwd]; exact hb1.drew)
  have hNd : Hid (wd.heap[w.heap.size]? = some (.cells #[.int .i64 0, .int .i64 0, .string ⟨#[]⟩, .int .i64 0, .int .i64 0, .int .i64 0, .int .i64 0, .int .i64 0, .string ⟨#[]⟩, .slice none 0 0] 34 (0, 0))) := Lib.hid (by rw [hwd]; exact hN1)
  have hsld : Hid (Rd wd wd.heap.size (some ⟨ab, ao + 2, none⟩) ((b.drop 2).take m)) := Lib.hid (by rw [hwd]; exact (hmid.up hb1).drewN 1)
  obtain ⟨ad', ead, -, c1⟩ := (show Rd wd wd.heap.size (some ⟨ab, ao, none⟩) b by rw [hwd]; exact hR1.drewN 1).get h1
  injection ead with ead
  subst ead
  rw [add_of] at c1
  have hadd : ab < wd.heap.size := Nat.lt_of_lt_of_le hadb hbd.out.size
  clear hg3 hmid hR1 hN1 hb1 hr h1
  have hr := hr0
  clear hr0
  refine wpR_region (Upd (fun _ => False)) 11 (by kernel_rfl) ?_
  (rw [← hwd]; replace hwd := Lib.hid hwd)
  refine wpR_take (i := 0) (v := ?_) (Upd.road _) (some 11) rfl (by kernel_rfl) (by kernel_rfl) (by kernel_rfl) (by kernel_rfl) (by kernel_rfl) (fun _ _ _ h => h) (by kernel_rfl) (fun w' hw' => ?_) ?_
  rotate_left
  · go_simp; with_reducible rfl
  simp only [Act.put, List.setIfInBounds_toArray, List.set_cons_zero, List.set_cons_succ]
  refine wpR_take (i := 1) (v := ?_) (Upd.road _) (some 12) rfl (by kernel_rfl) (by kernel_rfl) (by kernel_rfl) (by kernel_rfl) (by kernel_rfl) (fun _ _ _ h => h) (by kernel_rfl) (fun w' hw' => ?_) ?_
  rotate_left
  · go_simp; with_reducible rfl
  simp only [Act.put, List.setIfInBounds_toArray, List.set_cons_zero, List.set_cons_succ]
  refine wpR_take (i := 2) (v := ?_) (Upd.road _) (some 13) rfl (by kernel_rfl) (by kernel_rfl) (by kernel_rfl) (by kernel_rfl) (by kernel_rfl) (fun _ _ _ h => h) (by kernel_rfl) (fun w' hw' => ?_) ?_
  rotate_left
  · have q := (hw'.cell (p := ⟨ab, ao + 1, none⟩) hadd (fun h => h)).trans c1; go_simp; with_reducible rfl
  simp only [Act.put, List.setIfInBounds_toArray, List.set_cons_zero, List.set_cons_succ]
  refine wpR_take (i := 3) (v := ?_) (Upd.road _) (some 14) rfl (by kernel_rfl) (by kernel_rfl) (by kernel_rfl) (by kernel_rfl) (by kernel_rfl) (fun _ _ _ h => h) (by kernel_rfl) (fun w' hw' => ?_) ?_
  rotate_left
  · go_simp; with_reducible rfl
  simp only [Act.put, List.setIfInBounds_toArray, List.set_cons_zero, List.set_cons_succ]
  refine wpR_take (i := 4) (v := ?_) (Upd.road _) (some 15) rfl (by kernel_rfl) (by kernel_rfl) (by kernel_rfl) (by kernel_rfl) (by kernel_rfl) (fun _ _ _ h => h) (by kernel_rfl) (fun w' hw' => ?_) ?_
  rotate_left
  · go_simp; with_reducible rfl
  simp only [Act.put, List.setIfInBounds_toArray, List.set_cons_zero, List.set_cons_succ]
  refine wpR_take (i := 5) (v := ?_) (Upd.road _) (some 16) rfl (by kernel_rfl) (by kernel_rfl) (by kernel_rfl) (by kernel_rfl) (by kernel_rfl) (fun _ _ _ h => h) (by kernel_rfl) (fun w' hw' => ?_) ?_
  rotate_left
  · go_simp; with_reducible rfl
  simp only [Act.put, List.setIfInBounds_toArray, List.set_cons_zero, List.set_cons_succ]
  refine wpR_take (i := 6) (v := ?_) (Upd.road _) (some 17) rfl (by kernel_rfl) (by kernel_rfl) (by kernel_rfl) (by kernel_rfl) (by kernel_rfl) (fun _ _ _ h => h) (by kernel_rfl) (fun w' hw' => ?_) ?_
  rotate_left
  · go_simp; with_reducible rfl
  simp only [Act.put, List.setIfInBounds_toArray, List.set_cons_zero, List.set_cons_succ]
  refine wpR_take (i := 7) (v := ?_) (Upd.road _) (some 18) rfl (by kernel_rfl) (by kernel_rfl) (by kernel_rfl) (by kernel_rfl) (by kernel_rfl) (fun _ _ _ h => h) (by kernel_rfl) (fun w' hw' => ?_) ?_
  rotate_left
  · go_simp; with_reducible rfl
  simp only [Act.put, List.setIfInBounds_toArray, List.set_cons_zero, List.set_cons_succ]
  refine wpR_take (i := 8) (v := ?_) (Upd.road _) (some 19) rfl (by kernel_rfl) (by kernel_rfl) (by kernel_rfl) (by kernel_rfl) (by kernel_rfl) (fun _ _ _ h => h) (by kernel_rfl) (fun w' hw' => ?_) ?_
  rotate_left
  · go_simp; with_reducible rfl
  simp only [Act.put, List.setIfInBounds_toArray, List.set_cons_zero, List.set_cons_succ]
  refine wpR_two 9 10 rfl rfl (by kernel_rfl) (by kernel_rfl) (by kernel_rfl) (fun K hK => ?_) (fun K hK => ?_)
  · go_simp
    refine (hgs.out _ (by have := hbd.out.size; omega) hsld.out).mono ?_
    rintro e w3 ⟨A9, c9, rfl, hd3, hbb⟩
    refine hK _ _ (fun _ => Upd.of_below hbb) ?_
    clear hK K
    have hN3 := Lib.hid (blk_below hNd.out hbb)
    have hb3 := Lib.hid (hbd.out.trans (hbb.mono hbd.out.size))
    clear hbb
    try simp only [Act.put, List.setIfInBounds_toArray, List.set_cons_zero, List.set_cons_succ]
    refine wpR_one 10 rfl (by kernel_rfl) (by kernel_rfl) (fun K hK => ?_)
    go_simp
    refine hK _ _ (fun _ => Upd.of_below ((Below.refl _ _).alloc (Nat.le_refl _) _)) ?_
    clear hK K
    have hX5 := heap_alloc_new w3 (.cells #[.int .i64 0, .int .i64 0, .string ⟨#[]⟩, .int .i64 0, .int .i64 0, .int .i64 0, .int .i64 0, .int .i64 0, .string ⟨#[]⟩, .slice none 0 0] 34)
    have hN5 := Lib.hid (blk_alloc hN3.out (.cells #[.int .i64 0, .int .i64 0, .string ⟨#[]⟩, .int .i64 0, .int .i64 0, .int .i64 0, .int .i64 0, .int .i64 0, .string ⟨#[]⟩, .slice none 0 0] 34))
    have hb5 := Lib.hid (hb3.out.alloc hb3.out.size (.cells #[.int .i64 0, .int .i64 0, .string ⟨#[]⟩, .int .i64 0, .int .i64 0, .int .i64 0, .int .i64 0, .int .i64 0, .string ⟨#[]⟩, .slice none 0 0] 34))
    have hd9 := hd3.up ((Below.refl _ _).alloc (Nat.le_refl _) (.cells #[.int .i64 0, .int .i64 0, .string ⟨#[]⟩, .int .i64 0, .int .i64 0, .int .i64 0, .int .i64 0, .int .i64 0, .string ⟨#[]⟩, .slice none 0 0] 34))
    obtain ⟨X, hX⟩ : ∃ X, w3.heap.size = X := ⟨_, rfl⟩
    have hXN : w.heap.size < X := by have := blk_lt hN3.out; omega
    rw [hX] at hX5 ⊢
    obtain ⟨w5, hw5⟩ : ∃ w5, w3.alloc (.cells #[.int .i64 0, .int .i64 0, .string ⟨#[]⟩, .int .i64 0, .int .i64 0, .int .i64 0, .int .i64 0, .int .i64 0, .string ⟨#[]⟩, .slice none 0 0] 34) = w5 := ⟨_, rfl⟩
    rw [hw5] at hX5 hN5 hb5 hd9 ⊢
    replace hd9 := Lib.hid hd9
    clear hd3
    have z0 := blk_cell (j := 0) (v := .int .i64 0) hX5 rfl
    have f0 := blk_free hX5 0
    have z1 := blk_cell (j := 1) (v := .int .i64 0) hX5 rfl
    have f1 := blk_free hX5 1
    have z2 := blk_cell (j := 2) (v := .string ⟨#[]⟩) hX5 rfl
    have f2 := blk_free hX5 2
    have z3 := blk_cell (j := 3) (v := .int .i64 0) hX5 rfl
    have f3 := blk_free hX5 3
    have z4 := blk_cell (j := 4) (v := .int .i64 0) hX5 rfl
    have f4 := blk_free hX5 4
    have z5 := blk_cell (j := 5) (v := .int .i64 0) hX5 rfl
    have f5 := blk_free hX5 5
    have z6 := blk_cell (j := 6) (v := .int .i64 0) hX5 rfl
    have f6 := blk_free hX5 6
    have z7 := blk_cell (j := 7) (v := .int .i64 0) hX5 rfl
    have f7 := blk_free hX5 7
    have z8 := blk_cell (j := 8) (v := .string ⟨#[]⟩) hX5 rfl
    have f8 := blk_free hX5 8
    have z9 := blk_cell (j := 9) (v := .slice none 0 0) hX5 rfl
    have f9 := blk_free hX5 9
    replace hX5 := Lib.hid hX5
    replace hw5 := Lib.hid hw5
    replace hX := Lib.hid hX
    unfold Rc.agg
    try simp only [Act.put, List.setIfInBounds_toArray, List.set_cons_zero, List.set_cons_succ]
    refine wpR_one 11 rfl (by kernel_rfl) (by kernel_rfl) (fun K hK => ?_)
    go_simp
    refine hK _ _ (fun h => absurd rfl h) ?_
    clear hK K
    clear z0 f0 z1 f1 z2 f2 z3 f3 z4 f4 z5 f5 z6 f6 z7 f7 z8 f8 z9 f9
    have hd6 := hd9.out.recSet10 hX5.out (by rfl) (.int .i64 q.kind) (.int .i64 q.cart) (.string (bs q.key)) (.int .i64 q.gen) (.int .i64 q.group) (.int .i64 q.groups) (.int .i64 q.index) (.int .i64 q.size) (.string (bs q.sum)) (.slice A9 q.data.length c9)
    have hX6 := blk_set10 hX5.out (.int .i64 q.kind) (.int .i64 q.cart) (.string (bs q.key)) (.int .i64 q.gen) (.int .i64 q.group) (.int .i64 q.groups) (.int .i64 q.index) (.int .i64 q.size) (.string (bs q.sum)) (.slice A9 q.data.length c9)
    have hN6 := set10_other (X := X) (g := w.heap.size) (by omega) hN5.out (.int .i64 q.kind) (.int .i64 q.cart) (.string (bs q.key)) (.int .i64 q.gen) (.int .i64 q.group) (.int .i64 q.groups) (.int .i64 q.index) (.int .i64 q.size) (.string (bs q.sum)) (.slice A9 q.data.length c9)
    have hb6 := setLo10 hb5.out (g := X) (Nat.le_of_lt hXN) (.int .i64 q.kind) (.int .i64 q.cart) (.string (bs q.key)) (.int .i64 q.gen) (.int .i64 q.group) (.int .i64 q.groups) (.int .i64 q.index) (.int .i64 q.size) (.string (bs q.sum)) (.slice A9 q.data.length c9)
    have hz6 : ((((((((((w5.setCell ⟨X, 0, none⟩ (.int .i64 q.kind)).setCell ⟨X, 1, none⟩ (.int .i64 q.cart)).setCell ⟨X, 2, none⟩ (.string (bs q.key))).setCell ⟨X, 3, none⟩ (.int .i64 q.gen)).setCell ⟨X, 4, none⟩ (.int .i64 q.group)).setCell ⟨X, 5, none⟩ (.int .i64 q.groups)).setCell ⟨X, 6, none⟩ (.int .i64 q.index)).setCell ⟨X, 7, none⟩ (.int .i64 q.size)).setCell ⟨X, 8, none⟩ (.string (bs q.sum))).setCell ⟨X, 9, none⟩ (.slice A9 q.data.length c9)).heap.size = w5.heap.size := by simp
    obtain ⟨w6, hw6⟩ : ∃ w6, ((((((((((w5.setCell ⟨X, 0, none⟩ (.int .i64 q.kind)).setCell ⟨X, 1, none⟩ (.int .i64 q.cart)).setCell ⟨X, 2, none⟩ (.string (bs q.key))).setCell ⟨X, 3, none⟩ (.int .i64 q.gen)).setCell ⟨X, 4, none⟩ (.int .i64 q.group)).setCell ⟨X, 5, none⟩ (.int .i64 q.groups)).setCell ⟨X, 6, none⟩ (.int .i64 q.index)).setCell ⟨X, 7, none⟩ (.int .i64 q.size)).setCell ⟨X, 8, none⟩ (.string (bs q.sum))).setCell ⟨X, 9, none⟩ (.slice A9 q.data.length c9)) = w6 := ⟨_, rfl⟩
    rw [hw6] at hX6 hN6 hb6 hd6 hz6 ⊢
    rw [← hz6] at hd6
    replace hX6 := Lib.hid hX6
    replace hN6 := Lib.hid hN6
    replace hb6 := Lib.hid hb6
    replace hw6 := Lib.hid hw6
    replace hd6 := Lib.hid hd6
    clear hX5 hN5 hb5 hd9 hz6
    try simp only [Act.put, List.setIfInBounds_toArray, List.set_cons_zero, List.set_cons_succ]
    refine wpR_done (by kernel_rfl) ?_ _
    have y0 := blk_cell (j := 0) (v := .int .i64 q.kind) hX6.out rfl
    have y1 := blk_cell (j := 1) (v := .int .i64 q.cart) hX6.out rfl
    have y2 := blk_cell (j := 2) (v := .string (bs q.key)) hX6.out rfl
    have y3 := blk_cell (j := 3) (v := .int .i64 q.gen) hX6.out rfl
    have y4 := blk_cell (j := 4) (v := .int .i64 q.group) hX6.out rfl
    have y5 := blk_cell (j := 5) (v := .int .i64 q.groups) hX6.out rfl
    have y6 := blk_cell (j := 6) (v := .int .i64 q.index) hX6.out rfl
    have y7 := blk_cell (j := 7) (v := .int .i64 q.size) hX6.out rfl
    have y8 := blk_cell (j := 8) (v := .string (bs q.sum)) hX6.out rfl
    have y9 := blk_cell (j := 9) (v := .slice A9 q.data.length c9) hX6.out rfl
    have hen := Lib.hid (encode_no q A9 c9 hok.out hg.out w6 hd6.out)
    unfold Rc.agg at hen
    go_wp2_with fail
    clear y0 y1 y2 y3 y4 y5 y6 y7 y8 y9
    refine hen.out.mono ?_
    rintro e w9 ⟨rfl, hbb⟩
    have hN9 := Lib.hid (blk_below hN6.out hbb)
    have hb9 := Lib.hid (hb6.out.trans (hbb.mono hb6.out.size))
    clear hbb hen
    have z0 := blk_cell (j := 0) (v := .int .i64 0) hN9.out rfl
    have f0 := blk_free hN9.out 0
    have z1 := blk_cell (j := 1) (v := .int .i64 0) hN9.out rfl
    have f1 := blk_free hN9.out 1
    have z2 := blk_cell (j := 2) (v := .string ⟨#[]⟩) hN9.out rfl
    have f2 := blk_free hN9.out 2
    have z3 := blk_cell (j := 3) (v := .int .i64 0) hN9.out rfl
    have f3 := blk_free hN9.out 3
    have z4 := blk_cell (j := 4) (v := .int .i64 0) hN9.out rfl
    have f4 := blk_free hN9.out 4
    have z5 := blk_cell (j := 5) (v := .int .i64 0) hN9.out rfl
    have f5 := blk_free hN9.out 5
    have z6 := blk_cell (j := 6) (v := .int .i64 0) hN9.out rfl
    have f6 := blk_free hN9.out 6
    have z7 := blk_cell (j := 7) (v := .int .i64 0) hN9.out rfl
    have f7 := blk_free hN9.out 7
    have z8 := blk_cell (j := 8) (v := .string ⟨#[]⟩) hN9.out rfl
    have f8 := blk_free hN9.out 8
    have z9 := blk_cell (j := 9) (v := .slice none 0 0) hN9.out rfl
    have f9 := blk_free hN9.out 9
    go_wp2_with fail
    have hz := blk_set10 hN9.out (.int .i64 0) (.int .i64 0) (.string ⟨#[]⟩) (.int .i64 0) (.int .i64 0) (.int .i64 0) (.int .i64 0) (.int .i64 0) (.string ⟨#[]⟩) (.slice none 0 0)
    have hbz := setLo10 hb9.out (Nat.le_refl w.heap.size) (.int .i64 0) (.int .i64 0) (.string ⟨#[]⟩) (.int .i64 0) (.int .i64 0) (.int .i64 0) (.int .i64 0) (.int .i64 0) (.string ⟨#[]⟩) (.slice none 0 0)
    obtain ⟨w10, hw10⟩ : ∃ w10, ((((((((((w9.setCell ⟨w.heap.size, 0, none⟩ (.int .i64 0)).setCell ⟨w.heap.size, 1, none⟩ (.int .i64 0)).setCell ⟨w.heap.size, 2, none⟩ (.string ⟨#[]⟩)).setCell ⟨w.heap.size, 3, none⟩ (.int .i64 0)).setCell ⟨w.heap.size, 4, none⟩ (.int .i64 0)).setCell ⟨w.heap.size, 5, none⟩ (.int .i64 0)).setCell ⟨w.heap.size, 6, none⟩ (.int .i64 0)).setCell ⟨w.heap.size, 7, none⟩ (.int .i64 0)).setCell ⟨w.heap.size, 8, none⟩ (.string ⟨#[]⟩)).setCell ⟨w.heap.size, 9, none⟩ (.slice none 0 0)) = w10 := ⟨_, rfl⟩
    rw [hw10] at hz hbz ⊢
    have r0 := blk_cell (j := 0) (v := .int .i64 0) hz rfl
    have r1 := blk_cell (j := 1) (v := .int .i64 0) hz rfl
    have r2 := blk_cell (j := 2) (v := .string ⟨#[]⟩) hz rfl
    have r3 := blk_cell (j := 3) (v := .int .i64 0) hz rfl
    have r4 := blk_cell (j := 4) (v := .int .i64 0) hz rfl
    have r5 := blk_cell (j := 5) (v := .int .i64 0) hz rfl
    have r6 := blk_cell (j := 6) (v := .int .i64 0) hz rfl
    have r7 := blk_cell (j := 7) (v := .int .i64 0) hz rfl
    have r8 := blk_cell (j := 8) (v := .string ⟨#[]⟩) hz rfl
    have r9 := blk_cell (j := 9) (v := .slice none 0 0) hz rfl
    exact bodyPost_ret (v := .tuple #[(.agg #[.int .i64 0, .int .i64 0, .string ⟨#[]⟩, .int .i64 0, .int .i64 0, .int .i64 0, .int .i64 0, .int .i64 0, .string ⟨#[]⟩, .slice none 0 0]), .int .i64 12]) (by simp [results, Try.results23, go_sem, r0, r1, r2, r3, r4, r5, r6, r7, r8, r9]) rfl ⟨rfl, hbz⟩
  · go_simp
    refine hK _ _ (fun _ => Upd.of_below ((Below.refl _ _).alloc (Nat.le_refl _) _)) ?_
    clear hK K
    have hX3 := Lib.hid (heap_alloc_new wd (.cells #[.int .i64 0, .int .i64 0, .string ⟨#[]⟩, .int .i64 0, .int .i64 0, .int .i64 0, .int .i64 0, .int .i64 0, .string ⟨#[]⟩, .slice none 0 0] 34))
    have hN3 := Lib.hid (blk_alloc hNd.out (.cells #[.int .i64 0, .int .i64 0, .string ⟨#[]⟩, .int .i64 0, .int .i64 0, .int .i64 0, .int .i64 0, .int .i64 0, .string ⟨#[]⟩, .slice none 0 0] 34))
    have hb3 := Lib.hid (hbd.out.alloc hbd.out.size (.cells #[.int .i64 0, .int .i64 0, .string ⟨#[]⟩, .int .i64 0, .int .i64 0, .int .i64 0, .int .i64 0, .int .i64 0, .string ⟨#[]⟩, .slice none 0 0] 34))
    have hsl3 := Lib.hid (hsld.out.up ((Below.refl wd.heap.size wd).alloc (Nat.le_refl _) (.cells #[.int .i64 0, .int .i64 0, .string ⟨#[]⟩, .int .i64 0, .int .i64 0, .int .i64 0, .int .i64 0, .int .i64 0, .string ⟨#[]⟩, .slice none 0 0] 34)))
    obtain ⟨X, hX⟩ : ∃ X, wd.heap.size = X := ⟨_, rfl⟩
    have hXN : w.heap.size < X := by have := blk_lt hNd.out; omega
    rw [hX] at hX3 ⊢
    obtain ⟨w3, hw3⟩ : ∃ w3, wd.alloc (.cells #[.int .i64 0, .int .i64 0, .string ⟨#[]⟩, .int .i64 0, .int .i64 0, .int .i64 0, .int .i64 0, .int .i64 0, .string ⟨#[]⟩, .slice none 0 0] 34) = w3 := ⟨_, rfl⟩
    rw [hw3] at hX3 hN3 hb3 hsl3 ⊢
    replace hw3 := Lib.hid hw3
    replace hX := Lib.hid hX
    try simp only [Act.put, List.setIfInBounds_toArray, List.set_cons_zero, List.set_cons_succ]
    refine wpR_one 9 rfl (by kernel_rfl) (by kernel_rfl) (fun K hK => ?_)
    go_simp
    refine (hgs.out _ (by have := hb3.out.size; omega) hsl3.out).mono ?_
    rintro e w5 ⟨A9, c9, rfl, hd9, hbb⟩
    refine hK _ _ (fun _ => Upd.of_below hbb) ?_
    clear hK K
    have hX5 := blk_below hX3.out hbb
    have hN5 := blk_below hN3.out hbb
    have hb5 := Lib.hid (hb3.out.trans (hbb.mono hb3.out.size))
    replace hd9 := Lib.hid hd9
    clear hbb
    have z0 := blk_cell (j := 0) (v := .int .i64 0) hX5 rfl
    have f0 := blk_free hX5 0
    have z1 := blk_cell (j := 1) (v := .int .i64 0) hX5 rfl
    have f1 := blk_free hX5 1
    have z2 := blk_cell (j := 2) (v := .string ⟨#[]⟩) hX5 rfl
    have f2 := blk_free hX5 2
    have z3 := blk_cell (j := 3) (v := .int .i64 0) hX5 rfl
    have f3 := blk_free hX5 3
    have z4 := blk_cell (j := 4) (v := .int .i64 0) hX5 rfl
    have f4 := blk_free hX5 4
    have z5 := blk_cell (j := 5) (v := .int .i64 0) hX5 rfl
    have f5 := blk_free hX5 5
    have z6 := blk_cell (j := 6) (v := .int .i64 0) hX5 rfl
    have f6 := blk_free hX5 6
    have z7 := blk_cell (j := 7) (v := .int .i64 0) hX5 rfl
    have f7 := blk_free hX5 7
    have z8 := blk_cell (j := 8) (v := .string ⟨#[]⟩) hX5 rfl
    have f8 := blk_free hX5 8
    have z9 := blk_cell (j := 9) (v := .slice none 0 0) hX5 rfl
    have f9 := blk_free hX5 9
    replace hX5 := Lib.hid hX5
    replace hN5 := Lib.hid hN5
    unfold Rc.agg
    try simp only [Act.put, List.setIfInBounds_toArray, List.set_cons_zero, List.set_cons_succ]
    refine wpR_one 11 rfl (by kernel_rfl) (by kernel_rfl) (fun K hK => ?_)
    go_simp
    refine hK _ _ (fun h => absurd rfl h) ?_
    clear hK K
    clear z0 f0 z1 f1 z2 f2 z3 f3 z4 f4 z5 f5 z6 f6 z7 f7 z8 f8 z9 f9
    have hd6 := hd9.out.recSet10 hX5.out (by rfl) (.int .i64 q.kind) (.int .i64 q.cart) (.string (bs q.key)) (.int .i64 q.gen) (.int .i64 q.group) (.int .i64 q.groups) (.int .i64 q.index) (.int .i64 q.size) (.string (bs q.sum)) (.slice A9 q.data.length c9)
    have hX6 := blk_set10 hX5.out (.int .i64 q.kind) (.int .i64 q.cart) (.string (bs q.key)) (.int .i64 q.gen) (.int .i64 q.group) (.int .i64 q.groups) (.int .i64 q.index) (.int .i64 q.size) (.string (bs q.sum)) (.slice A9 q.data.length c9)
    have hN6 := set10_other (X := X) (g := w.heap.size) (by omega) hN5.out (.int .i64 q.kind) (.int .i64 q.cart) (.string (bs q.key)) (.int .i64 q.gen) (.int .i64 q.group) (.int .i64 q.groups) (.int .i64 q.index) (.int .i64 q.size) (.string (bs q.sum)) (.slice A9 q.data.length c9)
    have hb6 := setLo10 hb5.out (g := X) (Nat.le_of_lt hXN) (.int .i64 q.kind) (.int .i64 q.cart) (.string (bs q.key)) (.int .i64 q.gen) (.int .i64 q.group) (.int .i64 q.groups) (.int .i64 q.index) (.int .i64 q.size) (.string (bs q.sum)) (.slice A9 q.data.length c9)
    have hz6 : ((((((((((w5.setCell ⟨X, 0, none⟩ (.int .i64 q.kind)).setCell ⟨X, 1, none⟩ (.int .i64 q.cart)).setCell ⟨X, 2, none⟩ (.string (bs q.key))).setCell ⟨X, 3, none⟩ (.int .i64 q.gen)).setCell ⟨X, 4, none⟩ (.int .i64 q.group)).setCell ⟨X, 5, none⟩ (.int .i64 q.groups)).setCell ⟨X, 6, none⟩ (.int .i64 q.index)).setCell ⟨X, 7, none⟩ (.int .i64 q.size)).setCell ⟨X, 8, none⟩ (.string (bs q.sum))).setCell ⟨X, 9, none⟩ (.slice A9 q.data.length c9)).heap.size = w5.heap.size := by simp
    obtain ⟨w6, hw6⟩ : ∃ w6, ((((((((((w5.setCell ⟨X, 0, none⟩ (.int .i64 q.kind)).setCell ⟨X, 1, none⟩ (.int .i64 q.cart)).setCell ⟨X, 2, none⟩ (.string (bs q.key))).setCell ⟨X, 3, none⟩ (.int .i64 q.gen)).setCell ⟨X, 4, none⟩ (.int .i64 q.group)).setCell ⟨X, 5, none⟩ (.int .i64 q.groups)).setCell ⟨X, 6, none⟩ (.int .i64 q.index)).setCell ⟨X, 7, none⟩ (.int .i64 q.size)).setCell ⟨X, 8, none⟩ (.string (bs q.sum))).setCell ⟨X, 9, none⟩ (.slice A9 q.data.length c9)) = w6 := ⟨_, rfl⟩
    rw [hw6] at hX6 hN6 hb6 hd6 hz6 ⊢
    rw [← hz6] at hd6
    replace hX6 := Lib.hid hX6
    replace hN6 := Lib.hid hN6
    replace hb6 := Lib.hid hb6
    replace hw6 := Lib.hid hw6
    replace hd6 := Lib.hid hd6
    clear hX5 hN5 hb5 hd9 hz6
    try simp only [Act.put, List.setIfInBounds_toArray, List.set_cons_zero, List.set_cons_succ]
    refine wpR_done (by kernel_rfl) ?_ _
    have y0 := blk_cell (j := 0) (v := .int .i64 q.kind) hX6.out rfl
    have y1 := blk_cell (j := 1) (v := .int .i64 q.cart) hX6.out rfl
    have y2 := blk_cell (j := 2) (v := .string (bs q.key)) hX6.out rfl
    have y3 := blk_cell (j := 3) (v := .int .i64 q.gen) hX6.out rfl
    have y4 := blk_cell (j := 4) (v := .int .i64 q.group) hX6.out rfl
    have y5 := blk_cell (j := 5) (v := .int .i64 q.groups) hX6.out rfl
    have y6 := blk_cell (j := 6) (v := .int .i64 q.index) hX6.out rfl
    have y7 := blk_cell (j := 7) (v := .int .i64 q.size) hX6.out rfl
    have y8 := blk_cell (j := 8) (v := .string (bs q.sum)) hX6.out rfl
    have y9 := blk_cell (j := 9) (v := .slice A9 q.data.length c9) hX6.out rfl
    have hen := Lib.hid (encode_no q A9 c9 hok.out hg.out w6 hd6.out)
    unfold Rc.agg at hen
    go_wp2_with fail
    clear y0 y1 y2 y3 y4 y5 y6 y7 y8 y9
    refine hen.out.mono ?_
    rintro e w9 ⟨rfl, hbb⟩
    have hN9 := Lib.hid (blk_below hN6.out hbb)
    have hb9 := Lib.hid (hb6.out.trans (hbb.mono hb6.out.size))
    clear hbb hen
    have z0 := blk_cell (j := 0) (v := .int .i64 0) hN9.out rfl
    have f0 := blk_free hN9.out 0
    have z1 := blk_cell (j := 1) (v := .int .i64 0) hN9.out rfl
    have f1 := blk_free hN9.out 1
    have z2 := blk_cell (j := 2) (v := .string ⟨#[]⟩) hN9.out rfl
    have f2 := blk_free hN9.out 2
    have z3 := blk_cell (j := 3) (v := .int .i64 0) hN9.out rfl
    have f3 := blk_free hN9.out 3
    have z4 := blk_cell (j := 4) (v := .int .i64 0) hN9.out rfl
    have f4 := blk_free hN9.out 4
    have z5 := blk_cell (j := 5) (v := .int .i64 0) hN9.out rfl
    have f5 := blk_free hN9.out 5
    have z6 := blk_cell (j := 6) (v := .int .i64 0) hN9.out rfl
    have f6 := blk_free hN9.out 6
    have z7 := blk_cell (j := 7) (v := .int .i64 0) hN9.out rfl
    have f7 := blk_free hN9.out 7
    have z8 := blk_cell (j := 8) (v := .string ⟨#[]⟩) hN9.out rfl
    have f8 := blk_free hN9.out 8
    have z9 := blk_cell (j := 9) (v := .slice none 0 0) hN9.out rfl
    have f9 := blk_free hN9.out 9
    go_wp2_with fail
    have hz := blk_set10 hN9.out (.int .i64 0) (.int .i64 0) (.string ⟨#[]⟩) (.int .i64 0) (.int .i64 0) (.int .i64 0) (.int .i64 0) (.int .i64 0) (.string ⟨#[]⟩) (.slice none 0 0)
    have hbz := setLo10 hb9.out (Nat.le_refl w.heap.size) (.int .i64 0) (.int .i64 0) (.string ⟨#[]⟩) (.int .i64 0) (.int .i64 0) (.int .i64 0) (.int .i64 0) (.int .i64 0) (.string ⟨#[]⟩) (.slice none 0 0)
    obtain ⟨w10, hw10⟩ : ∃ w10, ((((((((((w9.setCell ⟨w.heap.size, 0, none⟩ (.int .i64 0)).setCell ⟨w.heap.size, 1, none⟩ (.int .i64 0)).setCell ⟨w.heap.size, 2, none⟩ (.string ⟨#[]⟩)).setCell ⟨w.heap.size, 3, none⟩ (.int .i64 0)).setCell ⟨w.heap.size, 4, none⟩ (.int .i64 0)).setCell ⟨w.heap.size, 5, none⟩ (.int .i64 0)).setCell ⟨w.heap.size, 6, none⟩ (.int .i64 0)).setCell ⟨w.heap.size, 7, none⟩ (.int .i64 0)).setCell ⟨w.heap.size, 8, none⟩ (.string ⟨#[]⟩)).setCell ⟨w.heap.size, 9, none⟩ (.slice none 0 0)) = w10 := ⟨_, rfl⟩
    rw [hw10] at hz hbz ⊢
    have r0 := blk_cell (j := 0) (v := .int .i64 0) hz rfl
    have r1 := blk_cell (j := 1) (v := .int .i64 0) hz rfl
    have r2 := blk_cell (j := 2) (v := .string ⟨#[]⟩) hz rfl
    have r3 := blk_cell (j := 3) (v := .int .i64 0) hz rfl
    have r4 := blk_cell (j := 4) (v := .int .i64 0) hz rfl
    have r5 := blk_cell (j := 5) (v := .int .i64 0) hz rfl
    have r6 := blk_cell (j := 6) (v := .int .i64 0) hz rfl
    have r7 := blk_cell (j := 7) (v := .int .i64 0) hz rfl
    have r8 := blk_cell (j := 8) (v := .string ⟨#[]⟩) hz rfl
    have r9 := blk_cell (j := 9) (v := .slice none 0 0) hz rfl
    exact bodyPost_ret (v := .tuple #[(.agg #[.int .i64 0, .int .i64 0, .string ⟨#[]⟩, .int .i64 0, .int .i64 0, .int .i64 0, .int .i64 0, .int .i64 0, .string ⟨#[]⟩, .slice none 0 0]), .int .i64 12]) (by simp [results, Try.results23, go_sem, r0, r1, r2, r3, r4, r5, r6, r7, r8, r9]) rfl ⟨rfl, hbz⟩

end Go.Proofs.Yticdkmnjolkacab
