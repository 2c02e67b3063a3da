/- The laws of label: LabelDecodes. -/
import Derived.Test.YticdkmnjolkacabLabRef10
import Derived.Test.YticdkmnjolkacabLab8
import Derived.Test.YticdkmnjolkacabLabRef1
namespace Go.Proofs.Yticdkmnjolkacab
set_option linter.unusedVariables false
set_option linter.unusedSimpArgs false
open Go Go.RowKit
set_option maxHeartbeats 8000000 in
set_option maxRecDepth 20000 in
theorem rdecode_short (A : Option Addr) (n c : Nat) (b : List UInt8) (hn : b.length = n) (h6 : n < 6) (w : World) :
    Calls Try.prog 24 #[.slice A n c] w (RDec b w) := by
  have d6 : decide ((n : Int) < 6) = true := decide_eq_true (by omega)
  have hdn := Lib.hid (decB_less (b := b) (by omega))
  replace hn := Lib.hid hn
  go_enter Try.func24, Try.ntmps24
  go_wp2_with fail
  have hz := heap_alloc_new w (.cells #[.int .i64 0, .int .i64 0, .string ⟨#[]⟩, .int .i64 0, .int .i64 0, .int .i64 0, .int .i64 0, .int .i64 0, .string ⟨#[]⟩, .slice none 0 0] 34)
  have hbz := (Below.refl w.heap.size w).alloc (Nat.le_refl _) (.cells #[.int .i64 0, .int .i64 0, .string ⟨#[]⟩, .int .i64 0, .int .i64 0, .int .i64 0, .int .i64 0, .int .i64 0, .string ⟨#[]⟩, .slice none 0 0] 34)
  obtain ⟨w7, hw7⟩ : ∃ w7, w.alloc (.cells #[.int .i64 0, .int .i64 0, .string ⟨#[]⟩, .int .i64 0, .int .i64 0, .int .i64 0, .int .i64 0, .int .i64 0, .string ⟨#[]⟩, .slice none 0 0] 34) = w7 := ⟨_, rfl⟩
  rw [hw7] at hz hbz ⊢
  replace hw7 := Lib.hid hw7
  have r0 := blk_cell (j := 0) (v := .int .i64 0) hz rfl
  have r1 := blk_cell (j := 1) (v := .int .i64 0) hz rfl
  have r2 := blk_cell (j := 2) (v := .string ⟨#[]⟩) hz rfl
  have r3 := blk_cell (j := 3) (v := .int .i64 0) hz rfl
  have r4 := blk_cell (j := 4) (v := .int .i64 0) hz rfl
  have r5 := blk_cell (j := 5) (v := .int .i64 0) hz rfl
  have r6 := blk_cell (j := 6) (v := .int .i64 0) hz rfl
  have r7 := blk_cell (j := 7) (v := .int .i64 0) hz rfl
  have r8 := blk_cell (j := 8) (v := .string ⟨#[]⟩) hz rfl
  have r9 := blk_cell (j := 9) (v := .slice none 0 0) hz rfl
  exact bodyPost_ret (v := .tuple #[(.agg #[.int .i64 0, .int .i64 0, .string ⟨#[]⟩, .int .i64 0, .int .i64 0, .int .i64 0, .int .i64 0, .int .i64 0, .string ⟨#[]⟩, .slice none 0 0]), .int .i64 12]) (by simp [results, Try.results24, go_sem, r0, r1, r2, r3, r4, r5, r6, r7, r8, r9]) rfl (RDec.no hbz hdn.out)
set_option maxHeartbeats 8000000 in
set_option maxRecDepth 20000 in
theorem rdecode_long (A : Option Addr) (n c : Nat) (b : List UInt8) (hn : b.length = n) (h6 : 256 < n) (w : World) :
    Calls Try.prog 24 #[.slice A n c] w (RDec b w) := by
  have d6 : decide ((n : Int) < 6) = false := decide_eq_false (by omega)
  have d256 : decide ((256 : Int) < (n : Int)) = true := decide_eq_true (by omega)
  have hdn := Lib.hid (decB_long (b := b) (by omega))
  replace hn := Lib.hid hn
  go_enter Try.func24, Try.ntmps24
  go_wp2_with fail
  have hz := heap_alloc_new w (.cells #[.int .i64 0, .int .i64 0, .string ⟨#[]⟩, .int .i64 0, .int .i64 0, .int .i64 0, .int .i64 0, .int .i64 0, .string ⟨#[]⟩, .slice none 0 0] 34)
  have hbz := (Below.refl w.heap.size w).alloc (Nat.le_refl _) (.cells #[.int .i64 0, .int .i64 0, .string ⟨#[]⟩, .int .i64 0, .int .i64 0, .int .i64 0, .int .i64 0, .int .i64 0, .string ⟨#[]⟩, .slice none 0 0] 34)
  obtain ⟨w7, hw7⟩ : ∃ w7, w.alloc (.cells #[.int .i64 0, .int .i64 0, .string ⟨#[]⟩, .int .i64 0, .int .i64 0, .int .i64 0, .int .i64 0, .int .i64 0, .string ⟨#[]⟩, .slice none 0 0] 34) = w7 := ⟨_, rfl⟩
  rw [hw7] at hz hbz ⊢
  replace hw7 := Lib.hid hw7
  have r0 := blk_cell (j := 0) (v := .int .i64 0) hz rfl
  have r1 := blk_cell (j := 1) (v := .int .i64 0) hz rfl
  have r2 := blk_cell (j := 2) (v := .string ⟨#[]⟩) hz rfl
  have r3 := blk_cell (j := 3) (v := .int .i64 0) hz rfl
  have r4 := blk_cell (j := 4) (v := .int .i64 0) hz rfl
  have r5 := blk_cell (j := 5) (v := .int .i64 0) hz rfl
  have r6 := blk_cell (j := 6) (v := .int .i64 0) hz rfl
  have r7 := blk_cell (j := 7) (v := .int .i64 0) hz rfl
  have r8 := blk_cell (j := 8) (v := .string ⟨#[]⟩) hz rfl
  have r9 := blk_cell (j := 9) (v := .slice none 0 0) hz rfl
  exact bodyPost_ret (v := .tuple #[(.agg #[.int .i64 0, .int .i64 0, .string ⟨#[]⟩, .int .i64 0, .int .i64 0, .int .i64 0, .int .i64 0, .int .i64 0, .string ⟨#[]⟩, .slice none 0 0]), .int .i64 12]) (by simp [results, Try.results24, go_sem, r0, r1, r2, r3, r4, r5, r6, r7, r8, r9]) rfl (RDec.no hbz hdn.out)
set_option maxHeartbeats 8000000 in
set_option maxRecDepth 20000 in
theorem rdecode_head (ab ao n c : Nat) (b : List UInt8) (hn : b.length = n) (h6 : 6 ≤ n) (h256 : n ≤ 256) (h0 : b.getD 0 0 ≠ 107) (w : World) (hab : ab < w.heap.size) (hr : Rd w w.heap.size (some ⟨ab, ao, none⟩) b) :
    Calls Try.prog 24 #[.slice (some ⟨ab, ao, none⟩) n c] w (RDec b w) := by
  have d6 : decide ((n : Int) < 6) = false := decide_eq_false (by omega)
  have d256 : decide ((256 : Int) < (n : Int)) = false := decide_eq_false (by omega)
  have hdn := Lib.hid (decB_head h0)
  obtain ⟨x, hx⟩ : ∃ x, b.getD 0 0 = x := ⟨_, rfl⟩
  have h00 : b[0]? = some x := by rw [← hx]; rw [List.getElem?_eq_getElem (by omega)]; simp [List.getElem?_eq_getElem (show 0 < b.length by omega)]
  rw [hx] at h0
  have hR1 := hr.up ((Below.refl w.heap.size w).alloc (Nat.le_refl _) (.cells #[.int .i64 0, .int .i64 0, .string ⟨#[]⟩, .int .i64 0, .int .i64 0, .int .i64 0, .int .i64 0, .int .i64 0, .string ⟨#[]⟩, .slice none 0 0] 34))
  obtain ⟨ad', ead, -, c0⟩ := hR1.get h00
  injection ead with ead
  subst ead
  rw [add_of, Nat.add_zero] at c0
  have i0 : (0 : Int) < (n : Int) := by omega
  have hx0 : (x != 107) = true := by simpa using h0
  clear hR1 h00 hr
  replace h0 := Lib.hid h0
  replace hx := Lib.hid hx
  replace hn := Lib.hid hn
  go_enter Try.func24, Try.ntmps24
  go_wp2_with fail
  have hz := heap_alloc_new w (.cells #[.int .i64 0, .int .i64 0, .string ⟨#[]⟩, .int .i64 0, .int .i64 0, .int .i64 0, .int .i64 0, .int .i64 0, .string ⟨#[]⟩, .slice none 0 0] 34)
  have hbz := (Below.refl w.heap.size w).alloc (Nat.le_refl _) (.cells #[.int .i64 0, .int .i64 0, .string ⟨#[]⟩, .int .i64 0, .int .i64 0, .int .i64 0, .int .i64 0, .int .i64 0, .string ⟨#[]⟩, .slice none 0 0] 34)
  obtain ⟨w7, hw7⟩ : ∃ w7, w.alloc (.cells #[.int .i64 0, .int .i64 0, .string ⟨#[]⟩, .int .i64 0, .int .i64 0, .int .i64 0, .int .i64 0, .int .i64 0, .string ⟨#[]⟩, .slice none 0 0] 34) = w7 := ⟨_, rfl⟩
  rw [hw7] at hz hbz ⊢
  replace hw7 := Lib.hid hw7
  have r0 := blk_cell (j := 0) (v := .int .i64 0) hz rfl
  have r1 := blk_cell (j := 1) (v := .int .i64 0) hz rfl
  have r2 := blk_cell (j := 2) (v := .string ⟨#[]⟩) hz rfl
  have r3 := blk_cell (j := 3) (v := .int .i64 0) hz rfl
  have r4 := blk_cell (j := 4) (v := .int .i64 0) hz rfl
  have r5 := blk_cell (j := 5) (v := .int .i64 0) hz rfl
  have r6 := blk_cell (j := 6) (v := .int .i64 0) hz rfl
  have r7 := blk_cell (j := 7) (v := .int .i64 0) hz rfl
  have r8 := blk_cell (j := 8) (v := .string ⟨#[]⟩) hz rfl
  have r9 := blk_cell (j := 9) (v := .slice none 0 0) hz rfl
  exact bodyPost_ret (v := .tuple #[(.agg #[.int .i64 0, .int .i64 0, .string ⟨#[]⟩, .int .i64 0, .int .i64 0, .int .i64 0, .int .i64 0, .int .i64 0, .string ⟨#[]⟩, .slice none 0 0]), .int .i64 12]) (by simp [results, Try.results24, go_sem, r0, r1, r2, r3, r4, r5, r6, r7, r8, r9]) rfl (RDec.no hbz hdn.out)
theorem rdecode_any (A : Option Addr) (n c : Nat) (b : List UInt8) (hn : b.length = n) (hnc : n ≤ c) (w : World) (hr : Rd w w.heap.size A b) :
    Calls Try.prog 24 #[.slice A n c] w (RDec b w) := by
  by_cases h6 : n < 6
  · exact rdecode_short A n c b hn h6 w
  · by_cases h256 : 256 < n
    · exact rdecode_long A n c b hn h256 w
    · obtain ⟨ad0, rfl, hadb0, hc0⟩ := hr.at_ (k := 0) (by omega)
      have hfl := flat_of hc0
      rw [hfl] at hr ⊢
      by_cases h0 : b.getD 0 0 = 107
      · by_cases h1 : b.getD 1 0 = 1
        · exact rdecode_1 _ _ n c b hn (by omega) (by omega) hnc h0 h1 w hadb0 hr
        · by_cases h2 : b.getD 1 0 = 2
          · exact rdecode_2 _ _ n c b hn (by omega) (by omega) hnc h0 h2 w hadb0 hr
          · refine rdecode_3 _ _ n c b hn (by omega) (by omega) hnc h0 _ rfl (fun e => h1 ?_) (fun e => h2 ?_) w hadb0 hr
            · exact U_inj e
            · exact U_inj e
      · exact rdecode_head _ _ n c b hn (by omega) (by omega) h0 w hadb0 hr
set_option maxHeartbeats 8000000 in
set_option maxRecDepth 20000 in
theorem labelDecodes_any (A : Option Addr) (n c : Nat) (b : List UInt8) (hn : b.length = n) (hl : n ≤ 140737488355000) (hnc : n ≤ c) (hcm : c ≤ maxLen) (w : World) (h : Rd w w.heap.size A b) :
    Calls Try.prog 5 #[.slice A n c] w fun e w' => e = .returned (.bool true) ∧ Below w.heap.size w w' := by
  have hq := Lib.hid (Below.refl w.heap.size w)
  cases hd : decB b with
  | none =>
    have h1 := Lib.hid (decode_none A n c b hn hl hnc hcm hd w h)
    have h2 : Hid (∀ W, Rd W W.heap.size A b → Calls Try.prog 24 #[.slice A n c] W fun e w' => e = .returned (.tuple #[(.agg #[.int .i64 0, .int .i64 0, .string ⟨#[]⟩, .int .i64 0, .int .i64 0, .int .i64 0, .int .i64 0, .int .i64 0, .string ⟨#[]⟩, .slice none 0 0]), .int .i64 12]) ∧ Below W.heap.size W w') := Lib.hid (fun W hW => (rdecode_any A n c b hn hnc W hW).mono (fun e w' hh => by obtain ⟨h1, h2⟩ := hh; rw [hd] at h2; exact ⟨h2, h1⟩))
    have hR := Lib.hid h
    clear h
    replace hd := Lib.hid hd
    replace hn := Lib.hid hn
    go_enter Try.func5, Try.ntmps5
    go_wp2_with fail
    refine h1.out.mono ?_
    rintro e w1 ⟨rfl, hbb⟩
    replace hq := Lib.hid (hq.out.trans (hbb.mono hq.out.size))
    replace hR := Lib.hid (hR.out.up hbb)
    clear hbb
    have hbb := (Below.refl _ w1).alloc (Nat.le_refl _) (.cells #[.int .i64 0, .int .i64 0, .string ⟨#[]⟩, .int .i64 0, .int .i64 0, .int .i64 0, .int .i64 0, .int .i64 0, .string ⟨#[]⟩, .slice none 0 0] 34)
    have hX := Lib.hid (heap_alloc_new w1 (.cells #[.int .i64 0, .int .i64 0, .string ⟨#[]⟩, .int .i64 0, .int .i64 0, .int .i64 0, .int .i64 0, .int .i64 0, .string ⟨#[]⟩, .slice none 0 0] 34))
    replace hq := Lib.hid (hq.out.trans (hbb.mono hq.out.size))
    replace hR := Lib.hid (hR.out.up hbb)
    clear hbb
    clear h1
    go_wp2_with fail
    refine (h2.out _ hR.out).mono ?_
    rintro e w2 ⟨rfl, hbb⟩
    replace hq := Lib.hid (hq.out.trans (hbb.mono hq.out.size))
    replace hR := Lib.hid (hR.out.up hbb)
    replace hX := Lib.hid (blk_below hX.out hbb)
    clear hbb
    have hbb := (Below.refl _ w2).alloc (Nat.le_refl _) (.cells #[.int .i64 0, .int .i64 0, .string ⟨#[]⟩, .int .i64 0, .int .i64 0, .int .i64 0, .int .i64 0, .int .i64 0, .string ⟨#[]⟩, .slice none 0 0] 34)
    have hY := Lib.hid (heap_alloc_new w2 (.cells #[.int .i64 0, .int .i64 0, .string ⟨#[]⟩, .int .i64 0, .int .i64 0, .int .i64 0, .int .i64 0, .int .i64 0, .string ⟨#[]⟩, .slice none 0 0] 34))
    replace hq := Lib.hid (hq.out.trans (hbb.mono hq.out.size))
    replace hR := Lib.hid (hR.out.up hbb)
    replace hX := Lib.hid (blk_below hX.out hbb)
    clear hbb
    clear h2
    go_wp2_with fail
    refine (awake09_any _).mono ?_
    rintro e w3 ⟨rfl, hbb⟩
    replace hq := Lib.hid (hq.out.trans (hbb.mono hq.out.size))
    replace hR := Lib.hid (hR.out.up hbb)
    replace hX := Lib.hid (blk_below hX.out hbb)
    replace hY := Lib.hid (blk_below hY.out hbb)
    clear hbb
    have x0 := blk_cell (j := 0) (v := .int .i64 0) hX.out rfl
    have x1 := blk_cell (j := 1) (v := .int .i64 0) hX.out rfl
    have x2 := blk_cell (j := 2) (v := .string ⟨#[]⟩) hX.out rfl
    have x3 := blk_cell (j := 3) (v := .int .i64 0) hX.out rfl
    have x4 := blk_cell (j := 4) (v := .int .i64 0) hX.out rfl
    have x5 := blk_cell (j := 5) (v := .int .i64 0) hX.out rfl
    have x6 := blk_cell (j := 6) (v := .int .i64 0) hX.out rfl
    have x7 := blk_cell (j := 7) (v := .int .i64 0) hX.out rfl
    have x8 := blk_cell (j := 8) (v := .string ⟨#[]⟩) hX.out rfl
    have x9 := blk_cell (j := 9) (v := .slice none 0 0) hX.out rfl
    have y0 := blk_cell (j := 0) (v := .int .i64 0) hY.out rfl
    have y1 := blk_cell (j := 1) (v := .int .i64 0) hY.out rfl
    have y2 := blk_cell (j := 2) (v := .string ⟨#[]⟩) hY.out rfl
    have y3 := blk_cell (j := 3) (v := .int .i64 0) hY.out rfl
    have y4 := blk_cell (j := 4) (v := .int .i64 0) hY.out rfl
    have y5 := blk_cell (j := 5) (v := .int .i64 0) hY.out rfl
    have y6 := blk_cell (j := 6) (v := .int .i64 0) hY.out rfl
    have y7 := blk_cell (j := 7) (v := .int .i64 0) hY.out rfl
    have y8 := blk_cell (j := 8) (v := .string ⟨#[]⟩) hY.out rfl
    have y9 := blk_cell (j := 9) (v := .slice none 0 0) hY.out rfl
    have hs0 := rsame_any ⟨0, 0, [], 0, 0, 0, 0, 0, [], []⟩ ⟨0, 0, [], 0, 0, 0, 0, 0, [], []⟩ none none 0 0 w3 Rd.nil_ Rd.nil_
    rw [show sameR ⟨0, 0, [], 0, 0, 0, 0, 0, [], []⟩ ⟨0, 0, [], 0, 0, 0, 0, 0, [], []⟩ = true from decide_eq_true rfl] at hs0
    have hs : Hid (Calls Try.prog 25 #[(.agg #[.int .i64 0, .int .i64 0, .string ⟨#[]⟩, .int .i64 0, .int .i64 0, .int .i64 0, .int .i64 0, .int .i64 0, .string ⟨#[]⟩, .slice none 0 0]), (.agg #[.int .i64 0, .int .i64 0, .string ⟨#[]⟩, .int .i64 0, .int .i64 0, .int .i64 0, .int .i64 0, .int .i64 0, .string ⟨#[]⟩, .slice none 0 0])] w3 fun e w' => e = .returned (.bool true) ∧ Below w3.heap.size w3 w') := Lib.hid hs0
    clear hs0
    go_wp2_with fail
    clear x0 x1 x2 x3 x4 x5 x6 x7 x8 x9
    clear y0 y1 y2 y3 y4 y5 y6 y7 y8 y9
    refine hs.out.mono ?_
    rintro e w4 ⟨rfl, hbb⟩
    replace hq := Lib.hid (hq.out.trans (hbb.mono hq.out.size))
    replace hR := Lib.hid (hR.out.up hbb)
    replace hX := Lib.hid (blk_below hX.out hbb)
    replace hY := Lib.hid (blk_below hY.out hbb)
    clear hbb
    go_wp2_with fail
    go_ret
    exact ⟨rfl, hq.out⟩
  | some q =>
    have h1 := Lib.hid (decode_some A n c b hn hl hnc hcm q hd w h)
    have h2 : Hid (∀ W, Rd W W.heap.size A b → Calls Try.prog 24 #[.slice A n c] W fun e w' => (∃ A9 c9, e = .returned (.tuple #[q.agg A9 c9, .int .i64 0]) ∧ Rd w' w'.heap.size A9 q.data) ∧ Below W.heap.size W w') := Lib.hid (fun W hW => (rdecode_any A n c b hn hnc W hW).mono (fun e w' hh => by obtain ⟨h1, h2⟩ := hh; rw [hd] at h2; exact ⟨h2, h1⟩))
    unfold Rc.agg at h1 h2
    have hR := Lib.hid h
    clear h
    replace hd := Lib.hid hd
    replace hn := Lib.hid hn
    go_enter Try.func5, Try.ntmps5
    go_wp2_with fail
    refine h1.out.mono ?_
    rintro e w1 ⟨A1, c1, rfl, hD1, hbb⟩
    replace hD1 := Lib.hid hD1
    replace hq := Lib.hid (hq.out.trans (hbb.mono hq.out.size))
    replace hR := Lib.hid (hR.out.up hbb)
    clear hbb
    have hbb := (Below.refl _ w1).alloc (Nat.le_refl _) (.cells #[.int .i64 q.kind, .int .i64 q.cart, .string (bs q.key), .int .i64 q.gen, .int .i64 q.group, .int .i64 q.groups, .int .i64 q.index, .int .i64 q.size, .string (bs q.sum), .slice A1 q.data.length c1] 34)
    have hX := Lib.hid (heap_alloc_new w1 (.cells #[.int .i64 q.kind, .int .i64 q.cart, .string (bs q.key), .int .i64 q.gen, .int .i64 q.group, .int .i64 q.groups, .int .i64 q.index, .int .i64 q.size, .string (bs q.sum), .slice A1 q.data.length c1] 34))
    replace hq := Lib.hid (hq.out.trans (hbb.mono hq.out.size))
    replace hR := Lib.hid (hR.out.up hbb)
    replace hD1 := Lib.hid (hD1.out.up hbb)
    clear hbb
    clear h1
    go_wp2_with fail
    refine (h2.out _ hR.out).mono ?_
    rintro e w2 ⟨⟨A2, c2, rfl, hD2⟩, hbb⟩
    replace hD2 := Lib.hid hD2
    replace hq := Lib.hid (hq.out.trans (hbb.mono hq.out.size))
    replace hR := Lib.hid (hR.out.up hbb)
    replace hD1 := Lib.hid (hD1.out.up hbb)
    replace hX := Lib.hid (blk_below hX.out hbb)
    clear hbb
    have hbb := (Below.refl _ w2).alloc (Nat.le_refl _) (.cells #[.int .i64 q.kind, .int .i64 q.cart, .string (bs q.key), .int .i64 q.gen, .int .i64 q.group, .int .i64 q.groups, .int .i64 q.index, .int .i64 q.size, .string (bs q.sum), .slice A2 q.data.length c2] 34)
    have hY := Lib.hid (heap_alloc_new w2 (.cells #[.int .i64 q.kind, .int .i64 q.cart, .string (bs q.key), .int .i64 q.gen, .int .i64 q.group, .int .i64 q.groups, .int .i64 q.index, .int .i64 q.size, .string (bs q.sum), .slice A2 q.data.length c2] 34))
    replace hq := Lib.hid (hq.out.trans (hbb.mono hq.out.size))
    replace hR := Lib.hid (hR.out.up hbb)
    replace hD1 := Lib.hid (hD1.out.up hbb)
    replace hX := Lib.hid (blk_below hX.out hbb)
    replace hD2 := Lib.hid (hD2.out.up hbb)
    clear hbb
    clear h2
    go_wp2_with fail
    refine (awake09_any _).mono ?_
    rintro e w3 ⟨rfl, hbb⟩
    replace hq := Lib.hid (hq.out.trans (hbb.mono hq.out.size))
    replace hR := Lib.hid (hR.out.up hbb)
    replace hD1 := Lib.hid (hD1.out.up hbb)
    replace hX := Lib.hid (blk_below hX.out hbb)
    replace hD2 := Lib.hid (hD2.out.up hbb)
    replace hY := Lib.hid (blk_below hY.out hbb)
    clear hbb
    have x0 := blk_cell (j := 0) (v := .int .i64 q.kind) hX.out rfl
    have x1 := blk_cell (j := 1) (v := .int .i64 q.cart) hX.out rfl
    have x2 := blk_cell (j := 2) (v := .string (bs q.key)) hX.out rfl
    have x3 := blk_cell (j := 3) (v := .int .i64 q.gen) hX.out rfl
    have x4 := blk_cell (j := 4) (v := .int .i64 q.group) hX.out rfl
    have x5 := blk_cell (j := 5) (v := .int .i64 q.groups) hX.out rfl
    have x6 := blk_cell (j := 6) (v := .int .i64 q.index) hX.out rfl
    have x7 := blk_cell (j := 7) (v := .int .i64 q.size) hX.out rfl
    have x8 := blk_cell (j := 8) (v := .string (bs q.sum)) hX.out rfl
    have x9 := blk_cell (j := 9) (v := .slice A1 q.data.length c1) hX.out rfl
    have y0 := blk_cell (j := 0) (v := .int .i64 q.kind) hY.out rfl
    have y1 := blk_cell (j := 1) (v := .int .i64 q.cart) hY.out rfl
    have y2 := blk_cell (j := 2) (v := .string (bs q.key)) hY.out rfl
    have y3 := blk_cell (j := 3) (v := .int .i64 q.gen) hY.out rfl
    have y4 := blk_cell (j := 4) (v := .int .i64 q.group) hY.out rfl
    have y5 := blk_cell (j := 5) (v := .int .i64 q.groups) hY.out rfl
    have y6 := blk_cell (j := 6) (v := .int .i64 q.index) hY.out rfl
    have y7 := blk_cell (j := 7) (v := .int .i64 q.size) hY.out rfl
    have y8 := blk_cell (j := 8) (v := .string (bs q.sum)) hY.out rfl
    have y9 := blk_cell (j := 9) (v := .slice A2 q.data.length c2) hY.out rfl
    have hs := rsame_any q q A1 A2 c1 c2 _ hD1.out hD2.out
    rw [show sameR q q = true from decide_eq_true rfl] at hs
    unfold Rc.agg at hs
    replace hs := Lib.hid hs
    go_wp2_with fail
    clear x0 x1 x2 x3 x4 x5 x6 x7 x8 x9
    clear y0 y1 y2 y3 y4 y5 y6 y7 y8 y9
    refine hs.out.mono ?_
    rintro e w4 ⟨rfl, hbb⟩
    replace hq := Lib.hid (hq.out.trans (hbb.mono hq.out.size))
    replace hR := Lib.hid (hR.out.up hbb)
    replace hD1 := Lib.hid (hD1.out.up hbb)
    replace hX := Lib.hid (blk_below hX.out hbb)
    replace hD2 := Lib.hid (hD2.out.up hbb)
    replace hY := Lib.hid (blk_below hY.out hbb)
    clear hbb
    go_wp2_with fail
    go_ret
    exact ⟨rfl, hq.out⟩
end Go.Proofs.Yticdkmnjolkacab
