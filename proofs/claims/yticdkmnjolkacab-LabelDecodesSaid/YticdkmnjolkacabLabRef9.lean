/- The reference's Decode walked: labels and tombstones. -/
import Derived.Test.YticdkmnjolkacabLabRef8
import Derived.Test.YticdkmnjolkacabLab13
import Derived.LoopTactic
namespace Go.Proofs.Yticdkmnjolkacab
set_option linter.unusedVariables false
set_option linter.unusedSimpArgs false
open Go Go.RowKit
def RDec (b : List UInt8) (w : World) (e : Ending) (w' : World) : Prop := Below w.heap.size w w' ∧ match decB b with
  | none => e = .returned (.tuple #[(.agg #[.int .i64 0, .int .i64 0, .string ⟨#[]⟩, .int .i64 0, .int .i64 0, .int .i64 0, .int .i64 0, .int .i64 0, .string ⟨#[]⟩, .slice none 0 0]), .int .i64 12])
  | some q => ∃ A9 c9, e = .returned (.tuple #[q.agg A9 c9, .int .i64 0]) ∧ Rd w' w'.heap.size A9 q.data
theorem RDec.no {b : List UInt8} {w : World} {w' : World} (hb : Below w.heap.size w w') (h : decB b = none) : RDec b w (.returned (.tuple #[(.agg #[.int .i64 0, .int .i64 0, .string ⟨#[]⟩, .int .i64 0, .int .i64 0, .int .i64 0, .int .i64 0, .int .i64 0, .string ⟨#[]⟩, .slice none 0 0]), .int .i64 12])) w' := ⟨hb, by rw [h]⟩
theorem RDec.yes {b : List UInt8} {w : World} {w' : World} (hb : Below w.heap.size w w') {q : Rc} (h : decB b = some q) {A9 : Option Addr} {c9 : Nat} (hd : Rd w' w'.heap.size A9 q.data) : RDec b w (.returned (.tuple #[q.agg A9 c9, .int .i64 0])) w' := ⟨hb, by rw [h]; exact ⟨A9, c9, rfl, hd⟩⟩
theorem b4_get (s : BitVec 32) (k : Nat) (hk : k < 4) : (bytes4 s)[k]? = some (lo8 (s >>> (8 * k))) := by
  match k, hk with
  | 0, _ => rfl
  | 1, _ => rfl
  | 2, _ => rfl
  | 3, _ => rfl
theorem seal_of {b : List UInt8} {q : Nat} (hk : b.length = q + 4) (h : ∀ t, t < 4 → b[q + t]? = (bytes4 (crc (b.take q)))[t]?) : sealS b q := by
  refine ⟨hk, List.ext_getElem? fun i => ?_⟩
  rw [List.getElem?_drop]
  by_cases hi : i < 4
  · exact h i hi
  · rw [List.getElem?_eq_none (by omega), List.getElem?_eq_none (by have : (bytes4 (crc (b.take q))).length = 4 := rfl; omega)]
theorem not_seal {b : List UInt8} {q t : Nat} {x : UInt8} (ht : t < 4) (hx : b[q + t]? = some x) (hne : x ≠ lo8 (crc (b.take q) >>> (8 * t))) : ¬ sealS b q := by
  intro ⟨_, h⟩
  have h2 := b4_get (crc (b.take q)) t ht
  rw [← h, List.getElem?_drop, hx] at h2
  injection h2 with h2
  exact hne h2
theorem all_succ {b : List UInt8} {s : BitVec 32} {Q j : Nat} (h : ∀ t, t < j → b[Q + t]? = (bytes4 s)[t]?) (hx : b[Q + j]? = (bytes4 s)[j]?) : ∀ t, t < j + 1 → b[Q + t]? = (bytes4 s)[t]? := by
  intro t ht
  by_cases e : t = j
  · rw [e]; exact hx
  · exact h t (by omega)
theorem numS_R64 (b : List UInt8) (st : Option Nat) : R64 (numS b st).1 := by
  have z0 : R64 0 := by unfold R64; decide
  cases st with
  | none => exact z0
  | some q =>
    cases hl : lead (b.drop q) with
    | none => simp only [numS, hl]; exact z0
    | some p =>
      obtain ⟨m, k⟩ := p
      simp only [numS, hl]
      split
      · unfold R64; simp only; omega
      · exact z0
theorem wordS_len (b : List UInt8) : (wordS b).1.length ≤ maxLen := by
  cases hs : wordS b with
  | mk s st =>
    cases st with
    | some q => have := (wordS_some hs).2.1; simp only; unfold maxLen; omega
    | none =>
      unfold wordS at hs
      split at hs
      · injection hs with h _; rw [← h]; exact Nat.zero_le _
      · injection hs with _ h; cases h
theorem Rd.alloc2 {w : World} {A : Option Addr} {l : List UInt8} (h : Rd w w.heap.size A l) (o1 o2 : Obj) : Rd ((w.alloc o1).alloc o2) ((w.alloc o1).alloc o2).heap.size A l :=
  (h.up ((Below.refl _ w).alloc (Nat.le_refl _) o1)).up ((Below.refl _ (w.alloc o1)).alloc (Nat.le_refl _) o2)
set_option maxHeartbeats 8000000 in
set_option maxRecDepth 20000 in
theorem rdecode_1 (ab ao k c : Nat) (b : List UInt8) (hk : b.length = k) (h6 : 6 ≤ k) (h256 : k ≤ 256) (hkc : k ≤ c) (h0 : b.getD 0 0 = 107) (hkb : b.getD 1 0 = 1) (w : World) (hab : ab < w.heap.size) (hr : Rd w w.heap.size (some ⟨ab, ao, none⟩) b) :
    Calls Try.prog 24 #[.slice (some ⟨ab, ao, none⟩) k c] w (RDec b w) := by
  obtain ⟨kb, hkb2⟩ : ∃ kb : UInt8, kb = 1 := ⟨_, rfl⟩
  rw [← hkb2] at hkb
  have hkv : U kb = 1 := by rw [hkb2]; rfl
  have hda := decAs_1 (by omega) h0 (show U (b.getD 1 0) = 1 by rw [hkb]; exact hkv)
  obtain ⟨n, st, hns⟩ : ∃ n st, numS b (some 2) = (n, st) := ⟨_, _, rfl⟩
  have hso : StOk st k := by have := StOk.num hk (st := some 2) (k := k) (fun q e => by injection e with e; omega); rw [hns] at this; exact this
  have hnr : R64 n := by have := numS_R64 b (some 2); rw [hns] at this; exact this
  have hok : ((Rc.mk 1 n [] 0 0 0 0 0 [] [])).Ok := gs1_ok n hnr 1 (by unfold R64; decide)
  unfold DecAs at hda
  rw [hns] at hda
  have hRA := Lib.hid hr
  have h1 : b[1]? = some kb := by rw [← hkb]; rw [List.getElem?_eq_getElem (by omega)]; simp [List.getElem?_eq_getElem (show 1 < b.length by omega)]
  have h00 : b[0]? = some 107 := by rw [← h0]; rw [List.getElem?_eq_getElem (by omega)]; simp [List.getElem?_eq_getElem (show 0 < b.length by omega)]
  have hb1 := (Below.refl w.heap.size w).alloc (Nat.le_refl _) (.cells #[.int .i64 0, .int .i64 0, .string ⟨#[]⟩, .int .i64 0, .int .i64 0, .int .i64 0, .int .i64 0, .int .i64 0, .string ⟨#[]⟩, .slice none 0 0] 34)
  have hR1 := hr.up hb1
  obtain ⟨ad', ead, -, c0⟩ := hR1.get h00
  injection ead with ead
  subst ead
  rw [add_of, Nat.add_zero, show U 107 = 107 from rfl] at c0
  obtain ⟨ad', ead, -, c1⟩ := hR1.get h1
  injection ead with ead
  subst ead
  rw [add_of, hkv] at c1
  have d6 : decide ((k : Int) < 6) = false := decide_eq_false (by omega)
  have d256 : decide ((256 : Int) < (k : Int)) = false := decide_eq_false (by omega)
  have i0 : (0 : Int) < (k : Int) := by omega
  have i1 : (1 : Int) < (k : Int) := by omega
  have hq := Lib.hid (hb1.alloc hb1.size (.cells #[.int .i64 1, .int .i64 0, .string ⟨#[]⟩, .int .i64 0, .int .i64 0, .int .i64 0, .int .i64 0, .int .i64 0, .string ⟨#[]⟩, .slice none 0 0] 34))
  have hR := Lib.hid (hr.up hq.out)
  clear h1 h00 hb1 hR1 hr
  replace hk := Lib.hid hk
  replace hkb := Lib.hid hkb
  replace h0 := Lib.hid h0
  replace hkb2 := Lib.hid hkb2
  have hn : Hid (∀ W, Rd W W.heap.size (some ⟨ab, ao, none⟩) b → Calls Try.prog 45 #[.slice (some ⟨ab, ao, none⟩) k c, .int .i64 2] W fun e w' => e = .returned (.tuple #[.int .i64 n, .int .i64 (atv st)]) ∧ W = w') := Lib.hid (fun W hW => by have := rnumber_any (some ⟨ab, ao, none⟩) k c b hk.out (by omega) (some 2) (fun q e => by injection e with e; omega) W hW; rw [hns] at this; exact this)
  replace hns := Lib.hid hns
  replace hkv := Lib.hid hkv
  cases st with
  | none =>
    have hdn : Hid (decB b = none) := Lib.hid (by rw [hda])
    clear hda
    go_enter Try.func24, Try.ntmps24
    go_wp2_with fail
    refine (hn.out _ hR.out).mono ?_
    rintro e w4 ⟨rfl, rfl⟩
    rw [show atv none = -1 from rfl]
    go_wp2_with fail
    have hz := blk_alloc (heap_alloc_new w (.cells #[.int .i64 0, .int .i64 0, .string ⟨#[]⟩, .int .i64 0, .int .i64 0, .int .i64 0, .int .i64 0, .int .i64 0, .string ⟨#[]⟩, .slice none 0 0] 34)) (.cells #[.int .i64 1, .int .i64 n, .string ⟨#[]⟩, .int .i64 0, .int .i64 0, .int .i64 0, .int .i64 0, .int .i64 0, .string ⟨#[]⟩, .slice none 0 0] 34)
    have hb1 := (Below.refl w.heap.size w).alloc (Nat.le_refl _) (.cells #[.int .i64 0, .int .i64 0, .string ⟨#[]⟩, .int .i64 0, .int .i64 0, .int .i64 0, .int .i64 0, .int .i64 0, .string ⟨#[]⟩, .slice none 0 0] 34)
    have hbz := hb1.alloc hb1.size (.cells #[.int .i64 1, .int .i64 n, .string ⟨#[]⟩, .int .i64 0, .int .i64 0, .int .i64 0, .int .i64 0, .int .i64 0, .string ⟨#[]⟩, .slice none 0 0] 34)
    obtain ⟨w7, hw7⟩ : ∃ w7, ((w.alloc (.cells #[.int .i64 0, .int .i64 0, .string ⟨#[]⟩, .int .i64 0, .int .i64 0, .int .i64 0, .int .i64 0, .int .i64 0, .string ⟨#[]⟩, .slice none 0 0] 34)).alloc (.cells #[.int .i64 1, .int .i64 n, .string ⟨#[]⟩, .int .i64 0, .int .i64 0, .int .i64 0, .int .i64 0, .int .i64 0, .string ⟨#[]⟩, .slice none 0 0] 34)) = w7 := ⟨_, rfl⟩
    rw [hw7] at hz hbz ⊢
    replace hw7 := Lib.hid hw7
    have r0 := blk_cell (j := 0) (v := .int .i64 0) hz rfl
    have r1 := blk_cell (j := 1) (v := .int .i64 0) hz rfl
    have r2 := blk_cell (j := 2) (v := .string ⟨#[]⟩) hz rfl
    have r3 := blk_cell (j := 3) (v := .int .i64 0) hz rfl
    have r4 := blk_cell (j := 4) (v := .int .i64 0) hz rfl
    have r5 := blk_cell (j := 5) (v := .int .i64 0) hz rfl
    have r6 := blk_cell (j := 6) (v := .int .i64 0) hz rfl
    have r7 := blk_cell (j := 7) (v := .int .i64 0) hz rfl
    have r8 := blk_cell (j := 8) (v := .string ⟨#[]⟩) hz rfl
    have r9 := blk_cell (j := 9) (v := .slice none 0 0) hz rfl
    exact bodyPost_ret (v := .tuple #[(.agg #[.int .i64 0, .int .i64 0, .string ⟨#[]⟩, .int .i64 0, .int .i64 0, .int .i64 0, .int .i64 0, .int .i64 0, .string ⟨#[]⟩, .slice none 0 0]), .int .i64 12]) (by simp [results, Try.results24, go_sem, r0, r1, r2, r3, r4, r5, r6, r7, r8, r9]) rfl (RDec.no hbz hdn.out)
  | some Q =>
    have hQk : Q ≤ k := hso Q rfl
    simp only at hda
    by_cases hkq : k = Q + 4
    · have hne : ((k : Int) != (Q : Int) + 4) = false := by simp; omega
      have hqc : Q ≤ c := by omega
      have h4k : Q + 4 = k := hkq.symm
      replace h4k := Lib.hid h4k
      replace hkq := Lib.hid hkq
      have hdec := Lib.hid hda
      clear hda
      go_enter Try.func24, Try.ntmps24
      go_wp2_with fail
      refine (hn.out _ hR.out).mono ?_
      rintro e w4 ⟨rfl, rfl⟩
      rw [show atv (some Q) = (Q : Int) from rfl]
      have hZ0 := blk_alloc (heap_alloc_new w (.cells #[.int .i64 0, .int .i64 0, .string ⟨#[]⟩, .int .i64 0, .int .i64 0, .int .i64 0, .int .i64 0, .int .i64 0, .string ⟨#[]⟩, .slice none 0 0] 34)) (.cells #[.int .i64 1, .int .i64 n, .string ⟨#[]⟩, .int .i64 0, .int .i64 0, .int .i64 0, .int .i64 0, .int .i64 0, .string ⟨#[]⟩, .slice none 0 0] 34)
      have hF0 := heap_alloc_new (w.alloc (.cells #[.int .i64 0, .int .i64 0, .string ⟨#[]⟩, .int .i64 0, .int .i64 0, .int .i64 0, .int .i64 0, .int .i64 0, .string ⟨#[]⟩, .slice none 0 0] 34)) (.cells #[.int .i64 1, .int .i64 n, .string ⟨#[]⟩, .int .i64 0, .int .i64 0, .int .i64 0, .int .i64 0, .int .i64 0, .string ⟨#[]⟩, .slice none 0 0] 34)
      have hsz : (w.alloc (.cells #[.int .i64 0, .int .i64 0, .string ⟨#[]⟩, .int .i64 0, .int .i64 0, .int .i64 0, .int .i64 0, .int .i64 0, .string ⟨#[]⟩, .slice none 0 0] 34)).heap.size = w.heap.size + 1 := by simp
      rw [hsz] at hF0
      have hq0 := (Below.refl w.heap.size w).alloc (Nat.le_refl _) (.cells #[.int .i64 0, .int .i64 0, .string ⟨#[]⟩, .int .i64 0, .int .i64 0, .int .i64 0, .int .i64 0, .int .i64 0, .string ⟨#[]⟩, .slice none 0 0] 34)
      replace hq0 := hq0.alloc hq0.size (.cells #[.int .i64 1, .int .i64 n, .string ⟨#[]⟩, .int .i64 0, .int .i64 0, .int .i64 0, .int .i64 0, .int .i64 0, .string ⟨#[]⟩, .slice none 0 0] 34)
      have hR0 := hRA.out.up hq0
      obtain ⟨M, hM⟩ : ∃ M, w.heap.size + 1 = M := ⟨_, rfl⟩
      rw [hM] at hF0
      obtain ⟨W4, hW4⟩ : ∃ W4, ((w.alloc (.cells #[.int .i64 0, .int .i64 0, .string ⟨#[]⟩, .int .i64 0, .int .i64 0, .int .i64 0, .int .i64 0, .int .i64 0, .string ⟨#[]⟩, .slice none 0 0] 34)).alloc (.cells #[.int .i64 1, .int .i64 n, .string ⟨#[]⟩, .int .i64 0, .int .i64 0, .int .i64 0, .int .i64 0, .int .i64 0, .string ⟨#[]⟩, .slice none 0 0] 34)) = W4 := ⟨_, rfl⟩
      rw [hW4] at hZ0 hF0 hq0 hR0
      have hZ := Lib.hid hZ0
      have hF : Hid (W4.heap[M]? = some (.cells #[.int .i64 1, .int .i64 n, .string ⟨#[]⟩, .int .i64 0, .int .i64 0, .int .i64 0, .int .i64 0, .int .i64 0, .string ⟨#[]⟩, .slice none 0 0] 34 (0, 0))) := Lib.hid hF0
      replace hR := Lib.hid hR0
      replace hq := Lib.hid hq0
      have hD : Hid (Rd W4 W4.heap.size none []) := Lib.hid Rd.nil_
      clear hZ0 hF0 hq0 hR0 hsz
      replace hW4 := Lib.hid hW4
      replace hM := Lib.hid hM
      cases hg : goodB (Rc.mk 1 n [] 0 0 0 0 0 [] []) with
      | false =>
        have hgd := rgood_any (Rc.mk 1 n [] 0 0 0 0 0 [] []) none 0 hok _ hD.out
        rw [hg] at hgd
        replace hgd : Hid (Calls Try.prog 22 #[(.agg #[.int .i64 1, .int .i64 n, .string ⟨#[]⟩, .int .i64 0, .int .i64 0, .int .i64 0, .int .i64 0, .int .i64 0, .string ⟨#[]⟩, .slice none 0 0])] W4 fun e w' => e = .returned (.bool false) ∧ Below W4.heap.size W4 w') := Lib.hid hgd
        have hdn : Hid (decB b = none) := Lib.hid (by rw [hdec.out, if_neg (by rw [hg]; simp)])
        replace hg := Lib.hid hg
        have x0 := blk_cell (j := 0) (v := .int .i64 1) hF.out rfl
        have x1 := blk_cell (j := 1) (v := .int .i64 n) hF.out rfl
        have x2 := blk_cell (j := 2) (v := .string ⟨#[]⟩) hF.out rfl
        have x3 := blk_cell (j := 3) (v := .int .i64 0) hF.out rfl
        have x4 := blk_cell (j := 4) (v := .int .i64 0) hF.out rfl
        have x5 := blk_cell (j := 5) (v := .int .i64 0) hF.out rfl
        have x6 := blk_cell (j := 6) (v := .int .i64 0) hF.out rfl
        have x7 := blk_cell (j := 7) (v := .int .i64 0) hF.out rfl
        have x8 := blk_cell (j := 8) (v := .string ⟨#[]⟩) hF.out rfl
        have x9 := blk_cell (j := 9) (v := .slice none 0 0) hF.out rfl
        go_wp2_with fail
        clear x0 x1 x2 x3 x4 x5 x6 x7 x8 x9
        rw [hW4.out]
        try rw [hM.out]
        refine hgd.out.mono ?_
        rintro e w5 ⟨rfl, hbb⟩
        replace hZ := Lib.hid (blk_below hZ.out hbb)
        replace hF := Lib.hid (blk_below hF.out hbb)
        replace hR := Lib.hid (hR.out.up hbb)
        replace hD := Lib.hid (hD.out.up hbb)
        replace hq := Lib.hid (hq.out.trans (hbb.mono hq.out.size))
        clear hbb
        clear hgd
        have z0 := blk_cell (j := 0) (v := .int .i64 0) hZ.out rfl
        have f0 := blk_free hZ.out 0
        have z1 := blk_cell (j := 1) (v := .int .i64 0) hZ.out rfl
        have f1 := blk_free hZ.out 1
        have z2 := blk_cell (j := 2) (v := .string ⟨#[]⟩) hZ.out rfl
        have f2 := blk_free hZ.out 2
        have z3 := blk_cell (j := 3) (v := .int .i64 0) hZ.out rfl
        have f3 := blk_free hZ.out 3
        have z4 := blk_cell (j := 4) (v := .int .i64 0) hZ.out rfl
        have f4 := blk_free hZ.out 4
        have z5 := blk_cell (j := 5) (v := .int .i64 0) hZ.out rfl
        have f5 := blk_free hZ.out 5
        have z6 := blk_cell (j := 6) (v := .int .i64 0) hZ.out rfl
        have f6 := blk_free hZ.out 6
        have z7 := blk_cell (j := 7) (v := .int .i64 0) hZ.out rfl
        have f7 := blk_free hZ.out 7
        have z8 := blk_cell (j := 8) (v := .string ⟨#[]⟩) hZ.out rfl
        have f8 := blk_free hZ.out 8
        have z9 := blk_cell (j := 9) (v := .slice none 0 0) hZ.out rfl
        have f9 := blk_free hZ.out 9
        go_wp2_with fail
        have hz := blk_set10 hZ.out (.int .i64 0) (.int .i64 0) (.string ⟨#[]⟩) (.int .i64 0) (.int .i64 0) (.int .i64 0) (.int .i64 0) (.int .i64 0) (.string ⟨#[]⟩) (.slice none 0 0)
        have hbz := setLo10 hq.out (Nat.le_refl w.heap.size) (.int .i64 0) (.int .i64 0) (.string ⟨#[]⟩) (.int .i64 0) (.int .i64 0) (.int .i64 0) (.int .i64 0) (.int .i64 0) (.string ⟨#[]⟩) (.slice none 0 0)
        obtain ⟨w10, hw10⟩ : ∃ w10, ((((((((((w5.setCell ⟨w.heap.size, 0, none⟩ (.int .i64 0)).setCell ⟨w.heap.size, 1, none⟩ (.int .i64 0)).setCell ⟨w.heap.size, 2, none⟩ (.string ⟨#[]⟩)).setCell ⟨w.heap.size, 3, none⟩ (.int .i64 0)).setCell ⟨w.heap.size, 4, none⟩ (.int .i64 0)).setCell ⟨w.heap.size, 5, none⟩ (.int .i64 0)).setCell ⟨w.heap.size, 6, none⟩ (.int .i64 0)).setCell ⟨w.heap.size, 7, none⟩ (.int .i64 0)).setCell ⟨w.heap.size, 8, none⟩ (.string ⟨#[]⟩)).setCell ⟨w.heap.size, 9, none⟩ (.slice none 0 0)) = w10 := ⟨_, rfl⟩
        rw [hw10] at hz hbz ⊢
        replace hw10 := Lib.hid hw10
        have r0 := blk_cell (j := 0) (v := .int .i64 0) hz rfl
        have r1 := blk_cell (j := 1) (v := .int .i64 0) hz rfl
        have r2 := blk_cell (j := 2) (v := .string ⟨#[]⟩) hz rfl
        have r3 := blk_cell (j := 3) (v := .int .i64 0) hz rfl
        have r4 := blk_cell (j := 4) (v := .int .i64 0) hz rfl
        have r5 := blk_cell (j := 5) (v := .int .i64 0) hz rfl
        have r6 := blk_cell (j := 6) (v := .int .i64 0) hz rfl
        have r7 := blk_cell (j := 7) (v := .int .i64 0) hz rfl
        have r8 := blk_cell (j := 8) (v := .string ⟨#[]⟩) hz rfl
        have r9 := blk_cell (j := 9) (v := .slice none 0 0) hz rfl
        exact bodyPost_ret (v := .tuple #[(.agg #[.int .i64 0, .int .i64 0, .string ⟨#[]⟩, .int .i64 0, .int .i64 0, .int .i64 0, .int .i64 0, .int .i64 0, .string ⟨#[]⟩, .slice none 0 0]), .int .i64 12]) (by simp [results, Try.results24, go_sem, r0, r1, r2, r3, r4, r5, r6, r7, r8, r9]) rfl (RDec.no hbz hdn.out)
      | true =>
        have hgd := rgood_any (Rc.mk 1 n [] 0 0 0 0 0 [] []) none 0 hok _ hD.out
        rw [hg] at hgd
        replace hgd : Hid (Calls Try.prog 22 #[(.agg #[.int .i64 1, .int .i64 n, .string ⟨#[]⟩, .int .i64 0, .int .i64 0, .int .i64 0, .int .i64 0, .int .i64 0, .string ⟨#[]⟩, .slice none 0 0])] W4 fun e w' => e = .returned (.bool true) ∧ Below W4.heap.size W4 w') := Lib.hid hgd
        replace hg := Lib.hid hg
        have x0 := blk_cell (j := 0) (v := .int .i64 1) hF.out rfl
        have x1 := blk_cell (j := 1) (v := .int .i64 n) hF.out rfl
        have x2 := blk_cell (j := 2) (v := .string ⟨#[]⟩) hF.out rfl
        have x3 := blk_cell (j := 3) (v := .int .i64 0) hF.out rfl
        have x4 := blk_cell (j := 4) (v := .int .i64 0) hF.out rfl
        have x5 := blk_cell (j := 5) (v := .int .i64 0) hF.out rfl
        have x6 := blk_cell (j := 6) (v := .int .i64 0) hF.out rfl
        have x7 := blk_cell (j := 7) (v := .int .i64 0) hF.out rfl
        have x8 := blk_cell (j := 8) (v := .string ⟨#[]⟩) hF.out rfl
        have x9 := blk_cell (j := 9) (v := .slice none 0 0) hF.out rfl
        go_wp2_with fail
        clear x0 x1 x2 x3 x4 x5 x6 x7 x8 x9
        rw [hW4.out]
        try rw [hM.out]
        refine hgd.out.mono ?_
        rintro e w5 ⟨rfl, hbb⟩
        replace hZ := Lib.hid (blk_below hZ.out hbb)
        replace hF := Lib.hid (blk_below hF.out hbb)
        replace hR := Lib.hid (hR.out.up hbb)
        replace hD := Lib.hid (hD.out.up hbb)
        replace hq := Lib.hid (hq.out.trans (hbb.mono hq.out.size))
        clear hbb
        clear hgd
        have hRt := Lib.hid (hR.out.take Q (by have := hk.out; have := h4k.out; omega))
        have hlt : Hid ((b.take Q).length = Q) := Lib.hid (by rw [List.length_take]; have := hk.out; have := h4k.out; omega)
        go_wp2_with fail
        refine (rsum_at _ Q c _ hlt.out _ hRt.out (by omega)).mono ?_
        rintro e wq ⟨rfl, rfl⟩
        clear hRt
        obtain ⟨sm, hsm⟩ : ∃ sm, crc (b.take Q) = sm := ⟨_, rfl⟩
        rw [hsm]
        replace hsm := Lib.hid hsm
        go_wp2_with fail
        go_loop [7] (fun i => ∃ j : Nat, j ≤ 4 ∧ i = .int .i64 j ∧ Hid (∀ t, t < j → b[Q + t]? = (bytes4 sm)[t]?)) (fun i => 4 - (intOf i).toNat)
        case atStart => exact ⟨0, Nat.zero_le _, rfl, Lib.hid (fun t ht => absurd ht (by omega))⟩
        case round =>
          obtain ⟨j, hj, rfl, hall⟩ := hrel
          by_cases hlt4 : j < 4
          · obtain ⟨x, hx⟩ : ∃ x, b[Q + j]? = some x := ⟨b[Q + j]'(by have := hk.out; have := h4k.out; omega), List.getElem?_eq_getElem (by have := hk.out; have := h4k.out; omega)⟩
            obtain ⟨ad', ead, -, cx⟩ := hR.out.get hx
            injection ead with ead
            subst ead
            rw [add_of] at cx
            have hi1 : (Q : Int) + (j : Int) < (k : Int) := by have := h4k.out; omega
            by_cases hxe : x = lo8 (sm >>> (8 * j))
            · have hall2 : Hid (∀ t, t < j + 1 → b[Q + t]? = (bytes4 sm)[t]?) := Lib.hid (all_succ hall.out (by rw [hx, b4_get sm j hlt4, hxe]))
              replace hx := Lib.hid hx
              have hxb : (x != lo8 (sm >>> (8 * j))) = false := by rw [hxe]; simp
              replace hxe := Lib.hid hxe
              go_wp2
              go_round
              case rel => exact ⟨j + 1, by omega, by go_num, hall2⟩
              case measure => simp [intOf]; omega
            · have hdn : Hid (decB b = none) := Lib.hid (by rw [hdec.out, if_neg (fun hh => not_seal hlt4 hx (by rw [hsm.out]; exact hxe) hh.2)])
              have hxb : (x != lo8 (sm >>> (8 * j))) = true := by simpa using hxe
              replace hx := Lib.hid hx
              replace hxe := Lib.hid hxe
              have z0 := blk_cell (j := 0) (v := .int .i64 0) hZ.out rfl
              have f0 := blk_free hZ.out 0
              have z1 := blk_cell (j := 1) (v := .int .i64 0) hZ.out rfl
              have f1 := blk_free hZ.out 1
              have z2 := blk_cell (j := 2) (v := .string ⟨#[]⟩) hZ.out rfl
              have f2 := blk_free hZ.out 2
              have z3 := blk_cell (j := 3) (v := .int .i64 0) hZ.out rfl
              have f3 := blk_free hZ.out 3
              have z4 := blk_cell (j := 4) (v := .int .i64 0) hZ.out rfl
              have f4 := blk_free hZ.out 4
              have z5 := blk_cell (j := 5) (v := .int .i64 0) hZ.out rfl
              have f5 := blk_free hZ.out 5
              have z6 := blk_cell (j := 6) (v := .int .i64 0) hZ.out rfl
              have f6 := blk_free hZ.out 6
              have z7 := blk_cell (j := 7) (v := .int .i64 0) hZ.out rfl
              have f7 := blk_free hZ.out 7
              have z8 := blk_cell (j := 8) (v := .string ⟨#[]⟩) hZ.out rfl
              have f8 := blk_free hZ.out 8
              have z9 := blk_cell (j := 9) (v := .slice none 0 0) hZ.out rfl
              have f9 := blk_free hZ.out 9
              go_wp2_with fail
              have hz := blk_set10 hZ.out (.int .i64 0) (.int .i64 0) (.string ⟨#[]⟩) (.int .i64 0) (.int .i64 0) (.int .i64 0) (.int .i64 0) (.int .i64 0) (.string ⟨#[]⟩) (.slice none 0 0)
              have hbz := setLo10 hq.out (Nat.le_refl w.heap.size) (.int .i64 0) (.int .i64 0) (.string ⟨#[]⟩) (.int .i64 0) (.int .i64 0) (.int .i64 0) (.int .i64 0) (.int .i64 0) (.string ⟨#[]⟩) (.slice none 0 0)
              obtain ⟨w10, hw10⟩ : ∃ w10, ((((((((((w5.setCell ⟨w.heap.size, 0, none⟩ (.int .i64 0)).setCell ⟨w.heap.size, 1, none⟩ (.int .i64 0)).setCell ⟨w.heap.size, 2, none⟩ (.string ⟨#[]⟩)).setCell ⟨w.heap.size, 3, none⟩ (.int .i64 0)).setCell ⟨w.heap.size, 4, none⟩ (.int .i64 0)).setCell ⟨w.heap.size, 5, none⟩ (.int .i64 0)).setCell ⟨w.heap.size, 6, none⟩ (.int .i64 0)).setCell ⟨w.heap.size, 7, none⟩ (.int .i64 0)).setCell ⟨w.heap.size, 8, none⟩ (.string ⟨#[]⟩)).setCell ⟨w.heap.size, 9, none⟩ (.slice none 0 0)) = w10 := ⟨_, rfl⟩
              rw [hw10] at hz hbz ⊢
              replace hw10 := Lib.hid hw10
              have r0 := blk_cell (j := 0) (v := .int .i64 0) hz rfl
              have r1 := blk_cell (j := 1) (v := .int .i64 0) hz rfl
              have r2 := blk_cell (j := 2) (v := .string ⟨#[]⟩) hz rfl
              have r3 := blk_cell (j := 3) (v := .int .i64 0) hz rfl
              have r4 := blk_cell (j := 4) (v := .int .i64 0) hz rfl
              have r5 := blk_cell (j := 5) (v := .int .i64 0) hz rfl
              have r6 := blk_cell (j := 6) (v := .int .i64 0) hz rfl
              have r7 := blk_cell (j := 7) (v := .int .i64 0) hz rfl
              have r8 := blk_cell (j := 8) (v := .string ⟨#[]⟩) hz rfl
              have r9 := blk_cell (j := 9) (v := .slice none 0 0) hz rfl
              exact bodyPost_ret (v := .tuple #[(.agg #[.int .i64 0, .int .i64 0, .string ⟨#[]⟩, .int .i64 0, .int .i64 0, .int .i64 0, .int .i64 0, .int .i64 0, .string ⟨#[]⟩, .slice none 0 0]), .int .i64 12]) (by simp [results, Try.results24, go_sem, r0, r1, r2, r3, r4, r5, r6, r7, r8, r9]) rfl (RDec.no hbz hdn.out)
          · obtain rfl : j = 4 := by omega
            have hdy : Hid (decB b = some (Rc.mk 1 n [] 0 0 0 0 0 [] [])) := Lib.hid (by rw [hdec.out, if_pos ⟨hg.out, (seal_of (by have := hk.out; have := h4k.out; omega) (fun t ht => by rw [hsm.out]; exact hall.out t ht))⟩])
            have z0 := blk_cell (j := 0) (v := .int .i64 0) hZ.out rfl
            have f0 := blk_free hZ.out 0
            have z1 := blk_cell (j := 1) (v := .int .i64 0) hZ.out rfl
            have f1 := blk_free hZ.out 1
            have z2 := blk_cell (j := 2) (v := .string ⟨#[]⟩) hZ.out rfl
            have f2 := blk_free hZ.out 2
            have z3 := blk_cell (j := 3) (v := .int .i64 0) hZ.out rfl
            have f3 := blk_free hZ.out 3
            have z4 := blk_cell (j := 4) (v := .int .i64 0) hZ.out rfl
            have f4 := blk_free hZ.out 4
            have z5 := blk_cell (j := 5) (v := .int .i64 0) hZ.out rfl
            have f5 := blk_free hZ.out 5
            have z6 := blk_cell (j := 6) (v := .int .i64 0) hZ.out rfl
            have f6 := blk_free hZ.out 6
            have z7 := blk_cell (j := 7) (v := .int .i64 0) hZ.out rfl
            have f7 := blk_free hZ.out 7
            have z8 := blk_cell (j := 8) (v := .string ⟨#[]⟩) hZ.out rfl
            have f8 := blk_free hZ.out 8
            have z9 := blk_cell (j := 9) (v := .slice none 0 0) hZ.out rfl
            have f9 := blk_free hZ.out 9
            have y0 := blk_cell (j := 0) (v := .int .i64 1) hF.out rfl
            have y1 := blk_cell (j := 1) (v := .int .i64 n) hF.out rfl
            have y2 := blk_cell (j := 2) (v := .string ⟨#[]⟩) hF.out rfl
            have y3 := blk_cell (j := 3) (v := .int .i64 0) hF.out rfl
            have y4 := blk_cell (j := 4) (v := .int .i64 0) hF.out rfl
            have y5 := blk_cell (j := 5) (v := .int .i64 0) hF.out rfl
            have y6 := blk_cell (j := 6) (v := .int .i64 0) hF.out rfl
            have y7 := blk_cell (j := 7) (v := .int .i64 0) hF.out rfl
            have y8 := blk_cell (j := 8) (v := .string ⟨#[]⟩) hF.out rfl
            have y9 := blk_cell (j := 9) (v := .slice none 0 0) hF.out rfl
            go_wp2_with fail
            clear y0 y1 y2 y3 y4 y5 y6 y7 y8 y9
            clear z0 f0 z1 f1 z2 f2 z3 f3 z4 f4 z5 f5 z6 f6 z7 f7 z8 f8 z9 f9
            have hz := blk_set10 hZ.out (.int .i64 1) (.int .i64 n) (.string ⟨#[]⟩) (.int .i64 0) (.int .i64 0) (.int .i64 0) (.int .i64 0) (.int .i64 0) (.string ⟨#[]⟩) (.slice none 0 0)
            have hbz := setLo10 hq.out (Nat.le_refl w.heap.size) (.int .i64 1) (.int .i64 n) (.string ⟨#[]⟩) (.int .i64 0) (.int .i64 0) (.int .i64 0) (.int .i64 0) (.int .i64 0) (.string ⟨#[]⟩) (.slice none 0 0)
            have hdz := hD.out.recSet10 hZ.out (by rfl) (.int .i64 1) (.int .i64 n) (.string ⟨#[]⟩) (.int .i64 0) (.int .i64 0) (.int .i64 0) (.int .i64 0) (.int .i64 0) (.string ⟨#[]⟩) (.slice none 0 0)
            have hsz : ((((((((((w5.setCell ⟨w.heap.size, 0, none⟩ (.int .i64 1)).setCell ⟨w.heap.size, 1, none⟩ (.int .i64 n)).setCell ⟨w.heap.size, 2, none⟩ (.string ⟨#[]⟩)).setCell ⟨w.heap.size, 3, none⟩ (.int .i64 0)).setCell ⟨w.heap.size, 4, none⟩ (.int .i64 0)).setCell ⟨w.heap.size, 5, none⟩ (.int .i64 0)).setCell ⟨w.heap.size, 6, none⟩ (.int .i64 0)).setCell ⟨w.heap.size, 7, none⟩ (.int .i64 0)).setCell ⟨w.heap.size, 8, none⟩ (.string ⟨#[]⟩)).setCell ⟨w.heap.size, 9, none⟩ (.slice none 0 0)).heap.size = w5.heap.size := by simp
            obtain ⟨w10, hw10⟩ : ∃ w10, ((((((((((w5.setCell ⟨w.heap.size, 0, none⟩ (.int .i64 1)).setCell ⟨w.heap.size, 1, none⟩ (.int .i64 n)).setCell ⟨w.heap.size, 2, none⟩ (.string ⟨#[]⟩)).setCell ⟨w.heap.size, 3, none⟩ (.int .i64 0)).setCell ⟨w.heap.size, 4, none⟩ (.int .i64 0)).setCell ⟨w.heap.size, 5, none⟩ (.int .i64 0)).setCell ⟨w.heap.size, 6, none⟩ (.int .i64 0)).setCell ⟨w.heap.size, 7, none⟩ (.int .i64 0)).setCell ⟨w.heap.size, 8, none⟩ (.string ⟨#[]⟩)).setCell ⟨w.heap.size, 9, none⟩ (.slice none 0 0)) = w10 := ⟨_, rfl⟩
            rw [hw10] at hz hbz hdz hsz ⊢
            rw [← hsz] at hdz
            replace hw10 := Lib.hid hw10
            have r0 := blk_cell (j := 0) (v := .int .i64 1) hz rfl
            have r1 := blk_cell (j := 1) (v := .int .i64 n) hz rfl
            have r2 := blk_cell (j := 2) (v := .string ⟨#[]⟩) hz rfl
            have r3 := blk_cell (j := 3) (v := .int .i64 0) hz rfl
            have r4 := blk_cell (j := 4) (v := .int .i64 0) hz rfl
            have r5 := blk_cell (j := 5) (v := .int .i64 0) hz rfl
            have r6 := blk_cell (j := 6) (v := .int .i64 0) hz rfl
            have r7 := blk_cell (j := 7) (v := .int .i64 0) hz rfl
            have r8 := blk_cell (j := 8) (v := .string ⟨#[]⟩) hz rfl
            have r9 := blk_cell (j := 9) (v := .slice none 0 0) hz rfl
            exact bodyPost_ret (v := .tuple #[(.agg #[.int .i64 1, .int .i64 n, .string ⟨#[]⟩, .int .i64 0, .int .i64 0, .int .i64 0, .int .i64 0, .int .i64 0, .string ⟨#[]⟩, .slice none 0 0]), .int .i64 0]) (by simp [results, Try.results24, go_sem, r0, r1, r2, r3, r4, r5, r6, r7, r8, r9]) rfl (RDec.yes (A9 := none) (c9 := 0) hbz hdy.out hdz)
    · have hne : ((k : Int) != (Q : Int) + 4) = true := by simp; omega
      have hdn : Hid (decB b = none) := Lib.hid (by rw [hda, if_neg (fun hh => hkq (by have := hh.2.1; have := hk.out; omega))])
      replace hda := Lib.hid hda
      replace hkq := Lib.hid hkq
      go_enter Try.func24, Try.ntmps24
      go_wp2_with fail
      refine (hn.out _ hR.out).mono ?_
      rintro e w4 ⟨rfl, rfl⟩
      rw [show atv (some Q) = (Q : Int) from rfl]
      go_wp2_with fail
      have hz := blk_alloc (heap_alloc_new w (.cells #[.int .i64 0, .int .i64 0, .string ⟨#[]⟩, .int .i64 0, .int .i64 0, .int .i64 0, .int .i64 0, .int .i64 0, .string ⟨#[]⟩, .slice none 0 0] 34)) (.cells #[.int .i64 1, .int .i64 n, .string ⟨#[]⟩, .int .i64 0, .int .i64 0, .int .i64 0, .int .i64 0, .int .i64 0, .string ⟨#[]⟩, .slice none 0 0] 34)
      have hb1 := (Below.refl w.heap.size w).alloc (Nat.le_refl _) (.cells #[.int .i64 0, .int .i64 0, .string ⟨#[]⟩, .int .i64 0, .int .i64 0, .int .i64 0, .int .i64 0, .int .i64 0, .string ⟨#[]⟩, .slice none 0 0] 34)
      have hbz := hb1.alloc hb1.size (.cells #[.int .i64 1, .int .i64 n, .string ⟨#[]⟩, .int .i64 0, .int .i64 0, .int .i64 0, .int .i64 0, .int .i64 0, .string ⟨#[]⟩, .slice none 0 0] 34)
      obtain ⟨w7, hw7⟩ : ∃ w7, ((w.alloc (.cells #[.int .i64 0, .int .i64 0, .string ⟨#[]⟩, .int .i64 0, .int .i64 0, .int .i64 0, .int .i64 0, .int .i64 0, .string ⟨#[]⟩, .slice none 0 0] 34)).alloc (.cells #[.int .i64 1, .int .i64 n, .string ⟨#[]⟩, .int .i64 0, .int .i64 0, .int .i64 0, .int .i64 0, .int .i64 0, .string ⟨#[]⟩, .slice none 0 0] 34)) = w7 := ⟨_, rfl⟩
      rw [hw7] at hz hbz ⊢
      replace hw7 := Lib.hid hw7
      have r0 := blk_cell (j := 0) (v := .int .i64 0) hz rfl
      have r1 := blk_cell (j := 1) (v := .int .i64 0) hz rfl
      have r2 := blk_cell (j := 2) (v := .string ⟨#[]⟩) hz rfl
      have r3 := blk_cell (j := 3) (v := .int .i64 0) hz rfl
      have r4 := blk_cell (j := 4) (v := .int .i64 0) hz rfl
      have r5 := blk_cell (j := 5) (v := .int .i64 0) hz rfl
      have r6 := blk_cell (j := 6) (v := .int .i64 0) hz rfl
      have r7 := blk_cell (j := 7) (v := .int .i64 0) hz rfl
      have r8 := blk_cell (j := 8) (v := .string ⟨#[]⟩) hz rfl
      have r9 := blk_cell (j := 9) (v := .slice none 0 0) hz rfl
      exact bodyPost_ret (v := .tuple #[(.agg #[.int .i64 0, .int .i64 0, .string ⟨#[]⟩, .int .i64 0, .int .i64 0, .int .i64 0, .int .i64 0, .int .i64 0, .string ⟨#[]⟩, .slice none 0 0]), .int .i64 12]) (by simp [results, Try.results24, go_sem, r0, r1, r2, r3, r4, r5, r6, r7, r8, r9]) rfl (RDec.no hbz hdn.out)
set_option maxHeartbeats 8000000 in
set_option maxRecDepth 20000 in
theorem rdecode_3 (ab ao k c : Nat) (b : List UInt8) (hk : b.length = k) (h6 : 6 ≤ k) (h256 : k ≤ 256) (hkc : k ≤ c) (h0 : b.getD 0 0 = 107) (kb : UInt8) (hkb : b.getD 1 0 = kb) (hn1 : U kb ≠ 1) (hn2 : U kb ≠ 2) (w : World) (hab : ab < w.heap.size) (hr : Rd w w.heap.size (some ⟨ab, ao, none⟩) b) :
    Calls Try.prog 24 #[.slice (some ⟨ab, ao, none⟩) k c] w (RDec b w) := by
  have hkv : U kb = U kb := rfl
  have hda := decAs_3 (by omega) h0 (show U (b.getD 1 0) ≠ 1 by rw [hkb]; exact hn1) (show U (b.getD 1 0) ≠ 2 by rw [hkb]; exact hn2)
  obtain ⟨ky, st0, hws⟩ : ∃ n st, wordS b = (n, st) := ⟨_, _, rfl⟩
  have hso0 : StOk st0 k := by have := StOk.word hk; rw [hws] at this; exact this
  obtain ⟨n, st, hns⟩ : ∃ n st, numS b st0 = (n, st) := ⟨_, _, rfl⟩
  have hso : StOk st k := by have := StOk.num hk hso0; rw [hns] at this; exact this
  have hnr : R64 n := by have := numS_R64 b st0; rw [hns] at this; exact this
  have hkl : ky.length ≤ maxLen := by have := wordS_len b; rw [hws] at this; exact this
  have z0 : R64 0 := by unfold R64; decide
  have hU := U_bd kb
  have hok : ((Rc.mk (U kb) 0 ky n 0 0 0 0 [] [])).Ok := ⟨show R64 (U kb) by unfold R64; omega, z0, hnr, z0, z0, z0, z0, hkl, Nat.zero_le _⟩
  unfold DecAs at hda
  rw [hkb] at hda
  rw [hws] at hda
  simp only at hda
  rw [hns] at hda
  have e1 : (U kb == 1) = false := beq_eq_false_iff_ne.mpr hn1
  have e2 : (U kb == 2) = false := beq_eq_false_iff_ne.mpr hn2
  replace hn1 := Lib.hid hn1
  replace hn2 := Lib.hid hn2
  replace hws := Lib.hid hws
  replace hkl := Lib.hid hkl
  have hRA := Lib.hid hr
  have h1 : b[1]? = some kb := by rw [← hkb]; rw [List.getElem?_eq_getElem (by omega)]; simp [List.getElem?_eq_getElem (show 1 < b.length by omega)]
  have h00 : b[0]? = some 107 := by rw [← h0]; rw [List.getElem?_eq_getElem (by omega)]; simp [List.getElem?_eq_getElem (show 0 < b.length by omega)]
  have hb1 := (Below.refl w.heap.size w).alloc (Nat.le_refl _) (.cells #[.int .i64 0, .int .i64 0, .string ⟨#[]⟩, .int .i64 0, .int .i64 0, .int .i64 0, .int .i64 0, .int .i64 0, .string ⟨#[]⟩, .slice none 0 0] 34)
  have hR1 := hr.up hb1
  obtain ⟨ad', ead, -, c0⟩ := hR1.get h00
  injection ead with ead
  subst ead
  rw [add_of, Nat.add_zero, show U 107 = 107 from rfl] at c0
  obtain ⟨ad', ead, -, c1⟩ := hR1.get h1
  injection ead with ead
  subst ead
  rw [add_of, hkv] at c1
  have d6 : decide ((k : Int) < 6) = false := decide_eq_false (by omega)
  have d256 : decide ((256 : Int) < (k : Int)) = false := decide_eq_false (by omega)
  have i0 : (0 : Int) < (k : Int) := by omega
  have i1 : (1 : Int) < (k : Int) := by omega
  have hq := Lib.hid (hb1.alloc hb1.size (.cells #[.int .i64 (U kb), .int .i64 0, .string ⟨#[]⟩, .int .i64 0, .int .i64 0, .int .i64 0, .int .i64 0, .int .i64 0, .string ⟨#[]⟩, .slice none 0 0] 34))
  have hR := Lib.hid (hr.up hq.out)
  clear h1 h00 hb1 hR1 hr
  replace hk := Lib.hid hk
  replace hkb := Lib.hid hkb
  replace h0 := Lib.hid h0
  have hwd := rwordS_any (some ⟨ab, ao, none⟩) k c b hk.out (by omega) hkc (by omega) _ hR.out
  rw [hws.out] at hwd
  replace hwd := Lib.hid hwd
  have hn : Hid (∀ W, Rd W W.heap.size (some ⟨ab, ao, none⟩) b → Calls Try.prog 45 #[.slice (some ⟨ab, ao, none⟩) k c, .int .i64 (atv st0)] W fun e w' => e = .returned (.tuple #[.int .i64 n, .int .i64 (atv st)]) ∧ W = w') := Lib.hid (fun W hW => by have := rnumber_any (some ⟨ab, ao, none⟩) k c b hk.out (by omega) st0 hso0 W hW; rw [hns] at this; exact this)
  have hR3 := Lib.hid (hRA.out.alloc2 (.cells #[.int .i64 0, .int .i64 0, .string ⟨#[]⟩, .int .i64 0, .int .i64 0, .int .i64 0, .int .i64 0, .int .i64 0, .string ⟨#[]⟩, .slice none 0 0] 34) (.cells #[.int .i64 (U kb), .int .i64 0, .string (bs ky), .int .i64 0, .int .i64 0, .int .i64 0, .int .i64 0, .int .i64 0, .string ⟨#[]⟩, .slice none 0 0] 34))
  replace hns := Lib.hid hns
  replace hkv := Lib.hid hkv
  cases st with
  | none =>
    have hdn : Hid (decB b = none) := Lib.hid (by rw [hda])
    clear hda
    go_enter Try.func24, Try.ntmps24
    go_wp2_with fail
    refine hwd.out.mono ?_
    rintro e w3 ⟨rfl, rfl⟩
    go_wp2_with fail
    refine (hn.out _ hR3.out).mono ?_
    rintro e w4 ⟨rfl, rfl⟩
    rw [show atv none = -1 from rfl]
    go_wp2_with fail
    have hz := blk_alloc (heap_alloc_new w (.cells #[.int .i64 0, .int .i64 0, .string ⟨#[]⟩, .int .i64 0, .int .i64 0, .int .i64 0, .int .i64 0, .int .i64 0, .string ⟨#[]⟩, .slice none 0 0] 34)) (.cells #[.int .i64 (U kb), .int .i64 0, .string (bs ky), .int .i64 n, .int .i64 0, .int .i64 0, .int .i64 0, .int .i64 0, .string ⟨#[]⟩, .slice none 0 0] 34)
    have hb1 := (Below.refl w.heap.size w).alloc (Nat.le_refl _) (.cells #[.int .i64 0, .int .i64 0, .string ⟨#[]⟩, .int .i64 0, .int .i64 0, .int .i64 0, .int .i64 0, .int .i64 0, .string ⟨#[]⟩, .slice none 0 0] 34)
    have hbz := hb1.alloc hb1.size (.cells #[.int .i64 (U kb), .int .i64 0, .string (bs ky), .int .i64 n, .int .i64 0, .int .i64 0, .int .i64 0, .int .i64 0, .string ⟨#[]⟩, .slice none 0 0] 34)
    obtain ⟨w7, hw7⟩ : ∃ w7, ((w.alloc (.cells #[.int .i64 0, .int .i64 0, .string ⟨#[]⟩, .int .i64 0, .int .i64 0, .int .i64 0, .int .i64 0, .int .i64 0, .string ⟨#[]⟩, .slice none 0 0] 34)).alloc (.cells #[.int .i64 (U kb), .int .i64 0, .string (bs ky), .int .i64 n, .int .i64 0, .int .i64 0, .int .i64 0, .int .i64 0, .string ⟨#[]⟩, .slice none 0 0] 34)) = w7 := ⟨_, rfl⟩
    rw [hw7] at hz hbz ⊢
    replace hw7 := Lib.hid hw7
    have r0 := blk_cell (j := 0) (v := .int .i64 0) hz rfl
    have r1 := blk_cell (j := 1) (v := .int .i64 0) hz rfl
    have r2 := blk_cell (j := 2) (v := .string ⟨#[]⟩) hz rfl
    have r3 := blk_cell (j := 3) (v := .int .i64 0) hz rfl
    have r4 := blk_cell (j := 4) (v := .int .i64 0) hz rfl
    have r5 := blk_cell (j := 5) (v := .int .i64 0) hz rfl
    have r6 := blk_cell (j := 6) (v := .int .i64 0) hz rfl
    have r7 := blk_cell (j := 7) (v := .int .i64 0) hz rfl
    have r8 := blk_cell (j := 8) (v := .string ⟨#[]⟩) hz rfl
    have r9 := blk_cell (j := 9) (v := .slice none 0 0) hz rfl
    exact bodyPost_ret (v := .tuple #[(.agg #[.int .i64 0, .int .i64 0, .string ⟨#[]⟩, .int .i64 0, .int .i64 0, .int .i64 0, .int .i64 0, .int .i64 0, .string ⟨#[]⟩, .slice none 0 0]), .int .i64 12]) (by simp [results, Try.results24, go_sem, r0, r1, r2, r3, r4, r5, r6, r7, r8, r9]) rfl (RDec.no hbz hdn.out)
  | some Q =>
    have hQk : Q ≤ k := hso Q rfl
    simp only at hda
    by_cases hkq : k = Q + 4
    · have hne : ((k : Int) != (Q : Int) + 4) = false := by simp; omega
      have hqc : Q ≤ c := by omega
      have h4k : Q + 4 = k := hkq.symm
      replace h4k := Lib.hid h4k
      replace hkq := Lib.hid hkq
      have hdec := Lib.hid hda
      clear hda
      go_enter Try.func24, Try.ntmps24
      go_wp2_with fail
      refine hwd.out.mono ?_
      rintro e w3 ⟨rfl, rfl⟩
      go_wp2_with fail
      refine (hn.out _ hR3.out).mono ?_
      rintro e w4 ⟨rfl, rfl⟩
      rw [show atv (some Q) = (Q : Int) from rfl]
      have hZ0 := blk_alloc (heap_alloc_new w (.cells #[.int .i64 0, .int .i64 0, .string ⟨#[]⟩, .int .i64 0, .int .i64 0, .int .i64 0, .int .i64 0, .int .i64 0, .string ⟨#[]⟩, .slice none 0 0] 34)) (.cells #[.int .i64 (U kb), .int .i64 0, .string (bs ky), .int .i64 n, .int .i64 0, .int .i64 0, .int .i64 0, .int .i64 0, .string ⟨#[]⟩, .slice none 0 0] 34)
      have hF0 := heap_alloc_new (w.alloc (.cells #[.int .i64 0, .int .i64 0, .string ⟨#[]⟩, .int .i64 0, .int .i64 0, .int .i64 0, .int .i64 0, .int .i64 0, .string ⟨#[]⟩, .slice none 0 0] 34)) (.cells #[.int .i64 (U kb), .int .i64 0, .string (bs ky), .int .i64 n, .int .i64 0, .int .i64 0, .int .i64 0, .int .i64 0, .string ⟨#[]⟩, .slice none 0 0] 34)
      have hsz : (w.alloc (.cells #[.int .i64 0, .int .i64 0, .string ⟨#[]⟩, .int .i64 0, .int .i64 0, .int .i64 0, .int .i64 0, .int .i64 0, .string ⟨#[]⟩, .slice none 0 0] 34)).heap.size = w.heap.size + 1 := by simp
      rw [hsz] at hF0
      have hq0 := (Below.refl w.heap.size w).alloc (Nat.le_refl _) (.cells #[.int .i64 0, .int .i64 0, .string ⟨#[]⟩, .int .i64 0, .int .i64 0, .int .i64 0, .int .i64 0, .int .i64 0, .string ⟨#[]⟩, .slice none 0 0] 34)
      replace hq0 := hq0.alloc hq0.size (.cells #[.int .i64 (U kb), .int .i64 0, .string (bs ky), .int .i64 n, .int .i64 0, .int .i64 0, .int .i64 0, .int .i64 0, .string ⟨#[]⟩, .slice none 0 0] 34)
      have hR0 := hRA.out.up hq0
      obtain ⟨M, hM⟩ : ∃ M, w.heap.size + 1 = M := ⟨_, rfl⟩
      rw [hM] at hF0
      obtain ⟨W4, hW4⟩ : ∃ W4, ((w.alloc (.cells #[.int .i64 0, .int .i64 0, .string ⟨#[]⟩, .int .i64 0, .int .i64 0, .int .i64 0, .int .i64 0, .int .i64 0, .string ⟨#[]⟩, .slice none 0 0] 34)).alloc (.cells #[.int .i64 (U kb), .int .i64 0, .string (bs ky), .int .i64 n, .int .i64 0, .int .i64 0, .int .i64 0, .int .i64 0, .string ⟨#[]⟩, .slice none 0 0] 34)) = W4 := ⟨_, rfl⟩
      rw [hW4] at hZ0 hF0 hq0 hR0
      have hZ := Lib.hid hZ0
      have hF : Hid (W4.heap[M]? = some (.cells #[.int .i64 (U kb), .int .i64 0, .string (bs ky), .int .i64 n, .int .i64 0, .int .i64 0, .int .i64 0, .int .i64 0, .string ⟨#[]⟩, .slice none 0 0] 34 (0, 0))) := Lib.hid hF0
      replace hR := Lib.hid hR0
      replace hq := Lib.hid hq0
      have hD : Hid (Rd W4 W4.heap.size none []) := Lib.hid Rd.nil_
      clear hZ0 hF0 hq0 hR0 hsz
      replace hW4 := Lib.hid hW4
      replace hM := Lib.hid hM
      cases hg : goodB (Rc.mk (U kb) 0 ky n 0 0 0 0 [] []) with
      | false =>
        have hgd := rgood_any (Rc.mk (U kb) 0 ky n 0 0 0 0 [] []) none 0 hok _ hD.out
        rw [hg] at hgd
        replace hgd : Hid (Calls Try.prog 22 #[(.agg #[.int .i64 (U kb), .int .i64 0, .string (bs ky), .int .i64 n, .int .i64 0, .int .i64 0, .int .i64 0, .int .i64 0, .string ⟨#[]⟩, .slice none 0 0])] W4 fun e w' => e = .returned (.bool false) ∧ Below W4.heap.size W4 w') := Lib.hid hgd
        have hdn : Hid (decB b = none) := Lib.hid (by rw [hdec.out, if_neg (by rw [hg]; simp)])
        replace hg := Lib.hid hg
        have x0 := blk_cell (j := 0) (v := .int .i64 (U kb)) hF.out rfl
        have x1 := blk_cell (j := 1) (v := .int .i64 0) hF.out rfl
        have x2 := blk_cell (j := 2) (v := .string (bs ky)) hF.out rfl
        have x3 := blk_cell (j := 3) (v := .int .i64 n) hF.out rfl
        have x4 := blk_cell (j := 4) (v := .int .i64 0) hF.out rfl
        have x5 := blk_cell (j := 5) (v := .int .i64 0) hF.out rfl
        have x6 := blk_cell (j := 6) (v := .int .i64 0) hF.out rfl
        have x7 := blk_cell (j := 7) (v := .int .i64 0) hF.out rfl
        have x8 := blk_cell (j := 8) (v := .string ⟨#[]⟩) hF.out rfl
        have x9 := blk_cell (j := 9) (v := .slice none 0 0) hF.out rfl
        go_wp2_with fail
        clear x0 x1 x2 x3 x4 x5 x6 x7 x8 x9
        rw [hW4.out]
        try rw [hM.out]
        refine hgd.out.mono ?_
        rintro e w5 ⟨rfl, hbb⟩
        replace hZ := Lib.hid (blk_below hZ.out hbb)
        replace hF := Lib.hid (blk_below hF.out hbb)
        replace hR := Lib.hid (hR.out.up hbb)
        replace hD := Lib.hid (hD.out.up hbb)
        replace hq := Lib.hid (hq.out.trans (hbb.mono hq.out.size))
        clear hbb
        clear hgd
        have z0 := blk_cell (j := 0) (v := .int .i64 0) hZ.out rfl
        have f0 := blk_free hZ.out 0
        have z1 := blk_cell (j := 1) (v := .int .i64 0) hZ.out rfl
        have f1 := blk_free hZ.out 1
        have z2 := blk_cell (j := 2) (v := .string ⟨#[]⟩) hZ.out rfl
        have f2 := blk_free hZ.out 2
        have z3 := blk_cell (j := 3) (v := .int .i64 0) hZ.out rfl
        have f3 := blk_free hZ.out 3
        have z4 := blk_cell (j := 4) (v := .int .i64 0) hZ.out rfl
        have f4 := blk_free hZ.out 4
        have z5 := blk_cell (j := 5) (v := .int .i64 0) hZ.out rfl
        have f5 := blk_free hZ.out 5
        have z6 := blk_cell (j := 6) (v := .int .i64 0) hZ.out rfl
        have f6 := blk_free hZ.out 6
        have z7 := blk_cell (j := 7) (v := .int .i64 0) hZ.out rfl
        have f7 := blk_free hZ.out 7
        have z8 := blk_cell (j := 8) (v := .string ⟨#[]⟩) hZ.out rfl
        have f8 := blk_free hZ.out 8
        have z9 := blk_cell (j := 9) (v := .slice none 0 0) hZ.out rfl
        have f9 := blk_free hZ.out 9
        go_wp2_with fail
        have hz := blk_set10 hZ.out (.int .i64 0) (.int .i64 0) (.string ⟨#[]⟩) (.int .i64 0) (.int .i64 0) (.int .i64 0) (.int .i64 0) (.int .i64 0) (.string ⟨#[]⟩) (.slice none 0 0)
        have hbz := setLo10 hq.out (Nat.le_refl w.heap.size) (.int .i64 0) (.int .i64 0) (.string ⟨#[]⟩) (.int .i64 0) (.int .i64 0) (.int .i64 0) (.int .i64 0) (.int .i64 0) (.string ⟨#[]⟩) (.slice none 0 0)
        obtain ⟨w10, hw10⟩ : ∃ w10, ((((((((((w5.setCell ⟨w.heap.size, 0, none⟩ (.int .i64 0)).setCell ⟨w.heap.size, 1, none⟩ (.int .i64 0)).setCell ⟨w.heap.size, 2, none⟩ (.string ⟨#[]⟩)).setCell ⟨w.heap.size, 3, none⟩ (.int .i64 0)).setCell ⟨w.heap.size, 4, none⟩ (.int .i64 0)).setCell ⟨w.heap.size, 5, none⟩ (.int .i64 0)).setCell ⟨w.heap.size, 6, none⟩ (.int .i64 0)).setCell ⟨w.heap.size, 7, none⟩ (.int .i64 0)).setCell ⟨w.heap.size, 8, none⟩ (.string ⟨#[]⟩)).setCell ⟨w.heap.size, 9, none⟩ (.slice none 0 0)) = w10 := ⟨_, rfl⟩
        rw [hw10] at hz hbz ⊢
        replace hw10 := Lib.hid hw10
        have r0 := blk_cell (j := 0) (v := .int .i64 0) hz rfl
        have r1 := blk_cell (j := 1) (v := .int .i64 0) hz rfl
        have r2 := blk_cell (j := 2) (v := .string ⟨#[]⟩) hz rfl
        have r3 := blk_cell (j := 3) (v := .int .i64 0) hz rfl
        have r4 := blk_cell (j := 4) (v := .int .i64 0) hz rfl
        have r5 := blk_cell (j := 5) (v := .int .i64 0) hz rfl
        have r6 := blk_cell (j := 6) (v := .int .i64 0) hz rfl
        have r7 := blk_cell (j := 7) (v := .int .i64 0) hz rfl
        have r8 := blk_cell (j := 8) (v := .string ⟨#[]⟩) hz rfl
        have r9 := blk_cell (j := 9) (v := .slice none 0 0) hz rfl
        exact bodyPost_ret (v := .tuple #[(.agg #[.int .i64 0, .int .i64 0, .string ⟨#[]⟩, .int .i64 0, .int .i64 0, .int .i64 0, .int .i64 0, .int .i64 0, .string ⟨#[]⟩, .slice none 0 0]), .int .i64 12]) (by simp [results, Try.results24, go_sem, r0, r1, r2, r3, r4, r5, r6, r7, r8, r9]) rfl (RDec.no hbz hdn.out)
      | true =>
        have hgd := rgood_any (Rc.mk (U kb) 0 ky n 0 0 0 0 [] []) none 0 hok _ hD.out
        rw [hg] at hgd
        replace hgd : Hid (Calls Try.prog 22 #[(.agg #[.int .i64 (U kb), .int .i64 0, .string (bs ky), .int .i64 n, .int .i64 0, .int .i64 0, .int .i64 0, .int .i64 0, .string ⟨#[]⟩, .slice none 0 0])] W4 fun e w' => e = .returned (.bool true) ∧ Below W4.heap.size W4 w') := Lib.hid hgd
        replace hg := Lib.hid hg
        have x0 := blk_cell (j := 0) (v := .int .i64 (U kb)) hF.out rfl
        have x1 := blk_cell (j := 1) (v := .int .i64 0) hF.out rfl
        have x2 := blk_cell (j := 2) (v := .string (bs ky)) hF.out rfl
        have x3 := blk_cell (j := 3) (v := .int .i64 n) hF.out rfl
        have x4 := blk_cell (j := 4) (v := .int .i64 0) hF.out rfl
        have x5 := blk_cell (j := 5) (v := .int .i64 0) hF.out rfl
        have x6 := blk_cell (j := 6) (v := .int .i64 0) hF.out rfl
        have x7 := blk_cell (j := 7) (v := .int .i64 0) hF.out rfl
        have x8 := blk_cell (j := 8) (v := .string ⟨#[]⟩) hF.out rfl
        have x9 := blk_cell (j := 9) (v := .slice none 0 0) hF.out rfl
        go_wp2_with fail
        clear x0 x1 x2 x3 x4 x5 x6 x7 x8 x9
        rw [hW4.out]
        try rw [hM.out]
        refine hgd.out.mono ?_
        rintro e w5 ⟨rfl, hbb⟩
        replace hZ := Lib.hid (blk_below hZ.out hbb)
        replace hF := Lib.hid (blk_below hF.out hbb)
        replace hR := Lib.hid (hR.out.up hbb)
        replace hD := Lib.hid (hD.out.up hbb)
        replace hq := Lib.hid (hq.out.trans (hbb.mono hq.out.size))
        clear hbb
        clear hgd
        have hRt := Lib.hid (hR.out.take Q (by have := hk.out; have := h4k.out; omega))
        have hlt : Hid ((b.take Q).length = Q) := Lib.hid (by rw [List.length_take]; have := hk.out; have := h4k.out; omega)
        go_wp2_with fail
        refine (rsum_at _ Q c _ hlt.out _ hRt.out (by omega)).mono ?_
        rintro e wq ⟨rfl, rfl⟩
        clear hRt
        obtain ⟨sm, hsm⟩ : ∃ sm, crc (b.take Q) = sm := ⟨_, rfl⟩
        rw [hsm]
        replace hsm := Lib.hid hsm
        go_wp2_with fail
        go_loop [7] (fun i => ∃ j : Nat, j ≤ 4 ∧ i = .int .i64 j ∧ Hid (∀ t, t < j → b[Q + t]? = (bytes4 sm)[t]?)) (fun i => 4 - (intOf i).toNat)
        case atStart => exact ⟨0, Nat.zero_le _, rfl, Lib.hid (fun t ht => absurd ht (by omega))⟩
        case round =>
          obtain ⟨j, hj, rfl, hall⟩ := hrel
          by_cases hlt4 : j < 4
          · obtain ⟨x, hx⟩ : ∃ x, b[Q + j]? = some x := ⟨b[Q + j]'(by have := hk.out; have := h4k.out; omega), List.getElem?_eq_getElem (by have := hk.out; have := h4k.out; omega)⟩
            obtain ⟨ad', ead, -, cx⟩ := hR.out.get hx
            injection ead with ead
            subst ead
            rw [add_of] at cx
            have hi1 : (Q : Int) + (j : Int) < (k : Int) := by have := h4k.out; omega
            by_cases hxe : x = lo8 (sm >>> (8 * j))
            · have hall2 : Hid (∀ t, t < j + 1 → b[Q + t]? = (bytes4 sm)[t]?) := Lib.hid (all_succ hall.out (by rw [hx, b4_get sm j hlt4, hxe]))
              replace hx := Lib.hid hx
              have hxb : (x != lo8 (sm >>> (8 * j))) = false := by rw [hxe]; simp
              replace hxe := Lib.hid hxe
              go_wp2
              go_round
              case rel => exact ⟨j + 1, by omega, by go_num, hall2⟩
              case measure => simp [intOf]; omega
            · have hdn : Hid (decB b = none) := Lib.hid (by rw [hdec.out, if_neg (fun hh => not_seal hlt4 hx (by rw [hsm.out]; exact hxe) hh.2)])
              have hxb : (x != lo8 (sm >>> (8 * j))) = true := by simpa using hxe
              replace hx := Lib.hid hx
              replace hxe := Lib.hid hxe
              have z0 := blk_cell (j := 0) (v := .int .i64 0) hZ.out rfl
              have f0 := blk_free hZ.out 0
              have z1 := blk_cell (j := 1) (v := .int .i64 0) hZ.out rfl
              have f1 := blk_free hZ.out 1
              have z2 := blk_cell (j := 2) (v := .string ⟨#[]⟩) hZ.out rfl
              have f2 := blk_free hZ.out 2
              have z3 := blk_cell (j := 3) (v := .int .i64 0) hZ.out rfl
              have f3 := blk_free hZ.out 3
              have z4 := blk_cell (j := 4) (v := .int .i64 0) hZ.out rfl
              have f4 := blk_free hZ.out 4
              have z5 := blk_cell (j := 5) (v := .int .i64 0) hZ.out rfl
              have f5 := blk_free hZ.out 5
              have z6 := blk_cell (j := 6) (v := .int .i64 0) hZ.out rfl
              have f6 := blk_free hZ.out 6
              have z7 := blk_cell (j := 7) (v := .int .i64 0) hZ.out rfl
              have f7 := blk_free hZ.out 7
              have z8 := blk_cell (j := 8) (v := .string ⟨#[]⟩) hZ.out rfl
              have f8 := blk_free hZ.out 8
              have z9 := blk_cell (j := 9) (v := .slice none 0 0) hZ.out rfl
              have f9 := blk_free hZ.out 9
              go_wp2_with fail
              have hz := blk_set10 hZ.out (.int .i64 0) (.int .i64 0) (.string ⟨#[]⟩) (.int .i64 0) (.int .i64 0) (.int .i64 0) (.int .i64 0) (.int .i64 0) (.string ⟨#[]⟩) (.slice none 0 0)
              have hbz := setLo10 hq.out (Nat.le_refl w.heap.size) (.int .i64 0) (.int .i64 0) (.string ⟨#[]⟩) (.int .i64 0) (.int .i64 0) (.int .i64 0) (.int .i64 0) (.int .i64 0) (.string ⟨#[]⟩) (.slice none 0 0)
              obtain ⟨w10, hw10⟩ : ∃ w10, ((((((((((w5.setCell ⟨w.heap.size, 0, none⟩ (.int .i64 0)).setCell ⟨w.heap.size, 1, none⟩ (.int .i64 0)).setCell ⟨w.heap.size, 2, none⟩ (.string ⟨#[]⟩)).setCell ⟨w.heap.size, 3, none⟩ (.int .i64 0)).setCell ⟨w.heap.size, 4, none⟩ (.int .i64 0)).setCell ⟨w.heap.size, 5, none⟩ (.int .i64 0)).setCell ⟨w.heap.size, 6, none⟩ (.int .i64 0)).setCell ⟨w.heap.size, 7, none⟩ (.int .i64 0)).setCell ⟨w.heap.size, 8, none⟩ (.string ⟨#[]⟩)).setCell ⟨w.heap.size, 9, none⟩ (.slice none 0 0)) = w10 := ⟨_, rfl⟩
              rw [hw10] at hz hbz ⊢
              replace hw10 := Lib.hid hw10
              have r0 := blk_cell (j := 0) (v := .int .i64 0) hz rfl
              have r1 := blk_cell (j := 1) (v := .int .i64 0) hz rfl
              have r2 := blk_cell (j := 2) (v := .string ⟨#[]⟩) hz rfl
              have r3 := blk_cell (j := 3) (v := .int .i64 0) hz rfl
              have r4 := blk_cell (j := 4) (v := .int .i64 0) hz rfl
              have r5 := blk_cell (j := 5) (v := .int .i64 0) hz rfl
              have r6 := blk_cell (j := 6) (v := .int .i64 0) hz rfl
              have r7 := blk_cell (j := 7) (v := .int .i64 0) hz rfl
              have r8 := blk_cell (j := 8) (v := .string ⟨#[]⟩) hz rfl
              have r9 := blk_cell (j := 9) (v := .slice none 0 0) hz rfl
              exact bodyPost_ret (v := .tuple #[(.agg #[.int .i64 0, .int .i64 0, .string ⟨#[]⟩, .int .i64 0, .int .i64 0, .int .i64 0, .int .i64 0, .int .i64 0, .string ⟨#[]⟩, .slice none 0 0]), .int .i64 12]) (by simp [results, Try.results24, go_sem, r0, r1, r2, r3, r4, r5, r6, r7, r8, r9]) rfl (RDec.no hbz hdn.out)
          · obtain rfl : j = 4 := by omega
            have hdy : Hid (decB b = some (Rc.mk (U kb) 0 ky n 0 0 0 0 [] [])) := Lib.hid (by rw [hdec.out, if_pos ⟨hg.out, (seal_of (by have := hk.out; have := h4k.out; omega) (fun t ht => by rw [hsm.out]; exact hall.out t ht))⟩])
            have z0 := blk_cell (j := 0) (v := .int .i64 0) hZ.out rfl
            have f0 := blk_free hZ.out 0
            have z1 := blk_cell (j := 1) (v := .int .i64 0) hZ.out rfl
            have f1 := blk_free hZ.out 1
            have z2 := blk_cell (j := 2) (v := .string ⟨#[]⟩) hZ.out rfl
            have f2 := blk_free hZ.out 2
            have z3 := blk_cell (j := 3) (v := .int .i64 0) hZ.out rfl
            have f3 := blk_free hZ.out 3
            have z4 := blk_cell (j := 4) (v := .int .i64 0) hZ.out rfl
            have f4 := blk_free hZ.out 4
            have z5 := blk_cell (j := 5) (v := .int .i64 0) hZ.out rfl
            have f5 := blk_free hZ.out 5
            have z6 := blk_cell (j := 6) (v := .int .i64 0) hZ.out rfl
            have f6 := blk_free hZ.out 6
            have z7 := blk_cell (j := 7) (v := .int .i64 0) hZ.out rfl
            have f7 := blk_free hZ.out 7
            have z8 := blk_cell (j := 8) (v := .string ⟨#[]⟩) hZ.out rfl
            have f8 := blk_free hZ.out 8
            have z9 := blk_cell (j := 9) (v := .slice none 0 0) hZ.out rfl
            have f9 := blk_free hZ.out 9
            have y0 := blk_cell (j := 0) (v := .int .i64 (U kb)) hF.out rfl
            have y1 := blk_cell (j := 1) (v := .int .i64 0) hF.out rfl
            have y2 := blk_cell (j := 2) (v := .string (bs ky)) hF.out rfl
            have y3 := blk_cell (j := 3) (v := .int .i64 n) hF.out rfl
            have y4 := blk_cell (j := 4) (v := .int .i64 0) hF.out rfl
            have y5 := blk_cell (j := 5) (v := .int .i64 0) hF.out rfl
            have y6 := blk_cell (j := 6) (v := .int .i64 0) hF.out rfl
            have y7 := blk_cell (j := 7) (v := .int .i64 0) hF.out rfl
            have y8 := blk_cell (j := 8) (v := .string ⟨#[]⟩) hF.out rfl
            have y9 := blk_cell (j := 9) (v := .slice none 0 0) hF.out rfl
            go_wp2_with fail
            clear y0 y1 y2 y3 y4 y5 y6 y7 y8 y9
            clear z0 f0 z1 f1 z2 f2 z3 f3 z4 f4 z5 f5 z6 f6 z7 f7 z8 f8 z9 f9
            have hz := blk_set10 hZ.out (.int .i64 (U kb)) (.int .i64 0) (.string (bs ky)) (.int .i64 n) (.int .i64 0) (.int .i64 0) (.int .i64 0) (.int .i64 0) (.string ⟨#[]⟩) (.slice none 0 0)
            have hbz := setLo10 hq.out (Nat.le_refl w.heap.size) (.int .i64 (U kb)) (.int .i64 0) (.string (bs ky)) (.int .i64 n) (.int .i64 0) (.int .i64 0) (.int .i64 0) (.int .i64 0) (.string ⟨#[]⟩) (.slice none 0 0)
            have hdz := hD.out.recSet10 hZ.out (by rfl) (.int .i64 (U kb)) (.int .i64 0) (.string (bs ky)) (.int .i64 n) (.int .i64 0) (.int .i64 0) (.int .i64 0) (.int .i64 0) (.string ⟨#[]⟩) (.slice none 0 0)
            have hsz : ((((((((((w5.setCell ⟨w.heap.size, 0, none⟩ (.int .i64 (U kb))).setCell ⟨w.heap.size, 1, none⟩ (.int .i64 0)).setCell ⟨w.heap.size, 2, none⟩ (.string (bs ky))).setCell ⟨w.heap.size, 3, none⟩ (.int .i64 n)).setCell ⟨w.heap.size, 4, none⟩ (.int .i64 0)).setCell ⟨w.heap.size, 5, none⟩ (.int .i64 0)).setCell ⟨w.heap.size, 6, none⟩ (.int .i64 0)).setCell ⟨w.heap.size, 7, none⟩ (.int .i64 0)).setCell ⟨w.heap.size, 8, none⟩ (.string ⟨#[]⟩)).setCell ⟨w.heap.size, 9, none⟩ (.slice none 0 0)).heap.size = w5.heap.size := by simp
            obtain ⟨w10, hw10⟩ : ∃ w10, ((((((((((w5.setCell ⟨w.heap.size, 0, none⟩ (.int .i64 (U kb))).setCell ⟨w.heap.size, 1, none⟩ (.int .i64 0)).setCell ⟨w.heap.size, 2, none⟩ (.string (bs ky))).setCell ⟨w.heap.size, 3, none⟩ (.int .i64 n)).setCell ⟨w.heap.size, 4, none⟩ (.int .i64 0)).setCell ⟨w.heap.size, 5, none⟩ (.int .i64 0)).setCell ⟨w.heap.size, 6, none⟩ (.int .i64 0)).setCell ⟨w.heap.size, 7, none⟩ (.int .i64 0)).setCell ⟨w.heap.size, 8, none⟩ (.string ⟨#[]⟩)).setCell ⟨w.heap.size, 9, none⟩ (.slice none 0 0)) = w10 := ⟨_, rfl⟩
            rw [hw10] at hz hbz hdz hsz ⊢
            rw [← hsz] at hdz
            replace hw10 := Lib.hid hw10
            have r0 := blk_cell (j := 0) (v := .int .i64 (U kb)) hz rfl
            have r1 := blk_cell (j := 1) (v := .int .i64 0) hz rfl
            have r2 := blk_cell (j := 2) (v := .string (bs ky)) hz rfl
            have r3 := blk_cell (j := 3) (v := .int .i64 n) hz rfl
            have r4 := blk_cell (j := 4) (v := .int .i64 0) hz rfl
            have r5 := blk_cell (j := 5) (v := .int .i64 0) hz rfl
            have r6 := blk_cell (j := 6) (v := .int .i64 0) hz rfl
            have r7 := blk_cell (j := 7) (v := .int .i64 0) hz rfl
            have r8 := blk_cell (j := 8) (v := .string ⟨#[]⟩) hz rfl
            have r9 := blk_cell (j := 9) (v := .slice none 0 0) hz rfl
            exact bodyPost_ret (v := .tuple #[(.agg #[.int .i64 (U kb), .int .i64 0, .string (bs ky), .int .i64 n, .int .i64 0, .int .i64 0, .int .i64 0, .int .i64 0, .string ⟨#[]⟩, .slice none 0 0]), .int .i64 0]) (by simp [results, Try.results24, go_sem, r0, r1, r2, r3, r4, r5, r6, r7, r8, r9]) rfl (RDec.yes (A9 := none) (c9 := 0) hbz hdy.out hdz)
    · have hne : ((k : Int) != (Q : Int) + 4) = true := by simp; omega
      have hdn : Hid (decB b = none) := Lib.hid (by rw [hda, if_neg (fun hh => hkq (by have := hh.2.1; have := hk.out; omega))])
      replace hda := Lib.hid hda
      replace hkq := Lib.hid hkq
      go_enter Try.func24, Try.ntmps24
      go_wp2_with fail
      refine hwd.out.mono ?_
      rintro e w3 ⟨rfl, rfl⟩
      go_wp2_with fail
      refine (hn.out _ hR3.out).mono ?_
      rintro e w4 ⟨rfl, rfl⟩
      rw [show atv (some Q) = (Q : Int) from rfl]
      go_wp2_with fail
      have hz := blk_alloc (heap_alloc_new w (.cells #[.int .i64 0, .int .i64 0, .string ⟨#[]⟩, .int .i64 0, .int .i64 0, .int .i64 0, .int .i64 0, .int .i64 0, .string ⟨#[]⟩, .slice none 0 0] 34)) (.cells #[.int .i64 (U kb), .int .i64 0, .string (bs ky), .int .i64 n, .int .i64 0, .int .i64 0, .int .i64 0, .int .i64 0, .string ⟨#[]⟩, .slice none 0 0] 34)
      have hb1 := (Below.refl w.heap.size w).alloc (Nat.le_refl _) (.cells #[.int .i64 0, .int .i64 0, .string ⟨#[]⟩, .int .i64 0, .int .i64 0, .int .i64 0, .int .i64 0, .int .i64 0, .string ⟨#[]⟩, .slice none 0 0] 34)
      have hbz := hb1.alloc hb1.size (.cells #[.int .i64 (U kb), .int .i64 0, .string (bs ky), .int .i64 n, .int .i64 0, .int .i64 0, .int .i64 0, .int .i64 0, .string ⟨#[]⟩, .slice none 0 0] 34)
      obtain ⟨w7, hw7⟩ : ∃ w7, ((w.alloc (.cells #[.int .i64 0, .int .i64 0, .string ⟨#[]⟩, .int .i64 0, .int .i64 0, .int .i64 0, .int .i64 0, .int .i64 0, .string ⟨#[]⟩, .slice none 0 0] 34)).alloc (.cells #[.int .i64 (U kb), .int .i64 0, .string (bs ky), .int .i64 n, .int .i64 0, .int .i64 0, .int .i64 0, .int .i64 0, .string ⟨#[]⟩, .slice none 0 0] 34)) = w7 := ⟨_, rfl⟩
      rw [hw7] at hz hbz ⊢
      replace hw7 := Lib.hid hw7
      have r0 := blk_cell (j := 0) (v := .int .i64 0) hz rfl
      have r1 := blk_cell (j := 1) (v := .int .i64 0) hz rfl
      have r2 := blk_cell (j := 2) (v := .string ⟨#[]⟩) hz rfl
      have r3 := blk_cell (j := 3) (v := .int .i64 0) hz rfl
      have r4 := blk_cell (j := 4) (v := .int .i64 0) hz rfl
      have r5 := blk_cell (j := 5) (v := .int .i64 0) hz rfl
      have r6 := blk_cell (j := 6) (v := .int .i64 0) hz rfl
      have r7 := blk_cell (j := 7) (v := .int .i64 0) hz rfl
      have r8 := blk_cell (j := 8) (v := .string ⟨#[]⟩) hz rfl
      have r9 := blk_cell (j := 9) (v := .slice none 0 0) hz rfl
      exact bodyPost_ret (v := .tuple #[(.agg #[.int .i64 0, .int .i64 0, .string ⟨#[]⟩, .int .i64 0, .int .i64 0, .int .i64 0, .int .i64 0, .int .i64 0, .string ⟨#[]⟩, .slice none 0 0]), .int .i64 12]) (by simp [results, Try.results24, go_sem, r0, r1, r2, r3, r4, r5, r6, r7, r8, r9]) rfl (RDec.no hbz hdn.out)
end Go.Proofs.Yticdkmnjolkacab
