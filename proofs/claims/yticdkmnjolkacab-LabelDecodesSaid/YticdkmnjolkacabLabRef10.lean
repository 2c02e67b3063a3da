/- The reference's Decode walked: a shard. -/
import Derived.Test.YticdkmnjolkacabLabRef8
import Derived.Test.YticdkmnjolkacabLab13
import Derived.LoopTactic
import Derived.Test.YticdkmnjolkacabLabRef9
import Derived.Test.YticdkmnjolkacabLab4
namespace Go.Proofs.Yticdkmnjolkacab
set_option linter.unusedVariables false
set_option linter.unusedSimpArgs false
open Go Go.RowKit
set_option maxHeartbeats 8000000 in
set_option maxRecDepth 20000 in
theorem rdecode_2 (ab ao k c : Nat) (b : List UInt8) (hk : b.length = k) (h6 : 6 ≤ k) (h256 : k ≤ 256) (hkc : k ≤ c) (h0 : b.getD 0 0 = 107) (hkb : b.getD 1 0 = 2) (w : World) (hab : ab < w.heap.size) (hr : Rd w w.heap.size (some ⟨ab, ao, none⟩) b) :
    Calls Try.prog 24 #[.slice (some ⟨ab, ao, none⟩) k c] w (RDec b w) := by
  obtain ⟨kb, hkb2⟩ : ∃ kb : UInt8, kb = 2 := ⟨_, rfl⟩
  rw [← hkb2] at hkb
  have hkv : U kb = 2 := by rw [hkb2]; rfl
  have hda := decAs_2 (by omega) h0 (show U (b.getD 1 0) = 2 by rw [hkb]; exact hkv)
  obtain ⟨ky, t0, hws⟩ : ∃ n st, wordS b = (n, st) := ⟨_, _, rfl⟩
  have hkl : ky.length ≤ maxLen := by have := wordS_len b; rw [hws] at this; exact this
  have hs0 : StOk t0 k := by have := StOk.word hk; rw [hws] at this; exact this
  obtain ⟨n1, t1, hn1⟩ : ∃ n st, numS b t0 = (n, st) := ⟨_, _, rfl⟩
  have hr1 : R64 n1 := by have := numS_R64 b t0; rw [hn1] at this; exact this
  have hs1 : StOk t1 k := by have := StOk.num hk hs0; rw [hn1] at this; exact this
  obtain ⟨n2, t2, hn2⟩ : ∃ n st, numS b t1 = (n, st) := ⟨_, _, rfl⟩
  have hr2 : R64 n2 := by have := numS_R64 b t1; rw [hn2] at this; exact this
  have hs2 : StOk t2 k := by have := StOk.num hk hs1; rw [hn2] at this; exact this
  obtain ⟨n3, t3, hn3⟩ : ∃ n st, numS b t2 = (n, st) := ⟨_, _, rfl⟩
  have hr3 : R64 n3 := by have := numS_R64 b t2; rw [hn3] at this; exact this
  have hs3 : StOk t3 k := by have := StOk.num hk hs2; rw [hn3] at this; exact this
  obtain ⟨n4, t4, hn4⟩ : ∃ n st, numS b t3 = (n, st) := ⟨_, _, rfl⟩
  have hr4 : R64 n4 := by have := numS_R64 b t3; rw [hn4] at this; exact this
  have hs4 : StOk t4 k := by have := StOk.num hk hs3; rw [hn4] at this; exact this
  obtain ⟨n5, t5, hn5⟩ : ∃ n st, numS b t4 = (n, st) := ⟨_, _, rfl⟩
  have hr5 : R64 n5 := by have := numS_R64 b t4; rw [hn5] at this; exact this
  have hs5 : StOk t5 k := by have := StOk.num hk hs4; rw [hn5] at this; exact this
  unfold shardS at hda
  simp only [hws, hn1, hn2, hn3, hn4, hn5] at hda
  have z0 : R64 0 := by unfold R64; decide
  have z2 : R64 2 := by unfold R64; decide
  have hc1 : Hid (∀ W, Rd W W.heap.size (some ⟨ab, ao, none⟩) b → Calls Try.prog 45 #[.slice (some ⟨ab, ao, none⟩) k c, .int .i64 (atv t0)] W fun e w' => e = .returned (.tuple #[.int .i64 n1, .int .i64 (atv t1)]) ∧ W = w') := Lib.hid (fun W hW => by have := rnumber_any (some ⟨ab, ao, none⟩) k c b hk (by omega) t0 hs0 W hW; rw [hn1] at this; exact this)
  have hc2 : Hid (∀ W, Rd W W.heap.size (some ⟨ab, ao, none⟩) b → Calls Try.prog 45 #[.slice (some ⟨ab, ao, none⟩) k c, .int .i64 (atv t1)] W fun e w' => e = .returned (.tuple #[.int .i64 n2, .int .i64 (atv t2)]) ∧ W = w') := Lib.hid (fun W hW => by have := rnumber_any (some ⟨ab, ao, none⟩) k c b hk (by omega) t1 hs1 W hW; rw [hn2] at this; exact this)
  have hc3 : Hid (∀ W, Rd W W.heap.size (some ⟨ab, ao, none⟩) b → Calls Try.prog 45 #[.slice (some ⟨ab, ao, none⟩) k c, .int .i64 (atv t2)] W fun e w' => e = .returned (.tuple #[.int .i64 n3, .int .i64 (atv t3)]) ∧ W = w') := Lib.hid (fun W hW => by have := rnumber_any (some ⟨ab, ao, none⟩) k c b hk (by omega) t2 hs2 W hW; rw [hn3] at this; exact this)
  have hc4 : Hid (∀ W, Rd W W.heap.size (some ⟨ab, ao, none⟩) b → Calls Try.prog 45 #[.slice (some ⟨ab, ao, none⟩) k c, .int .i64 (atv t3)] W fun e w' => e = .returned (.tuple #[.int .i64 n4, .int .i64 (atv t4)]) ∧ W = w') := Lib.hid (fun W hW => by have := rnumber_any (some ⟨ab, ao, none⟩) k c b hk (by omega) t3 hs3 W hW; rw [hn4] at this; exact this)
  have hc5 : Hid (∀ W, Rd W W.heap.size (some ⟨ab, ao, none⟩) b → Calls Try.prog 45 #[.slice (some ⟨ab, ao, none⟩) k c, .int .i64 (atv t4)] W fun e w' => e = .returned (.tuple #[.int .i64 n5, .int .i64 (atv t5)]) ∧ W = w') := Lib.hid (fun W hW => by have := rnumber_any (some ⟨ab, ao, none⟩) k c b hk (by omega) t4 hs4 W hW; rw [hn5] at this; exact this)
  have hcw : Hid (∀ W, Rd W W.heap.size (some ⟨ab, ao, none⟩) b → Calls Try.prog 46 #[.slice (some ⟨ab, ao, none⟩) k c, .int .i64 2, .int .i64 16] W fun e w' => e = .returned (.tuple #[.string (bs ky), .int .i64 (atv t0)]) ∧ W = w') := Lib.hid (fun W hW => by have := rwordS_any (some ⟨ab, ao, none⟩) k c b hk (by omega) hkc (by omega) W hW; rw [hws] at this; exact this)
  have hRA := Lib.hid hr
  have h1 : b[1]? = some kb := by rw [← hkb]; rw [List.getElem?_eq_getElem (by omega)]; simp [List.getElem?_eq_getElem (show 1 < b.length by omega)]
  have h00 : b[0]? = some 107 := by rw [← h0]; rw [List.getElem?_eq_getElem (by omega)]; simp [List.getElem?_eq_getElem (show 0 < b.length by omega)]
  have hb1 := (Below.refl w.heap.size w).alloc (Nat.le_refl _) (.cells #[.int .i64 0, .int .i64 0, .string ⟨#[]⟩, .int .i64 0, .int .i64 0, .int .i64 0, .int .i64 0, .int .i64 0, .string ⟨#[]⟩, .slice none 0 0] 34)
  have hR1 := hr.up hb1
  obtain ⟨ad', ead, -, c0⟩ := hR1.get h00
  injection ead with ead
  subst ead
  rw [add_of, Nat.add_zero, show U 107 = 107 from rfl] at c0
  obtain ⟨ad', ead, -, c1⟩ := hR1.get h1
  injection ead with ead
  subst ead
  rw [add_of, hkv] at c1
  have d6 : decide ((k : Int) < 6) = false := decide_eq_false (by omega)
  have d256 : decide ((256 : Int) < (k : Int)) = false := decide_eq_false (by omega)
  have i0 : (0 : Int) < (k : Int) := by omega
  have i1 : (1 : Int) < (k : Int) := by omega
  have hq := Lib.hid (hb1.alloc hb1.size (.cells #[.int .i64 2, .int .i64 0, .string ⟨#[]⟩, .int .i64 0, .int .i64 0, .int .i64 0, .int .i64 0, .int .i64 0, .string ⟨#[]⟩, .slice none 0 0] 34))
  have hR := Lib.hid (hr.up hq.out)
  clear h1 h00 hb1 hR1 hr
  replace hk := Lib.hid hk
  replace hkb := Lib.hid hkb
  replace h0 := Lib.hid h0
  replace hkb2 := Lib.hid hkb2
  replace hws := Lib.hid hws
  replace hkl := Lib.hid hkl
  replace z0 := Lib.hid z0
  replace z2 := Lib.hid z2
  replace hkv := Lib.hid hkv
  replace hn1 := Lib.hid hn1
  replace hr1 := Lib.hid hr1
  replace hn2 := Lib.hid hn2
  replace hr2 := Lib.hid hr2
  replace hn3 := Lib.hid hn3
  replace hr3 := Lib.hid hr3
  replace hn4 := Lib.hid hn4
  replace hr4 := Lib.hid hr4
  replace hn5 := Lib.hid hn5
  replace hr5 := Lib.hid hr5
  cases t5 with
  | none =>
    have hdn : Hid (decB b = none) := Lib.hid (by rw [hda])
    clear hda
    go_enter Try.func24, Try.ntmps24
    go_wp2_with fail
    refine (hcw.out _ hR.out).mono ?_
    rintro e wx ⟨rfl, rfl⟩
    go_wp2_with fail
    refine (hc1.out _ (hRA.out.alloc2 (.cells #[.int .i64 0, .int .i64 0, .string ⟨#[]⟩, .int .i64 0, .int .i64 0, .int .i64 0, .int .i64 0, .int .i64 0, .string ⟨#[]⟩, .slice none 0 0] 34) (.cells #[.int .i64 2, .int .i64 0, .string (bs ky), .int .i64 0, .int .i64 0, .int .i64 0, .int .i64 0, .int .i64 0, .string ⟨#[]⟩, .slice none 0 0] 34))).mono ?_
    rintro e wx ⟨rfl, rfl⟩
    go_wp2_with fail
    refine (hc2.out _ (hRA.out.alloc2 (.cells #[.int .i64 0, .int .i64 0, .string ⟨#[]⟩, .int .i64 0, .int .i64 0, .int .i64 0, .int .i64 0, .int .i64 0, .string ⟨#[]⟩, .slice none 0 0] 34) (.cells #[.int .i64 2, .int .i64 0, .string (bs ky), .int .i64 n1, .int .i64 0, .int .i64 0, .int .i64 0, .int .i64 0, .string ⟨#[]⟩, .slice none 0 0] 34))).mono ?_
    rintro e wx ⟨rfl, rfl⟩
    go_wp2_with fail
    refine (hc3.out _ (hRA.out.alloc2 (.cells #[.int .i64 0, .int .i64 0, .string ⟨#[]⟩, .int .i64 0, .int .i64 0, .int .i64 0, .int .i64 0, .int .i64 0, .string ⟨#[]⟩, .slice none 0 0] 34) (.cells #[.int .i64 2, .int .i64 0, .string (bs ky), .int .i64 n1, .int .i64 n2, .int .i64 0, .int .i64 0, .int .i64 0, .string ⟨#[]⟩, .slice none 0 0] 34))).mono ?_
    rintro e wx ⟨rfl, rfl⟩
    go_wp2_with fail
    refine (hc4.out _ (hRA.out.alloc2 (.cells #[.int .i64 0, .int .i64 0, .string ⟨#[]⟩, .int .i64 0, .int .i64 0, .int .i64 0, .int .i64 0, .int .i64 0, .string ⟨#[]⟩, .slice none 0 0] 34) (.cells #[.int .i64 2, .int .i64 0, .string (bs ky), .int .i64 n1, .int .i64 n2, .int .i64 n3, .int .i64 0, .int .i64 0, .string ⟨#[]⟩, .slice none 0 0] 34))).mono ?_
    rintro e wx ⟨rfl, rfl⟩
    go_wp2_with fail
    refine (hc5.out _ (hRA.out.alloc2 (.cells #[.int .i64 0, .int .i64 0, .string ⟨#[]⟩, .int .i64 0, .int .i64 0, .int .i64 0, .int .i64 0, .int .i64 0, .string ⟨#[]⟩, .slice none 0 0] 34) (.cells #[.int .i64 2, .int .i64 0, .string (bs ky), .int .i64 n1, .int .i64 n2, .int .i64 n3, .int .i64 n4, .int .i64 0, .string ⟨#[]⟩, .slice none 0 0] 34))).mono ?_
    rintro e wx ⟨rfl, rfl⟩
    rw [show atv none = -1 from rfl]
    go_wp2_with fail
    have hz := blk_alloc (heap_alloc_new w (.cells #[.int .i64 0, .int .i64 0, .string ⟨#[]⟩, .int .i64 0, .int .i64 0, .int .i64 0, .int .i64 0, .int .i64 0, .string ⟨#[]⟩, .slice none 0 0] 34)) (.cells #[.int .i64 2, .int .i64 0, .string (bs ky), .int .i64 n1, .int .i64 n2, .int .i64 n3, .int .i64 n4, .int .i64 n5, .string ⟨#[]⟩, .slice none 0 0] 34)
    have hb1 := (Below.refl w.heap.size w).alloc (Nat.le_refl _) (.cells #[.int .i64 0, .int .i64 0, .string ⟨#[]⟩, .int .i64 0, .int .i64 0, .int .i64 0, .int .i64 0, .int .i64 0, .string ⟨#[]⟩, .slice none 0 0] 34)
    have hbz := hb1.alloc hb1.size (.cells #[.int .i64 2, .int .i64 0, .string (bs ky), .int .i64 n1, .int .i64 n2, .int .i64 n3, .int .i64 n4, .int .i64 n5, .string ⟨#[]⟩, .slice none 0 0] 34)
    obtain ⟨w7, hw7⟩ : ∃ w7, ((w.alloc (.cells #[.int .i64 0, .int .i64 0, .string ⟨#[]⟩, .int .i64 0, .int .i64 0, .int .i64 0, .int .i64 0, .int .i64 0, .string ⟨#[]⟩, .slice none 0 0] 34)).alloc (.cells #[.int .i64 2, .int .i64 0, .string (bs ky), .int .i64 n1, .int .i64 n2, .int .i64 n3, .int .i64 n4, .int .i64 n5, .string ⟨#[]⟩, .slice none 0 0] 34)) = w7 := ⟨_, rfl⟩
    rw [hw7] at hz hbz ⊢
    replace hw7 := Lib.hid hw7
    have r0 := blk_cell (j := 0) (v := .int .i64 0) hz rfl
    have r1 := blk_cell (j := 1) (v := .int .i64 0) hz rfl
    have r2 := blk_cell (j := 2) (v := .string ⟨#[]⟩) hz rfl
    have r3 := blk_cell (j := 3) (v := .int .i64 0) hz rfl
    have r4 := blk_cell (j := 4) (v := .int .i64 0) hz rfl
    have r5 := blk_cell (j := 5) (v := .int .i64 0) hz rfl
    have r6 := blk_cell (j := 6) (v := .int .i64 0) hz rfl
    have r7 := blk_cell (j := 7) (v := .int .i64 0) hz rfl
    have r8 := blk_cell (j := 8) (v := .string ⟨#[]⟩) hz rfl
    have r9 := blk_cell (j := 9) (v := .slice none 0 0) hz rfl
    exact bodyPost_ret (v := .tuple #[(.agg #[.int .i64 0, .int .i64 0, .string ⟨#[]⟩, .int .i64 0, .int .i64 0, .int .i64 0, .int .i64 0, .int .i64 0, .string ⟨#[]⟩, .slice none 0 0]), .int .i64 12]) (by simp [results, Try.results24, go_sem, r0, r1, r2, r3, r4, r5, r6, r7, r8, r9]) rfl (RDec.no hbz hdn.out)
  | some Q =>
    have hQk : Q ≤ k := hs5 Q rfl
    simp only at hda
    by_cases hkq : k = Q + 52
    · have hne : ((k : Int) != (Q : Int) + 32 + 16 + 4) = false := by simp; omega
      have hne2 : ((k : Int) != (Q : Int) + 52) = false := by simp; omega
      obtain ⟨P, hP⟩ : ∃ P, Q + 48 = P := ⟨_, rfl⟩
      obtain ⟨sm9, hsm9⟩ : ∃ x, (b.drop Q).take 32 = x := ⟨_, rfl⟩
      obtain ⟨dt9, hdt9⟩ : ∃ x, (b.drop (Q + 32)).take 16 = x := ⟨_, rfl⟩
      have hsl : sm9.length = 32 := by rw [← hsm9, List.length_take, List.length_drop]; have := hk.out; omega
      have hdl : dt9.length = 16 := by rw [← hdt9, List.length_take, List.length_drop]; have := hk.out; omega
      have hok : ((Rc.mk 2 0 ky n1 n2 n3 n4 n5 sm9 dt9)).Ok := ⟨z2.out, z0.out, hr1.out, hr2.out, hr3.out, hr4.out, hr5.out, hkl.out, by show sm9.length ≤ maxLen; rw [hsl]; decide⟩
      have hdec : Hid (decB b = if goodB (Rc.mk 2 0 ky n1 n2 n3 n4 n5 sm9 dt9) = true ∧ sealS b P then some (Rc.mk 2 0 ky n1 n2 n3 n4 n5 sm9 dt9) else none) := Lib.hid (by rw [hda]; unfold withSD; simp only [hsm9, hdt9, show b.length = Q + 52 from (by have := hk.out; omega), true_and, hP])
      have hPk : P + 4 = k := by omega
      have h4k := Lib.hid hPk
      have hqc : P ≤ c := by omega
      have hP1 : (Q : Int) + 48 = (P : Int) := by omega
      have hne3 : ((k : Int) != (P : Int) + 4) = false := by simp; omega
      have hPk' : P ≤ k := by omega
      have s1 : (Q : Int) + 32 ≤ (c : Int) := by omega
      have s2 : (P : Int) ≤ (c : Int) := by omega
      have s3 : (Q : Int) ≤ (Q : Int) + 32 := by omega
      have s4 : (Q : Int) + 32 ≤ (P : Int) := by omega
      have s5 : ¬ (c = Q) := by omega
      have s6 : ¬ (c = Q + 32) := by omega
      have s7 : ((P : Int) - ((Q : Int) + 32)) = 16 := by omega
      have s8 : P - (Q + 32) = 16 := by omega
      have s9 : Q + 32 - Q = 32 := by omega
      have s10 : Q ≤ c := by omega
      have v1 : IntKind.i64.wrap ((Q : Int) + 32) = (Q : Int) + 32 := IntWalk.i64_in _ (by omega)
      have v2 : IntKind.i64.wrap ((Q : Int) + 48) = (P : Int) := by rw [IntWalk.i64_in _ (by omega)]; exact hP1
      have v3 : ((Q : Int) + 32).toNat = Q + 32 := by omega
      have v4 : 0 ≤ (Q : Int) + 32 := by omega
      have v5 : Q ≤ Q + 32 := by omega
      have s11 : Q + 32 ≤ P := by omega
      replace hdt9 := Lib.hid hdt9
      replace hsm9 := Lib.hid hsm9
      replace hsl := Lib.hid hsl
      replace hdl := Lib.hid hdl
      replace hPk := Lib.hid hPk
      replace hP1 := Lib.hid hP1
      replace hkq := Lib.hid hkq
      replace hda := Lib.hid hda
      replace hP := Lib.hid hP
      replace s7 := Lib.hid s7
      go_enter Try.func24, Try.ntmps24
      go_wp2_with fail
      refine (hcw.out _ hR.out).mono ?_
      rintro e wx ⟨rfl, rfl⟩
      go_wp2_with fail
      refine (hc1.out _ (hRA.out.alloc2 (.cells #[.int .i64 0, .int .i64 0, .string ⟨#[]⟩, .int .i64 0, .int .i64 0, .int .i64 0, .int .i64 0, .int .i64 0, .string ⟨#[]⟩, .slice none 0 0] 34) (.cells #[.int .i64 2, .int .i64 0, .string (bs ky), .int .i64 0, .int .i64 0, .int .i64 0, .int .i64 0, .int .i64 0, .string ⟨#[]⟩, .slice none 0 0] 34))).mono ?_
      rintro e wx ⟨rfl, rfl⟩
      go_wp2_with fail
      refine (hc2.out _ (hRA.out.alloc2 (.cells #[.int .i64 0, .int .i64 0, .string ⟨#[]⟩, .int .i64 0, .int .i64 0, .int .i64 0, .int .i64 0, .int .i64 0, .string ⟨#[]⟩, .slice none 0 0] 34) (.cells #[.int .i64 2, .int .i64 0, .string (bs ky), .int .i64 n1, .int .i64 0, .int .i64 0, .int .i64 0, .int .i64 0, .string ⟨#[]⟩, .slice none 0 0] 34))).mono ?_
      rintro e wx ⟨rfl, rfl⟩
      go_wp2_with fail
      refine (hc3.out _ (hRA.out.alloc2 (.cells #[.int .i64 0, .int .i64 0, .string ⟨#[]⟩, .int .i64 0, .int .i64 0, .int .i64 0, .int .i64 0, .int .i64 0, .string ⟨#[]⟩, .slice none 0 0] 34) (.cells #[.int .i64 2, .int .i64 0, .string (bs ky), .int .i64 n1, .int .i64 n2, .int .i64 0, .int .i64 0, .int .i64 0, .string ⟨#[]⟩, .slice none 0 0] 34))).mono ?_
      rintro e wx ⟨rfl, rfl⟩
      go_wp2_with fail
      refine (hc4.out _ (hRA.out.alloc2 (.cells #[.int .i64 0, .int .i64 0, .string ⟨#[]⟩, .int .i64 0, .int .i64 0, .int .i64 0, .int .i64 0, .int .i64 0, .string ⟨#[]⟩, .slice none 0 0] 34) (.cells #[.int .i64 2, .int .i64 0, .string (bs ky), .int .i64 n1, .int .i64 n2, .int .i64 n3, .int .i64 0, .int .i64 0, .string ⟨#[]⟩, .slice none 0 0] 34))).mono ?_
      rintro e wx ⟨rfl, rfl⟩
      go_wp2_with fail
      refine (hc5.out _ (hRA.out.alloc2 (.cells #[.int .i64 0, .int .i64 0, .string ⟨#[]⟩, .int .i64 0, .int .i64 0, .int .i64 0, .int .i64 0, .int .i64 0, .string ⟨#[]⟩, .slice none 0 0] 34) (.cells #[.int .i64 2, .int .i64 0, .string (bs ky), .int .i64 n1, .int .i64 n2, .int .i64 n3, .int .i64 n4, .int .i64 0, .string ⟨#[]⟩, .slice none 0 0] 34))).mono ?_
      rintro e wx ⟨rfl, rfl⟩
      rw [show atv (some Q) = (Q : Int) from rfl]
      have hZ0 := blk_alloc (heap_alloc_new w (.cells #[.int .i64 0, .int .i64 0, .string ⟨#[]⟩, .int .i64 0, .int .i64 0, .int .i64 0, .int .i64 0, .int .i64 0, .string ⟨#[]⟩, .slice none 0 0] 34)) (.cells #[.int .i64 2, .int .i64 0, .string (bs ky), .int .i64 n1, .int .i64 n2, .int .i64 n3, .int .i64 n4, .int .i64 n5, .string ⟨#[]⟩, .slice none 0 0] 34)
      have hF0 := heap_alloc_new (w.alloc (.cells #[.int .i64 0, .int .i64 0, .string ⟨#[]⟩, .int .i64 0, .int .i64 0, .int .i64 0, .int .i64 0, .int .i64 0, .string ⟨#[]⟩, .slice none 0 0] 34)) (.cells #[.int .i64 2, .int .i64 0, .string (bs ky), .int .i64 n1, .int .i64 n2, .int .i64 n3, .int .i64 n4, .int .i64 n5, .string ⟨#[]⟩, .slice none 0 0] 34)
      have hsz : (w.alloc (.cells #[.int .i64 0, .int .i64 0, .string ⟨#[]⟩, .int .i64 0, .int .i64 0, .int .i64 0, .int .i64 0, .int .i64 0, .string ⟨#[]⟩, .slice none 0 0] 34)).heap.size = w.heap.size + 1 := by simp
      rw [hsz] at hF0
      have hq0 := (Below.refl w.heap.size w).alloc (Nat.le_refl _) (.cells #[.int .i64 0, .int .i64 0, .string ⟨#[]⟩, .int .i64 0, .int .i64 0, .int .i64 0, .int .i64 0, .int .i64 0, .string ⟨#[]⟩, .slice none 0 0] 34)
      replace hq0 := hq0.alloc hq0.size (.cells #[.int .i64 2, .int .i64 0, .string (bs ky), .int .i64 n1, .int .i64 n2, .int .i64 n3, .int .i64 n4, .int .i64 n5, .string ⟨#[]⟩, .slice none 0 0] 34)
      have hR0 := hRA.out.up hq0
      obtain ⟨M, hM⟩ : ∃ M, w.heap.size + 1 = M := ⟨_, rfl⟩
      rw [hM] at hF0
      obtain ⟨W4, hW4⟩ : ∃ W4, W4 = (((w.alloc (.cells #[.int .i64 0, .int .i64 0, .string ⟨#[]⟩, .int .i64 0, .int .i64 0, .int .i64 0, .int .i64 0, .int .i64 0, .string ⟨#[]⟩, .slice none 0 0] 34)).alloc (.cells #[.int .i64 2, .int .i64 0, .string (bs ky), .int .i64 n1, .int .i64 n2, .int .i64 n3, .int .i64 n4, .int .i64 n5, .string ⟨#[]⟩, .slice none 0 0] 34))).drew := ⟨_, rfl⟩
      have hZ : Hid (W4.heap[w.heap.size]? = some (.cells #[.int .i64 0, .int .i64 0, .string ⟨#[]⟩, .int .i64 0, .int .i64 0, .int .i64 0, .int .i64 0, .int .i64 0, .string ⟨#[]⟩, .slice none 0 0] 34 (0, 0))) := Lib.hid (by rw [hW4]; exact hZ0)
      have hF : Hid (W4.heap[M]? = some (.cells #[.int .i64 2, .int .i64 0, .string (bs ky), .int .i64 n1, .int .i64 n2, .int .i64 n3, .int .i64 n4, .int .i64 n5, .string ⟨#[]⟩, .slice none 0 0] 34 (0, 0))) := Lib.hid (by rw [hW4]; exact hF0)
      replace hq : Hid (Below w.heap.size w W4) := Lib.hid (by rw [hW4]; exact hq0.drew)
      replace hR : Hid (Rd W4 W4.heap.size (some ⟨ab, ao, none⟩) b) := Lib.hid (by rw [hW4]; exact hR0.drewN 1)
      have hwM : w.heap.size ≤ M := by omega
      have hwM2 : w.heap.size ≠ M := by omega
      clear hZ0 hF0 hq0 hR0 hsz
      go_wp2_with fail
      try rw [hM]
      replace hM := Lib.hid hM
      refine wpR_region (Upd (fun k => k = M ∨ W4.heap.size ≤ k)) 17 (by kernel_rfl) ?_
      (rw [← hW4]; replace hW4 := Lib.hid hW4)
      refine wpR_take (i := 0) (v := ?_) (Upd.road _) (some 95) rfl (by kernel_rfl) (by kernel_rfl) (by kernel_rfl) (by kernel_rfl) (by kernel_rfl) (fun _ _ _ h => h) (by kernel_rfl) (fun w' hw' => ?_) ?_
      rotate_left
      · go_simp; with_reducible rfl
      simp only [Act.put, List.setIfInBounds_toArray, List.set_cons_zero, List.set_cons_succ]
      refine wpR_take (i := 1) (v := ?_) (Upd.road _) (some 96) rfl (by kernel_rfl) (by kernel_rfl) (by kernel_rfl) (by kernel_rfl) (by kernel_rfl) (fun _ _ _ h => h) (by kernel_rfl) (fun w' hw' => ?_) ?_
      rotate_left
      · go_simp; with_reducible rfl
      simp only [Act.put, List.setIfInBounds_toArray, List.set_cons_zero, List.set_cons_succ]
      refine wpR_take (i := 2) (v := ?_) (Upd.road _) (some 97) rfl (by kernel_rfl) (by kernel_rfl) (by kernel_rfl) (by kernel_rfl) (by kernel_rfl) (fun _ _ _ h => h) (by kernel_rfl) (fun w' hw' => ?_) ?_
      rotate_left
      · go_simp; with_reducible rfl
      simp only [Act.put, List.setIfInBounds_toArray, List.set_cons_zero, List.set_cons_succ]
      refine wpR_take (i := 3) (v := ?_) (Upd.road _) (some 98) rfl (by kernel_rfl) (by kernel_rfl) (by kernel_rfl) (by kernel_rfl) (by kernel_rfl) (fun _ _ _ h => h) (by kernel_rfl) (fun w' hw' => ?_) ?_
      rotate_left
      · go_simp; with_reducible rfl
      simp only [Act.put, List.setIfInBounds_toArray, List.set_cons_zero, List.set_cons_succ]
      refine wpR_take (i := 4) (v := ?_) (Upd.road _) (some 99) rfl (by kernel_rfl) (by kernel_rfl) (by kernel_rfl) (by kernel_rfl) (by kernel_rfl) (fun _ _ _ h => h) (by kernel_rfl) (fun w' hw' => ?_) ?_
      rotate_left
      · go_simp; with_reducible rfl
      simp only [Act.put, List.setIfInBounds_toArray, List.set_cons_zero, List.set_cons_succ]
      refine wpR_take (i := 5) (v := ?_) (Upd.road _) (some 100) rfl (by kernel_rfl) (by kernel_rfl) (by kernel_rfl) (by kernel_rfl) (by kernel_rfl) (fun _ _ _ h => h) (by kernel_rfl) (fun w' hw' => ?_) ?_
      rotate_left
      · have qs := run_str_at (w := w') (c - Q) (l := sm9) (n := 32) ((show Rd w' w'.heap.size (some ⟨ab, ao + Q, none⟩) sm9 from by have hm := ((hRA.out.keep (w' := w') (fun p hp => (hw'.cell (p := p) (by have := hq.out.size; omega) (by have := hq.out.size; omega)).trans (hq.out.cell hp))).more (B' := w'.heap.size) (by have := hq.out.size; have := hw'.2.2.2.1; omega)).mid (i := Q) (m := 32) (by have := hk.out; have := hPk.out; have := hP.out; omega); rw [add_of, hsm9.out] at hm; exact hm)) hsl.out; go_simp; with_reducible rfl
      simp only [Act.put, List.setIfInBounds_toArray, List.set_cons_zero, List.set_cons_succ]
      refine wpR_take (i := 7) (v := ?_) (Upd.road _) (some 102) rfl (by kernel_rfl) (by kernel_rfl) (by kernel_rfl) (by kernel_rfl) (by kernel_rfl) (fun _ _ _ h => h) (by kernel_rfl) (fun w' hw' => ?_) ?_
      rotate_left
      · go_simp; with_reducible rfl
      simp only [Act.put, List.setIfInBounds_toArray, List.set_cons_zero, List.set_cons_succ]
      refine wpR_take (i := 8) (v := ?_) (Upd.road _) (some 103) rfl (by kernel_rfl) (by kernel_rfl) (by kernel_rfl) (by kernel_rfl) (by kernel_rfl) (fun _ _ _ h => h) (by kernel_rfl) (fun w' hw' => ?_) ?_
      rotate_left
      · go_simp; with_reducible rfl
      simp only [Act.put, List.setIfInBounds_toArray, List.set_cons_zero, List.set_cons_succ]
      refine wpR_take (i := 9) (v := ?_) (Upd.road _) (some 104) rfl (by kernel_rfl) (by kernel_rfl) (by kernel_rfl) (by kernel_rfl) (by kernel_rfl) (fun _ _ _ h => h) (by kernel_rfl) (fun w' hw' => ?_) ?_
      rotate_left
      · go_simp; with_reducible rfl
      simp only [Act.put, List.setIfInBounds_toArray, List.set_cons_zero, List.set_cons_succ]
      refine wpR_take (i := 10) (v := ?_) (Upd.road _) (some 105) rfl (by kernel_rfl) (by kernel_rfl) (by kernel_rfl) (by kernel_rfl) (by kernel_rfl) (fun _ _ _ h => h) (by kernel_rfl) (fun w' hw' => ?_) ?_
      rotate_left
      · go_simp; with_reducible rfl
      simp only [Act.put, List.setIfInBounds_toArray, List.set_cons_zero, List.set_cons_succ]
      refine wpR_take (i := 11) (v := ?_) (Upd.road _) (some 106) rfl (by kernel_rfl) (by kernel_rfl) (by kernel_rfl) (by kernel_rfl) (by kernel_rfl) (fun _ _ _ h => h) (by kernel_rfl) (fun w' hw' => ?_) ?_
      rotate_left
      · go_simp; with_reducible rfl
      simp only [Act.put, List.setIfInBounds_toArray, List.set_cons_zero, List.set_cons_succ]
      refine wpR_take (i := 12) (v := ?_) (Upd.road _) (some 107) rfl (by kernel_rfl) (by kernel_rfl) (by kernel_rfl) (by kernel_rfl) (by kernel_rfl) (fun _ _ _ h => h) (by kernel_rfl) (fun w' hw' => ?_) ?_
      rotate_left
      · go_simp; with_reducible rfl
      simp only [Act.put, List.setIfInBounds_toArray, List.set_cons_zero, List.set_cons_succ]
      refine wpR_take (i := 14) (v := ?_) (Upd.road _) (some 109) rfl (by kernel_rfl) (by kernel_rfl) (by kernel_rfl) (by kernel_rfl) (by kernel_rfl) (fun _ _ _ h => h) (by kernel_rfl) (fun w' hw' => ?_) ?_
      rotate_left
      · go_simp; with_reducible rfl
      simp only [Act.put, List.setIfInBounds_toArray, List.set_cons_zero, List.set_cons_succ]
      refine wpR_one 6 rfl (by kernel_rfl) (by kernel_rfl) (fun K hK => ?_)
      go_simp
      refine hK _ _ (fun _ => Upd.of_below ((Below.refl _ _).alloc (Nat.le_refl _) _)) ?_
      clear hK K
      have ho5 := Lib.hid (OB.empty W4 W4.heap.size (Nat.le_refl _))
      have hb5 := Lib.hid ((Below.refl _ W4).alloc (Nat.le_refl _) (.cells #[] 5))
      have hRm := hR.out.up hb5.out
      have hmid := hRm.mid (i := Q + 32) (m := 16) (by have := hk.out; have := hPk.out; have := hP.out; omega)
      rw [add_of, hdt9.out] at hmid
      obtain ⟨B5, hB5⟩ : ∃ x, W4.heap.size = x := ⟨_, rfl⟩
      rw [hB5] at ho5 ⊢
      obtain ⟨W5, hW5⟩ : ∃ x, W4.alloc (.cells #[] 5) = x := ⟨_, rfl⟩
      rw [hW5] at ho5 hb5 hmid ⊢
      replace hmid := Lib.hid hmid
      replace hW5 := Lib.hid hW5
      clear hRm
      have hB5' : B5 ≤ W5.heap.size := by rw [← hB5]; exact hb5.out.size
      replace hB5 := Lib.hid hB5
      try simp only [Act.put, List.setIfInBounds_toArray, List.set_cons_zero, List.set_cons_succ]
      refine wpR_one 13 rfl (by kernel_rfl) (by kernel_rfl) (fun K hK => ?_)
      refine wp_append_bytes (.tmp 101) (.tmp 107) rfl B5 (.slice (some ⟨B5, 0, none⟩) 0 0) [] rfl ho5.out _ (some ⟨ab, ao + (Q + 32), none⟩) (c - (Q + 32)) dt9 (by rw [hdl.out]; rfl) hmid.out (by rw [hdl.out]; simp) hB5' ?_
      intro v6 W6 ho6 hg6
      refine hK _ _ (fun _ => (Upd.of_own hg6).mono (fun k hk => .inr (by have h1 := (ho5.out.lt k hk).1; have h2 := hB5.out; omega))) ?_
      clear hK K
      have hbb : Below W4.heap.size W4 W6 := below_app (w0 := W4) (by rw [hB5.out]; exact ho5.out) hb5.out hb5.out.size hg6
      rw [List.nil_append] at ho6
      obtain ⟨A9, c9, rfl, -, -, hD, -⟩ := ho6.form
      rw [hdl.out]
      replace hD := Lib.hid hD
      replace hZ := Lib.hid (blk_below hZ.out hbb)
      replace hF := Lib.hid (blk_below hF.out hbb)
      replace hq := Lib.hid (hq.out.trans (hbb.mono hq.out.size))
      replace hR := Lib.hid (hR.out.up hbb)
      clear hg6 ho6 ho5 hmid hb5 hbb
      have p8 := blk_cell (j := 8) (v := .string ⟨#[]⟩) hF.out rfl
      have q8 := blk_free hF.out 8
      try simp only [Act.put, List.setIfInBounds_toArray, List.set_cons_zero, List.set_cons_succ]
      refine wpR_one 15 rfl (by kernel_rfl) (by kernel_rfl) (fun K hK => ?_)
      go_simp
      refine hK _ _ (fun _ => (Upd.of_grown (blk_grown _ _ _ _) (.inl rfl))) ?_
      clear hK K
      clear p8 q8
      have hFs := blk_set hF.out 8 (.string (bs sm9))
      have hZs := (blk_other (w := W6) (g := M) (k := w.heap.size) hwM2 8 (.string (bs sm9))).trans hZ.out
      have hqs := setLo hq.out (g := M) (j := 8) hwM (.string (bs sm9))
      have hRs := hR.out.recSet hF.out (by rfl) 8 (.string (bs sm9))
      have hDs := hD.out.recSet hF.out (by rfl) 8 (.string (bs sm9))
      have hsz : (W6.setCell ⟨M, 8, none⟩ (.string (bs sm9))).heap.size = W6.heap.size := by simp
      obtain ⟨W7, hW7⟩ : ∃ x, W6.setCell ⟨M, 8, none⟩ (.string (bs sm9)) = x := ⟨_, rfl⟩
      rw [hW7] at hFs hZs hqs hRs hsz hDs ⊢
      rw [← hsz] at hRs hDs
      replace hF : Hid (W7.heap[M]? = some (.cells #[.int .i64 2, .int .i64 0, .string (bs ky), .int .i64 n1, .int .i64 n2, .int .i64 n3, .int .i64 n4, .int .i64 n5, .string (bs sm9), .slice none 0 0] 34 (0, 0))) := Lib.hid hFs
      replace hZ := Lib.hid hZs
      replace hq := Lib.hid hqs
      replace hR := Lib.hid hRs
      replace hD := Lib.hid hDs
      replace hW7 := Lib.hid hW7
      clear hFs hZs hqs hRs hsz hDs
      have p9 := blk_cell (j := 9) (v := .slice none 0 0) hF.out rfl
      have q9 := blk_free hF.out 9
      try simp only [Act.put, List.setIfInBounds_toArray, List.set_cons_zero, List.set_cons_succ]
      refine wpR_take (i := 16) (v := ?_) (Upd.road _) (some 110) rfl (by kernel_rfl) (by kernel_rfl) (by kernel_rfl) (by kernel_rfl) (by kernel_rfl) (fun _ _ _ h => h) (by kernel_rfl) (fun w' hw' => ?_) ?_
      rotate_left
      · go_simp; with_reducible rfl
      simp only [Act.put, List.setIfInBounds_toArray, List.set_cons_zero, List.set_cons_succ]
      refine wpR_one 17 rfl (by kernel_rfl) (by kernel_rfl) (fun K hK => ?_)
      go_simp
      refine hK _ _ (fun h => absurd rfl h) ?_
      clear hK K
      clear p9 q9
      have hFs := blk_set hF.out 9 (.slice A9 16 c9)
      have hZs := (blk_other (w := W7) (g := M) (k := w.heap.size) hwM2 9 (.slice A9 16 c9)).trans hZ.out
      have hqs := setLo hq.out (g := M) (j := 9) hwM (.slice A9 16 c9)
      have hRs := hR.out.recSet hF.out (by rfl) 9 (.slice A9 16 c9)
      have hDs := hD.out.recSet hF.out (by rfl) 9 (.slice A9 16 c9)
      have hsz : (W7.setCell ⟨M, 9, none⟩ (.slice A9 16 c9)).heap.size = W7.heap.size := by simp
      obtain ⟨W8, hW8⟩ : ∃ x, W7.setCell ⟨M, 9, none⟩ (.slice A9 16 c9) = x := ⟨_, rfl⟩
      rw [hW8] at hFs hZs hqs hRs hsz hDs ⊢
      rw [← hsz] at hRs hDs
      replace hF : Hid (W8.heap[M]? = some (.cells #[.int .i64 2, .int .i64 0, .string (bs ky), .int .i64 n1, .int .i64 n2, .int .i64 n3, .int .i64 n4, .int .i64 n5, .string (bs sm9), .slice A9 16 c9] 34 (0, 0))) := Lib.hid hFs
      replace hZ := Lib.hid hZs
      replace hq := Lib.hid hqs
      replace hR := Lib.hid hRs
      replace hD := Lib.hid hDs
      replace hW8 := Lib.hid hW8
      clear hFs hZs hqs hRs hsz hDs
      try simp only [Act.put, List.setIfInBounds_toArray, List.set_cons_zero, List.set_cons_succ]
      refine wpR_done (by kernel_rfl) ?_ _
      have hP2 := hP1.out
      have hP3 : 0 ≤ (P : Int) := by omega
      cases hg : goodB (Rc.mk 2 0 ky n1 n2 n3 n4 n5 sm9 dt9) with
      | false =>
        have hgd := rgood_any (Rc.mk 2 0 ky n1 n2 n3 n4 n5 sm9 dt9) A9 c9 hok _ hD.out
        rw [hg] at hgd; unfold Rc.agg at hgd; simp only [hdl.out] at hgd
        replace hgd : Hid (Calls Try.prog 22 #[(.agg #[.int .i64 2, .int .i64 0, .string (bs ky), .int .i64 n1, .int .i64 n2, .int .i64 n3, .int .i64 n4, .int .i64 n5, .string (bs sm9), .slice A9 16 c9])] W8 fun e w' => e = .returned (.bool false) ∧ Below W8.heap.size W8 w') := Lib.hid hgd
        have hdn : Hid (decB b = none) := Lib.hid (by rw [hdec.out, if_neg (by rw [hg]; simp)])
        replace hg := Lib.hid hg
        have x0 := blk_cell (j := 0) (v := .int .i64 2) hF.out rfl
        have x1 := blk_cell (j := 1) (v := .int .i64 0) hF.out rfl
        have x2 := blk_cell (j := 2) (v := .string (bs ky)) hF.out rfl
        have x3 := blk_cell (j := 3) (v := .int .i64 n1) hF.out rfl
        have x4 := blk_cell (j := 4) (v := .int .i64 n2) hF.out rfl
        have x5 := blk_cell (j := 5) (v := .int .i64 n3) hF.out rfl
        have x6 := blk_cell (j := 6) (v := .int .i64 n4) hF.out rfl
        have x7 := blk_cell (j := 7) (v := .int .i64 n5) hF.out rfl
        have x8 := blk_cell (j := 8) (v := .string (bs sm9)) hF.out rfl
        have x9 := blk_cell (j := 9) (v := .slice A9 16 c9) hF.out rfl
        go_wp2_with fail
        clear x0 x1 x2 x3 x4 x5 x6 x7 x8 x9
        refine hgd.out.mono ?_
        rintro e w5 ⟨rfl, hbb⟩
        replace hZ := Lib.hid (blk_below hZ.out hbb)
        replace hF := Lib.hid (blk_below hF.out hbb)
        replace hR := Lib.hid (hR.out.up hbb)
        replace hD := Lib.hid (hD.out.up hbb)
        replace hq := Lib.hid (hq.out.trans (hbb.mono hq.out.size))
        clear hbb
        clear hgd
        have z0 := blk_cell (j := 0) (v := .int .i64 0) hZ.out rfl
        have f0 := blk_free hZ.out 0
        have z1 := blk_cell (j := 1) (v := .int .i64 0) hZ.out rfl
        have f1 := blk_free hZ.out 1
        have z2 := blk_cell (j := 2) (v := .string ⟨#[]⟩) hZ.out rfl
        have f2 := blk_free hZ.out 2
        have z3 := blk_cell (j := 3) (v := .int .i64 0) hZ.out rfl
        have f3 := blk_free hZ.out 3
        have z4 := blk_cell (j := 4) (v := .int .i64 0) hZ.out rfl
        have f4 := blk_free hZ.out 4
        have z5 := blk_cell (j := 5) (v := .int .i64 0) hZ.out rfl
        have f5 := blk_free hZ.out 5
        have z6 := blk_cell (j := 6) (v := .int .i64 0) hZ.out rfl
        have f6 := blk_free hZ.out 6
        have z7 := blk_cell (j := 7) (v := .int .i64 0) hZ.out rfl
        have f7 := blk_free hZ.out 7
        have z8 := blk_cell (j := 8) (v := .string ⟨#[]⟩) hZ.out rfl
        have f8 := blk_free hZ.out 8
        have z9 := blk_cell (j := 9) (v := .slice none 0 0) hZ.out rfl
        have f9 := blk_free hZ.out 9
        go_wp2_with fail
        have hz := blk_set10 hZ.out (.int .i64 0) (.int .i64 0) (.string ⟨#[]⟩) (.int .i64 0) (.int .i64 0) (.int .i64 0) (.int .i64 0) (.int .i64 0) (.string ⟨#[]⟩) (.slice none 0 0)
        have hbz := setLo10 hq.out (Nat.le_refl w.heap.size) (.int .i64 0) (.int .i64 0) (.string ⟨#[]⟩) (.int .i64 0) (.int .i64 0) (.int .i64 0) (.int .i64 0) (.int .i64 0) (.string ⟨#[]⟩) (.slice none 0 0)
        obtain ⟨w10, hw10⟩ : ∃ w10, ((((((((((w5.setCell ⟨w.heap.size, 0, none⟩ (.int .i64 0)).setCell ⟨w.heap.size, 1, none⟩ (.int .i64 0)).setCell ⟨w.heap.size, 2, none⟩ (.string ⟨#[]⟩)).setCell ⟨w.heap.size, 3, none⟩ (.int .i64 0)).setCell ⟨w.heap.size, 4, none⟩ (.int .i64 0)).setCell ⟨w.heap.size, 5, none⟩ (.int .i64 0)).setCell ⟨w.heap.size, 6, none⟩ (.int .i64 0)).setCell ⟨w.heap.size, 7, none⟩ (.int .i64 0)).setCell ⟨w.heap.size, 8, none⟩ (.string ⟨#[]⟩)).setCell ⟨w.heap.size, 9, none⟩ (.slice none 0 0)) = w10 := ⟨_, rfl⟩
        rw [hw10] at hz hbz ⊢
        replace hw10 := Lib.hid hw10
        have r0 := blk_cell (j := 0) (v := .int .i64 0) hz rfl
        have r1 := blk_cell (j := 1) (v := .int .i64 0) hz rfl
        have r2 := blk_cell (j := 2) (v := .string ⟨#[]⟩) hz rfl
        have r3 := blk_cell (j := 3) (v := .int .i64 0) hz rfl
        have r4 := blk_cell (j := 4) (v := .int .i64 0) hz rfl
        have r5 := blk_cell (j := 5) (v := .int .i64 0) hz rfl
        have r6 := blk_cell (j := 6) (v := .int .i64 0) hz rfl
        have r7 := blk_cell (j := 7) (v := .int .i64 0) hz rfl
        have r8 := blk_cell (j := 8) (v := .string ⟨#[]⟩) hz rfl
        have r9 := blk_cell (j := 9) (v := .slice none 0 0) hz rfl
        exact bodyPost_ret (v := .tuple #[(.agg #[.int .i64 0, .int .i64 0, .string ⟨#[]⟩, .int .i64 0, .int .i64 0, .int .i64 0, .int .i64 0, .int .i64 0, .string ⟨#[]⟩, .slice none 0 0]), .int .i64 12]) (by simp [results, Try.results24, go_sem, r0, r1, r2, r3, r4, r5, r6, r7, r8, r9]) rfl (RDec.no hbz hdn.out)
      | true =>
        have hgd := rgood_any (Rc.mk 2 0 ky n1 n2 n3 n4 n5 sm9 dt9) A9 c9 hok _ hD.out
        rw [hg] at hgd; unfold Rc.agg at hgd; simp only [hdl.out] at hgd
        replace hgd : Hid (Calls Try.prog 22 #[(.agg #[.int .i64 2, .int .i64 0, .string (bs ky), .int .i64 n1, .int .i64 n2, .int .i64 n3, .int .i64 n4, .int .i64 n5, .string (bs sm9), .slice A9 16 c9])] W8 fun e w' => e = .returned (.bool true) ∧ Below W8.heap.size W8 w') := Lib.hid hgd
        replace hg := Lib.hid hg
        have x0 := blk_cell (j := 0) (v := .int .i64 2) hF.out rfl
        have x1 := blk_cell (j := 1) (v := .int .i64 0) hF.out rfl
        have x2 := blk_cell (j := 2) (v := .string (bs ky)) hF.out rfl
        have x3 := blk_cell (j := 3) (v := .int .i64 n1) hF.out rfl
        have x4 := blk_cell (j := 4) (v := .int .i64 n2) hF.out rfl
        have x5 := blk_cell (j := 5) (v := .int .i64 n3) hF.out rfl
        have x6 := blk_cell (j := 6) (v := .int .i64 n4) hF.out rfl
        have x7 := blk_cell (j := 7) (v := .int .i64 n5) hF.out rfl
        have x8 := blk_cell (j := 8) (v := .string (bs sm9)) hF.out rfl
        have x9 := blk_cell (j := 9) (v := .slice A9 16 c9) hF.out rfl
        go_wp2_with fail
        clear x0 x1 x2 x3 x4 x5 x6 x7 x8 x9
        refine hgd.out.mono ?_
        rintro e w5 ⟨rfl, hbb⟩
        replace hZ := Lib.hid (blk_below hZ.out hbb)
        replace hF := Lib.hid (blk_below hF.out hbb)
        replace hR := Lib.hid (hR.out.up hbb)
        replace hD := Lib.hid (hD.out.up hbb)
        replace hq := Lib.hid (hq.out.trans (hbb.mono hq.out.size))
        clear hbb
        clear hgd
        have hRt := Lib.hid (hR.out.take P (by have := hk.out; have := h4k.out; omega))
        have hlt : Hid ((b.take P).length = P) := Lib.hid (by rw [List.length_take]; have := hk.out; have := h4k.out; omega)
        go_wp2_with fail
        refine (rsum_at _ P c _ hlt.out _ hRt.out (by omega)).mono ?_
        rintro e wq ⟨rfl, rfl⟩
        clear hRt
        obtain ⟨sm, hsm⟩ : ∃ sm, crc (b.take P) = sm := ⟨_, rfl⟩
        rw [hsm]
        replace hsm := Lib.hid hsm
        go_wp2_with fail
        go_loop [7] (fun i => ∃ j : Nat, j ≤ 4 ∧ i = .int .i64 j ∧ Hid (∀ t, t < j → b[P + t]? = (bytes4 sm)[t]?)) (fun i => 4 - (intOf i).toNat)
        case atStart => exact ⟨0, Nat.zero_le _, rfl, Lib.hid (fun t ht => absurd ht (by omega))⟩
        case round =>
          obtain ⟨j, hj, rfl, hall⟩ := hrel
          by_cases hlt4 : j < 4
          · obtain ⟨x, hx⟩ : ∃ x, b[P + j]? = some x := ⟨b[P + j]'(by have := hk.out; have := h4k.out; omega), List.getElem?_eq_getElem (by have := hk.out; have := h4k.out; omega)⟩
            obtain ⟨ad', ead, -, cx⟩ := hR.out.get hx
            injection ead with ead
            subst ead
            rw [add_of] at cx
            have hi1 : (P : Int) + (j : Int) < (k : Int) := by have := h4k.out; omega
            by_cases hxe : x = lo8 (sm >>> (8 * j))
            · have hall2 : Hid (∀ t, t < j + 1 → b[P + t]? = (bytes4 sm)[t]?) := Lib.hid (all_succ hall.out (by rw [hx, b4_get sm j hlt4, hxe]))
              replace hx := Lib.hid hx
              have hxb : (x != lo8 (sm >>> (8 * j))) = false := by rw [hxe]; simp
              replace hxe := Lib.hid hxe
              go_wp2
              go_round
              case rel => exact ⟨j + 1, by omega, by go_num, hall2⟩
              case measure => simp [intOf]; omega
            · have hdn : Hid (decB b = none) := Lib.hid (by rw [hdec.out, if_neg (fun hh => not_seal hlt4 hx (by rw [hsm.out]; exact hxe) hh.2)])
              have hxb : (x != lo8 (sm >>> (8 * j))) = true := by simpa using hxe
              replace hx := Lib.hid hx
              replace hxe := Lib.hid hxe
              have z0 := blk_cell (j := 0) (v := .int .i64 0) hZ.out rfl
              have f0 := blk_free hZ.out 0
              have z1 := blk_cell (j := 1) (v := .int .i64 0) hZ.out rfl
              have f1 := blk_free hZ.out 1
              have z2 := blk_cell (j := 2) (v := .string ⟨#[]⟩) hZ.out rfl
              have f2 := blk_free hZ.out 2
              have z3 := blk_cell (j := 3) (v := .int .i64 0) hZ.out rfl
              have f3 := blk_free hZ.out 3
              have z4 := blk_cell (j := 4) (v := .int .i64 0) hZ.out rfl
              have f4 := blk_free hZ.out 4
              have z5 := blk_cell (j := 5) (v := .int .i64 0) hZ.out rfl
              have f5 := blk_free hZ.out 5
              have z6 := blk_cell (j := 6) (v := .int .i64 0) hZ.out rfl
              have f6 := blk_free hZ.out 6
              have z7 := blk_cell (j := 7) (v := .int .i64 0) hZ.out rfl
              have f7 := blk_free hZ.out 7
              have z8 := blk_cell (j := 8) (v := .string ⟨#[]⟩) hZ.out rfl
              have f8 := blk_free hZ.out 8
              have z9 := blk_cell (j := 9) (v := .slice none 0 0) hZ.out rfl
              have f9 := blk_free hZ.out 9
              go_wp2_with fail
              have hz := blk_set10 hZ.out (.int .i64 0) (.int .i64 0) (.string ⟨#[]⟩) (.int .i64 0) (.int .i64 0) (.int .i64 0) (.int .i64 0) (.int .i64 0) (.string ⟨#[]⟩) (.slice none 0 0)
              have hbz := setLo10 hq.out (Nat.le_refl w.heap.size) (.int .i64 0) (.int .i64 0) (.string ⟨#[]⟩) (.int .i64 0) (.int .i64 0) (.int .i64 0) (.int .i64 0) (.int .i64 0) (.string ⟨#[]⟩) (.slice none 0 0)
              obtain ⟨w10, hw10⟩ : ∃ w10, ((((((((((w5.setCell ⟨w.heap.size, 0, none⟩ (.int .i64 0)).setCell ⟨w.heap.size, 1, none⟩ (.int .i64 0)).setCell ⟨w.heap.size, 2, none⟩ (.string ⟨#[]⟩)).setCell ⟨w.heap.size, 3, none⟩ (.int .i64 0)).setCell ⟨w.heap.size, 4, none⟩ (.int .i64 0)).setCell ⟨w.heap.size, 5, none⟩ (.int .i64 0)).setCell ⟨w.heap.size, 6, none⟩ (.int .i64 0)).setCell ⟨w.heap.size, 7, none⟩ (.int .i64 0)).setCell ⟨w.heap.size, 8, none⟩ (.string ⟨#[]⟩)).setCell ⟨w.heap.size, 9, none⟩ (.slice none 0 0)) = w10 := ⟨_, rfl⟩
              rw [hw10] at hz hbz ⊢
              replace hw10 := Lib.hid hw10
              have r0 := blk_cell (j := 0) (v := .int .i64 0) hz rfl
              have r1 := blk_cell (j := 1) (v := .int .i64 0) hz rfl
              have r2 := blk_cell (j := 2) (v := .string ⟨#[]⟩) hz rfl
              have r3 := blk_cell (j := 3) (v := .int .i64 0) hz rfl
              have r4 := blk_cell (j := 4) (v := .int .i64 0) hz rfl
              have r5 := blk_cell (j := 5) (v := .int .i64 0) hz rfl
              have r6 := blk_cell (j := 6) (v := .int .i64 0) hz rfl
              have r7 := blk_cell (j := 7) (v := .int .i64 0) hz rfl
              have r8 := blk_cell (j := 8) (v := .string ⟨#[]⟩) hz rfl
              have r9 := blk_cell (j := 9) (v := .slice none 0 0) hz rfl
              exact bodyPost_ret (v := .tuple #[(.agg #[.int .i64 0, .int .i64 0, .string ⟨#[]⟩, .int .i64 0, .int .i64 0, .int .i64 0, .int .i64 0, .int .i64 0, .string ⟨#[]⟩, .slice none 0 0]), .int .i64 12]) (by simp [results, Try.results24, go_sem, r0, r1, r2, r3, r4, r5, r6, r7, r8, r9]) rfl (RDec.no hbz hdn.out)
          · obtain rfl : j = 4 := by omega
            have hdy : Hid (decB b = some (Rc.mk 2 0 ky n1 n2 n3 n4 n5 sm9 dt9)) := Lib.hid (by rw [hdec.out, if_pos ⟨hg.out, (seal_of (by have := hk.out; have := h4k.out; omega) (fun t ht => by rw [hsm.out]; exact hall.out t ht))⟩])
            have z0 := blk_cell (j := 0) (v := .int .i64 0) hZ.out rfl
            have f0 := blk_free hZ.out 0
            have z1 := blk_cell (j := 1) (v := .int .i64 0) hZ.out rfl
            have f1 := blk_free hZ.out 1
            have z2 := blk_cell (j := 2) (v := .string ⟨#[]⟩) hZ.out rfl
            have f2 := blk_free hZ.out 2
            have z3 := blk_cell (j := 3) (v := .int .i64 0) hZ.out rfl
            have f3 := blk_free hZ.out 3
            have z4 := blk_cell (j := 4) (v := .int .i64 0) hZ.out rfl
            have f4 := blk_free hZ.out 4
            have z5 := blk_cell (j := 5) (v := .int .i64 0) hZ.out rfl
            have f5 := blk_free hZ.out 5
            have z6 := blk_cell (j := 6) (v := .int .i64 0) hZ.out rfl
            have f6 := blk_free hZ.out 6
            have z7 := blk_cell (j := 7) (v := .int .i64 0) hZ.out rfl
            have f7 := blk_free hZ.out 7
            have z8 := blk_cell (j := 8) (v := .string ⟨#[]⟩) hZ.out rfl
            have f8 := blk_free hZ.out 8
            have z9 := blk_cell (j := 9) (v := .slice none 0 0) hZ.out rfl
            have f9 := blk_free hZ.out 9
            have y0 := blk_cell (j := 0) (v := .int .i64 2) hF.out rfl
            have y1 := blk_cell (j := 1) (v := .int .i64 0) hF.out rfl
            have y2 := blk_cell (j := 2) (v := .string (bs ky)) hF.out rfl
            have y3 := blk_cell (j := 3) (v := .int .i64 n1) hF.out rfl
            have y4 := blk_cell (j := 4) (v := .int .i64 n2) hF.out rfl
            have y5 := blk_cell (j := 5) (v := .int .i64 n3) hF.out rfl
            have y6 := blk_cell (j := 6) (v := .int .i64 n4) hF.out rfl
            have y7 := blk_cell (j := 7) (v := .int .i64 n5) hF.out rfl
            have y8 := blk_cell (j := 8) (v := .string (bs sm9)) hF.out rfl
            have y9 := blk_cell (j := 9) (v := .slice A9 16 c9) hF.out rfl
            go_wp2_with fail
            clear y0 y1 y2 y3 y4 y5 y6 y7 y8 y9
            clear z0 f0 z1 f1 z2 f2 z3 f3 z4 f4 z5 f5 z6 f6 z7 f7 z8 f8 z9 f9
            have hz := blk_set10 hZ.out (.int .i64 2) (.int .i64 0) (.string (bs ky)) (.int .i64 n1) (.int .i64 n2) (.int .i64 n3) (.int .i64 n4) (.int .i64 n5) (.string (bs sm9)) (.slice A9 16 c9)
            have hbz := setLo10 hq.out (Nat.le_refl w.heap.size) (.int .i64 2) (.int .i64 0) (.string (bs ky)) (.int .i64 n1) (.int .i64 n2) (.int .i64 n3) (.int .i64 n4) (.int .i64 n5) (.string (bs sm9)) (.slice A9 16 c9)
            have hdz := hD.out.recSet10 hZ.out (by rfl) (.int .i64 2) (.int .i64 0) (.string (bs ky)) (.int .i64 n1) (.int .i64 n2) (.int .i64 n3) (.int .i64 n4) (.int .i64 n5) (.string (bs sm9)) (.slice A9 16 c9)
            have hsz : ((((((((((w5.setCell ⟨w.heap.size, 0, none⟩ (.int .i64 2)).setCell ⟨w.heap.size, 1, none⟩ (.int .i64 0)).setCell ⟨w.heap.size, 2, none⟩ (.string (bs ky))).setCell ⟨w.heap.size, 3, none⟩ (.int .i64 n1)).setCell ⟨w.heap.size, 4, none⟩ (.int .i64 n2)).setCell ⟨w.heap.size, 5, none⟩ (.int .i64 n3)).setCell ⟨w.heap.size, 6, none⟩ (.int .i64 n4)).setCell ⟨w.heap.size, 7, none⟩ (.int .i64 n5)).setCell ⟨w.heap.size, 8, none⟩ (.string (bs sm9))).setCell ⟨w.heap.size, 9, none⟩ (.slice A9 16 c9)).heap.size = w5.heap.size := by simp
            obtain ⟨w10, hw10⟩ : ∃ w10, ((((((((((w5.setCell ⟨w.heap.size, 0, none⟩ (.int .i64 2)).setCell ⟨w.heap.size, 1, none⟩ (.int .i64 0)).setCell ⟨w.heap.size, 2, none⟩ (.string (bs ky))).setCell ⟨w.heap.size, 3, none⟩ (.int .i64 n1)).setCell ⟨w.heap.size, 4, none⟩ (.int .i64 n2)).setCell ⟨w.heap.size, 5, none⟩ (.int .i64 n3)).setCell ⟨w.heap.size, 6, none⟩ (.int .i64 n4)).setCell ⟨w.heap.size, 7, none⟩ (.int .i64 n5)).setCell ⟨w.heap.size, 8, none⟩ (.string (bs sm9))).setCell ⟨w.heap.size, 9, none⟩ (.slice A9 16 c9)) = w10 := ⟨_, rfl⟩
            rw [hw10] at hz hbz hdz hsz ⊢
            rw [← hsz] at hdz
            replace hw10 := Lib.hid hw10
            have r0 := blk_cell (j := 0) (v := .int .i64 2) hz rfl
            have r1 := blk_cell (j := 1) (v := .int .i64 0) hz rfl
            have r2 := blk_cell (j := 2) (v := .string (bs ky)) hz rfl
            have r3 := blk_cell (j := 3) (v := .int .i64 n1) hz rfl
            have r4 := blk_cell (j := 4) (v := .int .i64 n2) hz rfl
            have r5 := blk_cell (j := 5) (v := .int .i64 n3) hz rfl
            have r6 := blk_cell (j := 6) (v := .int .i64 n4) hz rfl
            have r7 := blk_cell (j := 7) (v := .int .i64 n5) hz rfl
            have r8 := blk_cell (j := 8) (v := .string (bs sm9)) hz rfl
            have r9 := blk_cell (j := 9) (v := .slice A9 16 c9) hz rfl
            exact bodyPost_ret (v := .tuple #[(.agg #[.int .i64 2, .int .i64 0, .string (bs ky), .int .i64 n1, .int .i64 n2, .int .i64 n3, .int .i64 n4, .int .i64 n5, .string (bs sm9), .slice A9 16 c9]), .int .i64 0]) (by simp [results, Try.results24, go_sem, r0, r1, r2, r3, r4, r5, r6, r7, r8, r9]) rfl (by have hyy := RDec.yes (A9 := A9) (c9 := c9) hbz hdy.out hdz; unfold Rc.agg at hyy; simp only [hdl.out] at hyy; exact hyy)
    · have hne : ((k : Int) != (Q : Int) + 32 + 16 + 4) = true := by simp; omega
      have hne2 : ((k : Int) != (Q : Int) + 52) = true := by simp; omega
      have hdn : Hid (decB b = none) := Lib.hid (by rw [hda, if_neg (fun hh => hkq (by have := hh.1; have := hk.out; omega))])
      replace hda := Lib.hid hda
      replace hkq := Lib.hid hkq
      go_enter Try.func24, Try.ntmps24
      go_wp2_with fail
      refine (hcw.out _ hR.out).mono ?_
      rintro e wx ⟨rfl, rfl⟩
      go_wp2_with fail
      refine (hc1.out _ (hRA.out.alloc2 (.cells #[.int .i64 0, .int .i64 0, .string ⟨#[]⟩, .int .i64 0, .int .i64 0, .int .i64 0, .int .i64 0, .int .i64 0, .string ⟨#[]⟩, .slice none 0 0] 34) (.cells #[.int .i64 2, .int .i64 0, .string (bs ky), .int .i64 0, .int .i64 0, .int .i64 0, .int .i64 0, .int .i64 0, .string ⟨#[]⟩, .slice none 0 0] 34))).mono ?_
      rintro e wx ⟨rfl, rfl⟩
      go_wp2_with fail
      refine (hc2.out _ (hRA.out.alloc2 (.cells #[.int .i64 0, .int .i64 0, .string ⟨#[]⟩, .int .i64 0, .int .i64 0, .int .i64 0, .int .i64 0, .int .i64 0, .string ⟨#[]⟩, .slice none 0 0] 34) (.cells #[.int .i64 2, .int .i64 0, .string (bs ky), .int .i64 n1, .int .i64 0, .int .i64 0, .int .i64 0, .int .i64 0, .string ⟨#[]⟩, .slice none 0 0] 34))).mono ?_
      rintro e wx ⟨rfl, rfl⟩
      go_wp2_with fail
      refine (hc3.out _ (hRA.out.alloc2 (.cells #[.int .i64 0, .int .i64 0, .string ⟨#[]⟩, .int .i64 0, .int .i64 0, .int .i64 0, .int .i64 0, .int .i64 0, .string ⟨#[]⟩, .slice none 0 0] 34) (.cells #[.int .i64 2, .int .i64 0, .string (bs ky), .int .i64 n1, .int .i64 n2, .int .i64 0, .int .i64 0, .int .i64 0, .string ⟨#[]⟩, .slice none 0 0] 34))).mono ?_
      rintro e wx ⟨rfl, rfl⟩
      go_wp2_with fail
      refine (hc4.out _ (hRA.out.alloc2 (.cells #[.int .i64 0, .int .i64 0, .string ⟨#[]⟩, .int .i64 0, .int .i64 0, .int .i64 0, .int .i64 0, .int .i64 0, .string ⟨#[]⟩, .slice none 0 0] 34) (.cells #[.int .i64 2, .int .i64 0, .string (bs ky), .int .i64 n1, .int .i64 n2, .int .i64 n3, .int .i64 0, .int .i64 0, .string ⟨#[]⟩, .slice none 0 0] 34))).mono ?_
      rintro e wx ⟨rfl, rfl⟩
      go_wp2_with fail
      refine (hc5.out _ (hRA.out.alloc2 (.cells #[.int .i64 0, .int .i64 0, .string ⟨#[]⟩, .int .i64 0, .int .i64 0, .int .i64 0, .int .i64 0, .int .i64 0, .string ⟨#[]⟩, .slice none 0 0] 34) (.cells #[.int .i64 2, .int .i64 0, .string (bs ky), .int .i64 n1, .int .i64 n2, .int .i64 n3, .int .i64 n4, .int .i64 0, .string ⟨#[]⟩, .slice none 0 0] 34))).mono ?_
      rintro e wx ⟨rfl, rfl⟩
      rw [show atv (some Q) = (Q : Int) from rfl]
      go_wp2_with fail
      have hz := blk_alloc (heap_alloc_new w (.cells #[.int .i64 0, .int .i64 0, .string ⟨#[]⟩, .int .i64 0, .int .i64 0, .int .i64 0, .int .i64 0, .int .i64 0, .string ⟨#[]⟩, .slice none 0 0] 34)) (.cells #[.int .i64 2, .int .i64 0, .string (bs ky), .int .i64 n1, .int .i64 n2, .int .i64 n3, .int .i64 n4, .int .i64 n5, .string ⟨#[]⟩, .slice none 0 0] 34)
      have hb1 := (Below.refl w.heap.size w).alloc (Nat.le_refl _) (.cells #[.int .i64 0, .int .i64 0, .string ⟨#[]⟩, .int .i64 0, .int .i64 0, .int .i64 0, .int .i64 0, .int .i64 0, .string ⟨#[]⟩, .slice none 0 0] 34)
      have hbz := hb1.alloc hb1.size (.cells #[.int .i64 2, .int .i64 0, .string (bs ky), .int .i64 n1, .int .i64 n2, .int .i64 n3, .int .i64 n4, .int .i64 n5, .string ⟨#[]⟩, .slice none 0 0] 34)
      obtain ⟨w7, hw7⟩ : ∃ w7, ((w.alloc (.cells #[.int .i64 0, .int .i64 0, .string ⟨#[]⟩, .int .i64 0, .int .i64 0, .int .i64 0, .int .i64 0, .int .i64 0, .string ⟨#[]⟩, .slice none 0 0] 34)).alloc (.cells #[.int .i64 2, .int .i64 0, .string (bs ky), .int .i64 n1, .int .i64 n2, .int .i64 n3, .int .i64 n4, .int .i64 n5, .string ⟨#[]⟩, .slice none 0 0] 34)) = w7 := ⟨_, rfl⟩
      rw [hw7] at hz hbz ⊢
      replace hw7 := Lib.hid hw7
      have r0 := blk_cell (j := 0) (v := .int .i64 0) hz rfl
      have r1 := blk_cell (j := 1) (v := .int .i64 0) hz rfl
      have r2 := blk_cell (j := 2) (v := .string ⟨#[]⟩) hz rfl
      have r3 := blk_cell (j := 3) (v := .int .i64 0) hz rfl
      have r4 := blk_cell (j := 4) (v := .int .i64 0) hz rfl
      have r5 := blk_cell (j := 5) (v := .int .i64 0) hz rfl
      have r6 := blk_cell (j := 6) (v := .int .i64 0) hz rfl
      have r7 := blk_cell (j := 7) (v := .int .i64 0) hz rfl
      have r8 := blk_cell (j := 8) (v := .string ⟨#[]⟩) hz rfl
      have r9 := blk_cell (j := 9) (v := .slice none 0 0) hz rfl
      exact bodyPost_ret (v := .tuple #[(.agg #[.int .i64 0, .int .i64 0, .string ⟨#[]⟩, .int .i64 0, .int .i64 0, .int .i64 0, .int .i64 0, .int .i64 0, .string ⟨#[]⟩, .slice none 0 0]), .int .i64 12]) (by simp [results, Try.results24, go_sem, r0, r1, r2, r3, r4, r5, r6, r7, r8, r9]) rfl (RDec.no hbz hdn.out)
end Go.Proofs.Yticdkmnjolkacab
