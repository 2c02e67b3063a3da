/- The laws of label: LabelTurned, LabelCut. -/
import Derived.Test.YticdkmnjolkacabLab16
namespace Go.Proofs.Yticdkmnjolkacab
set_option linter.unusedVariables false
set_option linter.unusedSimpArgs false
open Go Go.RowKit
theorem flds_pre {a b : Rc} (ha : goodB a = true) (hb : goodB b = true) {x y : List UInt8} (h : flds a ++ x = flds b ++ y) : a = b ∧ x = y := by
  unfold flds at h
  simp only [List.cons_append] at h
  injection h with _ h
  injection h with hk h
  have hkk : a.kind = b.kind := by
    have h2 := congrArg UInt8.toNat hk
    rw [UInt8.toNat_ofNat', UInt8.toNat_ofNat'] at h2
    rcases good_kind ha with h3 | h3 | h3 <;> rcases good_kind hb with h4 | h4 | h4 <;> rw [h3, h4] at h2 <;> first | omega | (exfalso; revert h2; decide)
  rcases good_kind ha with h3 | h3 | h3
  · have h4 : b.kind = 1 := by rw [← hkk]; exact h3
    obtain ⟨a1, a2, a3⟩ := good1 ha h3
    obtain ⟨b1, b2, b3⟩ := good1 hb h4
    unfold body at h
    rw [if_pos h3, if_pos h4] at h
    obtain ⟨h6, h7⟩ := num_pre a1 (by omega) b1 (by omega) h
    refine ⟨?_, h7⟩
    rw [a3, b3]
    unfold bare1
    rw [hkk, h6]
  · have h4 : b.kind = 2 := by rw [← hkk]; exact h3
    obtain ⟨ac, ak, ag, as_, agr, agp, ai, asl, adl, agg1, agg2⟩ := good2 ha h3
    obtain ⟨bc, bk, bg, bs_, bgr, bgp, bi, bsl, bdl, bgg1, bgg2⟩ := good2 hb h4
    unfold body at h
    rw [if_neg (by omega), if_neg (by omega), if_neg (by omega), if_neg (by omega)] at h
    simp only [List.append_assoc] at h
    obtain ⟨e1, h⟩ := key_pre ak.2 bk.2 h
    obtain ⟨e2, h⟩ := num_pre ag.1 ag.2 bg.1 bg.2 h
    obtain ⟨e3, h⟩ := num_pre agp.1 (by omega) bgp.1 (by omega) h
    obtain ⟨e4, h⟩ := num_pre (by omega) (by omega) (by omega) (by omega) h
    obtain ⟨e5, h⟩ := num_pre ai.1 (by omega) bi.1 (by omega) h
    obtain ⟨e6, h⟩ := num_pre as_.1 (by omega) bs_.1 (by omega) h
    obtain ⟨e7, h⟩ := List.append_inj h (by omega)
    obtain ⟨e8, h⟩ := List.append_inj h (by omega)
    refine ⟨?_, h⟩
    cases a
    cases b
    simp only at *
    simp [hkk, ac, bc, e1, e2, e3, e4, e5, e6, e7, e8]
  · have h4 : b.kind = 3 := by rw [← hkk]; exact h3
    obtain ⟨a1, a2, a3, a4⟩ := good3 ha h3
    obtain ⟨b1, b2, b3, b4⟩ := good3 hb h4
    unfold body at h
    rw [if_neg (by omega), if_pos h3, if_neg (by omega), if_pos h4] at h
    simp only [List.append_assoc] at h
    obtain ⟨e1, h⟩ := key_pre a1.2 b1.2 h
    obtain ⟨e2, h⟩ := num_pre a2 a3 b2 b3 h
    refine ⟨?_, h⟩
    rw [a4, b4]
    unfold bare3
    rw [hkk, e1, e2]
theorem enc_prefix {a b : Rc} (ha : goodB a = true) (hb : goodB b = true) {t : List UInt8} (h : encB a ++ t = encB b) : t = [] := by
  unfold encB at h
  rw [List.append_assoc] at h
  obtain ⟨e, h⟩ := flds_pre ha hb h
  subst e
  have := congrArg List.length h
  rw [List.length_append] at this
  exact List.eq_nil_of_length_eq_zero (by omega)
theorem decB_take {r : Rc} (hg : goodB r = true) {k : Nat} (hk : k < (encB r).length) : decB ((encB r).take k) = none := by
  cases h : decB ((encB r).take k) with
  | none => rfl
  | some q =>
    obtain ⟨hq, he⟩ := decB_iff.mp h
    have h2 := enc_prefix hq hg (t := (encB r).drop k) (by rw [he, List.take_append_drop])
    have h3 := congrArg List.length h2
    rw [List.length_drop] at h3
    simp only [List.length_nil] at h3
    omega
theorem decB_more {r : Rc} (hg : goodB r = true) {t : List UInt8} (ht : t ≠ []) : decB (encB r ++ t) = none := by
  cases h : decB (encB r ++ t) with
  | none => rfl
  | some q =>
    obtain ⟨hq, he⟩ := decB_iff.mp h
    exact absurd (enc_prefix hg hq he.symm) ht
/-- the burst: four rounds -/
def burst (x : List UInt8) (at_ : Nat) (t : BitVec 32) : Nat → List UInt8
  | 0 => x
  | k + 1 => if h : at_ + k < (burst x at_ t k).length then (burst x at_ t k).set (at_ + k) ((burst x at_ t k)[at_ + k] ^^^ lo8 (t >>> (8 * k))) else burst x at_ t k
theorem burst_length (x : List UInt8) (at_ : Nat) (t : BitVec 32) (k : Nat) : (burst x at_ t k).length = x.length := by
  induction k with
  | zero => rfl
  | succ k ih =>
    unfold burst
    split
    · rw [List.length_set, ih]
    · exact ih
theorem burst_far (x : List UInt8) (at_ : Nat) (t : BitVec 32) (k i : Nat) (h : i < at_ ∨ at_ + k ≤ i) : (burst x at_ t k)[i]? = x[i]? := by
  induction k with
  | zero => rfl
  | succ k ih =>
    unfold burst
    split
    · rw [List.getElem?_set_ne (by omega)]
      exact ih (by omega)
    · exact ih (by omega)
theorem crc_enc (q : Rc) : crc (encB q) = ~~~ (rep sft 32 4294967295#32) := crc_sealed _
set_option maxHeartbeats 8000000 in
set_option maxRecDepth 20000 in
theorem labelCut_any (r : Rc) (A : Option Addr) (c : Nat) (hok : r.Ok) (n : Nat) (hn : n ≤ 255) (A1 : Option Addr) (n1 c1 : Nat) (b : List UInt8) (hnb : b.length = n1) (hl : n1 ≤ 140737488354000) (w : World) (h : Rd w w.heap.size A r.data) (h1 : Rd w w.heap.size A1 b) :
    Calls Try.prog 9 #[r.agg A c, .int .u8 n, .slice A1 n1 c1] w fun e w' => e = .returned (.bool true) ∧ Below w.heap.size w w' := by
  have hbb := (Below.refl w.heap.size w).alloc (Nat.le_refl _) (.cells #[.int .i64 r.kind, .int .i64 r.cart, .string (bs r.key), .int .i64 r.gen, .int .i64 r.group, .int .i64 r.groups, .int .i64 r.index, .int .i64 r.size, .string (bs r.sum), .slice A r.data.length c] 34)
  have hR := Lib.hid (h.up hbb)
  have hB := Lib.hid (h1.up hbb)
  have hX := Lib.hid (heap_alloc_new w (.cells #[.int .i64 r.kind, .int .i64 r.cart, .string (bs r.key), .int .i64 r.gen, .int .i64 r.group, .int .i64 r.groups, .int .i64 r.index, .int .i64 r.size, .string (bs r.sum), .slice A r.data.length c] 34))
  have hq := Lib.hid hbb
  clear hbb h h1
  replace hok := Lib.hid hok
  replace hnb := Lib.hid hnb
  cases hg : goodB r with
  | false =>
    have he := Lib.hid (encode_no r A c hok.out hg _ hR.out)
    replace hg := Lib.hid hg
    unfold Rc.agg at he ⊢
    go_enter Try.func9, Try.ntmps9
    go_wp2_with fail
    refine he.out.mono ?_
    rintro e w1 ⟨rfl, hbb⟩
    replace hR := Lib.hid (hR.out.up hbb)
    replace hB := Lib.hid (hB.out.up hbb)
    replace hX := Lib.hid (blk_below hX.out hbb)
    replace hq := Lib.hid (hq.out.trans (hbb.mono hq.out.size))
    clear hbb
    clear he
    go_wp2_with fail
    refine (awake09_any _).mono ?_
    rintro e w7 ⟨rfl, hbb⟩
    replace hR := Lib.hid (hR.out.up hbb)
    replace hB := Lib.hid (hB.out.up hbb)
    replace hX := Lib.hid (blk_below hX.out hbb)
    replace hq := Lib.hid (hq.out.trans (hbb.mono hq.out.size))
    clear hbb
    go_wp2_with fail
    go_ret
    exact ⟨rfl, hq.out⟩
  | true =>
    have he := Lib.hid (encode_ok r A c hok.out hg _ hR.out)
    have hel := encB_len hg
    have hdr := Lib.hid (decB_enc hg)
    replace hg := Lib.hid hg
    unfold Rc.agg at he ⊢
    go_enter Try.func9, Try.ntmps9
    go_wp2_with fail
    refine he.out.mono ?_
    rintro e w1 ⟨v1, rfl, ho, hbb⟩
    obtain ⟨A8, c8, rfl, hc8, hm8, hE, -⟩ := ho.form
    obtain ⟨n8, hn8⟩ : ∃ n8, (encB r).length = n8 := ⟨_, rfl⟩
    have hn6 : 6 ≤ n8 := by rw [← hn8]; exact (decB_some hdr.out).1
    rw [hn8] at hel hc8 ⊢
    replace hn8 := Lib.hid hn8
    unfold maxLen at hm8
    replace hE := Lib.hid hE
    clear ho he
    replace hR := Lib.hid (hR.out.up hbb)
    replace hB := Lib.hid (hB.out.up hbb)
    replace hX := Lib.hid (blk_below hX.out hbb)
    replace hq := Lib.hid (hq.out.trans (hbb.mono hq.out.size))
    clear hbb
    clear hX hR
    obtain ⟨x, hx⟩ : ∃ x, encB r = x := ⟨_, rfl⟩
    rw [hx] at hE hn8 hdr
    obtain ⟨k, hk⟩ : ∃ k, n % n8 = k := ⟨_, rfl⟩
    have hkl : k < n8 := by rw [← hk]; exact Nat.mod_lt _ (by omega)
    have hdt := decB_take hg.out (k := k) (by rw [hx, hn8.out]; exact hkl)
    rw [hx] at hdt
    have hkw : (n : Int).tmod (n8 : Int) = (k : Int) := by rw [← hk]; exact (Int.tmod_eq_emod_of_nonneg (by omega)).trans (by simp)
    have hkw2 : (n : Int) % (n8 : Int) = (k : Int) := by rw [← hk]; simp
    have hd0 : ((n8 : Int) == 0) = false := by rw [beq_eq_false_iff_ne]; omega
    have hd0' : ¬ (n8 = 0) := by omega
    have hkc : k ≤ c8 := by omega
    have hlt : (x.take k).length = k := by rw [List.length_take, hn8.out]; omega
    replace hk := Lib.hid hk
    replace hx := Lib.hid hx
    have hT := Lib.hid (hE.out.take k (by rw [hn8.out]; omega))
    have hd := Lib.hid (decode_none A8 k c8 (x.take k) hlt (by omega) hkc (by unfold maxLen; exact hm8) hdt _ hT.out)
    replace hdt := Lib.hid hdt
    replace hlt := Lib.hid hlt
    go_wp2_with fail
    refine hd.out.mono ?_
    rintro e w2 ⟨rfl, hbb⟩
    replace hB := Lib.hid (hB.out.up hbb)
    replace hq := Lib.hid (hq.out.trans (hbb.mono hq.out.size))
    replace hE := Lib.hid (hE.out.up hbb)
    replace hT := Lib.hid (hT.out.up hbb)
    clear hbb
    clear hd hT
    have hbb := (Below.refl _ w2).alloc (Nat.le_refl _) (.cells #[.int .i64 0, .int .i64 0, .string ⟨#[]⟩, .int .i64 0, .int .i64 0, .int .i64 0, .int .i64 0, .int .i64 0, .string ⟨#[]⟩, .slice none 0 0] 34)
    replace hB := Lib.hid (hB.out.up hbb)
    replace hq := Lib.hid (hq.out.trans (hbb.mono hq.out.size))
    replace hE := Lib.hid (hE.out.up hbb)
    clear hbb
    obtain ⟨w3, hw3⟩ : ∃ w3, w2.alloc (.cells #[.int .i64 0, .int .i64 0, .string ⟨#[]⟩, .int .i64 0, .int .i64 0, .int .i64 0, .int .i64 0, .int .i64 0, .string ⟨#[]⟩, .slice none 0 0] 34) = w3 := ⟨_, rfl⟩
    have hsz : w2.heap.size + 1 = w3.heap.size := by rw [← hw3]; simp
    rw [hw3] at hE hB hq
    replace hw3 := Lib.hid hw3
    replace hsz := Lib.hid hsz
    have ho := Lib.hid (OB.empty w3 w3.heap.size (Nat.le_refl _))
    have hlx : ([] ++ x).length = n8 := by rw [List.nil_append, hn8.out]
    replace hlx := Lib.hid hlx
    have hl5 : (x ++ b).length = n8 + n1 := by rw [List.length_append, hn8.out, hnb.out]
    replace hl5 := Lib.hid hl5
    go_wp2_with (first | (at_builtin; rw [hw3.out]; rw [hsz.out]; go_must (refine wpl_append rfl (.tmp 36) (.tmp 37) rfl w3.heap.size (.slice (some ⟨w3.heap.size, 0, none⟩) 0 0) [] rfl ho.out _ A8 c8 x (by rw [hn8.out]; rfl) (hE.out.up ((Below.refl _ w3).alloc (Nat.le_refl _) _)) (by rw [hn8.out]; simp; omega) (by simp) ?_); intro v4 w4 ho4 hg4 _; have hb4 := Lib.hid (below_app ho.out ((Below.refl _ w3).alloc (Nat.le_refl _) (.cells #[] 5)) (by simp) hg4); rw [List.nil_append] at ho4; replace ho4 := Lib.hid ho4; clear hg4) | (at_builtin; go_must (refine wpl_append rfl (.tmp 38) (.tmp 39) rfl w3.heap.size v4 x rfl ho4.out _ A1 c1 b (by rw [hnb.out]; rfl) (hB.out.up hb4.out) (by rw [hn8.out, hnb.out]; omega) hb4.out.size ?_); intro v5 w5 ho5 hg5 _; have hb5 := below_app ho4.out hb4.out hb4.out.size hg5; obtain ⟨A5, c5, rfl, hc5, hm5, hE5, -⟩ := ho5.form; rw [hl5.out] at hc5 ⊢; replace hE5 := Lib.hid hE5; clear hg5 ho5))
    have hbb := hb5
    replace hB := Lib.hid (hB.out.up hbb)
    replace hq := Lib.hid (hq.out.trans (hbb.mono hq.out.size))
    clear hbb
    clear hb5
    unfold maxLen at hm5
    by_cases hb0 : b = []
    · subst hb0
      have hz : n1 = 0 := by have := hnb.out; simpa using this.symm
      have hd := Lib.hid (decode_some A5 (n8 + n1) c5 (x ++ []) hl5.out (by omega) hc5 (by unfold maxLen; exact hm5) r (by rw [List.append_nil]; exact hdr.out) _ hE5.out)
      have hd1 : ((n1 : Int) == 0) = true := by rw [beq_iff_eq]; omega
      replace hz := Lib.hid hz
      unfold Rc.agg at hd
      go_wp2_with fail
      refine hd.out.mono ?_
      rintro e w6 ⟨A9, c9, rfl, -, hbb⟩
      replace hB := Lib.hid (hB.out.up hbb)
      replace hq := Lib.hid (hq.out.trans (hbb.mono hq.out.size))
      replace hE5 := Lib.hid (hE5.out.up hbb)
      clear hbb
      clear hd
      go_wp2_with fail
      replace hq := Lib.hid (hq.out.alloc hq.out.size (.cells #[.int .i64 r.kind, .int .i64 r.cart, .string (bs r.key), .int .i64 r.gen, .int .i64 r.group, .int .i64 r.groups, .int .i64 r.index, .int .i64 r.size, .string (bs r.sum), .slice A9 r.data.length c9] 34))
      refine (awake09_any _).mono ?_
      rintro e w8 ⟨rfl, hbb⟩
      replace hq := Lib.hid (hq.out.trans (hbb.mono hq.out.size))
      clear hbb
      go_wp2_with fail
      go_ret
      exact ⟨rfl, hq.out⟩
    · have hdm := decB_more hg.out hb0
      rw [hx.out] at hdm
      have hd := Lib.hid (decode_none A5 (n8 + n1) c5 (x ++ b) hl5.out (by omega) hc5 (by unfold maxLen; exact hm5) hdm _ hE5.out)
      have hd1 : ((n1 : Int) == 0) = false := by rw [beq_eq_false_iff_ne]; intro e; exact hb0 (List.eq_nil_of_length_eq_zero (by have := hnb.out; omega))
      clear hdm
      replace hb0 := Lib.hid hb0
      go_wp2_with fail
      refine hd.out.mono ?_
      rintro e w6 ⟨rfl, hbb⟩
      replace hB := Lib.hid (hB.out.up hbb)
      replace hq := Lib.hid (hq.out.trans (hbb.mono hq.out.size))
      replace hE5 := Lib.hid (hE5.out.up hbb)
      clear hbb
      clear hd
      go_wp2_with fail
      replace hq := Lib.hid (hq.out.alloc hq.out.size (.cells #[.int .i64 0, .int .i64 0, .string ⟨#[]⟩, .int .i64 0, .int .i64 0, .int .i64 0, .int .i64 0, .int .i64 0, .string ⟨#[]⟩, .slice none 0 0] 34))
      refine (awake09_any _).mono ?_
      rintro e w8 ⟨rfl, hbb⟩
      replace hq := Lib.hid (hq.out.trans (hbb.mono hq.out.size))
      clear hbb
      go_wp2_with fail
      go_ret
      exact ⟨rfl, hq.out⟩
end Go.Proofs.Yticdkmnjolkacab
