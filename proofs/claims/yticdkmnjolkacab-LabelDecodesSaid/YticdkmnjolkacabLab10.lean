/- Records of label: unlike records have unlike bytes. -/
import Derived.Test.YticdkmnjolkacabLab9
namespace Go.Proofs.Yticdkmnjolkacab
set_option linter.unusedVariables false
open Go Go.RowKit
theorem enc_pre {n m : Nat} (hn : n ≤ 9223372036854775807) (hm : m ≤ 9223372036854775807) {l l' : List UInt8} (h : enc n ++ l = enc m ++ l') : n = m ∧ l = l' := by
  have h1 := lead_enc n hn l
  rw [h, lead_enc m hm l'] at h1
  injection h1 with h1
  injection h1 with h1 _
  subst h1
  exact ⟨rfl, List.append_cancel_left h⟩
theorem key_pre {k k' l l' : List UInt8} (hk : k.length ≤ 16) (hk' : k'.length ≤ 16) (h : enc k.length ++ (k ++ l) = enc k'.length ++ (k' ++ l')) : k = k' ∧ l = l' := by
  obtain ⟨h1, h2⟩ := enc_pre (by omega) (by omega) h
  exact List.append_inj h2 h1
theorem num_pre {x y : Int} (hx : 0 ≤ x) (hx2 : x ≤ 1099511627776) (hy : 0 ≤ y) (hy2 : y ≤ 1099511627776) {l l' : List UInt8} (h : enc x.toNat ++ l = enc y.toNat ++ l') : x = y ∧ l = l' := by
  obtain ⟨h1, h2⟩ := enc_pre (by omega) (by omega) h
  exact ⟨by omega, h2⟩
theorem flds_inj {a b : Rc} (ha : goodB a = true) (hb : goodB b = true) (h : flds a = flds b) : a = b := by
  unfold flds at h
  injection h with _ h
  injection h with hk h
  have hkk : a.kind = b.kind := by
    have h2 := congrArg UInt8.toNat hk
    rw [UInt8.toNat_ofNat', UInt8.toNat_ofNat'] at h2
    rcases good_kind ha with h3 | h3 | h3 <;> rcases good_kind hb with h4 | h4 | h4 <;> rw [h3, h4] at h2 <;> first | omega | (exfalso; revert h2; decide)
  rcases good_kind ha with h3 | h3 | h3
  · have h4 : b.kind = 1 := by rw [← hkk]; exact h3
    obtain ⟨a1, a2, a3⟩ := good1 ha h3
    obtain ⟨b1, b2, b3⟩ := good1 hb h4
    unfold body at h
    rw [if_pos h3, if_pos h4] at h
    have h5 : enc a.cart.toNat ++ [] = enc b.cart.toNat ++ [] := by simpa using h
    obtain ⟨h6, -⟩ := num_pre a1 (by omega) b1 (by omega) h5
    rw [a3, b3]
    unfold bare1
    rw [hkk, h6]
  · have h4 : b.kind = 2 := by rw [← hkk]; exact h3
    obtain ⟨ac, ak, ag, as_, agr, agp, ai, asl, adl, agg1, agg2⟩ := good2 ha h3
    obtain ⟨bc, bk, bg, bs_, bgr, bgp, bi, bsl, bdl, bgg1, bgg2⟩ := good2 hb h4
    unfold body at h
    rw [if_neg (by omega), if_neg (by omega), if_neg (by omega), if_neg (by omega)] at h
    simp only [List.append_assoc] at h
    obtain ⟨e1, h⟩ := key_pre ak.2 bk.2 h
    obtain ⟨e2, h⟩ := num_pre ag.1 ag.2 bg.1 bg.2 h
    obtain ⟨e3, h⟩ := num_pre agp.1 (by omega) bgp.1 (by omega) h
    obtain ⟨e4, h⟩ := num_pre (by omega) (by omega) (by omega) (by omega) h
    obtain ⟨e5, h⟩ := num_pre ai.1 (by omega) bi.1 (by omega) h
    obtain ⟨e6, h⟩ := num_pre as_.1 (by omega) bs_.1 (by omega) h
    obtain ⟨e7, e8⟩ := List.append_inj h (by omega)
    cases a
    cases b
    simp only at *
    simp [hkk, ac, bc, e1, e2, e3, e4, e5, e6, e7, e8]
  · have h4 : b.kind = 3 := by rw [← hkk]; exact h3
    obtain ⟨a1, a2, a3, a4⟩ := good3 ha h3
    obtain ⟨b1, b2, b3, b4⟩ := good3 hb h4
    unfold body at h
    rw [if_neg (by omega), if_pos h3, if_neg (by omega), if_pos h4] at h
    simp only [List.append_assoc] at h
    obtain ⟨e1, h⟩ := key_pre a1.2 b1.2 h
    have h5 : enc a.gen.toNat ++ [] = enc b.gen.toNat ++ [] := by simpa using h
    obtain ⟨e2, -⟩ := num_pre a2 a3 b2 b3 h5
    rw [a4, b4]
    unfold bare3
    rw [hkk, e1, e2]
theorem encB_inj {a b : Rc} (ha : goodB a = true) (hb : goodB b = true) : (encB a == encB b) = sameR a b := by
  unfold sameR
  rw [Bool.eq_iff_iff, beq_iff_eq, decide_eq_true_iff]
  refine ⟨fun h => flds_inj ha hb ?_, fun h => by rw [h]⟩
  unfold encB at h
  exact (List.append_inj' h rfl).1
end Go.Proofs.Yticdkmnjolkacab
