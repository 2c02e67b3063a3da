/- The law of blob: the shards; what is plain of it. -/
import Derived.Test.YtdgkcgiknfjpjaaBl9
import Derived.Test.YtdgkcgiknfjpjaaBl13
import Derived.Test.YtdgkcgiknfjpjaaLbC
import Derived.Test.YtdgkcgiknfjpjaaRs6
namespace Go.Proofs.Ytdgkcgiknfjpjaa
set_option linter.unusedVariables false
set_option linter.unusedSimpArgs false
open Go Go.RowKit
/-- how many of the first k lack -/
def cntP (P : Nat → Bool) (k : Nat) : Nat := ((List.range k).filter P).length
theorem cntP_next (P : Nat → Bool) (k : Nat) : cntP P (k + 1) = cntP P k + (if P k = true then 1 else 0) := by
  unfold cntP
  rw [List.range_succ, List.filter_append, List.length_append]
  by_cases h : P k = true
  · rw [if_pos h, List.filter_cons_of_pos h]; rfl
  · rw [if_neg h, List.filter_cons_of_neg h]; rfl
theorem cntP_le (P : Nat → Bool) (k : Nat) : cntP P k ≤ k := by
  unfold cntP
  have := List.length_filter_le P (List.range k)
  rw [List.length_range] at this
  exact this
theorem pidx_cnt (M : Mx) (P : Nat → Bool) : (pidx (tabN 10 16 M P) 10).length + cntP P 10 = 10 := by
  rw [tabN_pidx 10 (Nat.le_refl _)]
  unfold cntP
  generalize 10 = k
  induction k with
  | zero => rfl
  | succ k ih =>
    rw [List.range_succ, List.filter_append, List.filter_append, List.length_append, List.length_append]
    by_cases h : P k = true
    · rw [List.filter_cons_of_pos (p := P) h, List.filter_cons_of_neg (p := fun r => !P r) (by simp [h])]
      simp only [List.filter_nil, List.length_nil, List.length_cons]
      omega
    · rw [List.filter_cons_of_neg (p := P) h, List.filter_cons_of_pos (p := fun r => !P r) (by simp [h])]
      simp only [List.filter_nil, List.length_nil, List.length_cons]
      omega
/-- what is made of the shards, some lacking -/
theorem shards_some {l : List UInt8} (hl : l.length = 128) {P : Nat → Bool} (h : cntP P 10 ≤ 2) {D : Mx} (hs : Solves (tabN 10 16 (encM l) P) D) : flat 8 16 D = l :=
  dec_back hl (by have := pidx_cnt (encM l) P; omega) hs
/-- a record of a blob may be -/
theorem rec1_good {p : Rp} (hn : nameOk p.key p.gen = true) (h5 : p.l.length ≤ 512) (hq : ngrp p.l.length = p.q) {k i : Nat} (hk : k < p.q) (hi : i < 10) : goodB (rec1 p k k i) = true := by
  obtain ⟨hg, h1, h4, h6⟩ := ngrp_spec h5
  rw [hq] at hg h1 h4
  unfold goodB rec1
  rw [if_neg (show ¬ ((2 : Int) = 1) by decide), if_neg (show ¬ ((2 : Int) = 3) by decide), if_pos rfl]
  unfold nameB shardB
  unfold nameOk at hn
  simp only [row_length, dg_length]
  rw [hn, hg]
  unfold inB
  simp
  omega
theorem rec1_ok {p : Rp} (hkl : p.key.length ≤ maxLen) (hg : R64 p.gen) (h5 : p.l.length ≤ 512) (h4 : p.q ≤ 4) {k i : Nat} (hk : k < p.q) (hi : i < 10) : (rec1 p k k i).Ok := by
  unfold R64 at hg
  refine ⟨?_, ?_, hg, ?_, ?_, ?_, ?_, hkl, ?_⟩
  · exact ⟨by show (-9223372036854775808 : Int) ≤ 2; omega, by show (2 : Int) ≤ 9223372036854775807; omega⟩
  · exact ⟨by show (-9223372036854775808 : Int) ≤ 0; omega, by show (0 : Int) ≤ 9223372036854775807; omega⟩
  · exact ⟨by show (-9223372036854775808 : Int) ≤ (k : Int); omega, by show (k : Int) ≤ 9223372036854775807; omega⟩
  · exact ⟨by show (-9223372036854775808 : Int) ≤ (p.q : Int); omega, by show (p.q : Int) ≤ 9223372036854775807; omega⟩
  · exact ⟨by show (-9223372036854775808 : Int) ≤ (i : Int); omega, by show (i : Int) ≤ 9223372036854775807; omega⟩
  · exact ⟨by show (-9223372036854775808 : Int) ≤ (p.l.length : Int); omega, by show (p.l.length : Int) ≤ 9223372036854775807; omega⟩
  · show (dg p.l).length ≤ maxLen
    rw [dg_length]
    decide
end Go.Proofs.Ytdgkcgiknfjpjaa
