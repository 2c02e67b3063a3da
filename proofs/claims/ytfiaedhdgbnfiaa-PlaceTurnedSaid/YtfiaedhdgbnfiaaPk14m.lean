/- place: what is true of the picked. -/
import Derived.Test.YtfiaedhdgbnfiaaPk12
import Derived.Test.YtfiaedhdgbnfiaaPk8
namespace Go.Proofs.Ytfiaedhdgbnfiaa
set_option linter.unusedVariables false
set_option linter.unusedSimpArgs false
open Go Go.RowKit
theorem Ints.cells {l : List Int} {A : Option Addr} {n c : Nat} {w : World} (h : Ints l (.slice A n c) w) (hp : 0 < n) : ∃ b o, A = some ⟨b, o, none⟩ ∧ b < w.heap.size ∧ ∀ i x, l[i]? = some x → w.cell? ⟨b, o + i, none⟩ = some (.int .i64 x) := by
  obtain ⟨A', c', e, -, -, h3, -⟩ := h
  injection e with e1 e2 e3
  subst e1 e2
  exact h3 hp
theorem Frs.cells {l : List Fr} {A : Option Addr} {n c : Nat} {w : World} (h : Frs l (.slice A n c) w) (hp : 0 < n) : ∃ b o, A = some ⟨b, o, none⟩ ∧ b < w.heap.size ∧ ∀ i x, l[i]? = some x → w.cell? ⟨b, o + i * 2, none⟩ = some (.int .i64 x.1) ∧ w.cell? ⟨b, o + i * 2 + 1, none⟩ = some (.int .i64 x.2) := by
  obtain ⟨A', c', e, -, -, h3, -⟩ := h
  injection e with e1 e2 e3
  subst e1 e2
  exact h3 hp
theorem Ints.form {l : List Int} {v : Value} {w : World} (h : Ints l v w) : ∃ A c, v = .slice A l.length c ∧ l.length ≤ c ∧ c ≤ maxLen := by
  obtain ⟨A, c, e, h1, h2, -, -⟩ := h; exact ⟨A, c, e, h1, h2⟩
theorem Frs.form {l : List Fr} {v : Value} {w : World} (h : Frs l v w) : ∃ A c, v = .slice A l.length c ∧ l.length ≤ c ∧ c ≤ maxLen := by
  obtain ⟨A, c, e, h1, h2, -, -⟩ := h; exact ⟨A, c, e, h1, h2⟩
section
variable {l : List Fr} {k : Nat} {b : List Int} (h : k ≤ (mayL b l).length)
include h
theorem picked_at {i : Nat} {c : Int} (hi : (pickR l k b)[i]? = some c) : i < k ∧ ∃ z, (srt (mayL b l))[i]? = some z ∧ z.1 = c ∧ z ∈ mayL b l ∧ roomL l c = z.2 := by
  rw [pickR_nat h, List.getElem?_map, List.getElem?_take] at hi
  split at hi
  · rename_i hik
    obtain ⟨z, hz, e⟩ := Option.map_eq_some_iff.mp hi
    refine ⟨hik, z, hz, e, srt_at_mem hz, ?_⟩
    rw [← e]; exact roomL_mem b l z (srt_at_mem hz)
  · cases hi
theorem picked_one {i : Nat} {c : Int} (hi : (pickR l k b)[i]? = some c) : 0 < roomL l c ∧ c ∉ b := by
  obtain ⟨-, z, -, e, hz, hr⟩ := picked_at h hi
  obtain ⟨-, h1, h2⟩ := mayL_sub b l z hz
  rw [hr, ← e]; exact ⟨h1, h2⟩
theorem picked_two {i j : Nat} {c d : Int} (hji : j < i) (hi : (pickR l k b)[i]? = some c) (hj : (pickR l k b)[j]? = some d) : d ≠ c ∧ roomL l c ≤ roomL l d := by
  obtain ⟨-, z, hz, e, -, hr⟩ := picked_at h hi
  obtain ⟨-, y, hy, e2, -, hr2⟩ := picked_at h hj
  refine ⟨fun ec => ?_, ?_⟩
  · have := apart_at (srt_apart (mayL_apart b l)) hy hz (by rw [e, e2, ec]); omega
  · obtain ⟨hi1, e3⟩ := List.getElem?_eq_some_iff.mp hy
    obtain ⟨hi2, e4⟩ := List.getElem?_eq_some_iff.mp hz
    have h2 := List.pairwise_iff_getElem.mp (srt_sorted (mayL b l)) j i hi1 hi2 hji
    rw [e3, e4, leF_iff] at h2
    rw [hr, hr2]; omega
theorem picked_best {x : Fr} {c : Int} (hx : x ∈ l) (h1 : 0 < x.2) (h2 : x.2 = roomL l x.1) (h3 : x.1 ∉ b) (h4 : x.1 ∉ pickR l k b) (hk : 0 < k) (hc : (pickR l k b)[k - 1]? = some c) : x.2 ≤ roomL l c := by
  obtain ⟨-, z, hz, e, -, hr⟩ := picked_at h hc
  have hin : hasC (mayL b l) x.1 = true := by
    rw [hasC_mayL]
    have a1 : l.any (fun y => y.1 == x.1 && decide (0 < y.2)) = true := List.any_eq_true.mpr ⟨x, hx, by simp [h1]⟩
    rw [a1]; simpa using h3
  obtain ⟨y, hy, ey⟩ := (hasC_iff _ _).mp hin
  have hry := roomL_mem b l y hy
  obtain ⟨j, hj⟩ := List.getElem?_of_mem ((srt_perm (mayL b l)).mem_iff.mpr hy)
  have hjk : k ≤ j := by
    by_cases hlt : j < k
    · exfalso
      apply h4
      rw [pickR_nat h]
      exact outK_mem.mpr ⟨j, y, hlt, hj, ey⟩
    · omega
  obtain ⟨hi1, e3⟩ := List.getElem?_eq_some_iff.mp hz
  obtain ⟨hi2, e4⟩ := List.getElem?_eq_some_iff.mp hj
  have h5 := List.pairwise_iff_getElem.mp (srt_sorted (mayL b l)) (k - 1) j hi1 hi2 (by omega)
  rw [e3, e4, leF_iff] at h5
  rw [hr, h2, ← ey, hry]; omega
theorem picked_len : (pickR l k b).length = k := by
  rw [pickR_nat h, List.length_map, List.length_take, srt_len]; omega
end
theorem picked_best' {l : List Fr} {k : Nat} {b : List Int} (h : k ≤ (mayL b l).length) {x : Fr} {c : Int} {o : Bool} (hx : x ∈ l) (ho : (((o || b.contains x.1) || (pickR l k b).contains x.1)) = false)
    (hoo : o = (decide (x.2 ≤ 0) || (x.2 != roomL l x.1))) (hk : 0 < k) (hc : (pickR l k b)[k - 1]? = some c) : decide (roomL l c < x.2) = false := by
  rw [hoo] at ho
  simp only [Bool.or_eq_false_iff, decide_eq_false_iff_not, bne_eq_false_iff_eq] at ho
  obtain ⟨⟨⟨h1, h2⟩, h3⟩, h4⟩ := ho
  have := picked_best h hx (by omega) h2 (fun hm => by rw [List.contains_iff_mem.mpr hm] at h3; cases h3) (fun hm => by rw [List.contains_iff_mem.mpr hm] at h4; cases h4) hk hc
  exact decide_eq_false (by omega)
theorem contains_take {r : List Int} {j : Nat} {y x : Int} (hy : r[j]? = some y) : (r.take (j + 1)).contains x = ((r.take j).contains x || y == x) := by
  rw [List.take_add_one, hy, Bool.eq_iff_iff]
  simp only [Option.toList, List.contains_iff_mem, List.mem_append, List.mem_singleton, Bool.or_eq_true, beq_iff_eq]
  constructor
  · rintro (h | h)
    · exact .inl h
    · exact .inr h.symm
  · rintro (h | h)
    · exact .inl h
    · exact .inr h.symm
end Go.Proofs.Ytfiaedhdgbnfiaa
