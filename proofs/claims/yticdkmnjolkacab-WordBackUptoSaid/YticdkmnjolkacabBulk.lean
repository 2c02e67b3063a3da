/- The bulk of what is read: lengths below it. -/
import Derived.Test.YticdkmnjolkacabRows
import Derived.Test.YticdkmnjolkacabOpen
namespace Go.Proofs.Yticdkmnjolkacab
open Go Go.RowKit
theorem bulk_pos {H : Type} (d : DataW H) : 1 ≤ Rows.uptoBulk d := by
  cases d with
  | lit x => cases x <;> simp [Rows.uptoBulk]
  | _ => simp [Rows.uptoBulk]
theorem bulk_len {H : Type} (es : List (DataW H)) : es.length ≤ Rows.uptoBulkAll es := by
  induction es with
  | nil => exact Nat.zero_le _
  | cons d es ih =>
    have := bulk_pos d
    simp only [Rows.uptoBulkAll, List.length_cons]
    omega
theorem bulk_mem {H : Type} {d : DataW H} {ds : List (DataW H)} (h : d ∈ ds) : Rows.uptoBulk d ≤ Rows.uptoBulkAll ds := by
  induction ds with
  | nil => cases h
  | cons x ds ih =>
    simp only [Rows.uptoBulkAll]
    rcases List.mem_cons.mp h with rfl | h
    · omega
    · have := ih h; omega
theorem small_bytes {H : Type} {d : DataW H} {ds : List (DataW H)} (hk : Rows.uptoSmall H ds = true) (h : d ∈ ds) (l : List UInt8) (hd : (d = .nil ∧ l = []) ∨ ∃ es rest, d = .slice es rest ∧ es.length = l.length) : l.length ≤ 1048576 := by
  have hs : Rows.uptoBulkAll ds ≤ 1048576 := of_decide_eq_true hk
  have h1 := bulk_mem h
  rcases hd with ⟨-, rfl⟩ | ⟨es, rest, rfl, he⟩
  · exact Nat.zero_le _
  · have h2 := bulk_len es
    simp only [Rows.uptoBulk] at h1
    omega
theorem small_str {H : Type} {s : ByteArray} {ds : List (DataW H)} (hk : Rows.uptoSmall H ds = true) (h : (DataW.lit (.string s.data.toList) : DataW H) ∈ ds) : s.size ≤ 1048576 := by
  have hs : Rows.uptoBulkAll ds ≤ 1048576 := of_decide_eq_true hk
  have h1 := bulk_mem h
  simp only [Rows.uptoBulk] at h1
  have : s.size = s.data.toList.length := by rw [Array.length_toList]; rfl
  omega
end Go.Proofs.Yticdkmnjolkacab
