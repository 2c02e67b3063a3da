/- What came in is within reach: lengths below it. -/
import Derived.Test.YtgdbbjijneidaaaBytes
import Derived.SizedLaws
namespace Go.Proofs.Ytgdbbjijneidaaa
open Go Go.RowKit
theorem sized_bytes {H : Type} {ts : List TypeId} {ds : List (DataW H)} (h : (DataW.weightsEach Try.prog ts ds).all (· ≤ reachBytes) = true) (j : Nat) (ht : ts[j]? = some 22) {d : DataW H} (hd : ds[j]? = some d)
    (l : List UInt8) (hdl : (d = .nil ∧ l = []) ∨ ∃ es rest, d = .slice es rest ∧ es.length = l.length) : l.length ≤ 140737488351232 := by
  rcases hdl with ⟨-, rfl⟩ | ⟨es, rest, rfl, he⟩
  · exact Nat.zero_le _
  · have h1 := sized_slice h (j := j) ht hd Try.underlying22
    have h2 : Try.prog.bytesOf 5 = 1 := by kernel_rfl
    rw [h2] at h1
    simp only [reachBytes] at h1
    omega
end Go.Proofs.Ytgdbbjijneidaaa
