/- dig: short copies. -/
import Derived.Test.YtpeilgeloaogfaaDgB
namespace Go.Proofs.Ytpeilgeloaogfaa
set_option linter.unusedVariables false
set_option linter.unusedSimpArgs false
open Go Go.RowKit
set_option maxHeartbeats 4000000 in
set_option maxRecDepth 20000 in
theorem short_any (A : Option Addr) (n c : Nat) (l : List UInt8) (most : Nat) (hm1 : 1 ≤ most) (hm : most ≤ 100000) (hl : Hid (l.length = n)) (hc : n ≤ c) (hcm : c ≤ 9223372036854775807) (w : World) (h : Hid (Rd w w.heap.size A l)) :
    Calls Try.prog 48 #[.slice A n c, .int .i64 most] w fun e w' => ∃ A' n' c', e = .returned (.slice A' n' c') ∧ Hid (OB w' w.heap.size (.slice A' n' c') (l.take most)) ∧ Hid ((l.take most).length = n') ∧ Gr w w' := by
  have ho := Lib.hid (OB.empty w w.heap.size (Nat.le_refl _))
  have hb1 := Lib.hid ((Below.refl w.heap.size w).alloc (Nat.le_refl _) (.cells #[] 5))
  by_cases hlt : most < n
  · have i1 : (most : Int) < (n : Int) := by omega
    have htl : Hid ((l.take most).length = most) := Lib.hid (by rw [List.length_take, hl.out]; omega)
    have hp : 0 < l.length := by rw [hl.out]; omega
    obtain ⟨ad, rfl, -⟩ := h.out.get (List.getElem?_eq_getElem hp)
    have hrd := Lib.hid (((h.out.take most (by rw [hl.out]; omega)).keep (fun p hp => hb1.out.cell hp)).more hb1.out.size)
    have i2 : most ≤ c := by omega
    clear hp
    go_enter Try.func48, Try.ntmps48
    go_wp2_with (at_builtin; go_must (refine wpl_append rfl (.tmp 9) (.tmp 12) rfl w.heap.size (.slice (some ⟨w.heap.size, 0, none⟩) 0 0) [] rfl ho.out _ (some ad) c (l.take most) (by rw [htl.out]; rfl) hrd.out (by rw [htl.out]; simp; omega) hb1.out.size ?_); intro v5 w5 ho5 hg5 _; have hb5 := Lib.hid (below_rowD ho.out hb1.out hb1.out.size hg5); rw [List.nil_append] at ho5; obtain ⟨A5, c5, rfl, -, -, -, -⟩ := ho5.form; rw [htl.out] at ho5 ⊢; replace ho5 := Lib.hid ho5; clear hg5)
    go_ret
    exact ⟨A5, most, c5, rfl, ho5, htl, hb5.out⟩
  · have i1 : decide ((most : Int) < (n : Int)) = false := decide_eq_false (by omega)
    have i1' : (n : Int) ≤ (most : Int) := by omega
    have htk : Hid (l.take most = l) := Lib.hid (List.take_of_length_le (by rw [hl.out]; omega))
    have hrd := Lib.hid ((h.out.keep (fun p hp => hb1.out.cell hp)).more hb1.out.size)
    have hn9 : Hid (l.length ≤ 100000) := Lib.hid (by rw [hl.out]; omega)
    go_enter Try.func48, Try.ntmps48
    go_wp2_with (at_builtin; go_must (refine wpl_append rfl (.tmp 14) (.tmp 15) rfl w.heap.size (.slice (some ⟨w.heap.size, 0, none⟩) 0 0) [] rfl ho.out _ A c l (by rw [hl.out]; rfl) hrd.out (by have := hn9.out; simp; omega) hb1.out.size ?_); intro v5 w5 ho5 hg5 _; have hb5 := Lib.hid (below_rowD ho.out hb1.out hb1.out.size hg5); rw [List.nil_append] at ho5; obtain ⟨A5, c5, rfl, -, -, -, -⟩ := ho5.form; rw [hl.out] at ho5 ⊢; replace ho5 := Lib.hid ho5; clear hg5)
    go_ret
    exact ⟨A5, n, c5, rfl, by rw [htk.out]; exact ho5, by rw [htk.out]; exact hl, hb5.out⟩
end Go.Proofs.Ytpeilgeloaogfaa
