/- slices.Clone of bytes. -/
import Derived.Test.YthboeoidgglcgaaGreatBytes
import Derived.WalkSpells
import Derived.Deep.DeepMust
namespace Go.Proofs.YthboeoidgglcgaaGreat
set_option linter.unusedVariables false
open Go Go.RowKit

set_option maxRecDepth 10000 in
theorem clone_any (A : Option Addr) (n c : Nat) (l : List UInt8) (hn : l.length = n) (hl : n ≤ 140737488355328) (w : World) (hr : Rd w w.heap.size A l) :
    Calls Tryz.prog 45 #[.slice A n c] w fun e w' => ∃ v, e = .returned v ∧ OB w' w.heap.size v l ∧ Below w.heap.size w w' := by
  rcases A with _ | ad
  · have hl0 : l = [] := by
      rcases l with _ | ⟨x, l⟩
      · rfl
      · obtain ⟨_, h, _⟩ := hr.at_ (k := 0) (by simp)
        cases h
    subst hl0
    obtain rfl : n = 0 := hn.symm
    have hnil := fun w => Lib.run_eql_slice_nil (P := Tryz.prog) w 34 5 none 0 c 0 0 Tryz.underlying34
    go_enter Tryz.func45, Tryz.ntmps45
    go_wp2
    go_ret
    exact ⟨_, rfl, OB.nil_ _ _, Below.refl _ _⟩
  · have ho := Lib.hid (OB.empty w w.heap.size (Nat.le_refl _))
    have hrw := Lib.hid (hr.alloc (Nat.le_refl _) (.cells #[] 5))
    clear hr
    replace hn := Lib.hid hn
    have hnil := fun w => Lib.run_eql_slice_nil (P := Tryz.prog) w 34 5 (some ad) n c 0 0 Tryz.underlying34
    go_enter Tryz.func45, Tryz.ntmps45
    go_wp2_with (at_builtin; go_must (refine wpl_append rfl (.tmp 5) (.tmp 6) rfl w.heap.size (.slice (some ⟨w.heap.size, 0, none⟩) 0 0) [] rfl ho.out w.heap.size (some ad) c l (by rw [hn.out]; rfl) hrw.out (by simp; rw [hn.out]; omega) (by simp) ?_); intro v1 w1 hown1 hg1 _)
    go_ret
    exact ⟨v1, rfl, by simpa using hown1, below_app ho.out ((Below.refl _ _).alloc (Nat.le_refl _) _) (by simp) hg1⟩

end Go.Proofs.YthboeoidgglcgaaGreat
