/- The laws of layer 4, the rest. -/
import Derived.Test.YtpenmeddbpgkmaaSumLaw
namespace Go.Proofs.Ytpenmeddbpgkmaa
set_option linter.unusedVariables false
open Go Go.RowKit

set_option maxRecDepth 10000 in
theorem sealed_any (A : Option Addr) (n c : Nat) (l : List UInt8) (hn : l.length = n) (h2 : n ≤ 2000) (w : World) (hr : Rd w w.heap.size A l) :
    Calls Try.prog 21 #[.slice A n c] w fun e w' => ∃ v, e = .returned v ∧ OB w' w.heap.size v (l ++ bytes4 (crc l)) ∧ Below w.heap.size w w' := by
  have ho := Lib.hid (OB.empty w w.heap.size (Nat.le_refl _))
  have hR1 := Lib.hid (hr.alloc (Nat.le_refl _) (.cells #[] 5))
  replace hr := Lib.hid hr
  replace hn := Lib.hid hn
  go_enter Try.func21, Try.ntmps21
  go_wp2_with fail
  refine (sum_at A n c l hn.out w hr.out (by omega)).mono ?_
  rintro e w' ⟨rfl, rfl⟩
  have h4 : Rd (w.alloc (.cells #[] 5)) w.heap.size A l := hR1.out
  go_wp2_with (first
    | (at_builtin; refine wpl_append rfl (.tmp 6) (.tmp 7) rfl w.heap.size (.slice (some ⟨w.heap.size, 0, none⟩) 0 0) [] rfl ho.out w.heap.size A c l (by rw [hn.out]; rfl) hR1.out (by simp; rw [hn.out]; omega) (by simp) ?_; intro v1 w1 hown1 hg1 _; have hb1 := below_app ho.out ((Below.refl w.heap.size w).alloc (Nat.le_refl _) _) (by simp) hg1; have hz := hb1.size)
    | (at_builtin; refine wpl_append rfl (.tmp 8) (.tmp 20) rfl w.heap.size v1 ([] ++ l) rfl (hown1.alloc _) (w1.heap.size + 1) (some ⟨w1.heap.size, 0, none⟩) 4 (bytes4 (crc l)) rfl (Rd.lit _ _ _ _ rfl _ (by simp)) (by simp [bytes4]; rw [hn.out]; omega) (by simp; omega) ?_; intro v2 w2 hown2 hg2 _))
  go_ret
  exact ⟨v2, rfl, by simpa using hown2, below_app (hown1.alloc _) (hb1.alloc hz _) (by simp; omega) hg2⟩

theorem sum_two (a b : UInt8) (w : World) (n : Nat) (hn : w.heap.size = n) :
    Calls Try.prog 19 #[.slice (some ⟨n, 0, none⟩) 2 2] (w.alloc (.cells #[.int .u8 (U a), .int .u8 (U b)] 5)) fun e w' =>
      e = .returned (.int .u32 (W (crc [a, b]))) ∧ w.alloc (.cells #[.int .u8 (U a), .int .u8 (U b)] 5) = w' := by
  subst hn
  exact sum_any (some ⟨w.heap.size, 0, none⟩) 2 [a, b] _ (Rd.lit w _ _ _ rfl _ (by simp)) (by simp)
theorem sum_one (a : UInt8) (w : World) (n : Nat) (hn : w.heap.size = n) :
    Calls Try.prog 19 #[.slice (some ⟨n, 0, none⟩) 1 1] (w.alloc (.cells #[.int .u8 (U a)] 5)) fun e w' =>
      e = .returned (.int .u32 (W (crc [a]))) ∧ w.alloc (.cells #[.int .u8 (U a)] 5) = w' := by
  subst hn
  exact sum_any (some ⟨w.heap.size, 0, none⟩) 1 [a] _ (Rd.lit w _ _ _ rfl _ (by simp)) (by simp)
theorem crc_short {x y : List UInt8} (hl : x.length = y.length) (h4 : x.length ≤ 4) : (crc x == crc y) = (x == y) := by
  rw [Bool.eq_iff_iff]; simp only [beq_iff_eq]
  refine crc_burst 0 hl (fun i hi => ?_)
  rw [List.getElem?_eq_none (by omega), List.getElem?_eq_none (by omega)]
set_option maxHeartbeats 2000000 in
set_option maxRecDepth 10000 in
theorem sumOne_any (a b c d : UInt8) (w : World) :
    Calls Try.prog 7 #[.int .u8 (U a), .int .u8 (U b), .int .u8 (U c), .int .u8 (U d)] w fun e w' => e = .returned (.bool true) ∧ Below w.heap.size w w' := by
  have h1 : (crc [a, b] == crc [c, d]) = ((a == c) && (b == d)) :=
    (crc_short (x := [a, b]) (y := [c, d]) rfl (by simp)).trans (by simp)
  have h2 : (crc [a] == crc [b]) = (a == b) :=
    (crc_short (x := [a]) (y := [b]) rfl (by simp)).trans (by simp)
  cases e1 : (a == c) <;> cases e2 : (b == d) <;> cases e3 : (a == b)
  all_goals
    rw [e1, e2] at h1
    rw [e3] at h2
    go_enter Try.func7, Try.ntmps7
    go_wp2_with fail
    refine (awake_any _).mono ?_
    rintro e w1 ⟨rfl, hb1⟩
    go_wp2_with fail
    refine (sum_two a b _ _ (by simp)).mono ?_
    rintro e w' ⟨rfl, rfl⟩
    go_wp2_with fail
    refine (sum_two c d _ _ (by simp)).mono ?_
    rintro e w' ⟨rfl, rfl⟩
    go_wp2_with fail
    refine (sum_one a _ _ (by simp)).mono ?_
    rintro e w' ⟨rfl, rfl⟩
    go_wp2_with fail
    refine (sum_one b _ _ (by simp)).mono ?_
    rintro e w' ⟨rfl, rfl⟩
    go_wp2_with fail
    go_ret
    have := hb1.size
    exact ⟨rfl, (((hb1.alloc this _).alloc (by simp; omega) _).alloc (by simp; omega) _).alloc (by simp; omega) _⟩
end Go.Proofs.Ytpenmeddbpgkmaa
