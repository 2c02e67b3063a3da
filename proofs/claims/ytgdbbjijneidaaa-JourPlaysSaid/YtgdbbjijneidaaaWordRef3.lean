/- The reference of word: Word. -/
import Derived.Test.YtgdbbjijneidaaaWordRef2
import Derived.Test.YtgdbbjijneidaaaWordGet
namespace Go.Proofs.Ytgdbbjijneidaaa
set_option linter.unusedVariables false
open Go Go.RowKit

theorem rnum_cases (b : List UInt8) (a : Nat) (most : Int) (ha : a ≤ b.length) :
    (rnum b a most = (0, -1) ∧ rget (some (b.drop a)) most = (0, none)) ∨ ∃ m q : Nat, rnum b a most = ((m : Int), (q : Int)) ∧ q ≤ b.length ∧ m ≤ 9223372036854775807 ∧ rget (some (b.drop a)) most = ((m : Int), some (b.drop q)) := by
  unfold rnum rget
  simp only
  cases h : lead (b.drop a) with
  | none => exact .inl ⟨rfl, rfl⟩
  | some p =>
    obtain ⟨m, q⟩ := p
    simp only
    by_cases hm : (m : Int) ≤ most
    · have hb := lead_bound h
      rw [List.length_drop] at hb
      rw [if_pos hm, if_pos hm]
      refine .inr ⟨m, a + q, by simp, by omega, lead_lt h, ?_⟩
      rw [List.drop_drop]
    · rw [if_neg hm, if_neg hm]
      exact .inl ⟨rfl, rfl⟩
theorem rtext_of {st : RS} {most : Int} {m : Nat} {l : List UInt8} (h : rget st most = ((m : Int), some l)) : rtext st most = if m ≤ l.length then (l.take m, some (l.drop m)) else ([], none) := by
  unfold rtext
  rw [h]
  simp
theorem rtext_bad {st : RS} {most : Int} (h : rget st most = (0, none)) : rtext st most = ([], none) := by
  unfold rtext
  rw [h]
set_option maxHeartbeats 1000000 in
set_option maxRecDepth 10000 in
theorem rword_any (A : Option Addr) (k c : Nat) (b : List UInt8) (hk : b.length = k) (hl : k ≤ 140737488355328) (hkc : k ≤ c) (a : Nat) (ha : a ≤ k) (most : Int) (w : World) (hr : Rd w w.heap.size A b) :
    Calls Try.prog 76 #[.slice A k c, .int .i64 a, .int .i64 most] w fun e w' => (∃ s p, e = .returned (.tuple #[.string (bs s), .int .i64 p]) ∧ ((p = -1 ∧ s = [] ∧ rtext (some (b.drop a)) most = ([], none)) ∨ ∃ q : Nat, p = q ∧ q ≤ k ∧ rtext (some (b.drop a)) most = (s, some (b.drop q)))) ∧ w = w' := by
  have hN := rnum_any A k c b hk hl a ha most w hr
  rcases rnum_cases b a most (by omega) with ⟨h1, h2⟩ | ⟨m, q, h1, hq, hm, h2⟩
  · rw [h1] at hN
    have hx := rtext_bad h2
    replace hN := Lib.hid hN
    replace hx := Lib.hid hx
    clear h1 h2
    go_enter Try.func76, Try.ntmps76
    go_wp2_with fail
    refine (hN.out).mono ?_
    rintro e w' ⟨rfl, rfl⟩
    go_wp2_with fail
    go_ret2
    exact ⟨⟨[], -1, rfl, .inl ⟨rfl, rfl, hx.out⟩⟩, rfl⟩
  · rw [h1] at hN
    have hx := rtext_of h2
    rw [List.length_drop, List.drop_drop, hk] at hx
    rw [hk] at hq
    replace hN := Lib.hid hN
    clear h1 h2
    by_cases hle : m ≤ k - q
    · rw [if_pos hle] at hx
      replace hx := Lib.hid hx
      have hle1 : (m : Int) ≤ (k : Int) - q := by omega
      have hle2 : (q : Int) + m ≤ c := by omega
      have hkb : q ≤ b.length := by omega
      have hcv1 : (convert 22 9 (.slice (A.map (fun x => x.add q)) m (c - q))).run Try.prog w = .ok (.string (bs ((b.drop q).take m))) w := run_str_at (c - q) ((hr.cutAt hkb).take m (by rw [List.length_drop]; omega)) (by rw [List.length_take, List.length_drop]; omega)
      have hcv2 : c = q → (convert 22 9 (.slice A m 0)).run Try.prog w = .ok (.string (bs ((b.drop q).take m))) w := fun h => by
        obtain rfl : m = 0 := by omega
        rw [List.take_zero]
        exact run_str_at 0 (Rd.nil_ (w := w) (B := w.heap.size) (A := A)) rfl
      replace hr := Lib.hid hr
      replace hk := Lib.hid hk
      clear hkb hle
      go_enter Try.func76, Try.ntmps76
      go_wp2_with fail
      refine (hN.out).mono ?_
      rintro e w' ⟨rfl, rfl⟩
      by_cases hcq : c = q
      · replace hcv2 := hcv2 hcq
        go_wp2_with fail
        go_ret2
        exact ⟨⟨_, _, rfl, .inr ⟨q + m, (Int.natCast_add q m).symm, by omega, hx.out⟩⟩, rfl⟩
      · clear hcv2
        go_wp2_with fail
        go_ret2
        exact ⟨⟨_, _, rfl, .inr ⟨q + m, (Int.natCast_add q m).symm, by omega, hx.out⟩⟩, rfl⟩
    · rw [if_neg hle] at hx
      replace hx := Lib.hid hx
      have hle1 : (k : Int) - q < m := by omega
      clear hle
      go_enter Try.func76, Try.ntmps76
      go_wp2_with fail
      refine (hN.out).mono ?_
      rintro e w' ⟨rfl, rfl⟩
      go_wp2_with fail
      go_ret2
      exact ⟨⟨[], -1, rfl, .inl ⟨rfl, rfl, hx.out⟩⟩, rfl⟩
end Go.Proofs.Ytgdbbjijneidaaa
