/- model: the reference's Put and Delete, all ways. -/
import Derived.Test.YtipdjchgdhfciaaMr6
namespace Go.Proofs.Ytipdjchgdhfciaa
set_option linter.unusedVariables false
set_option linter.unusedSimpArgs false
open Go Go.RowKit Go.Maps Go.Sort
set_option maxHeartbeats 4000000 in
set_option maxRecDepth 10000 in
theorem rput_all (lo g : Nat) (v : Value) (R : List Pr) (hr : Rise R) (hR : R.length ≤ 1000) (k d : List UInt8) (Ad : Option Addr) (nd cd : Nat) (hd : d.length = nd) (w : World) (h : Hid (Rm w lo g v R)) (hrd : Rd w w.heap.size Ad d) (L : List En) (hL : R.any (fun p => p.1 == k) = hasK L k) :
    Calls Try.prog 12 #[.pointer (some ⟨g, 0, none⟩), .string (bs k), .slice Ad nd cd] w fun e w' => e = .returned (.int .i64 (putE L k d)) ∧
      ((putE L k d ≠ 0 ∧ Hid (Rm w' lo g v R) ∧ GrM w w') ∨ (putE L k d = 0 ∧ ∃ v', Hid (Rm w' lo g v' (R.take (posR R k) ++ [(k, d)] ++ R.drop (posR R k))) ∧ Upd (· = g) w w')) := by
  have hsz : (bs k).size = k.length := rfl
  by_cases hk : keyOk k = true
  · have hk12 : 1 ≤ k.length ∧ k.length ≤ 16 := by
      unfold keyOk at hk
      simp only [Bool.and_eq_true, decide_eq_true_eq] at hk
      exact hk
    obtain ⟨hk1, hk2⟩ := hk12
    have i1 : decide ((k.length : Int) < 1) = false := decide_eq_false (by omega)
    have i2 : decide ((16 : Int) < (k.length : Int)) = false := decide_eq_false (by omega)
    have i2n : decide (16 < k.length) = false := decide_eq_false (by omega)
    have i4 : k ≠ [] := fun e => by rw [e] at hk1; simp at hk1
    by_cases h5 : 512 < nd
    · have he : putE L k d = 3 := by unfold putE; rw [hk, if_neg (by simp), if_pos (by omega)]
      rw [he]
      have i3 : (512 : Int) < (nd : Int) := by omega
      replace hd := Lib.hid hd
      replace hrd := Lib.hid hrd
      go_enter Try.func12, Try.ntmps12
      go_wp2_with fail
      go_ret
      exact ⟨rfl, .inl ⟨by decide, h, GrM.refl _⟩⟩
    · have i3 : decide ((512 : Int) < (nd : Int)) = false := decide_eq_false (by omega)
      have i3n : decide (512 < nd) = false := decide_eq_false (by omega)
      cases hh : R.any (fun p => p.1 == k) with
      | true =>
        have he : putE L k d = 4 := by unfold putE; rw [hk, if_neg (by simp), if_neg (by omega), ← hL, hh]; rfl
        rw [he]
        have his := Lib.hid (ris_any lo g v R hr (by omega) k w h)
        rw [hh] at his
        replace hd := Lib.hid hd
        replace hrd := Lib.hid hrd
        clear hh h5
        go_enter Try.func12, Try.ntmps12
        go_wp2_with (go_at_call 26; go_must (refine his.out.mono ?_); rintro e w1 ⟨rfl, hg1⟩)
        go_ret
        exact ⟨rfl, .inl ⟨by decide, Rm.gr hg1 h, hg1⟩⟩
      | false =>
        have he : putE L k d = 0 := by unfold putE; rw [hk, if_neg (by simp), if_neg (by omega), ← hL, hh]; rfl
        rw [he]
        refine (rput_yes lo g v R hr hR k d Ad nd cd hd hk1 hk2 (by omega) w h hrd hh).mono ?_
        rintro e w' ⟨h1, ⟨v', h2⟩, h3⟩
        exact ⟨h1, .inr ⟨rfl, v', h2, h3⟩⟩
  · have hk' : keyOk k = false := by simpa using hk
    have he : putE L k d = 2 := by unfold putE; rw [hk', if_pos rfl]
    rw [he]
    have hk12 : k.length < 1 ∨ 16 < k.length := by
      unfold keyOk at hk'
      simp only [Bool.and_eq_false_iff, decide_eq_false_iff_not] at hk'
      omega
    replace hd := Lib.hid hd
    replace hrd := Lib.hid hrd
    by_cases h1 : k.length < 1
    · obtain rfl : k = [] := List.eq_nil_of_length_eq_zero (by omega)
      clear hk hk12
      go_enter Try.func12, Try.ntmps12
      go_wp2_with fail
      go_ret
      exact ⟨rfl, .inl ⟨by decide, h, GrM.refl _⟩⟩
    · have h16 : 16 < k.length := by omega
      have i1 : decide ((k.length : Int) < 1) = false := decide_eq_false (by omega)
      have i2 : (16 : Int) < (k.length : Int) := by omega
      have i4 : k ≠ [] := fun e => by rw [e] at h16; simp at h16
      clear hk hk12 h1
      go_enter Try.func12, Try.ntmps12
      go_wp2_with fail
      go_ret
      exact ⟨rfl, .inl ⟨by decide, h, GrM.refl _⟩⟩
set_option maxHeartbeats 4000000 in
set_option maxRecDepth 10000 in
theorem rdel_no (lo g : Nat) (v : Value) (R : List Pr) (hr : Rise R) (hR : R.length ≤ 1000) (k : List UInt8) (w : World) (h : Hid (Rm w lo g v R)) (hh : R.any (fun p => p.1 == k) = false) :
    Calls Try.prog 10 #[.pointer (some ⟨g, 0, none⟩), .string (bs k)] w fun e w' => e = .returned (.int .i64 5) ∧ Hid (Rm w' lo g v R) ∧ GrM w w' := by
  have his := Lib.hid (ris_any lo g v R hr (by omega) k w h)
  rw [hh] at his
  clear hh
  go_enter Try.func10, Try.ntmps10
  go_wp2_with (go_at_call 26; go_must (refine his.out.mono ?_); rintro e w1 ⟨rfl, hg1⟩)
  go_ret
  exact ⟨rfl, Rm.gr hg1 h, hg1⟩
end Go.Proofs.Ytipdjchgdhfciaa
