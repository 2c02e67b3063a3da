/- The reference of word: Number and Word. -/
import Derived.Test.YtgdbbjijneidaaaWordRef
namespace Go.Proofs.Ytgdbbjijneidaaa
set_option linter.unusedVariables false
open Go Go.RowKit

def rnum (b : List UInt8) (at_ : Nat) (most : Int) : Int × Int := match lead (b.drop at_) with
  | some (n, k) => if (n : Int) ≤ most then ((n : Int), (at_ : Int) + k) else (0, -1)
  | none => (0, -1)
theorem shl_step (k m : Nat) (hk : k ≤ 8) (hm : m < 128) : ∃ p : Nat, p = m * 2 ^ (7 * k) ∧ p ≤ 127 * 2 ^ 56 ∧ wrap64 ((m : Int) * 2 ^ (7 * k)) = (p : Int) := by
  have hp : 2 ^ (7 * k) ≤ 2 ^ 56 := Nat.pow_le_pow_right (by decide) (by omega)
  have h1 : m * 2 ^ (7 * k) ≤ 127 * 2 ^ 56 := Nat.mul_le_mul (by omega) hp
  refine ⟨_, rfl, h1, ?_⟩
  have e : ((m : Int) * 2 ^ (7 * k)) = ((m * 2 ^ (7 * k) : Nat) : Int) := by simp
  rw [e]
  generalize m * 2 ^ (7 * k) = q at *
  unfold wrap64
  omega
set_option maxHeartbeats 1000000 in
set_option maxRecDepth 10000 in
theorem rnum_any (A : Option Addr) (k c : Nat) (b : List UInt8) (hk : b.length = k) (hl : k ≤ 140737488355328) (at_ : Nat) (hat : at_ ≤ k) (most : Int) (w : World) (hr : Rd w w.heap.size A b) :
    Calls Try.prog 75 #[.slice A k c, .int .i64 at_, .int .i64 most] w fun e w' => e = .returned (.tuple #[.int .i64 (rnum b at_ most).1, .int .i64 (rnum b at_ most).2]) ∧ w = w' := by
  replace hr := Lib.hid hr
  replace hk := Lib.hid hk
  go_enter Try.func75, Try.ntmps75
  go_wp2
  go_loop [8, 9] (fun acc i => ∃ j a : Nat, j ≤ 9 ∧ i = .int .i64 j ∧ acc = .int .i64 a ∧ Hid (a < 2 ^ (7 * j)) ∧ Hid (leadGo (9 - j) ((b.drop at_).drop j) j a = lead (b.drop at_)) ∧ at_ + j ≤ k) (fun _ i => 9 - (intOf i).toNat)
  case atStart => exact ⟨0, 0, Nat.zero_le _, rfl, rfl, (show 0 < 2 ^ (7 * 0) by decide), rfl, hat⟩
  case round =>
    obtain ⟨j, a, hj, rfl, rfl, ha, hg, hjk⟩ := hrel
    by_cases hlt : j < 9
    · by_cases hin : at_ + j < k
      · have hkl : j < (b.drop at_).length := by rw [List.length_drop]; have := hk.out; omega
        have hst := leadGo_step (8 - j) (b.drop at_) j a hkl
        rw [show 8 - j + 1 = 9 - j from by omega, hg.out] at hst
        have hbj : at_ + j < b.length := by have := hk.out; omega
        have hgx : (b.drop at_)[j] = b[at_ + j] := by rw [List.getElem_drop]
        rw [hgx] at hst
        obtain ⟨ad, rfl, -, hcell⟩ := hr.out.at_ hbj
        clear hgx
        generalize b[at_ + j] = x at *
        clear hbj hkl
        obtain ⟨p, hp, hp56, hpw⟩ := shl_step j (x.toNat % 128) (by omega) (by omega)
        rw [← u8_mod128 x] at hpw
        rw [← hp] at hst
        have ha56 : a < 2 ^ 56 := Nat.lt_of_lt_of_le ha.out (Nat.pow_le_pow_right (by decide) (by omega))
        have hnew : Hid (a + p < 2 ^ (7 * (j + 1))) := (show _ < _ by
          have ha := ha.out
          rw [show 7 * (j + 1) = 7 * j + 7 from by omega, Nat.pow_add, hp]
          have h1 : x.toNat % 128 * 2 ^ (7 * j) ≤ 127 * 2 ^ (7 * j) := Nat.mul_le_mul_right _ (by omega)
          omega)
        replace hp := Lib.hid hp
        have hu0 := U_lo x
        have hu1 := U_hi x
        have hnum := Lib.hid (show rnum b at_ most = _ from rfl)
        by_cases hx : x.toNat < 128
        · have hxu : U x < 128 := by unfold U; omega
          rw [if_pos hx] at hst
          by_cases hm0 : most < 0
          · have hres : rnum b at_ most = (0, -1) := by
              unfold rnum
              rw [hst]
              split
              · rename_i n k' _
                rw [if_neg (by omega)]
              · rfl
            replace hres := Lib.hid hres
            replace hst := Lib.hid hst
            clear hx hnum
            go_wp2
            go_ret2
            rw [hres.out]
            exact ⟨rfl, rfl⟩
          · by_cases hmp : ((a + p : Nat) : Int) ≤ most
            · by_cases hz : x.toNat = 0 ∧ 0 < j
              · rw [if_pos hz] at hst
                have hres : rnum b at_ most = (0, -1) := by unfold rnum; rw [hst]
                replace hres := Lib.hid hres
                have hx0 : (x == 0) = true := by
                  have : x = 0 := UInt8.toNat_inj.mp hz.1
                  rw [this]; rfl
                have hj0 := hz.2
                replace hst := Lib.hid hst
                clear hx hnum hz
                go_wp2
                go_ret2
                rw [hres.out]
                exact ⟨rfl, rfl⟩
              · rw [if_neg hz] at hst
                have hres : rnum b at_ most = (((a + p : Nat) : Int), (at_ : Int) + ((j + 1 : Nat) : Int)) := by
                  unfold rnum; rw [hst]; exact if_pos hmp
                replace hres := Lib.hid hres
                replace hst := Lib.hid hst
                have hcase : (x == 0) = false ∨ ((x == 0) = true ∧ ¬ 0 < (j : Int)) := by
                  cases h : (x == 0)
                  · exact .inl rfl
                  · refine .inr ⟨rfl, ?_⟩
                    have : x.toNat = 0 := by rw [eq_of_beq h]; rfl
                    omega
                have hend : Hid ((at_ : Int) + j + 1 = (at_ : Int) + ((j + 1 : Nat) : Int)) := (show _ = _ by omega)
                clear hx hnum hz
                rcases hcase with h0 | ⟨h0, hj0⟩
                all_goals
                  go_wp2
                  all_goals
                    go_ret2
                    rw [hres.out]
                    refine ⟨?_, rfl⟩
                    show Ending.returned (.tuple #[.int .i64 ((a : Int) + p), .int .i64 ((at_ : Int) + j + 1)]) = _
                    rw [hend.out]
                    rfl
            · have hres : rnum b at_ most = (0, -1) := by
                unfold rnum
                rw [hst]
                split
                · rename_i n k' h
                  split at h
                  · cases h
                  · injection h with h
                    injection h with h1 h2
                    subst h1
                    exact if_neg hmp
                · rfl
              replace hres := Lib.hid hres
              replace hst := Lib.hid hst
              have hmp2 : most < (a : Int) + p := by omega
              clear hx hnum hmp
              go_wp2
              go_ret2
              rw [hres.out]
              exact ⟨rfl, rfl⟩
        · have hxu : 128 ≤ U x := by unfold U; omega
          rw [if_neg hx] at hst
          replace hst := Lib.hid hst
          clear hx
          go_wp2
          go_round
          case rel => exact ⟨j + 1, a + p, by omega, by go_num, by go_num, hnew, by rw [show 9 - (j + 1) = 8 - j from by omega]; exact hst.out.symm, by omega⟩
          case measure => simp [intOf]; omega
      · have hres : rnum b at_ most = (0, -1) := by
          unfold rnum
          have hd : (b.drop at_).drop j = [] := List.drop_eq_nil_of_le (by rw [List.length_drop]; have := hk.out; omega)
          rw [← hg.out, hd, show 9 - j = (8 - j) + 1 from by omega]
          rfl
        replace hres := Lib.hid hres
        have hin2 : (k : Int) ≤ (at_ : Int) + j := by omega
        go_wp2
        go_ret2
        rw [hres.out]
        exact ⟨rfl, rfl⟩
    · obtain rfl : j = 9 := by omega
      have hres : rnum b at_ most = (0, -1) := by
        unfold rnum
        rw [← hg.out]
        rfl
      replace hres := Lib.hid hres
      go_wp2
      go_ret2
      rw [hres.out]
      exact ⟨rfl, rfl⟩
end Go.Proofs.Ytgdbbjijneidaaa
