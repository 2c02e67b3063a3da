/- The reference of mat: Code. -/
import Derived.Test.YtpeilgeloaogfaaMatRef3
namespace Go.Proofs.Ytpeilgeloaogfaa
set_option linter.unusedVariables false
set_option linter.unusedSimpArgs false
open Go Go.RowKit
set_option maxHeartbeats 8000000 in
set_option maxRecDepth 20000 in
theorem rcode_ok (m n : Nat) (h1 : 1 ≤ m) (hmn : m ≤ n) (h32 : n ≤ 32) (w : World) :
    Calls Try.prog 38 #[.int .i64 m, .int .i64 n] w fun e w' => ∃ A' c', e = .returned (.slice A' n c') ∧ n ≤ c' ∧ c' ≤ maxLen ∧ RT w' w'.heap.size A' n (tabM n m (codeE m)) ∧ Below w.heap.size w w' := by
  have d1 : decide ((m : Int) < 1) = false := decide_eq_false (by omega)
  have d2 : decide ((n : Int) < (m : Int)) = false := decide_eq_false (by omega)
  have d2n : decide (n < m) = false := decide_eq_false (by omega)
  have d3 : decide ((32 : Int) < (n : Int)) = false := decide_eq_false (by omega)
  have hat := Lib.hid (AT.empty w w.heap.size (Nat.le_refl _))
  have hq := Lib.hid ((Below.refl w.heap.size w).alloc (Nat.le_refl _) (.cells #[] 29))
  go_enter Try.func38, Try.ntmps38
  go_wp2_with fail
  obtain ⟨w3, hw3⟩ : ∃ w3, w.alloc (.cells #[] 29) = w3 := ⟨_, rfl⟩
  rw [hw3] at hat hq ⊢
  replace hw3 := Lib.hid hw3
  go_loopw [5, 6] (fun v i wr => ∃ (k : Nat) (A1 : Option Addr) (c1 : Nat), k ≤ n ∧ i = .int .i64 k ∧ v = .slice A1 k c1 ∧ Hid (AT wr w.heap.size (.slice A1 k c1) (tabM k m (codeE m))) ∧ Hid (Below w.heap.size w wr)) (fun _ i _ => n - (intOf i).toNat)
  case atStart => exact ⟨0, _, _, Nat.zero_le _, rfl, rfl, hat, hq⟩
  case round =>
    obtain ⟨k, A1, c1, hk, rfl, rfl, hat1, hq1⟩ := hrel
    clear hat hq
    obtain ⟨wo, hwo⟩ : ∃ wo, wo = wr := ⟨_, rfl⟩
    subst hwo
    by_cases hlt : k < n
    · have hrow := Lib.hid (OB.empty wo wo.heap.size (Nat.le_refl _))
      have hb1 := Lib.hid ((Below.refl wo.heap.size wo).alloc (Nat.le_refl _) (.cells #[] 5))
      have hq4 := Lib.hid (hq1.out.alloc hq1.out.size (.cells #[] 5))
      have ik : (k : Int) < (n : Int) := by omega
      have hwsz : w.heap.size ≤ wo.heap.size := hq1.out.size
      go_wp2_with fail
      obtain ⟨w4, hw4⟩ : ∃ w4, wo.alloc (.cells #[] 5) = w4 := ⟨_, rfl⟩
      rw [hw4] at hrow hb1 hq4 ⊢
      replace hw4 := Lib.hid hw4
      go_loopw [7, 8] (fun v i wi => ∃ (j : Nat) (A4 : Option Addr) (c4 : Nat), j ≤ m ∧ i = .int .i64 j ∧ v = .slice A4 j c4 ∧ Hid (OB wi wo.heap.size (.slice A4 j c4) (row j (codeE m k))) ∧ Hid (Below wo.heap.size wo wi) ∧ Hid (Below w.heap.size w wi)) (fun _ i _ => m - (intOf i).toNat)
      case atStart => exact ⟨0, _, _, Nat.zero_le _, rfl, rfl, hrow, hb1, hq4⟩
      case round =>
        obtain ⟨j, A4, c4, hj, rfl, rfl, hrow2, hb2, hq2⟩ := hrel
        clear hrow hb1 hq4
        obtain ⟨wi, hwi⟩ : ∃ wi, wi = wr := ⟨_, rfl⟩
        subst hwi
        by_cases hlj : j < m
        · have ij : (j : Int) < (m : Int) := by omega
          by_cases h1 : m ≤ k
          · have hres : codeE m k j = gmul 1 (gpow (UInt8.ofNat (k ^^^ j)) 254) := by unfold codeE; rw [if_pos h1, gmul_one_l]; rfl
            have hne : UInt8.ofNat (k ^^^ j) ≠ 0 := fx_ne (by omega) (by omega) (by omega)
            have hx := xor_i64 k j (by omega) (by omega)
            obtain ⟨x, hxe⟩ : ∃ x, k ^^^ j = x := ⟨_, rfl⟩
            rw [hxe] at hx hne hres
            have d1 : decide ((m : Int) ≤ (k : Int)) = true := decide_eq_true (by omega)
            have hd := rdiv_any 1 (UInt8.ofNat x) wi
            rw [if_neg hne, ← hres] at hd
            replace hd := Lib.hid hd
            replace hxe := Lib.hid hxe
            replace hne := Lib.hid hne
            replace hres := Lib.hid hres
            have hlit := Lib.hid (Rd.lit wi #[.int .u8 (U (codeE m k j))] 5 [codeE m k j] rfl ((wi.alloc (.cells #[.int .u8 (U (codeE m k j))] 5)).heap.size) (by simp))
            have ho7 := Lib.hid (hrow2.out.alloc (.cells #[.int .u8 (U (codeE m k j))] 5))
            have hb7 := Lib.hid (hb2.out.alloc hb2.out.size (.cells #[.int .u8 (U (codeE m k j))] 5))
            have hq7 := Lib.hid (hq2.out.alloc hq2.out.size (.cells #[.int .u8 (U (codeE m k j))] 5))
            go_wp2_with fail
            refine hd.out.mono ?_
            rintro e w' ⟨rfl, rfl⟩
            go_wp2_with (at_builtin; go_must (refine wpl_append rfl (.tmp 48) (.tmp 50) rfl wo.heap.size (.slice A4 j c4) (row j (codeE m k)) rfl ho7.out _ _ 1 [codeE m k j] rfl hlit.out (by rw [row_length]; simp; omega) hb7.out.size ?_); intro v8 w8 ho8 hg8 _; have hb8 := Lib.hid (below_row ho7.out hb7.out hb7.out.size hg8); have hq8 := Lib.hid (below_row (ho7.out.more hwsz) hq7.out hq7.out.size hg8); rw [row_snoc] at ho8; obtain ⟨A8, c8, rfl, -, -, -, -⟩ := ho8.form; rw [row_length] at ho8 ⊢; replace ho8 := Lib.hid ho8; clear hg8)
            go_roundw
            case rel => first | exact ⟨j + 1, A8, c8, by omega, by go_num, rfl, ho8, hb8, hq8⟩ | ((repeat apply Exists.intro); exact ⟨⟨j + 1, A8, c8, by omega, by go_num, rfl, ho8, hb8, hq8⟩, rfl⟩)
            case measure => simp [intOf]; omega
          · have d1 : decide ((m : Int) ≤ (k : Int)) = false := decide_eq_false (by omega)
            by_cases h2 : k = j
            · have hres : codeE m k j = 1 := by unfold codeE; rw [if_neg h1, if_pos h2]
              have d2 : ((k : Int) == (j : Int)) = true := by simp; omega
              replace h2 := Lib.hid h2
              have hlit := Lib.hid (Rd.lit wi #[.int .u8 1] 5 [1] rfl ((wi.alloc (.cells #[.int .u8 1] 5)).heap.size) (by simp))
              have ho7 := Lib.hid (hrow2.out.alloc (.cells #[.int .u8 1] 5))
              have hb7 := Lib.hid (hb2.out.alloc hb2.out.size (.cells #[.int .u8 1] 5))
              have hq7 := Lib.hid (hq2.out.alloc hq2.out.size (.cells #[.int .u8 1] 5))
              replace hres := Lib.hid hres
              go_wp2_with (at_builtin; go_must (refine wpl_append rfl (.tmp 48) (.tmp 50) rfl wo.heap.size (.slice A4 j c4) (row j (codeE m k)) rfl ho7.out _ _ 1 [1] rfl hlit.out (by rw [row_length]; simp; omega) hb7.out.size ?_); intro v8 w8 ho8 hg8 _; have hb8 := Lib.hid (below_row ho7.out hb7.out hb7.out.size hg8); have hq8 := Lib.hid (below_row (ho7.out.more hwsz) hq7.out hq7.out.size hg8); rw [← hres.out, row_snoc] at ho8; obtain ⟨A8, c8, rfl, -, -, -, -⟩ := ho8.form; rw [row_length] at ho8 ⊢; replace ho8 := Lib.hid ho8; clear hg8)
              go_roundw
              case rel => first | exact ⟨j + 1, A8, c8, by omega, by go_num, rfl, ho8, hb8, hq8⟩ | ((repeat apply Exists.intro); exact ⟨⟨j + 1, A8, c8, by omega, by go_num, rfl, ho8, hb8, hq8⟩, rfl⟩)
              case measure => simp [intOf]; omega
            · have hres : codeE m k j = 0 := by unfold codeE; rw [if_neg h1, if_neg h2]
              have d2 : ((k : Int) == (j : Int)) = false := by simp; omega
              replace h2 := Lib.hid h2
              have hlit := Lib.hid (Rd.lit wi #[.int .u8 0] 5 [0] rfl ((wi.alloc (.cells #[.int .u8 0] 5)).heap.size) (by simp))
              have ho7 := Lib.hid (hrow2.out.alloc (.cells #[.int .u8 0] 5))
              have hb7 := Lib.hid (hb2.out.alloc hb2.out.size (.cells #[.int .u8 0] 5))
              have hq7 := Lib.hid (hq2.out.alloc hq2.out.size (.cells #[.int .u8 0] 5))
              replace hres := Lib.hid hres
              go_wp2_with (at_builtin; go_must (refine wpl_append rfl (.tmp 48) (.tmp 50) rfl wo.heap.size (.slice A4 j c4) (row j (codeE m k)) rfl ho7.out _ _ 1 [0] rfl hlit.out (by rw [row_length]; simp; omega) hb7.out.size ?_); intro v8 w8 ho8 hg8 _; have hb8 := Lib.hid (below_row ho7.out hb7.out hb7.out.size hg8); have hq8 := Lib.hid (below_row (ho7.out.more hwsz) hq7.out hq7.out.size hg8); rw [← hres.out, row_snoc] at ho8; obtain ⟨A8, c8, rfl, -, -, -, -⟩ := ho8.form; rw [row_length] at ho8 ⊢; replace ho8 := Lib.hid ho8; clear hg8)
              go_roundw
              case rel => first | exact ⟨j + 1, A8, c8, by omega, by go_num, rfl, ho8, hb8, hq8⟩ | ((repeat apply Exists.intro); exact ⟨⟨j + 1, A8, c8, by omega, by go_num, rfl, ho8, hb8, hq8⟩, rfl⟩)
              case measure => simp [intOf]; omega
        · obtain rfl : j = m := by omega
          have hat2 := Lib.hid (hat1.out.below hb2.out hwsz)
          have ij : decide ((j : Int) < (j : Int)) = false := decide_eq_false (by omega)
          have hrok : RowOk wi w.heap.size A4 c4 (row j (codeE j k)) := .inl (by rw [row_length]; exact hrow2.out.more hwsz)
          have hbb : Below wi.heap.size wi (wi.alloc (.cells #[.slice A4 j c4] 29)) := (Below.refl _ _).alloc (Nat.le_refl _) _
          have hat3 := Lib.hid (hat2.out.below hbb hq2.out.size)
          have hrok2 := Lib.hid (hrok.below hbb hq2.out.size)
          have hq9 := Lib.hid (hq2.out.trans (hbb.mono hq2.out.size))
          have hrd9 : Hid (Reads (wi.alloc (.cells #[.slice A4 j c4] 29)) (wi.alloc (.cells #[.slice A4 j c4] 29)).heap.size 1 (some ⟨wi.heap.size, 0, none⟩) 1 [.slice A4 (row j (codeE j k)).length c4]) := Lib.hid (by rw [row_length]; have h0 := reads_one wi 29 (.slice A4 j c4); first | exact h0 | (rw [show wi.heap.size = wi.heap.size from (by simp)]; exact h0))
          clear hbb hrok
          go_wp2_with (at_builtin; go_must (refine wpl_append_row rfl (.tmp 52) (.tmp 54) rfl w.heap.size (.slice A1 k c1) (tabM k j (codeE j)) rfl hat3.out A4 c4 (row j (codeE j k)) hrok2.out _ _ 1 rfl hrd9.out (by rw [tabM_length]; omega) hq9.out.size ?_); intro v8 w8 hat8 hg8; have hq8 := Lib.hid (hq9.out.grown hg8 hq9.out.size hat3.out.up); rw [tabM_snoc] at hat8; obtain ⟨A8, c8, rfl, -, -, -⟩ := hat8.form hq8.out.size; rw [tabM_length] at hat8 ⊢; replace hat8 := Lib.hid hat8; clear hg8)
          go_roundw
          case rel => first | exact ⟨k + 1, A8, c8, by omega, by go_num, rfl, hat8, hq8⟩ | ((repeat apply Exists.intro); exact ⟨⟨k + 1, A8, c8, by omega, by go_num, rfl, hat8, hq8⟩, rfl⟩)
          case measure => simp [intOf]; omega
    · obtain rfl : k = n := by omega
      obtain ⟨A8, c8, e8, h8, h9, h10⟩ := hat1.out.form hq1.out.size
      injection e8 with e81 e82 e83
      clear e82
      subst e81 e83
      rw [tabM_length] at h8 h10
      replace h10 := Lib.hid h10
      go_wp2_with fail
      go_ret
      exact ⟨A1, c1, rfl, h8, h9, h10.out, hq1.out⟩
set_option maxHeartbeats 8000000 in
set_option maxRecDepth 20000 in
def RNo (w : World) (e : Ending) (w' : World) : Prop := e = .returned (.slice (some ⟨w.heap.size, 0, none⟩) 0 0) ∧ w' = w.alloc (.cells #[] 29)
theorem rcode_no0 (m n : Int) (h : m < 1 ∨ n < m ∨ 32 < n) (w : World) :
    Calls Try.prog 38 #[.int .i64 m, .int .i64 n] w (RNo w) := by
  by_cases h1 : m < 1
  · have d1 : decide (m < 1) = true := decide_eq_true h1
    go_enter Try.func38, Try.ntmps38
    go_wp2_with fail
    go_ret
    exact ⟨rfl, rfl⟩
  · have d1 : decide (m < 1) = false := decide_eq_false h1
    by_cases h2 : n < m
    · have d2 : decide (n < m) = true := decide_eq_true h2
      go_enter Try.func38, Try.ntmps38
      go_wp2_with fail
      go_ret
      exact ⟨rfl, rfl⟩
    · have d2 : decide (n < m) = false := decide_eq_false h2
      have d3 : decide (32 < n) = true := decide_eq_true (by omega)
      go_enter Try.func38, Try.ntmps38
      go_wp2_with fail
      go_ret
      exact ⟨rfl, rfl⟩
theorem rcode_no (m n : Int) (h : m < 1 ∨ n < m ∨ 32 < n) (w : World) :
    Calls Try.prog 38 #[.int .i64 m, .int .i64 n] w fun e w' => ∃ A' c', e = .returned (.slice A' 0 c') ∧ c' ≤ maxLen ∧ RT w' w'.heap.size A' 0 [] ∧ Below w.heap.size w w' := by
  refine (rcode_no0 m n h w).mono ?_
  rintro e w' ⟨rfl, rfl⟩
  exact ⟨_, _, rfl, Nat.zero_le _, ⟨rfl, fun h => absurd h (by omega)⟩, (Below.refl w.heap.size w).alloc (Nat.le_refl _) _⟩
end Go.Proofs.Ytpeilgeloaogfaa
