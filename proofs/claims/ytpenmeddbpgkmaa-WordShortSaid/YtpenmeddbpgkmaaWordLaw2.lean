/- The laws of word: WordShort. -/
import Derived.Test.YtpenmeddbpgkmaaWordLaw
import Derived.Deep.RegionWith
namespace Go.Proofs.Ytpenmeddbpgkmaa
set_option linter.unusedVariables false
open Go Go.RowKit

theorem vint_span : ∀ (f n : Nat), n < 2 ^ (7 * (f + 1)) → n < 2 ^ (7 * (vint f n).length) ∧ ((vint f n).length = 1 ∨ 2 ^ (7 * ((vint f n).length - 1)) ≤ n)
  | f, n, h => by
    by_cases hs : n < 128
    · rw [vint_small f n hs]
      exact ⟨hs, .inl rfl⟩
    · obtain ⟨f, rfl⟩ : ∃ f', f = f' + 1 := by
        cases f with
        | zero => exact absurd (by simpa using h) hs
        | succ f => exact ⟨f, rfl⟩
      rw [vint_big f n (by omega), List.length_cons]
      have hlt : n / 128 < 2 ^ (7 * (f + 1)) := by
        rw [show 7 * (f + 1 + 1) = 7 * (f + 1) + 7 from by omega, Nat.pow_add] at h
        exact Nat.div_lt_of_lt_mul (by rw [Nat.mul_comm]; exact h)
      have ih := vint_span f (n / 128) hlt
      have hl := (vint_length f (n / 128)).1
      generalize (vint f (n / 128)).length = L at *
      refine ⟨?_, .inr ?_⟩
      · rw [show 7 * (L + 1) = 7 * L + 7 from by omega, Nat.pow_add]
        have := ih.1
        have h2 : 2 ^ 7 = 128 := rfl
        rw [h2]
        omega
      · rcases ih.2 with h1 | h1
        · subst h1
          show 128 ≤ n
          omega
        · rw [show 7 * (L + 1 - 1) = 7 * (L - 1) + 7 from by omega, Nat.pow_add]
          have h2 : 2 ^ 7 = 128 := rfl
          rw [h2]
          omega
  termination_by f => f
theorem enc_span (n : Nat) (hn : n ≤ 9223372036854775807) : n < 2 ^ (7 * (enc n).length) ∧ ((enc n).length = 1 ∨ 2 ^ (7 * ((enc n).length - 1)) ≤ n) := by
  rw [enc8 n hn]
  exact vint_span 8 n (by omega)
theorem enc_inj {m n : Nat} (hm : m ≤ 9223372036854775807) (hn : n ≤ 9223372036854775807) (h : enc m = enc n) : m = n := by
  have h1 := lead_enc m hm []
  have h2 := lead_enc n hn []
  rw [h, h2] at h1
  injection h1 with h1
  injection h1 with h1
  exact h1.symm
theorem enc_str (m n : Nat) (hm : m ≤ 9223372036854775807) (hn : n ≤ 9223372036854775807) (hne : m ≠ n) : ¬ bs (enc m) = bs (enc n) := fun h => hne (enc_inj hm hn (bs_inj h))
theorem rget_less (m : Nat) (hm : m ≤ 9223372036854775807) : rget (some (enc m)) ((m : Int) - 1) = (0, none) := by
  have h := lead_enc m hm []
  rw [List.append_nil] at h
  unfold rget
  simp only
  rw [h]
  simp only
  rw [if_neg (by omega)]
theorem and_two63 (x : Nat) : x &&& 2 ^ 63 = if x.testBit 63 then 2 ^ 63 else 0 := by
  apply Nat.eq_of_testBit_eq
  intro i
  rw [Nat.testBit_and, Nat.testBit_two_pow]
  by_cases h : 63 = i
  · subst h
    cases hx : x.testBit 63
    · simp
    · rw [if_pos rfl, Nat.testBit_two_pow]; simp
  · cases hx : x.testBit 63
    · simp [h]
    · rw [if_pos rfl, Nat.testBit_two_pow]; simp [h]
theorem and_min_nonpos (a : Int) : bits .and .i64 a (-9223372036854775808) ≤ 0 ∧ -9223372036854775808 ≤ bits .and .i64 a (-9223372036854775808) := by
  have e : bits .and .i64 a (-9223372036854775808) = IntKind.i64.wrap ((BitVec.ofInt 64 a &&& BitVec.ofInt 64 (-9223372036854775808)).toNat : Int) := rfl
  have e1 : BitVec.ofInt 64 (-9223372036854775808) = BitVec.ofNat 64 (2 ^ 63) := by decide +kernel
  rw [e, e1, BitVec.toNat_and, BitVec.toNat_ofNat, show 2 ^ 63 % 2 ^ 64 = 2 ^ 63 from by decide, and_two63]
  cases (BitVec.ofInt 64 a).toNat.testBit 63
  · decide +kernel
  · decide +kernel
set_option maxHeartbeats 1000000 in
set_option maxRecDepth 10000 in
theorem wordShort_any (m n : Int) (hm : -9223372036854775808 ≤ m ∧ m ≤ 9223372036854775807) (hn : -9223372036854775808 ≤ n ∧ n ≤ 9223372036854775807) (w : World) :
    Calls Try.prog 14 #[.int .i64 m, .int .i64 n] w fun e w' => e = .returned (.bool true) ∧ Below w.heap.size w w' := by
  by_cases hneg : m < 0 ∨ n < 0
  · have han := and_min_nonpos (bits .and .i64 m n)
    have hl0 : ([] : List UInt8) ++ enc (bits .and .i64 (bits .and .i64 m n) (-9223372036854775808)).toNat = [0] := by
      rw [show (bits .and .i64 (bits .and .i64 m n) (-9223372036854775808)).toNat = 0 from Int.toNat_eq_zero.mpr han.1]
      decide +kernel
    have hlit : ∀ W : World, (convert 22 9 (.slice (some ⟨W.heap.size, 0, none⟩) 1 1)).run Try.prog (W.alloc (.cells #[.int .u8 0] 5)) = .ok (.string (bs [0])) (W.alloc (.cells #[.int .u8 0] 5)) :=
      fun W => run_str_at 1 (Rd.lit W _ _ [0] rfl _ (Nat.lt_succ_self _)) rfl
    replace han := Lib.hid han
    replace hl0 := Lib.hid hl0
    rcases hneg with h | h
    all_goals
      go_enter Try.func14, Try.ntmps14
      go_wp2_with fail
      all_goals
        go_region_with (first
          | (go_at_call 26; refine (awake_any _).mono ?_; rintro e w1 ⟨rfl, hb1⟩)
          | (go_at_call 27; refine (put_any none 0 0 [] rfl _ han.out.2 (Int.le_trans han.out.1 (by decide)) (by decide) _ Rd.nil_).mono ?_; rw [hl0.out]; rintro e w2 ⟨v2, rfl, ho2, hb2⟩; obtain ⟨A2, c2, rfl, -, -, hR2, -⟩ := ho2.form; have hcv := run_str_at (n := 1) c2 hR2 rfl; have hcv2 := fun o => run_str_at (n := 1) c2 (hR2.alloc (Nat.le_refl _) o) rfl; (try have hcv3 := run_str_at (n := 1) 1 (Rd.up (Rd.lit _ _ _ [0] (by rfl) _ (by simp)) hb2) rfl)))
        all_goals
          go_wp2_with fail
          go_ret
          have hb0 : Below w.heap.size w w1 := (Below.refl w.heap.size w).drew.trans hb1
          refine ⟨rfl, ?_⟩
          first
          | exact (hb0.trans (hb2.mono hb0.size)).alloc (hb0.trans (hb2.mono hb0.size)).size _
          | exact (hb0.alloc hb0.size _).trans (hb2.mono (hb0.alloc hb0.size _).size)
  · obtain ⟨a, rfl⟩ : ∃ a : Nat, m = a := ⟨m.toNat, by omega⟩
    obtain ⟨b, rfl⟩ : ∃ b : Nat, n = b := ⟨n.toNat, by omega⟩
    have hsp := enc_span a (by omega)
    have hlen := enc_length a (by omega)
    have hrg := rget_less a (by omega)
    have hlow : (enc a).length = 1 ∨ 0 < a / 2 ^ (7 * ((enc a).length - 1)) := by
      rcases hsp.2 with h | h
      · exact .inl h
      · exact .inr (Nat.div_pos h (Nat.two_pow_pos _))
    have hhigh : a / 2 ^ (7 * (enc a).length) = 0 := Nat.div_eq_of_lt hsp.1
    obtain ⟨L, hL⟩ : ∃ L, (enc a).length = L + 1 := ⟨(enc a).length - 1, by omega⟩
    have heqs : (enc a == enc b) = ((a : Int) == (b : Int)) := by
      by_cases h : a = b
      · subst h; simp
      · have h1 : ¬ enc a = enc b := fun e => h (enc_inj (by omega) (by omega) e)
        have h2 : ¬ (a : Int) = b := by omega
        rw [beq_eq_false_iff_ne.mpr h1, beq_eq_false_iff_ne.mpr h2]
    have hta : ((a : Int)).toNat = a := Int.toNat_natCast a
    have htb : ((b : Int)).toNat = b := Int.toNat_natCast b
    rw [hL] at hlen hlow hhigh
    rw [Nat.add_sub_cancel] at hlow
    have hli : (a : Int) / 2 ^ (7 * L) = ((a / 2 ^ (7 * L) : Nat) : Int) := shr_nat a L
    have hhi : (a : Int) / 2 ^ (7 * (L + 1)) = 0 := by rw [shr_nat, hhigh]; rfl
    replace hrg := Lib.hid hrg
    replace hsp := Lib.hid hsp
    clear hhigh
    have hd1 : decide ((L : Int) + 1 < 1) = false := decide_eq_false (by omega)
    have hd2 : decide (9 < (L : Int) + 1) = false := decide_eq_false (by omega)
    have hd0 : ¬ (a : Int) < 0 ∧ ¬ (b : Int) < 0 := by omega
    have hcase : (0 < (L : Int) ∧ ((a : Int) / 2 ^ (7 * L) == 0) = false) ∨ (L : Int) ≤ 0 := by
      by_cases h : 0 < L
      · refine .inl ⟨by omega, ?_⟩
        rw [beq_eq_false_iff_ne, hli]
        have := hlow.resolve_left (by omega)
        generalize a / 2 ^ (7 * L) = q at *
        omega
      · exact .inr (by omega)
    have hL8 : (L : Int) ≤ 8 := by omega
    replace hcase := Lib.hid hcase
    clear hli hlow hlen hneg
    go_enter Try.func14, Try.ntmps14
    go_wp2_with fail
    refine (put_any none 0 0 [] rfl a hm.1 hm.2 (by decide) _ Rd.nil_).mono ?_
    rw [List.nil_append, hta]
    rintro e w1 ⟨v1, rfl, ho1, hb1⟩
    obtain ⟨A1, c1, rfl, hc1, -, hR1, -⟩ := ho1.form
    replace hR1 := Lib.hid hR1
    clear ho1
    go_wp2_with fail
    refine (put_any none 0 0 [] rfl b hn.1 hn.2 (by decide) _ Rd.nil_).mono ?_
    rw [List.nil_append, htb]
    rintro e w2 ⟨v2, rfl, ho2, hb2⟩
    obtain ⟨A2, c2, rfl, hc2, -, hR2, -⟩ := ho2.form
    have hb3 := hb1.trans (hb2.mono hb1.size)
    have hR3 := Lib.hid (hR1.out.up hb2)
    have hcv1 : (convert 22 9 (.slice A1 (L + 1) c1)).run Try.prog w2 = .ok (.string (bs (enc a))) w2 := run_str_at c1 hR3.out hL
    have hcv2 : (convert 22 9 (.slice A2 (enc b).length c2)).run Try.prog w2 = .ok (.string (bs (enc b))) w2 := run_str_at c2 hR2 rfl
    replace hb3 := Lib.hid hb3
    clear ho2 hb2 hR1 hb1
    replace hR2 := Lib.hid hR2
    replace hc1 := Lib.hid hc1
    replace hc2 := Lib.hid hc2
    rcases hcase.out with ⟨hL0, hd3⟩ | hL0
    all_goals
      go_wp2_with fail
      all_goals
        refine (new_any A1 (L + 1) c1 (enc a) hL (by omega) _ hR3.out).mono ?_
        rintro e w3 ⟨g, rfl, hg, hr, hb4⟩
        have hb5 := Lib.hid (hb3.out.trans (hb4.mono hb3.out.size))
        have hgw := Nat.le_trans hb3.out.size hg
        replace hr := Lib.hid hr
        clear hcv1 hcv2 hb4 hR2 hR3
        go_wp2_with fail
        refine (awake_any _).mono ?_
        rintro e w4 ⟨rfl, hb6⟩
        replace hr := Lib.hid (hr.out.below' hb6)
        replace hb5 := Lib.hid (hb5.out.trans (hb6.mono hb5.out.size))
        have hz := hb5.out.size
        clear hb6
        go_wp2_with fail
        refine (get_any g _ ((a : Int) - 1) (by omega) (by omega) _ hr.out (fun l e => by injection e with e; subst e; omega)).mono ?_
        rw [hrg.out]
        rintro e w5 ⟨rfl, hs1, hgr⟩
        replace hb5 := Lib.hid (below_grown hb5.out hz hgr hgw)
        replace hr := Lib.hid hs1
        clear hgr hs1 hz
        go_wp2_with fail
        refine (end_any g _ _ hr.out).mono ?_
        rintro e w7 ⟨rfl, rfl⟩
        go_wp2_with fail
        go_ret
        exact ⟨rfl, hb5.out⟩
end Go.Proofs.Ytpenmeddbpgkmaa
