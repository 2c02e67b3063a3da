/- The laws of cart: CartTears. -/
import Derived.Test.YtppclmidnomkjaaCartLaw2
namespace Go.Proofs.Ytppclmidnomkjaa
set_option linter.unusedVariables false
set_option linter.unusedSimpArgs false
open Go Go.RowKit
theorem app_cases (s : CS) (b : List UInt8) (hl : s.lost = false) (hr : s.recs.length < s.most) : ((b.length < 1 ∨ 256 < b.length) ∧ s.append b = (0, 1, s)) ∨ ((1 ≤ b.length ∧ b.length ≤ 256) ∧ s.append b = ((s.recs.length : Int), 0, { s with recs := s.recs ++ [(b, false)] })) := by
  unfold CS.append
  by_cases h : b.length < 1 ∨ 256 < b.length
  · exact .inl ⟨h, if_pos h⟩
  · exact .inr ⟨by omega, by rw [if_neg h, if_neg (by rw [hl]; decide), if_neg (by omega)]⟩
theorem ct_tear (a b : List UInt8) (n : Int) : CS.tear ⟨[(a, false), (b, false)], 3, false⟩ n = if n < 0 ∨ (b.length : Int) ≤ n then (false, ⟨[(a, false), (b, false)], 3, false⟩) else (true, ⟨[(a, false), (b.take n.toNat, false)], 3, false⟩) := by
  unfold CS.tear
  rw [if_neg (by simp)]
  rfl
theorem ct_read0 (a b : List UInt8) : CS.read ⟨[(a, false), (b, false)], 3, false⟩ 0 = (a, 0) := rfl
theorem ct_read1 (a b : List UInt8) : CS.read ⟨[(a, false), (b, false)], 3, false⟩ 1 = (b, 0) := rfl
theorem ct_app (a b : List UInt8) : CS.append ⟨[(a, false), (b, false)], 3, false⟩ [1] = (2, 0, ⟨[(a, false), (b, false), ([1], false)], 3, false⟩) := rfl
set_option maxHeartbeats 4000000 in
set_option maxRecDepth 10000 in
theorem cartTears_any (A : Option Addr) (n c : Nat) (a : List UInt8) (hn : a.length = n) (hnc : n ≤ c) (A2 : Option Addr) (n2 c2 : Nat) (b : List UInt8) (hn2 : b.length = n2) (hnc2 : n2 ≤ c2) (z : Int) (hz : I64 z) (hc : c ≤ maxLen) (hc2 : c2 ≤ maxLen) (w : World) (hr : Rd w w.heap.size A a) (hr2 : Rd w w.heap.size A2 b) :
    Calls Try.prog 6 #[.slice A n c, .slice A2 n2 c2, .int .i64 z] w fun e w' => e = .returned (.bool true) ∧ Below w.heap.size w w' := by
  replace hr := Lib.hid hr
  replace hr2 := Lib.hid hr2
  replace hn := Lib.hid hn
  replace hn2 := Lib.hid hn2
  unfold maxLen at hc hc2
  unfold I64 at hz
  go_enter Try.func6, Try.ntmps6
  go_wp2_with fail
  refine (cnew_any 3 (by unfold I64; decide) w).mono ?_
  rw [co0]
  rintro e w2 ⟨rfl, hd2, hb2⟩
  have hra := Lib.hid ((hr.out.below hb2).more hb2.size)
  obtain ⟨lo, hlo⟩ : ∃ lo, lo = w.heap.size := ⟨_, rfl⟩
  rw [← hlo] at hd2
  rw [← hlo]
  have hlw : w.heap.size ≤ lo := by omega
  replace hlo := Lib.hid hlo
  replace hd2 := Lib.hid hd2
  replace hb2 := Lib.hid hb2
  go_wp2_with fail
  refine (cappend_any lo _ lo _ A n c a hn.out (by unfold maxLen; omega) _ hd2.out hra.out).mono ?_
  obtain ⟨x, hx⟩ : ∃ x, CS.append ⟨[], 3, false⟩ a = x := ⟨_, rfl⟩
  rw [hx]
  rintro e w3 ⟨rfl, hd3, hch⟩
  have hb3 := Lib.hid (hch.from_ hb2.out hlw hd2.out.lw)
  have hrb := Lib.hid ((hr2.out.below hb3.out).more hb3.out.size)
  replace hd3 := Lib.hid hd3
  clear hch hd2 hb2 hra
  rcases app_cases ⟨[], 3, false⟩ a rfl (by show 0 < 3; omega) with ⟨h1, h2⟩ | ⟨h1, h2⟩
  · rw [h2] at hx
    subst hx
    try simp only at hd3
    clear h1 h2
    obtain ⟨y, hy⟩ : ∃ y, CS.append ⟨[], 3, false⟩ b = y := ⟨_, rfl⟩
    go_wp2_with fail
    refine (cappend_any lo _ lo _ A2 n2 c2 b hn2.out (by unfold maxLen; omega) _ hd3.out hrb.out).mono ?_
    rw [hy]
    rintro e w4 ⟨rfl, hd4, hch⟩
    have hb4 := Lib.hid (hch.from_ hb3.out hlw hd3.out.lw)
    obtain ⟨y1, y2, y3⟩ := y
    clear hch hd3 hb3 hrb hd4 hy
    go_wp2_with fail
    refine (awake07_any _).mono ?_
    rintro e w9 ⟨rfl, hba⟩
    have hb10 := Lib.hid (hb4.out.trans (hba.mono hb4.out.size))
    clear hba
    go_wp2_with fail
    go_ret
    exact ⟨rfl, hb10.out⟩
  · rw [h2] at hx
    subst hx
    replace hd3 : Hid (Ct w3 lo w3.heap.size lo ⟨[(a, false)], 3, false⟩) := Lib.hid hd3.out
    replace h1 := Lib.hid h1
    clear h2
    go_wp2_with fail
    refine (cappend_any lo _ lo _ A2 n2 c2 b hn2.out (by unfold maxLen; omega) _ hd3.out hrb.out).mono ?_
    obtain ⟨y, hy⟩ : ∃ y, CS.append ⟨[(a, false)], 3, false⟩ b = y := ⟨_, rfl⟩
    rw [hy]
    rintro e w4 ⟨rfl, hd4, hch⟩
    have hb4 := Lib.hid (hch.from_ hb3.out hlw hd3.out.lw)
    replace hd4 := Lib.hid hd4
    clear hch hd3 hb3 hrb
    rcases app_cases ⟨[(a, false)], 3, false⟩ b rfl (by show 1 < 3; omega) with ⟨g1, g2⟩ | ⟨g1, g2⟩
    · rw [g2] at hy
      subst hy
      clear g1 g2
      clear hd4
      go_wp2_with fail
      refine (awake07_any _).mono ?_
      rintro e w9 ⟨rfl, hba⟩
      have hb10 := Lib.hid (hb4.out.trans (hba.mono hb4.out.size))
      clear hba
      go_wp2_with fail
      go_ret
      exact ⟨rfl, hb10.out⟩
    · rw [g2] at hy
      subst hy
      replace hd4 : Hid (Ct w4 lo w4.heap.size lo ⟨[(a, false), (b, false)], 3, false⟩) := Lib.hid hd4.out
      replace g1 := Lib.hid g1
      clear g2
      go_wp2_with fail
      refine (ctear_any lo _ lo _ z hz _ hd4.out).mono ?_
      rw [ct_tear, hn2.out]
      by_cases ho : z < 0 ∨ (n2 : Int) ≤ z
      · rw [if_pos ho]
        rintro e w5 ⟨rfl, hd5, hch⟩
        have hb5 := Lib.hid (hch.from_ hb4.out hlw hd4.out.lw)
        have hrb := Lib.hid ((hr2.out.below hb5.out).more hb5.out.size)
        have hcv := run_str_at (n := n2) c2 hrb.out hn2.out
        replace hd5 : Hid (Ct w5 lo w4.heap.size lo ⟨[(a, false), (b, false)], 3, false⟩) := Lib.hid hd5
        obtain ⟨b', hb'⟩ : ∃ b', b = b' := ⟨_, rfl⟩
        rw [hb'] at hd5 hcv
        have hbl : Hid (b'.length ≤ 256) := Lib.hid (by rw [← hb']; exact g1.out.2)
        clear hch hd4 hb4
        replace hb' := Lib.hid hb'
        by_cases hz0 : z < 0
        · clear ho
          go_wp2_with fail
          clear hcv
          refine (cread_any lo _ lo _ 0 (by unfold I64; decide) _ hd5.out).mono ?_
          rw [ct_read0]
          rintro e w6 ⟨v6, rfl, ho6, hbb⟩
          have hd6 := Lib.hid (hd5.out.below hbb)
          have hb6 := Lib.hid (hb5.out.trans (hbb.mono hb5.out.size))
          obtain ⟨A6, c6, rfl, -, -, -, -⟩ := ho6.form
          replace ho6 := Lib.hid ho6
          clear hbb hd5 hb5 hrb
          go_wp2_with fail
          refine (cread_any lo _ lo _ 1 (by unfold I64; decide) _ hd6.out).mono ?_
          rw [ct_read1]
          rintro e w7 ⟨v7, rfl, ho7, hbb⟩
          have hd7 := Lib.hid (hd6.out.below hbb)
          have hb7 := Lib.hid (hb6.out.trans (hbb.mono hb6.out.size))
          obtain ⟨A7, c7, rfl, -, -, -, -⟩ := ho7.form
          have ho6' := Lib.hid (ho6.out.below hbb)
          replace ho7 := Lib.hid ho7
          clear hbb hd6 hb6 ho6
          go_wp2_with fail
          refine (cappend_any lo _ lo _ (some ⟨w7.heap.size, 0, none⟩) 1 1 [1] rfl (by decide) _ (hd7.out.below ((Below.refl _ _).alloc (Nat.le_refl _) _)) (Rd.lit w7 _ _ [1] rfl _ (by simp))).mono ?_
          rw [ct_app]
          rintro e w8 ⟨rfl, hd8, hch⟩
          have ho68 := Lib.hid ((ho6'.out.alloc (.cells #[.int .u8 1] 5)).tchg hch (by decide))
          have ho78 := Lib.hid ((ho7.out.alloc (.cells #[.int .u8 1] 5)).tchg hch (by decide))
          have hb8 := Lib.hid (hch.from_ (hb7.out.alloc hb7.out.size _) hlw (Nat.le_trans hd7.out.lw (by simp)))
          clear hch hd7 hb7 ho6' ho7 hd8
          go_wp2_with fail
          refine (awake07_any _).mono ?_
          rintro e w9 ⟨rfl, hba⟩
          have hcv6 := run_str_at (n := a.length) c6 (OB.rd (ho68.out.below hba)).1 rfl
          have hcv7 := run_str_at (n := b'.length) c7 (OB.rd (ho78.out.below hba)).1 rfl
          have hb10 := Lib.hid (hb8.out.trans (hba.mono hb8.out.size))
          have hcva := run_str_at (n := n) c (hr.out.below hb10.out) hn.out
          clear hba hb8
          go_wp2_with fail
          go_ret
          exact ⟨rfl, hb10.out⟩
        · have hzn : (n2 : Int) ≤ z := by omega
          clear ho
          go_wp2_with fail
          clear hcv
          refine (cread_any lo _ lo _ 0 (by unfold I64; decide) _ hd5.out).mono ?_
          rw [ct_read0]
          rintro e w6 ⟨v6, rfl, ho6, hbb⟩
          have hd6 := Lib.hid (hd5.out.below hbb)
          have hb6 := Lib.hid (hb5.out.trans (hbb.mono hb5.out.size))
          obtain ⟨A6, c6, rfl, -, -, -, -⟩ := ho6.form
          replace ho6 := Lib.hid ho6
          clear hbb hd5 hb5 hrb
          go_wp2_with fail
          refine (cread_any lo _ lo _ 1 (by unfold I64; decide) _ hd6.out).mono ?_
          rw [ct_read1]
          rintro e w7 ⟨v7, rfl, ho7, hbb⟩
          have hd7 := Lib.hid (hd6.out.below hbb)
          have hb7 := Lib.hid (hb6.out.trans (hbb.mono hb6.out.size))
          obtain ⟨A7, c7, rfl, -, -, -, -⟩ := ho7.form
          have ho6' := Lib.hid (ho6.out.below hbb)
          replace ho7 := Lib.hid ho7
          clear hbb hd6 hb6 ho6
          go_wp2_with fail
          refine (cappend_any lo _ lo _ (some ⟨w7.heap.size, 0, none⟩) 1 1 [1] rfl (by decide) _ (hd7.out.below ((Below.refl _ _).alloc (Nat.le_refl _) _)) (Rd.lit w7 _ _ [1] rfl _ (by simp))).mono ?_
          rw [ct_app]
          rintro e w8 ⟨rfl, hd8, hch⟩
          have ho68 := Lib.hid ((ho6'.out.alloc (.cells #[.int .u8 1] 5)).tchg hch (by decide))
          have ho78 := Lib.hid ((ho7.out.alloc (.cells #[.int .u8 1] 5)).tchg hch (by decide))
          have hb8 := Lib.hid (hch.from_ (hb7.out.alloc hb7.out.size _) hlw (Nat.le_trans hd7.out.lw (by simp)))
          clear hch hd7 hb7 ho6' ho7 hd8
          go_wp2_with fail
          refine (awake07_any _).mono ?_
          rintro e w9 ⟨rfl, hba⟩
          have hcv6 := run_str_at (n := a.length) c6 (OB.rd (ho68.out.below hba)).1 rfl
          have hcv7 := run_str_at (n := b'.length) c7 (OB.rd (ho78.out.below hba)).1 rfl
          have hb10 := Lib.hid (hb8.out.trans (hba.mono hb8.out.size))
          have hcva := run_str_at (n := n) c (hr.out.below hb10.out) hn.out
          clear hba hb8
          go_wp2_with fail
          go_ret
          exact ⟨rfl, hb10.out⟩
      · rw [if_neg ho]
        rintro e w5 ⟨rfl, hd5, hch⟩
        have hb5 := Lib.hid (hch.from_ hb4.out hlw hd4.out.lw)
        have hrb := Lib.hid ((hr2.out.below hb5.out).more hb5.out.size)
        obtain ⟨k, hk⟩ : ∃ k : Nat, z = k := ⟨z.toNat, by omega⟩
        subst hk
        have hkl : k < n2 := by omega
        clear ho
        rw [Int.toNat_natCast] at hd5
        have hcv1 := run_str_at (n := n2) c2 hrb.out hn2.out
        have hcv2 := run_str_at (n := k) c2 (hrb.out.take k (by rw [hn2.out]; omega)) (by rw [List.length_take, hn2.out]; omega)
        replace hd5 : Hid (Ct w5 lo w4.heap.size lo ⟨[(a, false), (b.take k, false)], 3, false⟩) := Lib.hid hd5
        obtain ⟨b', hb'⟩ : ∃ b', b.take k = b' := ⟨_, rfl⟩
        rw [hb'] at hd5 hcv2
        have hbl : Hid (b'.length ≤ 256) := Lib.hid (by rw [← hb', List.length_take, hn2.out]; have := g1.out.2; rw [hn2.out] at this; omega)
        clear hch hd4 hb4
        replace hb' := Lib.hid hb'
        go_wp2_with fail
        clear hcv1 hcv2
        refine (cread_any lo _ lo _ 0 (by unfold I64; decide) _ hd5.out).mono ?_
        rw [ct_read0]
        rintro e w6 ⟨v6, rfl, ho6, hbb⟩
        have hd6 := Lib.hid (hd5.out.below hbb)
        have hb6 := Lib.hid (hb5.out.trans (hbb.mono hb5.out.size))
        obtain ⟨A6, c6, rfl, -, -, -, -⟩ := ho6.form
        replace ho6 := Lib.hid ho6
        clear hbb hd5 hb5 hrb
        go_wp2_with fail
        refine (cread_any lo _ lo _ 1 (by unfold I64; decide) _ hd6.out).mono ?_
        rw [ct_read1]
        rintro e w7 ⟨v7, rfl, ho7, hbb⟩
        have hd7 := Lib.hid (hd6.out.below hbb)
        have hb7 := Lib.hid (hb6.out.trans (hbb.mono hb6.out.size))
        obtain ⟨A7, c7, rfl, -, -, -, -⟩ := ho7.form
        have ho6' := Lib.hid (ho6.out.below hbb)
        replace ho7 := Lib.hid ho7
        clear hbb hd6 hb6 ho6
        go_wp2_with fail
        refine (cappend_any lo _ lo _ (some ⟨w7.heap.size, 0, none⟩) 1 1 [1] rfl (by decide) _ (hd7.out.below ((Below.refl _ _).alloc (Nat.le_refl _) _)) (Rd.lit w7 _ _ [1] rfl _ (by simp))).mono ?_
        rw [ct_app]
        rintro e w8 ⟨rfl, hd8, hch⟩
        have ho68 := Lib.hid ((ho6'.out.alloc (.cells #[.int .u8 1] 5)).tchg hch (by decide))
        have ho78 := Lib.hid ((ho7.out.alloc (.cells #[.int .u8 1] 5)).tchg hch (by decide))
        have hb8 := Lib.hid (hch.from_ (hb7.out.alloc hb7.out.size _) hlw (Nat.le_trans hd7.out.lw (by simp)))
        clear hch hd7 hb7 ho6' ho7 hd8
        go_wp2_with fail
        refine (awake07_any _).mono ?_
        rintro e w9 ⟨rfl, hba⟩
        have hcv6 := run_str_at (n := a.length) c6 (OB.rd (ho68.out.below hba)).1 rfl
        have hcv7 := run_str_at (n := b'.length) c7 (OB.rd (ho78.out.below hba)).1 rfl
        have hb10 := Lib.hid (hb8.out.trans (hba.mono hb8.out.size))
        have hcva := run_str_at (n := n) c (hr.out.below hb10.out) hn.out
        clear hba hb8
        go_wp2_with fail
        go_ret
        exact ⟨rfl, hb10.out⟩
end Go.Proofs.Ytppclmidnomkjaa
