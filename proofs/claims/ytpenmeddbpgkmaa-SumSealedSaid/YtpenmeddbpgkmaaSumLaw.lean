/- The laws of layer 4. -/
import Derived.Test.YtpenmeddbpgkmaaCrcMath
import Derived.Test.YtpenmeddbpgkmaaBytes
namespace Go.Proofs.Ytpenmeddbpgkmaa
set_option linter.unusedVariables false
open Go Go.RowKit


theorem sum_nil (w : World) : Calls Try.prog 19 #[.slice none 0 0] w fun e w' => e = .returned (.int .u32 0) ∧ w = w' :=
  sum_any none 0 [] w Rd.nil_ (by simp)
theorem crc_fix : W (crc [49, 50, 51, 52, 53, 54, 55, 56, 57]) = 3808858755 := by decide +kernel
set_option maxRecDepth 10000 in
theorem awake_any (w : World) :
    Calls Try.prog 18 #[] w fun e w' => e = .returned (.bool true) ∧ Below w.heap.size w w' := by
  have h9 := fun (w : World) => sum_any (some ⟨w.heap.size, 0, none⟩) 9 [49, 50, 51, 52, 53, 54, 55, 56, 57] (w.alloc (.cells #[.int .u8 49, .int .u8 50, .int .u8 51, .int .u8 52, .int .u8 53, .int .u8 54, .int .u8 55, .int .u8 56, .int .u8 57] 5))
    (Rd.lit w _ _ _ rfl _ (by simp)) (by simp)
  rw [crc_fix] at h9
  have h9 := Lib.hid h9
  go_enter Try.func18, Try.ntmps18
  go_wp2_with fail
  refine (sum_nil _).mono ?_
  rintro e w' ⟨rfl, rfl⟩
  go_wp2_with fail
  refine (h9.out _).mono ?_
  rintro e w' ⟨rfl, rfl⟩
  go_wp2_with fail
  go_ret
  exact ⟨rfl, (Below.refl _ _).alloc (Nat.le_refl _) _⟩
set_option maxRecDepth 10000 in
theorem short_any (A : Option Addr) (c : Nat) (l : List UInt8) (m : Nat) (hm : m ≤ 2000) (hc : l.length ≤ c) (w : World) (hr : Rd w w.heap.size A l) (l' : List UInt8) (hl' : l' = l.take m) :
    Calls Try.prog 17 #[.slice A l.length c, .int .i64 m] w fun e w' => ∃ v, e = .returned v ∧ OB w' w.heap.size v l' ∧ Below w.heap.size w w' := by
  by_cases h : m < l.length
  · have hlen : l'.length = m := by rw [hl', List.length_take]; omega
    have hr' : Rd w w.heap.size A l' := by rw [hl']; exact hr.take m (by omega)
    have hrw : Rd (w.alloc (.cells #[] 5)) w.heap.size A l' := hr'.alloc (Nat.le_refl _) _
    have ho := OB.empty w w.heap.size (Nat.le_refl _)
    have ho := Lib.hid ho
    have hrw := Lib.hid hrw
    have hm0 := Lib.hid hlen
    clear hr hr' hl' hlen
    go_enter Try.func17, Try.ntmps17
    go_wp2_with (at_builtin; refine wpl_append rfl (.tmp 9) (.tmp 12) rfl w.heap.size (.slice (some ⟨w.heap.size, 0, none⟩) 0 0) [] rfl ho.out w.heap.size A c l' (by rw [hm0.out]; rfl) hrw.out (by simp; rw [hm0.out]; omega) (by simp) ?_; intro v1 w1 hown1 hg1 _)
    go_ret
    exact ⟨v1, rfl, by simpa using hown1, below_app ho.out ((Below.refl _ _).alloc (Nat.le_refl _) _) (by simp) hg1⟩
  · have hl2 : l' = l := by rw [hl']; exact List.take_of_length_le (by omega)
    clear hl'
    subst hl2
    have hrw : Rd (w.alloc (.cells #[] 5)) w.heap.size A l' := hr.alloc (Nat.le_refl _) _
    have ho := OB.empty w w.heap.size (Nat.le_refl _)
    have ho := Lib.hid ho
    have hrw := Lib.hid hrw
    clear hr
    have h : (l'.length : Int) ≤ m := by omega
    go_enter Try.func17, Try.ntmps17
    go_wp2_with (at_builtin; refine wpl_append rfl (.tmp 14) (.tmp 15) rfl w.heap.size (.slice (some ⟨w.heap.size, 0, none⟩) 0 0) [] rfl ho.out w.heap.size A c l' rfl hrw.out (by simp; omega) (by simp) ?_; intro v1 w1 hown1 hg1 _)
    go_ret
    exact ⟨v1, rfl, by simpa using hown1, below_app ho.out ((Below.refl _ _).alloc (Nat.le_refl _) _) (by simp) hg1⟩

theorem take_le (l : List UInt8) (m : Nat) : (l.take m).length ≤ m := List.length_take_le _ _
set_option maxRecDepth 10000 in
theorem sumOf_any (A : Option Addr) (c : Nat) (l : List UInt8) (hc : l.length ≤ c) (w : World) (hr : Rd w w.heap.size A l) :
    Calls Try.prog 3 #[.slice A l.length c] w fun e w' => e = .returned (.bool true) ∧ Below w.heap.size w w' := by
  have hsh := short_any A c l 2000 (by omega) hc w hr _ rfl
  have hle := take_le l 2000
  generalize l.take 2000 = x at *
  have hsh := Lib.hid hsh
  have hcr : Hid (rcrc x = crc x) := rcrc_eq x
  clear hr
  go_enter Try.func3, Try.ntmps3
  go_wp2_with fail
  refine hsh.out.mono ?_
  rintro e w1 ⟨v, rfl, hv, hb1⟩
  obtain ⟨A1, c1, rfl, _, _, hR, _⟩ := hv.form
  have hR := Lib.hid hR
  clear hv hsh
  go_wp2_with fail
  refine (awake_any _).mono ?_
  rintro e w2 ⟨rfl, hb2⟩
  have hR2 := Lib.hid (Rd.up hR.out hb2)
  go_wp2_with fail
  refine (sum_any _ _ _ _ hR2.out (by omega)).mono ?_
  rintro e w3 ⟨rfl, rfl⟩
  go_wp2_with fail
  refine (rsum_walk _ _ _ _ hR2.out (by omega)).mono ?_
  rintro e w3 ⟨rfl, rfl⟩
  rw [hcr.out]
  go_wp2_with fail
  go_ret
  exact ⟨rfl, hb1.trans (hb2.mono hb1.size)⟩

/-- the burst: four rounds -/
def burst (x : List UInt8) (at_ : Nat) (t : BitVec 32) : Nat → List UInt8
  | 0 => x
  | k + 1 => if h : at_ + k < (burst x at_ t k).length then (burst x at_ t k).set (at_ + k) ((burst x at_ t k)[at_ + k] ^^^ lo8 (t >>> (8 * k))) else burst x at_ t k
theorem burst_length (x : List UInt8) (at_ : Nat) (t : BitVec 32) (k : Nat) : (burst x at_ t k).length = x.length := by
  induction k with
  | zero => rfl
  | succ k ih =>
    unfold burst
    split
    · rw [List.length_set, ih]
    · exact ih
theorem burst_far (x : List UInt8) (at_ : Nat) (t : BitVec 32) (k i : Nat) (h : i < at_ ∨ at_ + k ≤ i) : (burst x at_ t k)[i]? = x[i]? := by
  induction k with
  | zero => rfl
  | succ k ih =>
    unfold burst
    split
    · rw [List.getElem?_set_ne (by omega)]
      exact ih (by omega)
    · exact ih (by omega)
set_option maxRecDepth 10000 in
theorem sumBurst_any (A : Option Addr) (c : Nat) (l : List UInt8) (hc : l.length ≤ c) (at_ : Nat) (hat : at_ ≤ 65535) (t : BitVec 32) (w : World) (hr : Rd w w.heap.size A l) :
    Calls Try.prog 4 #[.slice A l.length c, .int .u16 at_, .int .u32 (W t)] w fun e w' => e = .returned (.bool true) ∧ Below w.heap.size w w' := by
  have hsh := short_any A c l 2000 (by omega) hc w hr _ rfl
  have hle := take_le l 2000
  generalize l.take 2000 = x at *
  replace hsh := Lib.hid hsh
  clear hr
  go_enter Try.func4, Try.ntmps4
  go_wp2_with fail
  refine hsh.out.mono ?_
  rintro e w1 ⟨v, rfl, hv, hb1⟩
  obtain ⟨A1, c1, rfl, _, _, hR, _⟩ := hv.form
  have ho1 := Lib.hid (OB.empty w1 w1.heap.size (Nat.le_refl _))
  have hR1 := Lib.hid (hR.alloc (Nat.le_refl _) (.cells #[] 5))
  replace hR := Lib.hid hR
  clear hv hsh
  go_wp2_with (at_builtin; refine wpl_append rfl (.tmp 12) (.tmp 13) rfl w1.heap.size (.slice (some ⟨w1.heap.size, 0, none⟩) 0 0) [] rfl ho1.out w1.heap.size A1 c1 x rfl hR1.out (by simp; omega) (by simp) ?_; intro v2 w2 hown2 hg2 _)
  have hb2 : Below w1.heap.size w1 w2 := by
    refine ((Below.refl w1.heap.size w1).alloc (Nat.le_refl _) _).grown hg2 (by simp) (fun k hk => ?_)
    simp [Value.ownBlock] at hk; omega
  rw [List.nil_append] at hown2
  obtain ⟨A2, c2, rfl, _, _, _, _⟩ := hown2.form
  clear ho1 hR1
  have hl2 := Lib.hid (burst_length x at_ t)
  go_loopw [9] (fun i wr => ∃ k : Nat, k ≤ 4 ∧ i = .int .i64 k ∧ OB wr w1.heap.size (.slice A2 x.length c2) (burst x at_ t k) ∧ Below w1.heap.size w1 wr) (fun i _ => 4 - (intOf i).toNat)
  case atStart => exact ⟨0, Nat.zero_le _, rfl, hown2, hb2⟩
  case round =>
    obtain ⟨k, hk, rfl, hown, hbw⟩ := hrel
    clear hown2 hb2 hg2
    by_cases hlt : k < 4
    · by_cases hin : at_ + k < x.length
      · have hbl := hl2.out k
        obtain ⟨g, rfl, hg1, hg2, hcell, hfr, hst⟩ := hown.store (k := at_ + k) (by omega)
        have hB : Hid (burst x at_ t (k + 1) = (burst x at_ t k).set (at_ + k) ((burst x at_ t k)[at_ + k] ^^^ lo8 (t >>> (8 * k)))) := dif_pos (by omega)
        have hst := Lib.hid (hst ((burst x at_ t k)[at_ + k] ^^^ lo8 (t >>> (8 * k))))
        have hbl := Lib.hid hbl
        generalize (burst x at_ t k)[at_ + k] = z at *
        go_wp2
        go_roundw
        case rel => exact ⟨k + 1, by omega, by go_num, by rw [hB.out]; exact hst.out, hbw.setCell hg1 _⟩
        case measure => simp [intOf]; omega
      · have hB : Hid (burst x at_ t (k + 1) = burst x at_ t k) := dif_neg (by have := hl2.out k; omega)
        have hin' : (x.length : Int) ≤ (at_ : Int) + k := by omega
        go_wp2
        go_roundw
        case rel => exact ⟨k + 1, by omega, by go_num, by rw [hB.out]; exact hown, hbw⟩
        case measure => simp [intOf]; omega
    · obtain rfl : k = 4 := by omega
      have hyl := hl2.out 4
      have hRy := hown.rd.1
      have hRx := hR.out.up hbw
      have hcr : (crc x = crc (burst x at_ t 4)) ↔ x = burst x at_ t 4 := crc_burst at_ hyl.symm (fun i hi => (burst_far x at_ t 4 i hi).symm)
      clear hown
      generalize burst x at_ t 4 = y at *
      replace hyl := Lib.hid hyl
      have hsx := fun X : Sub wr.heap.size wr => run_str c1 (hRx.sub' X (Nat.le_refl _))
      have hsy := fun X : Sub wr.heap.size wr => run_str_at c2 (hRy.sub' X (Nat.le_refl _)) hyl.out
      replace hRx := Lib.hid hRx
      replace hRy := Lib.hid hRy
      have hb : (crc x == crc y) = (x == y) := by
        rw [Bool.eq_iff_iff]; simp only [beq_iff_eq]; exact hcr
      replace hb := Lib.hid hb
      clear hcr
      go_wp2
      refine wp_region_cls wr.heap.size (by kernel_rfl) (by kernel_rfl) ?_
      repeat (quiet_step (first | (go_at_call 18; exact cls_of_below (Nat.le_refl _) (awake_any _)) | (go_at_call_of 19 A1; exact cls_of_same (sum_at A1 _ _ x rfl _ (hRx.out.sub' _ (Nat.le_refl _)) (by omega))) | (go_at_call_of 19 A2; exact cls_of_same (sum_at A2 _ _ y hyl.out _ (hRy.out.sub' _ (Nat.le_refl _)) (by omega)))))
      refine wpQuiet_nil ?_
      rintro w9 ⟨X, rfl⟩
      rw [hb.out]
      go_wp2
      go_ret
      refine ⟨ret_self _, hb1.trans ((hbw.trans (X.2.mono hbw.size)).mono hb1.size)⟩
end Go.Proofs.Ytpenmeddbpgkmaa
