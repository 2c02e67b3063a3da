/- dig: the padded message. -/
import Derived.Test.YtpeilgeloaogfaaDig1
import Derived.Test.YtpeilgeloaogfaaClone
namespace Go.Proofs.Ytpeilgeloaogfaa
set_option linter.unusedVariables false
set_option linter.unusedSimpArgs false
open Go Go.RowKit
def allN (n : Nat) : Nat := 64 * ((n + 72) / 64)
def atF (l : List UInt8) (all k : Nat) : UInt8 := if k < l.length then l.getD k 0 else if k = l.length then 128 else if all - 8 ≤ k then UInt8.ofNat (l.length * 8 / 2 ^ (8 * (all - 1 - k))) else 0
def msg (l : List UInt8) : List UInt8 := row (allN l.length) (atF l (allN l.length))
theorem msg_length (l : List UInt8) : (msg l).length = allN l.length := row_length _ _
theorem at_start (l : List UInt8) (all : Nat) : l ++ [128] = row (l.length + 1) (atF l all) := by
  rw [← row_snocD]
  have e1 : atF l all l.length = 128 := by unfold atF; rw [if_neg (by omega), if_pos rfl]
  have e2 : row l.length (atF l all) = l := by
    rw [row_congr (g := fun j => l.getD j 0) (fun j hj => by unfold atF; rw [if_pos hj])]
    exact row_of l
  rw [e1, e2]
theorem byte_conv (n s : Nat) : ((n : Int) * 8 / 2 ^ s % 256) = U (UInt8.ofNat (n * 8 / 2 ^ s)) := by
  unfold U
  rw [UInt8.toNat_ofNat']
  rw [pow_castD s]
  rfl
set_option maxHeartbeats 8000000 in
set_option maxRecDepth 20000 in
theorem message_any (A : Option Addr) (n c : Nat) (l : List UInt8) (hl : Hid (l.length = n)) (hn : n ≤ 100000) (w : World) (h : Hid (Rd w w.heap.size A l)) :
    Calls Try.prog 95 #[.slice A n c] w fun e w' => ∃ A' c', e = .returned (.slice A' (allN n) c') ∧ Hid (OB w' w.heap.size (.slice A' (allN n) c') (msg l)) ∧ Gr w w' := by
  have hcl := Lib.hid (clone_any A n c l hl.out (by omega) w h.out)
  have hal : Hid (n + 9 ≤ allN n ∧ allN n ≤ n + 72 ∧ 64 ≤ allN n ∧ ∀ k, n + 1 ≤ k → k ≤ allN n - 8 → (k % 64 = 56 ↔ k = allN n - 8)) := Lib.hid (by
    unfold allN
    refine ⟨by omega, by omega, by omega, fun k h1 h2 => ⟨fun h => by omega, fun h => by omega⟩⟩)
  have hst := Lib.hid (at_start l (allN n))
  rw [show msg l = row (allN n) (atF l (allN n)) from by unfold msg; rw [hl.out]]
  obtain ⟨al, hall⟩ : ∃ al, allN n = al := ⟨_, rfl⟩
  rw [hall] at hal hst ⊢
  replace hall := Lib.hid hall
  go_enter Try.func95, Try.ntmps95
  go_wp2_with fail
  refine hcl.out.mono ?_
  rintro e w1 ⟨v1, rfl, ho1, hr⟩
  obtain ⟨A1, c1, rfl, -, -, -, -⟩ := ho1.form
  rw [hl.out] at ho1 ⊢
  have hlit := Lib.hid (Rd.lit w1 #[.int .u8 (U 128)] 5 [128] rfl ((w1.alloc (.cells #[.int .u8 (U 128)] 5)).heap.size) (by simp))
  have ho2 := Lib.hid (ho1.alloc (.cells #[.int .u8 (U 128)] 5))
  have hb2 : w.heap.size ≤ (w1.alloc (.cells #[.int .u8 (U 128)] 5)).heap.size := by have := hr.size; simp; omega
  have hq2 : Hid (Below w.heap.size w (w1.alloc (.cells #[.int .u8 (U 128)] 5))) := Lib.hid (hr.alloc hr.size _)
  clear hcl ho1 hr
  go_wp2_with (at_builtin; go_must (refine wpl_append rfl (.tmp 7) (.tmp 8) rfl w.heap.size (.slice A1 n c1) l rfl ho2.out _ _ 1 [128] rfl hlit.out (by rw [hl.out]; simp; omega) hb2 ?_); intro v5 w5 ho5 hg5 _; have hq5 := Lib.hid (below_rowD ho2.out hq2.out hb2 hg5); rw [hst.out] at ho5; obtain ⟨A5, c5, rfl, -, -, -, -⟩ := ho5.form; rw [row_length, hl.out] at ho5 ⊢; replace ho5 := Lib.hid ho5; clear hg5)
  clear ho2 hlit hb2 hq2
  go_loopw [3] (fun v wr => ∃ (k : Nat) (A4 : Option Addr) (c4 : Nat), n + 1 ≤ k ∧ k ≤ al - 8 ∧ v = .slice A4 k c4 ∧ Hid (OB wr w.heap.size (.slice A4 k c4) (row k (atF l al))) ∧ Hid (Below w.heap.size w wr)) (fun v _ => match v with | .slice _ k _ => al - k | _ => 0)
  case atStart => exact ⟨n + 1, A5, c5, Nat.le_refl _, by have := hal.out.1; omega, rfl, ho5, hq5⟩
  case round =>
    obtain ⟨k, A4, c4, hk1, hk2, rfl, ho, hq⟩ := hrel
    clear ho5 hq5
    have hm : Int.tmod (k : Int) 64 = ((k % 64 : Nat) : Int) := Int.ofNat_tmod k 64
    have hiff := hal.out.2.2.2 k hk1 hk2
    by_cases h56 : k % 64 = 56
    · have hk : k = al - 8 := hiff.mp h56
      rw [h56] at hm
      replace h56 := Lib.hid h56
      replace hiff := Lib.hid hiff
      have hk' : Hid (k = al - 8) := Lib.hid hk
      clear hk
      go_wp2_with fail
      go_loopw [3, 5] (fun v s wr => ∃ (q t : Nat) (A4 : Option Addr) (c4 : Nat), t ≤ 8 ∧ s = .int .i64 (56 - 8 * (t : Int)) ∧ v = .slice A4 q c4 ∧ Hid (q = al - 8 + t) ∧ Hid (OB wr w.heap.size (.slice A4 q c4) (row q (atF l al))) ∧ Hid (Below w.heap.size w wr)) (fun _ s _ => (intOf s + 64).toNat)
      case atStart => exact ⟨k, 0, A4, c4, by omega, rfl, rfl, Lib.hid (by rw [hk'.out]; rfl), ho, hq⟩
      case round =>
        obtain ⟨q, t, A6, c6, ht, rfl, rfl, hqt, ho6, hq6⟩ := hrel
        clear ho hq
        by_cases h8 : t < 8
        · have i8 : (0 : Int) ≤ 56 - 8 * (t : Int) := by omega
          have hbv := byte_conv n (56 - 8 * t)
          obtain ⟨x, hx⟩ : ∃ x, UInt8.ofNat (n * 8 / 2 ^ (56 - 8 * t)) = x := ⟨_, rfl⟩
          rw [hx] at hbv
          have hat : Hid (atF l al q = x) := Lib.hid (by
            have h1 := hal.out
            have h2 := hqt.out
            unfold atF
            rw [hl.out, if_neg (by omega), if_neg (by omega), if_pos (by omega), show 8 * (al - 1 - q) = 56 - 8 * t from by omega, hx])
          replace hx := Lib.hid hx
          have hlit := Lib.hid (Rd.lit wr #[.int .u8 (U x)] 5 [x] rfl ((wr.alloc (.cells #[.int .u8 (U x)] 5)).heap.size) (by simp))
          have ho7 := Lib.hid (ho6.out.alloc (.cells #[.int .u8 (U x)] 5))
          have hq7 := Lib.hid (hq6.out.alloc hq6.out.size (.cells #[.int .u8 (U x)] 5))
          have hqq : Hid (q + 1 = al - 8 + (t + 1)) := Lib.hid (by rw [hqt.out]; rfl)
          have hbd : Hid ((row q (atF l al)).length + 1 ≤ 140737488355328) := Lib.hid (by
            have h1 := hal.out
            have h2 := hqt.out
            rw [row_length]; omega)
          go_wp2_with (at_builtin; go_must (refine wpl_append rfl (.tmp 25) (.tmp 30) rfl w.heap.size (.slice A6 q c6) (row q (atF l al)) rfl ho7.out _ _ 1 [x] rfl hlit.out hbd.out hq7.out.size ?_); intro v8 w8 ho8 hg8 _; have hq8 := Lib.hid (below_rowD ho7.out hq7.out hq7.out.size hg8); rw [← hat.out, row_snocD] at ho8; obtain ⟨A8, c8, rfl, -, -, -, -⟩ := ho8.form; rw [row_length] at ho8 ⊢; replace ho8 := Lib.hid ho8; clear hg8)
          go_roundw
          case rel => first | exact ⟨q + 1, t + 1, A8, c8, by omega, by congr 1; omega, rfl, hqq, ho8, hq8⟩ | ((repeat apply Exists.intro); exact ⟨⟨q + 1, t + 1, A8, c8, by omega, by congr 1; omega, rfl, hqq, ho8, hq8⟩, rfl⟩)
          case measure => simp [intOf]; omega
        · obtain rfl : t = 8 := by omega
          have hqa : q = al := by have h1 := hal.out; have h2 := hqt.out; omega
          subst hqa
          go_wp2_with fail
          go_ret
          exact ⟨A6, c6, rfl, ho6, hq6.out⟩
    · have hk : k < al - 8 := by
        rcases Nat.lt_or_ge k (al - 8) with h | h
        · exact h
        · exact absurd (hiff.mpr (by omega)) h56
      have hm2 : (((k % 64 : Nat) : Int) != 56) = true := by simp; omega
      have hat : Hid (atF l al k = 0) := Lib.hid (by
        unfold atF
        rw [hl.out, if_neg (by omega), if_neg (by omega), if_neg (by omega)])
      obtain ⟨r, hr⟩ : ∃ r, k % 64 = r := ⟨_, rfl⟩
      rw [hr] at hm hm2
      replace hr := Lib.hid hr
      replace h56 := Lib.hid h56
      replace hiff := Lib.hid hiff
      have hlit := Lib.hid (Rd.lit wr #[.int .u8 (U 0)] 5 [0] rfl ((wr.alloc (.cells #[.int .u8 (U 0)] 5)).heap.size) (by simp))
      have ho7 := Lib.hid (ho.out.alloc (.cells #[.int .u8 (U 0)] 5))
      have hq7 := Lib.hid (hq.out.alloc hq.out.size (.cells #[.int .u8 (U 0)] 5))
      have hbd : Hid ((row k (atF l al)).length + 1 ≤ 140737488355328) := Lib.hid (by
        have h1 := hal.out
        rw [row_length]; omega)
      go_wp2_with (at_builtin; go_must (refine wpl_append rfl (.tmp 14) (.tmp 15) rfl w.heap.size (.slice A4 k c4) (row k (atF l al)) rfl ho7.out _ _ 1 [0] rfl hlit.out hbd.out hq7.out.size ?_); intro v8 w8 ho8 hg8 _; have hq8 := Lib.hid (below_rowD ho7.out hq7.out hq7.out.size hg8); rw [← hat.out, row_snocD] at ho8; obtain ⟨A8, c8, rfl, -, -, -, -⟩ := ho8.form; rw [row_length] at ho8 ⊢; replace ho8 := Lib.hid ho8; clear hg8)
      go_roundw
      case rel => first | exact ⟨k + 1, A8, c8, by omega, by omega, rfl, ho8, hq8⟩ | ((repeat apply Exists.intro); exact ⟨⟨k + 1, A8, c8, by omega, by omega, rfl, ho8, hq8⟩, rfl⟩)
      case measure => simp only []; omega
end Go.Proofs.Ytpeilgeloaogfaa
