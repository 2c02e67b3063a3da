/- The walks of word: what is put. -/
import Derived.Test.YtgdbbjijneidaaaBytes2
import Derived.Test.YtgdbbjijneidaaaWordMath
namespace Go.Proofs.Ytgdbbjijneidaaa
set_option linter.unusedVariables false
open Go Go.RowKit

set_option maxRecDepth 10000 in
theorem copied_any (A : Option Addr) (n c : Nat) (l : List UInt8) (hn : l.length = n) (hl : n ≤ 140737488355328) (w : World) (hr : Rd w w.heap.size A l) :
    Calls Try.prog 71 #[.slice A n c] w fun e w' => ∃ v, e = .returned v ∧ OB w' w.heap.size v l ∧ Below w.heap.size w w' := by
  replace hr := Lib.hid hr
  replace hn := Lib.hid hn
  go_enter Try.func71, Try.ntmps71
  go_wp2_with (first
    | (refine wpl_make rfl (.tmp 5) (.tmp 5) rfl w.heap.size n rfl rfl hl (Nat.le_refl _) ?_; intro w1 hown1 hb1)
    | (with_reducible refine wpl_copy_full rfl (.tmp 7) (.tmp 8) rfl w.heap.size w.heap.size n _ hown1 w1.heap.size A c l hn.out rfl rfl (hr.out.up hb1) ?_; intro w2 hown2 hb2))
  go_ret
  exact ⟨_, rfl, hown2, hb1.trans hb2⟩

@[go_sem] theorem u8_wrapMod (k : Nat) : IntKind.u8.wrap ((k : Int) % 128) = U (UInt8.ofNat (k % 128)) := by
  rw [IntKind.wrap_u8]; unfold U; rw [UInt8.toNat_ofNat']; omega
set_option maxRecDepth 10000 in
theorem putNumber_any (base : Nat) (v : Value) (l : List UInt8) (n : Int) (h0 : -9223372036854775808 ≤ n) (h1 : n ≤ 9223372036854775807) (hl : l.length ≤ 140737488355300) (w : World) (ho : OB w base v l) (hbase : base ≤ w.heap.size) :
    Calls Try.prog 70 #[v, .int .i64 n] w fun e w' => ∃ v', e = .returned v' ∧ OB w' base v' (l ++ enc n.toNat) ∧ Below base w w' := by
  obtain ⟨m, hm, hme, hcase⟩ : ∃ m : Nat, m ≤ 9223372036854775807 ∧ n.toNat = m ∧ ((n < 0 ∧ m = 0) ∨ (0 ≤ n ∧ n = m)) := ⟨n.toNat, by omega, rfl, by omega⟩
  rw [hme]
  clear hme
  replace ho := Lib.hid ho
  have hen := Lib.hid (enc_length m hm)
  have hst := Lib.hid (enc8 m hm)
  have hm9 : Hid (m < 2 ^ (7 * (8 + 1))) := (show m < 2 ^ (7 * (8 + 1)) by omega)
  rcases hcase with ⟨hn, rfl⟩ | ⟨hn, rfl⟩
  all_goals
    go_enter Try.func70, Try.ntmps70
    go_wp2
    go_loopw [0, 1] (fun v' i wr => ∃ (k f : Nat) (l' : List UInt8), i = .int .i64 k ∧ k ≤ 9223372036854775807 ∧ OB wr base v' l' ∧ Hid (l' ++ vint f k = l ++ enc _) ∧ Hid (k < 2 ^ (7 * (f + 1))) ∧ Below base w wr) (fun _ i _ => (intOf i).toNat)
    case atStart => exact ⟨_, 8, l, rfl, by omega, ho.out, by rw [hst.out]; rfl, hm9, Below.refl _ _⟩
    case round =>
      obtain ⟨k, f, l', rfl, hk, hown, hv, hf, hb⟩ := hrel
      have hz := hb.size
      have hlen : l'.length ≤ l.length + 9 := by
        have := congrArg List.length hv.out
        have := hen.out
        simp only [List.length_append] at *
        omega
      by_cases hlt : 128 ≤ k
      · go_wp2_with (at_builtin; refine wpl_append rfl (.tmp 9) (.tmp 14) rfl base u0 l' rfl (hown.alloc _) (wr.heap.size + 1) (some ⟨wr.heap.size, 0, none⟩) 1 [UInt8.ofNat (k % 128) ||| 128] rfl (Rd.lit _ _ _ _ rfl _ (by simp)) (by simp; omega) (by simp; omega) ?_; intro v1 w1 hown1 hg1 _)
        go_roundw
        case rel =>
          obtain ⟨f, rfl⟩ : ∃ f', f = f' + 1 := by
            cases f with
            | zero => exact absurd hf.out (by omega)
            | succ f => exact ⟨f, rfl⟩
          have hv := hv.out
          have hf := hf.out
          rw [vint_big f k hlt, ← or128] at hv
          refine ⟨k / 128, f, _, by simp, by omega, hown1, (show _ = _ by rw [← hv, List.append_assoc]; rfl), (show _ < _ from ?_), below_app (OB.alloc hown _) (hb.alloc (by omega) _) (by simp; omega) hg1⟩
          rw [show 7 * (f + 1 + 1) = 7 * (f + 1) + 7 from by omega, Nat.pow_add] at hf
          exact Nat.div_lt_of_lt_mul (by rw [Nat.mul_comm]; exact hf)
        case measure => simp [intOf]; omega
      · go_wp2_with (at_builtin; refine wpl_append rfl (.tmp 18) (.tmp 21) rfl base u0 l' rfl (hown.alloc _) (wr.heap.size + 1) (some ⟨wr.heap.size, 0, none⟩) 1 [UInt8.ofNat k] rfl (Rd.lit _ _ _ _ rfl _ (by simp)) (by simp; omega) (by simp; omega) ?_; intro v1 w1 hown1 hg1 _)
        go_ret
        have hv := hv.out
        rw [vint_small f k (by omega)] at hv
        exact ⟨v1, rfl, by rw [← hv]; exact hown1, below_app (OB.alloc hown _) (hb.alloc (by omega) _) (by simp; omega) hg1⟩

set_option maxRecDepth 10000 in
theorem put_any (A : Option Addr) (k c : Nat) (l : List UInt8) (hk : l.length = k) (n : Int) (h0 : -9223372036854775808 ≤ n) (h1 : n ≤ 9223372036854775807) (hl : k ≤ 140737488355300) (w : World) (hr : Rd w w.heap.size A l) :
    Calls Try.prog 44 #[.slice A k c, .int .i64 n] w fun e w' => ∃ v', e = .returned v' ∧ OB w' w.heap.size v' (l ++ enc n.toNat) ∧ Below w.heap.size w w' := by
  replace hr := Lib.hid hr
  replace hk := Lib.hid hk
  go_enter Try.func44, Try.ntmps44
  go_wp2_with fail
  refine (copied_any A k c l hk.out (by omega) w hr.out).mono ?_
  rintro e w1 ⟨v1, rfl, hown, hb⟩
  go_wp2_with fail
  refine (putNumber_any w.heap.size v1 l n h0 h1 (by rw [hk.out]; exact hl) w1 hown hb.size).mono ?_
  rintro e w2 ⟨v2, rfl, hown2, hb2⟩
  go_wp2_with fail
  go_ret
  exact ⟨v2, rfl, hown2, hb.trans hb2⟩
set_option maxRecDepth 10000 in
theorem text_any (A : Option Addr) (k c : Nat) (l : List UInt8) (hk : l.length = k) (m : List UInt8) (hl : k + m.length ≤ 140737488355300) (w : World) (hr : Rd w w.heap.size A l) :
    Calls Try.prog 45 #[.slice A k c, .string (bs m)] w fun e w' => ∃ v', e = .returned v' ∧ OB w' w.heap.size v' ((l ++ enc m.length) ++ m) ∧ Below w.heap.size w w' := by
  replace hr := Lib.hid hr
  replace hk := Lib.hid hk
  have hen := Lib.hid (enc_length m.length (by omega))
  go_enter Try.func45, Try.ntmps45
  go_wp2_with fail
  refine (copied_any A k c l hk.out (by omega) w hr.out).mono ?_
  rintro e w1 ⟨v1, rfl, hown, hb⟩
  go_wp2_with fail
  refine (putNumber_any w.heap.size v1 l (m.length : Int) (by omega) (by omega) (by rw [hk.out]; omega) w1 hown hb.size).mono ?_
  rintro e w2 ⟨v2, rfl, hown2, hb2⟩
  rw [Int.toNat_natCast] at hown2
  have hb12 := hb.trans hb2
  go_wp2_with (refine wpl_append_str rfl (.tmp 9) (.tmp 10) rfl w.heap.size v2 (l ++ enc m.length) rfl hown2 m rfl (by rw [List.length_append, hk.out]; have := hen.out; omega) hb12.size ?_; intro v3 w3 hown3 hg3)
  go_ret
  exact ⟨v3, rfl, hown3, below_app hown2 hb12 hb12.size hg3⟩
end Go.Proofs.Ytgdbbjijneidaaa
