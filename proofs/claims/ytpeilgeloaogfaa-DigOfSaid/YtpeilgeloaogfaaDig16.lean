/- dig: the digest of any bytes, and of one byte any number of times, is the reference's. -/
import Derived.Test.YtpeilgeloaogfaaDig15
namespace Go.Proofs.Ytpeilgeloaogfaa
set_option linter.unusedVariables false
set_option linter.unusedSimpArgs false
open Go Go.RowKit
theorem refOf_p (A : Option Addr) (n c : Nat) (l : List UInt8) (hl : Hid (l.length = n)) (hn : n ≤ 100000) (w : World) (h : Hid (Rd w w.heap.size A l)) (d : List UInt8) (hd : Hid (dg l = d)) :
    Calls Try.prog 51 #[.slice A n c] w fun e w' => e = .returned (.string (bs d)) ∧ Gr w w' := by
  rw [← hd.out]
  exact refOf_any A n c l hl hn w h
set_option maxHeartbeats 8000000 in
set_option maxRecDepth 20000 in
theorem digOf_any (A : Option Addr) (n c : Nat) (l : List UInt8) (hl : Hid (l.length = n)) (hc : n ≤ c) (hcm : c ≤ 9223372036854775807) (w : World) (h : Hid (Rd w w.heap.size A l)) :
    Calls Try.prog 15 #[.slice A n c] w fun e w' => e = .returned (.bool true) ∧ Below w.heap.size w w' := by
  go_enter Try.func15, Try.ntmps15
  go_wp2_with fail
  refine (short_any A n c l 600 (by decide) (by decide) hl hc hcm w h).mono ?_
  rintro e w1 ⟨A1, n1, c1, rfl, ho1, hl1, hr⟩
  have h600 : n1 ≤ 600 := by rw [← hl1.out, List.length_take]; omega
  have hq : Hid (Gr w w1) := Lib.hid hr
  clear hr h hl
  generalize l.take 600 = x at ho1 hl1
  have hx := Lib.hid (OB.rd ho1.out).1
  clear ho1
  obtain ⟨dx, hdx⟩ : ∃ d, dg x = d := ⟨_, rfl⟩
  replace hdx := Lib.hid hdx
  go_wp2_with fail
  refine (awake05_any _).mono ?_
  rintro e w7 ⟨rfl, hr⟩
  replace hx := Rd.gr hr hx
  replace hq := Gr.on hr hq
  clear hr
  go_wp2_with fail
  refine (of_p A1 n1 c1 x hl1 (by omega) _ hx dx hdx).mono ?_
  rintro e w8 ⟨rfl, hr⟩
  replace hx := Rd.gr hr hx
  replace hq := Gr.on hr hq
  clear hr
  go_wp2_with fail
  refine (refOf_p A1 n1 c1 x hl1 (by omega) _ hx dx hdx).mono ?_
  rintro e w9 ⟨rfl, hr⟩
  replace hq := Gr.on hr hq
  clear hr
  go_wp2_with fail
  go_ret
  exact ⟨rfl, hq.out⟩
set_option maxHeartbeats 8000000 in
set_option maxRecDepth 20000 in
theorem digRow_any (x0 x1 : UInt8) (w : World) :
    Calls Try.prog 16 #[.int .u8 (U x0), .int .u8 (U x1)] w fun e w' => e = .returned (.bool true) ∧ Below w.heap.size w w' := by
  obtain ⟨kx, hkx, hk255⟩ : ∃ k : Nat, U x1 = (k : Int) ∧ k ≤ 255 := ⟨x1.toNat, rfl, by have := x1.toNat_lt; omega⟩
  rw [hkx]
  replace hkx := Lib.hid hkx
  have hwk : IntKind.i64.wrap (kx : Int) = (kx : Int) := i64_wrap kx (by omega)
  have hwk2 : wrap64 (kx : Int) = (kx : Int) := by unfold wrap64; omega
  have ho := Lib.hid (OB.empty w w.heap.size (Nat.le_refl _))
  have hq0 : Hid (Below w.heap.size w (w.alloc (.cells #[] 5))) := Lib.hid ((Below.refl w.heap.size w).alloc (Nat.le_refl _) _)
  go_enter Try.func16, Try.ntmps16
  go_wp2_with fail
  generalize hg : w.heap.size = g at ho hq0 ⊢
  replace hg := Lib.hid hg
  generalize w.alloc (.cells #[] 5) = w1 at ho hq0 ⊢
  go_loopw [5, 6] (fun v i wr => ∃ (j : Nat) (A4 : Option Addr) (c4 : Nat), j ≤ kx ∧ v = .slice A4 j c4 ∧ i = .int .i64 j ∧ Hid (OB wr g (.slice A4 j c4) (row j (fun _ => x0))) ∧ Hid (Below g w wr) ∧ Hid (g ≤ wr.heap.size)) (fun _ i _ => (kx - intOf i).toNat)
  case atStart => exact ⟨0, _, _, by omega, rfl, rfl, ho, hq0, Lib.hid (Nat.le_trans (Nat.le_of_eq hg.out.symm) hq0.out.size)⟩
  case round =>
    obtain ⟨j, A4, c4, hj, rfl, rfl, ho, hb, hs⟩ := hrel
    clear hq0
    by_cases hjk : j < kx
    · have ij : (j : Int) < (kx : Int) := by omega
      have hrow := Lib.hid (row_snocD j (fun _ => x0))
      have hlit := Lib.hid (Rd.lit wr #[.int .u8 (U x0)] 5 [x0] rfl ((wr.alloc (.cells #[.int .u8 (U x0)] 5)).heap.size) (by simp))
      have ho7 := Lib.hid (ho.out.alloc (.cells #[.int .u8 (U x0)] 5))
      have hb7 : Hid (Below g w (wr.alloc (.cells #[.int .u8 (U x0)] 5))) := Lib.hid (hb.out.alloc hs.out _)
      have hsz7 : g ≤ (wr.alloc (.cells #[.int .u8 (U x0)] 5)).heap.size := Nat.le_trans hs.out (by simp)
      have hbd : Hid ((row j (fun _ => x0)).length + 1 ≤ 140737488355328) := Lib.hid (by rw [row_length]; omega)
      generalize hrr : row j (fun _ => x0) = rr at ho ho7 hrow hbd
      replace hrr := Lib.hid hrr
      go_wp2_with (at_builtin; go_must (refine wpl_append rfl (.tmp 15) (.tmp 17) rfl g (.slice A4 j c4) rr rfl ho7.out _ _ 1 [x0] rfl hlit.out hbd.out hsz7 ?_); intro v8 w8 ho8 hg8 _; have hq8 := below_rowD ho7.out hb7.out hsz7 hg8; rw [hrow.out] at ho8; obtain ⟨A8, c8, rfl, -, -, -, -⟩ := ho8.form; rw [row_length] at ho8 ⊢; replace ho8 := Lib.hid ho8; replace hsz7 := Lib.hid (Nat.le_trans hsz7 (hg8.size)); replace hq8 := Lib.hid hq8; clear hg8)
      go_roundw
      case rel => first | exact ⟨j + 1, A8, c8, by omega, rfl, by go_num, ho8, hq8, hsz7⟩ | ((repeat apply Exists.intro); exact ⟨⟨j + 1, A8, c8, by omega, rfl, by go_num, ho8, hq8, hsz7⟩, rfl⟩)
      case measure => simp [intOf]; omega
    · obtain rfl : j = kx := by omega
      have ij : decide ((j : Int) < (j : Int)) = false := decide_eq_false (by omega)
      clear hjk
      obtain ⟨x, hxx⟩ : ∃ x, row j (fun _ => x0) = x := ⟨_, rfl⟩
      have hl1 : Hid (x.length = j) := Lib.hid (by rw [← hxx, row_length])
      rw [hxx] at ho
      replace hxx := Lib.hid hxx
      have hx := Lib.hid (OB.rd ho.out).1
      have hq : Hid (Gr w wr) := Lib.hid (by show Below w.heap.size w wr; rw [hg.out]; exact hb.out)
      clear ho hb hs
      obtain ⟨dx, hdx⟩ : ∃ d, dg x = d := ⟨_, rfl⟩
      have hdl : Hid (dx.length = 32) := Lib.hid (by rw [← hdx]; exact dg_length x)
      replace hdx := Lib.hid hdx
      go_wp2_with fail
      refine (of_p A4 j c4 x hl1 (by omega) _ hx dx hdx).mono ?_
      rintro e w8 ⟨rfl, hr⟩
      replace hx := Rd.gr hr hx
      replace hq := Gr.on hr hq
      clear hr
      go_wp2_with fail
      refine (awake05_any _).mono ?_
      rintro e w7 ⟨rfl, hr⟩
      replace hx := Rd.gr hr hx
      replace hq := Gr.on hr hq
      clear hr
      have hdl' := hdl.out
      go_wp2_with fail
      refine (refOf_p A4 j c4 x hl1 (by omega) _ hx dx hdx).mono ?_
      rintro e w9 ⟨rfl, hr⟩
      replace hq := Gr.on hr hq
      clear hr
      go_wp2_with fail
      go_ret
      exact ⟨rfl, hq.out⟩
end Go.Proofs.Ytpeilgeloaogfaa
