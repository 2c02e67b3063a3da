/- dig: what is summed up stays as it is and sums up to the same again. -/
import Derived.Test.YtpeilgeloaogfaaDig11
namespace Go.Proofs.Ytpeilgeloaogfaa
set_option linter.unusedVariables false
set_option linter.unusedSimpArgs false
open Go Go.RowKit
theorem Rd.gr {w w' : World} {A : Option Addr} {l : List UInt8} (hr : Gr w w') (h : Hid (Rd w w.heap.size A l)) : Hid (Rd w' w'.heap.size A l) := Lib.hid (h.out.up hr)
theorem Gr.on {a w w' : World} (hr : Gr w w') (h : Hid (Gr a w)) : Hid (Gr a w') := Lib.hid (h.out.trans hr)
theorem of_p (A : Option Addr) (n c : Nat) (l : List UInt8) (hl : Hid (l.length = n)) (hn : n ≤ 100000) (w : World) (h : Hid (Rd w w.heap.size A l)) (d : List UInt8) (hd : Hid (dg l = d)) :
    Calls Try.prog 50 #[.slice A n c] w fun e w' => e = .returned (.string (bs d)) ∧ Gr w w' := by
  rw [← hd.out]
  exact of_any A n c l hl hn w h
set_option maxHeartbeats 8000000 in
set_option maxRecDepth 20000 in
theorem digKeeps_any (A : Option Addr) (n c : Nat) (l : List UInt8) (hl : Hid (l.length = n)) (hc : n ≤ c) (hcm : c ≤ 9223372036854775807) (x1 : UInt8) (w : World) (h : Hid (Rd w w.heap.size A l)) :
    Calls Try.prog 17 #[.slice A n c, .int .u8 (U x1)] w fun e w' => e = .returned (.bool true) ∧ Below w.heap.size w w' := by
  obtain ⟨kx, hkx, hk255⟩ : ∃ k : Nat, U x1 = (k : Int) ∧ k ≤ 255 := ⟨x1.toNat, rfl, by have := x1.toNat_lt; omega⟩
  rw [hkx]
  replace hkx := Lib.hid hkx
  have hwk : IntKind.i64.wrap (kx : Int) = (kx : Int) := i64_wrap kx (by omega)
  go_enter Try.func17, Try.ntmps17
  go_wp2_with fail
  refine (short_any A n c l 600 (by decide) (by decide) hl hc hcm w h).mono ?_
  rintro e w1 ⟨A1, n1, c1, rfl, ho1, hl1, hr⟩
  have h600 : n1 ≤ 600 := by rw [← hl1.out, List.length_take]; omega
  have hq : Hid (Gr w w1) := Lib.hid hr
  clear hr h hl
  generalize l.take 600 = x at ho1 hl1
  have hx := Lib.hid (OB.rd ho1.out).1
  have hxc : n1 ≤ c1 := by have := (OB.rd ho1.out).2; rwa [hl1.out] at this
  clear ho1
  have ho := Lib.hid (OB.empty w1 w1.heap.size (Nat.le_refl _))
  have hb1 := Lib.hid ((Below.refl w1.heap.size w1).alloc (Nat.le_refl _) (.cells #[] 5))
  have hrd := Lib.hid (hx.out.up hb1.out)
  obtain ⟨kk, hkk⟩ : ∃ kk : Nat, kk = if n1 < kx then n1 else kx := ⟨_, rfl⟩
  have hkn : kk ≤ n1 := by rw [hkk]; split <;> omega
  obtain ⟨dd, hdd⟩ : ∃ d, dg (x.take kk) = d := ⟨_, rfl⟩
  obtain ⟨dx, hdx⟩ : ∃ d, dg x = d := ⟨_, rfl⟩
  replace hdd := Lib.hid hdd
  have hdl : Hid (dx.length = 32) := Lib.hid (by rw [← hdx]; exact dg_length x)
  replace hdx := Lib.hid hdx
  have htl : Hid ((x.take kk).length = kk) := Lib.hid (by rw [List.length_take, hl1.out]; omega)
  by_cases hlt : n1 < kx
  · obtain rfl : kk = n1 := by rw [hkk, if_pos hlt]
    clear hkk
    have i1 : (kk : Int) < (kx : Int) := by omega
    go_wp2_with (at_builtin; go_must (refine wpl_append rfl (.tmp 11) (.tmp 12) rfl w1.heap.size (.slice (some ⟨w1.heap.size, 0, none⟩) 0 0) [] rfl ho.out _ A1 c1 x (by rw [hl1.out]; rfl) hrd.out (by rw [hl1.out]; simp; omega) hb1.out.size ?_); intro v5 w5 ho5 hg5 _; have hb5 := below_rowD ho.out hb1.out hb1.out.size hg5; rw [List.nil_append] at ho5; obtain ⟨A5, c5, rfl, hc5, -, -, -⟩ := ho5.form; rw [hl1.out] at ho5 hc5 ⊢; replace hx := Rd.gr hb5 hx; replace hq := Gr.on hb5 hq; have hy := Lib.hid (OB.rd ho5).1; clear hg5 ho5 hb5 ho hb1 hrd)
    refine (of_p A1 kk c1 (x.take kk) htl (by omega) _ (Lib.hid (hx.out.take kk (by rw [hl1.out]; omega))) dd hdd).mono ?_
    rintro e w6 ⟨rfl, hr⟩
    replace hx := Rd.gr hr hx
    replace hy := Rd.gr hr hy
    replace hq := Gr.on hr hq
    clear hr
    have hs1 := run_str_at c1 hx.out hl1.out
    have hs2 := run_str_at c5 hy.out hl1.out
    go_wp2_with fail
    clear hs1 hs2
    refine (awake05_any _).mono ?_
    rintro e w7 ⟨rfl, hr⟩
    replace hx := Rd.gr hr hx
    replace hy := Rd.gr hr hy
    replace hq := Gr.on hr hq
    clear hr
    have hk5 : kk ≤ c5 := by omega
    go_wp2_with fail
    refine (of_p A5 kk kk (x.take kk) htl (by omega) _ (Lib.hid (hy.out.take kk (by rw [hl1.out]; omega))) dd hdd).mono ?_
    rintro e w8 ⟨rfl, hr⟩
    replace hx := Rd.gr hr hx
    replace hq := Gr.on hr hq
    clear hr
    go_wp2_with fail
    refine (of_p A1 kk c1 x hl1 (by omega) _ hx dx hdx).mono ?_
    rintro e w9 ⟨rfl, hr⟩
    replace hq := Gr.on hr hq
    clear hr
    have hdl' := hdl.out
    go_wp2_with fail
    go_ret
    exact ⟨rfl, hq.out⟩
  · obtain rfl : kk = kx := by rw [hkk, if_neg hlt]
    clear hkk
    have i1 : ¬ ((n1 : Int) < (kk : Int)) := by omega
    have i1' : decide ((n1 : Int) < (kk : Int)) = false := decide_eq_false i1
    have i1'' : (kk : Int) ≤ (n1 : Int) := by omega
    go_wp2_with (at_builtin; go_must (refine wpl_append rfl (.tmp 11) (.tmp 12) rfl w1.heap.size (.slice (some ⟨w1.heap.size, 0, none⟩) 0 0) [] rfl ho.out _ A1 c1 x (by rw [hl1.out]; rfl) hrd.out (by rw [hl1.out]; simp; omega) hb1.out.size ?_); intro v5 w5 ho5 hg5 _; have hb5 := below_rowD ho.out hb1.out hb1.out.size hg5; rw [List.nil_append] at ho5; obtain ⟨A5, c5, rfl, hc5, -, -, -⟩ := ho5.form; rw [hl1.out] at ho5 hc5 ⊢; replace hx := Rd.gr hb5 hx; replace hq := Gr.on hb5 hq; have hy := Lib.hid (OB.rd ho5).1; clear hg5 ho5 hb5 ho hb1 hrd)
    refine (of_p A1 kk c1 (x.take kk) htl (by omega) _ (Lib.hid (hx.out.take kk (by rw [hl1.out]; omega))) dd hdd).mono ?_
    rintro e w6 ⟨rfl, hr⟩
    replace hx := Rd.gr hr hx
    replace hy := Rd.gr hr hy
    replace hq := Gr.on hr hq
    clear hr
    have hs1 := run_str_at c1 hx.out hl1.out
    have hs2 := run_str_at c5 hy.out hl1.out
    go_wp2_with fail
    clear hs1 hs2
    refine (awake05_any _).mono ?_
    rintro e w7 ⟨rfl, hr⟩
    replace hx := Rd.gr hr hx
    replace hy := Rd.gr hr hy
    replace hq := Gr.on hr hq
    clear hr
    have hk5 : kk ≤ c5 := by omega
    go_wp2_with fail
    refine (of_p A5 kk kk (x.take kk) htl (by omega) _ (Lib.hid (hy.out.take kk (by rw [hl1.out]; omega))) dd hdd).mono ?_
    rintro e w8 ⟨rfl, hr⟩
    replace hx := Rd.gr hr hx
    replace hq := Gr.on hr hq
    clear hr
    go_wp2_with fail
    refine (of_p A1 n1 c1 x hl1 (by omega) _ hx dx hdx).mono ?_
    rintro e w9 ⟨rfl, hr⟩
    replace hq := Gr.on hr hq
    clear hr
    have hdl' := hdl.out
    go_wp2_with fail
    go_ret
    exact ⟨rfl, hq.out⟩
end Go.Proofs.Ytpeilgeloaogfaa
