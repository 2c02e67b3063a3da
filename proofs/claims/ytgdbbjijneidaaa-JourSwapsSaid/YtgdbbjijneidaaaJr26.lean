/- The law's own choice of notes: they are those that came in. -/
import Derived.Test.YtgdbbjijneidaaaJr25
import Derived.Test.YtgdbbjijneidaaaJr23
namespace Go.Proofs.Ytgdbbjijneidaaa
set_option linter.unusedVariables false
set_option linter.unusedSimpArgs false
open Go Go.RowKit
set_option maxHeartbeats 4000000 in
set_option maxRecDepth 20000 in
theorem someO_any (L : List Nt) (v : Value) (most : Nat) (hmo : most ≤ 1000) (w0 w : World) (hw : Gr w0 w) (h : NsV L v w0) :
    Calls Try.prog 22 #[v, .int .i64 most] w fun e w' => ∃ u E, e = .returned u ∧ E.map (·.n) = (L.take most).filter goodN ∧ ON E u w.heap.size w' ∧ Gr w w' ∧ ∀ x ∈ E, NeV x w0 := by
  obtain ⟨A, c, rfl, hc1, hc2⟩ := h.len
  obtain ⟨n, hn⟩ : ∃ n, L.length = n := ⟨_, rfl⟩
  rw [hn] at h hc1 ⊢
  have hnm : n ≤ 9223372036854775807 := by simp only [maxLen] at hc2; omega
  obtain ⟨N, hN⟩ : ∃ N, w.heap.size = N := ⟨_, rfl⟩
  rw [hN]
  have hg0 := Gr.alloc w (.cells #[] 25)
  have ho0 : ON [] (.slice (some ⟨w.heap.size, 0, none⟩) 0 0) N (w.alloc (.cells #[] 25)) := ON.empty w N (by omega)
  obtain ⟨w1, hw1⟩ : ∃ w1, w.alloc (.cells #[] 25) = w1 := ⟨_, rfl⟩
  rw [hw1] at hg0 ho0
  rw [hN] at ho0
  replace h := Lib.hid h
  replace hw := Lib.hid hw
  replace hn := Lib.hid hn
  replace hN := Lib.hid hN
  replace hw1 := Lib.hid hw1
  clear hc1 hc2
  go_enter Try.func22, Try.ntmps22
  go_wp2_with fail
  rw [hN.out, hw1.out]
  clear hw1
  go_loopw [5, 6] (fun ov i wr => ∃ (j : Nat) (E : List Ne) (A1 : Option Addr) (m1 c1 : Nat), i = .int .i64 j ∧ ov = .slice A1 m1 c1 ∧ j ≤ n ∧ j ≤ most ∧ E.length ≤ j ∧ Hid (E.map (·.n) = (L.take j).filter goodN) ∧ Hid (ON E (.slice A1 m1 c1) N wr) ∧ Hid (Gr w wr) ∧ Hid (∀ x ∈ E, NeV x w0)) (fun _ i _ => n - (intOf i).toNat)
  case atStart => exact ⟨0, [], _, _, _, rfl, rfl, Nat.zero_le _, Nat.zero_le _, Nat.zero_le _, Lib.hid rfl, Lib.hid ho0, Lib.hid hg0, Lib.hid (fun x hx => by cases hx)⟩
  case round =>
    clear ho0 hg0
    obtain ⟨j, E, A1, m1, c1, rfl, rfl, hj, hjm, hEj, hE, ho, hg, hold⟩ := hrel
    by_cases hlt : j < n ∧ j < most
    · obtain ⟨h1, h2⟩ := hlt
      obtain ⟨b, o, xn, xA, xc, xA2, xc2, rfl, hq, hxv, hbl, hcx⟩ := h.out.get (i := j) (by rw [hn.out]; exact h1)
      have hcx' : Hid (∀ w', Gr w0 w' → w'.cell? ⟨b, o + j * 8, none⟩ = some (.int .i64 xn.kind) ∧ w'.cell? ⟨b, o + j * 8 + 1, none⟩ = some (.string (bs xn.key)) ∧ w'.cell? ⟨b, o + j * 8 + 2, none⟩ = some (.int .i64 xn.gen) ∧ w'.cell? ⟨b, o + j * 8 + 3, none⟩ = some (.int .i64 xn.cart) ∧ w'.cell? ⟨b, o + j * 8 + 4, none⟩ = some (.slice xA xn.data.length xc) ∧ w'.cell? ⟨b, o + j * 8 + 5, none⟩ = some (.string (bs xn.sum)) ∧ w'.cell? ⟨b, o + j * 8 + 6, none⟩ = some (.int .i64 xn.size) ∧ w'.cell? ⟨b, o + j * 8 + 7, none⟩ = some (.slice xA2 xn.places.length xc2)) := Lib.hid hcx
      have i1 : (j : Int) < (n : Int) := by omega
      have i2 : (j : Int) < (most : Int) := by omega
      have hrg := Lib.hid (rgood_any xn _ wr (hxv.gr (hw.out.trans hg.out)).ntv)
      unfold Ne.agg Nt.agg at hrg
      simp only at hrg
      have hstep : (L.take (j + 1)).filter goodN = (L.take j).filter goodN ++ (if goodN xn = true then [xn] else []) := by
        rw [List.take_add_one, hq, List.filter_append]
        simp only [Option.toList_some, List.filter_cons, List.filter_nil]
      replace hstep := Lib.hid hstep
      replace hq := Lib.hid hq
      have hNs : N ≤ wr.heap.size := by have := hg.out.size; rw [hN.out] at this; exact this
      clear hcx hbl
      obtain ⟨x0, x1, x2, x3, x4, x5, x6, x7⟩ := hcx'.out wr (hw.out.trans hg.out)
      go_wp2_with fail
      refine hrg.out.mono ?_
      clear hrg x0 x1 x2 x3 x4 x5 x6 x7
      cases hgd : goodN xn with
      | false =>
        rintro e w2 ⟨rfl, hg2⟩
        replace ho := ON.gr hg2 ho
        replace hg := Lib.hid (hg.out.trans hg2)
        have hE2 : Hid (E.map (·.n) = (L.take (j + 1)).filter goodN) := Lib.hid (by rw [hstep.out, hgd, ← hE.out]; simp)
        replace hgd := Lib.hid hgd
        clear hg2
        go_wp2_with fail
        go_roundw
        case rel => exact ⟨j + 1, E, _, _, _, by go_num, rfl, by omega, by omega, by omega, hE2, ho, hg, hold⟩
        case measure => simp [intOf]; omega
      | true =>
        rintro e w2 ⟨rfl, hg2⟩
        have hgw := hg.out.trans hg2
        have hga := Gr.alloc w2 (.cells #[.int .i64 xn.kind, .string (bs xn.key), .int .i64 xn.gen, .int .i64 xn.cart, .slice xA xn.data.length xc, .string (bs xn.sum), .int .i64 xn.size, .slice xA2 xn.places.length xc2] 25)
        replace ho := ON.gr hga (ON.gr hg2 ho)
        have hqv : Hid (NeV ⟨xn, xA, xc, xA2, xc2⟩ (w2.alloc (.cells #[.int .i64 xn.kind, .string (bs xn.key), .int .i64 xn.gen, .int .i64 xn.cart, .slice xA xn.data.length xc, .string (bs xn.sum), .int .i64 xn.size, .slice xA2 xn.places.length xc2] 25))) := Lib.hid (hxv.gr (hw.out.trans (hgw.trans hga)))
        have hap : Hid (Apt ⟨xn, xA, xc, xA2, xc2⟩ (Value.slice A1 m1 c1).ownBlock) := Lib.hid (by
          cases hob : (Value.slice A1 m1 c1).ownBlock with
          | none => exact Apt.none_ _
          | some kk => exact hxv.fresh (by have h1 := Below.size hw.out; rw [hN.out] at h1; exact Nat.le_trans h1 (World.ownsRow.lt ho.out.row kk hob).1))
        have hlit : Hid (Reads (w2.alloc (.cells #[.int .i64 xn.kind, .string (bs xn.key), .int .i64 xn.gen, .int .i64 xn.cart, .slice xA xn.data.length xc, .string (bs xn.sum), .int .i64 xn.size, .slice xA2 xn.places.length xc2] 25)) (w2.alloc (.cells #[.int .i64 xn.kind, .string (bs xn.key), .int .i64 xn.gen, .int .i64 xn.cart, .slice xA xn.data.length xc, .string (bs xn.sum), .int .i64 xn.size, .slice xA2 xn.places.length xc2] 25)).heap.size 8 (some ⟨w2.heap.size, 0, none⟩) 1 (Ne.mk xn xA xc xA2 xc2).cells) := Lib.hid (Reads.noteLit w2 ⟨xn, xA, xc, xA2, xc2⟩)
        have hNs2 : N ≤ (w2.alloc (.cells #[.int .i64 xn.kind, .string (bs xn.key), .int .i64 xn.gen, .int .i64 xn.cart, .slice xA xn.data.length xc, .string (bs xn.sum), .int .i64 xn.size, .slice xA2 xn.places.length xc2] 25)).heap.size := by have := hg2.size; have := hga.size; omega
        have hE2 : Hid ((E ++ [(⟨xn, xA, xc, xA2, xc2⟩ : Ne)]).map (fun x : Ne => x.n) = (L.take (j + 1)).filter goodN) := Lib.hid (by rw [hstep.out, hgd, ← hE.out]; simp)
        have hgall : Hid (Gr w (w2.alloc (.cells #[.int .i64 xn.kind, .string (bs xn.key), .int .i64 xn.gen, .int .i64 xn.cart, .slice xA xn.data.length xc, .string (bs xn.sum), .int .i64 xn.size, .slice xA2 xn.places.length xc2] 25))) := Lib.hid (hgw.trans hga)
        obtain ⟨y0, y1, y2, y3, y4, y5, y6, y7⟩ := hcx'.out w2 (hw.out.trans hgw)
        have hold9 : Hid (∀ x ∈ E ++ [(⟨xn, xA, xc, xA2, xc2⟩ : Ne)], NeV x w0) := Lib.hid (fun x hx => by
          rcases List.mem_append.mp hx with hx | hx
          · exact hold.out x hx
          · rw [List.mem_singleton.mp hx]; exact hxv)
        have hEl : E.length ≤ 1000000000000 := by omega
        replace hgd := Lib.hid hgd
        clear hg2 hgw hga hg
        go_wp2_with (at_builtin; go_must (refine wpl_appN rfl (.tmp 24) (.tmp 29) rfl N _ E ⟨xn, xA, xc, xA2, xc2⟩ rfl ho.out _ _ rfl hlit.out hqv.out hap.out hEl hNs2 ?_); intro v9 w9 ho9 hg9 hr9; have hgr9 : Hid (Gr w w9) := Lib.hid (by have h := hgall.out; unfold Gr at *; rw [hN.out] at *; exact h.trans hr9); replace ho9 := Lib.hid ho9; obtain ⟨A9, m9, c9, rfl⟩ : ∃ A m c, v9 = .slice A m c := (by obtain ⟨A, c, e, -⟩ := ho9.out.form; exact ⟨A, _, c, e⟩); clear hg9 hr9)
        go_roundw
        case rel => exact ⟨j + 1, E ++ [⟨xn, xA, xc, xA2, xc2⟩], A9, m9, c9, by go_num, rfl, by omega, by omega, by rw [List.length_append, List.length_singleton]; omega, hE2, ho9, hgr9, hold9⟩
        case measure => simp [intOf]; omega
    · have hend : L.take j = L.take most := by
        by_cases hjm' : j = most
        · rw [hjm']
        · obtain rfl : j = n := by omega
          rw [← hn.out, List.take_length, List.take_of_length_le (by rw [hn.out]; omega)]
      have hE2 : Hid (E.map (·.n) = (L.take most).filter goodN) := Lib.hid (by rw [← hend]; exact hE.out)
      have hcs : ¬ (j : Int) < (n : Int) ∨ ((j : Int) < (n : Int) ∧ ¬ (j : Int) < (most : Int)) := by omega
      replace hlt := Lib.hid hlt
      clear hend
      rcases hcs with i1 | ⟨i1, i2⟩
      all_goals
        go_wp2_with fail
        go_ret
        first
          | exact ⟨_, E, rfl, hE2.out, ho.out, hg.out, hold.out⟩
          | exact ⟨_, rfl, E, hE2.out, ho.out, hg.out, hold.out⟩
end Go.Proofs.Ytgdbbjijneidaaa
