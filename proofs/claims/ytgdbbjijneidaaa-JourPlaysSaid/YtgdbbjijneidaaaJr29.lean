/- Swap of the journal: any list of notes that may be. -/
import Derived.Test.YtgdbbjijneidaaaJr25
namespace Go.Proofs.Ytgdbbjijneidaaa
set_option linter.unusedVariables false
set_option linter.unusedSimpArgs false
open Go Go.RowKit
/-- the journal's size behind a swap -/
def swZ (s : DS) (X : List UInt8) (z : Nat) : Nat := if (s.swap X).1 = 0 then X.length else z
set_option maxHeartbeats 4000000 in
set_option maxRecDepth 20000 in
theorem jswap_any (lo hi g J : Nat) (s : DS) (z : Nat) (L : List Nt) (v : Value) (hgood : ∀ n ∈ L, goodN n = true) (hL : L.length ≤ 100) (w : World) (hD : Dk w lo hi g s) (hJ : Jn w J g z) (hJl : lo ≤ J) (h : NsV L v w) :
    Calls Try.prog 37 #[.pointer (some ⟨J, 0, none⟩), v] w fun e w' => e = .returned (.int .i64 (s.swap (framesB L)).1) ∧ Dk w' lo w'.heap.size g (s.swap (framesB L)).2 ∧ Jn w' J g (swZ s (framesB L) z : Nat) ∧ TChg lo jts w w' := by
  have hJg : J ≠ g := Jn.ne hJ hD
  obtain ⟨A, c, rfl, hc1, hc2⟩ := h.len
  obtain ⟨n, hn⟩ : ∃ n, L.length = n := ⟨_, rfl⟩
  rw [hn] at h hL ⊢
  obtain ⟨N, hN⟩ : ∃ N, w.heap.size = N := ⟨_, rfl⟩
  have hlb : Hid (∀ k, k ≤ n → (framesB (L.take k)).length ≤ 300000) := Lib.hid (fun k hk => by
    have h1 := framesB_len (L := L.take k) (fun m hm => hgood m (List.mem_of_mem_take hm))
    rw [List.length_take, hn] at h1
    have : min k n ≤ 100 := by omega
    omega)
  replace h := Lib.hid h
  replace hn := Lib.hid hn
  replace hN := Lib.hid hN
  replace hgood := Lib.hid hgood
  replace hD := Lib.hid hD
  replace hJ := Lib.hid hJ
  have ho0 := Lib.hid (OB.nil_ w N)
  have hg0 := Lib.hid (Gr.refl w)
  clear hc1 hc2
  go_enter Try.func37, Try.ntmps37
  go_wp2_with fail
  go_loopw [5, 15] (fun ov i wr => ∃ (j : Nat) (A1 : Option Addr) (m1 c1 : Nat), i = .int .i64 j ∧ ov = .slice A1 m1 c1 ∧ j ≤ n ∧ Hid (OB wr N (.slice A1 m1 c1) (framesB (L.take j))) ∧ Hid (Gr w wr)) (fun _ i _ => n - (intOf i).toNat)
  case atStart => exact ⟨0, _, _, _, rfl, rfl, Nat.zero_le _, ho0, hg0⟩
  case round =>
    clear ho0 hg0
    obtain ⟨j, A1, m1, c1, rfl, rfl, hj, ho, hg⟩ := hrel
    by_cases hlt : j < n
    · obtain ⟨b, o, xn, xA, xc, xA2, xc2, rfl, hq, hxv, hbl, hcx⟩ := h.out.get (i := j) (by rw [hn.out]; exact hlt)
      have hxg : goodN xn = true := hgood.out xn (List.mem_of_getElem? hq)
      have hb := Gr.alloc wr (.cells (xn.cells xA xc xA2 xc2) 25)
      have hen := Lib.hid (encode_ok xn _ _ (NtV.gr hb (Lib.hid (hxv.gr hg.out).ntv)).out hxg)
      have hgb := Lib.hid (hg.out.trans hb)
      have hob := OB.gr hb ho
      have hsb := hb.size
      unfold Nt.cells at hen hgb hob hsb
      unfold Ne.agg Nt.agg at hen
      simp only at hen
      have hstep : Hid (framesB (L.take (j + 1)) = framesB (L.take j) ++ frameB (encN xn)) := Lib.hid (fr_step hq)
      have hX2 := encN_len ((good_iff xn).1 hxg)
      have hfl := frameB_len (encN xn)
      obtain ⟨X, hX⟩ : ∃ X, encN xn = X := ⟨_, rfl⟩
      rw [hX] at hen hstep hX2 hfl
      obtain ⟨Y, hY⟩ : ∃ Y, frameB X = Y := ⟨_, rfl⟩
      rw [hY] at hstep hfl
      have hYl : Y.length ≤ 2008 := by omega
      have hNs : N ≤ wr.heap.size := by have := hg.out.size; rw [hN.out] at this; exact this
      have hob' := hlb.out j (by omega)
      obtain ⟨A1', c1', e1, -, -, -, -⟩ := ho.out.form
      injection e1 with e0 e1 e2'
      clear e0 e2'
      have i1 : (j : Int) < (n : Int) := by omega
      obtain ⟨x0, x1, x2, x3, x4, x5, x6, x7⟩ := hcx wr hg.out
      replace hxg := Lib.hid hxg
      replace hX := Lib.hid hX
      replace hY := Lib.hid hY
      replace e1 := Lib.hid e1
      clear hcx hbl hfl hxv hq ho hg hb
      go_wp2_with fail
      refine hen.out.mono ?_
      clear hen x0 x1 x2 x3 x4 x5 x6 x7
      rintro e w2 ⟨v2, rfl, ho2, hg2⟩
      have hgc := Lib.hid (hgb.out.trans hg2)
      have hoc := OB.gr hg2 hob
      have hs2 := hg2.size
      have hfr := Lib.hid (frame_any X v2 (by omega) w2 (Byt.ob ho2))
      obtain ⟨A2', m2, c2', rfl⟩ := ho2.shape
      clear hg2 ho2 hgb hob
      go_wp2_with fail
      refine hfr.out.mono ?_
      clear hfr
      rintro e w3 ⟨v3, rfl, ho3, hg3⟩
      rw [hY.out] at ho3
      have hgd := Lib.hid (hgc.out.trans hg3)
      have hod := OB.gr hg3 hoc
      have hs3 := hg3.size
      obtain ⟨A3, c3, rfl, hc31, hc32, hR3, -⟩ := ho3.form
      obtain ⟨ny, hny⟩ : ∃ ny, Y.length = ny := ⟨_, rfl⟩
      rw [hny] at ho3 hYl hc31 ⊢
      have hNs3 : N ≤ w3.heap.size := by omega
      replace hny := Lib.hid hny
      replace ho3 := Lib.hid ho3
      replace hR3 := Lib.hid hR3
      rw [← hny.out] at hYl
      clear hg3 hgc hoc
      go_wp2_with (at_builtin; go_must (refine wpl_append rfl (.tmp 27) (.tmp 29) rfl N (.slice A1 m1 c1) (framesB (L.take j)) rfl hod.out _ A3 c3 Y (by rw [hny.out]; rfl) ho3.out.rd.1 (by omega) (by omega) ?_); intro v6 w6 ho6 hg6 _; have hl6 : Below N w3 w6 := (Below.refl _ _).grown hg6 (by omega) (fun k hk => (hod.out.lt k hk).1); have hge : Hid (Gr w w6) := Lib.hid (by have h := hgd.out; unfold Gr at *; rw [hN.out] at *; exact h.trans hl6); rw [← hstep.out] at ho6; obtain ⟨A6, c6, rfl, -⟩ := ho6.form; replace ho6 := Lib.hid ho6; clear hg6 hl6)
      go_roundw
      case rel => exact ⟨j + 1, A6, _, c6, by go_num, rfl, by omega, ho6, hge⟩
      case measure => simp [intOf]; omega
    · obtain rfl : j = n := by omega
      have hall : L.take j = L := by rw [← hn.out, List.take_length]
      have hlx := hlb.out j (Nat.le_refl _)
      rw [hall] at ho hlx
      obtain ⟨X, hX⟩ : ∃ X, framesB L = X := ⟨_, rfl⟩
      rw [hX] at ho hlx
      obtain ⟨A1', c1', e1, hc11, -, hR1, -⟩ := ho.out.form
      injection e1 with e0 e1 e2'
      subst e0
      obtain ⟨nx, hnx⟩ : ∃ nx, X.length = nx := ⟨_, rfl⟩
      rw [hnx] at e1 hlx hc11
      subst e1
      have hd1 := hD.out.below hg.out
      have hj1 := Lib.hid (blk_below hJ.out hg.out)
      have hsw := swapU_any lo _ g s A1 m1 c1 X hnx (by omega) wr hd1 hR1
      obtain ⟨R, hR⟩ : ∃ R, s.swap X = R := ⟨_, rfl⟩
      have hz0 : Hid (swZ s X z = if R.1 = 0 then m1 else z) := Lib.hid (by unfold swZ; rw [hR, hnx])
      rw [hR] at hsw
      replace hsw := Lib.hid hsw
      replace hR := Lib.hid hR
      replace hX := Lib.hid hX
      replace hnx := Lib.hid hnx
      replace hd1 := Lib.hid hd1
      have x0 := blk_cell (j := 0) (v := .pointer (some ⟨g, 0, none⟩)) hj1.out rfl
      have hxn : m1 ≤ 300000 := hlx
      clear hall hlx hR1 ho e2' hlt hj hc11
      go_wp2_with fail
      refine hsw.out.mono ?_
      clear hsw x0
      rintro e w5 ⟨rfl, hD5, hu5⟩
      have ht5 := Lib.hid ((TChg.of_below hg.out : TChg lo jts w wr).trans (Upd.tchg hd1.out hu5))
      have hj5 : Hid (Jn w5 J g z) := Lib.hid ((hu5.2.2.2.2 J (blk_lt hj1.out) hJg).trans hj1.out)
      clear hu5
      by_cases hz1 : R.1 = 0
      · have hz2 : (R.1 == 0) = true := beq_iff_eq.mpr hz1
        have hD6 : Hid (Dk (w5.setCell ⟨J, 1, none⟩ (.int .i64 (m1 : Nat))) lo (w5.setCell ⟨J, 1, none⟩ (.int .i64 (m1 : Nat))).heap.size g R.2) := Lib.hid (by
          obtain ⟨v0, hh, q1, q2, q3, q4, q5, q6⟩ := hD5
          have hz5 : (w5.setCell ⟨J, 1, none⟩ (.int .i64 (m1 : Nat))).heap.size = w5.heap.size := by simp [World.setCell]
          exact ⟨v0, (blk_other (Ne.symm hJg) 1 _).trans hh, q1, by rw [hz5]; omega, Nat.le_refl _, OB.set_other q4 1 _ (OB.ne_blk q4 hj5.out (by decide)), fun k hk => by have := q5 k hk; rw [hz5]; omega, q6⟩)
        have x1 := blk_cell (j := 1) (v := .int .i64 z) hj5.out rfl
        have f1 := blk_free hj5.out 1
        have hJ6 := Lib.hid (blk_set hj5.out 1 (.int .i64 (m1 : Nat)))
        have hl6 := Lib.hid (ht5.out.trans (TChg.of_set hj5.out (by decide) hJl 1 (.int .i64 (m1 : Nat))))
        have ez : Hid (swZ s X z = m1) := Lib.hid (by rw [hz0.out, if_pos hz1])
        have hz3 := Lib.hid hz1
        clear hD5 hj5 ht5
        go_wp2_with fail
        rw [hX.out, hR.out]
        go_ret
        refine ⟨by first | rfl | (rw [hz3.out]; rfl) | rw [hz3.out], hD6.out, ?_, hl6.out⟩
        rw [ez.out]
        exact hJ6.out
      · have hz2 : (R.1 == 0) = false := beq_eq_false_iff_ne.mpr hz1
        have ez : Hid (swZ s X z = z) := Lib.hid (by rw [hz0.out, if_neg hz1])
        replace hD5 := Lib.hid hD5
        replace hz1 := Lib.hid hz1
        go_wp2_with fail
        rw [hX.out, hR.out]
        go_ret
        refine ⟨rfl, hD5.out, ?_, ht5.out⟩
        rw [ez.out]
        exact hj5.out
end Go.Proofs.Ytgdbbjijneidaaa
