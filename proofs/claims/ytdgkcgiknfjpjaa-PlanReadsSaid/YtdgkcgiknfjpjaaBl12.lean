/- blob: the reference's Records. -/
import Derived.Test.YtdgkcgiknfjpjaaBl11
import Derived.Test.YtdgkcgiknfjpjaaBl8
import Derived.Test.YtdgkcgiknfjpjaaBl3
import Derived.Test.YtdgkcgiknfjpjaaDig15
namespace Go.Proofs.Ytdgkcgiknfjpjaa
set_option linter.unusedVariables false
set_option linter.unusedSimpArgs false
open Go Go.RowKit
theorem AO.form1 {w : World} {base : Nat} {v : Value} {L : List (List UInt8)} (h : AO w base v L) (hn : 0 < L.length) : ∃ g c, v = .slice (some ⟨g, 0, none⟩) L.length c := by
  obtain ⟨rows, h1, h2, h3⟩ := h
  obtain ⟨g, c, rfl, -⟩ := row_at h1 hn
  exact ⟨g, c, rfl⟩
theorem AO.cell {w : World} {base g n c : Nat} {L : List (List UInt8)} (h : AO w base (.slice (some ⟨g, 0, none⟩) n c) L) {i : Nat} {l : List UInt8} (hl : L[i]? = some l) (hl0 : 0 < l.length) :
    ∃ gi ci, w.cell? ⟨g, i, none⟩ = some (.slice (some ⟨gi, 0, none⟩) l.length ci) ∧ l.length ≤ ci ∧ ci ≤ maxLen ∧ Rd w w.heap.size (some ⟨gi, 0, none⟩) l ∧ base ≤ gi ∧ ∃ cs, w.heap[gi]? = some (.cells cs 5 (0, 0)) := by
  obtain ⟨rows, h1, h2, h3⟩ := h
  have hi : i < L.length := (List.getElem?_eq_some_iff.mp hl).1
  obtain ⟨g', c', e, -, -, -, -, -, -, hc, -⟩ := row_at h1 (by omega)
  injection e with e1 e2 e3
  injection e1 with e1
  injection e1 with e1
  subst e1
  obtain ⟨A, ci, h4, h5⟩ := h3 i l hl
  obtain ⟨gi, c2, e2, h6, h7, h8, h9, h10, -⟩ := row_at h5 hl0
  injection e2 with e3 _ e4
  subst e3
  subst e4
  exact ⟨gi, ci, hc i _ h4, h6, h7, (OB.rd h5).1, h8, h10⟩
theorem Apr.other {E : List Re} {v : Value} {base : Nat} {w : World} (h : OR E v base w) {q : Re} {gi : Nat} (hA : q.A = some ⟨gi, 0, none⟩) (hc : ∃ cs, w.heap[gi]? = some (.cells cs 5 (0, 0))) : Apr q v.ownBlock := by
  intro hn ad ea eo
  rw [hA] at ea
  injection ea with ea
  subst ea
  obtain ⟨cs, h1⟩ := hc
  obtain ⟨cs2, h2⟩ := h.blk eo
  rw [h1] at h2
  injection h2 with h2
  injection h2 with _ h2
  exact absurd h2 (by decide)
theorem OR.empty (w : World) (base : Nat) (hb : base ≤ w.heap.size) : OR [] (.slice (some ⟨w.heap.size, 0, none⟩) 0 0) base (w.alloc (.cells #[] 41)) :=
  ⟨World.ownsRow_made w #[] 0 hb (by simp [maxLen]) rfl, fun x h => (by cases h), fun x h => (by cases h)⟩
theorem OR.more {E : List Re} {v : Value} {base base' : Nat} {w : World} (h : OR E v base w) (hb : base' ≤ base) : OR E v base' w := ⟨row_more h.row hb, h.vs, h.ap⟩
/-- the first k groups' records -/
def recsK (p : Rp) (k : Nat) : List Rc := (List.range k).flatMap (fun k => recsG p k k 10)
theorem recsK_next (p : Rp) (k : Nat) : recsK p (k + 1) = recsK p k ++ recsG p k k 10 := by
  unfold recsK
  rw [List.range_succ, List.flatMap_append]
  simp
theorem recsK_all (p : Rp) {q : Nat} (h : p.q = q) : recsK p q = recsP p := by unfold recsK recsP; rw [h]
theorem recsK_len (p : Rp) (k : Nat) : (recsK p k).length = 10 * k := by
  induction k with
  | zero => rfl
  | succ k ih => rw [recsK_next, List.length_append, ih]; simp [recsG]; omega
set_option maxHeartbeats 1000000 in
theorem rrec_over (key : List UInt8) (gen : Int) (A : Option Addr) (n c : Nat) (hn : 512 < n) (w : World) :
    Calls Try.prog 22 #[.string (bs key), .int .i64 gen, .slice A n c] w fun e w' => e = .returned (.tuple #[.slice none 0 0, .int .i64 12]) ∧ w' = w := by
  have d1 : (512 : Int) < (n : Int) := by omega
  clear hn
  go_enter Try.func22, Try.ntmps22
  go_wp2_with fail
  go_ret2
  exact ⟨rfl, rfl⟩
set_option maxHeartbeats 8000000 in
set_option maxRecDepth 20000 in
theorem rrec_any (key : List UInt8) (gen : Int) (hkl : key.length ≤ maxLen) (hgen : R64 gen) (A : Option Addr) (n c : Nat) (l : List UInt8) (hn : l.length = n) (hnc : n ≤ c) (hn5 : n ≤ 512) (w : World) (hr : Rd w w.heap.size A l) :
    Calls Try.prog 22 #[.string (bs key), .int .i64 gen, .slice A n c] w (BRecPost ⟨key, gen, l, ngrp n⟩ w) := by
  obtain ⟨hg, hq1, hq4, hqn⟩ := ngrp_spec hn5
  obtain ⟨q, hq⟩ : ∃ q, ngrp n = q := ⟨_, rfl⟩
  have hT : splD l = tabM q 128 (partM 128 (padD l q)) := by unfold splD; rw [hn, hq]
  rw [hq] at hq1 hq4 hqn ⊢
  have hspl := Lib.hid (rsplit_any A n c l hn hnc hn5 w hr)
  have hof := Lib.hid (fun w' (hg : Gr w w') => refOf_any A n c l (Lib.hid hn) (by omega) w' (Lib.hid (hr.up hg)))
  have d1 : ¬ ((512 : Int) < (n : Int)) := by omega
  have hb0 := Lib.hid (Below.refl w.heap.size w)
  replace hn := Lib.hid hn
  replace hT := Lib.hid hT
  replace hq := Lib.hid hq
  replace hkl := Lib.hid hkl
  replace hgen := Lib.hid hgen
  clear hg hr
  by_cases h1 : (key.length : Int) < 1
  · have hno : Hid (nameOk key gen = false) := Lib.hid (by unfold nameOk inB; simp; omega)
    go_enter Try.func22, Try.ntmps22
    go_wp2_with fail
    go_ret2
    exact ⟨hb0.out, .inr ⟨hno.out, rfl⟩⟩
  by_cases h2 : (16 : Int) < (key.length : Int)
  · have hno : Hid (nameOk key gen = false) := Lib.hid (by unfold nameOk inB; simp; omega)
    go_enter Try.func22, Try.ntmps22
    go_wp2_with fail
    go_ret2
    exact ⟨hb0.out, .inr ⟨hno.out, rfl⟩⟩
  by_cases h3 : gen < 0
  · have hno : Hid (nameOk key gen = false) := Lib.hid (by unfold nameOk inB; simp; omega)
    go_enter Try.func22, Try.ntmps22
    go_wp2_with fail
    go_ret2
    exact ⟨hb0.out, .inr ⟨hno.out, rfl⟩⟩
  by_cases h4 : (1099511627776 : Int) < gen
  · have hno : Hid (nameOk key gen = false) := Lib.hid (by unfold nameOk inB; simp; omega)
    go_enter Try.func22, Try.ntmps22
    go_wp2_with fail
    go_ret2
    exact ⟨hb0.out, .inr ⟨hno.out, rfl⟩⟩
  have hok : Hid (nameOk key gen = true) := Lib.hid (by unfold nameOk inB; simp; omega)
  go_enter Try.func22, Try.ntmps22
  go_wp2_with fail
  refine hspl.out.mono ?_
  clear hspl
  rintro e w1 ⟨u, rfl, hU, hg1⟩
  obtain ⟨Au, cu, rfl, a1, a2, a3⟩ := hU
  have hsl : (splD l).length = q := by rw [hT.out, tabM_length]
  rw [hsl] at a1 a3 ⊢
  obtain ⟨b, o, -, -, -, rfl, -, -, -, -, -, -⟩ := a3.at_ (i := 0) (by omega)
  replace a3 := Lib.hid a3
  have hofw := Lib.hid (hof.out w1 hg1)
  clear a1 hof hb0
  replace hg1 := Lib.hid hg1
  replace hsl := Lib.hid hsl
  clear d1 h1 h2 h3 h4
  go_wp2_with fail
  refine hofw.out.mono ?_
  clear hofw
  rintro e w2 ⟨rfl, hg2⟩
  have hRT : Hid (RT w2 w2.heap.size (some ⟨b, o, none⟩) q (splD l)) := Lib.hid (a3.out.up hg2)
  have hw2 : Hid (Gr w w2) := Lib.hid (hg1.out.trans hg2)
  have hR0 := Lib.hid (OR.empty w2 w2.heap.size (Nat.le_refl _))
  have hG0 := Lib.hid (alloc_grB w2 (.cells #[] 41))
  clear hg1 hg2 a3
  go_wp2_with fail
  obtain ⟨w3, hw3⟩ : ∃ w3, w2.alloc (.cells #[] 41) = w3 := ⟨_, rfl⟩
  obtain ⟨N, hN⟩ : ∃ N, w2.heap.size = N := ⟨_, rfl⟩
  unfold Gr at hG0
  rw [hw3] at hR0 hG0 ⊢
  rw [hN] at hRT hR0 hG0 ⊢
  replace hw3 := Lib.hid hw3
  replace hN := Lib.hid hN
  obtain ⟨p, hp⟩ : ∃ p : Rp, (⟨key, gen, l, q⟩ : Rp) = p := ⟨_, rfl⟩
  have hpq : Hid (p.q = q) := Lib.hid (by rw [← hp])
  replace hp := Lib.hid hp
  go_loopw [10, 11] (fun v i wr => ∃ (k : Nat) (E : List Re), k ≤ q ∧ i = .int .i64 k ∧ Hid (OR E v N wr) ∧ Hid (E.map (·.r) = recsK p k) ∧ Hid (Below N w2 wr)) (fun _ i _ => q - (intOf i).toNat)
  case atStart => exact ⟨0, [], Nat.zero_le _, rfl, hR0, Lib.hid rfl, hG0⟩
  case round =>
    clear hR0 hG0
    obtain ⟨k, E, hk, rfl, hR, hE, hG⟩ := hrel
    obtain ⟨wo, hwo⟩ : ∃ wo, wo = wr := ⟨_, rfl⟩
    subst hwo
    by_cases hlt : k < q
    · have ik : (k : Int) < q := by omega
      have hNw : N ≤ wo.heap.size := by have h := Below.size hG.out; rw [hN.out] at h; exact h
      have hRTw := (hRT.out.low hG.out).more hNw
      obtain ⟨b', o', A', c', l', e', hb', hl', hcell, hlc, hcm, hrd⟩ := hRTw.at_ (i := k) hlt
      injection e' with e'
      injection e' with e1 e2
      subst e1
      subst e2
      rw [hT.out, tabM_get hlt] at hl'
      injection hl' with hl'
      have hlen : l'.length = 128 := by rw [← hl', row_length]
      have hgb : l' = grpB p.l p.q k := by rw [← hp.out, ← hl']; rfl
      rw [hlen] at hcell hlc
      have henc := Lib.hid (rrsenc_own A' c' l' hlc (by simp only [maxLen] at hcm; omega) (Lib.hid hlen) wo hrd)
      clear hRTw hlc hcm hrd hl'
      replace hgb := Lib.hid hgb
      replace hlen := Lib.hid hlen
      replace hNw := Lib.hid hNw
      go_wp2_with fail
      refine henc.out.mono ?_
      clear henc
      rintro e w4 ⟨A2, c2, rfl, hA4, hg4⟩
      have hA5 : AO w4 N (.slice A2 10 c2) (tabM 10 16 (encM l')) := hA4.out.more hNw.out
      obtain ⟨g, c3, e3⟩ := hA5.form1 (by rw [tabM_length]; decide)
      injection e3 with e1 e2 e3
      subst e1
      clear e2 e3
      replace hA5 := Lib.hid hA5
      have hR4 := OR.gr hg4 hR
      have hG4 : Hid (Below N w2 w4) := Lib.hid (hG.out.trans (hg4.mono hNw.out))
      have hE4 : Hid (E.map (·.r) = recsK p k ++ recsG p k k 0) := Lib.hid (by rw [hE.out]; simp [recsG])
      clear hA4 hg4 hcell hR hE hG c3 hNw
      go_wp2_with fail
      go_loopw [10, 14] (fun v j wr => ∃ (i : Nat) (E : List Re), i ≤ 10 ∧ j = .int .i64 i ∧ Hid (OR E v N wr) ∧ Hid (E.map (·.r) = recsK p k ++ recsG p k k i) ∧ Hid (AO wr N (.slice (some ⟨g, 0, none⟩) 10 c2) (tabM 10 16 (encM l'))) ∧ Hid (Below N w2 wr)) (fun _ j _ => 10 - (intOf j).toNat)
      case atStart => exact ⟨0, E, Nat.zero_le _, rfl, hR4, hE4, hA5, hG4⟩
      case round =>
        clear hR4 hE4 hA5 hG4
        obtain ⟨i, E, hi, rfl, hR, hE, hA, hG⟩ := hrel
        obtain ⟨wi, hwi⟩ : ∃ wi, wi = wr := ⟨_, rfl⟩
        subst hwi
        by_cases hli : i < 10
        · have ii : (i : Int) < 10 := by omega
          have hNw : N ≤ wi.heap.size := by have h := Below.size hG.out; rw [hN.out] at h; exact h
          obtain ⟨gi, ci, hcell, h16, hcm, hrd, hNg, hcs⟩ := hA.out.cell (tabM_get hli (encM l')) (by rw [row_length]; decide)
          rw [row_length] at hcell h16
          obtain ⟨Q, hQ⟩ : ∃ Q, reQ p k k i (fun _ => gi) (fun _ => ci) = Q := ⟨_, rfl⟩
          have hQr : Q.r = rec1 p k k i := by rw [← hQ]; rfl
          have hQA : Q.A = some ⟨gi, 0, none⟩ := by rw [← hQ]; rfl
          obtain ⟨w5, hw5⟩ : ∃ w5, wi.alloc (.cells #[.int .i64 2, .int .i64 0, .string (bs key), .int .i64 gen, .int .i64 k, .int .i64 q, .int .i64 i, .int .i64 n, .string (bs (dg l)), .slice (some ⟨gi, 0, none⟩) 16 ci] 41) = w5 := ⟨_, rfl⟩
          have hg5 : Gr wi w5 := by rw [← hw5]; exact alloc_grB _ _
          have hlit : Reads w5 w5.heap.size 10 (some ⟨wi.heap.size, 0, none⟩) 1 Q.cells := by
            have h := Reads.recLit wi (reQ p k k i (fun _ => gi) (fun _ => ci))
            rw [reQ_cells] at h
            rw [← hQ, ← hw5, reQ_cells]
            rw [← hp.out] at h ⊢
            simp only [hn.out] at h ⊢
            exact h
          have hqv : ReV Q w5 := by
            refine ReV.gr hg5 ⟨?_, ?_, ?_⟩
            · rw [hQr]; show (row 16 _).length ≤ _; rw [row_length, ← hQ]; exact h16
            · rw [← hQ]; exact hcm
            · rw [hQr, hQA]; show Rd _ _ _ (row 16 _); rw [← hgb.out]; exact hrd
          have hR5 := OR.gr hg5 hR
          have hap := Lib.hid (Apr.other hR5.out hQA ⟨_, (Below.block hg5 gi (blk_lt hcs.choose_spec)).trans hcs.choose_spec⟩)
          have hA5 := hA.out.below hg5 hNw
          have hG5 := hG.out.trans (hg5.mono hNw)
          have hN5 : N ≤ w5.heap.size := Nat.le_trans hNw (Below.size hg5)
          have hEl : E.length ≤ 1000000000000 := by
            have h := congrArg List.length hE.out
            rw [List.length_map, List.length_append, recsK_len] at h
            simp [recsG] at h
            omega
          replace hlit := Lib.hid hlit
          replace hqv := Lib.hid hqv
          replace hA5 := Lib.hid hA5
          replace hG5 := Lib.hid hG5
          replace hN5 := Lib.hid hN5
          replace hEl := Lib.hid hEl
          replace hNw := Lib.hid hNw
          replace hQ := Lib.hid hQ
          replace hQr := Lib.hid hQr
          replace hw5 := Lib.hid hw5
          replace hg5 := Lib.hid hg5
          clear h16 hcm hrd hNg hcs hQA hA hG hR
          go_wp2_with (at_builtin; rw [hw5.out]; go_must (refine wpl_appR rfl (.tmp 59) (.tmp 74) rfl N _ E Q rfl hR5.out _ _ rfl hlit.out hqv.out hap.out hEl.out hN5.out ?_); intro v9 w9 ho9 hg9 hb9; have hA9 := Lib.hid (hA5.out.grown hR5.out.row (by decide) (by decide) hg9); have hG9 := Lib.hid (hG5.out.trans hb9); replace ho9 := Lib.hid ho9; clear hg9 hb9 hA5 hG5 hR5)
          have hE9 : Hid ((E ++ [Q]).map (·.r) = recsK p k ++ recsG p k k (i + 1)) := Lib.hid (by rw [List.map_append, hE.out, recsG_next, List.append_assoc]; simp [hQr.out])
          go_roundw
          case rel => first | exact ⟨i + 1, E ++ [Q], by omega, by go_num, ho9, hE9, hA9, hG9⟩ | ((repeat apply Exists.intro); exact ⟨⟨i + 1, E ++ [Q], by omega, by go_num, ho9, hE9, hA9, hG9⟩, rfl⟩)
          case measure => simp [intOf]; omega
        · obtain rfl : i = 10 := by omega
          have ii : decide (((10 : Nat) : Int) < 10) = false := by decide
          have hE9 : Hid (E.map (·.r) = recsK p (k + 1)) := Lib.hid (by rw [hE.out, recsK_next])
          go_wp2_with fail
          go_roundw
          case rel => first | exact ⟨k + 1, E, by omega, by go_num, hR, hE9, hG⟩ | ((repeat apply Exists.intro); exact ⟨⟨k + 1, E, by omega, by go_num, hR, hE9, hG⟩, rfl⟩)
          case measure => simp [intOf]; omega
    · obtain rfl : k = q := by omega
      have ik : ¬ ((k : Int) < (k : Int)) := by omega
      have hNw : w.heap.size ≤ N := by rw [← hN.out]; exact Below.size hw2.out
      have hfin : Hid (∀ v, Hid (OR E v N wo) → BRecPost ⟨key, gen, l, k⟩ w (.returned (.tuple #[v, .int .i64 0])) wo) := Lib.hid fun v hR => ⟨hw2.out.trans (by unfold Gr; rw [hN.out]; exact hG.out), .inl ⟨hok.out, _, E, rfl, by rw [hE.out, hp.out]; exact recsK_all p hpq.out, hR.out.more hNw⟩⟩
      clear hNw
      go_wp2_with fail
      go_ret2
      exact hfin.out _ hR
end Go.Proofs.Ytdgkcgiknfjpjaa
