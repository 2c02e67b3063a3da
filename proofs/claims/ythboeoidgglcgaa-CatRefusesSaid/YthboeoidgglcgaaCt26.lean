/- cat: the fixed fact. -/
import Derived.Test.YthboeoidgglcgaaCt25
import Derived.Test.YthboeoidgglcgaaCt17
namespace Go.Proofs.Ythboeoidgglcgaa
set_option linter.unusedVariables false
set_option linter.unusedSimpArgs false
open Go Go.RowKit Go.Maps Go.Sort Go.Shelf Go.Proofs
theorem ApPost.low {lo g t : Nat} {x : CtX} {c : CtP} {n : Nt} {w w' : World} {e : Ending} (h : Ca w lo g x c t) (hlo : lo ≤ w.heap.size) (hp : ApPost lo g t x c n w e w') : e = .returned (.int .i64 (c.apply n).1) ∧ ∃ x', Hid (Ca w' lo g x' (c.apply n).2 (t + 1)) ∧ Below lo w w' := by
  obtain ⟨he, x', h1, h2, -⟩ := hp
  exact ⟨he, x', h1, Upd.to_below (Below.refl lo w) h2 hlo (fun k hk => (h.lt k hk).2)⟩
theorem apply_lit (lo g t : Nat) (x : CtX) (c : CtP) (w : World) (h : Hid (Ca w lo g x c t)) (ht : t ≤ 900) (hlo : lo ≤ w.heap.size) (n : Nt) (hd : n.data = []) (hp : n.places = []) (hk : n.key.length ≤ maxLen) (hI : I64 n.cart) {z : Int} {c' : CtP} (hr : c.apply n = (z, c')) :
    Calls Try.prog 12 #[.pointer (some ⟨g, 0, none⟩), .agg #[.int .i64 n.kind, .string (bs n.key), .int .i64 n.gen, .int .i64 n.cart, .slice none 0 0, .string (bs n.sum), .int .i64 n.size, .slice none 0 0]] w fun e w' => e = .returned (.int .i64 z) ∧ ∃ x', Hid (Ca w' lo g x' c' (t + 1)) ∧ Below lo w w' := by
  have hv : NtV n (.agg #[.int .i64 n.kind, .string (bs n.key), .int .i64 n.gen, .int .i64 n.cart, .slice none 0 0, .string (bs n.sum), .int .i64 n.size, .slice none 0 0]) w := by
    refine ⟨none, 0, none, 0, by unfold Nt.agg; rw [hd, hp]; rfl, ?_, ?_⟩
    · rw [hd]; exact Byt.nil_ w
    · rw [hp]; exact Pls.nil_ w _ _ (Nat.zero_le _)
  refine (apply_any lo g t x c w h ht hlo n _ hk hv hI (fun hh => absurd hh (by rw [hp]; simp))).mono ?_
  intro e w' hpo
  have := hpo.low h.out hlo
  rw [hr] at this
  exact this
theorem OND.cell {E : List Ne} {A : Option Addr} {m c base : Nat} {w : World} (h : OND E (.slice A m c) base w) (hm : 0 < m) : ∃ b, A = some ⟨b, 0, none⟩ ∧ b < w.heap.size ∧ ∀ i q j v, E[i]? = some q → j < 8 → q.cells[j]? = some v → w.cell? ⟨b, i * 8 + j, none⟩ = some v := by
  have hl : E.length = m := by
    obtain ⟨A', c', e, -⟩ := h.form
    injection e with _ e _
    exact e.symm
  obtain ⟨b, cp, e1, -, -, -, hb, -, -, hcell, -⟩ := row_at h.1.row (by omega)
  injection e1 with e1 _ _
  exact ⟨b, e1, hb, fun i q j v hq hj hv => hcell _ _ ((flatN_at hq j hj).trans hv)⟩
def kA : By := [97]
def ka1 : CtP := ⟨[(kA, [])], [], [], [], [], 0⟩
def ka2 : CtP := ⟨[(kA, [])], [], [(kA, 1)], [], [], 1⟩
def ka3 : CtP := ⟨[], [], [], [(kA, 2)], [], 2⟩
def kd2 : CtP := ⟨[], [], [], [], [], 1⟩
def nA1 : Nt := ⟨1, kA, 0, 0, [], [], 0, []⟩
def nA4 : Nt := ⟨4, kA, 1, 0, [], [], 0, []⟩
def nA3 : Nt := ⟨3, kA, 2, 0, [], [], 0, []⟩
def nD3 : Nt := ⟨3, kA, 1, 0, [], [], 0, []⟩
theorem r_a1 : CtP.none_.apply nA1 = (0, ka1) := by decide
theorem r_a2 : ka1.apply nA4 = (0, ka2) := by decide
theorem r_a3 : ka2.apply nA3 = (0, ka3) := by decide
theorem r_d2 : ka1.apply nD3 = (0, kd2) := by decide
theorem r_notes : notesP ka3 = [⟨4, [], 2, 0, [], [], 0, []⟩, ⟨6, kA, 2, 0, [], [], 1, []⟩] := by
  unfold notesP
  rw [show sortZ ka3.R = [] from List.eq_nil_of_length_eq_zero (sortZ_len _)]
  decide
theorem r_tombs : (tombsN ka3.T) = [⟨6, kA, 2, 0, [], [], 1, []⟩] := by decide
set_option maxHeartbeats 4000000 in
set_option maxRecDepth 20000 in
theorem awake13_any (w : World) : Calls Try.prog 14 #[] w fun e w' => e = .returned (.bool true) ∧ Gr w w' := by
  have hI0 : I64 0 := by unfold I64; omega
  have hkA : kA.length ≤ maxLen := by decide
  have n0 := Lib.hid (cnew_any w)
  obtain ⟨B0, hB0⟩ : ∃ B0, w.heap.size = B0 := ⟨_, rfl⟩
  go_enter Try.func14, Try.ntmps14
  go_upto_region 2 with (go_at_call 10; go_must (refine n0.out.mono ?_); clear n0; rintro e w1 ⟨g, x1, rfl, hc1, hg1⟩)
  rw [hB0] at hc1
  have hl1 : B0 ≤ w1.heap.size := by rw [← hB0]; exact Below.size hg1
  have a1 := Lib.hid (apply_lit B0 g 0 x1 _ w1 (Lib.hid hc1) (by omega) hl1 nA1 rfl rfl hkA hI0 r_a1)
  have hs1 := Lib.hid hl1
  replace hg1 := Lib.hid hg1
  replace hc1 := Lib.hid hc1
  go_upto_region 4 with (first
    | (go_at_call 12; first
      | (refine a1.out.mono ?_; clear a1; rintro e w2 ⟨rfl, x2, hc2, hb2⟩; have hs2 : Hid (B0 ≤ w2.heap.size) := Lib.hid (Nat.le_trans hs1.out hb2.size); replace hb2 := Lib.hid hb2; have a2 := Lib.hid (apply_lit B0 g 1 x2 _ w2 hc2 (by omega) hs2.out nA4 rfl rfl hkA hI0 r_a2))
      | (refine a2.out.mono ?_; clear a2; rintro e w3 ⟨rfl, x3, hc3, hb3⟩; have hs3 : Hid (B0 ≤ w3.heap.size) := Lib.hid (Nat.le_trans hs2.out hb3.size); replace hb3 := Lib.hid hb3; have a3 := Lib.hid (apply_lit B0 g 2 x3 _ w3 hc3 (by omega) hs3.out nA3 rfl rfl hkA hI0 r_a3))
      | (refine a3.out.mono ?_; clear a3; rintro e w4 ⟨rfl, x4, hc4, hb4⟩; have hs4 : Hid (B0 ≤ w4.heap.size) := Lib.hid (Nat.le_trans hs3.out hb4.size); replace hb4 := Lib.hid hb4; have a4 := Lib.hid (notes_any B0 g 3 x4 _ w4 hc4 (by omega))))
    | (go_at_call 11; go_must (refine a4.out.mono ?_); clear a4; rintro e w5 ⟨E5, A5, c5, rfl, hE5, ho5, hg5⟩; rw [r_notes] at hE5; have hl5 : E5.length = 2 := (by have := congrArg List.length hE5; rw [List.length_map] at this; exact this); rw [hl5] at ho5 ⊢; replace ho5 := Lib.hid ho5; replace hE5 := Lib.hid hE5; replace hl5 := Lib.hid hl5; replace hg5 := Lib.hid hg5; have a5 := Lib.hid (tombs_any B0 g 3 x4 _ w5 (Lib.hid (hc4.out.gr hg5.out)) (by omega)))
    | (go_at_call 24; go_must (refine a5.out.mono ?_); clear a5; rintro e w6 ⟨A6, c6, rfl, ho6, hg6⟩; rw [r_tombs] at ho6; replace ho6 := Lib.hid ho6; replace hg6 := Lib.hid hg6))
  have hE5' := hE5.out
  obtain ⟨q0, q1, rfl⟩ : ∃ q0 q1, E5 = [q0, q1] := by
    match E5, hl5.out with
    | [q0, q1], _ => exact ⟨q0, q1, rfl⟩
  have e0 : q0.n = ⟨4, [], 2, 0, [], [], 0, []⟩ := by injection hE5'
  replace hE5' := Lib.hid hE5'
  have hgw : Hid (Below B0 w w6) := Lib.hid ((((((Below.mono hg1.out (Nat.le_of_eq hB0.symm)).trans hb2.out).trans hb3.out).trans hb4.out).trans (Below.mono hg5.out hs4.out)).trans (Below.mono hg6.out (Nat.le_trans hs4.out (Below.size hg5.out))))
  have hc6 := Lib.hid ((hc4.out.gr hg5.out).gr hg6.out)
  have ho56 := Lib.hid (ho5.out.gr hg6.out)
  have m0 := Lib.hid (cnew_any w6)
  obtain ⟨B1, hB1⟩ : ∃ B1, w6.heap.size = B1 := ⟨_, rfl⟩
  clear hg1 hc1 hb2 hc2 hb3 hc3 hb4 hc4 hs1 hs2 hs3 hg5 hg6 ho5 hl1
  go_upto_region 5 with (go_at_call 10; go_must (refine m0.out.mono ?_); clear m0; rintro e w7 ⟨g7, y1, rfl, hd1, hg7⟩)
  rw [hB1] at hd1
  have hl7 : B1 ≤ w7.heap.size := by rw [← hB1]; exact Below.size hg7
  have b1 := Lib.hid (apply_lit B1 g7 0 y1 _ w7 (Lib.hid hd1) (by omega) hl7 nA1 rfl rfl hkA hI0 r_a1)
  have hs7 := Lib.hid hl7
  have hz7 : Hid (Below B1 w6 w7) := Lib.hid (Below.mono hg7 (Nat.le_of_eq hB1.symm))
  replace hg7 := Lib.hid hg7
  replace hd1 := Lib.hid hd1
  clear hl7
  go_upto_region 7 with (first
    | (go_at_call 12; go_must (refine b1.out.mono ?_); clear b1; rintro e w8 ⟨rfl, y2, hd2, hb8⟩; have hs8 : Hid (B1 ≤ w8.heap.size) := Lib.hid (Nat.le_trans hs7.out hb8.size); replace hb8 := Lib.hid hb8; have b2 := Lib.hid (has_any B1 g7 1 y2 _ w8 hd2 (by omega) kA hkA))
    | (go_at_call 22; go_must (refine b2.out.mono ?_); clear b2; rintro e w9 ⟨he9, hg9⟩; rw [show ka1.has kA = true from by decide] at he9; subst he9; have hd3 := Lib.hid (hd2.out.gr hg9); have hs9 : Hid (B1 ≤ w9.heap.size) := Lib.hid (Nat.le_trans hs8.out (Below.size hg9)); replace hg9 := Lib.hid hg9; have b3 := Lib.hid (staged_any B1 g7 1 y2 _ w9 hd3 (by omega)))
    | (go_at_call 18; go_must (refine b3.out.mono ?_); clear b3; rintro e w10 ⟨A7, c7, rfl, -, hg10⟩; have hd4 := Lib.hid (hd3.out.gr hg10); have hs10 : Hid (B1 ≤ w10.heap.size) := Lib.hid (Nat.le_trans hs9.out (Below.size hg10)); have hx10 : y2.W.length = 1 := (by have := congrArg List.length hd2.out.wc; rw [List.length_map] at this; exact this.symm); rw [hx10]; replace hx10 := Lib.hid hx10; replace hg10 := Lib.hid hg10; have b4 := Lib.hid (apply_lit B1 g7 1 y2 _ w10 hd4 (by omega) hs10.out nD3 rfl rfl hkA hI0 r_d2)))
  go_wp2_with (first
    | (go_at_call 12; go_must (refine b4.out.mono ?_); clear b4; rintro e w11 ⟨rfl, y5, hd5, hb11⟩
       have hz : Hid (Gr w6 w11) := Lib.hid (by
        have h1 := hz7.out.trans (hb8.out.trans ((Below.mono hg9.out hs8.out).trans ((Below.mono hg10.out hs9.out).trans hb11)))
        unfold Gr
        rw [hB1]
        exact h1)
       replace hb11 := Lib.hid hb11
       obtain ⟨bt, rfl, hbt, hct⟩ := OND.cell (m := 1) ⟨(ON.gr hz.out ho6).out, ND.neN (l := [⟨6, kA, 2, 0, [], [], 1, []⟩]) (fun n hn => by rw [List.mem_singleton] at hn; subst hn; exact ⟨rfl, rfl⟩) _ _⟩ (by omega)
       have t1 := hct 0 _ 1 _ rfl (by omega) rfl
       have t2 := hct 0 _ 2 _ rfl (by omega) rfl
       have t6 := hct 0 _ 6 _ rfl (by omega) rfl
       obtain ⟨bl, rfl, hbl, hcl⟩ := OND.cell (ho56.out.gr hz.out) (by omega)
       have l0 := hcl 0 _ 0 (.int .i64 4) rfl (by omega) (by unfold Ne.cells; rw [e0]; rfl)
       have l2 := hcl 0 _ 2 (.int .i64 2) rfl (by omega) (by unfold Ne.cells; rw [e0]; rfl)
       clear hct hcl
       have hcz := Lib.hid (hc6.out.gr hz.out)
       have b5 := Lib.hid (cgen_any B0 g 3 x4 _ w11 hcz)
       have b6 := Lib.hid (has_any B0 g 3 x4 _ w11 hcz (by omega) kA hkA)
       have hsz : Hid (B1 ≤ w11.heap.size) := Lib.hid (by rw [← hB1]; exact Below.size hz.out))
    | (go_at_call 15; first
      | (refine b5.out.mono ?_; clear b5; rintro e w' ⟨rfl, rfl⟩; rw [show ka3.G = 2 from rfl])
      | (refine b8.out.mono ?_; clear b8; rintro e w' ⟨rfl, rfl⟩; rw [show kd2.G = 1 from rfl]))
    | (go_at_call 22; go_must (refine b6.out.mono ?_); clear b6; rintro e w12 ⟨he9, hg12⟩; rw [show ka3.has kA = false from by decide] at he9; subst he9; have hd6 := Lib.hid (hd5.out.gr hg12); replace hg12 := Lib.hid hg12; have b7 := Lib.hid (tombs_any B1 g7 2 y5 _ w12 hd6 (by omega)))
    | (go_at_call 24; go_must (refine b7.out.mono ?_); clear b7; rintro e w13 ⟨A9, c9, rfl, -, hg13⟩; rw [show kd2.T.length = 0 from rfl]; have hd7 := Lib.hid (hd6.out.gr hg13); replace hg13 := Lib.hid hg13; have b8 := Lib.hid (cgen_any B1 g7 2 y5 _ w13 hd7)))
  go_ret
  refine ⟨by first | rfl | simp, ?_⟩
  have := hgw.out
  unfold Gr
  rw [hB0]
  have hB01 : B0 ≤ B1 := by rw [← hB1, ← hB0]; rw [← hB0] at this; exact this.size
  exact this.trans ((Below.mono (hz.out.trans (hg12.out.trans hg13.out)) (by rw [hB1]; exact hB01)))
end Go.Proofs.Ythboeoidgglcgaa
