/- rs.Decode: what is decoded has just the shards that are there. -/
import Derived.Test.YtdgkcgiknfjpjaaRsA
import Derived.Test.YtdgkcgiknfjpjaaMatC
import Derived.Deep.DeepCutAuto
namespace Go.Proofs.Ytdgkcgiknfjpjaa
set_option linter.unusedVariables false
set_option linter.unusedSimpArgs false
open Go Go.RowKit
/-- the places of shards that are there -/
def pidx (L : List (List UInt8)) (i : Nat) : List Nat := (List.range i).filter (fun r => decide (0 < (L.getD r []).length))
theorem pidx_yes {L : List (List UInt8)} {i : Nat} (h : 0 < (L.getD i []).length) : pidx L (i + 1) = pidx L i ++ [i] := by
  unfold pidx
  rw [List.range_succ, List.filter_append]
  rw [List.filter_cons_of_pos (by exact decide_eq_true h)]
  rfl
theorem pidx_no {L : List (List UInt8)} {i : Nat} (h : (L.getD i []).length = 0) : pidx L (i + 1) = pidx L i := by
  unfold pidx
  rw [List.range_succ, List.filter_append, List.filter_cons_of_neg (by show ¬ (decide (0 < (L.getD i []).length)) = true; rw [h]; decide), List.filter_nil, List.append_nil]
theorem pidx_lt {L : List (List UInt8)} {i r : Nat} (h : r ∈ pidx L i) : r < i ∧ 0 < (L.getD r []).length := by
  unfold pidx at h
  have h2 := List.mem_filter.mp h
  exact ⟨List.mem_range.mp h2.1, by simpa using h2.2⟩
theorem pidx_nodup (L : List (List UInt8)) (i : Nat) : (pidx L i).Nodup := List.nodup_range.sublist List.filter_sublist
theorem pidx_len (L : List (List UInt8)) (i : Nat) : (pidx L i).length ≤ i := by
  have := List.length_filter_le (fun r => decide (0 < (L.getD r []).length)) (List.range i)
  rw [List.length_range] at this
  exact this
def shardsOk (L : List (List UInt8)) : Prop := ∀ r, r < 10 → (L.getD r []).length = 0 ∨ (L.getD r []).length = 16
/-- D has, at the first eight places that are there, just the shards -/
def Solves (L : List (List UInt8)) (D : Mx) : Prop := ∀ i j, i < 8 → j < 16 → mm 8 (codeE 8) D (((pidx L 10).take 8).getD i 0) j = ent L (((pidx L 10).take 8).getD i 0) j
def RDec (L : List (List UInt8)) (w : World) (e : Ending) (w' : World) : Prop := Gr w w' ∧
  ((shardsOk L ∧ 8 ≤ (pidx L 10).length ∧ ∃ A c D, e = .returned (.tuple #[.slice A 128 c, .int .i64 0]) ∧ Hid (OB w' w.heap.size (.slice A 128 c) (flat 8 16 D)) ∧ Solves L D) ∨
   (shardsOk L ∧ (pidx L 10).length < 8 ∧ e = .returned (.tuple #[.slice none 0 0, .int .i64 9])) ∨
   (¬ shardsOk L ∧ e = .returned (.tuple #[.slice none 0 0, .int .i64 1])))
theorem AB.nil_ (w : World) (B : Nat) : AB w B (.slice none 0 0) [] := ⟨[], World.ownsRow_nil w B _ 1, rfl, fun i l h => by simp at h⟩
theorem RR.take {w : World} {B b o n c : Nat} {L : List (List UInt8)} (h : RR w B (.slice (some ⟨b, o, none⟩) n c) L) {k : Nat} (hk : k ≤ L.length) : RR w B (.slice (some ⟨b, o, none⟩) k c) (L.take k) := by
  obtain ⟨A, c0, e, h1, h2, h3⟩ := h
  injection e with e1 e2 e3
  subst e1 e3
  have hl : (L.take k).length = k := by rw [List.length_take]; omega
  refine ⟨_, c, by rw [hl], by rw [hl]; omega, h2, fun hn => ?_⟩
  obtain ⟨b', o', e, hb, hr⟩ := h3 (by omega)
  refine ⟨b', o', e, hb, fun i l hi => hr i l ?_⟩
  have hik : i < k := by have := (List.getElem?_eq_some_iff.mp hi).1; omega
  rw [List.getElem?_take, if_pos hik] at hi
  exact hi
theorem sep_nil (x : Value) : Sep x (.slice none 0 0) := fun q _ h => by cases h
theorem nil_sep (x : Value) : Sep (.slice none 0 0) x := fun q h _ => by cases h
theorem Sep.symm {x y : Value} (h : Sep x y) : Sep y x := fun q h1 h2 => h q h2 h1
theorem sep_new {w5 : World} {B : Nat} {x x' y : Value} {L : List (List UInt8)} (hs : Sep x y) (hown : x'.ownBlock = x.ownBlock ∨ x'.ownBlock = some w5.heap.size) (hy : AB w5 B y L) : Sep x' y := fun q hq h2 => by
  rcases hown with h | h
  · rw [h] at hq; exact hs q hq h2
  · rw [h] at hq
    injection hq with hq
    have := (hy.up q h2).2
    omega
theorem pres_tab {L : List (List UInt8)} (rs : List Nat) (m : Nat) (h : ∀ r, r ∈ rs → (L.getD r []).length = m) : rs.map (fun r => L.getD r []) = tabM rs.length m (fun i => ent L (rs.getD i 0)) := by
  refine List.ext_getElem? fun i => ?_
  by_cases hi : i < rs.length
  · rw [List.getElem?_map, tabM_get hi, List.getElem?_eq_getElem hi, Option.map_some]
    rw [List.getD_eq_getElem?_getD (l := rs), List.getElem?_eq_getElem hi]
    show some (L.getD rs[i] []) = some (row m (ent L rs[i]))
    congr 1
    rw [← h _ (List.getElem_mem hi)]
    exact (row_of (L.getD rs[i] [])).symm
  · rw [List.getElem?_eq_none (by simp; omega), List.getElem?_eq_none (by rw [tabM_length]; omega)]
theorem pres_take {α : Type} (f : Nat → α) (rs : List Nat) (k : Nat) : (rs.map f).take k = (rs.take k).map f := by rw [List.map_take]
/-- what the inverse of the rows makes of the shards solves -/
theorem solves_of {L : List (List UInt8)} {X P : Mx} {is : List Nat} (h : EqM 8 8 (mm 8 (fun i => codeE 8 (is.getD i 0)) X) idM) (hP : ∀ i j, i < 8 → j < 16 → P i j = ent L (is.getD i 0) j) :
    ∀ i j, i < 8 → j < 16 → mm 8 (codeE 8) (mm 8 X P) (is.getD i 0) j = ent L (is.getD i 0) j := fun i j hi hj => by
  have h1 : mm 8 (codeE 8) (mm 8 X P) (is.getD i 0) j = mm 8 (fun i => codeE 8 (is.getD i 0)) (mm 8 X P) i j := rfl
  rw [h1, ← mm_assoc, mm_congr (A' := idM) (B' := P) (fun k hk => h i k hi hk) (fun _ _ => rfl), mm_id_l hi]
  exact hP i j hi hj
set_option maxHeartbeats 16000000 in
set_option maxRecDepth 20000 in
theorem rsdec_any {L : List (List UInt8)} {v : Value} (hL10 : L.length = 10) (w : World) (hL : Hid (Tbl L v w)) :
    Calls Try.prog 28 #[v] w (RDec L w) := by
  obtain ⟨A, c, rfl, a1, a2, a3⟩ := hL.out
  rw [hL10] at a3 a1 ⊢
  obtain ⟨b, o, A0, c0, l0, rfl, hb, -⟩ := a3.at_ (i := 0) (by omega)
  have hRT := Lib.hid a3
  have hq : Hid (Gr w w) := Lib.hid (Below.refl _ _)
  replace hL10 := Lib.hid hL10
  clear a3 hb a2
  go_enter Try.func28, Try.ntmps28
  go_wp2_with fail
  refine (code_tbl 8 10 (by decide) (by decide) (by decide) _).mono ?_
  rintro e w2 ⟨u4, rfl, hu4, hr⟩
  replace hq := Gr.go hq hr
  obtain ⟨A4, c4, rfl, t1, t2, t3⟩ := hu4
  rw [tabM_length] at t1 t3 ⊢
  obtain ⟨b4, o4, A5, c5, l5, rfl, hb4, -⟩ := t3.at_ (i := 0) (by decide)
  have hR2 := Lib.hid (hRT.out.up hr)
  have hC2 := Lib.hid t3
  have h5 : Hid (AB w2 w2.heap.size (.slice none 0 0) (((pidx L 0).map (fun r => row 8 (codeE 8 r))))) := Lib.hid (AB.nil_ _ _)
  have h6 : Hid (AB w2 w2.heap.size (.slice none 0 0) (((pidx L 0).map (fun r => L.getD r [])))) := Lib.hid (AB.nil_ _ _)
  clear hr t2 t3 hRT hb4
  go_wp2_with fail
  go_loopw [5, 6, 19] (fun v5 v6 i wr => ∃ (t : Nat) (x5 x6 : Value), t ≤ 10 ∧ i = .int .i64 t ∧ x5 = v5 ∧ x6 = v6 ∧ w2.heap.size ≤ wr.heap.size ∧ Hid (AB wr w2.heap.size x5 ((pidx L t).map (fun r => row 8 (codeE 8 r)))) ∧ Hid (AB wr w2.heap.size x6 ((pidx L t).map (fun r => L.getD r []))) ∧ Hid (Sep x5 x6) ∧ Hid (∀ r, r < t → (L.getD r []).length = 0 ∨ (L.getD r []).length = 16) ∧ Hid (Below w2.heap.size w2 wr)) (fun _ _ i _ => 10 - (intOf i).toNat)
  case atStart => exact ⟨0, _, _, Nat.zero_le _, rfl, rfl, rfl, Nat.le_refl _, h5, h6, Lib.hid (sep_nil _), Lib.hid (fun r h => absurd h (by omega)), Lib.hid (Below.refl _ _)⟩
  case round =>
    obtain ⟨t, x5, x6, ht, rfl, rfl, rfl, hBr, ha5, ha6, hS, hv, hq3⟩ := hrel
    clear h5 h6
    obtain ⟨wo, hwo⟩ : ∃ wo, wo = wr := ⟨_, rfl⟩
    subst hwo
    by_cases hlt : t < 10
    · have it : (t : Int) < 10 := by omega
      obtain ⟨b', o', A', c', r, e, hbb', hr, hcell2, hrc, hrm, hrd⟩ := hR2.out.at_ hlt
      have hcell := (hq3.out.cell (p := ⟨b', o' + t, none⟩) hbb').trans hcell2
      clear hbb' hcell2
      injection e with e
      injection e with e1 e2 e3
      subst e1 e2
      have hrL : Hid (L.getD t [] = r) := Lib.hid (by rw [List.getD_eq_getElem?_getD, hr]; rfl)
      obtain ⟨ln, hln⟩ : ∃ ln, r.length = ln := ⟨_, rfl⟩
      rw [hln] at hcell hrc
      clear e3
      by_cases h0 : ln = 0
      · subst h0
        have hx5 : Hid (AB wo w2.heap.size x5 ((pidx L (t + 1)).map (fun r => row 8 (codeE 8 r)))) := Lib.hid (by rw [pidx_no (by rw [hrL.out]; exact hln)]; exact ha5.out)
        have hx6 : Hid (AB wo w2.heap.size x6 ((pidx L (t + 1)).map (fun r => L.getD r []))) := Lib.hid (by rw [pidx_no (by rw [hrL.out]; exact hln)]; exact ha6.out)
        have hv2 : Hid (∀ r, r < t + 1 → (L.getD r []).length = 0 ∨ (L.getD r []).length = 16) := Lib.hid (fun q hq => by
          by_cases e : q = t
          · rw [e, hrL.out]; exact .inl hln
          · exact hv.out q (by omega))
        replace hln := Lib.hid hln
        replace hr := Lib.hid hr
        clear hrd
        go_wp2_with fail
        go_roundw
        case rel => first | exact ⟨t + 1, x5, x6, by omega, by go_num, rfl, rfl, hBr, hx5, hx6, hS, hv2, hq3⟩ | ((repeat apply Exists.intro); exact ⟨⟨t + 1, x5, x6, by omega, by go_num, rfl, rfl, hBr, hx5, hx6, hS, hv2, hq3⟩, rfl⟩)
        case measure => simp [intOf]; omega
      · by_cases h16 : ln = 16
        · subst h16
          obtain ⟨b', o', A7, c7, r7, e, -, hr7, hcell7, hrc7, hrm7, hrd7⟩ := (hC2.out.low hq3.out).at_ hlt
          injection e with e
          injection e with e1 e2 e3
          subst e1 e2
          clear e3
          rw [tabM_get hlt] at hr7
          injection hr7 with hr7
          rw [← hr7] at hrd7
          rw [← hr7, row_length] at hcell7 hrc7
          replace hr7 := Lib.hid hr7
          have hbb : Below wo.heap.size wo (wo.alloc (.cells #[.slice A7 8 c7] 22)) := (Below.refl _ _).alloc (Nat.le_refl _) _
          have hlit : Hid (Reads (wo.alloc (.cells #[.slice A7 8 c7] 22)) (wo.alloc (.cells #[.slice A7 8 c7] 22)).heap.size 1 (some ⟨wo.heap.size, 0, none⟩) 1 [.slice A7 (row 8 (codeE 8 t)).length c7]) := Lib.hid (by rw [row_length]; exact reads_one wo 22 (.slice A7 8 c7))
          have ha5b := Lib.hid (ha5.out.below hbb hBr)
          have ha6b := Lib.hid (ha6.out.below hbb hBr)
          have hq4 := Lib.hid (hq3.out.trans (hbb.mono hq3.out.size))
          have hrd5 := Lib.hid (hrd7.keep (fun p hp => hbb.cell (by omega)))
          have hB5 : w2.heap.size ≤ (wo.alloc (.cells #[.slice A7 8 c7] 22)).heap.size := by simp; omega
          have hlc : Hid ((row 8 (codeE 8 t)).length ≤ c7) := Lib.hid (by rw [row_length]; exact hrc7)
          have hcm := Lib.hid hrm7
          have hpl : Hid (((pidx L t).map (fun r => row 8 (codeE 8 r))).length ≤ 1000000) := Lib.hid (by rw [List.length_map]; have := pidx_len L t; omega)
          have hrd2 := Lib.hid hrd
          clear hbb hrd7 hrd
          go_upto_region 13 with (at_builtin; go_must (refine wpl_append_sh rfl (.tmp 30) (.tmp 35) rfl w2.heap.size x5 ((pidx L t).map (fun r => row 8 (codeE 8 r))) rfl ha5b.out A7 c7 (row 8 (codeE 8 t)) hrd5.out hlc.out hcm.out _ _ 1 rfl hlit.out hpl.out hB5 ?_); intro v8 w8 ho8 hg8 hown8; replace ho8 := Lib.hid ho8; replace hg8 := Lib.hid hg8; replace hown8 := Lib.hid hown8)
          have hB8 : w2.heap.size ≤ w8.heap.size := Nat.le_trans hB5 hg8.out.size
          have hq8 : Below w2.heap.size w2 w8 := hq4.out.grown hg8.out hq4.out.size (fun q hq => (ha5b.out.up q hq).1)
          have ha68 := ha6b.out.grown hg8.out hB5 (fun q hq => ⟨(ha5b.out.up q hq).1, hS.out q hq⟩)
          have hs8 : Sep v8 x6 := sep_new hS.out hown8.out ha6b.out
          have hbb : Below w8.heap.size w8 (w8.alloc (.cells #[.slice A' 16 c'] 22)) := (Below.refl _ _).alloc (Nat.le_refl _) _
          have hlit9 : Hid (Reads (w8.alloc (.cells #[.slice A' 16 c'] 22)) (w8.alloc (.cells #[.slice A' 16 c'] 22)).heap.size 1 (some ⟨w8.heap.size, 0, none⟩) 1 [.slice A' r.length c']) := Lib.hid (by rw [hln]; exact reads_one w8 22 (.slice A' 16 c'))
          have ha59 := Lib.hid (ho8.out.below hbb hB8)
          have ha69 := Lib.hid (ha68.below hbb hB8)
          have hq9 := Lib.hid (hq8.trans (hbb.mono hq8.size))
          have hrd9 := Lib.hid (hrd2.out.keep (fun p hp => hq9.out.cell hp))
          have hB9 : w2.heap.size ≤ (w8.alloc (.cells #[.slice A' 16 c'] 22)).heap.size := by simp; omega
          have hlc9 : Hid (r.length ≤ c') := Lib.hid (by rw [hln]; exact hrc)
          have hcm9 := Lib.hid hrm
          have hpl9 : Hid (((pidx L t).map (fun r => L.getD r [])).length ≤ 1000000) := Lib.hid (by rw [List.length_map]; have := pidx_len L t; omega)
          have hs9 := Lib.hid hs8
          have hln' := Lib.hid hln
          have hr' := Lib.hid hr
          clear hB8 hq8 ha68 hs8 hbb ho8 hg8 hown8 ha5b ha6b hq4 hrd5 hB5 hlit hlc hcm hpl hrd2 hln hr hrm hcell hcell7
          go_wp2_with (at_builtin; go_must (refine wpl_append_sh rfl (.tmp 37) (.tmp 39) rfl w2.heap.size x6 ((pidx L t).map (fun r => L.getD r [])) rfl ha69.out A' c' r hrd9.out hlc9.out hcm9.out _ _ 1 rfl hlit9.out hpl9.out hB9 ?_); intro v7 wa hoa hga howna; replace hoa := Lib.hid hoa; replace hga := Lib.hid hga; replace howna := Lib.hid howna)
          have hBa : w2.heap.size ≤ wa.heap.size := Nat.le_trans hB9 hga.out.size
          have hqa : Hid (Below w2.heap.size w2 wa) := Lib.hid (hq9.out.grown hga.out hq9.out.size (fun q hq => (ha69.out.up q hq).1))
          have h5a := ha59.out.grown hga.out hB9 (fun q hq => ⟨(ha69.out.up q hq).1, hs9.out.symm q hq⟩)
          have hsa : Hid (Sep v8 v7) := Lib.hid (sep_new hs9.out.symm howna.out ha59.out).symm
          have hpos : 0 < (L.getD t []).length := by rw [hrL.out, hln'.out]; decide
          have hx5 : Hid (AB wa w2.heap.size v8 ((pidx L (t + 1)).map (fun r => row 8 (codeE 8 r)))) := Lib.hid (by rw [pidx_yes hpos, List.map_append]; exact h5a)
          have hx6 : Hid (AB wa w2.heap.size v7 ((pidx L (t + 1)).map (fun r => L.getD r []))) := Lib.hid (by rw [pidx_yes hpos, List.map_append, List.map_cons, List.map_nil, hrL.out]; exact hoa.out)
          have hv2 : Hid (∀ r, r < t + 1 → (L.getD r []).length = 0 ∨ (L.getD r []).length = 16) := Lib.hid (fun q hq => by
            by_cases e : q = t
            · rw [e, hrL.out]; exact .inr hln'.out
            · exact hv.out q (by omega))
          clear h5a hpos hoa hga howna ha59 ha69 hq9 hrd9 hB9 hlit9 hlc9 hcm9 hpl9 hs9
          go_roundw
          case rel => first | exact ⟨t + 1, v8, v7, by omega, by go_num, rfl, rfl, hBa, hx5, hx6, hsa, hv2, hqa⟩ | ((repeat apply Exists.intro); exact ⟨⟨t + 1, v8, v7, by omega, by go_num, rfl, rfl, hBa, hx5, hx6, hsa, hv2, hqa⟩, rfl⟩)
          case measure => simp [intOf]; omega
        · have d1 : ((ln : Int) == 0) = false := by simp; omega
          have d2 : ((ln : Int) == 16) = false := by simp; omega
          have hbad : Hid (¬ shardsOk L) := Lib.hid (fun hh => by
            rcases hh t hlt with h | h
            · rw [hrL.out, hln] at h; exact h0 h
            · rw [hrL.out, hln] at h; exact h16 h)
          replace h0 := Lib.hid h0
          replace h16 := Lib.hid h16
          replace hln := Lib.hid hln
          replace hr := Lib.hid hr
          clear hrd
          go_wp2_with fail
          go_ret2
          exact ⟨hq.out.trans hq3.out, .inr (.inr ⟨hbad.out, rfl⟩)⟩
    · obtain rfl : t = 10 := by omega
      have hok : Hid (shardsOk L) := hv
      have hqf : Hid (Gr w wo) := Gr.go hq hq3.out
      clear hv
      by_cases h8 : (pidx L 10).length < 8
      · obtain ⟨A9, c9, e9⟩ := ha6.out.form
        rw [List.length_map] at e9
        subst e9
        obtain ⟨p, hp⟩ : ∃ p, (pidx L 10).length = p := ⟨_, rfl⟩
        rw [hp] at h8 ⊢
        have i8 : (p : Int) < 8 := by omega
        replace hp := Lib.hid hp
        go_wp2_with fail
        go_ret2
        exact ⟨hqf.out, .inr (.inl ⟨hok.out, by rw [hp.out]; exact h8, rfl⟩)⟩
      · obtain ⟨b5, o5, c5', e5, k5, -⟩ := ha5.out.rr.form0 (by rw [List.length_map]; omega)
        obtain ⟨b6, o6, c6', e6, k6, -⟩ := ha6.out.rr.form0 (by rw [List.length_map]; omega)
        rw [List.length_map] at e5 k5 e6 k6
        subst e5 e6
        have hr5 := ha5.out.rr.take (k := 8) (by rw [List.length_map]; omega)
        have hr6 := ha6.out.rr.take (k := 8) (by rw [List.length_map]; omega)
        rw [pres_take] at hr5 hr6
        obtain ⟨p, hp⟩ : ∃ p, (pidx L 10).length = p := ⟨_, rfl⟩
        rw [hp] at k5 k6 h8 ⊢
        have hp10 : p ≤ 10 := by rw [← hp]; exact pidx_len L 10
        obtain ⟨is, his⟩ : ∃ is, (pidx L 10).take 8 = is := ⟨_, rfl⟩
        have hil : is.length = 8 := by rw [← his, List.length_take, hp]; omega
        have hisub : ∀ r, r ∈ is → r ∈ pidx L 10 := fun r hr => List.mem_of_mem_take (by rw [his]; exact hr)
        have hnd : is.Nodup := by rw [← his]; exact (pidx_nodup L 10).sublist (List.take_sublist _ _)
        rw [his] at hr5 hr6
        have hlt10 : ∀ r, r ∈ is → r < 10 := fun r hr => (pidx_lt (hisub r hr)).1
        have e5 : is.map (fun r => row 8 (codeE 8 r)) = tabM 8 8 (fun i => codeE 8 (is.getD i 0)) := by
          rw [← hil, ← pick_tab (nn := 10) is hlt10, hil]
          refine List.map_congr_left (fun r hr => ?_)
          rw [List.getD_eq_getElem?_getD, tabM_get (hlt10 r hr)]; rfl
        have e6 : is.map (fun r => L.getD r []) = tabM 8 16 (fun i => ent L (is.getD i 0)) := by
          rw [← hil]
          refine pres_tab is 16 (fun r hr => ?_)
          have h1 := pidx_lt (hisub r hr)
          rcases hok.out r h1.1 with h | h
          · omega
          · exact h
        rw [e5] at hr5
        rw [e6] at hr6
        have hT : Hid (Tbl (tabM 8 8 (fun i => codeE 8 (is.getD i 0))) (.slice (some ⟨b5, o5, none⟩) 8 c5') wo) := Lib.hid (hr5.tbl hBr)
        have hP : Hid (Tbl (tabM 8 16 (fun i => ent L (is.getD i 0))) (.slice (some ⟨b6, o6, none⟩) 8 c6') wo) := Lib.hid (hr6.tbl hBr)
        have hno : Hid (NoKer 8 (fun i => codeE 8 (is.getD i 0))) := Lib.hid (pick_noKer 8 10 (by decide) (by decide) is hnd hil hlt10)
        have i8 : ¬ ((p : Int) < 8) := by omega
        have i8' : decide ((p : Int) < 8) = false := decide_eq_false i8
        have c58 : 8 ≤ c5' := by omega
        have c68 : 8 ≤ c6' := by omega
        obtain ⟨M, hM⟩ : ∃ M : Mx, (fun i => codeE 8 (is.getD i 0)) = M := ⟨_, rfl⟩
        rw [hM] at hT hno
        replace hM := Lib.hid hM
        replace his := Lib.hid his
        replace hp := Lib.hid hp
        replace hil := Lib.hid hil
        clear e5 e6 hr5 hr6 hlt10 hnd hisub ha5 ha6 hS
        go_wp2_with fail
        refine (inv_p hT).mono ?_
        rintro e w3 ⟨u3, L3, b3, rfl, hu3, hans, hr⟩
        replace hqf := Gr.go hqf hr
        replace hP := Tbl.gr hr hP
        have hsqM := sq_tabM (n := 8) (by decide) (by decide) M
        rcases hans with ⟨rfl, -, X, rfl, g1, g2⟩ | ⟨rfl, -, hk⟩
        rotate_left
        · exact (not_both (by rw [tabM_length]; exact noKer_ent hno.out) (hk hsqM)).elim
        rw [tabM_length] at g2 hu3
        have hMX : Hid (EqM 8 8 (mm 8 M X) idM) := Lib.hid (fun i j hi hj => by
          rw [← g2 i j hi hj]
          exact mm_congr (fun k hk => (ent_tabM hi hk M).symm) (fun _ _ => rfl))
        clear g1 g2 hr hT hsqM hno
        go_wp2_with fail
        refine (times_p hu3 hP).mono ?_
        rintro e w4 ⟨u4, rfl, hu4, hr⟩
        replace hqf := Gr.go hqf hr
        have hf : fits (tabM 8 8 X) (tabM 8 16 (fun i => ent L (is.getD i 0))) = true := fits_iff.mpr ⟨(isTab_tabM (by decide) (by decide) (by decide) (by decide) _).1, (isTab_tabM (by decide) (by decide) (by decide) (by decide) _).1, by rw [(isTab_tabM (by decide) (by decide) (by decide) (by decide) _).2, tabM_length]⟩
        have hpr : prod (tabM 8 8 X) (tabM 8 16 (fun i => ent L (is.getD i 0))) = tabM 8 16 (mm 8 X (fun i => ent L (is.getD i 0))) := by
          rw [show prod (tabM 8 8 X) (tabM 8 16 (fun i => ent L (is.getD i 0))) = tabM (tabM 8 8 X).length (width (tabM 8 16 (fun i => ent L (is.getD i 0)))) (mm (tabM 8 16 (fun i => ent L (is.getD i 0))).length (ent (tabM 8 8 X)) (ent (tabM 8 16 (fun i => ent L (is.getD i 0))))) from if_pos hf, tabM_length, tabM_length, (isTab_tabM (n := 8) (m := 16) (by decide) (by decide) (by decide) (by decide) (fun i => ent L (is.getD i 0))).2]
          exact tabM_congr (fun i j hi hj => mm_congr (fun k hk => ent_tabM hi hk X) (fun k hk => ent_tabM hk hj _))
        rw [hpr] at hu4
        replace hpr := Lib.hid hpr
        replace hf := Lib.hid hf
        clear hr hP hu3
        have hco := Lib.hid (concat_any 8 16 (mm 8 X (fun i => ent L (is.getD i 0))) (by decide) (by decide) (by decide) (by decide) w4 hu4.out)
        go_wp2_with fail
        refine hco.out.mono ?_
        rintro e w5 ⟨A9, c9, rfl, ho9, hr⟩
        have ho9' : Hid (OB w5 w.heap.size (.slice A9 128 c9) (flat 8 16 (mm 8 X (fun i => ent L (is.getD i 0))))) := Lib.hid (ho9.out.more hqf.out.size)
        replace hqf := Gr.go hqf hr
        clear hr hco hu4 ho9
        go_wp2_with fail
        go_ret2
        refine ⟨hqf.out, .inl ⟨hok.out, by rw [hp.out]; omega, A9, c9, _, rfl, ho9', ?_⟩⟩
        unfold Solves
        rw [his.out]
        exact solves_of (by rw [hM.out]; exact hMX.out) (fun i j hi hj => rfl)
end Go.Proofs.Ytdgkcgiknfjpjaa
/- rs: Fill, groups of bytes, what the shards determine. -/
namespace Go.Proofs.Ytdgkcgiknfjpjaa
set_option linter.unusedVariables false
set_option linter.unusedSimpArgs false
open Go Go.RowKit
theorem flat_get {n m : Nat} {D : Mx} {i j : Nat} (hi : i < n) (hj : j < m) : (flat n m D)[i * m + j]? = some (D i j) := by
  induction n with
  | zero => omega
  | succ n ih =>
    rw [flat_succ]
    by_cases e : i < n
    · have h1 : i * m + j < (flat n m D).length := by
        rw [flat_length]
        have := Nat.mul_le_mul_right m (show i + 1 ≤ n by omega)
        rw [Nat.succ_mul] at this
        omega
      rw [List.getElem?_append_left h1]
      exact ih e
    · obtain rfl : i = n := by omega
      rw [List.getElem?_append_right (by rw [flat_length]; omega), flat_length, Nat.add_sub_cancel_left]
      exact row_get hj _
theorem part_flat {n m : Nat} {D : Mx} : EqM n m (partM m (flat n m D)) D := fun i j hi hj => by
  unfold partM
  rw [List.getD_eq_getElem?_getD, flat_get hi hj]; rfl
theorem flat_part {n m : Nat} (hm : 0 < m) {l : List UInt8} (hl : l.length = n * m) : flat n m (partM m l) = l := by
  refine List.ext_getElem? fun k => ?_
  by_cases hk : k < n * m
  · have e : k / m * m + k % m = k := by rw [Nat.mul_comm]; exact Nat.div_add_mod k m
    have h1 := flat_get (n := n) (D := partM m l) (i := k / m) (j := k % m) (Nat.div_lt_of_lt_mul (by rw [Nat.mul_comm]; exact hk)) (Nat.mod_lt _ hm)
    rw [e] at h1
    rw [h1]
    unfold partM
    rw [e, List.getD_eq_getElem?_getD, List.getElem?_eq_getElem (by omega)]
    rfl
  · rw [List.getElem?_eq_none (by rw [flat_length]; omega), List.getElem?_eq_none (by omega)]
theorem flat_congr {n m : Nat} {D D' : Mx} (h : EqM n m D D') : flat n m D = flat n m D' := by
  induction n with
  | zero => rfl
  | succ n ih => rw [flat_succ, flat_succ, ih (fun i j hi hj => h i j (by omega) hj), row_congr (fun j hj => h n j (by omega) hj)]
/-- the ten shards of eight parts -/
def encD (D : Mx) : Mx := mm 8 (codeE 8) D
theorem encM_eq (l : List UInt8) : encM l = encD (partM 16 l) := rfl
theorem encD_congr {D D' : Mx} (h : EqM 8 16 D D') : EqM 10 16 (encD D) (encD D') := fun i j hi hj => mm_congr (fun _ _ => rfl) (fun k hk => h k j hk hj)
theorem encD_low {D : Mx} {i : Nat} (hi : i < 8) (j : Nat) : encD D i j = D i j := by
  unfold encD
  rw [mm_congr (A' := idM) (B' := D) (fun k hk => codeE_id hi) (fun _ _ => rfl), mm_id_l hi]
def Solves2 (L : List (List UInt8)) (is : List Nat) (D : Mx) : Prop := ∀ i j, i < 8 → j < 16 → encD D (is.getD i 0) j = ent L (is.getD i 0) j
/-- eight rows determine the parts -/
theorem solve_one {is : List Nat} (hnd : is.Nodup) (hl : is.length = 8) (hlt : ∀ r, r ∈ is → r < 10) {m : Nat} {D D' : Mx} (h : ∀ i j, i < 8 → j < m → encD D (is.getD i 0) j = encD D' (is.getD i 0) j) : EqM 8 m D D' := fun i j hi hj => by
  have hno := pick_noKer 8 10 (by decide) (by decide) is hnd hl hlt
  have h1 := hno (fun k => D k j ^^^ D' k j) (fun r hr => by
    have e : mv 8 (fun i j => codeE 8 (is.getD i 0) j) (fun k => D k j ^^^ D' k j) r = encD D (is.getD r 0) j ^^^ encD D' (is.getD r 0) j := by
      unfold mv encD mm
      rw [← gsum_xor]
      exact gsum_congr (fun k _ => gmul_xor_r _ _ _)
    rw [e, h r j hr hj, xx]) i hi
  exact xeq h1
theorem pidx8 {L : List (List UInt8)} (h8 : 8 ≤ (pidx L 10).length) : ((pidx L 10).take 8).Nodup ∧ ((pidx L 10).take 8).length = 8 ∧ ∀ r, r ∈ (pidx L 10).take 8 → r < 10 ∧ 0 < (L.getD r []).length :=
  ⟨(pidx_nodup L 10).sublist (List.take_sublist _ _), by rw [List.length_take]; omega, fun r hr => pidx_lt (List.mem_of_mem_take hr)⟩
theorem solves_unique {L : List (List UInt8)} (h8 : 8 ≤ (pidx L 10).length) {D D' : Mx} (h : Solves L D) (h' : Solves L D') : EqM 8 16 D D' := by
  obtain ⟨h1, h2, h3⟩ := pidx8 h8
  exact solve_one h1 h2 (fun r hr => (h3 r hr).1) (fun i j hi hj => (h i j hi hj).trans (h' i j hi hj).symm)
/-! ### Fill -/
def RFill (L : List (List UInt8)) (w : World) (e : Ending) (w' : World) : Prop := Gr w w' ∧
  ((shardsOk L ∧ 8 ≤ (pidx L 10).length ∧ ∃ g G C D, e = .returned (.tuple #[.slice (some ⟨g, 0, none⟩) 10 10, .int .i64 0]) ∧ TB w' w.heap.size g 10 16 G C (encD D) ∧ Solves L D) ∨
   (shardsOk L ∧ (pidx L 10).length < 8 ∧ e = .returned (.tuple #[.slice none 0 0, .int .i64 9])) ∨
   (¬ shardsOk L ∧ e = .returned (.tuple #[.slice none 0 0, .int .i64 1])))
def grp (l : List UInt8) : List UInt8 := row 128 (fun j => l.getD j 0)
def grpTo (l : List UInt8) (k : Nat) : List UInt8 := row 128 (fun j => if j < k then l.getD j 0 else 0)
theorem grp_length (l : List UInt8) : (grp l).length = 128 := row_length _ _
end Go.Proofs.Ytdgkcgiknfjpjaa
/- rs: the fixed facts. -/
namespace Go.Proofs.Ytdgkcgiknfjpjaa
set_option linter.unusedVariables false
set_option linter.unusedSimpArgs false
open Go Go.RowKit
/-- a table of the call's own, some rows of which have been taken away -/
structure TN (w : World) (base g n m : Nat) (G C : Nat → Nat) (M : Mx) (P : Nat → Bool) : Prop where
  spine : ∃ cs : Array Value, w.heap[g]? = some (.cells cs 22 (0, 0)) ∧ n ≤ cs.size ∧ ∀ i, i < n → cs[i]? = some (if P i = true then .slice none 0 0 else .slice (some ⟨G i, 0, none⟩) m (C i))
  low : base ≤ g
  own : ∀ i, i < n → OB w base (.slice (some ⟨G i, 0, none⟩) m (C i)) (row m (M i))
  gne : ∀ i, i < n → G i ≠ g
theorem TB.tn {w : World} {base g n m : Nat} {G C : Nat → Nat} {M : Mx} (h : TB w base g n m G C M) : TN w base g n m G C M (fun _ => false) := by
  obtain ⟨cs, h1, h2, h3⟩ := h.spine
  exact ⟨⟨cs, h1, h2, fun i hi => by rw [if_neg (by decide)]; exact h3 i hi⟩, h.low, h.own, fun i hi => h.gne hi⟩
section
variable {w w' : World} {base g n m : Nat} {G C : Nat → Nat} {M : Mx} {P : Nat → Bool}
theorem TN.lt (h : TN w base g n m G C M P) : g < w.heap.size := by
  obtain ⟨cs, h1, -, -⟩ := h.spine
  exact blk_lt h1
theorem TN.cell (h : TN w base g n m G C M P) {i : Nat} (hi : i < n) : w.cell? ⟨g, i, none⟩ = some (if P i = true then .slice none 0 0 else .slice (some ⟨G i, 0, none⟩) m (C i)) := by
  obtain ⟨cs, h1, -, h3⟩ := h.spine
  exact blk_cell h1 (h3 i hi)
theorem TN.free (h : TN w base g n m G C M P) (i : Nat) : w.frozen? ⟨g, i, none⟩ = false := by
  obtain ⟨cs, h1, -, -⟩ := h.spine
  exact blk_free h1 i
theorem TN.below (h : TN w base g n m G C M P) (hb : Below w.heap.size w w') : TN w' base g n m G C M P := by
  obtain ⟨cs, h1, h2, h3⟩ := h.spine
  exact ⟨⟨cs, (hb.block g h.lt).trans h1, h2, h3⟩, h.low, fun i hi => (h.own i hi).below hb, h.gne⟩
theorem TN.nil_ (h : TN w base g n m G C M P) {i : Nat} (hi : i < n) : TN (w.setCell ⟨g, i, none⟩ (.slice none 0 0)) base g n m G C M (fun j => if j = i then true else P j) := by
  obtain ⟨cs, h1, h2, h3⟩ := h.spine
  refine ⟨⟨_, blk_set h1 i _, by simp; exact h2, fun j hj => ?_⟩, h.low, fun j hj => row_keep (h.own j hj) (fun k hk => ?_), h.gne⟩
  · by_cases e : j = i
    · subst e
      simp [show j < cs.size by omega]
    · rw [Array.getElem?_setIfInBounds_ne (by omega), h3 j hj]
      simp only [if_neg e]
  · injection hk with hk
    subst hk
    exact blk_other (h.gne j hj) i _
def tabN (n m : Nat) (M : Mx) (P : Nat → Bool) : List (List UInt8) := (List.range n).map (fun i => if P i = true then [] else row m (M i))
theorem tabN_length (n m : Nat) (M : Mx) (P : Nat → Bool) : (tabN n m M P).length = n := by unfold tabN; simp
theorem tabN_get {n m i : Nat} (h : i < n) (M : Mx) (P : Nat → Bool) : (tabN n m M P)[i]? = some (if P i = true then [] else row m (M i)) := by unfold tabN; simp [h]
theorem tabN_getD {n m i : Nat} (h : i < n) (M : Mx) (P : Nat → Bool) : (tabN n m M P).getD i [] = if P i = true then [] else row m (M i) := by rw [List.getD_eq_getElem?_getD, tabN_get h]; rfl
theorem TN.tbl (h : TN w base g n m G C M P) (c : Nat) (hc : n ≤ c) (hm : c ≤ maxLen) : Tbl (tabN n m M P) (.slice (some ⟨g, 0, none⟩) n c) w := by
  refine ⟨_, c, by rw [tabN_length], by rw [tabN_length]; exact hc, hm, rfl, fun hn => ⟨g, 0, rfl, h.lt, fun i l hl => ?_⟩⟩
  have hi : i < n := by have := (List.getElem?_eq_some_iff.mp hl).1; rwa [tabN_length] at this
  rw [tabN_get hi] at hl
  injection hl with hl
  have hcell := h.cell hi
  by_cases e : P i = true
  · rw [if_pos e] at hl hcell
    subst hl
    exact ⟨none, 0, by rw [Nat.zero_add]; exact hcell, Nat.le_refl _, Nat.zero_le _, Rd.nil_⟩
  · rw [if_neg e] at hl hcell
    subst hl
    obtain ⟨A, c2, e2, k1, k2, k3, -⟩ := (h.own i hi).form
    injection e2 with e21 e22 e23
    subst e21 e23
    rw [row_length] at k1
    exact ⟨_, C i, by rw [Nat.zero_add, row_length]; exact hcell, by rw [row_length]; exact k1, k2, k3⟩
end
/-! ### shards of which some lack -/
theorem tabN_ok {M : Mx} {P : Nat → Bool} : shardsOk (tabN 10 16 M P) := fun r hr => by
  rw [tabN_getD hr]
  split
  · exact .inl rfl
  · exact .inr (row_length _ _)
theorem tabN_pidx {M : Mx} {P : Nat → Bool} (k : Nat) (hk : k ≤ 10) : pidx (tabN 10 16 M P) k = (List.range k).filter (fun r => !(P r)) := by
  unfold pidx
  refine List.filter_congr (fun r hr => ?_)
  have hr' := List.mem_range.mp hr
  rw [tabN_getD (by omega)]
  cases h : P r with
  | true => simp
  | false =>
    rw [if_neg (by decide), row_length]
    rfl
theorem tabN_solves {D : Mx} {P : Nat → Bool} (h8 : 8 ≤ (pidx (tabN 10 16 (encD D) P) 10).length) : Solves (tabN 10 16 (encD D) P) D := fun i j hi hj => by
  obtain ⟨h1, h2, h3⟩ := pidx8 h8
  obtain ⟨is, his⟩ : ∃ is, (pidx (tabN 10 16 (encD D) P) 10).take 8 = is := ⟨_, rfl⟩
  rw [his] at h2 h3 ⊢
  have hr := h3 (is.getD i 0) (by
    rw [List.getD_eq_getElem?_getD, List.getElem?_eq_getElem (by omega)]
    exact List.getElem_mem _)
  have hP : P (is.getD i 0) = false := by
    cases hh : P (is.getD i 0) with
    | false => rfl
    | true =>
      have := hr.2
      rw [tabN_getD hr.1, if_pos hh] at this
      exact absurd this (by decide)
  unfold ent
  rw [tabN_getD hr.1, if_neg (by rw [hP]; decide), row_getD hj]
  rfl
/-- what is decoded of shards of which two lack at most -/
theorem dec_back {l : List UInt8} (hl : l.length = 128) {P : Nat → Bool} (h8 : 8 ≤ (pidx (tabN 10 16 (encM l) P) 10).length) {D : Mx} (h : Solves (tabN 10 16 (encM l) P) D) : flat 8 16 D = l := by
  rw [encM_eq] at h h8
  rw [flat_congr (solves_unique h8 h (tabN_solves h8)), flat_part (by decide) (by rw [hl])]
def one128 : List UInt8 := row 128 (fun j => if j = 0 then 1 else 0)
theorem awk_8 : encM one128 8 0 = 173 := by decide +kernel
theorem awk_9 : encM one128 9 0 = 157 := by decide +kernel
end Go.Proofs.Ytdgkcgiknfjpjaa
