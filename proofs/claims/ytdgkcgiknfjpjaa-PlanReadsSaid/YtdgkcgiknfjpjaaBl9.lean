/- The law of blob: split and joined again. -/
import Derived.Test.YtdgkcgiknfjpjaaBl6
import Derived.Deep.CutBlock
namespace Go.Proofs.Ytdgkcgiknfjpjaa
set_option linter.unusedVariables false
set_option linter.unusedSimpArgs false
open Go Go.RowKit
theorem join_back {l : List UInt8} (h : l.length ≤ 512) : joinV (splD l) (l.length : Int) = l := by
  obtain ⟨hg, h1, h4, hn⟩ := ngrp_spec h
  unfold joinV splD
  refine List.ext_getElem? (fun i => ?_)
  by_cases hi : i < l.length
  · rw [row_get (by simpa using hi), ent_tabM (by omega) (by omega)]
    unfold partM
    rw [show i / 128 * 128 + i % 128 = i from by omega]
    unfold padD
    rw [List.getD_eq_getElem?_getD, List.getElem?_append_left hi, List.getElem?_eq_getElem hi]
    rfl
  · rw [List.getElem?_eq_none (by rw [row_length]; simp; omega), List.getElem?_eq_none (by omega)]
theorem join_no {L : List (List UInt8)} {z : Int} (h : (L.length : Int) ≠ groupsOf z) : joinOk L z = false := by
  unfold joinOk
  rw [decide_eq_false h]
  simp
theorem Tbl.drop1 {L : List (List UInt8)} {b o q c : Nat} {w : World} (h : Tbl L (.slice (some ⟨b, o, none⟩) q c) w) (hq : 1 ≤ q) : Tbl (L.drop 1) (.slice (some ⟨b, o + 1, none⟩) (q - 1) (c - 1)) w := by
  obtain ⟨A, c', e, h1, h2, h3⟩ := h
  injection e with e1 e2 e3
  subst e1
  subst e3
  refine ⟨_, c - 1, by rw [List.length_drop, ← e2], by rw [List.length_drop]; omega, by omega, rfl, fun hn => ?_⟩
  rw [List.length_drop] at hn
  obtain ⟨b', o', e, hb, hr⟩ := h3.2 (by omega)
  injection e with e
  injection e with e1 e2' _
  subst e1
  subst e2'
  refine ⟨b, o + 1, rfl, hb, fun i l hl => ?_⟩
  rw [List.getElem?_drop] at hl
  obtain ⟨A', c', k1, k2, k3, k4⟩ := hr (1 + i) l hl
  exact ⟨A', c', by rw [show o + 1 + i = o + (1 + i) from by omega]; exact k1, k2, k3, k4⟩
set_option maxRecDepth 4000 in
theorem wpl_append_tbl {w : World} {ops : Array Oper} {rest : List Oper} {o : Oper} {a : Act} {Q : Exit → Act → World → Prop} (hgd : o.guard = none) (s x : Operand)
    (ho : o.op = .call { callee := .builtin .append, args := #[s, x], argTypes := #[27, 27] })
    (base : Nat) (v : Value) (L : List (List UInt8)) (hs : a.eval s = v) (hat : AT w base v L) (Ax : Option Addr) (m cx : Nat) (L2 : List (List UInt8)) (hx : a.eval x = .slice Ax m cx) (hT : RT w base Ax m L2)
    (hlen : L.length + m ≤ 1000000) (hbase : base ≤ w.heap.size)
    (h : ∀ v' w', AT w' base v' (L ++ L2) → w.grownBy w' v.ownBlock → wpList Try.prog ops Q rest (a.put o.dst v') w') : wpList Try.prog ops Q (o :: rest) a w := by
  obtain ⟨i0, hi, hz0, hz1, hz2⟩ := info_parts info_bb
  have hat' := hat
  obtain ⟨rows, h1, h2, h3⟩ := hat'
  have hnews : ∃ news : List Value, news.length = m ∧ Reads w base 1 Ax m news ∧ ∀ (i : Nat) (l : List UInt8), L2[i]? = some l → ∃ A c, news[i]? = some (.slice A l.length c) ∧ RowOk w base A c l := by
    by_cases hm : 0 < m
    · obtain ⟨b, o', rfl, hb, hr⟩ := hT.2 hm
      refine ⟨(List.range m).map (fun i => (w.cell? ⟨b, o' + i, none⟩).getD (.int .i64 0)), by simp, ⟨by simp, fun _ => ⟨_, rfl, hb, fun j u hu => ?_⟩⟩, fun i l hl => ?_⟩
      · have hj : j < m := by have := (List.getElem?_eq_some_iff.mp hu).1; simpa using this
        rw [List.getElem?_map, List.getElem?_range hj] at hu
        simp only [Option.map_some, Option.some.injEq] at hu
        have hl : j < L2.length := by rw [hT.1]; exact hj
        obtain ⟨A', c', k1, -⟩ := hr j L2[j] (List.getElem?_eq_getElem hl)
        have ea : (⟨b, o', none⟩ : Addr).add j = ⟨b, o' + j, none⟩ := by unfold Addr.add; split <;> simp_all
        rw [ea, k1, ← hu, k1]
        rfl
      · obtain ⟨A', c', k1, k2, k3, k4⟩ := hr i l hl
        have hi2 : i < m := by rw [← hT.1]; exact (List.getElem?_eq_some_iff.mp hl).1
        refine ⟨A', c', ?_, .inr ⟨k4, k2, k3⟩⟩
        rw [List.getElem?_map, List.getElem?_range hi2]
        simp only [Option.map_some, k1]
        rfl
    · obtain rfl : m = 0 := by omega
      refine ⟨[], rfl, ⟨rfl, fun h => absurd h (by omega)⟩, fun i l hl => ?_⟩
      have := (List.getElem?_eq_some_iff.mp hl).1
      rw [hT.1] at this
      omega
  obtain ⟨news, n1, n2, n3⟩ := hnews
  have hone : ∀ u ∈ news, u.oneCell' = true := fun u hu => by
    obtain ⟨i, hi'⟩ := List.getElem?_of_mem hu
    have hl : i < L2.length := by rw [hT.1, ← n1]; exact (List.getElem?_eq_some_iff.mp hi').1
    obtain ⟨A, c, e, -⟩ := n3 i L2[i] (List.getElem?_eq_getElem hl)
    rw [hi'] at e
    injection e with e
    rw [e]
    rfl
  refine wpList_plain hgd fun _ hK => wp_append_any w s x 27 ho base 22 i0 _ 1 24 Try.underlying27 hi hz0 hz1 hz2 rfl (by omega) v L.length rows hs h1 base Ax m cx news hx n2 hone
    (by simp only [maxLen]; omega) (by omega) hbase fun v' w' q1 q2 q3 => hK _ _ (h v' w' ?_ q2)
  refine ⟨rows ++ news, by rw [List.length_append, hT.1]; exact q1, by simp [h2, n1, hT.1], fun i l' hl => ?_⟩
  by_cases hi2 : i < L.length
  · rw [List.getElem?_append_left hi2] at hl
    obtain ⟨A', c', h4, h5⟩ := h3 i l' hl
    exact ⟨A', c', by rw [List.getElem?_append_left (by omega)]; exact h4, h5.grown h1 q2 hbase⟩
  · rw [List.getElem?_append_right (by omega)] at hl
    obtain ⟨A', c', h4, h5⟩ := n3 _ l' hl
    exact ⟨A', c', by rw [List.getElem?_append_right (by omega), h2]; exact h4, h5.grown h1 q2 hbase⟩
theorem hb6l_ {w w' : World} {B : Nat} {v : Value} {L : List (List UInt8)} (hg : w.grownBy w' v.ownBlock) (hs : B ≤ w.heap.size) (h : AT w B v L) : Below B w w' := (Below.refl B w).grown hg hs h.up
set_option maxHeartbeats 4000000 in
set_option maxRecDepth 20000 in
theorem blobBack_any (A : Option Addr) (n c : Nat) (l : List UInt8) (hn : l.length = n) (hnc : n ≤ c) (hcm : c ≤ maxLen) (x : UInt8) (w : World) (hr : Rd w w.heap.size A l) :
    Calls Try.prog 6 #[.slice A n c, .int .u8 (U x)] w fun e w' => e = .returned (.bool true) ∧ Gr w w' := by
  have hsh := Lib.hid (short18_any A n c l 512 (by decide) (by decide) (Lib.hid hn) hnc (by simp only [maxLen] at hcm; omega) w (Lib.hid hr))
  have hl6 : (l.take 512).length ≤ 512 := by rw [List.length_take]; omega
  obtain ⟨d, hd⟩ : ∃ d, l.take 512 = d := ⟨_, rfl⟩
  rw [hd] at hsh hl6
  replace hd := Lib.hid hd
  clear hn hnc hcm hr
  go_enter Try.func6, Try.ntmps6
  go_wp2_with fail
  refine hsh.out.mono ?_
  clear hsh
  rintro e w1 ⟨A1, n1, c1, rfl, ho1, hn1, hg1⟩
  have hjo := join_spl hl6
  have hjv := join_back hl6
  rw [hn1.out] at hl6 hjo hjv
  obtain ⟨hgq, hq1, hq4, hqn⟩ := ngrp_spec hl6
  have hsl : (splD d).length = ngrp n1 := by unfold splD; rw [tabM_length, hn1.out]
  obtain ⟨q, hq⟩ : ∃ q, ngrp n1 = q := ⟨_, rfl⟩
  rw [hq] at hgq hq1 hq4 hqn hsl
  have hs := Lib.hid (bsplit_any A1 n1 c1 d hn1.out hl6 w1 ho1.out.rd.1)
  replace hg1 := Lib.hid hg1
  replace hq := Lib.hid hq
  replace hgq := Lib.hid hgq
  replace hjo := Lib.hid hjo
  replace hjv := Lib.hid hjv
  replace hsl := Lib.hid hsl
  go_wp2_with fail
  refine hs.out.mono ?_
  clear hs
  rintro e w2 ⟨u, rfl, hT, hg2⟩
  have ho2 : Hid (OB w2 w.heap.size (.slice A1 n1 c1) d) := Lib.hid (row_below ho1.out hg2)
  obtain ⟨Au, cu, rfl, a1, a2, a3⟩ := hT
  rw [hsl.out] at a1 a3 ⊢
  obtain ⟨bu, ou, rfl, hbu, -⟩ := a3.2 (by omega)
  have hT : Tbl (splD d) (.slice (some ⟨bu, ou, none⟩) q cu) w2 := ⟨_, cu, by rw [hsl.out], by rw [hsl.out]; exact a1, a2, by rw [hsl.out]; exact a3⟩
  have hj := Lib.hid (join_any (L := splD d) (n1 : Int) ⟨by omega, by omega⟩ w2 (Lib.hid hT))
  have hcq : q ≤ cu := a1
  replace hT := Lib.hid hT
  replace hg2 := Lib.hid (hg1.out.trans hg2)
  clear a1 a2 a3 ho1 hg1
  go_wp2_with fail
  refine hj.out.mono ?_
  clear hj
  rintro e w3 hp
  rcases hp with ⟨-, A3, n3, c3, rfl, -, ho3, hg3⟩ | ⟨hf, -⟩
  case inr => rw [hjo.out] at hf; cases hf
  rw [hjv.out] at ho3
  have hd2 : Hid (OB w3 w.heap.size (.slice A1 n1 c1) d) := Lib.hid (row_below ho2.out hg3)
  have cv1 := run_str_at c3 ho3.out.rd.1 ho3.out.len_
  have cv2 := run_str_at c1 hd2.out.rd.1 hd2.out.len_
  have hbg := bgroups_any (n1 : Int) ⟨by omega, by omega⟩ w3
  rw [hgq.out] at hbg
  have hT3 := Tbl.gr hg3 hT
  replace hbg := Lib.hid hbg
  replace hg3 := Lib.hid (hg2.out.trans hg3)
  have hqz : ((q : Int) == 0) = false := beq_eq_false_iff_ne.mpr (by omega)
  clear hg2 hT ho2 ho3
  go_wp2_with fail
  refine hbg.out.mono ?_
  clear hbg
  rintro e wx ⟨rfl, hwx⟩
  rw [hwx]
  clear hwx cv1 cv2
  have i1 : 1 ≤ q := hq1
  have i2 : (1 : Int) ≤ (q : Int) := by omega
  go_upto_region 6 with (fail)
  go_cut [10] from 46 to 53 (fun v wx => v = .bool false ∧ Hid (Gr w3 wx))
  case first =>
    have hlen : (((splD d).drop 1).length : Int) ≠ groupsOf (n1 : Int) := by rw [List.length_drop, hsl.out, hgq.out]; omega
    have hjn := Lib.hid (join_no hlen)
    clear hlen
    by_cases hcu : cu = 1
    · subst hcu
      have hT1 : Tbl ((splD d).drop 1) (.slice (some ⟨bu, ou, none⟩) 0 0) w3 := by
        have e : (splD d).drop 1 = [] := List.drop_eq_nil_of_le (by rw [hsl.out]; omega)
        rw [e]
        exact ⟨_, 0, rfl, Nat.le_refl _, Nat.zero_le _, rfl, fun hn => absurd hn (by simp)⟩
      have hj := Lib.hid (join_any (L := (splD d).drop 1) (n1 : Int) ⟨by omega, by omega⟩ w3 (Lib.hid hT1))
      clear hT1
      go_wp2_with fail
      refine hj.out.mono ?_
      clear hj
      rintro e w4 hp
      rcases hp with ⟨hf, -⟩ | ⟨-, rfl, hg4⟩
      case inl => rw [hjn.out] at hf; cases hf
      replace hg4 := Lib.hid hg4
      go_wp2_with fail
      go_meet
      case rel => exact ⟨rfl, hg4⟩
    · have hj := Lib.hid (join_any (L := (splD d).drop 1) (n1 : Int) ⟨by omega, by omega⟩ w3 (Lib.hid (hT3.out.drop1 i1)))
      go_wp2_with fail
      refine hj.out.mono ?_
      clear hj
      rintro e w4 hp
      rcases hp with ⟨hf, -⟩ | ⟨-, rfl, hg4⟩
      case inl => rw [hjn.out] at hf; cases hf
      replace hg4 := Lib.hid hg4
      go_wp2_with fail
      go_meet
      case rel => exact ⟨rfl, hg4⟩
  case rest =>
    obtain ⟨rfl, hgc⟩ := hcut
    have hT4 := Tbl.gr hgc.out hT3
    replace hg3 := Lib.hid (hg3.out.trans hgc.out)
    clear hT3 hgc
    obtain ⟨B, hB⟩ : ∃ B, wc.heap.size = B := ⟨_, rfl⟩
    have hRT : RT wc B (some ⟨bu, ou, none⟩) q (splD d) := by
      obtain ⟨A', c', e, -, -, h3⟩ := hT4.out
      injection e with e1 _ _
      subst e1
      rw [hsl.out, hB] at h3
      exact h3
    have hga := alloc_grB wc (.cells #[] 22)
    have hat0 := AT.empty wc B (by omega)
    have hRT0 := hRT.low (by have h := hga; unfold Gr at h; rw [hB] at h; exact h)
    have hb0 : Below B wc (wc.alloc (.cells #[] 22)) := by have h := hga; unfold Gr at h; rw [hB] at h; exact h
    have hsz0 := hb0.size
    rw [hB] at hsz0
    replace hat0 := Lib.hid hat0
    replace hRT0 := Lib.hid hRT0
    replace hb0 := Lib.hid hb0
    replace hB := Lib.hid hB
    clear hga hRT hT4
    have hlen2 : Hid ((((splD d) ++ (splD d)).length : Int) ≠ groupsOf (n1 : Int)) := Lib.hid (by rw [List.length_append, hsl.out, hgq.out]; omega)
    go_wp2_with (at_builtin; first
      | (refine wpl_append_tbl rfl (.tmp 55) (.tmp 56) rfl B (.slice (some ⟨wc.heap.size, 0, none⟩) 0 0) [] rfl hat0.out (some ⟨bu, ou, none⟩) q cu (splD d) rfl hRT0.out (by simp; omega) hsz0 ?_; intro v6 w6 hat6 hg6; have hb6 := Lib.hid (hb0.out.grown hg6 hsz0 hat0.out.up); have hRT6 := Lib.hid (hRT0.out.low (hb6l_ hg6 hsz0 hat0.out)); rw [List.nil_append] at hat6; obtain ⟨A6, c6, rfl, -, -, -⟩ := hat6.form (Nat.le_trans hsz0 hg6.size); rw [hsl.out] at hat6 ⊢; have hsz6 := Nat.le_trans hsz0 hg6.size; replace hat6 := Lib.hid hat6; clear hg6)
      | (refine wpl_append_tbl rfl (.tmp 57) (.tmp 58) rfl B (.slice A6 q c6) (splD d) rfl hat6.out (some ⟨bu, ou, none⟩) q cu (splD d) rfl hRT6.out (by rw [hsl.out]; omega) hsz6 ?_; intro v7 w7 hat7 hg7; have hb7 := Lib.hid (hb6.out.grown hg7 hsz6 hat6.out.up); have hsz7 := Nat.le_trans hsz6 hg7.size; obtain ⟨A7, c7, rfl, k1, k2, k3⟩ := hat7.form hsz7; have hT7 := Lib.hid (show Tbl ((splD d) ++ (splD d)) (.slice A7 ((splD d) ++ (splD d)).length c7) w7 from ⟨A7, c7, rfl, k1, k2, k3⟩); clear hg7 hat7 k1 k2 k3))
    have hT8 : Tbl ((splD d) ++ (splD d)) (.slice A7 ((splD d).length + (splD d).length) c7) w7 := by
      have h := hT7.out
      rw [List.length_append] at h
      exact h
    have hj := Lib.hid (join_any (L := (splD d) ++ (splD d)) (n1 : Int) ⟨by omega, by omega⟩ w7 (Lib.hid hT8))
    have hg7 : Hid (Gr w w7) := Lib.hid (hg3.out.trans (by unfold Gr; rw [hB.out]; exact hb7.out))
    have hjn := Lib.hid (join_no hlen2.out)
    clear hT7 hT8 hb7 hb6 hb0 hat0 hat6 hRT0 hRT6 hg3
    refine hj.out.mono ?_
    clear hj
    rintro e w8 hp
    rcases hp with ⟨hf, -⟩ | ⟨-, rfl, hg8⟩
    case inl => rw [hjn.out] at hf; cases hf
    replace hg8 := Lib.hid (hg7.out.trans hg8)
    clear hg7
    go_wp2_with fail
    refine (awake18_any _).mono ?_
    rintro e w9 ⟨rfl, hg9⟩
    replace hg9 := Lib.hid (hg8.out.trans hg9)
    clear hg8
    go_wp2_with fail
    go_ret
    exact ⟨rfl, hg9.out⟩
end Go.Proofs.Ytdgkcgiknfjpjaa
