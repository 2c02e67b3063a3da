/- cat: the law CatGone. -/
import Derived.Test.YthboeoidgglcgaaCtZ
namespace Go.Proofs.Ythboeoidgglcgaa
set_option linter.unusedVariables false
set_option linter.unusedSimpArgs false
open Go Go.RowKit Go.Maps Go.Sort Go.Shelf Go.Proofs
theorem pick_nat (x : UInt8) (n : Nat) : (U x).tmod (n : Int) = ((x.toNat % n : Nat) : Int) := by
  show ((x.toNat : Nat) : Int).tmod (n : Int) = _
  rw [Int.ofNat_tmod]
theorem OND.note {E : List Ne} {A : Option Addr} {m c base : Nat} {w : World} (h : OND E (.slice A m c) base w) {i : Nat} (hi : i < m) : ∃ b q, A = some ⟨b, 0, none⟩ ∧ b < w.heap.size ∧ E[i]? = some q ∧ ∀ w', Gr w w' → w'.cell? ⟨b, i * 8, none⟩ = some (.int .i64 q.n.kind) ∧ w'.cell? ⟨b, i * 8 + 1, none⟩ = some (.string (bs q.n.key)) ∧ w'.cell? ⟨b, i * 8 + 2, none⟩ = some (.int .i64 q.n.gen) := by
  obtain ⟨b, e, hb, hc⟩ := h.cell (by omega)
  have hl : E.length = m := by
    obtain ⟨A', c', e, -⟩ := h.form
    injection e with _ e _
    exact e.symm
  obtain ⟨q, hq⟩ : ∃ q, E[i]? = some q := ⟨_, List.getElem?_eq_getElem (by omega)⟩
  exact ⟨b, q, e, hb, hq, fun w' hg => ⟨(cellGr hg (a := ⟨b, i * 8, none⟩) hb).trans (hc i q 0 _ hq (by omega) rfl), (cellGr hg (a := ⟨b, i * 8 + 1, none⟩) hb).trans (hc i q 1 _ hq (by omega) rfl), (cellGr hg (a := ⟨b, i * 8 + 2, none⟩) hb).trans (hc i q 2 _ hq (by omega) rfl)⟩⟩
theorem apply_put (lo g t : Nat) (x : CtX) (c : CtP) (w : World) (h : Hid (Ca w lo g x c t)) (ht : t ≤ 900) (hlo : lo ≤ w.heap.size) (k dl : By) (dA : Option Addr) (dn dc : Nat) (hdl : dl.length = dn) (hdc : dn ≤ dc) (hdm : dc ≤ maxLen) (hrd : Rd w w.heap.size dA dl) (hk : k.length ≤ maxLen) {z : Int} {c' : CtP} (hr : c.apply ⟨1, k, 0, 0, dl, [], 0, []⟩ = (z, c')) :
    Calls Try.prog 12 #[.pointer (some ⟨g, 0, none⟩), .agg #[.int .i64 1, .string (bs k), .int .i64 0, .int .i64 0, .slice dA dn dc, .string ⟨#[]⟩, .int .i64 0, .slice none 0 0]] w fun e w' => e = .returned (.int .i64 z) ∧ ∃ x', Hid (Ca w' lo g x' c' (t + 1)) ∧ Below lo w w' := by
  subst hdl
  have hv : NtV ⟨1, k, 0, 0, dl, [], 0, []⟩ (.agg #[.int .i64 1, .string (bs k), .int .i64 0, .int .i64 0, .slice dA dl.length dc, .string ⟨#[]⟩, .int .i64 0, .slice none 0 0]) w := ⟨dA, dc, none, 0, rfl, ⟨dA, dc, rfl, hdc, hdm, hrd⟩, Pls.nil_ w _ _ (Nat.zero_le _)⟩
  refine (apply_any lo g t x c w h ht hlo _ _ hk hv (by unfold I64; simp) (fun hh => absurd hh (by simp))).mono ?_
  intro e w' hpo
  have := hpo.low h.out hlo
  rw [hr] at this
  exact this
theorem tombs_last (T : List (By × Int)) (e : By × Int) : ((tombsN (T ++ [e])).map neN)[T.length]? = some (neN ⟨6, e.1, e.2, 0, [], [], 1, []⟩) := by unfold tombsN; simp
theorem nd_tombs (T : List (By × Int)) (base : Nat) (w : World) : ND ((tombsN T).map neN) base w := ND.neN (fun n hn => by unfold tombsN at hn; obtain ⟨e, -, rfl⟩ := List.mem_map.mp hn; exact ⟨rfl, rfl⟩) _ _
set_option maxRecDepth 20000 in
set_option maxHeartbeats 8000000 in
theorem catGone_any (L : List Nt) (v : Value) (d : UInt8) (bg : Bool) (dA : Option Addr) (dn dc : Nat) (dl : List UInt8) (hdl : dl.length = dn) (hdc : dn ≤ dc) (hdm : dc ≤ maxLen) (w : World) (h : NsV L v w) (hok : ∀ n ∈ L, n.Ok) (hrd : Rd w w.heap.size dA dl) :
    Calls Try.prog 6 #[v, .int .u8 (U d), .bool bg, .slice dA dn dc] w fun e w' => e = .returned (.bool true) ∧ Gr w w' := by
  have hmd := Lib.hid (made_any L v 40 40 rfl (by omega) w h hok)
  have hap := Lib.hid awake13_any
  obtain ⟨cP, hcP⟩ : ∃ cP, madeP L 40 = cP := ⟨_, rfl⟩
  rw [hcP] at hmd
  replace hcP := Lib.hid hcP
  obtain ⟨B0, hB0⟩ : ∃ B0, w.heap.size = B0 := ⟨_, rfl⟩
  rw [hB0] at hmd
  have hlow : Hid (∀ y, Gr w y → B0 ≤ y.heap.size) := Lib.hid (fun y hy => by rw [← hB0]; exact Below.size hy)
  have hgo : Hid (∀ y z, Gr w y → Below B0 y z → Gr w z) := Lib.hid (fun y z h1 h2 => by unfold Gr at h1 ⊢; rw [hB0] at h1 ⊢; exact h1.trans h2)
  have hpk := pick_nat d (keysP cP).length
  have hU1 : 0 ≤ U d ∧ U d < 256 := ⟨by unfold U; omega, by unfold U; have := d.toNat_lt; omega⟩
  generalize U d = zd at hpk hU1 ⊢
  have hcv : IntKind.i64.wrap zd = zd := by rw [IntKind.wrap_i64]; omega
  replace hU1 := Lib.hid hU1
  replace hB0 := Lib.hid hB0
  replace h := Lib.hid h
  replace hok := Lib.hid hok
  replace hdl := Lib.hid hdl
  replace hrd := Lib.hid hrd
  go_enter Try.func6, Try.ntmps6
  go_upto_region 3 with (first
    | (go_at_call 9; go_must (refine hmd.out.mono ?_); clear hmd; rintro e w2 ⟨g, x, rfl, hc2, hg2⟩; replace hg2 := Lib.hid hg2; have hky := Lib.hid (keys_any B0 g 40 x cP w2 hc2 (by omega)))
    | (go_at_call 17; go_must (refine hky.out.mono ?_); clear hky; rintro e w3 ⟨A3, c3, rfl, ho3, hg3⟩
       have hw3 : Hid (Gr w w3) := Lib.hid (hg2.out.trans hg3)
       have hc3 := Lib.hid (hc2.out.gr hg3)
       have hge := Lib.hid (cgen_any B0 g 40 x cP w3 hc3)
       obtain ⟨nk, hnk⟩ : ∃ m, (keysP cP).length = m := ⟨_, rfl⟩
       rw [hnk] at ho3 hpk ⊢
       replace ho3 := Lib.hid ho3
       replace hnk := Lib.hid hnk
       replace hg3 := Lib.hid hg3))
  obtain ⟨gG, hgG⟩ : ∃ z, cP.G = z := ⟨_, rfl⟩
  rw [hgG] at hge
  replace hgG := Lib.hid hgG
  have hgo2 : Hid (∀ y, Gr w3 y → Gr w y) := Lib.hid (fun y hy => hw3.out.trans hy)
  by_cases hk0 : nk = 0
  · subst hk0
    go_wp2_with (go_at_call 14; go_must (refine (hap.out _).mono ?_); clear hap; rintro e w6 ⟨rfl, hg6⟩)
    go_ret
    exact ⟨rfl, hgo2.out _ hg6⟩
  have hk0b : ((nk : Int) == 0) = false := by simpa using hk0
  have hnkl : nk ≤ 2000 := by rw [← hnk.out, keysP_len]; have h1 := hc3.out.few.1; have h2 := hc3.out.few.2.1; omega
  by_cases hG : (1099511627773 : Int) < gG
  · go_wp2_with (first
      | (go_at_call 15; go_must (refine hge.out.mono ?_); clear hge; rintro e w' ⟨rfl, hww⟩; rw [hww]; clear hww w')
      | (go_at_call 14; go_must (refine (hap.out _).mono ?_); clear hap; rintro e w6 ⟨rfl, hg6⟩))
    go_ret
    exact ⟨rfl, hgo2.out _ hg6⟩
  by_cases hd5 : (512 : Int) < (dn : Int)
  · go_wp2_with (first
      | (go_at_call 15; go_must (refine hge.out.mono ?_); clear hge; rintro e w' ⟨rfl, hww⟩; rw [hww]; clear hww w')
      | (go_at_call 14; go_must (refine (hap.out _).mono ?_); clear hap; rintro e w6 ⟨rfl, hg6⟩))
    go_ret
    exact ⟨rfl, hgo2.out _ hg6⟩
  obtain ⟨i0, hi0⟩ : ∃ i, d.toNat % nk = i := ⟨_, rfl⟩
  have hi0l : i0 < nk := by rw [← hi0]; exact Nat.mod_lt _ (by omega)
  rw [hi0] at hpk
  replace hi0 := Lib.hid hi0
  have hwr : IntKind.i64.wrap (i0 : Int) = (i0 : Int) := by rw [IntKind.wrap_i64]; omega
  have ii : (i0 : Int) < (nk : Int) := by omega
  obtain ⟨k, hk⟩ : ∃ k, (keysP cP)[i0]? = some k := ⟨_, List.getElem?_eq_getElem (by rw [hnk.out]; exact hi0l)⟩
  have hkh : Hid (cP.has k = true) := Lib.hid ((mem_keysP cP k).mp (List.mem_of_getElem? hk))
  obtain ⟨gk, rfl, -, -, hgk, hcell⟩ := OS.at_ ho3.out (by rw [hnk.out]; omega)
  have x0 := hcell i0 k hk
  have hko : Hid (keyOk k = true) := Lib.hid (has_key hc3.out.ok hkh.out)
  have hen := Lib.hid (entry_any B0 g 40 x cP w3 hc3 k (key_le hko.out))
  obtain ⟨eq, heq⟩ : ∃ q, entOf cP k = q := ⟨_, rfl⟩
  rw [heq] at hen
  replace heq := Lib.hid heq
  obtain ⟨np, hnp⟩ : ∃ m, eq.places.length = m := ⟨_, rfl⟩
  unfold Et.agg Et.v at hen
  simp only at hen
  rw [hnp] at hen
  replace hnp := Lib.hid hnp
  obtain ⟨wb0, hwb0⟩ : ∃ b, hasP cP.E k = b := ⟨_, rfl⟩
  rw [hwb0] at hen
  replace hwb0 := Lib.hid hwb0
  replace hk := Lib.hid hk
  clear hcell
  go_upto_region 8 with (first
    | (go_at_call 15; go_must (refine hge.out.mono ?_); clear hge; rintro e w' ⟨rfl, hww⟩; rw [hww]; clear hww w')
    | (go_at_call 21; go_must (refine hen.out.mono ?_); clear hen; rintro e w4 ⟨A4, c4, rfl, -, hg4⟩
       have hw4 : Hid (Gr w3 (w4.alloc (.cells #[.string (bs eq.key), .int .i64 eq.gen, .int .i64 eq.size, .string (bs eq.sum), .slice A4 np c4] 45))) := Lib.hid (hg4.trans (Gr.alloc _ _))
       have hc4 := Lib.hid (hc3.out.gr hw4.out)
       have hno := Lib.hid (notes_any B0 g 40 x cP _ hc4 (by omega))
       clear x0)
    | (go_at_call 11; go_must (refine hno.out.mono ?_); clear hno; rintro e w5 ⟨E5, A5, c5, rfl, hE5, ho5, hg5⟩
       have hw5 : Hid (Gr w w5) := Lib.hid (hgo2.out _ (hw4.out.trans hg5))
       have hc5 := Lib.hid (hc4.out.gr hg5)
       obtain ⟨m5, hm5⟩ : ∃ m, E5.length = m := ⟨_, rfl⟩
       rw [hm5] at ho5 ⊢
       replace ho5 := Lib.hid ho5
       replace hm5 := Lib.hid hm5
       replace hE5 := Lib.hid hE5
       replace hg5 := Lib.hid hg5))
  have hcT : Hid (∀ y, Gr w5 y → Ca y B0 g x cP 40) := Lib.hid (fun y hy => hc5.out.gr hy)
  go_wp2_with fail
  go_loopw [13, 15] (fun z13 z15 wr => ∃ (i : Nat) (wb : Bool), i ≤ m5 ∧ z13 = .bool wb ∧ z15 = .int .i64 i ∧ Hid (wb = (wb0 || ((E5.map (·.n)).take i).any (begN k))) ∧ Hid (Gr w5 wr)) (fun _ z _ => (m5 - intOf z).toNat)
  case atStart => exact ⟨0, wb0, Nat.zero_le _, rfl, rfl, Lib.hid (by simp), Lib.hid (Gr.refl _)⟩
  case round =>
    obtain ⟨i, wb, hi, rfl, rfl, hwb, hg⟩ := hrel
    have hm5l : Hid (m5 ≤ 10000) := Lib.hid (by
      have := congrArg List.length hE5.out
      rw [List.length_map, hm5.out] at this
      rw [this]
      unfold notesP tombsN
      simp only [List.length_append, List.length_map, sortZ_len]
      have := genP_len hc5.out.few
      obtain ⟨f1, f2, f3, f4, f5⟩ := hc5.out.few
      omega)
    by_cases hlt : i < m5
    · have iii : (i : Int) < (m5 : Int) := by omega
      have hm5' := hm5l.out
      obtain ⟨b, q, rfl, hb, hq, hcx⟩ := (ho5.out.gr hg.out).note hlt
      obtain ⟨y0, y1, -⟩ := hcx wr (Gr.refl _)
      have htk : Hid (((E5.map (·.n)).take (i + 1)).any (begN k) = (((E5.map (·.n)).take i).any (begN k) || begN k q.n)) := Lib.hid (by rw [List.take_add_one, List.getElem?_map, hq, List.any_append]; simp)
      clear hcx
      replace hq := Lib.hid hq
      obtain ⟨⟨qk, qy, qg, qc, qd, qu, qs, qp⟩, qA, qc1, qA2, qc2⟩ := q
      unfold begN at htk
      simp only at y0 y1 htk
      by_cases h4 : qk = 4
      · subst h4
        by_cases hy : qy = k
        · subst hy
          go_wp2_with fail
          go_roundw
          case rel => exact ⟨i + 1, true, by omega, rfl, by go_num, Lib.hid (by unfold begN; rw [htk.out]; simp), hg⟩
          case measure => simp [intOf]; omega
        · have hbb : (qy == k) = false := by simpa using hy
          go_wp2_with fail
          go_roundw
          case rel => exact ⟨i + 1, wb, by omega, rfl, by go_num, Lib.hid (by unfold begN; rw [htk.out]; rw [hbb]; have := hwb.out; unfold begN at this; rw [this]; simp), hg⟩
          case measure => simp [intOf]; omega
      · have h4b : (qk == 4) = false := by simpa using h4
        go_wp2_with fail
        go_roundw
        case rel => exact ⟨i + 1, wb, by omega, rfl, by go_num, Lib.hid (by unfold begN; rw [htk.out, h4b]; have := hwb.out; unfold begN at this; rw [this]; simp), hg⟩
        case measure => simp [intOf]; omega
    · obtain rfl : i = m5 := by omega
      have hwas : Hid (wb = true ↔ (hasP cP.E k = true ∨ hasP cP.B k = true)) := Lib.hid (by
        rw [hwb.out, List.take_of_length_le (by rw [List.length_map, hm5.out]; exact Nat.le_refl _), hE5.out, ← hwb0.out]
        exact wasP_iff hc5.out.ok hkh.out)
      have hcr := Lib.hid (hcT.out wr hg.out)
      have hwr5 : Hid (Gr w wr) := Lib.hid (hw5.out.trans hg.out)
      have hG0 : Hid (0 ≤ gG) := Lib.hid (by rw [← hgG.out]; exact hc5.out.ok.g0)
      clear hwb hg hc5 hcT hw4 hc4 hm5l
      cases bg with
      | true =>
        have hge5 := Lib.hid (cgen_any B0 g 40 x cP wr hcr)
        rw [hgG.out] at hge5
        have hga : IntKind.i64.wrap (gG + 1) = gG + 1 := by rw [IntKind.wrap_i64]; have := hG0.out; omega
        have hap4 := Lib.hid (apply_lit B0 g 40 x cP wr hcr (by omega) (hlow.out _ hwr5.out) ⟨4, k, gG + 1, 0, [], [], 0, []⟩ rfl rfl (key_le hko.out) (by unfold I64; simp) (show cP.apply ⟨4, k, gG + 1, 0, [], [], 0, []⟩ = (0, beg1 cP k) from by have := beg1_apply hcr.out.ok hkh.out (by rw [hgG.out]; omega); rw [hgG.out] at this; exact this))
        go_upto_region 17 with (first
          | (go_at_call 15; go_must (refine hge5.out.mono ?_); clear hge5; rintro e w' ⟨rfl, hww⟩; rw [hww]; clear hww w')
          | (go_at_call 12; go_must (refine hap4.out.mono ?_); clear hap4; rintro e w7 ⟨rfl, x7, hc7, hb7⟩; have hw7 : Hid (Gr w w7) := Lib.hid (hgo.out _ _ hwr5.out hb7)))
        obtain ⟨c7, hc7e⟩ : ∃ c7, beg1 cP k = c7 := ⟨_, rfl⟩
        have hwas7 : Hid (true = true ↔ (hasP c7.E k = true ∨ hasP c7.B k = true)) := Lib.hid (by rw [← hc7e]; exact ⟨fun _ => .inr (beg1_hasB cP k), fun _ => rfl⟩)
        have hk7 : Hid (c7.has k = true) := Lib.hid (by rw [← hc7e, beg1_has]; exact hkh.out)
        have hn7 : Hid ((keysP c7).length = nk) := Lib.hid (by rw [← hc7e, beg1_keys]; exact hnk.out)
        have hg7 : Hid (c7.G = gG + 1) := Lib.hid (by rw [← hc7e, ← hgG.out]; rfl)
        obtain ⟨g7, hg7'⟩ : ∃ z, gG + 1 = z := ⟨_, rfl⟩
        have hgb : Hid (0 ≤ g7 ∧ g7 ≤ 1099511627774) := Lib.hid (by have := hG0.out; omega)
        rw [hg7'] at hg7
        rw [hc7e] at hc7
        obtain ⟨wbz, hwbz⟩ : ∃ b, b = true := ⟨true, rfl⟩
        have hwas8 : Hid (wbz = true ↔ (hasP c7.E k = true ∨ hasP c7.B k = true)) := Lib.hid (by rw [hwbz]; exact hwas7.out)
        replace hg7' := Lib.hid hg7'
        replace hc7e := Lib.hid hc7e
        clear hwas hcr hga
        have hto := Lib.hid (tombs_any B0 g 41 x7 c7 w7 hc7 (by omega))
        obtain ⟨nT, hnT⟩ : ∃ m, (CtP.T c7).length = m := ⟨_, rfl⟩
        rw [hnT] at hto
        replace hnT := Lib.hid hnT
        have hnTl : Hid (nT ≤ 1000) := Lib.hid (by have h1 := hc7.out.few.2.2.2.1; rw [← hnT.out]; omega)
        obtain ⟨gn, hgn⟩ : ∃ z, g7 + 1 = z := ⟨_, rfl⟩
        have hga : IntKind.i64.wrap (g7 + 1) = gn := by rw [IntKind.wrap_i64]; have := hgb.out; omega
        have hgnE : Hid (CtP.G c7 + 1 = gn) := Lib.hid (by rw [hg7.out]; exact hgn)
        have hg1 : Hid ((gone1 c7 k).G = gn) := Lib.hid hgnE.out
        have hgle : Hid (CtP.G c7 ≤ 1099511627774) := Lib.hid (by rw [hg7.out]; exact hgb.out.2)
        replace hgn := Lib.hid hgn
        go_upto_region 19 with (first
          | (go_at_call 24; go_must (refine hto.out.mono ?_); clear hto; rintro e w8 ⟨A8, c8, rfl, -, hg8⟩
             have hw8 : Hid (Gr w w8) := Lib.hid (hw7.out.trans hg8)
             have hc8 := Lib.hid (hc7.out.gr hg8)
             have hge8 := Lib.hid (cgen_any B0 g 41 x7 c7 w8 hc8)
             rw [hg7.out] at hge8
             have hap3 := Lib.hid (apply_lit B0 g 41 x7 c7 w8 hc8 (by omega) (hlow.out _ hw8.out) ⟨3, k, gn, 0, [], [], 0, []⟩ rfl rfl (key_le hko.out) (by unfold I64; simp) (show CtP.apply c7 ⟨3, k, gn, 0, [], [], 0, []⟩ = (0, gone1 c7 k) from by rw [← hgnE.out]; exact gone1_apply hc8.out.ok hk7.out hgle.out)))
          | (go_at_call 15; go_must (refine hge8.out.mono ?_); clear hge8; rintro e w' ⟨rfl, hww⟩; rw [hww]; clear hww w'))
        clear hga
        obtain ⟨nk2, hnk2⟩ : ∃ m, (keysP (gone1 c7 k)).length = m := ⟨_, rfl⟩
        have hnk3 : nk2 + 1 = nk := by rw [← hnk2, ← hn7.out]; exact gone1_keys hc8.out.ok hk7.out
        have hsb : IntKind.i64.wrap ((nk : Int) - 1) = (nk2 : Int) := by rw [IntKind.wrap_i64]; omega
        replace hnk2 := Lib.hid hnk2
        replace hnk3 := Lib.hid hnk3
        go_upto_region 21 with (first
          | (go_at_call 12; go_must (refine hap3.out.mono ?_); clear hap3; rintro e w9 ⟨rfl, x9, hc9, hb9⟩
             have hw9 : Hid (Gr w w9) := Lib.hid (hgo.out _ _ hw8.out hb9)
             replace hb9 := Lib.hid hb9
             have hhs := Lib.hid (has_any B0 g 42 x9 _ w9 hc9 (by omega) k (key_le hko.out))
             rw [gone1_has] at hhs)
          | (go_at_call 22; go_must (refine hhs.out.mono ?_); clear hhs; rintro e w10 ⟨rfl, hg10⟩
             have hw10 : Hid (Gr w w10) := Lib.hid (hw9.out.trans hg10)
             have hc10 := Lib.hid (hc9.out.gr hg10)
             have hge10 := Lib.hid (cgen_any B0 g 42 x9 _ w10 hc10)
             rw [hg1.out] at hge10
             have hky2 := Lib.hid (keys_any B0 g 42 x9 _ w10 hc10 (by omega))
             rw [hnk2.out] at hky2)
          | (go_at_call 15; go_must (refine hge10.out.mono ?_); clear hge10; rintro e w' ⟨rfl, hww⟩; rw [hww]; clear hww w')
          | (go_at_call 17; go_must (refine hky2.out.mono ?_); clear hky2; rintro e w11 ⟨A11, c11, rfl, -, hg11⟩
             have hw11 : Hid (Gr w w11) := Lib.hid (hw10.out.trans hg11)
             have hc11 := Lib.hid (hc10.out.gr hg11)))
        clear hsb
        have hto2 := Lib.hid (tombs_any B0 g 42 x9 _ w11 hc11 (by omega))
        have hT2 : (gone1 c7 k).T = CtP.T c7 ++ [(k, gn)] := by rw [gone1_T (b := true) ⟨fun _ => by have := hwas7.out; simpa using this, fun _ => rfl⟩, if_pos rfl, hgnE.out]
        obtain ⟨m9, hm9⟩ : ∃ m, nT + 1 = m := ⟨_, rfl⟩
        rw [hT2, show (CtP.T c7 ++ [(k, gn)]).length = m9 from by rw [List.length_append, hnT.out, ← hm9]; rfl] at hto2
        have hadd : IntKind.i64.wrap ((nT : Int) + 1) = (m9 : Int) := by rw [IntKind.wrap_i64]; have := hnTl.out; omega
        have iT : (nT : Int) < (m9 : Int) := by omega
        replace hT2 := Lib.hid hT2
        replace hm9 := Lib.hid hm9
        go_upto_region 24 with (first
          | (go_at_call 24; go_must (refine hto2.out.mono ?_); clear hto2; rintro e w12 ⟨A12, c12, rfl, ho12, hg12⟩
             have hw12 : Hid (Gr w w12) := Lib.hid (hw11.out.trans hg12)
             have hc12 := Lib.hid (hc11.out.gr hg12)
             obtain ⟨bt, qt, rfl, hbt, hqt, hct⟩ := OND.note (i := nT) ⟨ho12, nd_tombs _ _ _⟩ (by rw [← hm9.out]; omega)
             have hqt' := tombs_last (CtP.T c7) (k, gn)
             rw [hnT.out] at hqt'
             rw [hqt'] at hqt
             injection hqt with hqt
             subst hqt
             obtain ⟨-, y1, y2⟩ := hct w12 (Gr.refl _)
             have y1 : w12.cell? ⟨bt, nT * 8 + 1, none⟩ = some (.string (bs k)) := y1
             have y2 : w12.cell? ⟨bt, nT * 8 + 2, none⟩ = some (.int .i64 gn) := y2
             clear hct))
        clear y1 y2 hadd iT
        have hrd12 : Rd w12 w12.heap.size dA dl := hrd.out.up hw12.out
        have happ := Lib.hid (apply_put B0 g 42 x9 _ w12 hc12 (by omega) (hlow.out _ hw12.out) k dl dA dn dc hdl.out hdc hdm hrd12 (key_le hko.out) (put1_apply (gone1_has _ k) hko.out (by rw [hdl.out]; omega)))
        have hpg := put1_get hc12.out.ok (gone1_has c7 k) dl
        obtain ⟨cZ, hcZ⟩ : ∃ cZ, put1 (gone1 c7 k) k dl = cZ := ⟨_, rfl⟩
        have hZW : Hid (cZ.W.map Prod.fst = (delP (CtP.W c7) k).map Prod.fst ++ [k]) := Lib.hid (by rw [← hcZ]; unfold put1 gone1; simp)
        rw [hcZ] at happ hpg
        replace hcZ := Lib.hid hcZ
        replace hrd12 := Lib.hid hrd12
        replace hpg := Lib.hid hpg
        go_upto_region 27 with (first
          | (go_at_call 12; go_must (refine happ.out.mono ?_); clear happ; rintro e w13 ⟨rfl, x13, hc13, hb13⟩
             have hw13 : Hid (Gr w w13) := Lib.hid (hgo.out _ _ hw12.out hb13)
             replace hb13 := Lib.hid hb13
             have hda := Lib.hid (data_any B0 g 43 x13 cZ w13 hc13 (by omega) k)
             rw [hpg.out.1, hpg.out.2, hdl.out] at hda)
          | (go_at_call 20; go_must (refine hda.out.mono ?_); clear hda; rintro e w14 ⟨A14, c14, rfl, hob14, hg14⟩
             have hw14 : Hid (Gr w w14) := Lib.hid (hw13.out.trans hg14)
             have hc14 := Lib.hid (hc13.out.gr hg14)
             replace hob14 := Lib.hid hob14
             replace hg14 := Lib.hid hg14
             have hsg := Lib.hid (staged_any B0 g 43 x13 cZ w14 hc14 (by omega)))
          | (go_at_call 18; go_must (refine hsg.out.mono ?_); clear hsg; rintro e w15 ⟨A15, c15, rfl, hos15, hg15⟩
             have hw15 : Hid (Gr w w15) := Lib.hid (hw14.out.trans hg15)
             have hxl : x13.W.length = (delP (CtP.W c7) k).length + 1 := (by
               have h1 := congrArg List.length hZW.out
               rw [List.length_map, List.length_append, List.length_map] at h1
               have h2 := congrArg List.length hc13.out.wc
               rw [List.length_map] at h2
               rw [← h2, h1]; rfl)
             obtain ⟨pW, hpW⟩ : ∃ m, (delP (CtP.W c7) k).length = m := ⟨_, rfl⟩
             obtain ⟨mW, hmW⟩ : ∃ m, x13.W.length = m := ⟨_, rfl⟩
             rw [hmW] at hos15 hxl ⊢
             rw [hpW] at hxl
             replace hxl := Lib.hid hxl
             replace hpW := Lib.hid hpW
             have hmWl : Hid (mW ≤ 1000) := Lib.hid (by
               have h2 := congrArg List.length hc13.out.wc
               rw [List.length_map, hmW] at h2
               have h3 := hc13.out.few.1
               omega)
             replace hmW := Lib.hid hmW
             rw [hZW.out] at hos15
             replace hos15 := Lib.hid hos15
             replace hg15 := Lib.hid hg15))
        have hs1 : IntKind.i64.wrap ((mW : Int) - 1) = (pW : Int) := by rw [IntKind.wrap_i64]; have := hmWl.out; have := hxl.out; omega
        have i1 : (pW : Int) < (mW : Int) := by have := hxl.out; omega
        have i2 : (0 : Int) < (mW : Int) := by have := hxl.out; omega
        go_wp2_with (first
          | (go_at_call 14; go_must (refine (hap.out _).mono ?_); clear hap; rintro e w16 ⟨rfl, hg16⟩
             have hw16 : Hid (Gr w w16) := Lib.hid (hw15.out.trans hg16)
             obtain ⟨gs, rfl, -, -, hgs, hcell⟩ := OS.at_ (OS.below hg16 hos15.out) (by rw [List.length_append]; simp)
             have y0 := hcell pW k (by rw [List.getElem?_append_right (by rw [List.length_map, hpW.out]; exact Nat.le_refl _), List.length_map, hpW.out, Nat.sub_self]; rfl)
             have hr1 := (OB.rd (row_below (row_below hob14.out hg15.out) hg16)).1
             have hcv1 := run_str_at (n := dn) c14 hr1 hdl.out
             have hr2 : Rd w16 w16.heap.size dA dl := hrd.out.up hw16.out
             have hcv2 := run_str_at (n := dn) dc hr2 hdl.out
             clear hcell))
        go_ret
        exact ⟨by first | rfl | simp, hw16.out⟩
      | false =>
        have hgb : Hid (0 ≤ gG ∧ gG ≤ 1099511627774) := Lib.hid (by have := hG0.out; omega)
        cases wb with
        | true =>
          have hto := Lib.hid (tombs_any B0 g 40 x cP wr hcr (by omega))
          obtain ⟨nT, hnT⟩ : ∃ m, (CtP.T cP).length = m := ⟨_, rfl⟩
          rw [hnT] at hto
          replace hnT := Lib.hid hnT
          have hnTl : Hid (nT ≤ 1000) := Lib.hid (by have h1 := hcr.out.few.2.2.2.1; rw [← hnT.out]; omega)
          obtain ⟨gn, hgn⟩ : ∃ z, gG + 1 = z := ⟨_, rfl⟩
          have hga : IntKind.i64.wrap (gG + 1) = gn := by rw [IntKind.wrap_i64]; have := hgb.out; omega
          have hgnE : Hid (CtP.G cP + 1 = gn) := Lib.hid (by rw [hgG.out]; exact hgn)
          have hg1 : Hid ((gone1 cP k).G = gn) := Lib.hid hgnE.out
          have hgle : Hid (CtP.G cP ≤ 1099511627774) := Lib.hid (by rw [hgG.out]; exact hgb.out.2)
          replace hgn := Lib.hid hgn
          go_upto_region 19 with (first
            | (go_at_call 24; go_must (refine hto.out.mono ?_); clear hto; rintro e w8 ⟨A8, c8, rfl, -, hg8⟩
               have hw8 : Hid (Gr w w8) := Lib.hid (hwr5.out.trans hg8)
               have hc8 := Lib.hid (hcr.out.gr hg8)
               have hge8 := Lib.hid (cgen_any B0 g 40 x cP w8 hc8)
               rw [hgG.out] at hge8
               have hap3 := Lib.hid (apply_lit B0 g 40 x cP w8 hc8 (by omega) (hlow.out _ hw8.out) ⟨3, k, gn, 0, [], [], 0, []⟩ rfl rfl (key_le hko.out) (by unfold I64; simp) (show CtP.apply cP ⟨3, k, gn, 0, [], [], 0, []⟩ = (0, gone1 cP k) from by rw [← hgnE.out]; exact gone1_apply hc8.out.ok hkh.out hgle.out)))
            | (go_at_call 15; go_must (refine hge8.out.mono ?_); clear hge8; rintro e w' ⟨rfl, hww⟩; rw [hww]; clear hww w'))
          clear hga
          obtain ⟨nk2, hnk2⟩ : ∃ m, (keysP (gone1 cP k)).length = m := ⟨_, rfl⟩
          have hnk3 : nk2 + 1 = nk := by rw [← hnk2, ← hnk.out]; exact gone1_keys hc8.out.ok hkh.out
          have hsb : IntKind.i64.wrap ((nk : Int) - 1) = (nk2 : Int) := by rw [IntKind.wrap_i64]; omega
          replace hnk2 := Lib.hid hnk2
          replace hnk3 := Lib.hid hnk3
          go_upto_region 21 with (first
            | (go_at_call 12; go_must (refine hap3.out.mono ?_); clear hap3; rintro e w9 ⟨rfl, x9, hc9, hb9⟩
               have hw9 : Hid (Gr w w9) := Lib.hid (hgo.out _ _ hw8.out hb9)
               replace hb9 := Lib.hid hb9
               have hhs := Lib.hid (has_any B0 g 41 x9 _ w9 hc9 (by omega) k (key_le hko.out))
               rw [gone1_has] at hhs)
            | (go_at_call 22; go_must (refine hhs.out.mono ?_); clear hhs; rintro e w10 ⟨rfl, hg10⟩
               have hw10 : Hid (Gr w w10) := Lib.hid (hw9.out.trans hg10)
               have hc10 := Lib.hid (hc9.out.gr hg10)
               have hge10 := Lib.hid (cgen_any B0 g 41 x9 _ w10 hc10)
               rw [hg1.out] at hge10
               have hky2 := Lib.hid (keys_any B0 g 41 x9 _ w10 hc10 (by omega))
               rw [hnk2.out] at hky2)
            | (go_at_call 15; go_must (refine hge10.out.mono ?_); clear hge10; rintro e w' ⟨rfl, hww⟩; rw [hww]; clear hww w')
            | (go_at_call 17; go_must (refine hky2.out.mono ?_); clear hky2; rintro e w11 ⟨A11, c11, rfl, -, hg11⟩
               have hw11 : Hid (Gr w w11) := Lib.hid (hw10.out.trans hg11)
               have hc11 := Lib.hid (hc10.out.gr hg11)))
          clear hsb
          have hto2 := Lib.hid (tombs_any B0 g 41 x9 _ w11 hc11 (by omega))
          have hT2 : (gone1 cP k).T = CtP.T cP ++ [(k, gn)] := by rw [gone1_T (b := true) ⟨fun _ => by have := hwas.out; simpa using this, fun _ => rfl⟩, if_pos rfl, hgnE.out]
          obtain ⟨m9, hm9⟩ : ∃ m, nT + 1 = m := ⟨_, rfl⟩
          rw [hT2, show (CtP.T cP ++ [(k, gn)]).length = m9 from by rw [List.length_append, hnT.out, ← hm9]; rfl] at hto2
          have hadd : IntKind.i64.wrap ((nT : Int) + 1) = (m9 : Int) := by rw [IntKind.wrap_i64]; have := hnTl.out; omega
          have iT : (nT : Int) < (m9 : Int) := by omega
          replace hT2 := Lib.hid hT2
          replace hm9 := Lib.hid hm9
          go_upto_region 24 with (first
            | (go_at_call 24; go_must (refine hto2.out.mono ?_); clear hto2; rintro e w12 ⟨A12, c12, rfl, ho12, hg12⟩
               have hw12 : Hid (Gr w w12) := Lib.hid (hw11.out.trans hg12)
               have hc12 := Lib.hid (hc11.out.gr hg12)
               obtain ⟨bt, qt, rfl, hbt, hqt, hct⟩ := OND.note (i := nT) ⟨ho12, nd_tombs _ _ _⟩ (by rw [← hm9.out]; omega)
               have hqt' := tombs_last (CtP.T cP) (k, gn)
               rw [hnT.out] at hqt'
               rw [hqt'] at hqt
               injection hqt with hqt
               subst hqt
               obtain ⟨-, y1, y2⟩ := hct w12 (Gr.refl _)
               have y1 : w12.cell? ⟨bt, nT * 8 + 1, none⟩ = some (.string (bs k)) := y1
               have y2 : w12.cell? ⟨bt, nT * 8 + 2, none⟩ = some (.int .i64 gn) := y2
               clear hct))
          clear y1 y2 hadd iT
          have hrd12 : Rd w12 w12.heap.size dA dl := hrd.out.up hw12.out
          have happ := Lib.hid (apply_put B0 g 41 x9 _ w12 hc12 (by omega) (hlow.out _ hw12.out) k dl dA dn dc hdl.out hdc hdm hrd12 (key_le hko.out) (put1_apply (gone1_has _ k) hko.out (by rw [hdl.out]; omega)))
          have hpg := put1_get hc12.out.ok (gone1_has cP k) dl
          obtain ⟨cZ, hcZ⟩ : ∃ cZ, put1 (gone1 cP k) k dl = cZ := ⟨_, rfl⟩
          have hZW : Hid (cZ.W.map Prod.fst = (delP (CtP.W cP) k).map Prod.fst ++ [k]) := Lib.hid (by rw [← hcZ]; unfold put1 gone1; simp)
          rw [hcZ] at happ hpg
          replace hcZ := Lib.hid hcZ
          replace hrd12 := Lib.hid hrd12
          replace hpg := Lib.hid hpg
          go_upto_region 27 with (first
            | (go_at_call 12; go_must (refine happ.out.mono ?_); clear happ; rintro e w13 ⟨rfl, x13, hc13, hb13⟩
               have hw13 : Hid (Gr w w13) := Lib.hid (hgo.out _ _ hw12.out hb13)
               replace hb13 := Lib.hid hb13
               have hda := Lib.hid (data_any B0 g 42 x13 cZ w13 hc13 (by omega) k)
               rw [hpg.out.1, hpg.out.2, hdl.out] at hda)
            | (go_at_call 20; go_must (refine hda.out.mono ?_); clear hda; rintro e w14 ⟨A14, c14, rfl, hob14, hg14⟩
               have hw14 : Hid (Gr w w14) := Lib.hid (hw13.out.trans hg14)
               have hc14 := Lib.hid (hc13.out.gr hg14)
               replace hob14 := Lib.hid hob14
               replace hg14 := Lib.hid hg14
               have hsg := Lib.hid (staged_any B0 g 42 x13 cZ w14 hc14 (by omega)))
            | (go_at_call 18; go_must (refine hsg.out.mono ?_); clear hsg; rintro e w15 ⟨A15, c15, rfl, hos15, hg15⟩
               have hw15 : Hid (Gr w w15) := Lib.hid (hw14.out.trans hg15)
               have hxl : x13.W.length = (delP (CtP.W cP) k).length + 1 := (by
                 have h1 := congrArg List.length hZW.out
                 rw [List.length_map, List.length_append, List.length_map] at h1
                 have h2 := congrArg List.length hc13.out.wc
                 rw [List.length_map] at h2
                 rw [← h2, h1]; rfl)
               obtain ⟨pW, hpW⟩ : ∃ m, (delP (CtP.W cP) k).length = m := ⟨_, rfl⟩
               obtain ⟨mW, hmW⟩ : ∃ m, x13.W.length = m := ⟨_, rfl⟩
               rw [hmW] at hos15 hxl ⊢
               rw [hpW] at hxl
               replace hxl := Lib.hid hxl
               replace hpW := Lib.hid hpW
               have hmWl : Hid (mW ≤ 1000) := Lib.hid (by
                 have h2 := congrArg List.length hc13.out.wc
                 rw [List.length_map, hmW] at h2
                 have h3 := hc13.out.few.1
                 omega)
               replace hmW := Lib.hid hmW
               rw [hZW.out] at hos15
               replace hos15 := Lib.hid hos15
               replace hg15 := Lib.hid hg15))
          have hs1 : IntKind.i64.wrap ((mW : Int) - 1) = (pW : Int) := by rw [IntKind.wrap_i64]; have := hmWl.out; have := hxl.out; omega
          have i1 : (pW : Int) < (mW : Int) := by have := hxl.out; omega
          have i2 : (0 : Int) < (mW : Int) := by have := hxl.out; omega
          go_wp2_with (first
            | (go_at_call 14; go_must (refine (hap.out _).mono ?_); clear hap; rintro e w16 ⟨rfl, hg16⟩
               have hw16 : Hid (Gr w w16) := Lib.hid (hw15.out.trans hg16)
               obtain ⟨gs, rfl, -, -, hgs, hcell⟩ := OS.at_ (OS.below hg16 hos15.out) (by rw [List.length_append]; simp)
               have y0 := hcell pW k (by rw [List.getElem?_append_right (by rw [List.length_map, hpW.out]; exact Nat.le_refl _), List.length_map, hpW.out, Nat.sub_self]; rfl)
               have hr1 := (OB.rd (row_below (row_below hob14.out hg15.out) hg16)).1
               have hcv1 := run_str_at (n := dn) c14 hr1 hdl.out
               have hr2 : Rd w16 w16.heap.size dA dl := hrd.out.up hw16.out
               have hcv2 := run_str_at (n := dn) dc hr2 hdl.out
               clear hcell))
          go_ret
          exact ⟨by first | rfl | simp, hw16.out⟩
        | false =>
          have hto := Lib.hid (tombs_any B0 g 40 x cP wr hcr (by omega))
          obtain ⟨nT, hnT⟩ : ∃ m, (CtP.T cP).length = m := ⟨_, rfl⟩
          rw [hnT] at hto
          replace hnT := Lib.hid hnT
          have hnTl : Hid (nT ≤ 1000) := Lib.hid (by have h1 := hcr.out.few.2.2.2.1; rw [← hnT.out]; omega)
          obtain ⟨gn, hgn⟩ : ∃ z, gG + 1 = z := ⟨_, rfl⟩
          have hga : IntKind.i64.wrap (gG + 1) = gn := by rw [IntKind.wrap_i64]; have := hgb.out; omega
          have hgnE : Hid (CtP.G cP + 1 = gn) := Lib.hid (by rw [hgG.out]; exact hgn)
          have hg1 : Hid ((gone1 cP k).G = gn) := Lib.hid hgnE.out
          have hgle : Hid (CtP.G cP ≤ 1099511627774) := Lib.hid (by rw [hgG.out]; exact hgb.out.2)
          replace hgn := Lib.hid hgn
          go_upto_region 19 with (first
            | (go_at_call 24; go_must (refine hto.out.mono ?_); clear hto; rintro e w8 ⟨A8, c8, rfl, -, hg8⟩
               have hw8 : Hid (Gr w w8) := Lib.hid (hwr5.out.trans hg8)
               have hc8 := Lib.hid (hcr.out.gr hg8)
               have hge8 := Lib.hid (cgen_any B0 g 40 x cP w8 hc8)
               rw [hgG.out] at hge8
               have hap3 := Lib.hid (apply_lit B0 g 40 x cP w8 hc8 (by omega) (hlow.out _ hw8.out) ⟨3, k, gn, 0, [], [], 0, []⟩ rfl rfl (key_le hko.out) (by unfold I64; simp) (show CtP.apply cP ⟨3, k, gn, 0, [], [], 0, []⟩ = (0, gone1 cP k) from by rw [← hgnE.out]; exact gone1_apply hc8.out.ok hkh.out hgle.out)))
            | (go_at_call 15; go_must (refine hge8.out.mono ?_); clear hge8; rintro e w' ⟨rfl, hww⟩; rw [hww]; clear hww w'))
          clear hga
          obtain ⟨nk2, hnk2⟩ : ∃ m, (keysP (gone1 cP k)).length = m := ⟨_, rfl⟩
          have hnk3 : nk2 + 1 = nk := by rw [← hnk2, ← hnk.out]; exact gone1_keys hc8.out.ok hkh.out
          have hsb : IntKind.i64.wrap ((nk : Int) - 1) = (nk2 : Int) := by rw [IntKind.wrap_i64]; omega
          replace hnk2 := Lib.hid hnk2
          replace hnk3 := Lib.hid hnk3
          go_upto_region 21 with (first
            | (go_at_call 12; go_must (refine hap3.out.mono ?_); clear hap3; rintro e w9 ⟨rfl, x9, hc9, hb9⟩
               have hw9 : Hid (Gr w w9) := Lib.hid (hgo.out _ _ hw8.out hb9)
               replace hb9 := Lib.hid hb9
               have hhs := Lib.hid (has_any B0 g 41 x9 _ w9 hc9 (by omega) k (key_le hko.out))
               rw [gone1_has] at hhs)
            | (go_at_call 22; go_must (refine hhs.out.mono ?_); clear hhs; rintro e w10 ⟨rfl, hg10⟩
               have hw10 : Hid (Gr w w10) := Lib.hid (hw9.out.trans hg10)
               have hc10 := Lib.hid (hc9.out.gr hg10)
               have hge10 := Lib.hid (cgen_any B0 g 41 x9 _ w10 hc10)
               rw [hg1.out] at hge10
               have hky2 := Lib.hid (keys_any B0 g 41 x9 _ w10 hc10 (by omega))
               rw [hnk2.out] at hky2)
            | (go_at_call 15; go_must (refine hge10.out.mono ?_); clear hge10; rintro e w' ⟨rfl, hww⟩; rw [hww]; clear hww w')
            | (go_at_call 17; go_must (refine hky2.out.mono ?_); clear hky2; rintro e w11 ⟨A11, c11, rfl, -, hg11⟩
               have hw11 : Hid (Gr w w11) := Lib.hid (hw10.out.trans hg11)
               have hc11 := Lib.hid (hc10.out.gr hg11)))
          clear hsb
          have hto2 := Lib.hid (tombs_any B0 g 41 x9 _ w11 hc11 (by omega))
          have hT2 : (gone1 cP k).T = CtP.T cP := by rw [gone1_T hwas.out, if_neg (by decide)]
          rw [hT2, hnT.out] at hto2
          replace hT2 := Lib.hid hT2
          go_upto_region 24 with (first
            | (go_at_call 24; go_must (refine hto2.out.mono ?_); clear hto2; rintro e w12 ⟨A12, c12, rfl, -, hg12⟩
               have hw12 : Hid (Gr w w12) := Lib.hid (hw11.out.trans hg12)
               have hc12 := Lib.hid (hc11.out.gr hg12)))
          have hrd12 : Rd w12 w12.heap.size dA dl := hrd.out.up hw12.out
          have happ := Lib.hid (apply_put B0 g 41 x9 _ w12 hc12 (by omega) (hlow.out _ hw12.out) k dl dA dn dc hdl.out hdc hdm hrd12 (key_le hko.out) (put1_apply (gone1_has _ k) hko.out (by rw [hdl.out]; omega)))
          have hpg := put1_get hc12.out.ok (gone1_has cP k) dl
          obtain ⟨cZ, hcZ⟩ : ∃ cZ, put1 (gone1 cP k) k dl = cZ := ⟨_, rfl⟩
          have hZW : Hid (cZ.W.map Prod.fst = (delP (CtP.W cP) k).map Prod.fst ++ [k]) := Lib.hid (by rw [← hcZ]; unfold put1 gone1; simp)
          rw [hcZ] at happ hpg
          replace hcZ := Lib.hid hcZ
          replace hrd12 := Lib.hid hrd12
          replace hpg := Lib.hid hpg
          go_upto_region 27 with (first
            | (go_at_call 12; go_must (refine happ.out.mono ?_); clear happ; rintro e w13 ⟨rfl, x13, hc13, hb13⟩
               have hw13 : Hid (Gr w w13) := Lib.hid (hgo.out _ _ hw12.out hb13)
               replace hb13 := Lib.hid hb13
               have hda := Lib.hid (data_any B0 g 42 x13 cZ w13 hc13 (by omega) k)
               rw [hpg.out.1, hpg.out.2, hdl.out] at hda)
            | (go_at_call 20; go_must (refine hda.out.mono ?_); clear hda; rintro e w14 ⟨A14, c14, rfl, hob14, hg14⟩
               have hw14 : Hid (Gr w w14) := Lib.hid (hw13.out.trans hg14)
               have hc14 := Lib.hid (hc13.out.gr hg14)
               replace hob14 := Lib.hid hob14
               replace hg14 := Lib.hid hg14
               have hsg := Lib.hid (staged_any B0 g 42 x13 cZ w14 hc14 (by omega)))
            | (go_at_call 18; go_must (refine hsg.out.mono ?_); clear hsg; rintro e w15 ⟨A15, c15, rfl, hos15, hg15⟩
               have hw15 : Hid (Gr w w15) := Lib.hid (hw14.out.trans hg15)
               have hxl : x13.W.length = (delP (CtP.W cP) k).length + 1 := (by
                 have h1 := congrArg List.length hZW.out
                 rw [List.length_map, List.length_append, List.length_map] at h1
                 have h2 := congrArg List.length hc13.out.wc
                 rw [List.length_map] at h2
                 rw [← h2, h1]; rfl)
               obtain ⟨pW, hpW⟩ : ∃ m, (delP (CtP.W cP) k).length = m := ⟨_, rfl⟩
               obtain ⟨mW, hmW⟩ : ∃ m, x13.W.length = m := ⟨_, rfl⟩
               rw [hmW] at hos15 hxl ⊢
               rw [hpW] at hxl
               replace hxl := Lib.hid hxl
               replace hpW := Lib.hid hpW
               have hmWl : Hid (mW ≤ 1000) := Lib.hid (by
                 have h2 := congrArg List.length hc13.out.wc
                 rw [List.length_map, hmW] at h2
                 have h3 := hc13.out.few.1
                 omega)
               replace hmW := Lib.hid hmW
               rw [hZW.out] at hos15
               replace hos15 := Lib.hid hos15
               replace hg15 := Lib.hid hg15))
          have hs1 : IntKind.i64.wrap ((mW : Int) - 1) = (pW : Int) := by rw [IntKind.wrap_i64]; have := hmWl.out; have := hxl.out; omega
          have i1 : (pW : Int) < (mW : Int) := by have := hxl.out; omega
          have i2 : (0 : Int) < (mW : Int) := by have := hxl.out; omega
          go_wp2_with (first
            | (go_at_call 14; go_must (refine (hap.out _).mono ?_); clear hap; rintro e w16 ⟨rfl, hg16⟩
               have hw16 : Hid (Gr w w16) := Lib.hid (hw15.out.trans hg16)
               obtain ⟨gs, rfl, -, -, hgs, hcell⟩ := OS.at_ (OS.below hg16 hos15.out) (by rw [List.length_append]; simp)
               have y0 := hcell pW k (by rw [List.getElem?_append_right (by rw [List.length_map, hpW.out]; exact Nat.le_refl _), List.length_map, hpW.out, Nat.sub_self]; rfl)
               have hr1 := (OB.rd (row_below (row_below hob14.out hg15.out) hg16)).1
               have hcv1 := run_str_at (n := dn) c14 hr1 hdl.out
               have hr2 : Rd w16 w16.heap.size dA dl := hrd.out.up hw16.out
               have hcv2 := run_str_at (n := dn) dc hr2 hdl.out
               clear hcell))
          go_ret
          exact ⟨by first | rfl | simp, hw16.out⟩
end Go.Proofs.Ythboeoidgglcgaa
