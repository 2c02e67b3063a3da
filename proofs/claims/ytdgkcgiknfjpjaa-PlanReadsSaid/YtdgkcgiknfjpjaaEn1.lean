/- plan: an entry of a blob that is placed, and its shards. -/
import Derived.Test.YtdgkcgiknfjpjaaEns
import Derived.Deep.CutBlock
import Derived.Deep.DeepCutAuto
namespace Go.Proofs.Ytdgkcgiknfjpjaa
set_option linter.unusedVariables false
set_option linter.unusedSimpArgs false
open Go Go.RowKit
def rowsE (E : List Re) : List Value := E.map (fun x => .slice x.A x.r.data.length x.c)
def EntPost (p : Rp) (m : Nat) (w : World) (e : Ending) (w' : World) : Prop := Gr w w' ∧ ∃ (PA : Option Addr) (pc : Nat) (lv sv : Value) (E : List Re), e = .returned (.tuple #[.agg #[.string (bs p.key), .int .i64 p.gen, .int .i64 p.l.length, .string (bs (dg p.l)), .slice PA m pc], lv, sv]) ∧ m ≤ pc ∧ pc ≤ maxLen ∧ E.map (·.r) = recsP p ∧ (∀ x ∈ E, ReV x w') ∧ w'.ownsRow w.heap.size 22 1 sv m (rowsE E)
theorem info_place2 : (Try.prog.info? 98).map (fun i => (i.zero, i.size, i.bytes)) = some (some (.agg #[.int .i64 0, .int .i64 0]), 2, 16) := by kernel_rfl
theorem wpl_append_pl {w : World} {ops : Array Oper} {rest : List Oper} {o : Oper} {a : Act} {Q : Exit → Act → World → Prop} (hgd : o.guard = none) (s x : Operand)
    (ho : o.op = .call { callee := .builtin .append, args := #[s, x], argTypes := #[53, 53] })
    (base : Nat) (v : Value) (n : Nat) (xs : List Value) (hs : a.eval s = v) (hown : w.ownsRow base 98 2 v n xs) (A : Option Addr) (c : Nat) (y1 y2 : Int) (hx : a.eval x = .slice A 1 c) (hr : Reads w w.heap.size 2 A 1 [.int .i64 y1, .int .i64 y2])
    (hlen : n ≤ 1000000) (hbase : base ≤ w.heap.size)
    (h : ∀ v' w', w'.ownsRow base 98 2 v' (n + 1) (xs ++ [.int .i64 y1, .int .i64 y2]) → w.grownBy w' v.ownBlock → wpList Try.prog ops Q rest (a.put o.dst v') w') : wpList Try.prog ops Q (o :: rest) a w := by
  obtain ⟨i0, hi, hz0, hz1, hz2⟩ := info_parts info_place2
  exact wpList_plain hgd fun _ hK => wp_append_any w s x 53 ho base 98 i0 _ 2 16 Try.underlying53 hi hz0 hz1 hz2 rfl (by omega) v n xs hs hown w.heap.size A 1 c [.int .i64 y1, .int .i64 y2] hx hr (by simp [Value.oneCell'])
    (by simp only [maxLen]; omega) (by omega) hbase fun v' w' h2 h3 h4 => hK _ _ (h v' w' h2 h3)
theorem wpl_append_bb {w : World} {ops : Array Oper} {rest : List Oper} {o : Oper} {a : Act} {Q : Exit → Act → World → Prop} (hgd : o.guard = none) (s x : Operand)
    (ho : o.op = .call { callee := .builtin .append, args := #[s, x], argTypes := #[27, 27] })
    (base : Nat) (v : Value) (n : Nat) (xs : List Value) (hs : a.eval s = v) (hown : w.ownsRow base 22 1 v n xs) (A : Option Addr) (c : Nat) (A1 : Option Addr) (n1 c1 : Nat) (hx : a.eval x = .slice A 1 c) (hr : Reads w w.heap.size 1 A 1 [.slice A1 n1 c1])
    (hlen : n ≤ 1000000) (hbase : base ≤ w.heap.size)
    (h : ∀ v' w', w'.ownsRow base 22 1 v' (n + 1) (xs ++ [.slice A1 n1 c1]) → w.grownBy w' v.ownBlock → wpList Try.prog ops Q rest (a.put o.dst v') w') : wpList Try.prog ops Q (o :: rest) a w := by
  obtain ⟨i0, hi, hz0, hz1, hz2⟩ := info_parts info_bb
  exact wpList_plain hgd fun _ hK => wp_append_any w s x 27 ho base 22 i0 _ 1 24 Try.underlying27 hi hz0 hz1 hz2 rfl (by omega) v n xs hs hown w.heap.size A 1 c [.slice A1 n1 c1] hx hr (by simp [Value.oneCell'])
    (by simp only [maxLen]; omega) (by omega) hbase fun v' w' h2 h3 h4 => hK _ _ (h v' w' h2 h3)
theorem OR.room2 {E : List Re} {A0 : Option Addr} {n0 c0 base : Nat} {w : World} (h : OR E (.slice A0 n0 c0) base w) {i : Nat} (hi : i < E.length) : ∃ (b o : Nat) (x : Re), A0 = some ⟨b, o, none⟩ ∧ b < w.heap.size ∧
    E[i]? = some x ∧ ∀ w', Gr w w' → ∀ (j : Nat) (u : Value), x.cells[j]? = some u → w'.cell? ⟨b, o + i * 10 + j, none⟩ = some u := by
  obtain ⟨g, c, e, -, -, -, hb, -, -, hc, -⟩ := row_at h.row (by omega)
  injection e with e1 e2 e3
  subst e1
  have hx := List.getElem?_eq_getElem hi
  refine ⟨g, 0, E[i], rfl, hb, hx, fun w' hw' j u hu => ?_⟩
  have hj : j < 10 := (List.getElem?_eq_some_iff.mp hu).1
  have := (Below.cell hw' (p := ⟨g, i * 10 + j, none⟩) hb).trans (hc (i * 10 + j) u (by rw [flatRe_at hx j hj]; exact hu))
  rw [Nat.zero_add]
  exact this
/-- the table of the shards -/
theorem tbl_rows {E : List Re} {sv : Value} {base : Nat} {w : World} (h : w.ownsRow base 22 1 sv E.length (rowsE E)) (hv : ∀ x ∈ E, ReV x w) : Tbl (E.map (·.r.data)) sv w := by
  by_cases hn : 0 < E.length
  · obtain ⟨g, c, rfl, h4, h5, h6, h7, -, -, h8, -⟩ := row_at h hn
    refine ⟨_, c, by rw [List.length_map], by rw [List.length_map]; exact h4, h5, by rw [List.length_map], fun _ => ⟨g, 0, rfl, h7, fun i l hl => ?_⟩⟩
    rw [List.getElem?_map] at hl
    obtain ⟨x, hx, hxl⟩ := Option.map_eq_some_iff.mp hl
    obtain ⟨k1, k2, k3⟩ := hv x (List.mem_of_getElem? hx)
    refine ⟨x.A, x.c, by rw [Nat.zero_add]; exact h8 i _ (by unfold rowsE; rw [List.getElem?_map, hx, ← hxl]; rfl), by rw [← hxl]; exact k1, k2, by rw [← hxl]; exact k3⟩
  · obtain ⟨A, c, e, h4, h5⟩ := row_form h
    exact ⟨A, c, by rw [List.length_map]; exact e, by rw [List.length_map]; exact h4, h5, by rw [List.length_map], fun h => absurd h (by rw [List.length_map]; exact hn)⟩
theorem reads_place (w : World) (y1 y2 : Int) : Reads (w.alloc (.cells #[.int .i64 y1, .int .i64 y2] 98)) (w.alloc (.cells #[.int .i64 y1, .int .i64 y2] 98)).heap.size 2 (some ⟨w.heap.size, 0, none⟩) 1 [.int .i64 y1, .int .i64 y2] :=
  ⟨rfl, fun _ => ⟨_, rfl, by simp, fun j u hu => by
    rw [addr0R]
    exact cell_newR w _ _ (by simpa using hu)⟩⟩
set_option maxHeartbeats 8000000 in
set_option maxRecDepth 20000 in
theorem entry_any (A : Option Addr) (n c : Nat) (d : List UInt8) (hd : d.length = n) (hnc : n ≤ c) (hn5 : n ≤ 512) (m : Nat) (hm : m = 10 * ngrp n) (w : World) (hr : Rd w w.heap.size A d) :
    Calls Try.prog 35 #[.string { data := #[107] }, .int .i64 3, .slice A n c] w (EntPost ⟨[107], 3, d, ngrp n⟩ m w) := by
  obtain ⟨hgq, hq1, hq4, hqn⟩ := ngrp_spec hn5
  obtain ⟨q, hq⟩ : ∃ q, ngrp n = q := ⟨_, rfl⟩
  rw [hq] at hm hq1 hq4 ⊢
  have hz := heap_alloc_new w (.cells zeroEn 55)
  have hg0 := alloc_grB w (.cells zeroEn 55)
  obtain ⟨g6, hg6⟩ : ∃ g6, w.heap.size = g6 := ⟨_, rfl⟩
  have hs := rrec_any [107] 3 (by decide) ⟨by decide, by decide⟩ A n c d hd hnc hn5 (w.alloc (.cells zeroEn 55)) (hr.up hg0)
  rw [hq] at hs
  have hkb : bs [107] = { data := #[107] } := rfl
  rw [hkb] at hs
  replace hq := Lib.hid hq
  replace hm := Lib.hid hm
  replace hd := Lib.hid hd
  replace hs := Lib.hid hs
  replace hr := Lib.hid hr
  replace hz := Lib.hid hz
  replace hkb := Lib.hid hkb
  go_enter Try.func35, Try.ntmps35
  go_wp2_with fail
  refine hs.out.mono ?_
  clear hs
  rintro e w2 ⟨hg2, ⟨-, u, E, rfl, hE, hR⟩ | ⟨hno, -⟩⟩
  rotate_left
  · exact absurd hno (show ¬ nameOk [107] 3 = false by decide)
  have hEl : E.length = m := by rw [hm.out, ← recsP_len ⟨[107], 3, d, q⟩, ← hE, List.length_map]
  have hm40 : m ≤ 40 := by have := hm.out; omega
  have hm10 : 10 ≤ m := by have := hm.out; omega
  have hm0 : 0 < m := by omega
  obtain ⟨Au, cu, rfl, -, -⟩ := hR.form
  rw [hEl] at hR ⊢
  have hg02 := hg0.trans hg2
  have hz2 := blk_below hz.out hg2
  rw [hg6] at hz2
  replace hg6 := Lib.hid hg6
  have h1 := heap_alloc_new w2 (.cells #[.string { data := #[107] }, .int .i64 3, .int .i64 n, .string { data := #[] }, .slice none 0 0] 55)
  have hgA := alloc_grB w2 (.cells #[.string { data := #[107] }, .int .i64 3, .int .i64 n, .string { data := #[] }, .slice none 0 0] 55)
  obtain ⟨wA, hwA⟩ : ∃ wA, w2.alloc (.cells #[.string { data := #[107] }, .int .i64 3, .int .i64 n, .string { data := #[] }, .slice none 0 0] 55) = wA := ⟨_, rfl⟩
  obtain ⟨B, hB⟩ : ∃ B, w2.heap.size = B := ⟨_, rfl⟩
  have hAs : wA.heap.size = B + 1 := by rw [← hwA, World.size_alloc, hB]
  have hgL := hgA.trans (by rw [hwA]; exact alloc_grB wA (.cells #[] 22))
  have hSV0 : (wA.alloc (.cells #[] 22)).ownsRow B 22 1 (.slice (some ⟨B + 1, 0, none⟩) 0 0) 0 [] := by
    rw [← hAs]; exact World.ownsRow_made wA #[] 0 (by omega) (by simp [maxLen]) rfl
  have hE0 := blk_alloc (by rw [hwA] at h1; exact h1) (.cells #[] 22)
  have hB1 : g6 < B := by rw [← hB]; exact blk_lt hz2
  have hz3 := blk_below hz2 hgL
  rw [hB] at hE0
  replace hB1 := Lib.hid hB1
  replace h1 := Lib.hid h1
  replace hAs := Lib.hid hAs
  replace hR := Lib.hid hR
  replace hE := Lib.hid hE
  replace hEl := Lib.hid hEl
  replace hE0 := Lib.hid hE0
  replace hz3 := Lib.hid hz3
  replace hgL := Lib.hid hgL
  replace hSV0 := Lib.hid hSV0
  replace hg02 := Lib.hid hg02
  replace hz2 := Lib.hid hz2
  clear hgA
  replace hwA := Lib.hid hwA
  replace hB := Lib.hid hB
  go_wp2_with fail
  rw [hwA.out, hB.out]
  obtain ⟨b, o, r0, eA, hbl, -⟩ := hR.out.room2 (i := 0) (by rw [hEl.out]; exact hm0)
  subst eA
  have hBs := Lib.hid (Nat.le_of_eq hB.out)
  have hBr := Lib.hid (Nat.le_of_eq hB.out.symm)
  obtain ⟨sm, hsm⟩ : ∃ sm, dg d = sm := ⟨_, rfl⟩
  replace hsm := Lib.hid hsm
  go_loopw [12, 13] (fun v iv wr => ∃ (i : Nat) (SV PV : Value) (xs : List Value) (sS : ByteArray), i ≤ m ∧ iv = .int .i64 i ∧ SV = v ∧ Hid (0 < i → sS = bs sm) ∧ Hid (wr.heap[B]? = some (.cells #[.string { data := #[107] }, .int .i64 3, .int .i64 n, .string sS, PV] 55 (0, 0))) ∧ Hid (wr.ownsRow B 98 2 PV i xs) ∧ Hid (wr.ownsRow B 22 1 SV i (rowsE (E.take i))) ∧ Hid (Gr w2 wr)) (fun _ iv _ => m - (intOf iv).toNat)
  case atStart => exact ⟨0, _, _, [], _, Nat.zero_le _, rfl, rfl, Lib.hid (fun h => absurd h (by decide)), hE0, Lib.hid (World.ownsRow_nil _ B _ 2), hSV0, hgL⟩
  case round =>
    obtain ⟨i, SV, PV, xs, sS, him, rfl, rfl, hS, hEb, hPV, hSV, hG⟩ := hrel
    clear hE0 hSV0 hgL
    obtain ⟨wo, hwo⟩ : ∃ wo, wo = wr := ⟨_, rfl⟩
    subst hwo
    obtain ⟨SA, Sc, eS, -, -⟩ := row_form hSV.out
    subst eS
    obtain ⟨PA, Pc, eP, hPc, hPm⟩ := row_form hPV.out
    subst eP
    have hBo : B ≤ wo.heap.size := Nat.le_trans hBr.out hG.out.size
    by_cases hlt : i < m
    · have ik : (i : Int) < (m : Int) := by omega
      obtain ⟨b', o', xr, e', -, hx⟩ := hR.out.room2 (i := i) (by rw [hEl.out]; exact hlt)
      injection e' with e'
      injection e' with e1 e2
      subst e1 e2
      obtain ⟨hx1, hx2⟩ := hx
      have hsum : xr.r.sum = sm := by
        have h9 : (E.map (·.r))[i]? = some xr.r := by rw [List.getElem?_map, hx1]; rfl
        rw [hE.out, recsP_num ⟨[107], 3, d, q⟩ (by show i < 10 * q; rw [← hm.out]; exact hlt)] at h9
        injection h9 with h9
        rw [← h9]; exact hsm.out
      have hx8 : ∀ w', Gr w2 w' → w'.cell? ⟨b, o + i * 10 + 8, none⟩ = some (.string (bs sm)) := fun w' hw' => by
        rw [← hsum]; exact hx2 w' hw' 8 _ rfl
      have hx9 : ∀ w', Gr w2 w' → w'.cell? ⟨b, o + i * 10 + 9, none⟩ = some (.slice xr.A xr.r.data.length xr.c) := fun w' hw' => hx2 w' hw' 9 _ rfl
      have hrows : Hid (rowsE (E.take i) ++ [.slice xr.A xr.r.data.length xr.c] = rowsE (E.take (i + 1))) := Lib.hid (by
        unfold rowsE
        rw [List.take_add_one, hx1, List.map_append]; rfl)
      have z8 := hx8 wo hG.out
      have q3 := blk_cell (j := 3) hEb.out rfl
      have f3 := blk_free hEb.out 3
      have hE7 : (wo.setCell ⟨B, 3, none⟩ (.string (bs sm))).heap[B]? = some (.cells #[.string { data := #[107] }, .int .i64 3, .int .i64 n, .string (bs sm), .slice PA i Pc] 55 (0, 0)) := blk_set hEb.out 3 _
      have hT7 : TChg B [55] wo (wo.setCell ⟨B, 3, none⟩ (.string (bs sm))) := TChg.of_set hEb.out (by simp) (Nat.le_refl _) 3 _
      have hPV7 := row_tchg hPV.out hT7 (by decide)
      have hSV7 := row_tchg hSV.out hT7 (by decide)
      have hG7 := hT7.from_ hG.out hBs.out hBo
      have z97 := hx9 _ hG7
      replace hx8 := Lib.hid hx8
      replace hx9 := Lib.hid hx9
      replace hsum := Lib.hid hsum
      replace hx1 := Lib.hid hx1
      clear hx2
      go_upto_region 8 with (fail)
      obtain ⟨w7, hw7⟩ : ∃ w7, wo.setCell ⟨B, 3, none⟩ (.string (bs sm)) = w7 := ⟨_, rfl⟩
      rw [hw7] at hE7 hPV7 hSV7 hG7 z97 ⊢
      clear q3 f3 z8 z97 hT7
      have q4 := blk_cell (j := 4) hE7 rfl
      have hB7 : B ≤ w7.heap.size := Nat.le_trans hBr.out (Below.size hG7)
      replace hw7 := Lib.hid hw7
      replace hE7 := Lib.hid hE7
      replace hPV7 := Lib.hid hPV7
      replace hSV7 := Lib.hid hSV7
      replace hG7 := Lib.hid hG7
      go_wp2_with (first | (at_builtin; refine wpl_append_pl rfl (.tmp 40) (.tmp 46) rfl B (.slice PA i Pc) i xs rfl (row_below hPV7.out (alloc_grB _ _)) _ 1 _ _ rfl (reads_place _ _ _) (by omega) (by simp; omega) ?_; intro v8 w8 hrow8 hg8; obtain ⟨A8, c8, e8, -, -⟩ := row_form hrow8; subst e8; have hT8 := TChg.of_row (ts := [98]) (row_below hPV7.out (alloc_grB _ _)) hg8 (by simp); have hE8 := hT8.block (blk_alloc hE7.out _) (by decide); have hSV8 := row_tchg (row_below hSV7.out (alloc_grB _ _)) hT8 (by decide); have hG8 := hT8.from_ (Gr.trans hG7.out (alloc_grB _ _)) hBs.out (by simp; omega); have q4 := blk_cell (j := 4) hE8 rfl; have f4 := blk_free hE8 4; have hE9 : (w8.setCell ⟨B, 4, none⟩ (.slice A8 (i + 1) c8)).heap[B]? = some (.cells #[.string { data := #[107] }, .int .i64 3, .int .i64 n, .string (bs sm), .slice A8 (i + 1) c8] 55 (0, 0)) := blk_set hE8 4 _; have hB8 : B ≤ w8.heap.size := Nat.le_trans hBr.out (Below.size hG8); have hT9 : TChg B [55] w8 (w8.setCell ⟨B, 4, none⟩ (.slice A8 (i + 1) c8)) := TChg.of_set hE8 (by simp) (Nat.le_refl _) 4 _; have hPV9 := Lib.hid (row_tchg hrow8 hT9 (by decide)); have hSV9 := Lib.hid (row_tchg hSV8 hT9 (by decide)); have hG9 := Lib.hid (hT9.from_ hG8 hBs.out hB8); have z99 := hx9.out _ hG9.out; have hB9 : B ≤ (w8.setCell ⟨B, 4, none⟩ (.slice A8 (i + 1) c8)).heap.size := Nat.le_trans hBr.out (Below.size hG9.out); replace hE9 := Lib.hid hE9; clear hT8 hg8 hT9 hE8 hSV8 hG8 hrow8) | (at_builtin; go_must (refine wpl_append_bb rfl (.tmp 49) (.tmp 55) rfl B (.slice SA i Sc) i (rowsE (E.take i)) rfl (row_below hSV9.out (alloc_grB _ _)) _ 1 xr.A xr.r.data.length xr.c rfl (by have h0 := reads_one (w8.setCell ⟨B, 4, none⟩ (.slice A8 (i + 1) c8)) 22 (.slice xr.A xr.r.data.length xr.c); rw [show (w8.setCell ⟨B, 4, none⟩ (.slice A8 (i + 1) c8)).heap.size = w8.heap.size from by simp] at h0; exact h0) (by omega) (by simp; simpa using Nat.le_succ_of_le hB9) ?_; intro va wa hrowa hga; have hTa := TChg.of_row (ts := [22]) (row_below hSV9.out (alloc_grB _ _)) hga (by simp); have hEa := Lib.hid (hTa.block (blk_alloc hE9.out _) (by decide)); have hPVa := Lib.hid (row_tchg (row_below hPV9.out (alloc_grB _ _)) hTa (by decide)); have hGa := Lib.hid (hTa.from_ (Gr.trans hG9.out (alloc_grB _ _)) hBs.out (by simp; simpa using Nat.le_succ_of_le hB9)); rw [hrows.out] at hrowa; replace hrowa := Lib.hid hrowa; clear hTa hga)))
      go_roundw
      case rel => first | exact ⟨i + 1, _, _, _, _, by omega, by go_num, rfl, Lib.hid (fun _ => rfl), hEa, hPVa, hrowa, hGa⟩ | ((repeat apply Exists.intro); exact ⟨⟨i + 1, _, _, _, _, by omega, by go_num, rfl, Lib.hid (fun _ => rfl), hEa, hPVa, hrowa, hGa⟩, rfl⟩)
      case measure => simp [intOf]; omega
    · obtain rfl : i = m := by omega
      have hSe := hS.out hm0
      subst hSe
      have c0 := blk_cell (j := 0) hEb.out rfl
      have c1 := blk_cell (j := 1) hEb.out rfl
      have c2 := blk_cell (j := 2) hEb.out rfl
      have c3 := blk_cell (j := 3) hEb.out rfl
      have c4 := blk_cell (j := 4) hEb.out rfl
      have hz4 := blk_below hz2.out hG.out
      have hth := Lib.hid (there_of hz4 (n := 5) (Nat.le_refl _))
      have hfin := setCells_whole hz4 [.string { data := #[107] }, .int .i64 3, .int .i64 n, .string (bs sm), .slice PA i Pc] rfl
      have hgw : Gr w (wo.setCells g6 0 [.string { data := #[107] }, .int .i64 3, .int .i64 n, .string (bs sm), .slice PA i Pc]) := below_setCells (hg02.out.trans hG.out) (by rw [← hg6.out]; exact Nat.le_refl _) _ _
      have hik : decide ((i : Int) < (i : Int)) = false := decide_eq_false (by omega)
      replace hz4 := Lib.hid hz4
      replace hfin := Lib.hid hfin
      replace hgw := Lib.hid hgw
      go_wp2_with (refine wpList_store_mid rfl 55 (.tmp 6) (.tmp 57) rfl g6 0 #[.string { data := #[107] }, .int .i64 3, .int .i64 n, .string (bs sm), .slice PA i Pc] rfl rfl hth.out info_en5 (by simp [Value.oneCell']) ?_)
      obtain ⟨wz, hwz⟩ : ∃ wz, wo.setCells g6 0 [.string { data := #[107] }, .int .i64 3, .int .i64 n, .string (bs sm), .slice PA i Pc] = wz := ⟨_, rfl⟩
      have hoth : ∀ k, k ≠ g6 → wz.heap[k]? = wo.heap[k]? := fun k hk => by rw [← hwz]; exact (setCells_other hk _ 0 wo).1
      have hsz : wz.heap.size = wo.heap.size := by rw [← hwz]; exact (setCells_other (b := g6) (k := g6 + 1) (by omega) _ 0 wo).2.1
      rw [hwz] at hfin hgw ⊢
      replace hwz := Lib.hid hwz
      have r0 := blk_cell (j := 0) hfin.out rfl
      have r1 := blk_cell (j := 1) hfin.out rfl
      have r2 := blk_cell (j := 2) hfin.out rfl
      have r3 := blk_cell (j := 3) hfin.out rfl
      have r4 := blk_cell (j := 4) hfin.out rfl
      have hSVz : wz.ownsRow B 22 1 (.slice SA i Sc) i (rowsE (E.take i)) := row_keep hSV.out (fun k hk => hoth k (by have := (hSV.out.lt k hk).1; have := hB1.out; omega))
      refine bodyPost_ret (v := .tuple #[.agg #[.string { data := #[107] }, .int .i64 3, .int .i64 n, .string (bs sm), .slice PA i Pc], .slice (some ⟨b, o, none⟩) i cu, .slice SA i Sc]) (by simp [results, Try.results35, go_sem, r0, r1, r2, r3, r4]) rfl ?_
      refine ⟨hgw.out, PA, Pc, _, _, E, by rw [hsm.out, hkb.out, hd.out], hPc, hPm, hE.out, fun x hx => ?_, ?_⟩
      · obtain ⟨k1, k2, k3, k4⟩ := hR.out.vs x hx
        refine ⟨k1, k2, k3, fun hn0 => ?_⟩
        obtain ⟨ad, ea, hb0, hcell⟩ := k4 hn0
        refine ⟨ad, ea, Nat.lt_of_lt_of_le hb0 (by rw [hsz]; exact hG.out.size), fun j y hy => ?_⟩
        have hne : ad.block ≠ g6 := fun e => by
          have hj := hcell j y hy
          obtain ⟨b9, o9, rfl⟩ := addr_flatP (hcell 0 _ (List.getElem?_eq_getElem (by simpa using hn0)))
          rw [addr_addP] at hj
          subst e
          have hcc : w2.cell? ⟨b9, o9 + j, none⟩ = zeroEn[o9 + j]? := by
            unfold World.cell?
            rw [show (⟨b9, o9 + j, none⟩ : Addr).block = b9 from rfl, hz2.out]
            rfl
          rw [hcc] at hj
          rw [List.getElem?_map] at hy
          obtain ⟨u9, -, rfl⟩ := Option.map_eq_some_iff.mp hy
          have hlt : o9 + j < 5 := (Array.getElem?_eq_some_iff.mp hj).1
          have h5 : o9 + j = 0 ∨ o9 + j = 1 ∨ o9 + j = 2 ∨ o9 + j = 3 ∨ o9 + j = 4 := by omega
          rcases h5 with h5 | h5 | h5 | h5 | h5 <;> rw [h5] at hj <;> simp [zeroEn, vb] at hj
        rw [← hcell j y hy, ← hG.out.cell (p := ad.add j) (by rw [block_of_add]; exact hb0)]
        exact World.cell?_of_block (by rw [block_of_add]; exact hoth _ hne)
      · rw [List.take_of_length_le (by rw [hEl.out]; exact Nat.le_refl _)] at hSVz
        exact row_more hSVz (Nat.le_trans (by rw [hg6.out]; exact Nat.le_refl _) (Nat.le_of_lt hB1.out))
end Go.Proofs.Ytdgkcgiknfjpjaa
