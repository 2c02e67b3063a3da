/- The reference's Encode of records. -/
import Derived.Test.YticdkmnjolkacabLabRef5
import Derived.Test.YticdkmnjolkacabLab5
import Derived.Test.YticdkmnjolkacabSumRef
import Derived.Test.YticdkmnjolkacabWordRef
namespace Go.Proofs.Yticdkmnjolkacab
set_option linter.unusedVariables false
set_option linter.unusedSimpArgs false
open Go Go.RowKit
theorem OB.lit (w : World) (cs : Array Value) (l : List UInt8) (n base : Nat) (h : cs.toList = l.map vb) (hn : l.length = n) (hb : base ≤ w.heap.size) (hm : n ≤ 1000000) : OB (w.alloc (.cells cs 5)) base (.slice (some ⟨w.heap.size, 0, none⟩) n n) l := by
  have hs : cs.size = n := by rw [← Array.length_toList, h, List.length_map, hn]
  exact ⟨by simp, .inr ⟨w.heap.size, n, cs, by rw [hn], hb, heap_alloc_new w _, by omega, by unfold maxLen; omega, by omega, by rw [List.take_of_length_le (by rw [Array.length_toList]; omega), h]⟩⟩
theorem wrap_u8z (z : Int) (h0 : 0 ≤ z) (h1 : z ≤ 255) : IntKind.u8.wrap z = U (UInt8.ofNat z.toNat) := by
  rw [IntKind.wrap_u8, U_ofNat _ (by omega)]
  omega
theorem enc_small (z : Int) (h0 : 0 ≤ z) (h1 : z ≤ 127) : enc z.toNat = [UInt8.ofNat z.toNat] := vint_small 9 _ (by omega)
theorem b4_take (s : BitVec 32) (k : Nat) (hk : k < 4) : (bytes4 s).take k ++ [lo8 (s >>> (8 * k))] = (bytes4 s).take (k + 1) := by
  match k, hk with
  | 0, _ => rfl
  | 1, _ => rfl
  | 2, _ => rfl
  | 3, _ => rfl
theorem rsum_at (A : Option Addr) (n c : Nat) (l : List UInt8) (hn : l.length = n) (w : World) (hr : Rd w w.heap.size A l) (hl : n ≤ 1048576) :
    Calls Try.prog 36 #[.slice A n c] w fun e w' => e = .returned (.int .u32 (W (crc l))) ∧ w = w' := by
  subst hn; rw [← rcrc_eq]; exact rsum_walk A c l w hr hl
set_option maxHeartbeats 8000000 in
set_option maxRecDepth 20000 in
theorem rencode_1 (r : Rc) (A : Option Addr) (c : Nat) (hok : r.Ok) (hg : goodB r = true) (hk : r.kind = 1) (w : World) (h : Rd w w.heap.size A r.data) :
    Calls Try.prog 19 #[r.agg A c] w fun e w' => ∃ v, e = .returned (.tuple #[v, .int .i64 0]) ∧ OB w' w.heap.size v (encB r) ∧ Below w.heap.size w w' := by
  have hbb := (Below.refl w.heap.size w).alloc (Nat.le_refl _) (.cells #[.int .i64 r.kind, .int .i64 r.cart, .string (bs r.key), .int .i64 r.gen, .int .i64 r.group, .int .i64 r.groups, .int .i64 r.index, .int .i64 r.size, .string (bs r.sum), .slice A r.data.length c] 34)
  have hR := Lib.hid (h.up hbb)
  have hB := heap_alloc_new w (.cells #[.int .i64 r.kind, .int .i64 r.cart, .string (bs r.key), .int .i64 r.gen, .int .i64 r.group, .int .i64 r.groups, .int .i64 r.index, .int .i64 r.size, .string (bs r.sum), .slice A r.data.length c] 34)
  have hq := Lib.hid hbb
  clear hbb h
  have hgd := rgood_any r A c hok _ hR.out
  rw [hg] at hgd
  unfold Rc.agg at hgd ⊢
  replace hgd := Lib.hid hgd
  obtain ⟨N, hN⟩ : ∃ N, w.heap.size = N := ⟨_, rfl⟩
  rw [hN] at hB
  replace hB := Lib.hid hB
  have hgg := good1 hg hk
  have hfl := flds_len hg
  have hwk : IntKind.u8.wrap r.kind = U (UInt8.ofNat r.kind.toNat) := wrap_u8z _ (by omega) (by omega)
  obtain ⟨kb, hkb⟩ : ∃ kb, UInt8.ofNat r.kind.toNat = kb := ⟨_, rfl⟩
  rw [hkb] at hwk
  have hwc : IntKind.u8.wrap r.cart = U (UInt8.ofNat r.cart.toNat) := wrap_u8z _ (by omega) (by omega)
  obtain ⟨cb, hcb⟩ : ∃ kb, UInt8.ofNat r.cart.toNat = kb := ⟨_, rfl⟩
  rw [hcb] at hwc
  have hfe : Hid ([107, kb] ++ [cb] = flds r) := Lib.hid (by unfold flds body; rw [if_pos hk, enc_small _ hgg.1 (by omega), hkb, hcb]; rfl)
  have d1 : (r.kind == 1) = true := beq_iff_eq.mpr hk
  have d2 : (r.kind == 2) = false := beq_eq_false_iff_ne.mpr (by omega)
  replace hk := Lib.hid hk
  replace hkb := Lib.hid hkb
  replace hg := Lib.hid hg
  replace hN := Lib.hid hN
  replace hcb := Lib.hid hcb
  replace hgg := Lib.hid hgg
  go_enter Try.func19, Try.ntmps19
  go_wp2_with fail
  refine hgd.out.mono ?_
  rintro e w1 ⟨rfl, hbb⟩
  try rw [hN.out]
  replace hq := Lib.hid (hq.out.trans (hbb.mono hq.out.size))
  replace hB := Lib.hid (blk_below hB.out hbb)
  replace hR := Lib.hid (hR.out.up hbb)
  clear hbb
  clear hgd
  have hNl := blk_lt hB.out
  have y0 := blk_cell (j := 0) (v := .int .i64 r.kind) hB.out rfl
  have y1 := blk_cell (j := 1) (v := .int .i64 r.cart) hB.out rfl
  have y2 := blk_cell (j := 2) (v := .string (bs r.key)) hB.out rfl
  have y3 := blk_cell (j := 3) (v := .int .i64 r.gen) hB.out rfl
  have y4 := blk_cell (j := 4) (v := .int .i64 r.group) hB.out rfl
  have y5 := blk_cell (j := 5) (v := .int .i64 r.groups) hB.out rfl
  have y6 := blk_cell (j := 6) (v := .int .i64 r.index) hB.out rfl
  have y7 := blk_cell (j := 7) (v := .int .i64 r.size) hB.out rfl
  have y8 := blk_cell (j := 8) (v := .string (bs r.sum)) hB.out rfl
  have y9 := blk_cell (j := 9) (v := .slice A r.data.length c) hB.out rfl
  have ho := Lib.hid (OB.lit w1 #[.int .u8 107, .int .u8 (U kb)] [107, kb] 2 w.heap.size rfl rfl hq.out.size (by decide))
  have hbb := (Below.refl _ w1).alloc (Nat.le_refl _) (.cells #[.int .u8 107, .int .u8 (U kb)] 5)
  replace hq := Lib.hid (hq.out.trans (hbb.mono hq.out.size))
  replace hB := Lib.hid (blk_below hB.out hbb)
  replace hR := Lib.hid (hR.out.up hbb)
  clear hbb
  have x0 := blk_cell (j := 0) (v := .int .i64 r.kind) hB.out rfl
  have x1 := blk_cell (j := 1) (v := .int .i64 r.cart) hB.out rfl
  have x2 := blk_cell (j := 2) (v := .string (bs r.key)) hB.out rfl
  have x3 := blk_cell (j := 3) (v := .int .i64 r.gen) hB.out rfl
  have x4 := blk_cell (j := 4) (v := .int .i64 r.group) hB.out rfl
  have x5 := blk_cell (j := 5) (v := .int .i64 r.groups) hB.out rfl
  have x6 := blk_cell (j := 6) (v := .int .i64 r.index) hB.out rfl
  have x7 := blk_cell (j := 7) (v := .int .i64 r.size) hB.out rfl
  have x8 := blk_cell (j := 8) (v := .string (bs r.sum)) hB.out rfl
  have x9 := blk_cell (j := 9) (v := .slice A r.data.length c) hB.out rfl
  obtain ⟨M, hM⟩ : ∃ M, w1.heap.size = M := ⟨_, rfl⟩
  have ho7 := Lib.hid (ho.out.alloc (.cells #[.int .u8 (U cb)] 5))
  have hlit := Lib.hid (Rd.lit (w1.alloc (.cells #[.int .u8 107, .int .u8 (U kb)] 5)) #[.int .u8 (U cb)] 5 [cb] rfl (((w1.alloc (.cells #[.int .u8 107, .int .u8 (U kb)] 5)).alloc (.cells #[.int .u8 (U cb)] 5)).heap.size) (by simp))
  have hbb := (Below.refl _ (w1.alloc (.cells #[.int .u8 107, .int .u8 (U kb)] 5))).alloc (Nat.le_refl _) (.cells #[.int .u8 (U cb)] 5)
  replace hq := Lib.hid (hq.out.trans (hbb.mono hq.out.size))
  replace hB := Lib.hid (blk_below hB.out hbb)
  replace hR := Lib.hid (hR.out.up hbb)
  clear hbb
  have hsz : (w1.alloc (.cells #[.int .u8 107, .int .u8 (U kb)] 5)).heap.size = w1.heap.size + 1 := by simp
  rw [hsz] at hlit
  clear hM
  replace hsz := Lib.hid hsz
  go_wp2_with (at_builtin; go_must (refine wpl_append rfl (.tmp 17) (.tmp 21) rfl w.heap.size (.slice (some ⟨w1.heap.size, 0, none⟩) 2 2) [107, kb] rfl ho7.out _ _ 1 [cb] rfl hlit.out (by simp) hq.out.size ?_); intro v5 w5 ho5 hg5 _; have hb5 := Lib.hid (below_app ho7.out hq.out hq.out.size hg5); rw [hfe.out] at ho5; replace ho := ho5; have hB5 := Lib.hid (blk_grow hB.out hg5 (fun e => by have e : some w1.heap.size = some N := e; injection e with e; omega)); have x0 := blk_cell (j := 0) (v := .int .i64 r.kind) hB5.out rfl; clear hg5 ho5)
  clear y0 x1 y1 x2 y2 x3 y3 x4 y4 x5 y5 x6 y6 x7 y7 x8 y8 x9 y9
  replace hq := hb5
  clear hb5 hB hR ho7 hlit
  have hfl0 := hfl
  obtain ⟨m, hm⟩ : ∃ m, (flds r).length = m := ⟨_, rfl⟩
  have hres : Hid (flds r ++ bytes4 (crc (flds r)) = encB r) := Lib.hid rfl
  obtain ⟨fl, hfl⟩ : ∃ fl, flds r = fl := ⟨_, rfl⟩
  rw [hfl] at ho hres hm
  rw [hfl, hm] at hfl0
  replace hfl := Lib.hid hfl
  obtain ⟨A5, c5, rfl, hc5, -, hR5, -⟩ := ho.form
  rw [hm] at ho hc5 ⊢
  replace hR5 := Lib.hid hR5
  replace hm := Lib.hid hm
  replace ho := Lib.hid ho
  have hl4 : Hid (∀ k, k ≤ 4 → (fl ++ (bytes4 (crc fl)).take k).length = m + k) := Lib.hid (fun k hk4 => by rw [List.length_append, hm.out, List.length_take]; have : (bytes4 (crc fl)).length = 4 := rfl; omega)
  go_wp2_with fail
  refine (rsum_at A5 m c5 fl hm.out _ hR5.out (by omega)).mono ?_
  rintro e wq ⟨rfl, rfl⟩
  obtain ⟨sm, hsm⟩ : ∃ sm, crc fl = sm := ⟨_, rfl⟩
  rw [hsm] at hres hl4 ⊢
  replace hsm := Lib.hid hsm
  go_wp2_with fail
  go_loopw [4, 6] (fun v i wr => ∃ (k : Nat) (A6 : Option Addr) (c6 : Nat), i = .int .i64 k ∧ v = .slice A6 (m + k) c6 ∧ k ≤ 4 ∧ Hid (OB wr w.heap.size (.slice A6 (m + k) c6) (fl ++ (bytes4 sm).take k)) ∧ Hid (Below w.heap.size w wr)) (fun _ i _ => 4 - (intOf i).toNat)
  case atStart => exact ⟨0, A5, c5, rfl, rfl, Nat.zero_le _, Lib.hid (by rw [List.take_zero, List.append_nil]; exact ho.out), hq⟩
  case round =>
    obtain ⟨k, A6, c6, rfl, rfl, hk4, ho6, hq6⟩ := hrel
    clear ho hR5 hq
    by_cases hlt : k < 4
    · have hst := b4_take sm k hlt
      have hlk := hl4.out k (by omega)
      obtain ⟨x, hx⟩ : ∃ x, lo8 (sm >>> (8 * k)) = x := ⟨_, rfl⟩
      have hlit := Lib.hid (Rd.lit wr #[.int .u8 (U x)] 5 [x] rfl ((wr.alloc (.cells #[.int .u8 (U x)] 5)).heap.size) (by simp))
      have ho7 := Lib.hid (ho6.out.alloc (.cells #[.int .u8 (U x)] 5))
      have hq7 := Lib.hid (hq6.out.alloc hq6.out.size (.cells #[.int .u8 (U x)] 5))
      rw [hx] at hst
      replace hst := Lib.hid hst
      replace hlk := Lib.hid hlk
      go_wp2_with (at_builtin; go_must (refine wpl_append rfl (.tmp 62) (.tmp 69) rfl w.heap.size (.slice A6 (m + k) c6) (fl ++ (bytes4 sm).take k) rfl ho7.out _ _ 1 [x] rfl hlit.out (by rw [hlk.out]; simp; omega) hq7.out.size ?_); intro v8 w8 ho8 hg8 _; have hb8 := Lib.hid (below_app ho7.out hq7.out hq7.out.size hg8); rw [List.append_assoc, hst.out] at ho8; obtain ⟨A8, c8, rfl, -, -, -, -⟩ := ho8.form; rw [hl4.out (k + 1) (by omega)] at ho8 ⊢; replace ho8 := Lib.hid ho8; clear hg8)
      go_roundw
      case rel => exact ⟨k + 1, A8, c8, by go_num, by first | rfl | (rw [Nat.add_assoc]), by omega, ho8, hb8⟩
      case measure => simp [intOf]; omega
    · obtain rfl : k = 4 := by omega
      have ho9 := ho6.out
      rw [show (bytes4 sm).take 4 = bytes4 sm from rfl] at ho9
      rw [hres.out] at ho9
      replace ho9 := Lib.hid ho9
      go_wp2_with fail
      go_ret2
      exact ⟨_, rfl, ho9.out, hq6.out⟩
set_option maxHeartbeats 8000000 in
set_option maxRecDepth 20000 in
theorem rencode_3 (r : Rc) (A : Option Addr) (c : Nat) (hok : r.Ok) (hg : goodB r = true) (hk : r.kind = 3) (w : World) (h : Rd w w.heap.size A r.data) :
    Calls Try.prog 19 #[r.agg A c] w fun e w' => ∃ v, e = .returned (.tuple #[v, .int .i64 0]) ∧ OB w' w.heap.size v (encB r) ∧ Below w.heap.size w w' := by
  have hbb := (Below.refl w.heap.size w).alloc (Nat.le_refl _) (.cells #[.int .i64 r.kind, .int .i64 r.cart, .string (bs r.key), .int .i64 r.gen, .int .i64 r.group, .int .i64 r.groups, .int .i64 r.index, .int .i64 r.size, .string (bs r.sum), .slice A r.data.length c] 34)
  have hR := Lib.hid (h.up hbb)
  have hB := heap_alloc_new w (.cells #[.int .i64 r.kind, .int .i64 r.cart, .string (bs r.key), .int .i64 r.gen, .int .i64 r.group, .int .i64 r.groups, .int .i64 r.index, .int .i64 r.size, .string (bs r.sum), .slice A r.data.length c] 34)
  have hq := Lib.hid hbb
  clear hbb h
  have hgd := rgood_any r A c hok _ hR.out
  rw [hg] at hgd
  unfold Rc.agg at hgd ⊢
  replace hgd := Lib.hid hgd
  obtain ⟨N, hN⟩ : ∃ N, w.heap.size = N := ⟨_, rfl⟩
  rw [hN] at hB
  replace hB := Lib.hid hB
  have hgg := good3 hg hk
  have hfl := flds_len hg
  have hwk : IntKind.u8.wrap r.kind = U (UInt8.ofNat r.kind.toNat) := wrap_u8z _ (by omega) (by omega)
  obtain ⟨kb, hkb⟩ : ∃ kb, UInt8.ofNat r.kind.toNat = kb := ⟨_, rfl⟩
  rw [hkb] at hwk
  obtain ⟨⟨k1, k2⟩, g1, g2, -⟩ := hgg
  have hfe : Hid ((([107, kb] ++ enc r.key.length) ++ r.key) ++ enc r.gen.toNat = flds r) := Lib.hid (by unfold flds body; rw [if_neg (by omega), if_pos hk, hkb]; simp)
  have d1 : (r.kind == 1) = false := beq_eq_false_iff_ne.mpr (by omega)
  have d2 : (r.kind == 2) = false := beq_eq_false_iff_ne.mpr (by omega)
  replace hk := Lib.hid hk
  replace hkb := Lib.hid hkb
  replace hg := Lib.hid hg
  replace hN := Lib.hid hN
  go_enter Try.func19, Try.ntmps19
  go_wp2_with fail
  refine hgd.out.mono ?_
  rintro e w1 ⟨rfl, hbb⟩
  try rw [hN.out]
  replace hq := Lib.hid (hq.out.trans (hbb.mono hq.out.size))
  replace hB := Lib.hid (blk_below hB.out hbb)
  replace hR := Lib.hid (hR.out.up hbb)
  clear hbb
  clear hgd
  have hNl := blk_lt hB.out
  have hqs := hq.out.size
  have y0 := blk_cell (j := 0) (v := .int .i64 r.kind) hB.out rfl
  have y1 := blk_cell (j := 1) (v := .int .i64 r.cart) hB.out rfl
  have y2 := blk_cell (j := 2) (v := .string (bs r.key)) hB.out rfl
  have y3 := blk_cell (j := 3) (v := .int .i64 r.gen) hB.out rfl
  have y4 := blk_cell (j := 4) (v := .int .i64 r.group) hB.out rfl
  have y5 := blk_cell (j := 5) (v := .int .i64 r.groups) hB.out rfl
  have y6 := blk_cell (j := 6) (v := .int .i64 r.index) hB.out rfl
  have y7 := blk_cell (j := 7) (v := .int .i64 r.size) hB.out rfl
  have y8 := blk_cell (j := 8) (v := .string (bs r.sum)) hB.out rfl
  have y9 := blk_cell (j := 9) (v := .slice A r.data.length c) hB.out rfl
  have ho := Lib.hid (OB.lit w1 #[.int .u8 107, .int .u8 (U kb)] [107, kb] 2 w1.heap.size rfl rfl (Nat.le_refl _) (by decide))
  have hb := Lib.hid ((Below.refl _ w1).alloc (Nat.le_refl _) (.cells #[.int .u8 107, .int .u8 (U kb)] 5))
  have hBk := Lib.hid (blk_below hB.out hb.out)
  have x0 := blk_cell (j := 0) (v := .int .i64 r.kind) hBk.out rfl
  have x1 := blk_cell (j := 1) (v := .int .i64 r.cart) hBk.out rfl
  have x2 := blk_cell (j := 2) (v := .string (bs r.key)) hBk.out rfl
  have x3 := blk_cell (j := 3) (v := .int .i64 r.gen) hBk.out rfl
  have x4 := blk_cell (j := 4) (v := .int .i64 r.group) hBk.out rfl
  have x5 := blk_cell (j := 5) (v := .int .i64 r.groups) hBk.out rfl
  have x6 := blk_cell (j := 6) (v := .int .i64 r.index) hBk.out rfl
  have x7 := blk_cell (j := 7) (v := .int .i64 r.size) hBk.out rfl
  have x8 := blk_cell (j := 8) (v := .string (bs r.sum)) hBk.out rfl
  have x9 := blk_cell (j := 9) (v := .slice A r.data.length c) hBk.out rfl
  go_wp2_with fail
  clear x0 x1 x2 x3 x4 x5 x6 x7 x8 x9
  clear y0 y1 y2 y3 y4 y5 y6 y7 y8 y9
  obtain ⟨wd, hwd⟩ : ∃ wd, wd = (w1.alloc (.cells #[.int .u8 107, .int .u8 (U kb)] 5)).drew := ⟨_, rfl⟩
  have hbd : Hid (Below w1.heap.size w1 wd) := Lib.hid (by rw [hwd]; exact hb.out.drew)
  have hlit : Hid (Rd wd wd.heap.size (some ⟨w1.heap.size, 0, none⟩) [107, kb]) := Lib.hid (by rw [hwd]; exact ho.out.rd.1)
  have hBd := Lib.hid (blk_below hB.out hbd.out)
  clear hb hBk ho
  refine wpR_region (Upd (fun k => w1.heap.size ≤ k)) 9999 (by kernel_rfl) ?_
  (rw [← hwd]; replace hwd := Lib.hid hwd)
  refine wpR_take (i := 0) (v := ?_) (Upd.road _) (some 23) rfl (by kernel_rfl) (by kernel_rfl) (by kernel_rfl) (by kernel_rfl) (by kernel_rfl) (fun _ _ _ h => h) (by kernel_rfl) (fun w' hw' => ?_) ?_
  rotate_left
  · go_simp; with_reducible rfl
  simp only [Act.put, List.setIfInBounds_toArray, List.set_cons_zero, List.set_cons_succ]
  refine wpR_take (i := 1) (v := ?_) (Upd.road _) (some 24) rfl (by kernel_rfl) (by kernel_rfl) (by kernel_rfl) (by kernel_rfl) (by kernel_rfl) (fun _ _ _ h => h) (by kernel_rfl) (fun w' hw' => ?_) ?_
  rotate_left
  · go_simp; with_reducible rfl
  simp only [Act.put, List.setIfInBounds_toArray, List.set_cons_zero, List.set_cons_succ]
  refine wpR_take (i := 2) (v := ?_) (Upd.road _) (some 25) rfl (by kernel_rfl) (by kernel_rfl) (by kernel_rfl) (by kernel_rfl) (by kernel_rfl) (fun _ _ _ h => h) (by kernel_rfl) (fun w' hw' => ?_) ?_
  rotate_left
  · have qb := (hw'.2.2.2.2 N (blk_lt hBd.out) (by omega)).trans hBd.out; have q2 := blk_cell (j := 2) (v := .string (bs r.key)) qb rfl; clear qb; go_simp; with_reducible rfl
  simp only [Act.put, List.setIfInBounds_toArray, List.set_cons_zero, List.set_cons_succ]
  refine wpR_take (i := 4) (v := ?_) (Upd.road _) (some 27) rfl (by kernel_rfl) (by kernel_rfl) (by kernel_rfl) (by kernel_rfl) (by kernel_rfl) (fun _ _ _ h => h) (by kernel_rfl) (fun w' hw' => ?_) ?_
  rotate_left
  · go_simp; with_reducible rfl
  simp only [Act.put, List.setIfInBounds_toArray, List.set_cons_zero, List.set_cons_succ]
  refine wpR_take (i := 5) (v := ?_) (Upd.road _) (some 28) rfl (by kernel_rfl) (by kernel_rfl) (by kernel_rfl) (by kernel_rfl) (by kernel_rfl) (fun _ _ _ h => h) (by kernel_rfl) (fun w' hw' => ?_) ?_
  rotate_left
  · have qb := (hw'.2.2.2.2 N (blk_lt hBd.out) (by omega)).trans hBd.out; have q3 := blk_cell (j := 3) (v := .int .i64 r.gen) qb rfl; clear qb; go_simp; with_reducible rfl
  simp only [Act.put, List.setIfInBounds_toArray, List.set_cons_zero, List.set_cons_succ]
  refine wpR_one 3 rfl (by kernel_rfl) (by kernel_rfl) (fun K hK => ?_)
  go_simp
  refine (rtextput_any (some ⟨w1.heap.size, 0, none⟩) 2 2 [107, kb] rfl r.key (by omega) _ hlit.out).mono ?_
  rintro e w3 ⟨v3, rfl, ho3, hbb⟩
  refine hK _ _ (fun _ => Upd.of_below hbb) ?_
  clear hK K
  have hb3 := Lib.hid (hbd.out.trans (hbb.mono hbd.out.size))
  obtain ⟨A3, c3, rfl, -, -, hR3, -⟩ := ho3.form
  obtain ⟨m3, hm3⟩ : ∃ m3, (([107, kb] ++ enc r.key.length) ++ r.key).length = m3 := ⟨_, rfl⟩
  have hm3b : m3 ≤ 40 := by rw [← hm3]; have := (enc_length r.key.length (by omega)).2; simp only [List.length_append, List.length_cons, List.length_nil]; omega
  rw [hm3]
  replace hm3 := Lib.hid hm3
  replace hR3 := Lib.hid hR3
  clear hbb ho3
  try simp only [Act.put, List.setIfInBounds_toArray, List.set_cons_zero, List.set_cons_succ]
  refine wpR_one 6 rfl (by kernel_rfl) (by kernel_rfl) (fun K hK => ?_)
  go_simp
  refine (rput_any A3 m3 c3 _ hm3.out r.gen (by omega) (by omega) (by omega) _ hR3.out).mono ?_
  rintro e w4 ⟨v4, rfl, ho4, hbb⟩
  refine hK _ _ (fun _ => Upd.of_below hbb) ?_
  clear hK K
  have hb4 := Lib.hid (hb3.out.trans (hbb.mono hb3.out.size))
  replace ho4 := ho4.more (base' := w1.heap.size) hb3.out.size
  rw [hfe.out] at ho4
  have hfl0 := hfl
  have ho := ho4.more (base' := w.heap.size) hqs
  clear ho4
  obtain ⟨m, hm⟩ : ∃ m, (flds r).length = m := ⟨_, rfl⟩
  have hres : Hid (flds r ++ bytes4 (crc (flds r)) = encB r) := Lib.hid rfl
  obtain ⟨fl, hfl⟩ : ∃ fl, flds r = fl := ⟨_, rfl⟩
  rw [hfl] at ho hres hm
  rw [hfl, hm] at hfl0
  replace hfl := Lib.hid hfl
  obtain ⟨A5, c5, rfl, hc5, -, hR5, -⟩ := ho.form
  rw [hm] at ho hc5 ⊢
  replace hR5 := Lib.hid hR5
  replace hm := Lib.hid hm
  replace ho := Lib.hid ho
  clear hbb hR3
  try simp only [Act.put, List.setIfInBounds_toArray, List.set_cons_zero, List.set_cons_succ]
  refine wpR_take (i := 7) (v := ?_) (Upd.road _) (some 4) rfl (by kernel_rfl) (by kernel_rfl) (by kernel_rfl) (by kernel_rfl) (by kernel_rfl) (fun _ _ _ h => h) (by kernel_rfl) (fun w' hw' => ?_) ?_
  rotate_left
  · go_simp; with_reducible rfl
  simp only [Act.put, List.setIfInBounds_toArray, List.set_cons_zero, List.set_cons_succ]
  refine wpR_done (by kernel_rfl) ?_ _
  have hB4 := Lib.hid (blk_below hB.out hb4.out)
  have x0 := blk_cell (j := 0) (v := .int .i64 r.kind) hB4.out rfl
  have hq5 := Lib.hid (hq.out.trans (hb4.out.mono hqs))
  replace hq := hq5
  clear hq5 hb4 hb3 hbd hlit hBd hR hB hB4
  have hl4 : Hid (∀ k, k ≤ 4 → (fl ++ (bytes4 (crc fl)).take k).length = m + k) := Lib.hid (fun k hk4 => by rw [List.length_append, hm.out, List.length_take]; have : (bytes4 (crc fl)).length = 4 := rfl; omega)
  go_wp2_with fail
  refine (rsum_at A5 m c5 fl hm.out _ hR5.out (by omega)).mono ?_
  rintro e wq ⟨rfl, rfl⟩
  obtain ⟨sm, hsm⟩ : ∃ sm, crc fl = sm := ⟨_, rfl⟩
  rw [hsm] at hres hl4 ⊢
  replace hsm := Lib.hid hsm
  go_wp2_with fail
  go_loopw [4, 6] (fun v i wr => ∃ (k : Nat) (A6 : Option Addr) (c6 : Nat), i = .int .i64 k ∧ v = .slice A6 (m + k) c6 ∧ k ≤ 4 ∧ Hid (OB wr w.heap.size (.slice A6 (m + k) c6) (fl ++ (bytes4 sm).take k)) ∧ Hid (Below w.heap.size w wr)) (fun _ i _ => 4 - (intOf i).toNat)
  case atStart => exact ⟨0, A5, c5, rfl, rfl, Nat.zero_le _, Lib.hid (by rw [List.take_zero, List.append_nil]; exact ho.out), hq⟩
  case round =>
    obtain ⟨k, A6, c6, rfl, rfl, hk4, ho6, hq6⟩ := hrel
    clear ho hR5 hq
    by_cases hlt : k < 4
    · have hst := b4_take sm k hlt
      have hlk := hl4.out k (by omega)
      obtain ⟨x, hx⟩ : ∃ x, lo8 (sm >>> (8 * k)) = x := ⟨_, rfl⟩
      have hlit := Lib.hid (Rd.lit wr #[.int .u8 (U x)] 5 [x] rfl ((wr.alloc (.cells #[.int .u8 (U x)] 5)).heap.size) (by simp))
      have ho7 := Lib.hid (ho6.out.alloc (.cells #[.int .u8 (U x)] 5))
      have hq7 := Lib.hid (hq6.out.alloc hq6.out.size (.cells #[.int .u8 (U x)] 5))
      rw [hx] at hst
      replace hst := Lib.hid hst
      replace hlk := Lib.hid hlk
      go_wp2_with (at_builtin; go_must (refine wpl_append rfl (.tmp 62) (.tmp 69) rfl w.heap.size (.slice A6 (m + k) c6) (fl ++ (bytes4 sm).take k) rfl ho7.out _ _ 1 [x] rfl hlit.out (by rw [hlk.out]; simp; omega) hq7.out.size ?_); intro v8 w8 ho8 hg8 _; have hb8 := Lib.hid (below_app ho7.out hq7.out hq7.out.size hg8); rw [List.append_assoc, hst.out] at ho8; obtain ⟨A8, c8, rfl, -, -, -, -⟩ := ho8.form; rw [hl4.out (k + 1) (by omega)] at ho8 ⊢; replace ho8 := Lib.hid ho8; clear hg8)
      go_roundw
      case rel => exact ⟨k + 1, A8, c8, by go_num, by first | rfl | (rw [Nat.add_assoc]), by omega, ho8, hb8⟩
      case measure => simp [intOf]; omega
    · obtain rfl : k = 4 := by omega
      have ho9 := ho6.out
      rw [show (bytes4 sm).take 4 = bytes4 sm from rfl] at ho9
      rw [hres.out] at ho9
      replace ho9 := Lib.hid ho9
      go_wp2_with fail
      go_ret2
      exact ⟨_, rfl, ho9.out, hq6.out⟩
set_option maxHeartbeats 8000000 in
set_option maxRecDepth 20000 in
theorem rencode_2 (r : Rc) (A : Option Addr) (c : Nat) (hok : r.Ok) (hg : goodB r = true) (hk : r.kind = 2) (w : World) (h : Rd w w.heap.size A r.data) :
    Calls Try.prog 19 #[r.agg A c] w fun e w' => ∃ v, e = .returned (.tuple #[v, .int .i64 0]) ∧ OB w' w.heap.size v (encB r) ∧ Below w.heap.size w w' := by
  have hbb := (Below.refl w.heap.size w).alloc (Nat.le_refl _) (.cells #[.int .i64 r.kind, .int .i64 r.cart, .string (bs r.key), .int .i64 r.gen, .int .i64 r.group, .int .i64 r.groups, .int .i64 r.index, .int .i64 r.size, .string (bs r.sum), .slice A r.data.length c] 34)
  have hR := Lib.hid (h.up hbb)
  have hB := heap_alloc_new w (.cells #[.int .i64 r.kind, .int .i64 r.cart, .string (bs r.key), .int .i64 r.gen, .int .i64 r.group, .int .i64 r.groups, .int .i64 r.index, .int .i64 r.size, .string (bs r.sum), .slice A r.data.length c] 34)
  have hq := Lib.hid hbb
  clear hbb h
  have hgd := rgood_any r A c hok _ hR.out
  rw [hg] at hgd
  unfold Rc.agg at hgd ⊢
  replace hgd := Lib.hid hgd
  obtain ⟨N, hN⟩ : ∃ N, w.heap.size = N := ⟨_, rfl⟩
  rw [hN] at hB
  replace hB := Lib.hid hB
  have hgg := good2 hg hk
  have hfl := flds_len hg
  have hwk : IntKind.u8.wrap r.kind = U (UInt8.ofNat r.kind.toNat) := wrap_u8z _ (by omega) (by omega)
  obtain ⟨kb, hkb⟩ : ∃ kb, UInt8.ofNat r.kind.toNat = kb := ⟨_, rfl⟩
  rw [hkb] at hwk
  obtain ⟨-, ⟨k1, k2⟩, ⟨g1, g2⟩, ⟨z1, z2⟩, -, ⟨r1, r2⟩, ⟨i1, i2⟩, hsl, hdl, m1, m2⟩ := hgg
  have hw1 : IntKind.u8.wrap r.group = U (UInt8.ofNat r.group.toNat) := wrap_u8z _ (by omega) (by omega)
  have hw2 : IntKind.u8.wrap r.groups = U (UInt8.ofNat r.groups.toNat) := wrap_u8z _ (by omega) (by omega)
  have hw3 : IntKind.u8.wrap r.index = U (UInt8.ofNat r.index.toNat) := wrap_u8z _ (by omega) (by omega)
  obtain ⟨b1, hb1⟩ : ∃ kb, UInt8.ofNat r.group.toNat = kb := ⟨_, rfl⟩
  obtain ⟨b2, hb2⟩ : ∃ kb, UInt8.ofNat r.groups.toNat = kb := ⟨_, rfl⟩
  obtain ⟨b3, hb3⟩ : ∃ kb, UInt8.ofNat r.index.toNat = kb := ⟨_, rfl⟩
  rw [hb1] at hw1
  rw [hb2] at hw2
  rw [hb3] at hw3
  have hfe : Hid (((((((([107, kb] ++ enc r.key.length) ++ r.key) ++ enc r.gen.toNat) ++ [b1, b2, b3]) ++ enc r.size.toNat) ++ r.sum) ++ r.data) = flds r) := Lib.hid (by unfold flds body; rw [if_neg (by omega), if_neg (by omega), hkb, enc_small r.group r1 (by omega), enc_small r.groups (by omega) (by omega), enc_small r.index i1 (by omega), hb1, hb2, hb3]; simp)
  replace hb1 := Lib.hid hb1
  replace hb2 := Lib.hid hb2
  replace hb3 := Lib.hid hb3
  replace hsl := Lib.hid hsl
  replace hdl := Lib.hid hdl
  have d1 : (r.kind == 1) = false := beq_eq_false_iff_ne.mpr (by omega)
  have d2 : (r.kind == 2) = true := beq_iff_eq.mpr hk
  replace hk := Lib.hid hk
  replace hkb := Lib.hid hkb
  replace hg := Lib.hid hg
  replace hN := Lib.hid hN
  go_enter Try.func19, Try.ntmps19
  go_wp2_with fail
  refine hgd.out.mono ?_
  rintro e w1 ⟨rfl, hbb⟩
  try rw [hN.out]
  replace hq := Lib.hid (hq.out.trans (hbb.mono hq.out.size))
  replace hB := Lib.hid (blk_below hB.out hbb)
  replace hR := Lib.hid (hR.out.up hbb)
  clear hbb
  clear hgd
  have hNl := blk_lt hB.out
  have hqs := hq.out.size
  have y0 := blk_cell (j := 0) (v := .int .i64 r.kind) hB.out rfl
  have y1 := blk_cell (j := 1) (v := .int .i64 r.cart) hB.out rfl
  have y2 := blk_cell (j := 2) (v := .string (bs r.key)) hB.out rfl
  have y3 := blk_cell (j := 3) (v := .int .i64 r.gen) hB.out rfl
  have y4 := blk_cell (j := 4) (v := .int .i64 r.group) hB.out rfl
  have y5 := blk_cell (j := 5) (v := .int .i64 r.groups) hB.out rfl
  have y6 := blk_cell (j := 6) (v := .int .i64 r.index) hB.out rfl
  have y7 := blk_cell (j := 7) (v := .int .i64 r.size) hB.out rfl
  have y8 := blk_cell (j := 8) (v := .string (bs r.sum)) hB.out rfl
  have y9 := blk_cell (j := 9) (v := .slice A r.data.length c) hB.out rfl
  have ho := Lib.hid (OB.lit w1 #[.int .u8 107, .int .u8 (U kb)] [107, kb] 2 w1.heap.size rfl rfl (Nat.le_refl _) (by decide))
  have hb := Lib.hid ((Below.refl _ w1).alloc (Nat.le_refl _) (.cells #[.int .u8 107, .int .u8 (U kb)] 5))
  have hBk := Lib.hid (blk_below hB.out hb.out)
  have x0 := blk_cell (j := 0) (v := .int .i64 r.kind) hBk.out rfl
  have x1 := blk_cell (j := 1) (v := .int .i64 r.cart) hBk.out rfl
  have x2 := blk_cell (j := 2) (v := .string (bs r.key)) hBk.out rfl
  have x3 := blk_cell (j := 3) (v := .int .i64 r.gen) hBk.out rfl
  have x4 := blk_cell (j := 4) (v := .int .i64 r.group) hBk.out rfl
  have x5 := blk_cell (j := 5) (v := .int .i64 r.groups) hBk.out rfl
  have x6 := blk_cell (j := 6) (v := .int .i64 r.index) hBk.out rfl
  have x7 := blk_cell (j := 7) (v := .int .i64 r.size) hBk.out rfl
  have x8 := blk_cell (j := 8) (v := .string (bs r.sum)) hBk.out rfl
  have x9 := blk_cell (j := 9) (v := .slice A r.data.length c) hBk.out rfl
  go_wp2_with fail
  clear x0 x1 x2 x3 x4 x5 x6 x7 x8 x9
  clear y0 y1 y2 y3 y4 y5 y6 y7 y8 y9
  obtain ⟨wd, hwd⟩ : ∃ wd, wd = (w1.alloc (.cells #[.int .u8 107, .int .u8 (U kb)] 5)).drew := ⟨_, rfl⟩
  have hbd : Hid (Below w1.heap.size w1 wd) := Lib.hid (by rw [hwd]; exact hb.out.drew)
  have hlit : Hid (Rd wd wd.heap.size (some ⟨w1.heap.size, 0, none⟩) [107, kb]) := Lib.hid (by rw [hwd]; exact ho.out.rd.1)
  have hBd := Lib.hid (blk_below hB.out hbd.out)
  clear hb hBk ho
  refine wpR_region (Upd (fun k => w1.heap.size ≤ k)) 9999 (by kernel_rfl) ?_
  (rw [← hwd]; replace hwd := Lib.hid hwd)
  refine wpR_take (i := 0) (v := ?_) (Upd.road _) (some 23) rfl (by kernel_rfl) (by kernel_rfl) (by kernel_rfl) (by kernel_rfl) (by kernel_rfl) (fun _ _ _ h => h) (by kernel_rfl) (fun w' hw' => ?_) ?_
  rotate_left
  · go_simp; with_reducible rfl
  simp only [Act.put, List.setIfInBounds_toArray, List.set_cons_zero, List.set_cons_succ]
  refine wpR_take (i := 1) (v := ?_) (Upd.road _) (some 24) rfl (by kernel_rfl) (by kernel_rfl) (by kernel_rfl) (by kernel_rfl) (by kernel_rfl) (fun _ _ _ h => h) (by kernel_rfl) (fun w' hw' => ?_) ?_
  rotate_left
  · go_simp; with_reducible rfl
  simp only [Act.put, List.setIfInBounds_toArray, List.set_cons_zero, List.set_cons_succ]
  refine wpR_take (i := 2) (v := ?_) (Upd.road _) (some 25) rfl (by kernel_rfl) (by kernel_rfl) (by kernel_rfl) (by kernel_rfl) (by kernel_rfl) (fun _ _ _ h => h) (by kernel_rfl) (fun w' hw' => ?_) ?_
  rotate_left
  · have qb := (hw'.2.2.2.2 N (blk_lt hBd.out) (by omega)).trans hBd.out; have q2 := blk_cell (j := 2) (v := .string (bs r.key)) qb rfl; clear qb; go_simp; with_reducible rfl
  simp only [Act.put, List.setIfInBounds_toArray, List.set_cons_zero, List.set_cons_succ]
  refine wpR_take (i := 4) (v := ?_) (Upd.road _) (some 27) rfl (by kernel_rfl) (by kernel_rfl) (by kernel_rfl) (by kernel_rfl) (by kernel_rfl) (fun _ _ _ h => h) (by kernel_rfl) (fun w' hw' => ?_) ?_
  rotate_left
  · go_simp; with_reducible rfl
  simp only [Act.put, List.setIfInBounds_toArray, List.set_cons_zero, List.set_cons_succ]
  refine wpR_take (i := 5) (v := ?_) (Upd.road _) (some 28) rfl (by kernel_rfl) (by kernel_rfl) (by kernel_rfl) (by kernel_rfl) (by kernel_rfl) (fun _ _ _ h => h) (by kernel_rfl) (fun w' hw' => ?_) ?_
  rotate_left
  · have qb := (hw'.2.2.2.2 N (blk_lt hBd.out) (by omega)).trans hBd.out; have q3 := blk_cell (j := 3) (v := .int .i64 r.gen) qb rfl; clear qb; go_simp; with_reducible rfl
  simp only [Act.put, List.setIfInBounds_toArray, List.set_cons_zero, List.set_cons_succ]
  refine wpR_one 3 rfl (by kernel_rfl) (by kernel_rfl) (fun K hK => ?_)
  go_simp
  refine (rtextput_any (some ⟨w1.heap.size, 0, none⟩) 2 2 [107, kb] rfl r.key (by omega) _ hlit.out).mono ?_
  rintro e w3 ⟨v3, rfl, ho3, hbb⟩
  refine hK _ _ (fun _ => Upd.of_below hbb) ?_
  clear hK K
  have hb3 := Lib.hid (hbd.out.trans (hbb.mono hbd.out.size))
  obtain ⟨A3, c3, rfl, -, -, hR3, -⟩ := ho3.form
  obtain ⟨m3, hm3⟩ : ∃ m3, (([107, kb] ++ enc r.key.length) ++ r.key).length = m3 := ⟨_, rfl⟩
  have hm3b : m3 ≤ 40 := by rw [← hm3]; have := (enc_length r.key.length (by omega)).2; simp only [List.length_append, List.length_cons, List.length_nil]; omega
  rw [hm3]
  replace hm3 := Lib.hid hm3
  replace hR3 := Lib.hid hR3
  clear hbb ho3
  try simp only [Act.put, List.setIfInBounds_toArray, List.set_cons_zero, List.set_cons_succ]
  refine wpR_one 6 rfl (by kernel_rfl) (by kernel_rfl) (fun K hK => ?_)
  go_simp
  refine (rput_any A3 m3 c3 _ hm3.out r.gen (by omega) (by omega) (by omega) _ hR3.out).mono ?_
  rintro e w4 ⟨v4, rfl, ho4, hbb⟩
  refine hK _ _ (fun _ => Upd.of_below hbb) ?_
  clear hK K
  have hb4 := Lib.hid (hb3.out.trans (hbb.mono hb3.out.size))
  replace ho4 := ho4.more (base' := w1.heap.size) hb3.out.size
  obtain ⟨p4, hp4⟩ : ∃ p4, ((([107, kb] ++ enc r.key.length) ++ r.key) ++ enc r.gen.toNat) = p4 := ⟨_, rfl⟩
  rw [hp4] at ho4 hfe
  have hpl : p4.length ≤ 60 := by rw [← hp4]; have h1 := (enc_length r.key.length (by omega)).2; have h2 := (enc_length r.gen.toNat (by omega)).2; simp only [List.length_append, List.length_cons, List.length_nil]; omega
  obtain ⟨A4, c4, rfl, -, -, -, -⟩ := ho4.form
  obtain ⟨n4, hn4⟩ : ∃ n4, p4.length = n4 := ⟨_, rfl⟩
  rw [hn4] at hpl ho4 ⊢
  replace hp4 := Lib.hid hp4
  replace hn4 := Lib.hid hn4
  replace ho4 := Lib.hid ho4
  clear hbb hR3
  try simp only [Act.put, List.setIfInBounds_toArray, List.set_cons_zero, List.set_cons_succ]
  refine wpR_take (i := 7) (v := ?_) (Upd.road _) (some 4) rfl (by kernel_rfl) (by kernel_rfl) (by kernel_rfl) (by kernel_rfl) (by kernel_rfl) (fun _ _ _ h => h) (by kernel_rfl) (fun w' hw' => ?_) ?_
  rotate_left
  · go_simp; with_reducible rfl
  simp only [Act.put, List.setIfInBounds_toArray, List.set_cons_zero, List.set_cons_succ]
  refine wpR_done (by kernel_rfl) ?_ _
  have hB4 := Lib.hid (blk_below hB.out hb4.out)
  have x0 := blk_cell (j := 0) (v := .int .i64 r.kind) hB4.out rfl
  clear hb3 hbd hlit hBd hm3
  go_wp2_with fail
  clear x0
  obtain ⟨we, hwe⟩ : ∃ wd, wd = w4.drew := ⟨_, rfl⟩
  have hbe : Hid (Below w1.heap.size w1 we) := Lib.hid (by rw [hwe]; exact hb4.out.drew)
  have hoe : Hid (OB we w1.heap.size (.slice A4 n4 c4) p4) := Lib.hid (by rw [hwe]; exact ho4.out.drew)
  have hBe := Lib.hid (blk_below hB.out hbe.out)
  clear hb4 ho4 hB4
  refine wpR_region (Upd (fun k => w1.heap.size ≤ k)) 9999 (by kernel_rfl) ?_
  (rw [← hwe]; replace hwe := Lib.hid hwe)
  refine wpR_take (i := 0) (v := ?_) (Upd.road _) (some 33) rfl (by kernel_rfl) (by kernel_rfl) (by kernel_rfl) (by kernel_rfl) (by kernel_rfl) (fun _ _ _ h => h) (by kernel_rfl) (fun w' hw' => ?_) ?_
  rotate_left
  · go_simp; with_reducible rfl
  simp only [Act.put, List.setIfInBounds_toArray, List.set_cons_zero, List.set_cons_succ]
  refine wpR_take (i := 1) (v := ?_) (Upd.road _) (some 34) rfl (by kernel_rfl) (by kernel_rfl) (by kernel_rfl) (by kernel_rfl) (by kernel_rfl) (fun _ _ _ h => h) (by kernel_rfl) (fun w' hw' => ?_) ?_
  rotate_left
  · go_simp; with_reducible rfl
  simp only [Act.put, List.setIfInBounds_toArray, List.set_cons_zero, List.set_cons_succ]
  refine wpR_take (i := 2) (v := ?_) (Upd.road _) (some 35) rfl (by kernel_rfl) (by kernel_rfl) (by kernel_rfl) (by kernel_rfl) (by kernel_rfl) (fun _ _ _ h => h) (by kernel_rfl) (fun w' hw' => ?_) ?_
  rotate_left
  · have qb := (hw'.2.2.2.2 N (blk_lt hBe.out) (by omega)).trans hBe.out; have q4 := blk_cell (j := 4) (v := .int .i64 r.group) qb rfl; clear qb; go_simp; with_reducible rfl
  simp only [Act.put, List.setIfInBounds_toArray, List.set_cons_zero, List.set_cons_succ]
  refine wpR_take (i := 3) (v := ?_) (Upd.road _) (some 36) rfl (by kernel_rfl) (by kernel_rfl) (by kernel_rfl) (by kernel_rfl) (by kernel_rfl) (fun _ _ _ h => h) (by kernel_rfl) (fun w' hw' => ?_) ?_
  rotate_left
  · go_simp; with_reducible rfl
  simp only [Act.put, List.setIfInBounds_toArray, List.set_cons_zero, List.set_cons_succ]
  refine wpR_take (i := 4) (v := ?_) (Upd.road _) (some 37) rfl (by kernel_rfl) (by kernel_rfl) (by kernel_rfl) (by kernel_rfl) (by kernel_rfl) (fun _ _ _ h => h) (by kernel_rfl) (fun w' hw' => ?_) ?_
  rotate_left
  · go_simp; with_reducible rfl
  simp only [Act.put, List.setIfInBounds_toArray, List.set_cons_zero, List.set_cons_succ]
  refine wpR_take (i := 5) (v := ?_) (Upd.road _) (some 38) rfl (by kernel_rfl) (by kernel_rfl) (by kernel_rfl) (by kernel_rfl) (by kernel_rfl) (fun _ _ _ h => h) (by kernel_rfl) (fun w' hw' => ?_) ?_
  rotate_left
  · have qb := (hw'.2.2.2.2 N (blk_lt hBe.out) (by omega)).trans hBe.out; have q5 := blk_cell (j := 5) (v := .int .i64 r.groups) qb rfl; clear qb; go_simp; with_reducible rfl
  simp only [Act.put, List.setIfInBounds_toArray, List.set_cons_zero, List.set_cons_succ]
  refine wpR_take (i := 6) (v := ?_) (Upd.road _) (some 39) rfl (by kernel_rfl) (by kernel_rfl) (by kernel_rfl) (by kernel_rfl) (by kernel_rfl) (fun _ _ _ h => h) (by kernel_rfl) (fun w' hw' => ?_) ?_
  rotate_left
  · go_simp; with_reducible rfl
  simp only [Act.put, List.setIfInBounds_toArray, List.set_cons_zero, List.set_cons_succ]
  refine wpR_take (i := 7) (v := ?_) (Upd.road _) (some 40) rfl (by kernel_rfl) (by kernel_rfl) (by kernel_rfl) (by kernel_rfl) (by kernel_rfl) (fun _ _ _ h => h) (by kernel_rfl) (fun w' hw' => ?_) ?_
  rotate_left
  · go_simp; with_reducible rfl
  simp only [Act.put, List.setIfInBounds_toArray, List.set_cons_zero, List.set_cons_succ]
  refine wpR_take (i := 8) (v := ?_) (Upd.road _) (some 41) rfl (by kernel_rfl) (by kernel_rfl) (by kernel_rfl) (by kernel_rfl) (by kernel_rfl) (fun _ _ _ h => h) (by kernel_rfl) (fun w' hw' => ?_) ?_
  rotate_left
  · have qb := (hw'.2.2.2.2 N (blk_lt hBe.out) (by omega)).trans hBe.out; have q6 := blk_cell (j := 6) (v := .int .i64 r.index) qb rfl; clear qb; go_simp; with_reducible rfl
  simp only [Act.put, List.setIfInBounds_toArray, List.set_cons_zero, List.set_cons_succ]
  refine wpR_take (i := 9) (v := ?_) (Upd.road _) (some 42) rfl (by kernel_rfl) (by kernel_rfl) (by kernel_rfl) (by kernel_rfl) (by kernel_rfl) (fun _ _ _ h => h) (by kernel_rfl) (fun w' hw' => ?_) ?_
  rotate_left
  · go_simp; with_reducible rfl
  simp only [Act.put, List.setIfInBounds_toArray, List.set_cons_zero, List.set_cons_succ]
  refine wpR_take (i := 12) (v := ?_) (Upd.road _) (some 45) rfl (by kernel_rfl) (by kernel_rfl) (by kernel_rfl) (by kernel_rfl) (by kernel_rfl) (fun _ _ _ h => h) (by kernel_rfl) (fun w' hw' => ?_) ?_
  rotate_left
  · go_simp; with_reducible rfl
  simp only [Act.put, List.setIfInBounds_toArray, List.set_cons_zero, List.set_cons_succ]
  refine wpR_take (i := 13) (v := ?_) (Upd.road _) (some 46) rfl (by kernel_rfl) (by kernel_rfl) (by kernel_rfl) (by kernel_rfl) (by kernel_rfl) (fun _ _ _ h => h) (by kernel_rfl) (fun w' hw' => ?_) ?_
  rotate_left
  · have qb := (hw'.2.2.2.2 N (blk_lt hBe.out) (by omega)).trans hBe.out; have q7 := blk_cell (j := 7) (v := .int .i64 r.size) qb rfl; clear qb; go_simp; with_reducible rfl
  simp only [Act.put, List.setIfInBounds_toArray, List.set_cons_zero, List.set_cons_succ]
  refine wpR_one 10 rfl (by kernel_rfl) (by kernel_rfl) (fun K hK => ?_)
  go_simp
  refine hK _ _ (fun _ => Upd.of_below ((Below.refl _ _).alloc (Nat.le_refl _) _)) ?_
  clear hK K
  have ho5 := Lib.hid (hoe.out.alloc (.cells #[.int .u8 (U b1), .int .u8 (U b2), .int .u8 (U b3)] 5))
  have hb5 := Lib.hid (hbe.out.alloc hbe.out.size (.cells #[.int .u8 (U b1), .int .u8 (U b2), .int .u8 (U b3)] 5))
  have hli := Rd.lit we #[.int .u8 (U b1), .int .u8 (U b2), .int .u8 (U b3)] 5 [b1, b2, b3] rfl ((we.alloc (.cells #[.int .u8 (U b1), .int .u8 (U b2), .int .u8 (U b3)] 5)).heap.size) (by simp)
  obtain ⟨M5, hM5⟩ : ∃ M5, we.heap.size = M5 := ⟨_, rfl⟩
  rw [hM5] at hli ⊢
  obtain ⟨w5, hw5⟩ : ∃ w5, we.alloc (.cells #[.int .u8 (U b1), .int .u8 (U b2), .int .u8 (U b3)] 5) = w5 := ⟨_, rfl⟩
  rw [hw5] at ho5 hb5 hli ⊢
  replace hli := Lib.hid hli
  replace hw5 := Lib.hid hw5
  replace hM5 := Lib.hid hM5
  try simp only [Act.put, List.setIfInBounds_toArray, List.set_cons_zero, List.set_cons_succ]
  refine wpR_one 11 rfl (by kernel_rfl) (by kernel_rfl) (fun K hK => ?_)
  refine wp_append_bytes (.tmp 33) (.tmp 43) rfl w1.heap.size (.slice A4 n4 c4) p4 rfl ho5.out _ (some ⟨M5, 0, none⟩) 3 [b1, b2, b3] rfl hli.out (by rw [hn4.out]; simp; omega) hb5.out.size ?_
  intro v6 w6 ho6 hg6
  refine hK _ _ (fun _ => (Upd.of_own hg6).mono (fun k hk => (ho5.out.lt k hk).1)) ?_
  clear hK K
  have hb6 := Lib.hid (below_app ho5.out hb5.out hb5.out.size hg6)
  have hl6 : (p4 ++ [b1, b2, b3]).length = n4 + 3 := by rw [List.length_append, hn4.out]; rfl
  obtain ⟨A6, c6, rfl, -, -, hR6, -⟩ := ho6.form
  rw [hl6]
  replace hl6 := Lib.hid hl6
  replace hR6 := Lib.hid hR6
  clear hg6 ho6 hli ho5
  try simp only [Act.put, List.setIfInBounds_toArray, List.set_cons_zero, List.set_cons_succ]
  refine wpR_one 14 rfl (by kernel_rfl) (by kernel_rfl) (fun K hK => ?_)
  go_simp
  refine (rput_any A6 (n4 + 3) c6 _ hl6.out r.size (by omega) (by omega) (by omega) _ hR6.out).mono ?_
  rintro e w7 ⟨v7, rfl, ho7, hbb⟩
  refine hK _ _ (fun _ => Upd.of_below hbb) ?_
  clear hK K
  have hb7 := Lib.hid (hb6.out.trans (hbb.mono hb6.out.size))
  replace ho7 := ho7.more (base' := w1.heap.size) hb6.out.size
  obtain ⟨p7, hp7⟩ : ∃ p7, (p4 ++ [b1, b2, b3]) ++ enc r.size.toNat = p7 := ⟨_, rfl⟩
  rw [hp7] at ho7 hfe
  have hpl7 : p7.length ≤ 80 := by rw [← hp7, List.length_append, hl6.out]; have h2 := (enc_length r.size.toNat (by omega)).2; omega
  obtain ⟨A7, c7, rfl, -, -, -, -⟩ := ho7.form
  obtain ⟨n7, hn7⟩ : ∃ n4, p7.length = n4 := ⟨_, rfl⟩
  rw [hn7] at hpl7 ho7 ⊢
  replace hp7 := Lib.hid hp7
  replace hn7 := Lib.hid hn7
  replace ho7 := Lib.hid ho7
  clear hbb hR6
  try simp only [Act.put, List.setIfInBounds_toArray, List.set_cons_zero, List.set_cons_succ]
  refine wpR_take (i := 15) (v := ?_) (Upd.road _) (some 4) rfl (by kernel_rfl) (by kernel_rfl) (by kernel_rfl) (by kernel_rfl) (by kernel_rfl) (fun _ _ _ h => h) (by kernel_rfl) (fun w' hw' => ?_) ?_
  rotate_left
  · go_simp; with_reducible rfl
  simp only [Act.put, List.setIfInBounds_toArray, List.set_cons_zero, List.set_cons_succ]
  refine wpR_done (by kernel_rfl) ?_ _
  clear hb5 hb6 hbe hoe hBe
  go_wp2_with fail
  obtain ⟨wf, hwf⟩ : ∃ wd, wd = w7.drew := ⟨_, rfl⟩
  have hbf : Hid (Below w1.heap.size w1 wf) := Lib.hid (by rw [hwf]; exact hb7.out.drew)
  have hof : Hid (OB wf w1.heap.size (.slice A7 n7 c7) p7) := Lib.hid (by rw [hwf]; exact ho7.out.drew)
  have hBf := Lib.hid (blk_below hB.out hbf.out)
  clear hb7 ho7
  refine wpR_region (Upd (fun k => w1.heap.size ≤ k)) 9999 (by kernel_rfl) ?_
  (rw [← hwf]; replace hwf := Lib.hid hwf)
  refine wpR_take (i := 0) (v := ?_) (Upd.road _) (some 48) rfl (by kernel_rfl) (by kernel_rfl) (by kernel_rfl) (by kernel_rfl) (by kernel_rfl) (fun _ _ _ h => h) (by kernel_rfl) (fun w' hw' => ?_) ?_
  rotate_left
  · go_simp; with_reducible rfl
  simp only [Act.put, List.setIfInBounds_toArray, List.set_cons_zero, List.set_cons_succ]
  refine wpR_take (i := 1) (v := ?_) (Upd.road _) (some 49) rfl (by kernel_rfl) (by kernel_rfl) (by kernel_rfl) (by kernel_rfl) (by kernel_rfl) (fun _ _ _ h => h) (by kernel_rfl) (fun w' hw' => ?_) ?_
  rotate_left
  · go_simp; with_reducible rfl
  simp only [Act.put, List.setIfInBounds_toArray, List.set_cons_zero, List.set_cons_succ]
  refine wpR_take (i := 2) (v := ?_) (Upd.road _) (some 50) rfl (by kernel_rfl) (by kernel_rfl) (by kernel_rfl) (by kernel_rfl) (by kernel_rfl) (fun _ _ _ h => h) (by kernel_rfl) (fun w' hw' => ?_) ?_
  rotate_left
  · have qb := (hw'.2.2.2.2 N (blk_lt hBf.out) (by omega)).trans hBf.out; have q8 := blk_cell (j := 8) (v := .string (bs r.sum)) qb rfl; clear qb; go_simp; with_reducible rfl
  simp only [Act.put, List.setIfInBounds_toArray, List.set_cons_zero, List.set_cons_succ]
  refine wpR_take (i := 5) (v := ?_) (Upd.road _) (some 53) rfl (by kernel_rfl) (by kernel_rfl) (by kernel_rfl) (by kernel_rfl) (by kernel_rfl) (fun _ _ _ h => h) (by kernel_rfl) (fun w' hw' => ?_) ?_
  rotate_left
  · go_simp; with_reducible rfl
  simp only [Act.put, List.setIfInBounds_toArray, List.set_cons_zero, List.set_cons_succ]
  refine wpR_take (i := 6) (v := ?_) (Upd.road _) (some 54) rfl (by kernel_rfl) (by kernel_rfl) (by kernel_rfl) (by kernel_rfl) (by kernel_rfl) (fun _ _ _ h => h) (by kernel_rfl) (fun w' hw' => ?_) ?_
  rotate_left
  · have qb := (hw'.2.2.2.2 N (blk_lt hBf.out) (by omega)).trans hBf.out; have q9 := blk_cell (j := 9) (v := .slice A r.data.length c) qb rfl; clear qb; go_simp; with_reducible rfl
  simp only [Act.put, List.setIfInBounds_toArray, List.set_cons_zero, List.set_cons_succ]
  refine wpR_one 3 rfl (by kernel_rfl) (by kernel_rfl) (fun K hK => ?_)
  obtain ⟨cs, w8, hcv, hcs, hR8, hb8⟩ := run_tobytes wf r.sum
  rw [hsl.out] at hcv
  go_simp
  refine hK _ _ (fun _ => Upd.of_below hb8) ?_
  clear hK K
  have ho8 := Lib.hid (hof.out.below hb8)
  replace hb8 := Lib.hid (hbf.out.trans (hb8.mono hbf.out.size))
  replace hR8 := Lib.hid hR8
  clear hcv
  try simp only [Act.put, List.setIfInBounds_toArray, List.set_cons_zero, List.set_cons_succ]
  refine wpR_one 4 rfl (by kernel_rfl) (by kernel_rfl) (fun K hK => ?_)
  refine wp_append_bytes (.tmp 48) (.tmp 51) rfl w1.heap.size (.slice A7 n7 c7) p7 rfl ho8.out _ (some ⟨wf.heap.size, 0, none⟩) cs r.sum (by rw [hsl.out]; rfl) hR8.out (by rw [hn7.out, hsl.out]; omega) hb8.out.size ?_
  intro v9 w9 ho9 hg9
  refine hK _ _ (fun _ => (Upd.of_own hg9).mono (fun k hk => (ho8.out.lt k hk).1)) ?_
  clear hK K
  have hb9 := Lib.hid (below_app ho8.out hb8.out hb8.out.size hg9)
  have hl9 : (p7 ++ r.sum).length = n7 + 32 := by rw [List.length_append, hn7.out, hsl.out]
  obtain ⟨A9, c9, rfl, -, -, -, -⟩ := ho9.form
  rw [hl9] at ho9 ⊢
  replace hl9 := Lib.hid hl9
  replace ho9 := Lib.hid ho9
  clear hg9 ho8 hb8 hR8
  have hRd := Lib.hid (hR.out.keep (w' := w9) (fun p hp => hb9.out.cell hp))
  try simp only [Act.put, List.setIfInBounds_toArray, List.set_cons_zero, List.set_cons_succ]
  refine wpR_one 7 rfl (by kernel_rfl) (by kernel_rfl) (fun K hK => ?_)
  refine wp_append_bytes (.tmp 52) (.tmp 54) rfl w1.heap.size (.slice A9 (n7 + 32) c9) (p7 ++ r.sum) rfl ho9.out _ A c r.data rfl hRd.out (by rw [hl9.out, hdl.out]; omega) hb9.out.size ?_
  intro v10 w10 ho10 hg10
  refine hK _ _ (fun _ => (Upd.of_own hg10).mono (fun k hk => (ho9.out.lt k hk).1)) ?_
  clear hK K
  have hb10 := Lib.hid (below_app ho9.out hb9.out hb9.out.size hg10)
  rw [hfe.out] at ho10
  have hfl0 := hfl
  have ho := ho10.more (base' := w.heap.size) hqs
  clear ho10
  obtain ⟨m, hm⟩ : ∃ m, (flds r).length = m := ⟨_, rfl⟩
  have hres : Hid (flds r ++ bytes4 (crc (flds r)) = encB r) := Lib.hid rfl
  obtain ⟨fl, hfl⟩ : ∃ fl, flds r = fl := ⟨_, rfl⟩
  rw [hfl] at ho hres hm
  rw [hfl, hm] at hfl0
  replace hfl := Lib.hid hfl
  obtain ⟨A5, c5, rfl, hc5, -, hR5, -⟩ := ho.form
  rw [hm] at ho hc5 ⊢
  replace hR5 := Lib.hid hR5
  replace hm := Lib.hid hm
  replace ho := Lib.hid ho
  clear hg10 ho9 hb9
  try simp only [Act.put, List.setIfInBounds_toArray, List.set_cons_zero, List.set_cons_succ]
  refine wpR_take (i := 8) (v := ?_) (Upd.road _) (some 4) rfl (by kernel_rfl) (by kernel_rfl) (by kernel_rfl) (by kernel_rfl) (by kernel_rfl) (fun _ _ _ h => h) (by kernel_rfl) (fun w' hw' => ?_) ?_
  rotate_left
  · go_simp; with_reducible rfl
  simp only [Act.put, List.setIfInBounds_toArray, List.set_cons_zero, List.set_cons_succ]
  refine wpR_done (by kernel_rfl) ?_ _
  have hq5 := Lib.hid (hq.out.trans (hb10.out.mono hqs))
  replace hq := hq5
  clear hq5 hb10 hbf hof hBf hR hB hRd
  have hl4 : Hid (∀ k, k ≤ 4 → (fl ++ (bytes4 (crc fl)).take k).length = m + k) := Lib.hid (fun k hk4 => by rw [List.length_append, hm.out, List.length_take]; have : (bytes4 (crc fl)).length = 4 := rfl; omega)
  go_wp2_with fail
  refine (rsum_at A5 m c5 fl hm.out _ hR5.out (by omega)).mono ?_
  rintro e wq ⟨rfl, rfl⟩
  obtain ⟨sm, hsm⟩ : ∃ sm, crc fl = sm := ⟨_, rfl⟩
  rw [hsm] at hres hl4 ⊢
  replace hsm := Lib.hid hsm
  go_wp2_with fail
  go_loopw [4, 6] (fun v i wr => ∃ (k : Nat) (A6 : Option Addr) (c6 : Nat), i = .int .i64 k ∧ v = .slice A6 (m + k) c6 ∧ k ≤ 4 ∧ Hid (OB wr w.heap.size (.slice A6 (m + k) c6) (fl ++ (bytes4 sm).take k)) ∧ Hid (Below w.heap.size w wr)) (fun _ i _ => 4 - (intOf i).toNat)
  case atStart => exact ⟨0, A5, c5, rfl, rfl, Nat.zero_le _, Lib.hid (by rw [List.take_zero, List.append_nil]; exact ho.out), hq⟩
  case round =>
    obtain ⟨k, A6, c6, rfl, rfl, hk4, ho6, hq6⟩ := hrel
    clear ho hR5 hq
    by_cases hlt : k < 4
    · have hst := b4_take sm k hlt
      have hlk := hl4.out k (by omega)
      obtain ⟨x, hx⟩ : ∃ x, lo8 (sm >>> (8 * k)) = x := ⟨_, rfl⟩
      have hlit := Lib.hid (Rd.lit wr #[.int .u8 (U x)] 5 [x] rfl ((wr.alloc (.cells #[.int .u8 (U x)] 5)).heap.size) (by simp))
      have ho7 := Lib.hid (ho6.out.alloc (.cells #[.int .u8 (U x)] 5))
      have hq7 := Lib.hid (hq6.out.alloc hq6.out.size (.cells #[.int .u8 (U x)] 5))
      rw [hx] at hst
      replace hst := Lib.hid hst
      replace hlk := Lib.hid hlk
      go_wp2_with (at_builtin; go_must (refine wpl_append rfl (.tmp 62) (.tmp 69) rfl w.heap.size (.slice A6 (m + k) c6) (fl ++ (bytes4 sm).take k) rfl ho7.out _ _ 1 [x] rfl hlit.out (by rw [hlk.out]; simp; omega) hq7.out.size ?_); intro v8 w8 ho8 hg8 _; have hb8 := Lib.hid (below_app ho7.out hq7.out hq7.out.size hg8); rw [List.append_assoc, hst.out] at ho8; obtain ⟨A8, c8, rfl, -, -, -, -⟩ := ho8.form; rw [hl4.out (k + 1) (by omega)] at ho8 ⊢; replace ho8 := Lib.hid ho8; clear hg8)
      go_roundw
      case rel => exact ⟨k + 1, A8, c8, by go_num, by first | rfl | (rw [Nat.add_assoc]), by omega, ho8, hb8⟩
      case measure => simp [intOf]; omega
    · obtain rfl : k = 4 := by omega
      have ho9 := ho6.out
      rw [show (bytes4 sm).take 4 = bytes4 sm from rfl] at ho9
      rw [hres.out] at ho9
      replace ho9 := Lib.hid ho9
      go_wp2_with fail
      go_ret2
      exact ⟨_, rfl, ho9.out, hq6.out⟩
set_option maxHeartbeats 8000000 in
set_option maxRecDepth 20000 in
theorem rencode_no (r : Rc) (A : Option Addr) (c : Nat) (hok : r.Ok) (hg : goodB r = false) (w : World) (h : Rd w w.heap.size A r.data) :
    Calls Try.prog 19 #[r.agg A c] w fun e w' => e = .returned (.tuple #[.slice none 0 0, .int .i64 12]) ∧ Below w.heap.size w w' := by
  have hbb := (Below.refl w.heap.size w).alloc (Nat.le_refl _) (.cells #[.int .i64 r.kind, .int .i64 r.cart, .string (bs r.key), .int .i64 r.gen, .int .i64 r.group, .int .i64 r.groups, .int .i64 r.index, .int .i64 r.size, .string (bs r.sum), .slice A r.data.length c] 34)
  have hR := Lib.hid (h.up hbb)
  have hq := Lib.hid hbb
  clear hbb h
  have hgd := rgood_any r A c hok _ hR.out
  rw [hg] at hgd
  unfold Rc.agg at hgd ⊢
  replace hgd := Lib.hid hgd
  replace hg := Lib.hid hg
  go_enter Try.func19, Try.ntmps19
  go_wp2_with fail
  refine hgd.out.mono ?_
  rintro e w1 ⟨rfl, hbb⟩
  replace hq := Lib.hid (hq.out.trans (hbb.mono hq.out.size))
  go_wp2_with fail
  go_ret2
  exact ⟨rfl, hq.out⟩
theorem rencode_ok (r : Rc) (A : Option Addr) (c : Nat) (hok : r.Ok) (hg : goodB r = true) (w : World) (h : Rd w w.heap.size A r.data) :
    Calls Try.prog 19 #[r.agg A c] w fun e w' => ∃ v, e = .returned (.tuple #[v, .int .i64 0]) ∧ OB w' w.heap.size v (encB r) ∧ Below w.heap.size w w' := by
  rcases good_kind hg with hk | hk | hk
  · exact rencode_1 r A c hok hg hk w h
  · exact rencode_2 r A c hok hg hk w h
  · exact rencode_3 r A c hok hg hk w h
end Go.Proofs.Yticdkmnjolkacab
