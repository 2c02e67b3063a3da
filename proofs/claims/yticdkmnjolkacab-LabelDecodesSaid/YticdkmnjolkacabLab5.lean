/- Records of label: Encode. -/
import Derived.Test.YticdkmnjolkacabLab4
namespace Go.Proofs.Yticdkmnjolkacab
set_option linter.unusedVariables false
set_option linter.unusedSimpArgs false
open Go Go.RowKit
def encB (r : Rc) : List UInt8 := flds r ++ bytes4 (crc (flds r))
theorem inB_iff (n lo hi : Int) : inB n lo hi = true ↔ lo ≤ n ∧ n ≤ hi := by unfold inB; simp
theorem good1 {r : Rc} (hg : goodB r = true) (hk : r.kind = 1) : 0 ≤ r.cart ∧ r.cart ≤ 31 ∧ r = bare1 r := by
  rw [goodB_1 r hk, Bool.and_eq_true, inB_iff] at hg
  exact ⟨hg.1.1, hg.1.2, of_decide_eq_true hg.2⟩
theorem name_iff (r : Rc) : nameB r = true ↔ (1 ≤ r.key.length ∧ r.key.length ≤ 16) ∧ 0 ≤ r.gen ∧ r.gen ≤ 1099511627776 := by
  unfold nameB
  rw [Bool.and_eq_true, inB_iff, inB_iff]
  omega
theorem good3 {r : Rc} (hg : goodB r = true) (hk : r.kind = 3) : (1 ≤ r.key.length ∧ r.key.length ≤ 16) ∧ 0 ≤ r.gen ∧ r.gen ≤ 1099511627776 ∧ r = bare3 r := by
  rw [goodB_3 r hk, Bool.and_eq_true, name_iff] at hg
  exact ⟨hg.1.1, hg.1.2.1, hg.1.2.2, of_decide_eq_true hg.2⟩
theorem good2 {r : Rc} (hg : goodB r = true) (hk : r.kind = 2) : r.cart = 0 ∧ (1 ≤ r.key.length ∧ r.key.length ≤ 16) ∧ (0 ≤ r.gen ∧ r.gen ≤ 1099511627776) ∧ (0 ≤ r.size ∧ r.size ≤ 512) ∧ r.groups = groupsOf r.size ∧
    (0 ≤ r.group ∧ r.group ≤ r.groups - 1) ∧ (0 ≤ r.index ∧ r.index ≤ 9) ∧ r.sum.length = 32 ∧ r.data.length = 16 ∧ 1 ≤ r.groups ∧ r.groups ≤ 5 := by
  rw [goodB_2 r hk, Bool.and_eq_true, Bool.and_eq_true, name_iff] at hg
  obtain ⟨⟨h1, h2⟩, h3⟩ := hg
  unfold shardB at h3
  simp only [Bool.and_eq_true, inB_iff, beq_iff_eq] at h3 h1
  obtain ⟨⟨⟨⟨⟨a, b⟩, d⟩, e⟩, f⟩, g⟩ := h3
  have := groupsOf_bd r.size ((inB_iff _ _ _).2 a)
  exact ⟨h1, h2.1, h2.2, a, b, d, e, by omega, by omega, by omega, by omega⟩
theorem good_kind {r : Rc} (hg : goodB r = true) : r.kind = 1 ∨ r.kind = 2 ∨ r.kind = 3 := by
  by_cases h1 : r.kind = 1
  · exact .inl h1
  · by_cases h2 : r.kind = 2
    · exact .inr (.inl h2)
    · by_cases h3 : r.kind = 3
      · exact .inr (.inr h3)
      · rw [goodB_no r h1 h2 h3] at hg; cases hg
theorem encl (z : Int) (h : z ≤ 9223372036854775807) : (enc z.toNat).length ≤ 9 := (enc_length _ (by omega)).2
theorem flds_len {r : Rc} (hg : goodB r = true) : (flds r).length ≤ 200 := by
  rcases good_kind hg with hk | hk | hk
  · have h1 := good1 hg hk
    have := encl r.cart (by omega)
    unfold flds body
    rw [if_pos hk]
    simp only [List.length_cons]
    omega
  · have h2 := good2 hg hk
    have e1 := (enc_length r.key.length (by omega)).2
    have e2 := encl r.gen (by omega)
    have e3 := encl r.group (by omega)
    have e4 := encl r.groups (by omega)
    have e5 := encl r.index (by omega)
    have e6 := encl r.size (by omega)
    unfold flds body
    rw [if_neg (by omega), if_neg (by omega)]
    simp only [List.length_cons, List.length_append]
    omega
  · have h3 := good3 hg hk
    have e1 := (enc_length r.key.length (by omega)).2
    have e2 := encl r.gen (by omega)
    unfold flds body
    rw [if_neg (by omega), if_pos hk]
    simp only [List.length_cons, List.length_append]
    omega
theorem fields_any (r : Rc) (A : Option Addr) (c : Nat) (hg : goodB r = true) (w : World) (hR : Rd w w.heap.size A r.data) :
    Calls Try.prog 32 #[r.agg A c] w fun e w' => ∃ v, e = .returned v ∧ OB w' w.heap.size v (flds r) ∧ Below w.heap.size w w' := by
  rcases good_kind hg with hk | hk | hk
  · have h1 := good1 hg hk
    obtain ⟨kind, cart, key, gen, group, groups, index, size, sum, data⟩ := r
    simp only at hk h1 hR
    subst hk
    exact fields1 cart key gen group groups index size sum data A c (by unfold R64; omega) w
  · have h1 := good2 hg hk
    obtain ⟨kind, cart, key, gen, group, groups, index, size, sum, data⟩ := r
    simp only at hk h1 hR
    subst hk
    refine fields2 cart key gen group groups index size sum data A c (by omega) (by omega) (by omega) (fun k hk4 => ?_) (by omega) (by omega) w hR
    match k, hk4 with
    | 0, _ => show 0 ≤ group ∧ group ≤ 512; omega
    | 1, _ => show 0 ≤ groups ∧ groups ≤ 512; omega
    | 2, _ => show 0 ≤ index ∧ index ≤ 512; omega
    | 3, _ => show 0 ≤ size ∧ size ≤ 512; omega
  · have h1 := good3 hg hk
    obtain ⟨kind, cart, key, gen, group, groups, index, size, sum, data⟩ := r
    simp only at hk h1 hR
    subst hk
    exact fields3 cart key gen group groups index size sum data A c (by omega) (by omega) (by omega) w
set_option maxHeartbeats 4000000 in
set_option maxRecDepth 10000 in
theorem encode_no (r : Rc) (A : Option Addr) (c : Nat) (hok : r.Ok) (hg : goodB r = false) (w : World) (h : Rd w w.heap.size A r.data) :
    Calls Try.prog 18 #[r.agg A c] w fun e w' => e = .returned (.tuple #[.slice none 0 0, .int .i64 12]) ∧ Below w.heap.size w w' := by
  have hb := Lib.hid ((Below.refl w.heap.size w).alloc (Nat.le_refl _) (.cells #[.int .i64 r.kind, .int .i64 r.cart, .string (bs r.key), .int .i64 r.gen, .int .i64 r.group, .int .i64 r.groups, .int .i64 r.index, .int .i64 r.size, .string (bs r.sum), .slice A r.data.length c] 34))
  have hR := Lib.hid (h.up hb.out)
  have hgd := Lib.hid (good_any r A c hok _ hR.out)
  rw [hg] at hgd
  replace hg := Lib.hid hg
  unfold Rc.agg at hgd ⊢
  clear h hok
  go_enter Try.func18, Try.ntmps18
  go_wp2_with fail
  refine hgd.out.mono ?_
  rintro e w2 ⟨rfl, hbb⟩
  replace hbb := Lib.hid (hb.out.trans (hbb.mono hb.out.size))
  go_wp2
  go_ret2
  exact ⟨rfl, hbb.out⟩
set_option maxHeartbeats 4000000 in
set_option maxRecDepth 10000 in
theorem encode_ok (r : Rc) (A : Option Addr) (c : Nat) (hok : r.Ok) (hg : goodB r = true) (w : World) (h : Rd w w.heap.size A r.data) :
    Calls Try.prog 18 #[r.agg A c] w fun e w' => ∃ v, e = .returned (.tuple #[v, .int .i64 0]) ∧ OB w' w.heap.size v (encB r) ∧ Below w.heap.size w w' := by
  have hb := Lib.hid ((Below.refl w.heap.size w).alloc (Nat.le_refl _) (.cells #[.int .i64 r.kind, .int .i64 r.cart, .string (bs r.key), .int .i64 r.gen, .int .i64 r.group, .int .i64 r.groups, .int .i64 r.index, .int .i64 r.size, .string (bs r.sum), .slice A r.data.length c] 34))
  have hR := Lib.hid (h.up hb.out)
  have hgd := Lib.hid (good_any r A c hok _ hR.out)
  rw [hg] at hgd
  have hlen := flds_len hg
  have hlw := hb.out.size
  replace hg := Lib.hid hg
  unfold Rc.agg at hgd ⊢
  clear h hok
  go_enter Try.func18, Try.ntmps18
  go_wp2_with fail
  refine hgd.out.mono ?_
  rintro e w2 ⟨rfl, hbb⟩
  have hbx := blk_below (heap_alloc_new w (.cells #[.int .i64 r.kind, .int .i64 r.cart, .string (bs r.key), .int .i64 r.gen, .int .i64 r.group, .int .i64 r.groups, .int .i64 r.index, .int .i64 r.size, .string (bs r.sum), .slice A r.data.length c] 34)) hbb
  have hR2 := Lib.hid (hR.out.up hbb)
  have hb2 := Lib.hid (hb.out.trans (hbb.mono hb.out.size))
  have x0 := blk_cell (j := 0) hbx rfl
  have x1 := blk_cell (j := 1) hbx rfl
  have x2 := blk_cell (j := 2) hbx rfl
  have x3 := blk_cell (j := 3) hbx rfl
  have x4 := blk_cell (j := 4) hbx rfl
  have x5 := blk_cell (j := 5) hbx rfl
  have x6 := blk_cell (j := 6) hbx rfl
  have x7 := blk_cell (j := 7) hbx rfl
  have x8 := blk_cell (j := 8) hbx rfl
  have x9 := blk_cell (j := 9) hbx rfl
  clear hbb hbx hR hgd
  have hfd := Lib.hid (fields_any r A c hg.out w2 hR2.out)
  unfold Rc.agg at hfd
  go_wp2_with fail
  clear x0 x1 x2 x3 x4 x5 x6 x7 x8 x9
  refine hfd.out.mono ?_
  rintro e w3 ⟨v3, rfl, ho, hbb⟩
  have hw2 := hb2.out.size
  have hb3 := Lib.hid (hb2.out.trans (hbb.mono hb2.out.size))
  replace ho := ho.more (base' := w.heap.size) hw2
  obtain ⟨A3, c3, rfl, -, -, hR3, -⟩ := ho.form
  obtain ⟨fl, hfl⟩ : ∃ fl, flds r = fl := ⟨_, rfl⟩
  have hres : Hid (fl ++ bytes4 (crc fl) = encB r) := Lib.hid (by rw [← hfl]; rfl)
  rw [hfl] at ho hR3 hlen ⊢
  obtain ⟨m, hm⟩ : ∃ m, fl.length = m := ⟨_, rfl⟩
  rw [hm] at ho hlen ⊢
  replace hm := Lib.hid hm
  replace hfl := Lib.hid hfl
  replace ho := Lib.hid ho
  replace hR3 := Lib.hid hR3
  have hw3 := hb3.out.size
  clear hbb hfd hR2
  go_wp2_with fail
  refine (sum_at A3 m c3 fl hm.out w3 hR3.out (by omega)).mono ?_
  rintro e w' ⟨rfl, rfl⟩
  have hb4 := Lib.hid (hb3.out.alloc hw3 (.cells #[.int .u8 (U (lo8 (crc fl))), .int .u8 (U (lo8 (crc fl >>> 8))), .int .u8 (U (lo8 (crc fl >>> 16))), .int .u8 (U (lo8 (crc fl >>> 24)))] 5))
  go_wp2_with (at_builtin; refine wpl_append rfl (.tmp 13) (.tmp 25) rfl w.heap.size (.slice A3 m c3) fl rfl (ho.out.alloc _) (w3.heap.size + 1) (some ⟨w3.heap.size, 0, none⟩) 4 (bytes4 (crc fl)) rfl (Rd.lit _ _ _ _ rfl _ (by simp)) (by simp [bytes4]; rw [hm.out]; omega) (by simp; omega) ?_; intro v4 w4 ho4 hg4 _; have hb5 := Lib.hid (hb4.out.grown hg4 (by simp; omega) (fun k hk => (ho.out.lt k hk).1)); rw [hres.out] at ho4; obtain ⟨A4, c4, rfl, -, -, -, -⟩ := ho4.form; replace ho4 := Lib.hid ho4; clear hg4)
  go_ret2
  exact ⟨_, rfl, ho4.out, hb5.out⟩
end Go.Proofs.Yticdkmnjolkacab
