/- Encode of a note. -/
import Derived.Test.YtgdbbjijneidaaaJr1
import Derived.Test.YtgdbbjijneidaaaWordWalk
import Derived.Test.YtgdbbjijneidaaaCrcMath
import Derived.Test.YtgdbbjijneidaaaReg2
import Derived.Deep.CutBlock
namespace Go.Proofs.Ytgdbbjijneidaaa
set_option linter.unusedVariables false
set_option linter.unusedSimpArgs false
open Go Go.RowKit
theorem OB.shape {w : World} {base : Nat} {v : Value} {l : List UInt8} (h : OB w base v l) : ∃ A m c, v = .slice A m c := by
  obtain ⟨A, c, e, -⟩ := h.form
  exact ⟨A, _, c, e⟩
theorem Byt.shape {w : World} {v : Value} {l : List UInt8} (h : Byt l v w) : ∃ A m c, v = .slice A m c := by
  obtain ⟨A, c, e, -⟩ := h
  exact ⟨A, _, c, e⟩
theorem OB.gr {w w' : World} {base : Nat} {v : Value} {l : List UInt8} (hr : Gr w w') (h : Hid (OB w base v l)) : Hid (OB w' base v l) := Lib.hid (h.out.below hr)
theorem wp_appB {w : World} {o : Oper} {a : Act} {K : Act → World → Prop} {Q : Exit → Act → World → Prop} (s x : Operand)
    (ho : o.op = .call { callee := .builtin .append, args := #[s, x], argTypes := #[22, 22] })
    (base : Nat) (v : Value) (l : List UInt8) (hs : a.eval s = v) (hown : OB w base v l)
    (u : Value) (news : List UInt8) (hx : a.eval x = u) (hr : Byt news u w)
    (hlen : l.length + news.length ≤ 1000000000) (hbase : base ≤ w.heap.size)
    (h : ∀ v' w', OB w' base v' (l ++ news) → w.grownBy w' v.ownBlock → Below base w w' → K (a.put o.dst v') w') : Oper.wp Try.prog o a w K Q := by
  obtain ⟨i0, hi, hz0, hz1, hz2⟩ := info_parts info_u8
  obtain ⟨A, c, rfl, -, -, hR⟩ := hr
  refine wp_append_any w s x 22 ho base 5 i0 _ 1 1 Try.underlying22 hi hz0 hz1 hz2 rfl (by omega) v l.length (l.map vb) hs hown w.heap.size A news.length c (news.map vb) hx hR (vb_one news) (by simp only [maxLen]; omega) (by omega) hbase fun v' w' h2 h3 _ => h v' w' ?_ h3 ((Below.refl base w).grown h3 hbase hown.up)
  unfold OB
  rw [List.length_append, List.map_append]
  exact h2
theorem put_b (l : List UInt8) (v : Value) (n : Int) (h0 : 0 ≤ n) (h1 : n ≤ 9223372036854775807) (hl : l.length ≤ 1000000) (w : World) (h : Byt l v w) :
    Calls Try.prog 44 #[v, .int .i64 n] w fun e w' => ∃ v', e = .returned v' ∧ OB w' w.heap.size v' (l ++ enc n.toNat) ∧ Gr w w' := by
  obtain ⟨A, c, rfl, -, -, hR⟩ := h
  exact put_any A _ c l rfl n (by omega) h1 (by omega) w hR
theorem text_b (l : List UInt8) (v : Value) (m : List UInt8) (hm : m.length ≤ 1000000) (hl : l.length ≤ 1000000) (w : World) (h : Byt l v w) :
    Calls Try.prog 45 #[v, .string (bs m)] w fun e w' => ∃ v', e = .returned v' ∧ OB w' w.heap.size v' (l ++ (enc m.length ++ m)) ∧ Gr w w' := by
  obtain ⟨A, c, rfl, -, -, hR⟩ := h
  refine (text_any A _ c l rfl m (by omega) w hR).mono ?_
  rintro e w' ⟨v', rfl, ho, hb⟩
  rw [List.append_assoc] at ho
  exact ⟨v', rfl, ho, hb⟩
theorem enc_len9 (n : Nat) (h : n ≤ 9223372036854775807) : (enc n).length ≤ 9 := (enc_length n h).2
theorem encP_len (l : List (Int × Int)) (h : ∀ p ∈ l, (0 ≤ p.1 ∧ p.1 ≤ 31) ∧ (0 ≤ p.2 ∧ p.2 ≤ 1024)) : (encP l).length ≤ 18 * l.length := by
  induction l with
  | nil => simp [encP]
  | cons p l ih =>
    have hp := h p (by simp)
    have h1 := enc_len9 p.1.toNat (by omega)
    have h2 := enc_len9 p.2.toNat (by omega)
    have h3 := ih (fun q hq => h q (by simp [hq]))
    rw [encP_cons]
    simp only [List.length_append, List.length_cons]
    omega
theorem encN_len {n : Nt} (g : Good n) : (encN n).length ≤ 2000 := by
  have a1 := enc_len9 n.kind.toNat (by have := g.kind; omega)
  have a2 := enc_len9 n.key.length (by have := g.key; omega)
  have a3 := enc_len9 n.gen.toNat (by have := g.gen; omega)
  have a4 := enc_len9 n.cart.toNat (by have := g.cart; omega)
  have a5 := enc_len9 n.data.length (by have := g.data; omega)
  have a6 := enc_len9 n.sum.length (by have := g.sum; omega)
  have a7 := enc_len9 n.size.toNat (by have := g.size; omega)
  have a8 := enc_len9 n.places.length (by have := g.many; omega)
  have a9 := encP_len n.places g.all
  have g1 := g.key
  have g2 := g.data
  have g3 := g.sum
  have g4 := g.many
  unfold encN
  simp only [List.length_append]
  omega
set_option maxHeartbeats 4000000 in
set_option maxRecDepth 10000 in
theorem encode_no (n : Nt) (v : Value) (w : World) (h : NtV n v w) (hg : goodN n = false) :
    Calls Try.prog 14 #[v] w fun e w' => e = .returned (.tuple #[.slice none 0 0, .int .i64 12]) ∧ Gr w w' := by
  have h' := h
  obtain ⟨A, c, A2, c2, rfl, -, -⟩ := h'
  have hb := Lib.hid (Gr.alloc w (.cells (n.cells A c A2 c2) 25))
  have hva := valid_any n _ _ (NtV.gr hb.out (Lib.hid h)).out
  rw [hg] at hva
  replace hva := Lib.hid hva
  clear hg h
  obtain ⟨kind, key, gen, cart, data, sum, size, places⟩ := n
  unfold Nt.cells at hb hva
  unfold Nt.agg at hva ⊢
  simp only at hb hva ⊢
  go_enter Try.func14, Try.ntmps14
  go_wp2_with fail
  refine hva.out.mono ?_
  rintro e w1 ⟨rfl, hg1⟩
  have hb1 := Lib.hid (hb.out.trans hg1)
  clear hg1
  go_wp2_with fail
  go_ret2
  exact ⟨rfl, hb1.out⟩
set_option maxHeartbeats 8000000 in
set_option maxRecDepth 10000 in
theorem encode_ok (n : Nt) (v : Value) (w : World) (h : NtV n v w) (hg : goodN n = true) :
    Calls Try.prog 14 #[v] w fun e w' => ∃ u, e = .returned (.tuple #[u, .int .i64 0]) ∧ OB w' w.heap.size u (encN n) ∧ Gr w w' := by
  have h' := h
  obtain ⟨A, c, A2, c2, rfl, hby, hpl⟩ := h'
  have hb := Lib.hid (Gr.alloc w (.cells (n.cells A c A2 c2) 25))
  have hva := valid_any n _ _ (NtV.gr hb.out (Lib.hid h)).out
  rw [hg] at hva
  replace hva := Lib.hid hva
  clear h
  have g := (good_iff n).1 hg
  clear hg
  have hbx := Lib.hid (heap_alloc_new w (.cells (n.cells A c A2 c2) 25))
  obtain ⟨N, hN⟩ : ∃ N, w.heap.size = N := ⟨_, rfl⟩
  have hsz0 : Hid (N + 1 ≤ (w.alloc (.cells (n.cells A c A2 c2) 25)).heap.size) := Lib.hid (by rw [← hN]; simp)
  rw [hN] at hbx ⊢
  obtain ⟨kind, key, gen, cart, data, sum, size, places⟩ := n
  have hby1 := Byt.gr hb.out (Lib.hid hby)
  have hpl1 := Pls.gr hb.out (Lib.hid hpl)
  clear hby
  replace hpl := Lib.hid hpl
  unfold Nt.cells at hb hva hbx hsz0 hby1 hpl1
  unfold Nt.agg at hva ⊢
  obtain ⟨g1, g2, g3, g4, g5, g6, g7, g8, g9⟩ := g
  simp only at hb hva hbx hsz0 hby1 hpl1 g1 g2 g3 g4 g5 g6 g7 g8 g9 ⊢
  obtain ⟨wa, hwa⟩ : ∃ wa, w.alloc (.cells #[.int .i64 kind, .string (bs key), .int .i64 gen, .int .i64 cart, .slice A data.length c, .string (bs sum), .int .i64 size, .slice A2 places.length c2] 25) = wa := ⟨_, rfl⟩
  rw [hwa] at hb hva hbx hsz0 hby1 hpl1
  have hN9 := g9
  replace g9 := Lib.hid g9
  clear hN9
  have b1 := enc_len9 kind.toNat (by omega)
  have b2 := enc_len9 key.length (by omega)
  have b3 := enc_len9 gen.toNat (by omega)
  have b4 := enc_len9 cart.toNat (by omega)
  have b5 := enc_len9 data.length (by omega)
  have b6 := enc_len9 sum.length (by omega)
  have b7 := enc_len9 size.toNat (by omega)
  have b8 := enc_len9 places.length (by omega)
  replace hN := Lib.hid hN
  replace hwa := Lib.hid hwa
  go_enter Try.func14, Try.ntmps14
  go_wp2_with fail
  rw [hN.out, hwa.out]
  refine hva.out.mono ?_
  clear hva
  rintro e w1 ⟨rfl, hg1⟩
  replace hb := Lib.hid (hb.out.trans hg1)
  replace hby1 := Byt.gr hg1 hby1
  replace hpl1 := Pls.gr hg1 hpl1
  replace hbx := Lib.hid (blk_below hbx.out hg1)
  replace hsz0 := Lib.hid (Nat.le_trans hsz0.out hg1.size)
  clear hg1
  have x0 := blk_cell (j := 0) (v := .int .i64 kind) hbx.out rfl
  go_wp2_with fail
  refine (put_b [] _ kind (by omega) (by omega) (by decide) _ (Byt.nil_ _)).mono ?_
  rintro e w2 ⟨v0, rfl, ho, hg0⟩
  replace hb := Lib.hid (hb.out.trans hg0)
  replace hby1 := Byt.gr hg0 hby1
  replace hpl1 := Pls.gr hg0 hpl1
  replace hbx := Lib.hid (blk_below hbx.out hg0)
  replace ho := Lib.hid (ho.more (base' := N + 1) (by have := hsz0.out; omega))
  replace hsz0 := Lib.hid (Nat.le_trans hsz0.out hg0.size)
  obtain ⟨L0, hL0⟩ : ∃ L0, [] ++ enc kind.toNat = L0 := ⟨_, rfl⟩
  rw [hL0] at ho
  have hl0 : L0.length ≤ 9 := by rw [← hL0]; simp only [List.length_append, List.length_nil]; omega
  replace hL0 := Lib.hid hL0
  obtain ⟨A0', m0', c0', rfl⟩ := ho.out.shape
  clear hg0 x0
  have x1 := blk_cell (j := 1) (v := .string (bs key)) hbx.out rfl
  go_wp2_with fail
  refine (text_b L0 _ key (by omega) (by omega) _ (Byt.ob ho.out)).mono ?_
  rintro e w3 ⟨v1, rfl, ho', hg1⟩
  replace hb := Lib.hid (hb.out.trans hg1)
  replace hby1 := Byt.gr hg1 hby1
  replace hpl1 := Pls.gr hg1 hpl1
  replace hbx := Lib.hid (blk_below hbx.out hg1)
  replace ho := Lib.hid (ho'.more (base' := N + 1) (by have := hsz0.out; omega))
  clear ho'
  replace hsz0 := Lib.hid (Nat.le_trans hsz0.out hg1.size)
  obtain ⟨L1, hL1⟩ : ∃ L1, L0 ++ (enc key.length ++ key) = L1 := ⟨_, rfl⟩
  rw [hL1] at ho
  have hl1 : L1.length ≤ 34 := by rw [← hL1]; simp only [List.length_append, List.length_nil]; omega
  replace hL1 := Lib.hid hL1
  obtain ⟨A1', m1', c1', rfl⟩ := ho.out.shape
  clear hg1 x1
  have x2 := blk_cell (j := 2) (v := .int .i64 gen) hbx.out rfl
  go_wp2_with fail
  refine (put_b L1 _ gen (by omega) (by omega) (by omega) _ (Byt.ob ho.out)).mono ?_
  rintro e w4 ⟨v2, rfl, ho', hg2⟩
  replace hb := Lib.hid (hb.out.trans hg2)
  replace hby1 := Byt.gr hg2 hby1
  replace hpl1 := Pls.gr hg2 hpl1
  replace hbx := Lib.hid (blk_below hbx.out hg2)
  replace ho := Lib.hid (ho'.more (base' := N + 1) (by have := hsz0.out; omega))
  clear ho'
  replace hsz0 := Lib.hid (Nat.le_trans hsz0.out hg2.size)
  obtain ⟨L2, hL2⟩ : ∃ L2, L1 ++ enc gen.toNat = L2 := ⟨_, rfl⟩
  rw [hL2] at ho
  have hl2 : L2.length ≤ 43 := by rw [← hL2]; simp only [List.length_append, List.length_nil]; omega
  replace hL2 := Lib.hid hL2
  obtain ⟨A2', m2', c2', rfl⟩ := ho.out.shape
  clear hg2 x2
  have x3 := blk_cell (j := 3) (v := .int .i64 cart) hbx.out rfl
  go_wp2_with fail
  refine (put_b L2 _ cart (by omega) (by omega) (by omega) _ (Byt.ob ho.out)).mono ?_
  rintro e w5 ⟨v3, rfl, ho', hg3⟩
  replace hb := Lib.hid (hb.out.trans hg3)
  replace hby1 := Byt.gr hg3 hby1
  replace hpl1 := Pls.gr hg3 hpl1
  replace hbx := Lib.hid (blk_below hbx.out hg3)
  replace ho := Lib.hid (ho'.more (base' := N + 1) (by have := hsz0.out; omega))
  clear ho'
  replace hsz0 := Lib.hid (Nat.le_trans hsz0.out hg3.size)
  obtain ⟨L3, hL3⟩ : ∃ L3, L2 ++ enc cart.toNat = L3 := ⟨_, rfl⟩
  rw [hL3] at ho
  have hl3 : L3.length ≤ 52 := by rw [← hL3]; simp only [List.length_append, List.length_nil]; omega
  replace hL3 := Lib.hid hL3
  obtain ⟨A3', m3', c3', rfl⟩ := ho.out.shape
  clear hg3 x3
  have x4 := blk_cell (j := 4) (v := .slice A data.length c) hbx.out rfl
  have cv : (convert 22 9 (.slice A data.length c)).run Try.prog w5 = .ok (.string (bs data)) w5 := by
    obtain ⟨A', c', e', -, -, hR'⟩ := hby1.out
    injection e' with e1 e2 e3
    subst e1
    exact run_str_at c hR' rfl
  go_wp2_with fail
  refine (text_b L3 _ data (by omega) (by omega) _ (Byt.ob ho.out)).mono ?_
  rintro e w6 ⟨v4, rfl, ho', hg4⟩
  replace hb := Lib.hid (hb.out.trans hg4)
  replace hby1 := Byt.gr hg4 hby1
  replace hpl1 := Pls.gr hg4 hpl1
  replace hbx := Lib.hid (blk_below hbx.out hg4)
  replace ho := Lib.hid (ho'.more (base' := N + 1) (by have := hsz0.out; omega))
  clear ho'
  replace hsz0 := Lib.hid (Nat.le_trans hsz0.out hg4.size)
  obtain ⟨L4, hL4⟩ : ∃ L4, L3 ++ (enc data.length ++ data) = L4 := ⟨_, rfl⟩
  rw [hL4] at ho
  have hl4 : L4.length ≤ 573 := by rw [← hL4]; simp only [List.length_append, List.length_nil]; omega
  replace hL4 := Lib.hid hL4
  obtain ⟨A4', m4', c4', rfl⟩ := ho.out.shape
  clear hg4 x4 cv
  have x5 := blk_cell (j := 5) (v := .string (bs sum)) hbx.out rfl
  go_wp2_with fail
  refine (text_b L4 _ sum (by omega) (by omega) _ (Byt.ob ho.out)).mono ?_
  rintro e w7 ⟨v5, rfl, ho', hg5⟩
  replace hb := Lib.hid (hb.out.trans hg5)
  replace hby1 := Byt.gr hg5 hby1
  replace hpl1 := Pls.gr hg5 hpl1
  replace hbx := Lib.hid (blk_below hbx.out hg5)
  replace ho := Lib.hid (ho'.more (base' := N + 1) (by have := hsz0.out; omega))
  clear ho'
  replace hsz0 := Lib.hid (Nat.le_trans hsz0.out hg5.size)
  obtain ⟨L5, hL5⟩ : ∃ L5, L4 ++ (enc sum.length ++ sum) = L5 := ⟨_, rfl⟩
  rw [hL5] at ho
  have hl5 : L5.length ≤ 614 := by rw [← hL5]; simp only [List.length_append, List.length_nil]; omega
  replace hL5 := Lib.hid hL5
  obtain ⟨A5', m5', c5', rfl⟩ := ho.out.shape
  clear hg5 x5
  have x6 := blk_cell (j := 6) (v := .int .i64 size) hbx.out rfl
  go_wp2_with fail
  refine (put_b L5 _ size (by omega) (by omega) (by omega) _ (Byt.ob ho.out)).mono ?_
  rintro e w8 ⟨v6, rfl, ho', hg6⟩
  replace hb := Lib.hid (hb.out.trans hg6)
  replace hby1 := Byt.gr hg6 hby1
  replace hpl1 := Pls.gr hg6 hpl1
  replace hbx := Lib.hid (blk_below hbx.out hg6)
  replace ho := Lib.hid (ho'.more (base' := N + 1) (by have := hsz0.out; omega))
  clear ho'
  replace hsz0 := Lib.hid (Nat.le_trans hsz0.out hg6.size)
  obtain ⟨L6, hL6⟩ : ∃ L6, L5 ++ enc size.toNat = L6 := ⟨_, rfl⟩
  rw [hL6] at ho
  have hl6 : L6.length ≤ 623 := by rw [← hL6]; simp only [List.length_append, List.length_nil]; omega
  replace hL6 := Lib.hid hL6
  obtain ⟨A6', m6', c6', rfl⟩ := ho.out.shape
  clear hg6 x6
  have x7 := blk_cell (j := 7) (v := .slice A2 places.length c2) hbx.out rfl
  go_wp2_with fail
  refine (put_b L6 _ (places.length : Int) (by omega) (by omega) (by omega) _ (Byt.ob ho.out)).mono ?_
  rintro e w9 ⟨v7, rfl, ho', hg7⟩
  replace hb := Lib.hid (hb.out.trans hg7)
  replace hby1 := Byt.gr hg7 hby1
  replace hpl1 := Pls.gr hg7 hpl1
  replace hbx := Lib.hid (blk_below hbx.out hg7)
  replace ho := Lib.hid (ho'.more (base' := N + 1) (by have := hsz0.out; omega))
  clear ho'
  replace hsz0 := Lib.hid (Nat.le_trans hsz0.out hg7.size)
  obtain ⟨L7, hL7⟩ : ∃ L7, L6 ++ enc (places.length : Int).toNat = L7 := ⟨_, rfl⟩
  rw [hL7] at ho
  have hl7 : L7.length ≤ 632 := by rw [← hL7]; simp only [List.length_append, List.length_nil, Int.toNat_natCast]; omega
  replace hL7 := Lib.hid hL7
  obtain ⟨A7', m7', c7', rfl⟩ := ho.out.shape
  clear hg7 x7
  have hpre : Hid (encN ⟨kind, key, gen, cart, data, sum, size, places⟩ = L7 ++ encP places) := Lib.hid (by
    rw [← hL7.out, ← hL6.out, ← hL5.out, ← hL4.out, ← hL3.out, ← hL2.out, ← hL1.out, ← hL0.out]
    unfold encN
    simp [List.append_assoc])
  have x7 := blk_cell (j := 7) (v := .slice A2 places.length c2) hbx.out rfl
  obtain ⟨np, hnp⟩ : ∃ np, places.length = np := ⟨_, rfl⟩
  rw [hnp] at x7 g8
  replace hbx : Hid (w9.heap[N]? = some (.cells #[.int .i64 kind, .string (bs key), .int .i64 gen, .int .i64 cart, .slice A data.length c, .string (bs sum), .int .i64 size, .slice A2 np c2] 25 (0, 0))) := Lib.hid (by rw [← hnp]; exact hbx.out)
  have hplw : Hid (Pls places (.slice A2 np c2) w) := Lib.hid (by rw [← hnp]; exact hpl.out)
  clear hpl1 hpl
  replace hnp := Lib.hid hnp
  clear hL0 hL1 hL2 hL3 hL4 hL5 hL6 hL7 hl0 hl1 hl2 hl3 hl4 hl5 hl6 b1 b2 b3 b4 b5 b6 b7 b8 hby1
  go_wp2_with fail
  clear x7
  go_loopw [4, 46] (fun bb i wr => ∃ (k : Nat) (A5 : Option Addr) (m5 c5 : Nat), i = .int .i64 k ∧ bb = .slice A5 m5 c5 ∧ k ≤ np ∧ Hid (OB wr (N + 1) (.slice A5 m5 c5) (L7 ++ encP (places.take k))) ∧ Hid (Below N w wr) ∧ Hid (N + 1 ≤ wr.heap.size) ∧ Hid (wr.heap[N]? = some (.cells #[.int .i64 kind, .string (bs key), .int .i64 gen, .int .i64 cart, .slice A data.length c, .string (bs sum), .int .i64 size, .slice A2 np c2] 25 (0, 0)))) (fun _ i _ => np - (intOf i).toNat)
  case atStart => exact ⟨0, A7', m7', c7', rfl, rfl, Nat.zero_le _, Lib.hid (by rw [List.take_zero, encP_nil, List.append_nil]; exact ho.out), Lib.hid (by have := hb.out; unfold Gr at this; rw [hN.out] at this; exact this), hsz0, hbx⟩
  case round =>
    clear ho hb hsz0 hbx
    obtain ⟨k, A5, m5, c5, rfl, rfl, hk, ho, hb, hsz, hbx⟩ := hrel
    by_cases hlt : k < np
    · obtain ⟨⟨q1, q2⟩, hq⟩ : ∃ q, places[k]? = some q := ⟨_, List.getElem?_eq_getElem (by rw [hnp.out]; exact hlt)⟩
      have hpl := Pls.gr (w' := wr) (by unfold Gr; rw [hN.out]; exact hb.out) hplw
      obtain ⟨A', c', e', -, -, hcell, -⟩ := hpl.out
      injection e' with e1 e2 e3
      subst e1
      obtain ⟨b, o, e, hbl, hce⟩ := hcell (by rw [hnp.out]; omega)
      clear hcell
      subst e
      obtain ⟨x0, x1⟩ := hce k _ hq
      clear hce e2 e3
      simp only at x0 x1
      have gq := g9.out _ (List.mem_of_getElem? hq)
      simp only at gq
      have hlen := encP_len (places.take k) (fun p hp => g9.out p (List.mem_of_mem_take hp))
      have hlk : (places.take k).length = k := by rw [List.length_take, hnp.out]; omega
      have hlL : (L7 ++ encP (places.take k)).length ≤ 2000 := by rw [List.length_append]; omega
      have he1 := enc_len9 q1.toNat (by omega)
      have he2 := enc_len9 q2.toNat (by omega)
      have hsnoc : Hid (L7 ++ encP (places.take k) ++ (enc q1.toNat ++ enc q2.toNat) = L7 ++ encP (places.take (k + 1))) := Lib.hid (by
        rw [List.take_add_one, hq]
        simp only [Option.toList_some]
        rw [encP_snoc, List.append_assoc])
      replace hq := Lib.hid hq
      clear hlen hlk
      obtain ⟨wb, hwb⟩ : ∃ wb, wb = wr.alloc (.cells #[.int .i64 q1, .int .i64 q2] 85) := ⟨_, rfl⟩
      have hgb : Gr wr wb := by rw [hwb]; exact Gr.alloc _ _
      have hnb : wb.heap[wr.heap.size]? = some (.cells #[.int .i64 q1, .int .i64 q2] 85 (0, 0)) := by rw [hwb]; exact heap_alloc_new _ _
      obtain ⟨M, hM⟩ : ∃ M, wr.heap.size = M := ⟨_, rfl⟩
      rw [hM] at hnb
      have hMN : N + 1 ≤ M := by rw [← hM]; exact hsz.out
      have hszb : wb.heap.size = M + 1 := by rw [hwb]; simp [hM]
      replace ho := OB.gr hgb ho
      replace hb := Lib.hid (hb.out.trans (hgb.mono (by omega)))
      clear hpl
      replace hbx := Lib.hid (blk_below hbx.out hgb)
      replace hgb := Lib.hid hgb
      replace hM := Lib.hid hM
      clear hsz
      go_upto_region 14 with (fail)
      rw [← hwb, hM.out]
      replace hwb := Lib.hid hwb
      obtain ⟨wd, hwd⟩ : ∃ wd, wd = wb.drew := ⟨_, rfl⟩
      replace hnb : Hid (wd.heap[M]? = some (.cells #[.int .i64 q1, .int .i64 q2] 85 (0, 0))) := Lib.hid (by rw [hwd]; exact hnb)
      replace hszb : wd.heap.size = M + 1 := by rw [hwd]; exact hszb
      replace ho : Hid (OB wd (N + 1) (.slice A5 m5 c5) (L7 ++ encP (places.take k))) := Lib.hid (by rw [hwd]; exact ho.out)
      replace hb : Hid (Below N w wd) := Lib.hid (by rw [hwd]; exact hb.out.drew)
      replace hbx : Hid (wd.heap[N]? = some (.cells #[.int .i64 kind, .string (bs key), .int .i64 gen, .int .i64 cart, .slice A data.length c, .string (bs sum), .int .i64 size, .slice (some ⟨b, o, none⟩) np c2] 25 (0, 0))) := Lib.hid (by rw [hwd]; exact hbx.out)
      have hMlt : M < wd.heap.size := by omega
      refine wpR_region (TChg (N + 1) [5]) 9999 (by kernel_rfl) ?_
      (rw [← hwd]; replace hwd := Lib.hid hwd)
      refine wpR_take (i := 0) (v := ?_) (TChg.road _ _) (some 50) rfl (by kernel_rfl) (by kernel_rfl) (by kernel_rfl) (by kernel_rfl) (by kernel_rfl) (fun _ _ _ h => h) (by kernel_rfl) (fun w' hw' => ?_) ?_
      rotate_left
      · go_simp; with_reducible rfl
      simp only [Act.put, List.setIfInBounds_toArray, List.set_cons_zero, List.set_cons_succ]
      refine wpR_take (i := 1) (v := ?_) (TChg.road _ _) (some 51) rfl (by kernel_rfl) (by kernel_rfl) (by kernel_rfl) (by kernel_rfl) (by kernel_rfl) (fun _ _ _ h => h) (by kernel_rfl) (fun w' hw' => ?_) ?_
      rotate_left
      · go_simp; with_reducible rfl
      simp only [Act.put, List.setIfInBounds_toArray, List.set_cons_zero, List.set_cons_succ]
      refine wpR_take (i := 2) (v := ?_) (TChg.road _ _) (some 52) rfl (by kernel_rfl) (by kernel_rfl) (by kernel_rfl) (by kernel_rfl) (by kernel_rfl) (fun _ _ _ h => h) (by kernel_rfl) (fun w' hw' => ?_) ?_
      rotate_left
      · have q := blk_cell (j := 0) (v := .int .i64 q1) (hw'.block hnb.out (by decide)) rfl; go_simp; with_reducible rfl
      simp only [Act.put, List.setIfInBounds_toArray, List.set_cons_zero, List.set_cons_succ]
      refine wpR_take (i := 4) (v := ?_) (TChg.road _ _) (some 54) rfl (by kernel_rfl) (by kernel_rfl) (by kernel_rfl) (by kernel_rfl) (by kernel_rfl) (fun _ _ _ h => h) (by kernel_rfl) (fun w' hw' => ?_) ?_
      rotate_left
      · go_simp; with_reducible rfl
      simp only [Act.put, List.setIfInBounds_toArray, List.set_cons_zero, List.set_cons_succ]
      refine wpR_take (i := 5) (v := ?_) (TChg.road _ _) (some 55) rfl (by kernel_rfl) (by kernel_rfl) (by kernel_rfl) (by kernel_rfl) (by kernel_rfl) (fun _ _ _ h => h) (by kernel_rfl) (fun w' hw' => ?_) ?_
      rotate_left
      · have q := blk_cell (j := 1) (v := .int .i64 q2) (hw'.block hnb.out (by decide)) rfl; go_simp; with_reducible rfl
      simp only [Act.put, List.setIfInBounds_toArray, List.set_cons_zero, List.set_cons_succ]
      refine wpR_one 3 rfl (by kernel_rfl) (by kernel_rfl) (fun K hK => ?_)
      go_simp
      refine (put_b [] _ q1 (by omega) (by omega) (by decide) _ (Byt.nil_ _)).mono ?_
      rintro e w5 ⟨v5, rfl, ho5, hr5⟩
      refine hK _ _ (fun _ => TChg.of_below hr5) ?_
      clear hK K
      rw [List.nil_append] at ho5
      have hs5 := hr5.size
      replace hb := Lib.hid (hb.out.trans (hr5.mono (by omega)))
      replace hbx := Lib.hid (blk_below hbx.out hr5)
      replace ho := OB.gr hr5 ho
      replace ho5 := Lib.hid ho5
      clear hr5
      try simp only [Act.put, List.setIfInBounds_toArray, List.set_cons_zero, List.set_cons_succ]
      refine wpR_one 6 rfl (by kernel_rfl) (by kernel_rfl) (fun K hK => ?_)
      go_simp
      refine (put_b (enc q1.toNat) _ q2 (by omega) (by omega) (by omega) _ (Byt.ob ho5.out)).mono ?_
      rintro e w6 ⟨v6, rfl, ho6, hr6⟩
      refine hK _ _ (fun _ => TChg.of_below hr6) ?_
      clear hK K
      have hs6 := hr6.size
      replace hb := Lib.hid (hb.out.trans (hr6.mono (by omega)))
      replace hbx := Lib.hid (blk_below hbx.out hr6)
      replace ho := OB.gr hr6 ho
      replace ho6 := Lib.hid ho6
      clear hr6 ho5
      try simp only [Act.put, List.setIfInBounds_toArray, List.set_cons_zero, List.set_cons_succ]
      refine wpR_one 7 rfl (by kernel_rfl) (by kernel_rfl) (fun K hK => ?_)
      refine wp_appB (.tmp 50) (.tmp 56) rfl (N + 1) _ _ rfl ho.out _ _ rfl (Byt.ob ho6.out) (by simp only [List.length_append]; simp only [List.length_append] at hlL; omega) (by omega) ?_
      intro v9 w9 ho9 hg9 hr9
      refine hK _ _ (fun _ => TChg.of_row ho.out hg9 (by decide)) ?_
      clear hK K
      rw [hsnoc.out] at ho9
      replace ho9 := Lib.hid ho9
      replace hr9 := Lib.hid hr9
      obtain ⟨A9, m9, c9, rfl⟩ := ho9.out.shape
      clear hg9
      try simp only [Act.put, List.setIfInBounds_toArray, List.set_cons_zero, List.set_cons_succ]
      refine wpR_take (i := 8) (v := ?_) (TChg.road _ _) (some 4) rfl (by kernel_rfl) (by kernel_rfl) (by kernel_rfl) (by kernel_rfl) (by kernel_rfl) (fun _ _ _ h => h) (by kernel_rfl) (fun w' hw' => ?_) ?_
      rotate_left
      · go_simp; with_reducible rfl
      simp only [Act.put, List.setIfInBounds_toArray, List.set_cons_zero, List.set_cons_succ]
      refine wpR_done (by kernel_rfl) ?_ _
      have hsz9 : Hid (N + 1 ≤ w9.heap.size) := Lib.hid (by have := hr9.out.size; omega)
      replace hb := Lib.hid (hb.out.trans (hr9.out.mono (by omega)))
      replace hbx := Lib.hid ((hr9.out.block N (by omega)).trans hbx.out)
      clear hr9 ho ho6
      go_wp2_with fail
      go_roundw
      case rel => exact ⟨k + 1, A9, m9, c9, by go_num, rfl, by omega, ho9, hb, hsz9, hbx⟩
      case measure => simp [intOf]; omega
    · obtain rfl : k = np := by omega
      clear hlt
      have hall : places.take k = places := by rw [← hnp.out, List.take_length]
      rw [hall] at ho
      go_wp2_with fail
      go_ret2
      exact ⟨_, rfl, by rw [hpre.out]; exact ho.out.more (by omega), by unfold Gr; rw [hN.out]; exact hb.out⟩
end Go.Proofs.Ytgdbbjijneidaaa
