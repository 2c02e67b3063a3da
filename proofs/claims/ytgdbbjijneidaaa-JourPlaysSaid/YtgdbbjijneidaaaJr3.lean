/- The reference's Good and Encode of a note. -/
import Derived.Test.YtgdbbjijneidaaaJr2
import Derived.Test.YtgdbbjijneidaaaWordRef
namespace Go.Proofs.Ytgdbbjijneidaaa
set_option linter.unusedVariables false
set_option linter.unusedSimpArgs false
open Go Go.RowKit
theorem rput_b (l : List UInt8) (v : Value) (n : Int) (h0 : 0 ≤ n) (h1 : n ≤ 9223372036854775807) (hl : l.length ≤ 1000000) (w : World) (h : Byt l v w) :
    Calls Try.prog 47 #[v, .int .i64 n] w fun e w' => ∃ v', e = .returned v' ∧ OB w' w.heap.size v' (l ++ enc n.toNat) ∧ Gr w w' := by
  obtain ⟨A, c, rfl, -, -, hR⟩ := h
  exact rput_any A _ c l rfl n (by omega) h1 (by omega) w hR
theorem rtext_b (l : List UInt8) (v : Value) (m : List UInt8) (hm : m.length ≤ 1000000) (hl : l.length ≤ 1000000) (w : World) (h : Byt l v w) :
    Calls Try.prog 48 #[v, .string (bs m)] w fun e w' => ∃ v', e = .returned v' ∧ OB w' w.heap.size v' (l ++ (enc m.length ++ m)) ∧ Gr w w' := by
  obtain ⟨A, c, rfl, -, -, hR⟩ := h
  refine (rtextput_any A _ c l rfl m (by omega) w hR).mono ?_
  rintro e w' ⟨v', rfl, ho, hb⟩
  rw [List.append_assoc] at ho
  exact ⟨v', rfl, ho, hb⟩
set_option maxHeartbeats 8000000 in
set_option maxRecDepth 10000 in
theorem rgood_any (n : Nt) (v : Value) (w : World) (h : NtV n v w) :
    Calls Try.prog 46 #[v] w fun e w' => e = .returned (.bool (goodN n)) ∧ Gr w w' := by
  obtain ⟨A, c, A2, c2, rfl, -, hP⟩ := h
  have hb := Lib.hid (Gr.alloc w (.cells (n.cells A c A2 c2) 25))
  have hbx := Lib.hid (heap_alloc_new w (.cells (n.cells A c A2 c2) 25))
  obtain ⟨N, hN⟩ : ∃ N, w.heap.size = N := ⟨_, rfl⟩
  have hsz0 : Hid (N + 1 ≤ (w.alloc (.cells (n.cells A c A2 c2) 25)).heap.size) := Lib.hid (by rw [← hN]; simp)
  rw [hN] at hbx
  replace hP := Lib.hid hP
  obtain ⟨kind, key, gen, cart, data, sum, size, places⟩ := n
  obtain ⟨G, hG⟩ : ∃ G, goodN ⟨kind, key, gen, cart, data, sum, size, places⟩ = G := ⟨_, rfl⟩
  rw [hG]
  unfold goodN at hG
  unfold Nt.cells at hb hbx hsz0
  unfold Nt.agg
  simp only at hb hbx hsz0 hP hG ⊢
  obtain ⟨wa, hwa⟩ : ∃ wa, w.alloc (.cells #[.int .i64 kind, .string (bs key), .int .i64 gen, .int .i64 cart, .slice A data.length c, .string (bs sum), .int .i64 size, .slice A2 places.length c2] 25) = wa := ⟨_, rfl⟩
  rw [hwa] at hb hbx hsz0
  replace hwa := Lib.hid hwa
  replace hN := Lib.hid hN
  by_cases H : (1 ≤ kind ∧ kind ≤ 6) ∧ key.length ≤ 16 ∧ (0 ≤ gen ∧ gen ≤ 1099511627776) ∧ (0 ≤ cart ∧ cart ≤ 31) ∧ data.length ≤ 512 ∧ sum.length ≤ 32 ∧ (0 ≤ size ∧ size ≤ 512) ∧ places.length ≤ 40
  · obtain ⟨⟨h1, h2⟩, h3, ⟨h4, h5⟩, ⟨h6, h7⟩, h8, h9, ⟨h10, h11⟩, h12⟩ := H
    rw [(inB_iff _ _ _).mpr ⟨h1, h2⟩, (inB_iff _ _ _).mpr ⟨h4, h5⟩, (inB_iff _ _ _).mpr ⟨h6, h7⟩, (inB_iff _ _ _).mpr ⟨h10, h11⟩, decide_eq_true h3, decide_eq_true h8, decide_eq_true h9, decide_eq_true h12] at hG
    simp only [Bool.true_and] at hG
    have f1 : decide (kind < 1) = false := decide_eq_false (by omega)
    have f2 : decide (6 < kind) = false := decide_eq_false (by omega)
    have f3 : decide (16 < (key.length : Int)) = false := decide_eq_false (by omega)
    have f4 : decide (gen < 0) = false := decide_eq_false (by omega)
    have f5 : decide (1099511627776 < gen) = false := decide_eq_false (by omega)
    have f6 : decide (cart < 0) = false := decide_eq_false (by omega)
    have f7 : decide (31 < cart) = false := decide_eq_false (by omega)
    have f8 : decide (512 < (data.length : Int)) = false := decide_eq_false (by omega)
    have f9 : decide (32 < (sum.length : Int)) = false := decide_eq_false (by omega)
    have f10 : decide (size < 0) = false := decide_eq_false (by omega)
    have f11 : decide (512 < size) = false := decide_eq_false (by omega)
    have f12 : decide (40 < (places.length : Int)) = false := decide_eq_false (by omega)
    replace hG := Lib.hid hG
    go_enter Try.func46, Try.ntmps46
    go_upto_region 4 with (fail)
    clear f1 f2 f3 f4 f5 f6 f7 f8 f9 f10 f11 f12 h1 h2 h3 h4 h5 h6 h7 h8 h9 h10 h11
    rw [hN.out, hwa.out]
    obtain ⟨np, hnp⟩ : ∃ np, places.length = np := ⟨_, rfl⟩
    rw [hnp] at h12
    replace hbx : Hid (wa.heap[N]? = some (.cells #[.int .i64 kind, .string (bs key), .int .i64 gen, .int .i64 cart, .slice A data.length c, .string (bs sum), .int .i64 size, .slice A2 np c2] 25 (0, 0))) := Lib.hid (by rw [← hnp]; exact hbx.out)
    replace hP : Hid (Pls places (.slice A2 np c2) w) := Lib.hid (by rw [← hnp]; exact hP.out)
    replace hnp := Lib.hid hnp
    go_loopw [3] (fun i wr => ∃ k : Nat, i = .int .i64 k ∧ k ≤ np ∧ Hid (∀ j p, j < k → places[j]? = some p → plOk p = true) ∧ Hid (Gr w wr) ∧ Hid (wr.heap[N]? = some (.cells #[.int .i64 kind, .string (bs key), .int .i64 gen, .int .i64 cart, .slice A data.length c, .string (bs sum), .int .i64 size, .slice A2 np c2] 25 (0, 0)))) (fun i _ => np - (intOf i).toNat)
    case atStart => exact ⟨0, rfl, Nat.zero_le _, Lib.hid (fun j p hj => absurd hj (by omega)), hb, hbx⟩
    case round =>
      clear hb hbx hsz0 hwa
      obtain ⟨k, rfl, hk, hall, hb, hbx⟩ := hrel
      have x7 := blk_cell (j := 7) (v := .slice A2 np c2) hbx.out rfl
      by_cases hlt : k < np
      · obtain ⟨⟨q1, q2⟩, hq⟩ : ∃ q, places[k]? = some q := ⟨_, List.getElem?_eq_getElem (by rw [hnp.out]; exact hlt)⟩
        have hpl := Pls.gr hb.out hP
        obtain ⟨A', c', e', -, -, hcell, -⟩ := hpl.out
        injection e' with e1 e2 e3
        subst e1
        obtain ⟨b, o, e, hbl, hce⟩ := hcell (by rw [hnp.out]; omega)
        clear hcell
        subst e
        obtain ⟨y0, y1⟩ := hce k _ hq
        clear hce e2 e3 hpl
        simp only at y0 y1
        have hgb := Lib.hid (Gr.alloc wr (.cells #[.int .i64 q1, .int .i64 q2] 85))
        replace hq := Lib.hid hq
        by_cases hj : plOk (q1, q2) = true
        · have hj' : (0 ≤ q1 ∧ q1 ≤ 31) ∧ (0 ≤ q2 ∧ q2 ≤ 1024) := by unfold plOk at hj; simp only [Bool.and_eq_true, inB_iff] at hj; exact hj
          obtain ⟨⟨j1, j2⟩, j3, j4⟩ := hj'
          have f1 : decide (q1 < 0) = false := decide_eq_false (by omega)
          have f2 : decide (31 < q1) = false := decide_eq_false (by omega)
          have f3 : decide (q2 < 0) = false := decide_eq_false (by omega)
          have f4 : decide (1024 < q2) = false := decide_eq_false (by omega)
          replace hj := Lib.hid hj
          have hb2 := Lib.hid (hb.out.trans hgb.out)
          have hbx2 := Lib.hid (blk_below hbx.out hgb.out)
          have hall2 : Hid (∀ j p, j < k + 1 → places[j]? = some p → plOk p = true) := Lib.hid (fun j p hjk hp => by
            by_cases hjk' : j < k
            · exact hall.out j p hjk' hp
            · have : j = k := by omega
              subst this
              rw [hq.out] at hp
              injection hp with hp
              rw [← hp]; exact hj.out)
          go_wp2_with fail
          go_roundw
          case rel => exact ⟨k + 1, by go_num, by omega, hall2, hb2, hbx2⟩
          case measure => simp [intOf]; omega
        · have hres : Hid (G = false) := Lib.hid (by
            rw [← hG.out, List.all_eq_false]
            exact ⟨(q1, q2), List.mem_of_getElem? hq.out, hj⟩)
          have hj' : ¬ ((0 ≤ q1 ∧ q1 ≤ 31) ∧ (0 ≤ q2 ∧ q2 ≤ 1024)) := fun h => hj (by unfold plOk; simp only [Bool.and_eq_true, inB_iff]; exact h)
          replace hj := Lib.hid hj
          replace hj' := Lib.hid hj'
          go_wp2_with fail
          all_goals first
            | (go_ret; exact ⟨by first | (rw [hres.out]; rfl) | rw [hres.out], hb.out.trans hgb.out⟩)
            | (exfalso; have hj' := hj'.out; omega)
      · obtain rfl : k = np := by omega
        have hres : Hid (G = true) := Lib.hid (by
          rw [← hG.out, List.all_eq_true]
          intro p hp
          obtain ⟨j, hj, rfl⟩ := List.mem_iff_getElem.mp hp
          exact hall.out j _ (by rw [← hnp.out]; exact hj) (List.getElem?_eq_getElem hj))
        go_wp2_with fail
        go_ret
        exact ⟨by first | (rw [hres.out]; rfl) | rw [hres.out], hb.out⟩
  · have hres : Hid (G = false) := Lib.hid (by
      rw [← hG]
      rw [Bool.eq_false_iff]
      intro h
      simp only [Bool.and_eq_true, inB_iff, decide_eq_true_eq] at h
      obtain ⟨⟨⟨⟨⟨⟨⟨⟨a, b⟩, c⟩, d⟩, e⟩, f⟩, g⟩, i⟩, -⟩ := h
      exact H ⟨a, b, c, d, e, f, g, i⟩)
    replace H := Lib.hid H
    clear hG hP hbx hsz0
    go_enter Try.func46, Try.ntmps46
    go_upto_region 4 with (fail)
    all_goals first
      | (exfalso; have H := H.out; omega)
      | (go_wp2_with fail; rw [hwa.out]; go_ret; exact ⟨by first | (rw [hres.out]; rfl) | rw [hres.out], hb.out⟩)
      | (rw [hwa.out]; go_ret; exact ⟨by first | (rw [hres.out]; rfl) | rw [hres.out], hb.out⟩)
set_option maxHeartbeats 4000000 in
set_option maxRecDepth 10000 in
theorem rencode_no (n : Nt) (v : Value) (w : World) (h : NtV n v w) (hg : goodN n = false) :
    Calls Try.prog 15 #[v] w fun e w' => e = .returned (.tuple #[.slice none 0 0, .int .i64 12]) ∧ Gr w w' := by
  have h' := h
  obtain ⟨A, c, A2, c2, rfl, -, -⟩ := h'
  have hb := Lib.hid (Gr.alloc w (.cells (n.cells A c A2 c2) 25))
  have hva := rgood_any n _ _ (NtV.gr hb.out (Lib.hid h)).out
  rw [hg] at hva
  replace hva := Lib.hid hva
  clear hg h
  obtain ⟨kind, key, gen, cart, data, sum, size, places⟩ := n
  unfold Nt.cells at hb hva
  unfold Nt.agg at hva ⊢
  simp only at hb hva ⊢
  go_enter Try.func15, Try.ntmps15
  go_wp2_with fail
  refine hva.out.mono ?_
  rintro e w1 ⟨rfl, hg1⟩
  have hb1 := Lib.hid (hb.out.trans hg1)
  clear hg1
  go_wp2_with fail
  go_ret2
  exact ⟨rfl, hb1.out⟩
set_option maxHeartbeats 8000000 in
set_option maxRecDepth 10000 in
theorem rencode_ok (n : Nt) (v : Value) (w : World) (h : NtV n v w) (hg : goodN n = true) :
    Calls Try.prog 15 #[v] w fun e w' => ∃ u, e = .returned (.tuple #[u, .int .i64 0]) ∧ OB w' w.heap.size u (encN n) ∧ Gr w w' := by
  have h' := h
  obtain ⟨A, c, A2, c2, rfl, hby, hpl⟩ := h'
  have hb := Lib.hid (Gr.alloc w (.cells (n.cells A c A2 c2) 25))
  have hva := rgood_any n _ _ (NtV.gr hb.out (Lib.hid h)).out
  rw [hg] at hva
  replace hva := Lib.hid hva
  clear h
  have g := (good_iff n).1 hg
  clear hg
  have hbx := Lib.hid (heap_alloc_new w (.cells (n.cells A c A2 c2) 25))
  obtain ⟨N, hN⟩ : ∃ N, w.heap.size = N := ⟨_, rfl⟩
  have hsz0 : Hid (N + 1 ≤ (w.alloc (.cells (n.cells A c A2 c2) 25)).heap.size) := Lib.hid (by rw [← hN]; simp)
  rw [hN] at hbx ⊢
  obtain ⟨kind, key, gen, cart, data, sum, size, places⟩ := n
  have hby1 := Byt.gr hb.out (Lib.hid hby)
  have hpl1 := Pls.gr hb.out (Lib.hid hpl)
  clear hby
  replace hpl := Lib.hid hpl
  unfold Nt.cells at hb hva hbx hsz0 hby1 hpl1
  unfold Nt.agg at hva ⊢
  obtain ⟨g1, g2, g3, g4, g5, g6, g7, g8, g9⟩ := g
  simp only at hb hva hbx hsz0 hby1 hpl1 g1 g2 g3 g4 g5 g6 g7 g8 g9 ⊢
  obtain ⟨wa, hwa⟩ : ∃ wa, w.alloc (.cells #[.int .i64 kind, .string (bs key), .int .i64 gen, .int .i64 cart, .slice A data.length c, .string (bs sum), .int .i64 size, .slice A2 places.length c2] 25) = wa := ⟨_, rfl⟩
  rw [hwa] at hb hva hbx hsz0 hby1 hpl1
  have hN9 := g9
  replace g9 := Lib.hid g9
  clear hN9
  have b1 := enc_len9 kind.toNat (by omega)
  have b2 := enc_len9 key.length (by omega)
  have b3 := enc_len9 gen.toNat (by omega)
  have b4 := enc_len9 cart.toNat (by omega)
  have b5 := enc_len9 data.length (by omega)
  have b6 := enc_len9 sum.length (by omega)
  have b7 := enc_len9 size.toNat (by omega)
  have b8 := enc_len9 places.length (by omega)
  replace hN := Lib.hid hN
  replace hwa := Lib.hid hwa
  go_enter Try.func15, Try.ntmps15
  go_wp2_with fail
  rw [hN.out, hwa.out]
  refine hva.out.mono ?_
  clear hva
  rintro e w1 ⟨rfl, hg1⟩
  replace hb := Lib.hid (hb.out.trans hg1)
  replace hby1 := Byt.gr hg1 hby1
  replace hpl1 := Pls.gr hg1 hpl1
  replace hbx := Lib.hid (blk_below hbx.out hg1)
  replace hsz0 := Lib.hid (Nat.le_trans hsz0.out hg1.size)
  clear hg1
  have x0 := blk_cell (j := 0) (v := .int .i64 kind) hbx.out rfl
  go_wp2_with fail
  refine (rput_b [] _ kind (by omega) (by omega) (by decide) _ (Byt.nil_ _)).mono ?_
  rintro e w2 ⟨v0, rfl, ho, hg0⟩
  replace hb := Lib.hid (hb.out.trans hg0)
  replace hby1 := Byt.gr hg0 hby1
  replace hpl1 := Pls.gr hg0 hpl1
  replace hbx := Lib.hid (blk_below hbx.out hg0)
  replace ho := Lib.hid (ho.more (base' := N + 1) (by have := hsz0.out; omega))
  replace hsz0 := Lib.hid (Nat.le_trans hsz0.out hg0.size)
  obtain ⟨L0, hL0⟩ : ∃ L0, [] ++ enc kind.toNat = L0 := ⟨_, rfl⟩
  rw [hL0] at ho
  have hl0 : L0.length ≤ 9 := by rw [← hL0]; simp only [List.length_append, List.length_nil]; omega
  replace hL0 := Lib.hid hL0
  obtain ⟨A0', m0', c0', rfl⟩ := ho.out.shape
  clear hg0 x0
  have x1 := blk_cell (j := 1) (v := .string (bs key)) hbx.out rfl
  go_wp2_with fail
  refine (rtext_b L0 _ key (by omega) (by omega) _ (Byt.ob ho.out)).mono ?_
  rintro e w3 ⟨v1, rfl, ho', hg1⟩
  replace hb := Lib.hid (hb.out.trans hg1)
  replace hby1 := Byt.gr hg1 hby1
  replace hpl1 := Pls.gr hg1 hpl1
  replace hbx := Lib.hid (blk_below hbx.out hg1)
  replace ho := Lib.hid (ho'.more (base' := N + 1) (by have := hsz0.out; omega))
  clear ho'
  replace hsz0 := Lib.hid (Nat.le_trans hsz0.out hg1.size)
  obtain ⟨L1, hL1⟩ : ∃ L1, L0 ++ (enc key.length ++ key) = L1 := ⟨_, rfl⟩
  rw [hL1] at ho
  have hl1 : L1.length ≤ 34 := by rw [← hL1]; simp only [List.length_append, List.length_nil]; omega
  replace hL1 := Lib.hid hL1
  obtain ⟨A1', m1', c1', rfl⟩ := ho.out.shape
  clear hg1 x1
  have x2 := blk_cell (j := 2) (v := .int .i64 gen) hbx.out rfl
  go_wp2_with fail
  refine (rput_b L1 _ gen (by omega) (by omega) (by omega) _ (Byt.ob ho.out)).mono ?_
  rintro e w4 ⟨v2, rfl, ho', hg2⟩
  replace hb := Lib.hid (hb.out.trans hg2)
  replace hby1 := Byt.gr hg2 hby1
  replace hpl1 := Pls.gr hg2 hpl1
  replace hbx := Lib.hid (blk_below hbx.out hg2)
  replace ho := Lib.hid (ho'.more (base' := N + 1) (by have := hsz0.out; omega))
  clear ho'
  replace hsz0 := Lib.hid (Nat.le_trans hsz0.out hg2.size)
  obtain ⟨L2, hL2⟩ : ∃ L2, L1 ++ enc gen.toNat = L2 := ⟨_, rfl⟩
  rw [hL2] at ho
  have hl2 : L2.length ≤ 43 := by rw [← hL2]; simp only [List.length_append, List.length_nil]; omega
  replace hL2 := Lib.hid hL2
  obtain ⟨A2', m2', c2', rfl⟩ := ho.out.shape
  clear hg2 x2
  have x3 := blk_cell (j := 3) (v := .int .i64 cart) hbx.out rfl
  go_wp2_with fail
  refine (rput_b L2 _ cart (by omega) (by omega) (by omega) _ (Byt.ob ho.out)).mono ?_
  rintro e w5 ⟨v3, rfl, ho', hg3⟩
  replace hb := Lib.hid (hb.out.trans hg3)
  replace hby1 := Byt.gr hg3 hby1
  replace hpl1 := Pls.gr hg3 hpl1
  replace hbx := Lib.hid (blk_below hbx.out hg3)
  replace ho := Lib.hid (ho'.more (base' := N + 1) (by have := hsz0.out; omega))
  clear ho'
  replace hsz0 := Lib.hid (Nat.le_trans hsz0.out hg3.size)
  obtain ⟨L3, hL3⟩ : ∃ L3, L2 ++ enc cart.toNat = L3 := ⟨_, rfl⟩
  rw [hL3] at ho
  have hl3 : L3.length ≤ 52 := by rw [← hL3]; simp only [List.length_append, List.length_nil]; omega
  replace hL3 := Lib.hid hL3
  obtain ⟨A3', m3', c3', rfl⟩ := ho.out.shape
  clear hg3 x3
  have x4 := blk_cell (j := 4) (v := .slice A data.length c) hbx.out rfl
  have cv : (convert 22 9 (.slice A data.length c)).run Try.prog w5 = .ok (.string (bs data)) w5 := by
    obtain ⟨A', c', e', -, -, hR'⟩ := hby1.out
    injection e' with e1 e2 e3
    subst e1
    exact run_str_at c hR' rfl
  go_wp2_with fail
  refine (rtext_b L3 _ data (by omega) (by omega) _ (Byt.ob ho.out)).mono ?_
  rintro e w6 ⟨v4, rfl, ho', hg4⟩
  replace hb := Lib.hid (hb.out.trans hg4)
  replace hby1 := Byt.gr hg4 hby1
  replace hpl1 := Pls.gr hg4 hpl1
  replace hbx := Lib.hid (blk_below hbx.out hg4)
  replace ho := Lib.hid (ho'.more (base' := N + 1) (by have := hsz0.out; omega))
  clear ho'
  replace hsz0 := Lib.hid (Nat.le_trans hsz0.out hg4.size)
  obtain ⟨L4, hL4⟩ : ∃ L4, L3 ++ (enc data.length ++ data) = L4 := ⟨_, rfl⟩
  rw [hL4] at ho
  have hl4 : L4.length ≤ 573 := by rw [← hL4]; simp only [List.length_append, List.length_nil]; omega
  replace hL4 := Lib.hid hL4
  obtain ⟨A4', m4', c4', rfl⟩ := ho.out.shape
  clear hg4 x4 cv
  have x5 := blk_cell (j := 5) (v := .string (bs sum)) hbx.out rfl
  go_wp2_with fail
  refine (rtext_b L4 _ sum (by omega) (by omega) _ (Byt.ob ho.out)).mono ?_
  rintro e w7 ⟨v5, rfl, ho', hg5⟩
  replace hb := Lib.hid (hb.out.trans hg5)
  replace hby1 := Byt.gr hg5 hby1
  replace hpl1 := Pls.gr hg5 hpl1
  replace hbx := Lib.hid (blk_below hbx.out hg5)
  replace ho := Lib.hid (ho'.more (base' := N + 1) (by have := hsz0.out; omega))
  clear ho'
  replace hsz0 := Lib.hid (Nat.le_trans hsz0.out hg5.size)
  obtain ⟨L5, hL5⟩ : ∃ L5, L4 ++ (enc sum.length ++ sum) = L5 := ⟨_, rfl⟩
  rw [hL5] at ho
  have hl5 : L5.length ≤ 614 := by rw [← hL5]; simp only [List.length_append, List.length_nil]; omega
  replace hL5 := Lib.hid hL5
  obtain ⟨A5', m5', c5', rfl⟩ := ho.out.shape
  clear hg5 x5
  have x6 := blk_cell (j := 6) (v := .int .i64 size) hbx.out rfl
  go_wp2_with fail
  refine (rput_b L5 _ size (by omega) (by omega) (by omega) _ (Byt.ob ho.out)).mono ?_
  rintro e w8 ⟨v6, rfl, ho', hg6⟩
  replace hb := Lib.hid (hb.out.trans hg6)
  replace hby1 := Byt.gr hg6 hby1
  replace hpl1 := Pls.gr hg6 hpl1
  replace hbx := Lib.hid (blk_below hbx.out hg6)
  replace ho := Lib.hid (ho'.more (base' := N + 1) (by have := hsz0.out; omega))
  clear ho'
  replace hsz0 := Lib.hid (Nat.le_trans hsz0.out hg6.size)
  obtain ⟨L6, hL6⟩ : ∃ L6, L5 ++ enc size.toNat = L6 := ⟨_, rfl⟩
  rw [hL6] at ho
  have hl6 : L6.length ≤ 623 := by rw [← hL6]; simp only [List.length_append, List.length_nil]; omega
  replace hL6 := Lib.hid hL6
  obtain ⟨A6', m6', c6', rfl⟩ := ho.out.shape
  clear hg6 x6
  have x7 := blk_cell (j := 7) (v := .slice A2 places.length c2) hbx.out rfl
  go_wp2_with fail
  refine (rput_b L6 _ (places.length : Int) (by omega) (by omega) (by omega) _ (Byt.ob ho.out)).mono ?_
  rintro e w9 ⟨v7, rfl, ho', hg7⟩
  replace hb := Lib.hid (hb.out.trans hg7)
  replace hby1 := Byt.gr hg7 hby1
  replace hpl1 := Pls.gr hg7 hpl1
  replace hbx := Lib.hid (blk_below hbx.out hg7)
  replace ho := Lib.hid (ho'.more (base' := N + 1) (by have := hsz0.out; omega))
  clear ho'
  replace hsz0 := Lib.hid (Nat.le_trans hsz0.out hg7.size)
  obtain ⟨L7, hL7⟩ : ∃ L7, L6 ++ enc (places.length : Int).toNat = L7 := ⟨_, rfl⟩
  rw [hL7] at ho
  have hl7 : L7.length ≤ 632 := by rw [← hL7]; simp only [List.length_append, List.length_nil, Int.toNat_natCast]; omega
  replace hL7 := Lib.hid hL7
  obtain ⟨A7', m7', c7', rfl⟩ := ho.out.shape
  clear hg7 x7
  have hpre : Hid (encN ⟨kind, key, gen, cart, data, sum, size, places⟩ = L7 ++ encP places) := Lib.hid (by
    rw [← hL7.out, ← hL6.out, ← hL5.out, ← hL4.out, ← hL3.out, ← hL2.out, ← hL1.out, ← hL0.out]
    unfold encN
    simp [List.append_assoc])
  obtain ⟨np, hnp⟩ : ∃ np, places.length = np := ⟨_, rfl⟩
  have x7 := blk_cell (j := 7) (v := .slice A2 places.length c2) hbx.out rfl
  rw [hnp] at g8 x7
  replace hbx : Hid (w9.heap[N]? = some (.cells #[.int .i64 kind, .string (bs key), .int .i64 gen, .int .i64 cart, .slice A data.length c, .string (bs sum), .int .i64 size, .slice A2 np c2] 25 (0, 0))) := Lib.hid (by rw [← hnp]; exact hbx.out)
  have hplw : Hid (Pls places (.slice A2 np c2) w) := Lib.hid (by rw [← hnp]; exact hpl.out)
  clear hpl1 hpl
  replace hnp := Lib.hid hnp
  clear hL0 hL1 hL2 hL3 hL4 hL5 hL6 hL7 hl0 hl1 hl2 hl3 hl4 hl5 hl6 b1 b2 b3 b4 b5 b6 b7 b8 hby1
  go_wp2_with fail
  clear x7
  go_loopw [4, 5] (fun bb i wr => ∃ (k : Nat) (A5 : Option Addr) (m5 c5 : Nat), i = .int .i64 k ∧ bb = .slice A5 m5 c5 ∧ k ≤ np ∧ Hid (OB wr (N + 1) (.slice A5 m5 c5) (L7 ++ encP (places.take k))) ∧ Hid (Below N w wr) ∧ Hid (N + 1 ≤ wr.heap.size) ∧ Hid (wr.heap[N]? = some (.cells #[.int .i64 kind, .string (bs key), .int .i64 gen, .int .i64 cart, .slice A data.length c, .string (bs sum), .int .i64 size, .slice A2 np c2] 25 (0, 0)))) (fun _ i _ => np - (intOf i).toNat)
  case atStart => exact ⟨0, A7', m7', c7', rfl, rfl, Nat.zero_le _, Lib.hid (by rw [List.take_zero, encP_nil, List.append_nil]; exact ho.out), Lib.hid (by have := hb.out; unfold Gr at this; rw [hN.out] at this; exact this), hsz0, hbx⟩
  case round =>
    clear ho hb hsz0 hbx
    obtain ⟨k, A5, m5, c5, rfl, rfl, hk, ho, hb, hsz, hbx⟩ := hrel
    have x7 := blk_cell (j := 7) (v := .slice A2 np c2) hbx.out rfl
    by_cases hlt : k < np
    · obtain ⟨⟨q1, q2⟩, hq⟩ : ∃ q, places[k]? = some q := ⟨_, List.getElem?_eq_getElem (by rw [hnp.out]; exact hlt)⟩
      have hpl := Pls.gr (w' := wr) (by unfold Gr; rw [hN.out]; exact hb.out) hplw
      obtain ⟨A', c', e', -, -, hcell, -⟩ := hpl.out
      injection e' with e1 e2 e3
      subst e1
      obtain ⟨b, o, e, hbl, hce⟩ := hcell (by rw [hnp.out]; omega)
      clear hcell
      subst e
      obtain ⟨x0, x1⟩ := hce k _ hq
      clear hce e2 e3 hpl
      simp only at x0 x1
      have gq := g9.out _ (List.mem_of_getElem? hq)
      simp only at gq
      have hlen := encP_len (places.take k) (fun p hp => g9.out p (List.mem_of_mem_take hp))
      have hlk : (places.take k).length = k := by rw [List.length_take, hnp.out]; omega
      have hlL : (L7 ++ encP (places.take k)).length ≤ 2000 := by rw [List.length_append]; omega
      have he1 := enc_len9 q1.toNat (by omega)
      have he2 := enc_len9 q2.toNat (by omega)
      have hsnoc : Hid (L7 ++ encP (places.take k) ++ (enc q1.toNat ++ enc q2.toNat) = L7 ++ encP (places.take (k + 1))) := Lib.hid (by
        rw [List.take_add_one, hq]
        simp only [Option.toList_some]
        rw [encP_snoc, List.append_assoc])
      replace hq := Lib.hid hq
      clear hlen hlk
      have hszr := hsz.out
      go_upto_region 14 with (fail)
      obtain ⟨wd, hwd⟩ : ∃ wd, wd = wr.drew := ⟨_, rfl⟩
      replace ho : Hid (OB wd (N + 1) (.slice A5 m5 c5) (L7 ++ encP (places.take k))) := Lib.hid (by rw [hwd]; exact ho.out)
      replace hb : Hid (Below N w wd) := Lib.hid (by rw [hwd]; exact hb.out.drew)
      replace hbx : Hid (wd.heap[N]? = some (.cells #[.int .i64 kind, .string (bs key), .int .i64 gen, .int .i64 cart, .slice A data.length c, .string (bs sum), .int .i64 size, .slice (some ⟨b, o, none⟩) np c2] 25 (0, 0))) := Lib.hid (by rw [hwd]; exact hbx.out)
      replace x0 : wd.cell? ⟨b, o + k * 2, none⟩ = some (.int .i64 q1) := by rw [hwd]; exact x0
      replace x1 : wd.cell? ⟨b, o + k * 2 + 1, none⟩ = some (.int .i64 q2) := by rw [hwd]; exact x1
      replace hbl : b < wd.heap.size := by rw [hwd]; exact hbl
      replace hszr : N + 1 ≤ wd.heap.size := by rw [hwd]; exact hszr
      clear x7
      refine wpR_region (Gr) 9999 (by kernel_rfl) ?_
      (rw [← hwd]; replace hwd := Lib.hid hwd)
      refine wpR_take (i := 0) (v := ?_) (Gr.road) (some 49) rfl (by kernel_rfl) (by kernel_rfl) (by kernel_rfl) (by kernel_rfl) (by kernel_rfl) (fun _ _ _ h => h) (by kernel_rfl) (fun w' hw' => ?_) ?_
      rotate_left
      · go_simp; with_reducible rfl
      simp only [Act.put, List.setIfInBounds_toArray, List.set_cons_zero, List.set_cons_succ]
      refine wpR_take (i := 1) (v := ?_) (Gr.road) (some 50) rfl (by kernel_rfl) (by kernel_rfl) (by kernel_rfl) (by kernel_rfl) (by kernel_rfl) (fun _ _ _ h => h) (by kernel_rfl) (fun w' hw' => ?_) ?_
      rotate_left
      · go_simp; with_reducible rfl
      simp only [Act.put, List.setIfInBounds_toArray, List.set_cons_zero, List.set_cons_succ]
      refine wpR_take (i := 2) (v := ?_) (Gr.road) (some 51) rfl (by kernel_rfl) (by kernel_rfl) (by kernel_rfl) (by kernel_rfl) (by kernel_rfl) (fun _ _ _ h => h) (by kernel_rfl) (fun w' hw' => ?_) ?_
      rotate_left
      · have q := blk_cell (j := 7) (v := .slice (some ⟨b, o, none⟩) np c2) (blk_below hbx.out hw') rfl; go_simp; with_reducible rfl
      simp only [Act.put, List.setIfInBounds_toArray, List.set_cons_zero, List.set_cons_succ]
      refine wpR_take (i := 3) (v := ?_) (Gr.road) (some 52) rfl (by kernel_rfl) (by kernel_rfl) (by kernel_rfl) (by kernel_rfl) (by kernel_rfl) (fun _ _ _ h => h) (by kernel_rfl) (fun w' hw' => ?_) ?_
      rotate_left
      · go_simp; with_reducible rfl
      simp only [Act.put, List.setIfInBounds_toArray, List.set_cons_zero, List.set_cons_succ]
      refine wpR_take (i := 4) (v := ?_) (Gr.road) (some 53) rfl (by kernel_rfl) (by kernel_rfl) (by kernel_rfl) (by kernel_rfl) (by kernel_rfl) (fun _ _ _ h => h) (by kernel_rfl) (fun w' hw' => ?_) ?_
      rotate_left
      · go_simp; with_reducible rfl
      simp only [Act.put, List.setIfInBounds_toArray, List.set_cons_zero, List.set_cons_succ]
      refine wpR_take (i := 5) (v := ?_) (Gr.road) (some 54) rfl (by kernel_rfl) (by kernel_rfl) (by kernel_rfl) (by kernel_rfl) (by kernel_rfl) (fun _ _ _ h => h) (by kernel_rfl) (fun w' hw' => ?_) ?_
      rotate_left
      · go_simp; with_reducible rfl
      simp only [Act.put, List.setIfInBounds_toArray, List.set_cons_zero, List.set_cons_succ]
      refine wpR_take (i := 6) (v := ?_) (Gr.road) (some 55) rfl (by kernel_rfl) (by kernel_rfl) (by kernel_rfl) (by kernel_rfl) (by kernel_rfl) (fun _ _ _ h => h) (by kernel_rfl) (fun w' hw' => ?_) ?_
      rotate_left
      · have q := (cellGr hw' (a := ⟨b, o + k * 2, none⟩) hbl).trans x0; go_simp; with_reducible rfl
      simp only [Act.put, List.setIfInBounds_toArray, List.set_cons_zero, List.set_cons_succ]
      refine wpR_take (i := 8) (v := ?_) (Gr.road) (some 57) rfl (by kernel_rfl) (by kernel_rfl) (by kernel_rfl) (by kernel_rfl) (by kernel_rfl) (fun _ _ _ h => h) (by kernel_rfl) (fun w' hw' => ?_) ?_
      rotate_left
      · go_simp; with_reducible rfl
      simp only [Act.put, List.setIfInBounds_toArray, List.set_cons_zero, List.set_cons_succ]
      refine wpR_take (i := 9) (v := ?_) (Gr.road) (some 58) rfl (by kernel_rfl) (by kernel_rfl) (by kernel_rfl) (by kernel_rfl) (by kernel_rfl) (fun _ _ _ h => h) (by kernel_rfl) (fun w' hw' => ?_) ?_
      rotate_left
      · have q := blk_cell (j := 7) (v := .slice (some ⟨b, o, none⟩) np c2) (blk_below hbx.out hw') rfl; go_simp; with_reducible rfl
      simp only [Act.put, List.setIfInBounds_toArray, List.set_cons_zero, List.set_cons_succ]
      refine wpR_take (i := 10) (v := ?_) (Gr.road) (some 59) rfl (by kernel_rfl) (by kernel_rfl) (by kernel_rfl) (by kernel_rfl) (by kernel_rfl) (fun _ _ _ h => h) (by kernel_rfl) (fun w' hw' => ?_) ?_
      rotate_left
      · go_simp; with_reducible rfl
      simp only [Act.put, List.setIfInBounds_toArray, List.set_cons_zero, List.set_cons_succ]
      refine wpR_take (i := 11) (v := ?_) (Gr.road) (some 60) rfl (by kernel_rfl) (by kernel_rfl) (by kernel_rfl) (by kernel_rfl) (by kernel_rfl) (fun _ _ _ h => h) (by kernel_rfl) (fun w' hw' => ?_) ?_
      rotate_left
      · go_simp; with_reducible rfl
      simp only [Act.put, List.setIfInBounds_toArray, List.set_cons_zero, List.set_cons_succ]
      refine wpR_take (i := 12) (v := ?_) (Gr.road) (some 61) rfl (by kernel_rfl) (by kernel_rfl) (by kernel_rfl) (by kernel_rfl) (by kernel_rfl) (fun _ _ _ h => h) (by kernel_rfl) (fun w' hw' => ?_) ?_
      rotate_left
      · go_simp; with_reducible rfl
      simp only [Act.put, List.setIfInBounds_toArray, List.set_cons_zero, List.set_cons_succ]
      refine wpR_take (i := 13) (v := ?_) (Gr.road) (some 62) rfl (by kernel_rfl) (by kernel_rfl) (by kernel_rfl) (by kernel_rfl) (by kernel_rfl) (fun _ _ _ h => h) (by kernel_rfl) (fun w' hw' => ?_) ?_
      rotate_left
      · have q := (cellGr hw' (a := ⟨b, o + k * 2 + 1, none⟩) hbl).trans x1; go_simp; with_reducible rfl
      simp only [Act.put, List.setIfInBounds_toArray, List.set_cons_zero, List.set_cons_succ]
      refine wpR_one 7 rfl (by kernel_rfl) (by kernel_rfl) (fun K hK => ?_)
      go_simp
      refine (rput_b _ _ q1 (by omega) (by omega) (by omega) _ (Byt.ob ho.out)).mono ?_
      rintro e w5 ⟨v5, rfl, ho5, hr5⟩
      refine hK _ _ (fun _ => hr5) ?_
      clear hK K
      have hs5 := hr5.size
      replace hb := Lib.hid (hb.out.trans (hr5.mono (by omega)))
      replace hbx := Lib.hid (blk_below hbx.out hr5)
      replace ho5 := Lib.hid (ho5.more (base' := N + 1) (by omega))
      clear hr5 ho
      try simp only [Act.put, List.setIfInBounds_toArray, List.set_cons_zero, List.set_cons_succ]
      refine wpR_one 14 rfl (by kernel_rfl) (by kernel_rfl) (fun K hK => ?_)
      go_simp
      refine (rput_b _ _ q2 (by omega) (by omega) (by simp only [List.length_append]; simp only [List.length_append] at hlL; omega) _ (Byt.ob ho5.out)).mono ?_
      rintro e w6 ⟨v6, rfl, ho6, hr6⟩
      refine hK _ _ (fun _ => hr6) ?_
      clear hK K
      have hs6 := hr6.size
      replace hb := Lib.hid (hb.out.trans (hr6.mono (by omega)))
      replace hbx := Lib.hid (blk_below hbx.out hr6)
      replace ho6 := ho6.more (base' := N + 1) (by omega)
      rw [List.append_assoc, hsnoc.out] at ho6
      replace ho6 := Lib.hid ho6
      obtain ⟨A9, m9, c9, rfl⟩ := ho6.out.shape
      clear hr6 ho5
      try simp only [Act.put, List.setIfInBounds_toArray, List.set_cons_zero, List.set_cons_succ]
      refine wpR_take (i := 15) (v := ?_) (Gr.road) (some 4) rfl (by kernel_rfl) (by kernel_rfl) (by kernel_rfl) (by kernel_rfl) (by kernel_rfl) (fun _ _ _ h => h) (by kernel_rfl) (fun w' hw' => ?_) ?_
      rotate_left
      · go_simp; with_reducible rfl
      simp only [Act.put, List.setIfInBounds_toArray, List.set_cons_zero, List.set_cons_succ]
      refine wpR_done (by kernel_rfl) ?_ _
      have hsz9 : Hid (N + 1 ≤ w6.heap.size) := Lib.hid (by omega)
      clear x0 x1
      go_wp2_with fail
      go_roundw
      case rel => exact ⟨k + 1, A9, m9, c9, by go_num, rfl, by omega, ho6, hb, hsz9, hbx⟩
      case measure => simp [intOf]; omega
    · obtain rfl : k = np := by omega
      clear hlt
      have hall : places.take k = places := by rw [← hnp.out, List.take_length]
      rw [hall] at ho
      go_wp2_with fail
      go_ret2
      exact ⟨_, rfl, by rw [hpre.out]; exact ho.out.more (by omega), by unfold Gr; rw [hN.out]; exact hb.out⟩
end Go.Proofs.Ytgdbbjijneidaaa
