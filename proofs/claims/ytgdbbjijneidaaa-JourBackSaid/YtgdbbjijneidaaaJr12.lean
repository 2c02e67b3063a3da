/- The law of the journal: a note comes back of its bytes. -/
import Derived.Test.YtgdbbjijneidaaaJr10
namespace Go.Proofs.Ytgdbbjijneidaaa
set_option linter.unusedVariables false
set_option linter.unusedSimpArgs false
open Go Go.RowKit
set_option maxHeartbeats 8000000 in
set_option maxRecDepth 20000 in
theorem jourBack_any (q : Nt) (A : Option Addr) (c : Nat) (A2 : Option Addr) (c2 : Nat) (B1 : Option Addr) (nb cb : Nat) (b : List UInt8) (hnb : b.length = nb) (hl : nb ≤ 140737488355328) (hbc : nb ≤ cb) (hbm : cb ≤ maxLen) (w : World) (h : NtV q (q.agg A c A2 c2) w) (h1 : Rd w w.heap.size B1 b) :
    Calls Try.prog 6 #[q.agg A c A2 c2, .slice B1 nb cb] w fun e w' => e = .returned (.bool true) ∧ Gr w w' := by
  have hy0 : Byt b (.slice B1 nb cb) w := ⟨B1, cb, by rw [hnb], by rw [hnb]; exact hbc, hbm, h1⟩
  have hg := Gr.alloc w (.cells #[.int .i64 q.kind, .string (bs q.key), .int .i64 q.gen, .int .i64 q.cart, .slice A q.data.length c, .string (bs q.sum), .int .i64 q.size, .slice A2 q.places.length c2] 25)
  have hm := heap_alloc_new w (.cells #[.int .i64 q.kind, .string (bs q.key), .int .i64 q.gen, .int .i64 q.cart, .slice A q.data.length c, .string (bs q.sum), .int .i64 q.size, .slice A2 q.places.length c2] 25)
  have hv := NtV.gr hg (Lib.hid h)
  have hy := Byt.gr hg (Lib.hid hy0)
  obtain ⟨N, hN⟩ : ∃ N, w.heap.size = N := ⟨_, rfl⟩
  rw [hN] at hm
  obtain ⟨w1, hw1⟩ : ∃ w1, w.alloc (.cells #[.int .i64 q.kind, .string (bs q.key), .int .i64 q.gen, .int .i64 q.cart, .slice A q.data.length c, .string (bs q.sum), .int .i64 q.size, .slice A2 q.places.length c2] 25) = w1 := ⟨_, rfl⟩
  rw [hw1] at hg hm hv hy
  replace hg := Lib.hid hg
  replace hm := Lib.hid hm
  replace hN := Lib.hid hN
  replace hw1 := Lib.hid hw1
  replace hnb := Lib.hid hnb
  unfold Nt.agg at hv ⊢
  clear h hy0 h1
  cases hgd : goodN q with
  | false =>
    have he := Lib.hid (encode_no q _ w1 hv.out hgd)
    go_enter Try.func6, Try.ntmps6
    go_wp2_with fail
    rw [hN.out, hw1.out]
    clear hw1
    refine he.out.mono ?_
    clear he
    rintro e w2 ⟨rfl, hg2⟩
    replace hg := Lib.hid (hg.out.trans hg2)
    replace hy := Byt.gr hg2 hy
    clear hg2
    go_wp2_with fail
    refine (decode_any b (.slice B1 nb cb) (by rw [hnb.out]; omega) w2 hy.out).mono ?_
    cases hd : decN b with
    | none =>
      rintro e w5 ⟨hans, hg2⟩
      replace hans : e = _ := hans
      subst hans
      replace hg := Lib.hid (hg.out.trans (hg2.trans (Gr.alloc w5 (.cells #[.int .i64 0, .string ⟨#[]⟩, .int .i64 0, .int .i64 0, .slice none 0 0, .string ⟨#[]⟩, .int .i64 0, .slice none 0 0] 25))))
      clear hg2 hy hv hm
      go_wp2_with fail
      refine (awake_any _).mono ?_
      rintro e w6 ⟨rfl, hg2⟩
      replace hg := Lib.hid (hg.out.trans hg2)
      go_wp2_with fail
      go_ret
      exact ⟨rfl, hg.out⟩
    | some m =>
      obtain ⟨hmg, hme⟩ := decN_some hd
      rintro e w5 ⟨⟨u, rfl, hmv⟩, hg2⟩
      obtain ⟨mA, mc, mA2, mc2, rfl, hm1, hm2, -, -⟩ := hmv
      have hga := Gr.alloc w5 (.cells #[.int .i64 m.kind, .string (bs m.key), .int .i64 m.gen, .int .i64 m.cart, .slice mA m.data.length mc, .string (bs m.sum), .int .i64 m.size, .slice mA2 m.places.length mc2] 25)
      have hgb := hg2.trans hga
      replace hg := Lib.hid (hg.out.trans hgb)
      replace hy := Byt.gr hgb hy
      have hmm := heap_alloc_new w5 (.cells #[.int .i64 m.kind, .string (bs m.key), .int .i64 m.gen, .int .i64 m.cart, .slice mA m.data.length mc, .string (bs m.sum), .int .i64 m.size, .slice mA2 m.places.length mc2] 25)
      have hmv : Hid (NtV m (.agg #[.int .i64 m.kind, .string (bs m.key), .int .i64 m.gen, .int .i64 m.cart, .slice mA m.data.length mc, .string (bs m.sum), .int .i64 m.size, .slice mA2 m.places.length mc2]) (w5.alloc (.cells #[.int .i64 m.kind, .string (bs m.key), .int .i64 m.gen, .int .i64 m.cart, .slice mA m.data.length mc, .string (bs m.sum), .int .i64 m.size, .slice mA2 m.places.length mc2] 25))) := NtV.gr hga (Lib.hid ⟨mA, mc, mA2, mc2, rfl, hm1, hm2⟩)
      obtain ⟨M, hM⟩ : ∃ M, w5.heap.size = M := ⟨_, rfl⟩
      rw [hM] at hmm
      obtain ⟨w6, hw6⟩ : ∃ w6, w5.alloc (.cells #[.int .i64 m.kind, .string (bs m.key), .int .i64 m.gen, .int .i64 m.cart, .slice mA m.data.length mc, .string (bs m.sum), .int .i64 m.size, .slice mA2 m.places.length mc2] 25) = w6 := ⟨_, rfl⟩
      rw [hw6] at hg hy hmm hmv
      replace hM := Lib.hid hM
      replace hw6 := Lib.hid hw6
      have he := encode_ok m _ w6 hmv.out hmg
      rw [hme] at he
      replace he := Lib.hid he
      clear hg2 hga hgb hm1 hm2 hv hm hme hmg
      have hset : m.agg mA mc mA2 mc2 = .agg #[.int .i64 m.kind, .string (bs m.key), .int .i64 m.gen, .int .i64 m.cart, .slice mA m.data.length mc, .string (bs m.sum), .int .i64 m.size, .slice mA2 m.places.length mc2] := rfl
      rw [hset]
      clear hset
      go_upto_region 9 with (fail)
      rw [hw6.out, hM.out]
      clear hw6 hM
      have y0 := blk_cell (j := 0) (v := .int .i64 m.kind) hmm rfl
      have y1 := blk_cell (j := 1) (v := .string (bs m.key)) hmm rfl
      have y2 := blk_cell (j := 2) (v := .int .i64 m.gen) hmm rfl
      have y3 := blk_cell (j := 3) (v := .int .i64 m.cart) hmm rfl
      have y4 := blk_cell (j := 4) (v := .slice mA m.data.length mc) hmm rfl
      have y5 := blk_cell (j := 5) (v := .string (bs m.sum)) hmm rfl
      have y6 := blk_cell (j := 6) (v := .int .i64 m.size) hmm rfl
      have y7 := blk_cell (j := 7) (v := .slice mA2 m.places.length mc2) hmm rfl
      go_wp2_with fail
      refine he.out.mono ?_
      clear he y0 y1 y2 y3 y4 y5 y6 y7 hmv hmm
      rintro e w7 ⟨u7, rfl, ho7, hg2⟩
      replace hg := Lib.hid (hg.out.trans hg2)
      replace hy := Byt.gr hg2 hy
      obtain ⟨A7, c7, rfl, -⟩ := ho7.form
      rw [hnb.out] at ho7 ⊢
      replace ho7 := Lib.hid ho7
      clear hg2
      go_wp2_with fail
      refine (awake_any _).mono ?_
      rintro e w8 ⟨rfl, hg2⟩
      replace hg := Lib.hid (hg.out.trans hg2)
      replace hy := Byt.gr hg2 hy
      replace ho7 := OB.gr hg2 ho7
      have cv : (convert 22 9 (.slice A7 nb c7)).run Try.prog w8 = .ok (.string (bs b)) w8 := run_str_at c7 ho7.out.rd.1 hnb.out
      have cv2 : (convert 22 9 (.slice B1 nb cb)).run Try.prog w8 = .ok (.string (bs b)) w8 := by
        obtain ⟨A', c', e', -, -, hR'⟩ := hy.out
        injection e' with e1 e2 e3
        subst e1
        exact run_str_at cb hR' hnb.out
      go_wp2_with fail
      go_ret
      exact ⟨rfl, hg.out⟩
  | true =>
    have he := Lib.hid (encode_ok q _ w1 hv.out hgd)
    have hX2 := encN_len ((good_iff q).1 hgd)
    have hdx := decN_enc hgd
    obtain ⟨X, hX⟩ : ∃ X, encN q = X := ⟨_, rfl⟩
    rw [hX] at he hX2 hdx
    have hqq : sameN q q = true := decide_eq_true rfl
    replace hqq := Lib.hid hqq
    replace hX := Lib.hid hX
    go_enter Try.func6, Try.ntmps6
    go_wp2_with fail
    rw [hN.out, hw1.out]
    clear hw1
    refine he.out.mono ?_
    clear he
    rintro e w2 ⟨u2, rfl, ho2, hg2⟩
    replace hg := Lib.hid (hg.out.trans hg2)
    replace hm := Lib.hid (blk_below hm.out hg2)
    replace hv := NtV.gr hg2 hv
    replace hy := Byt.gr hg2 hy
    have hd1 := decode_any X u2 (by omega) w2 (Byt.ob ho2)
    rw [hdx] at hd1
    replace hd1 := Lib.hid hd1
    obtain ⟨A3, m3, c3, rfl⟩ := ho2.shape
    clear hg2 ho2 hdx
    go_wp2_with fail
    refine hd1.out.mono ?_
    clear hd1
    rintro e w3 ⟨⟨u, rfl, hkv⟩, hg2⟩
    obtain ⟨kA, kc, kA2, kc2, rfl, hk1, hk2, -, -⟩ := hkv
    have hga := Gr.alloc w3 (.cells #[.int .i64 q.kind, .string (bs q.key), .int .i64 q.gen, .int .i64 q.cart, .slice kA q.data.length kc, .string (bs q.sum), .int .i64 q.size, .slice kA2 q.places.length kc2] 25)
    have hgb := hg2.trans hga
    replace hg := Lib.hid (hg.out.trans hgb)
    replace hy := Byt.gr hgb hy
    replace hm := Lib.hid (blk_below hm.out hgb)
    replace hv := NtV.gr hgb hv
    have hkm := heap_alloc_new w3 (.cells #[.int .i64 q.kind, .string (bs q.key), .int .i64 q.gen, .int .i64 q.cart, .slice kA q.data.length kc, .string (bs q.sum), .int .i64 q.size, .slice kA2 q.places.length kc2] 25)
    have hkv : Hid (NtV q (.agg #[.int .i64 q.kind, .string (bs q.key), .int .i64 q.gen, .int .i64 q.cart, .slice kA q.data.length kc, .string (bs q.sum), .int .i64 q.size, .slice kA2 q.places.length kc2]) (w3.alloc (.cells #[.int .i64 q.kind, .string (bs q.key), .int .i64 q.gen, .int .i64 q.cart, .slice kA q.data.length kc, .string (bs q.sum), .int .i64 q.size, .slice kA2 q.places.length kc2] 25))) := NtV.gr hga (Lib.hid ⟨kA, kc, kA2, kc2, rfl, hk1, hk2⟩)
    obtain ⟨K, hK⟩ : ∃ K, w3.heap.size = K := ⟨_, rfl⟩
    rw [hK] at hkm
    obtain ⟨w4, hw4⟩ : ∃ w4, w3.alloc (.cells #[.int .i64 q.kind, .string (bs q.key), .int .i64 q.gen, .int .i64 q.cart, .slice kA q.data.length kc, .string (bs q.sum), .int .i64 q.size, .slice kA2 q.places.length kc2] 25) = w4 := ⟨_, rfl⟩
    rw [hw4] at hg hy hm hv hkm hkv
    have hsa := same_any q q _ _ w4 hkv.out hv.out
    rw [hqq.out] at hsa
    replace hsa := Lib.hid hsa
    replace hK := Lib.hid hK
    replace hw4 := Lib.hid hw4
    clear hg2 hga hgb hk1 hk2
    have hset : q.agg kA kc kA2 kc2 = .agg #[.int .i64 q.kind, .string (bs q.key), .int .i64 q.gen, .int .i64 q.cart, .slice kA q.data.length kc, .string (bs q.sum), .int .i64 q.size, .slice kA2 q.places.length kc2] := rfl
    rw [hset]
    clear hset
    go_upto_region 4 with (fail)
    rw [hw4.out, hK.out]
    clear hw4 hK
    have z0 := blk_cell (j := 0) (v := .int .i64 q.kind) hkm rfl
    have z1 := blk_cell (j := 1) (v := .string (bs q.key)) hkm rfl
    have z2 := blk_cell (j := 2) (v := .int .i64 q.gen) hkm rfl
    have z3 := blk_cell (j := 3) (v := .int .i64 q.cart) hkm rfl
    have z4 := blk_cell (j := 4) (v := .slice kA q.data.length kc) hkm rfl
    have z5 := blk_cell (j := 5) (v := .string (bs q.sum)) hkm rfl
    have z6 := blk_cell (j := 6) (v := .int .i64 q.size) hkm rfl
    have z7 := blk_cell (j := 7) (v := .slice kA2 q.places.length kc2) hkm rfl
    have x0 := blk_cell (j := 0) (v := .int .i64 q.kind) hm.out rfl
    have x1 := blk_cell (j := 1) (v := .string (bs q.key)) hm.out rfl
    have x2 := blk_cell (j := 2) (v := .int .i64 q.gen) hm.out rfl
    have x3 := blk_cell (j := 3) (v := .int .i64 q.cart) hm.out rfl
    have x4 := blk_cell (j := 4) (v := .slice A q.data.length c) hm.out rfl
    have x5 := blk_cell (j := 5) (v := .string (bs q.sum)) hm.out rfl
    have x6 := blk_cell (j := 6) (v := .int .i64 q.size) hm.out rfl
    have x7 := blk_cell (j := 7) (v := .slice A2 q.places.length c2) hm.out rfl
    go_wp2_with fail
    refine hsa.out.mono ?_
    clear hsa z0 z1 z2 z3 z4 z5 z6 z7 x0 x1 x2 x3 x4 x5 x6 x7 hkm
    rintro e w44 ⟨rfl, hg2⟩
    replace hg := Lib.hid (hg.out.trans hg2)
    replace hy := Byt.gr hg2 hy
    clear hg2
    go_wp2_with fail
    refine (decode_any b (.slice B1 nb cb) (by rw [hnb.out]; omega) w44 hy.out).mono ?_
    cases hd : decN b with
    | none =>
      rintro e w5 ⟨hans, hg2⟩
      replace hans : e = _ := hans
      subst hans
      replace hg := Lib.hid (hg.out.trans (hg2.trans (Gr.alloc w5 (.cells #[.int .i64 0, .string ⟨#[]⟩, .int .i64 0, .int .i64 0, .slice none 0 0, .string ⟨#[]⟩, .int .i64 0, .slice none 0 0] 25))))
      clear hg2 hy hv hm
      go_wp2_with fail
      refine (awake_any _).mono ?_
      rintro e w6 ⟨rfl, hg2⟩
      replace hg := Lib.hid (hg.out.trans hg2)
      go_wp2_with fail
      go_ret
      exact ⟨rfl, hg.out⟩
    | some m =>
      obtain ⟨hmg, hme⟩ := decN_some hd
      rintro e w5 ⟨⟨u, rfl, hmv⟩, hg2⟩
      obtain ⟨mA, mc, mA2, mc2, rfl, hm1, hm2, -, -⟩ := hmv
      have hga := Gr.alloc w5 (.cells #[.int .i64 m.kind, .string (bs m.key), .int .i64 m.gen, .int .i64 m.cart, .slice mA m.data.length mc, .string (bs m.sum), .int .i64 m.size, .slice mA2 m.places.length mc2] 25)
      have hgb := hg2.trans hga
      replace hg := Lib.hid (hg.out.trans hgb)
      replace hy := Byt.gr hgb hy
      have hmm := heap_alloc_new w5 (.cells #[.int .i64 m.kind, .string (bs m.key), .int .i64 m.gen, .int .i64 m.cart, .slice mA m.data.length mc, .string (bs m.sum), .int .i64 m.size, .slice mA2 m.places.length mc2] 25)
      have hmv : Hid (NtV m (.agg #[.int .i64 m.kind, .string (bs m.key), .int .i64 m.gen, .int .i64 m.cart, .slice mA m.data.length mc, .string (bs m.sum), .int .i64 m.size, .slice mA2 m.places.length mc2]) (w5.alloc (.cells #[.int .i64 m.kind, .string (bs m.key), .int .i64 m.gen, .int .i64 m.cart, .slice mA m.data.length mc, .string (bs m.sum), .int .i64 m.size, .slice mA2 m.places.length mc2] 25))) := NtV.gr hga (Lib.hid ⟨mA, mc, mA2, mc2, rfl, hm1, hm2⟩)
      obtain ⟨M, hM⟩ : ∃ M, w5.heap.size = M := ⟨_, rfl⟩
      rw [hM] at hmm
      obtain ⟨w6, hw6⟩ : ∃ w6, w5.alloc (.cells #[.int .i64 m.kind, .string (bs m.key), .int .i64 m.gen, .int .i64 m.cart, .slice mA m.data.length mc, .string (bs m.sum), .int .i64 m.size, .slice mA2 m.places.length mc2] 25) = w6 := ⟨_, rfl⟩
      rw [hw6] at hg hy hmm hmv
      replace hM := Lib.hid hM
      replace hw6 := Lib.hid hw6
      have he := encode_ok m _ w6 hmv.out hmg
      rw [hme] at he
      replace he := Lib.hid he
      clear hg2 hga hgb hm1 hm2 hv hm hme hmg
      have hset : m.agg mA mc mA2 mc2 = .agg #[.int .i64 m.kind, .string (bs m.key), .int .i64 m.gen, .int .i64 m.cart, .slice mA m.data.length mc, .string (bs m.sum), .int .i64 m.size, .slice mA2 m.places.length mc2] := rfl
      rw [hset]
      clear hset
      go_upto_region 9 with (fail)
      rw [hw6.out, hM.out]
      clear hw6 hM
      have y0 := blk_cell (j := 0) (v := .int .i64 m.kind) hmm rfl
      have y1 := blk_cell (j := 1) (v := .string (bs m.key)) hmm rfl
      have y2 := blk_cell (j := 2) (v := .int .i64 m.gen) hmm rfl
      have y3 := blk_cell (j := 3) (v := .int .i64 m.cart) hmm rfl
      have y4 := blk_cell (j := 4) (v := .slice mA m.data.length mc) hmm rfl
      have y5 := blk_cell (j := 5) (v := .string (bs m.sum)) hmm rfl
      have y6 := blk_cell (j := 6) (v := .int .i64 m.size) hmm rfl
      have y7 := blk_cell (j := 7) (v := .slice mA2 m.places.length mc2) hmm rfl
      go_wp2_with fail
      refine he.out.mono ?_
      clear he y0 y1 y2 y3 y4 y5 y6 y7 hmv hmm
      rintro e w7 ⟨u7, rfl, ho7, hg2⟩
      replace hg := Lib.hid (hg.out.trans hg2)
      replace hy := Byt.gr hg2 hy
      obtain ⟨A7, c7, rfl, -⟩ := ho7.form
      rw [hnb.out] at ho7 ⊢
      replace ho7 := Lib.hid ho7
      clear hg2
      go_wp2_with fail
      refine (awake_any _).mono ?_
      rintro e w8 ⟨rfl, hg2⟩
      replace hg := Lib.hid (hg.out.trans hg2)
      replace hy := Byt.gr hg2 hy
      replace ho7 := OB.gr hg2 ho7
      have cv : (convert 22 9 (.slice A7 nb c7)).run Try.prog w8 = .ok (.string (bs b)) w8 := run_str_at c7 ho7.out.rd.1 hnb.out
      have cv2 : (convert 22 9 (.slice B1 nb cb)).run Try.prog w8 = .ok (.string (bs b)) w8 := by
        obtain ⟨A', c', e', -, -, hR'⟩ := hy.out
        injection e' with e1 e2 e3
        subst e1
        exact run_str_at cb hR' hnb.out
      go_wp2_with fail
      go_ret
      exact ⟨rfl, hg.out⟩
end Go.Proofs.Ytgdbbjijneidaaa
