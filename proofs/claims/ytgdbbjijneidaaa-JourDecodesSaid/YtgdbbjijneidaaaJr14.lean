/- The law of the journal: the note of any bytes. -/
import Derived.Test.YtgdbbjijneidaaaJr10
import Derived.Test.YtgdbbjijneidaaaJr5b
import Derived.Test.YtgdbbjijneidaaaJr13
namespace Go.Proofs.Ytgdbbjijneidaaa
set_option linter.unusedVariables false
set_option linter.unusedSimpArgs false
open Go Go.RowKit
set_option maxHeartbeats 8000000 in
set_option maxRecDepth 20000 in
theorem jourDecodes_any (B1 : Option Addr) (nb cb : Nat) (b : List UInt8) (hnb : b.length = nb) (hl : nb ≤ 140737488355328) (hbc : nb ≤ cb) (hbm : cb ≤ maxLen) (w : World) (h1 : Rd w w.heap.size B1 b) :
    Calls Try.prog 4 #[.slice B1 nb cb] w fun e w' => e = .returned (.bool true) ∧ Gr w w' := by
  have hy : Hid (Byt b (.slice B1 nb cb) w) := Lib.hid ⟨B1, cb, by rw [hnb], by rw [hnb]; exact hbc, hbm, h1⟩
  replace hnb := Lib.hid hnb
  clear h1
  have hdc := decode_any b (.slice B1 nb cb) (by rw [hnb.out]; omega) w hy.out
  cases hd : decN b with
  | none =>
    rw [hd] at hdc
    replace hdc := Lib.hid hdc
    go_enter Try.func4, Try.ntmps4
    go_wp2_with fail
    refine hdc.out.mono ?_
    clear hdc
    rintro e w1 ⟨hans, hg1⟩
    replace hans : e = _ := hans
    subst hans
    have hga := Gr.alloc w1 (.cells #[.int .i64 0, .string ⟨#[]⟩, .int .i64 0, .int .i64 0, .slice none 0 0, .string ⟨#[]⟩, .int .i64 0, .slice none 0 0] 25)
    have hgb := hg1.trans hga
    have hm := heap_alloc_new w1 (.cells #[.int .i64 0, .string ⟨#[]⟩, .int .i64 0, .int .i64 0, .slice none 0 0, .string ⟨#[]⟩, .int .i64 0, .slice none 0 0] 25)
    have hv : Hid (NtV nz (.agg #[.int .i64 0, .string ⟨#[]⟩, .int .i64 0, .int .i64 0, .slice none 0 0, .string ⟨#[]⟩, .int .i64 0, .slice none 0 0]) (w1.alloc (.cells #[.int .i64 0, .string ⟨#[]⟩, .int .i64 0, .int .i64 0, .slice none 0 0, .string ⟨#[]⟩, .int .i64 0, .slice none 0 0] 25))) := NtV.gr hga (Lib.hid ⟨none, 0, none, 0, rfl, Byt.nil_ _, Pls.nil_ _ _ _ (Nat.zero_le _)⟩)
    have hg : Hid (Gr w (w1.alloc (.cells #[.int .i64 0, .string ⟨#[]⟩, .int .i64 0, .int .i64 0, .slice none 0 0, .string ⟨#[]⟩, .int .i64 0, .slice none 0 0] 25))) := Lib.hid hgb
    replace hy := Byt.gr hgb hy
    obtain ⟨N, hN⟩ : ∃ N, w1.heap.size = N := ⟨_, rfl⟩
    rw [hN] at hm
    obtain ⟨w2, hw2⟩ : ∃ w2, w1.alloc (.cells #[.int .i64 0, .string ⟨#[]⟩, .int .i64 0, .int .i64 0, .slice none 0 0, .string ⟨#[]⟩, .int .i64 0, .slice none 0 0] 25) = w2 := ⟨_, rfl⟩
    rw [hw2] at hm hv hg hy
    have hs2 : N + 1 ≤ w2.heap.size := by rw [← hw2, ← hN]; simp
    replace hm := Lib.hid hm
    replace hN := Lib.hid hN
    replace hw2 := Lib.hid hw2
    clear hga hgb hg1
    go_wp2_with fail
    rw [hw2.out, hN.out]
    clear hw2 hN
    refine (rdecode_any b (.slice B1 nb cb) (by rw [hnb.out]; omega) w2 hy.out).mono ?_
    rw [hd]
    rintro e w3 ⟨hans, hg3⟩
    replace hans : e = _ := hans
    subst hans
    have hga := Gr.alloc w3 (.cells #[.int .i64 0, .string ⟨#[]⟩, .int .i64 0, .int .i64 0, .slice none 0 0, .string ⟨#[]⟩, .int .i64 0, .slice none 0 0] 25)
    have hgb := hg3.trans hga
    have hm2 := heap_alloc_new w3 (.cells #[.int .i64 0, .string ⟨#[]⟩, .int .i64 0, .int .i64 0, .slice none 0 0, .string ⟨#[]⟩, .int .i64 0, .slice none 0 0] 25)
    have hv2 : Hid (NtV nz (.agg #[.int .i64 0, .string ⟨#[]⟩, .int .i64 0, .int .i64 0, .slice none 0 0, .string ⟨#[]⟩, .int .i64 0, .slice none 0 0]) (w3.alloc (.cells #[.int .i64 0, .string ⟨#[]⟩, .int .i64 0, .int .i64 0, .slice none 0 0, .string ⟨#[]⟩, .int .i64 0, .slice none 0 0] 25))) := NtV.gr hga (Lib.hid ⟨none, 0, none, 0, rfl, Byt.nil_ _, Pls.nil_ _ _ _ (Nat.zero_le _)⟩)
    replace hg := Lib.hid (hg.out.trans hgb)
    replace hm := Lib.hid (blk_below hm.out hgb)
    replace hv := NtV.gr hgb hv
    obtain ⟨M, hM⟩ : ∃ M, w3.heap.size = M := ⟨_, rfl⟩
    rw [hM] at hm2
    obtain ⟨w4, hw4⟩ : ∃ w4, w3.alloc (.cells #[.int .i64 0, .string ⟨#[]⟩, .int .i64 0, .int .i64 0, .slice none 0 0, .string ⟨#[]⟩, .int .i64 0, .slice none 0 0] 25) = w4 := ⟨_, rfl⟩
    rw [hw4] at hm2 hv2 hg hm hv
    replace hm2 := Lib.hid hm2
    replace hM := Lib.hid hM
    replace hw4 := Lib.hid hw4
    clear hga hgb hg3 hy
    go_wp2_with fail
    rw [hw4.out, hM.out]
    clear hw4 hM
    refine (awake_any _).mono ?_
    rintro e w5 ⟨rfl, hg5⟩
    replace hg := Lib.hid (hg.out.trans hg5)
    replace hm := Lib.hid (blk_below hm.out hg5)
    replace hm2 := Lib.hid (blk_below hm2.out hg5)
    replace hv := NtV.gr hg5 hv
    replace hv2 := NtV.gr hg5 hv2
    clear hg5
    have hsa := rsame_any nz nz _ _ w5 hv.out hv2.out
    rw [show sameN nz nz = true from decide_eq_true rfl] at hsa
    replace hsa := Lib.hid hsa
    have x0 := blk_cell (j := 0) (v := .int .i64 0) hm.out rfl
    have x1 := blk_cell (j := 1) (v := .string ⟨#[]⟩) hm.out rfl
    have x2 := blk_cell (j := 2) (v := .int .i64 0) hm.out rfl
    have x3 := blk_cell (j := 3) (v := .int .i64 0) hm.out rfl
    have x4 := blk_cell (j := 4) (v := .slice none 0 0) hm.out rfl
    have x5 := blk_cell (j := 5) (v := .string ⟨#[]⟩) hm.out rfl
    have x6 := blk_cell (j := 6) (v := .int .i64 0) hm.out rfl
    have x7 := blk_cell (j := 7) (v := .slice none 0 0) hm.out rfl
    have y0 := blk_cell (j := 0) (v := .int .i64 0) hm2.out rfl
    have y1 := blk_cell (j := 1) (v := .string ⟨#[]⟩) hm2.out rfl
    have y2 := blk_cell (j := 2) (v := .int .i64 0) hm2.out rfl
    have y3 := blk_cell (j := 3) (v := .int .i64 0) hm2.out rfl
    have y4 := blk_cell (j := 4) (v := .slice none 0 0) hm2.out rfl
    have y5 := blk_cell (j := 5) (v := .string ⟨#[]⟩) hm2.out rfl
    have y6 := blk_cell (j := 6) (v := .int .i64 0) hm2.out rfl
    have y7 := blk_cell (j := 7) (v := .slice none 0 0) hm2.out rfl
    go_wp2_with fail
    refine hsa.out.mono ?_
    clear hsa x0 x1 x2 x3 x4 x5 x6 x7 y0 y1 y2 y3 y4 y5 y6 y7
    rintro e w6 ⟨rfl, hg6⟩
    replace hg := Lib.hid (hg.out.trans hg6)
    go_wp2_with fail
    go_ret
    exact ⟨rfl, hg.out⟩
  | some m =>
    rw [hd] at hdc
    replace hdc := Lib.hid hdc
    go_enter Try.func4, Try.ntmps4
    go_wp2_with fail
    refine hdc.out.mono ?_
    clear hdc
    rintro e w1 ⟨⟨u, rfl, hmv⟩, hg1⟩
    obtain ⟨mA, mc, mA2, mc2, rfl, hn1, hn2, -, -⟩ := hmv
    have hga := Gr.alloc w1 (.cells #[.int .i64 m.kind, .string (bs m.key), .int .i64 m.gen, .int .i64 m.cart, .slice mA m.data.length mc, .string (bs m.sum), .int .i64 m.size, .slice mA2 m.places.length mc2] 25)
    have hgb := hg1.trans hga
    have hm := heap_alloc_new w1 (.cells #[.int .i64 m.kind, .string (bs m.key), .int .i64 m.gen, .int .i64 m.cart, .slice mA m.data.length mc, .string (bs m.sum), .int .i64 m.size, .slice mA2 m.places.length mc2] 25)
    have hv : Hid (NtV m (.agg #[.int .i64 m.kind, .string (bs m.key), .int .i64 m.gen, .int .i64 m.cart, .slice mA m.data.length mc, .string (bs m.sum), .int .i64 m.size, .slice mA2 m.places.length mc2]) (w1.alloc (.cells #[.int .i64 m.kind, .string (bs m.key), .int .i64 m.gen, .int .i64 m.cart, .slice mA m.data.length mc, .string (bs m.sum), .int .i64 m.size, .slice mA2 m.places.length mc2] 25))) := NtV.gr hga (Lib.hid ⟨mA, mc, mA2, mc2, rfl, hn1, hn2⟩)
    have hg : Hid (Gr w (w1.alloc (.cells #[.int .i64 m.kind, .string (bs m.key), .int .i64 m.gen, .int .i64 m.cart, .slice mA m.data.length mc, .string (bs m.sum), .int .i64 m.size, .slice mA2 m.places.length mc2] 25))) := Lib.hid hgb
    replace hy := Byt.gr hgb hy
    obtain ⟨N, hN⟩ : ∃ N, w1.heap.size = N := ⟨_, rfl⟩
    rw [hN] at hm
    obtain ⟨w2, hw2⟩ : ∃ w2, w1.alloc (.cells #[.int .i64 m.kind, .string (bs m.key), .int .i64 m.gen, .int .i64 m.cart, .slice mA m.data.length mc, .string (bs m.sum), .int .i64 m.size, .slice mA2 m.places.length mc2] 25) = w2 := ⟨_, rfl⟩
    rw [hw2] at hm hv hg hy
    have hs2 : N + 1 ≤ w2.heap.size := by rw [← hw2, ← hN]; simp
    replace hm := Lib.hid hm
    replace hN := Lib.hid hN
    replace hw2 := Lib.hid hw2
    clear hga hgb hg1
    have hset : m.agg mA mc mA2 mc2 = .agg #[.int .i64 m.kind, .string (bs m.key), .int .i64 m.gen, .int .i64 m.cart, .slice mA m.data.length mc, .string (bs m.sum), .int .i64 m.size, .slice mA2 m.places.length mc2] := rfl
    rw [hset]
    clear hset
    go_wp2_with fail
    rw [hw2.out, hN.out]
    clear hw2 hN
    refine (rdecode_any b (.slice B1 nb cb) (by rw [hnb.out]; omega) w2 hy.out).mono ?_
    rw [hd]
    rintro e w3 ⟨⟨u, rfl, hkv⟩, hg3⟩
    obtain ⟨kA, kc, kA2, kc2, rfl, hk1, hk2, -, -⟩ := hkv
    have hga := Gr.alloc w3 (.cells #[.int .i64 m.kind, .string (bs m.key), .int .i64 m.gen, .int .i64 m.cart, .slice kA m.data.length kc, .string (bs m.sum), .int .i64 m.size, .slice kA2 m.places.length kc2] 25)
    have hgb := hg3.trans hga
    have hm2 := heap_alloc_new w3 (.cells #[.int .i64 m.kind, .string (bs m.key), .int .i64 m.gen, .int .i64 m.cart, .slice kA m.data.length kc, .string (bs m.sum), .int .i64 m.size, .slice kA2 m.places.length kc2] 25)
    have hv2 : Hid (NtV m (.agg #[.int .i64 m.kind, .string (bs m.key), .int .i64 m.gen, .int .i64 m.cart, .slice kA m.data.length kc, .string (bs m.sum), .int .i64 m.size, .slice kA2 m.places.length kc2]) (w3.alloc (.cells #[.int .i64 m.kind, .string (bs m.key), .int .i64 m.gen, .int .i64 m.cart, .slice kA m.data.length kc, .string (bs m.sum), .int .i64 m.size, .slice kA2 m.places.length kc2] 25))) := NtV.gr hga (Lib.hid ⟨kA, kc, kA2, kc2, rfl, hk1, hk2⟩)
    replace hg := Lib.hid (hg.out.trans hgb)
    replace hm := Lib.hid (blk_below hm.out hgb)
    replace hv := NtV.gr hgb hv
    obtain ⟨M, hM⟩ : ∃ M, w3.heap.size = M := ⟨_, rfl⟩
    rw [hM] at hm2
    obtain ⟨w4, hw4⟩ : ∃ w4, w3.alloc (.cells #[.int .i64 m.kind, .string (bs m.key), .int .i64 m.gen, .int .i64 m.cart, .slice kA m.data.length kc, .string (bs m.sum), .int .i64 m.size, .slice kA2 m.places.length kc2] 25) = w4 := ⟨_, rfl⟩
    rw [hw4] at hm2 hv2 hg hm hv
    replace hm2 := Lib.hid hm2
    replace hM := Lib.hid hM
    replace hw4 := Lib.hid hw4
    clear hga hgb hg3 hy
    have hset : m.agg kA kc kA2 kc2 = .agg #[.int .i64 m.kind, .string (bs m.key), .int .i64 m.gen, .int .i64 m.cart, .slice kA m.data.length kc, .string (bs m.sum), .int .i64 m.size, .slice kA2 m.places.length kc2] := rfl
    rw [hset]
    clear hset
    go_wp2_with fail
    rw [hw4.out, hM.out]
    clear hw4 hM
    refine (awake_any _).mono ?_
    rintro e w5 ⟨rfl, hg5⟩
    replace hg := Lib.hid (hg.out.trans hg5)
    replace hm := Lib.hid (blk_below hm.out hg5)
    replace hm2 := Lib.hid (blk_below hm2.out hg5)
    replace hv := NtV.gr hg5 hv
    replace hv2 := NtV.gr hg5 hv2
    clear hg5
    have hsa := rsame_any m m _ _ w5 hv.out hv2.out
    rw [show sameN m m = true from decide_eq_true rfl] at hsa
    replace hsa := Lib.hid hsa
    have x0 := blk_cell (j := 0) (v := .int .i64 m.kind) hm.out rfl
    have x1 := blk_cell (j := 1) (v := .string (bs m.key)) hm.out rfl
    have x2 := blk_cell (j := 2) (v := .int .i64 m.gen) hm.out rfl
    have x3 := blk_cell (j := 3) (v := .int .i64 m.cart) hm.out rfl
    have x4 := blk_cell (j := 4) (v := .slice mA m.data.length mc) hm.out rfl
    have x5 := blk_cell (j := 5) (v := .string (bs m.sum)) hm.out rfl
    have x6 := blk_cell (j := 6) (v := .int .i64 m.size) hm.out rfl
    have x7 := blk_cell (j := 7) (v := .slice mA2 m.places.length mc2) hm.out rfl
    have y0 := blk_cell (j := 0) (v := .int .i64 m.kind) hm2.out rfl
    have y1 := blk_cell (j := 1) (v := .string (bs m.key)) hm2.out rfl
    have y2 := blk_cell (j := 2) (v := .int .i64 m.gen) hm2.out rfl
    have y3 := blk_cell (j := 3) (v := .int .i64 m.cart) hm2.out rfl
    have y4 := blk_cell (j := 4) (v := .slice kA m.data.length kc) hm2.out rfl
    have y5 := blk_cell (j := 5) (v := .string (bs m.sum)) hm2.out rfl
    have y6 := blk_cell (j := 6) (v := .int .i64 m.size) hm2.out rfl
    have y7 := blk_cell (j := 7) (v := .slice kA2 m.places.length kc2) hm2.out rfl
    go_wp2_with fail
    refine hsa.out.mono ?_
    clear hsa x0 x1 x2 x3 x4 x5 x6 x7 y0 y1 y2 y3 y4 y5 y6 y7
    rintro e w6 ⟨rfl, hg6⟩
    replace hg := Lib.hid (hg.out.trans hg6)
    go_wp2_with fail
    go_ret
    exact ⟨rfl, hg.out⟩
end Go.Proofs.Ytgdbbjijneidaaa
