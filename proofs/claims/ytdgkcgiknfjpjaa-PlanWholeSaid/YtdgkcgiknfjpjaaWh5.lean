/- The law PlanWhole. -/
import Derived.Test.YtdgkcgiknfjpjaaWh4
namespace Go.Proofs.Ytdgkcgiknfjpjaa
set_option linter.unusedVariables false
set_option linter.unusedSimpArgs false
open Go Go.RowKit
set_option maxHeartbeats 8000000 in
set_option maxRecDepth 20000 in
theorem planWhole_any (e : En) (hz : R64 e.size) (A : Option Addr) (n c : Nat) (hc : n ≤ c) (hcm : c ≤ 9223372036854775807) {S : List (List UInt8)} {v : Value} (w : World) (hS : Hid (Tbl S v w)) :
    Calls Try.prog 8 #[e.agg A n c, v] w fun r w' => r = .returned (.bool true) ∧ Below w.heap.size w w' := by
  unfold En.agg
  have x3 := Lib.hid (heap_alloc_new w (.cells #[.string (bs e.key), .int .i64 e.gen, .int .i64 e.size, .string (bs e.sum), .slice A n c] 55))
  have hr : Gr w (w.alloc (.cells #[.string (bs e.key), .int .i64 e.gen, .int .i64 e.size, .string (bs e.sum), .slice A n c] 55)) := (Below.refl _ _).alloc (Nat.le_refl _) _
  replace hS := Tbl.gr hr hS
  have hqd : Hid (Below w.heap.size w (w.alloc (.cells #[.string (bs e.key), .int .i64 e.gen, .int .i64 e.size, .string (bs e.sum), .slice A n c] 55))) := Lib.hid hr
  clear hr
  go_enter Try.func8, Try.ntmps8
  have c0 := blk_cell (j := 0) x3.out rfl
  have c1 := blk_cell (j := 1) x3.out rfl
  have c2 := blk_cell (j := 2) x3.out rfl
  have c3 := blk_cell (j := 3) x3.out rfl
  have c4 := blk_cell (j := 4) x3.out rfl
  go_wp2_with fail
  clear c0 c1 c2 c3 c4
  refine (slots_any e A n c hc hcm _).mono ?_
  rintro r w3 ⟨rfl, hr⟩
  replace hS := Tbl.gr hr hS
  replace hqd := Lib.hid (hqd.out.trans (Below.mono hr hqd.out.size))
  clear hr x3
  obtain ⟨m, hm⟩ : ∃ m, min n 60 = m := ⟨_, rfl⟩
  rw [hm]
  have hm60 : m ≤ 60 := by omega
  replace hm := Lib.hid hm
  have x3 := heap_alloc_new w3 (.cells #[.string (bs e.key), .int .i64 e.gen, .int .i64 e.size, .string (bs e.sum), .slice A m c] 55)
  have hr : Gr w3 (w3.alloc (.cells #[.string (bs e.key), .int .i64 e.gen, .int .i64 e.size, .string (bs e.sum), .slice A m c] 55)) := (Below.refl _ _).alloc (Nat.le_refl _) _
  replace hS := Tbl.gr hr hS
  replace hqd := Lib.hid (hqd.out.trans (Below.mono hr hqd.out.size))
  clear hr
  go_upto_region 2 with (fail)
  generalize hg3 : w3.heap.size = g3 at x3 ⊢
  generalize w3.alloc (.cells #[.string (bs e.key), .int .i64 e.gen, .int .i64 e.size, .string (bs e.sum), .slice A m c] 55) = w4 at x3 hS hqd ⊢
  replace hg3 := Lib.hid hg3
  replace x3 := Lib.hid x3
  have c0 := blk_cell (j := 0) x3.out rfl
  have c1 := blk_cell (j := 1) x3.out rfl
  have c2 := blk_cell (j := 2) x3.out rfl
  have c3 := blk_cell (j := 3) x3.out rfl
  have c4 := blk_cell (j := 4) x3.out rfl
  have hw := Lib.hid (whole_any e A m c hm60 hz w4 hS)
  go_wp2_with fail
  clear c0 c1 c2 c3 c4
  refine hw.out.mono ?_
  clear hw
  rintro r w5 hp
  obtain ⟨x, d, Ds, hx, ⟨hr, A5, c5, rfl, ho5⟩, hDs, hR⟩ := whole_alike hp
  have hx0 : 0 ≤ x ∧ x ≤ 9 := by omega
  clear hp hx
  replace x3 := Lib.hid ((hr.block _ (Array.getElem?_eq_some_iff.mp x3.out).1).trans x3.out)
  replace hS := Tbl.gr hr hS
  replace hqd := Lib.hid (hqd.out.trans (Below.mono hr hqd.out.size))
  have hd5 : Hid (OB w5 w4.heap.size (.slice A5 d.length c5) d) := Lib.hid ho5
  clear hr ho5
  have c0 := blk_cell (j := 0) x3.out rfl
  have c1 := blk_cell (j := 1) x3.out rfl
  have c2 := blk_cell (j := 2) x3.out rfl
  have c3 := blk_cell (j := 3) x3.out rfl
  have c4 := blk_cell (j := 4) x3.out rfl
  have hw := Lib.hid (rwhole_any Ds e A m c (Lib.hid hDs) hm60 hz w5 hS)
  replace hR := Lib.hid hR
  clear hDs
  obtain ⟨N, hN⟩ : ∃ N, d.length = N := ⟨_, rfl⟩
  rw [hN] at hd5 ⊢
  go_wp2_with fail
  clear c0 c1 c2 c3 c4
  refine hw.out.mono ?_
  clear hw
  rintro r w6 hp
  obtain ⟨hr, A6, c6, rfl, ho6⟩ := hR.out _ _ _ hp
  clear hp hR
  rw [hN] at ho6 ⊢
  replace hd5 := Lib.hid (row_below hd5.out hr)
  replace hqd := Lib.hid (hqd.out.trans (Below.mono hr hqd.out.size))
  have hd6 : Hid (OB w6 w5.heap.size (.slice A6 N c6) d) := Lib.hid ho6
  clear hr ho6 x3 hS
  replace hN := Lib.hid hN
  go_wp2_with fail
  refine (awake19_any _).mono ?_
  rintro r w7 ⟨rfl, hr⟩
  have ho7 := row_below hd5.out hr
  have ho8 := row_below hd6.out hr
  have cv1 := run_str_at c5 (OB.rd ho7).1 (by exact hN.out)
  have cv2 := run_str_at c6 (OB.rd ho8).1 (by exact hN.out)
  have hqf := Lib.hid (hqd.out.trans (Below.mono hr hqd.out.size))
  clear hr ho7 ho8
  go_wp2_with fail
  go_ret
  exact ⟨by first | rfl | simp, hqf.out⟩
end Go.Proofs.Ytdgkcgiknfjpjaa
