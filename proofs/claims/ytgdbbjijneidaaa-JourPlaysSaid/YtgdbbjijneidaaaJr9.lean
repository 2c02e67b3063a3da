/- Journals: Open, Add, Size. -/
import Derived.Test.YtgdbbjijneidaaaJr8
import Derived.Test.YtgdbbjijneidaaaDskWalkJ
namespace Go.Proofs.Ytgdbbjijneidaaa
set_option linter.unusedVariables false
set_option linter.unusedSimpArgs false
open Go Go.RowKit
/-- a journal in memory: its disk, its size -/
def Jn (w : World) (J g : Nat) (z : Int) : Prop := w.heap[J]? = some (.cells #[.pointer (some ⟨g, 0, none⟩), .int .i64 z] 99 (0, 0))
set_option maxRecDepth 10000 in
theorem open_nil (w : World) : Calls Try.prog 30 #[.pointer none] w fun e w' => e = .returned (.tuple #[.pointer none, .slice none 0 0, .int .i64 1]) ∧ w' = w := by
  go_enter Try.func30, Try.ntmps30
  go_wp2_with fail
  exact bodyPost_ret (v := .tuple #[.pointer none, .slice none 0 0, .int .i64 1]) (by simp [results, Try.results30, go_sem]) rfl ⟨rfl, rfl⟩
set_option maxRecDepth 10000 in
theorem jsize_nil (w : World) : Calls Try.prog 41 #[.pointer none] w fun e w' => e = .returned (.int .i64 0) ∧ w' = w := by
  go_enter Try.func41, Try.ntmps41
  go_wp2_with fail
  go_ret
  exact ⟨rfl, rfl⟩
set_option maxRecDepth 10000 in
theorem jsize_any (J g : Nat) (z : Int) (w : World) (h : Jn w J g z) : Calls Try.prog 41 #[.pointer (some ⟨J, 0, none⟩)] w fun e w' => e = .returned (.int .i64 z) ∧ w' = w := by
  have c1 := blk_cell (j := 1) (v := .int .i64 z) h rfl
  clear h
  go_enter Try.func41, Try.ntmps41
  go_wp2_with fail
  go_ret
  exact ⟨rfl, rfl⟩
set_option maxRecDepth 10000 in
theorem add_nil (n : Nt) (v : Value) (w : World) (h : NtV n v w) : Calls Try.prog 39 #[.pointer none, v] w fun e w' => e = .returned (.int .i64 1) ∧ Gr w w' := by
  obtain ⟨A, c, A2, c2, rfl, -, -⟩ := h
  have hb := Lib.hid (Gr.alloc w (.cells (n.cells A c A2 c2) 25))
  unfold Nt.cells at hb
  unfold Nt.agg
  go_enter Try.func39, Try.ntmps39
  go_wp2_with fail
  go_ret
  exact ⟨rfl, hb.out⟩
set_option maxRecDepth 10000 in
theorem jswap_nil (v : Value) (w : World) : Calls Try.prog 37 #[.pointer none, v] w fun e w' => e = .returned (.int .i64 1) ∧ w' = w := by
  go_enter Try.func37, Try.ntmps37
  go_wp2_with fail
  go_ret
  exact ⟨rfl, rfl⟩
set_option maxHeartbeats 2000000 in
set_option maxRecDepth 10000 in
theorem open_whole (lo hi g : Nat) (s : DS) (w : World) (h : Dk w lo hi g s) (hw : (scanN s.c).2 = s.c.length) :
    Calls Try.prog 30 #[.pointer (some ⟨g, 0, none⟩)] w fun e w' => ∃ J u E, e = .returned (.tuple #[.pointer (some ⟨J, 0, none⟩), u, .int .i64 0]) ∧ E.map (·.n) = (scanN s.c).1 ∧ ON E u w.heap.size w' ∧ Jn w' J g s.c.length ∧ w.heap.size ≤ J ∧ Gr w w' := by
  have hby := Lib.hid (bytes_any lo hi g s w h)
  have hlen := h.ok.len
  obtain ⟨N, hN⟩ : ∃ N, w.heap.size = N := ⟨_, rfl⟩
  rw [hN]
  obtain ⟨nb, hnb⟩ : ∃ nb, s.c.length = nb := ⟨_, rfl⟩
  rw [hnb] at hw hlen ⊢
  replace hnb := Lib.hid hnb
  replace hw := Lib.hid hw
  replace hN := Lib.hid hN
  clear h
  go_enter Try.func30, Try.ntmps30
  go_wp2_with fail
  refine hby.out.mono ?_
  rintro e w1 ⟨v1, rfl, ho1, hg1⟩
  replace hg1 : Hid (Gr w w1) := Lib.hid hg1
  have hsc := scan_any s.c v1 _ (by rw [hnb.out]; omega) w1 ho1
  rw [hw.out] at hsc
  replace hsc := Lib.hid hsc
  obtain ⟨A1, c1, rfl, -⟩ := ho1.form
  rw [hnb.out] at hsc ⊢
  clear ho1 hby
  go_wp2_with fail
  refine hsc.out.mono ?_
  rintro e w2 ⟨u, E, rfl, hE, ho, hg2⟩
  have hs1 : N ≤ w1.heap.size := by have := hg1.out.size; rw [hN.out] at this; exact this
  have hg3 := Lib.hid (hg1.out.trans hg2)
  have hs2 : N ≤ w2.heap.size := by have := hg3.out.size; rw [hN.out] at this; exact this
  have hga := Gr.alloc w2 (.cells #[.pointer (some ⟨g, 0, none⟩), .int .i64 nb] 99)
  have hJ : Hid (Jn (w2.alloc (.cells #[.pointer (some ⟨g, 0, none⟩), .int .i64 nb] 99)) w2.heap.size g nb) := Lib.hid (heap_alloc_new w2 _)
  have ho' : Hid (ON E u N (w2.alloc (.cells #[.pointer (some ⟨g, 0, none⟩), .int .i64 nb] 99))) := by
    have h := (ON.gr hga (Lib.hid ho)).out
    exact Lib.hid ⟨row_more h.row hs1, h.vs, h.ap⟩
  have hg4 := Lib.hid (hg3.out.trans hga)
  replace hE := Lib.hid hE
  obtain ⟨Au, mu, cu, rfl⟩ : ∃ A m c, u = .slice A m c := by obtain ⟨A, c, e, -⟩ := ho.form; exact ⟨A, _, c, e⟩
  clear ho hg2 hsc hga
  go_wp2_with fail
  exact bodyPost_ret (v := .tuple #[.pointer (some ⟨w2.heap.size, 0, none⟩), .slice Au mu cu, .int .i64 0]) (by simp [results, Try.results30, go_sem]) rfl ⟨_, _, E, rfl, hE.out, ho'.out, hJ.out, hs2, hg4.out⟩
theorem DS.op_free {s : DS} (h : s.fused = false) : s.op = (true, s) := by unfold DS.op; rw [h]; rfl
set_option maxHeartbeats 4000000 in
set_option maxRecDepth 10000 in
theorem add_ok (lo hi g J : Nat) (s : DS) (z : Nat) (n : Nt) (v : Value) (w : World) (h : Dk w lo hi g s) (hJ : Jn w J g z) (hJl : lo ≤ J) (hn : NtV n v w) (hgd : goodN n = true) (hfu : s.fused = false) (hfit : s.c.length + (frameB (encN n)).length ≤ 262144) (hz : z ≤ 262144) :
    Calls Try.prog 39 #[.pointer (some ⟨J, 0, none⟩), v] w fun e w' => e = .returned (.int .i64 0) ∧ Dk w' lo w'.heap.size g { s with c := s.c ++ frameB (encN n), dur := (s.c ++ frameB (encN n)).length } ∧ Jn w' J g (z + (frameB (encN n)).length : Nat) ∧ Below lo w w' := by
  have hJg : J ≠ g := by
    rintro rfl
    obtain ⟨v0, hh, -⟩ := h
    rw [hJ] at hh
    injection hh with hh
    injection hh with _ hT _
    revert hT
    decide
  have hlw : lo ≤ w.heap.size := by have := h.bounds; omega
  have hok := h.ok
  have hv := hn
  obtain ⟨A, c, A2, c2, rfl, -, -⟩ := hn
  have hb := Gr.alloc w (.cells (n.cells A c A2 c2) 25)
  have hen := encode_ok n _ _ (NtV.gr hb (Lib.hid hv)).out hgd
  replace hen := Lib.hid hen
  have hD1 := Lib.hid (h.below hb)
  have hJ1 := Lib.hid (blk_below hJ hb)
  have hlen2 := encN_len ((good_iff n).1 hgd)
  have hl1 : Hid (Below lo w (w.alloc (.cells (n.cells A c A2 c2) 25))) := Lib.hid (Below.mono hb hlw)
  have hs1 := hb.size
  unfold Nt.cells at hen hD1 hJ1 hl1 hs1
  clear hb hv h hJ
  unfold Nt.agg at hen ⊢
  obtain ⟨X, hX⟩ : ∃ X, encN n = X := ⟨_, rfl⟩
  rw [hX] at hfit hlen2 hen ⊢
  replace hX := Lib.hid hX
  obtain ⟨Y, hY⟩ : ∃ Y, frameB X = Y := ⟨_, rfl⟩
  rw [hY] at hfit ⊢
  replace hY := Lib.hid hY
  go_enter Try.func39, Try.ntmps39
  go_wp2_with fail
  refine hen.out.mono ?_
  rintro e w2 ⟨v2, rfl, ho2, hg2⟩
  replace hD1 := Lib.hid (hD1.out.below hg2)
  replace hJ1 := Lib.hid (blk_below hJ1.out hg2)
  replace hl1 := Lib.hid (hl1.out.trans (Below.mono hg2 (by omega)))
  have hs2 := hg2.size
  have hfr := Lib.hid (frame_any X v2 (by omega) w2 (Byt.ob ho2))
  obtain ⟨A2', m2, c2', rfl⟩ := ho2.shape
  clear hen hg2 ho2
  go_wp2_with fail
  refine hfr.out.mono ?_
  rintro e w3 ⟨v3, rfl, ho3, hg3⟩
  rw [hY.out] at ho3
  replace hD1 := Lib.hid (hD1.out.below hg3)
  replace hJ1 := Lib.hid (blk_below hJ1.out hg3)
  replace hl1 := Lib.hid (hl1.out.trans (Below.mono hg3 (by omega)))
  have hs3 := hg3.size
  obtain ⟨A3, c3, rfl, hc31, hc32, hR3, -⟩ := ho3.form
  obtain ⟨ny, hny⟩ : ∃ ny, Y.length = ny := ⟨_, rfl⟩
  rw [hny] at hc31 hfit ⊢
  have hap := append_any lo _ g s A3 ny c3 Y hny (by omega) w3 hD1.out hR3
  have hsa : s.append Y = (0, { s with c := s.c ++ Y }) := by
    unfold DS.append
    rw [hny, if_neg (by omega), DS.op_free hfu]
    rfl
  rw [hsa] at hap
  replace hap := Lib.hid hap
  have x0 := blk_cell (j := 0) (v := .pointer (some ⟨g, 0, none⟩)) hJ1.out rfl
  clear hfr hg3 ho3 hR3 hsa
  go_wp2_with fail
  refine hap.out.mono ?_
  clear hap x0
  rintro e w4 ⟨rfl, hD4, hc4⟩
  replace hJ1 := Lib.hid (hc4.block hJ1.out hJg (by decide))
  replace hl1 := Lib.hid (hl1.out.trans (hc4.below (by omega)))
  have hs4 := hc4.size
  have hsy := sync_any lo _ g _ w4 hD4
  have hss : (DS.mk (s.c ++ Y) s.dur s.fused s.left).sync = (0, { s with c := s.c ++ Y, dur := (s.c ++ Y).length }) := by
    unfold DS.sync
    rw [DS.op_free (s := DS.mk (s.c ++ Y) s.dur s.fused s.left) hfu]
    rfl
  rw [hss] at hsy
  replace hsy := Lib.hid hsy
  have x0 := blk_cell (j := 0) (v := .pointer (some ⟨g, 0, none⟩)) hJ1.out rfl
  clear hD4 hc4 hss hD1
  go_wp2_with fail
  refine hsy.out.mono ?_
  clear hsy x0
  rintro e w5 ⟨rfl, hD5, hc5⟩
  replace hJ1 := Lib.hid (hc5.block hJ1.out hJg (by decide))
  replace hl1 := Lib.hid (hl1.out.trans (hc5.below (by omega)))
  have hD6 : Hid (Dk (w5.setCell ⟨J, 1, none⟩ (.int .i64 (z + ny : Nat))) lo (w5.setCell ⟨J, 1, none⟩ (.int .i64 (z + ny : Nat))).heap.size g { s with c := s.c ++ Y, dur := (s.c ++ Y).length }) := Lib.hid (by
    obtain ⟨v0, hh, q1, q2, q3, q4, q5, q6⟩ := hD5
    have hz5 : (w5.setCell ⟨J, 1, none⟩ (.int .i64 (z + ny : Nat))).heap.size = w5.heap.size := by simp [World.setCell]
    exact ⟨v0, (blk_other (Ne.symm hJg) 1 _).trans hh, q1, by rw [hz5]; omega, Nat.le_refl _, OB.set_other q4 1 _ (OB.ne_blk q4 hJ1.out (by decide)), fun k hk => by have := q5 k hk; rw [hz5]; omega, q6⟩)
  have x1 := blk_cell (j := 1) (v := .int .i64 z) hJ1.out rfl
  have f1 := blk_free hJ1.out 1
  have hJ6 := Lib.hid (blk_set hJ1.out 1 (.int .i64 (z + ny : Nat)))
  have hl6 := Lib.hid (hl1.out.setCell (p := ⟨J, 1, none⟩) hJl (.int .i64 (z + ny : Nat)))
  have hw64 : IntKind.i64.wrap ((z : Int) + (ny : Int)) = ((z + ny : Nat) : Int) := by rw [IntKind.wrap_i64]; omega
  clear hD5 hc5 hJ1 hl1
  go_wp2_with fail
  go_ret
  exact ⟨rfl, hD6.out, by have h := hJ6.out; simpa [Jn, hny] using h, hl6.out⟩
end Go.Proofs.Ytgdbbjijneidaaa
