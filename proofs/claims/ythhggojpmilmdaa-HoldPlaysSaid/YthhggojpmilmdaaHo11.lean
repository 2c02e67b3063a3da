/- hold: HoldOwn. -/
import Derived.Test.YthhggojpmilmdaaHo10
namespace Go.Proofs.Ythhggojpmilmdaa
set_option linter.unusedVariables false
set_option linter.unusedSimpArgs false
open Go Go.RowKit
theorem OB.blk {w : World} {base g n c : Nat} {l : List UInt8} (h : OB w base (.slice (some ⟨g, 0, none⟩) n c) l) : ∃ cs, w.heap[g]? = some (.cells cs 5 (0, 0)) := by
  rcases h.2 with ⟨h, -⟩ | ⟨k, cap, cur, e, hb, hh, -⟩
  · cases h
  · injection e with e
    injection e with e
    injection e with e
    subst e
    exact ⟨cur, hh⟩
theorem Hd.set {w : World} {lo g r q : Nat} {L : List Nd} (h : Hd w lo g r q L) {x : Nat} {cs : Array Value} (hx : w.heap[x]? = some (.cells cs 5 (0, 0))) (hr : ∀ e ∈ L, e.2.2.1.ownBlock ≠ some x) (j : Nat) (u : Value) : Hd (w.setCell ⟨x, j, none⟩ u) lo g r q L where
  blk := (blk_other (fun e => by have h1 := h.blk; rw [e, hx] at h1; injection h1 with h1; injection h1 with _ h1 _; exact absurd h1 (by decide)) j u).trans h.blk
  lg := h.lg
  ring := by
    obtain ⟨nx, bf, hn, hl⟩ := h.ring
    exact ⟨nx, bf, hn.other (fun e he hh => by have h1 := hn e he; rw [hh, hx] at h1; injection h1 with h1; injection h1 with _ h1 _; exact absurd h1 (by decide)), hl⟩
  nd := h.nd
  lr := h.lr
  ls := h.ls
  rows e he := row_set_other (h.rows e he) x j u (hr e he)
  dist := h.dist
  le := h.le
  lq := h.lq
set_option maxHeartbeats 8000000 in
set_option maxRecDepth 10000 in
theorem holdOwn_any (A : Option Addr) (m c : Nat) (l : List UInt8) (hl : l.length = m) (lc : m ≤ c) (cm : c ≤ maxLen) (t : UInt8) (w : World) (hr : Rd w w.heap.size A l) :
    Calls Try.prog 6 #[.slice A m c, .int .u8 (U t)] w fun e w' => e = .returned (.bool true) ∧ GrM w w' := by
  by_cases hbig : 1000 < m
  · have i1 : (1000 : Int) < (m : Int) := by omega
    have haw := Lib.hid (awake17_any w)
    replace hl := Lib.hid hl
    clear hbig
    go_enter Try.func6, Try.ntmps6
    go_wp2_with (go_at_call 21; go_must (refine haw.out.mono ?_); rintro e w9 ⟨rfl, hg9⟩; replace hg9 := Lib.hid hg9)
    go_ret
    exact ⟨rfl, hg9.out⟩
  have i1 : decide ((1000 : Int) < (m : Int)) = false := decide_eq_false (by omega)
  have hm1 : m ≤ 1000 := by omega
  have ho := Lib.hid (OB.empty w w.heap.size (Nat.le_refl _))
  have hrw := Lib.hid (hr.alloc (Nat.le_refl _) (.cells #[] 5))
  have hrb : Hid (∀ w', GrM w w' → Rd w' w'.heap.size A l) := Lib.hid (fun w' hg => (hr.below hg).more hg.size)
  replace hl := Lib.hid hl
  replace hbig := Lib.hid hbig
  clear hr
  go_enter Try.func6, Try.ntmps6
  go_upto_region 4 with (at_builtin; go_must (refine wpl_append rfl (.tmp 17) (.tmp 18) rfl w.heap.size (.slice (some ⟨w.heap.size, 0, none⟩) 0 0) [] rfl ho.out w.heap.size A c l (by rw [hl.out]; rfl) hrw.out (by simp; rw [hl.out]; have := hbig.out; omega) (by simp) ?_); intro v1 w1 hown1 hg1 _; rw [List.nil_append] at hown1; obtain ⟨Ax, cx, rfl, hcx, hcm, -, -⟩ := OB.form hown1; have hb1 := Lib.hid (below_app ho.out ((Below.refl _ _).alloc (Nat.le_refl _) _) (by simp) hg1); rw [hl.out])
  rw [hl.out] at hown1 hcx
  replace hown1 := Lib.hid hown1
  clear ho hrw hg1
  obtain ⟨lo, hlo⟩ : ∃ lo, w1.heap.size = lo := ⟨_, rfl⟩
  have hlx : Hid (∀ k, (Value.slice Ax m cx).ownBlock = some k → w.heap.size ≤ k ∧ k < lo) := Lib.hid (fun k hk => by have := hown1.out.lt k hk; rw [hlo] at this; exact this)
  have hlw : w.heap.size ≤ lo := by rw [← hlo]; exact hb1.out.size
  have hnew := Lib.hid (new17_any 32768 w1)
  rw [hlo, show quotaOf 32768 = 32768 from rfl] at hnew
  go_upto_region 5 with (go_at_call 8; go_must (refine hnew.out.mono ?_); rintro e w2 ⟨g, r, rfl, hm2, hg2⟩)
  have hlo2 : lo ≤ w2.heap.size := by rw [← hlo]; exact hg2.size
  have hx2 : Hid (OB w2 w.heap.size (.slice Ax m cx) l) := Lib.hid (OB.below hown1.out hg2)
  have hb2 : Hid (GrM w w2) := Lib.hid (GrM.trans hb1.out hg2)
  have hby : Hid (BytH lo l Ax w2) := Lib.hid ⟨(OB.rd hx2.out).1, fun ad ha hn => by
    subst ha
    rcases hx2.out.2 with ⟨hh, -⟩ | ⟨k, cap, cur, e, -⟩
    · cases hh
    · injection e with e
      injection e with e
      subst e
      exact .inl (hlx.out _ rfl).2⟩
  replace hlo := Lib.hid hlo
  have hput := Lib.hid (put17_yes lo g r 32768 [] [107] l Ax m cx hl (by have := hbig.out; omega) w2 (Lib.hid hlo2) hm2 hby)
  clear hnew hown1 hb1 hg2 hby
  go_upto_region 7 with (go_at_call 14; go_must (refine hput.out.mono ?_); rintro e w3 ⟨rfl, ⟨p, vv, -, hm3, -⟩, hu3⟩)
  have hm3' : Hid (Hd w3 lo g r 32768 [(p, [107], vv, l)]) := hm3
  clear hm3
  obtain ⟨L, hL⟩ : ∃ L, [((p, [107], vv, l) : Nd)] = L := ⟨_, rfl⟩
  have hm3 := hm3'
  rw [hL] at hm3
  have hx3 : Hid (OB w3 w.heap.size (.slice Ax m cx) l) := Lib.hid (row_tchg hx2.out hu3 (by decide))
  have hb3 : Hid (GrM w w3) := Lib.hid (fin17 hb2.out hu3 hlw hlo2)
  have hrow : Hid (∀ e ∈ L, ∀ k, e.2.2.1.ownBlock = some k → lo ≤ k) := Lib.hid (fun e he k hk => ((hm3.out.rows e he).lt k hk).1)
  replace hL := Lib.hid hL
  clear hput hm2 hx2 hb2 hu3 hm3'
  go_wp2_with fail
  go_loopw [7] (fun i wr => ∃ (k : Nat) (x : List UInt8), i = .int .i64 k ∧ k ≤ m ∧ Hid (x.length = m) ∧ Hid (OB wr w.heap.size (.slice Ax m cx) x) ∧ Hid (Hd wr lo g r 32768 L) ∧ Hid (GrM w wr)) (fun i _ => m - (intOf i).toNat)
  case atStart => exact ⟨0, l, rfl, Nat.zero_le _, hl, hx3, hm3, hb3⟩
  case round =>
    obtain ⟨k, x, rfl, hk, hxl, hx4, hm4, hb4⟩ := hrel
    clear hx3 hm3 hb3
    by_cases hlt : k < m
    · have ik : (k : Int) < (m : Int) := by omega
      have hkx : k < x.length := by rw [hxl.out]; exact hlt
      obtain ⟨gx, rfl, hg1, hg2, hcell, hfr, hst⟩ := OB.store hx4.out (k := k) hkx
      have hst := Lib.hid (hst (x[k] ^^^ t))
      have hg3 := (hlx.out gx rfl).2
      have hms := Lib.hid (hm4.out.set (x := gx) (OB.blk hx4.out).choose_spec (fun e he h => by have := hrow.out e he gx h; omega) k (.int .u8 (U (x[k] ^^^ t))))
      have hb5 : Hid (GrM w (wr.setCell ⟨gx, k, none⟩ (.int .u8 (U (x[k] ^^^ t))))) := Lib.hid (RowKit.Below.setCell hb4.out (show w.heap.size ≤ gx from hg1) _)
      have hxs : Hid ((x.set k (x[k] ^^^ t)).length = m) := Lib.hid (by rw [List.length_set]; exact hxl.out)
      generalize hz : x[k] = z at *
      go_wp2_with fail
      go_roundw
      case rel => exact ⟨k + 1, x.set k (z ^^^ t), by go_num, by omega, hxs, hst, hms, hb5⟩
      case measure => simp [intOf]; omega
    · obtain rfl : k = m := by omega
      have ik : decide ((k : Int) < (k : Int)) = false := decide_eq_false (by omega)
      clear hx4 hlx hlt hxl
      rename World => wq
      have hget := Lib.hid (get17_yes lo g r 32768 [] (p, [107], vv, l) [] [107] rfl wq (by rw [← hL.out] at hm4; exact hm4))
      go_upto_region 12 with (go_at_call 10; go_must (refine hget.out.mono ?_); rintro e w5 ⟨v5, rfl, ho5, hm5', hg5⟩)
      have hm5 : Hid (Hd w5 lo g r 32768 L) := by rw [← hL.out]; exact hm5'
      have hqlo : lo ≤ wq.heap.size := Nat.le_trans hm4.out.lg (Nat.le_of_lt hm4.out.lt.1)
      have hb5 := Lib.hid (fin17 hb4.out hg5 hlw hqlo)
      clear hm5'
      obtain ⟨A5, c5, rfl, -, -, hR5, -⟩ := ho5.out.form
      have hll := hl.out
      rw [hll] at ho5 ⊢
      have hcv5 := run_str_at (n := k) c5 hR5 hll
      have hcvb := run_str_at (n := k) c (hrb.out w5 hb5.out) hll
      have hqr : Hid (∀ e ∈ L, ∀ j, e.2.2.1.ownBlock = some j → j < wq.heap.size) := Lib.hid (fun e he j hj => ((hm4.out.rows e he).lt j hj).2)
      have hqw : w.heap.size ≤ wq.heap.size := hb4.out.size
      clear hR5 hget hm4 hb4 hll
      go_wp2_with fail
      clear hcv5 hcvb
      go_loopw [10] (fun i wr => ∃ (j : Nat) (y : List UInt8), i = .int .i64 j ∧ j ≤ k ∧ Hid (y.length = k) ∧ Hid (OB wr wq.heap.size (.slice A5 k c5) y) ∧ Hid (Hd wr lo g r 32768 L) ∧ Hid (GrM w wr)) (fun i _ => k - (intOf i).toNat)
      case atStart => exact ⟨0, l, rfl, Nat.zero_le _, hl, ho5, hm5, hb5⟩
      case round =>
        obtain ⟨j, y, rfl, hj, hyl, hy6, hm6, hb6⟩ := hrel
        clear ho5 hm5 hb5
        by_cases hlt2 : j < k
        · have ij : (j : Int) < (k : Int) := by omega
          have hjy : j < y.length := by rw [hyl.out]; exact hlt2
          obtain ⟨gx, rfl, hg1, hg2, hcell, hfr, hst⟩ := OB.store hy6.out (k := j) hjy
          have hst := Lib.hid (hst (y[j] ^^^ t))
          have hms := Lib.hid (hm6.out.set (x := gx) (OB.blk hy6.out).choose_spec (fun e he h => by have := hqr.out e he gx h; omega) j (.int .u8 (U (y[j] ^^^ t))))
          have hb7 : Hid (GrM w (wr.setCell ⟨gx, j, none⟩ (.int .u8 (U (y[j] ^^^ t))))) := Lib.hid (RowKit.Below.setCell hb6.out (show w.heap.size ≤ gx by omega) _)
          have hys : Hid ((y.set j (y[j] ^^^ t)).length = k) := Lib.hid (by rw [List.length_set]; exact hyl.out)
          generalize hz : y[j] = z at *
          go_wp2_with fail
          go_roundw
          case rel => exact ⟨j + 1, y.set j (z ^^^ t), by go_num, by omega, hys, hst, hms, hb7⟩
          case measure => simp [intOf]; omega
        · obtain rfl : j = k := by omega
          have ij : decide ((j : Int) < (j : Int)) = false := decide_eq_false (by omega)
          clear hy6 hyl hlt2
          rename World => wz
          have hget := Lib.hid (get17_yes lo g r 32768 [] (p, [107], vv, l) [] [107] rfl wz (by rw [← hL.out] at hm6; exact hm6))
          go_upto_region 19 with (go_at_call 10; go_must (refine hget.out.mono ?_); rintro e w7 ⟨v7, rfl, ho7, -, hg7⟩)
          have hzlo : lo ≤ wz.heap.size := Nat.le_trans hm6.out.lg (Nat.le_of_lt hm6.out.lt.1)
          have hb8 := Lib.hid (fin17 hb6.out hg7 hlw hzlo)
          obtain ⟨A7, c7, rfl, -, -, hR7, -⟩ := ho7.out.form
          have hll := hl.out
          rw [hll]
          have haw := Lib.hid (awake17_any w7)
          replace hR7 := Lib.hid hR7
          clear hget ho7 hm6 hb6
          go_wp2_with (go_at_call 21; go_must (refine haw.out.mono ?_); rintro e w9 ⟨rfl, hg9⟩; have hcz := run_str_at (n := j) c7 (hR7.out.below hg9) hll; have hcb := run_str_at (n := j) c (hrb.out w9 (GrM.trans hb8.out hg9)) hll; replace hg9 := Lib.hid hg9)
          go_ret
          exact ⟨rfl, GrM.trans hb8.out hg9.out⟩
end Go.Proofs.Ythhggojpmilmdaa
