/- model: ModelOwn: bytes that were put, and that were got, may be changed. -/
import Derived.Test.YtipdjchgdhfciaaMd4
namespace Go.Proofs.Ytipdjchgdhfciaa
set_option linter.unusedVariables false
set_option linter.unusedSimpArgs false
open Go Go.RowKit Go.Maps Go.Sort
theorem Md.set {w : World} {lo g b n : Nat} {L : List En} (h : Md w lo g b n L) {x : Nat} (hg : x ≠ g) (hb : x ≠ b) (hr : ∀ e ∈ L, e.2.1.ownBlock ≠ some x) (j : Nat) (u : Value) : Md (w.setCell ⟨x, j, none⟩ u) lo g b n L :=
  h.upd (S := (· = x)) (Upd.of_grown (blk_grown w x j u) rfl) (fun e => hg e.symm) (fun e => hb e.symm) (fun e he k hk ek => hr e he (by rw [hk, ek]))
set_option maxHeartbeats 8000000 in
set_option maxRecDepth 10000 in
theorem modelOwn_any (A : Option Addr) (m c : Nat) (l : List UInt8) (hl : l.length = m) (hm : m ≤ 140737488351232) (lc : m ≤ c) (cm : c ≤ maxLen) (t : UInt8) (w : World) (hr : Rd w w.heap.size A l) :
    Calls Try.prog 6 #[.slice A m c, .int .u8 (U t)] w fun e w' => e = .returned (.bool true) ∧ GrM w w' := by
  have ho := Lib.hid (OB.empty w w.heap.size (Nat.le_refl _))
  have hrw := Lib.hid (hr.alloc (Nat.le_refl _) (.cells #[] 5))
  have hrb : Hid (∀ w', GrM w w' → Rd w' w'.heap.size A l) := Lib.hid (fun w' hg => (hr.below hg).more hg.size)
  replace hl := Lib.hid hl
  clear hr
  go_enter Try.func6, Try.ntmps6
  go_upto_region 2 with (at_builtin; go_must (refine wpl_append rfl (.tmp 14) (.tmp 15) rfl w.heap.size (.slice (some ⟨w.heap.size, 0, none⟩) 0 0) [] rfl ho.out w.heap.size A c l (by rw [hl.out]; rfl) hrw.out (by simp; rw [hl.out]; omega) (by simp) ?_); intro v1 w1 hown1 hg1 _; rw [List.nil_append] at hown1; obtain ⟨Ax, cx, rfl, hcx, hcm, -, -⟩ := OB.form hown1; have hb1 := Lib.hid (below_app ho.out ((Below.refl _ _).alloc (Nat.le_refl _) _) (by simp) hg1); rw [hl.out])
  rw [hl.out] at hown1 hcx
  replace hown1 := Lib.hid hown1
  clear ho hrw hg1
  obtain ⟨lo, hlo⟩ : ∃ lo, w1.heap.size = lo := ⟨_, rfl⟩
  have hlx : Hid (∀ k, (Value.slice Ax m cx).ownBlock = some k → w.heap.size ≤ k ∧ k < lo) := Lib.hid (fun k hk => by have := hown1.out.lt k hk; rw [hlo] at this; exact this)
  have hlw : w.heap.size ≤ lo := by rw [← hlo]; exact hb1.out.size
  have hnew := Lib.hid (new22_any w1)
  rw [hlo] at hnew
  go_upto_region 3 with (go_at_call 8; go_must (refine hnew.out.mono ?_); rintro e w2 ⟨g, b, rfl, hm2, hg2⟩)
  have hlo2 : lo ≤ w2.heap.size := by rw [← hlo]; exact hg2.size
  have hx2 : Hid (OB w2 w.heap.size (.slice Ax m cx) l) := Lib.hid (OB.below hown1.out hg2)
  have hb2 : Hid (GrM w w2) := Lib.hid (GrM.trans hb1.out hg2)
  have hrx2 := (OB.rd hx2.out).1
  have hk107 : ([107] : List UInt8).length ≤ maxLen := by decide
  replace hlo := Lib.hid hlo
  clear hnew hown1 hb1 hg2
  by_cases hbig : 512 < m
  · have i1 : (512 : Int) < (m : Int) := by omega
    have hput := Lib.hid (put22_no lo g b 0 [] [107] l Ax m cx hk107 hl.out (by decide) w2 hlo2 hm2 hrx2 3 (by unfold putE; rw [show keyOk [107] = true from rfl, if_neg (by simp), if_pos (by rw [hl.out]; exact hbig)]) (by decide))
    have haw := Lib.hid (awake22_any w2)
    clear hrx2 hx2 hm2
    go_wp2_with (first
      | (go_at_call 11; go_must (refine hput.out.mono ?_); rintro e w' ⟨rfl, hee⟩; rw [hee]; clear hee)
      | (go_at_call 20; go_must (refine haw.out.mono ?_); rintro e w9 ⟨rfl, hg9⟩; replace hg9 := Lib.hid hg9))
    go_ret
    exact ⟨rfl, GrM.trans hb2.out hg9.out⟩
  · have i1 : decide ((512 : Int) < (m : Int)) = false := decide_eq_false (by omega)
    have hput := Lib.hid (put22_ok lo g b 0 [] [107] l Ax m cx hk107 hl.out (by decide) w2 hlo2 hm2 hrx2 (by unfold putE; rw [show keyOk [107] = true from rfl, if_neg (by simp), if_neg (by rw [hl.out]; exact hbig)]; rfl))
    clear hrx2
    go_upto_region 4 with (go_at_call 11; go_must (refine hput.out.mono ?_); rintro e w3 ⟨rfl, vv, hm3, hu3⟩)
    obtain ⟨L, hL⟩ : ∃ L, ([] : List En) ++ [([107], vv, l)] = L := ⟨_, rfl⟩
    rw [hL] at hm3
    have hhas : Hid (hasK L [107] = true) := Lib.hid (by rw [← hL]; rfl)
    have hdat : Hid (dataOf L [107] = l) := Lib.hid (by rw [← hL]; rfl)
    have hgl := hm2.out.gl
    have hbl := hm2.out.bl
    have hx3 : Hid (OB w3 w.heap.size (.slice Ax m cx) l) := Lib.hid (row_keep hx2.out (fun k hk => hu3.2.2.2.2 k (hx2.out.lt k hk).2 (fun e => by have := (hlx.out k hk).2; omega)))
    have hb3 : Hid (GrM w w3) := Lib.hid (Upd.to_below hb2.out hu3 hb2.out.size (fun k hk => by omega))
    have hrow : Hid (∀ e ∈ L, ∀ k, e.2.1.ownBlock = some k → lo ≤ k) := Lib.hid (fun e he k hk => ((hm3.out.rows e he).lt k hk).1)
    replace hL := Lib.hid hL
    clear hput hm2 hx2 hb2 hu3 hbig
    go_wp2_with fail
    go_loopw [8] (fun i wr => ∃ (k : Nat) (x : List UInt8), i = .int .i64 k ∧ k ≤ m ∧ Hid (x.length = m) ∧ Hid (OB wr w.heap.size (.slice Ax m cx) x) ∧ Hid (Md wr lo g b 1 L) ∧ Hid (GrM w wr)) (fun i _ => m - (intOf i).toNat)
    case atStart => exact ⟨0, l, rfl, Nat.zero_le _, hl, hx3, hm3, hb3⟩
    case round =>
      obtain ⟨k, x, rfl, hk, hxl, hx4, hm4, hb4⟩ := hrel
      clear hx3 hm3 hb3
      by_cases hlt : k < m
      · have ik : (k : Int) < (m : Int) := by omega
        have hkx : k < x.length := by rw [hxl.out]; exact hlt
        obtain ⟨gx, rfl, hg1, hg2, hcell, hfr, hst⟩ := OB.store hx4.out (k := k) hkx
        have hst := Lib.hid (hst (x[k] ^^^ t))
        have hg3 := (hlx.out gx rfl).2
        have hms := Lib.hid (hm4.out.set (x := gx) (by omega) (by omega) (fun e he h => by have := hrow.out e he gx h; omega) k (.int .u8 (U (x[k] ^^^ t))))
        have hb5 : Hid (GrM w (wr.setCell ⟨gx, k, none⟩ (.int .u8 (U (x[k] ^^^ t))))) := Lib.hid (RowKit.Below.setCell hb4.out (show w.heap.size ≤ gx from hg1) _)
        have hxs : Hid ((x.set k (x[k] ^^^ t)).length = m) := Lib.hid (by rw [List.length_set]; exact hxl.out)
        generalize hz : x[k] = z at *
        go_wp2_with fail
        go_roundw
        case rel => exact ⟨k + 1, x.set k (z ^^^ t), by go_num, by omega, hxs, hst, hms, hb5⟩
        case measure => simp [intOf]; omega
      · obtain rfl : k = m := by omega
        have ik : decide ((k : Int) < (k : Int)) = false := decide_eq_false (by omega)
        clear hx4 hlx hlt hxl
        rename World => wq
        have hget := Lib.hid (get22_yes lo g b 1 L [107] hk107 wq hm4 hhas.out)
        rw [hdat.out] at hget
        go_upto_region 11 with (go_at_call 18; go_must (refine hget.out.mono ?_); rintro e w5 ⟨v5, rfl, ho5, hg5⟩)
        have hm5 := Md.below hg5 hm4
        have hb5 := Lib.hid (GrM.trans hb4.out hg5)
        obtain ⟨A5, c5, rfl, -, -, hR5, -⟩ := ho5.out.form
        have hll := hl.out
        rw [hll] at ho5 ⊢
        have hcv5 := run_str_at (n := k) c5 hR5 hll
        have hcvb := run_str_at (n := k) c (hrb.out w5 hb5.out) hll
        have hq1 : g < wq.heap.size ∧ b < wq.heap.size := hm4.out.lt
        have hqr : Hid (∀ e ∈ L, ∀ j, e.2.1.ownBlock = some j → j < wq.heap.size) := Lib.hid (fun e he j hj => ((hm4.out.rows e he).lt j hj).2)
        have hqw : w.heap.size ≤ wq.heap.size := hb4.out.size
        clear hR5 hget hm4 hb4 hll
        go_wp2_with fail
        clear hcv5 hcvb
        go_loopw [11] (fun i wr => ∃ (j : Nat) (y : List UInt8), i = .int .i64 j ∧ j ≤ k ∧ Hid (y.length = k) ∧ Hid (OB wr wq.heap.size (.slice A5 k c5) y) ∧ Hid (Md wr lo g b 1 L) ∧ Hid (GrM w wr)) (fun i _ => k - (intOf i).toNat)
        case atStart => exact ⟨0, l, rfl, Nat.zero_le _, hl, ho5, hm5, hb5⟩
        case round =>
          obtain ⟨j, y, rfl, hj, hyl, hy6, hm6, hb6⟩ := hrel
          clear ho5 hm5 hb5
          by_cases hlt2 : j < k
          · have ij : (j : Int) < (k : Int) := by omega
            have hjy : j < y.length := by rw [hyl.out]; exact hlt2
            obtain ⟨gx, rfl, hg1, hg2, hcell, hfr, hst⟩ := OB.store hy6.out (k := j) hjy
            have hst := Lib.hid (hst (y[j] ^^^ t))
            have hms := Lib.hid (hm6.out.set (x := gx) (by omega) (by omega) (fun e he h => by have := hqr.out e he gx h; omega) j (.int .u8 (U (y[j] ^^^ t))))
            have hb7 : Hid (GrM w (wr.setCell ⟨gx, j, none⟩ (.int .u8 (U (y[j] ^^^ t))))) := Lib.hid (RowKit.Below.setCell hb6.out (show w.heap.size ≤ gx by omega) _)
            have hys : Hid ((y.set j (y[j] ^^^ t)).length = k) := Lib.hid (by rw [List.length_set]; exact hyl.out)
            generalize hz : y[j] = z at *
            go_wp2_with fail
            go_roundw
            case rel => exact ⟨j + 1, y.set j (z ^^^ t), by go_num, by omega, hys, hst, hms, hb7⟩
            case measure => simp [intOf]; omega
          · obtain rfl : j = k := by omega
            have ij : decide ((j : Int) < (j : Int)) = false := decide_eq_false (by omega)
            clear hy6 hyl hlt2
            rename World => wz
            have hget := Lib.hid (get22_yes lo g b 1 L [107] hk107 wz hm6 hhas.out)
            rw [hdat.out] at hget
            go_upto_region 18 with (go_at_call 18; go_must (refine hget.out.mono ?_); rintro e w7 ⟨v7, rfl, ho7, hg7⟩)
            have hb8 := Lib.hid (GrM.trans hb6.out hg7)
            obtain ⟨A7, c7, rfl, -, -, hR7, -⟩ := ho7.out.form
            have hll := hl.out
            rw [hll]
            have haw := Lib.hid (awake22_any w7)
            replace hR7 := Lib.hid hR7
            clear hget ho7 hm6 hb6
            go_wp2_with (go_at_call 20; go_must (refine haw.out.mono ?_); rintro e w9 ⟨rfl, hg9⟩; have hcz := run_str_at (n := j) c7 (hR7.out.below hg9) hll; have hcb := run_str_at (n := j) c (hrb.out w9 (GrM.trans hb8.out hg9)) hll; replace hg9 := Lib.hid hg9)
            go_ret
            exact ⟨rfl, GrM.trans hb8.out hg9.out⟩
end Go.Proofs.Ytipdjchgdhfciaa
