/- lib: New, the whole library behind it. -/
import Derived.Test.YtfjhdcppehfiiaaLi2
namespace Go.Proofs.Ytfjhdcppehfiiaa
set_option linter.unusedVariables false
set_option linter.unusedSimpArgs false
open Go Go.RowKit
theorem drive_endO {wr w8 : World} {lo g k cc c8 : Nat} {Ac Ad A8 : Option Addr} {cd : Nat} {nc : Nat} {C : List Nat}
    (h : Hid (Lb wr lo g (.slice Ac nc cc) (.slice Ad k cd) C (newD k) 0))
    (hr8 : w8.ownsRow lo 59 4 (.slice A8 (k + 1) c8) (k + 1) (flatD (newD (k + 1))))
    (hg8 : (wr.alloc (.cells #[.bool false, .int .i64 (-1), .int .i64 0, .int .i64 0] 59)).grownBy w8 (Value.slice Ad k cd).ownBlock)
    (hb8 : w8.heap[g]? = some (.cells #[.slice Ac nc cc, .slice Ad k cd, .int .i64 0] 57 (0, 0))) (hk : k + 1 ≤ 4) :
    Lb (w8.setCell ⟨g, 1, none⟩ (.slice A8 (k + 1) c8)) lo g (.slice Ac nc cc) (.slice A8 (k + 1) c8) C (newD (k + 1)) 0 ∧ TChg lo lts wr (w8.setCell ⟨g, 1, none⟩ (.slice A8 (k + 1) c8)) := by
  have hro := row_below h.out.drives (alloc_gr wr (.cells #[.bool false, .int .i64 (-1), .int .i64 0, .int .i64 0] 59))
  have t1 : TChg lo [59] wr w8 := (TChg.of_below (alloc_gr wr _)).trans (TChg.of_row hro hg8 (by simp))
  have t2 : TChg lo [57] w8 (w8.setCell ⟨g, 1, none⟩ (.slice A8 (k + 1) c8)) := TChg.of_set hb8 (by simp) h.out.lg 1 _
  refine ⟨⟨blk_set hb8 1 _, h.out.lg, row_tchg (row_tchg h.out.carts t1 (by decide)) t2 (by decide), ?_, h.out.lc, by rw [newD_len]; omega⟩, (t1.mono (Nat.le_refl _) (by simp)).trans (t2.mono (Nat.le_refl _) (by simp))⟩
  rw [newD_len]
  exact row_tchg hr8 t2 (by decide)
set_option maxHeartbeats 4000000 in
set_option maxRecDepth 10000 in
theorem lnew_li (nc nd : Nat) (z : Int) (hz : I64 z) (hc : nc ≤ 32) (hd : nd ≤ 4) (w : World) : Calls Try.prog 23 #[.int .i64 nc, .int .i64 z, .int .i64 nd] w fun e w' => ∃ g C SS, e = .returned (.pointer (some ⟨g, 0, none⟩)) ∧ C.length = nc ∧ Hid (Li w' w.heap.size g C SS (newD nd) 0) ∧ Below w.heap.size w w' := by
  obtain ⟨lo, hlo⟩ : ∃ lo, w.heap.size = lo := ⟨_, rfl⟩
  rw [hlo]
  have hlb1 : Hid (Lb (w.alloc (.cells #[.slice none 0 0, .slice none 0 0, .int .i64 0] 57)) lo w.heap.size (.slice none 0 0) (.slice none 0 0) [] [] 0) := Lib.hid ⟨heap_alloc_new w _, by omega, World.ownsRow_nil _ _ _ 1, World.ownsRow_nil _ _ _ 4, Nat.zero_le _, Nat.zero_le _⟩
  have hb1 : Hid (Below lo w (w.alloc (.cells #[.slice none 0 0, .slice none 0 0, .int .i64 0] 57))) := Lib.hid (by rw [← hlo]; exact alloc_gr _ _)
  have hle : Hid (∀ x, Below lo w x → lo ≤ x.heap.size) := Lib.hid (fun x h => by rw [← hlo]; exact h.size)
  have i32 : (if (nc : Int) < 32 then (nc : Int) else 32) = (nc : Int) := by split <;> omega
  have i32' : min (nc : Int) 32 = (nc : Int) := by omega
  have i4' : min (nd : Int) 4 = (nd : Int) := by omega
  obtain ⟨gl, hgl⟩ : ∃ gl, w.heap.size = gl := ⟨_, rfl⟩
  rw [hgl] at hlb1
  have hli1 : Hid (∃ SS, Li (w.alloc (.cells #[.slice none 0 0, .slice none 0 0, .int .i64 0] 57)) lo gl [] SS [] 0) := Lib.hid ⟨[], ⟨⟨_, _, hlb1.out⟩, rfl, fun i b s hb => by simp at hb, fun i j b b' hij hb => by simp at hb⟩⟩
  replace hlo := Lib.hid hlo
  go_enter Try.func23, Try.ntmps23
  go_wp2_with fail
  go_loopw [12] (fun q wr => ∃ (i : Nat) (vc : Value) (C : List Nat), q = .int .i64 i ∧ i ≤ nc ∧ Hid (C.length = i) ∧ Hid (Lb wr lo gl vc (.slice none 0 0) C [] 0) ∧ Hid (∃ SS, Li wr lo gl C SS [] 0) ∧ Hid (Below lo w wr)) (fun q _ => nc - (intOf q).toNat)
  case atStart => exact ⟨0, _, [], rfl, Nat.zero_le _, Lib.hid rfl, hlb1, hli1, hb1⟩
  case round =>
    obtain ⟨i, vc, C, rfl, hi, hCl, hlb, hmd, hgr⟩ := hrel
    clear hlb1 hb1 hli1
    by_cases hlt : i < nc
    · have ii : (i : Int) < (nc : Int) := by omega
      have hadd := Lib.hid (ladd_any lo gl vc (.slice none 0 0) C [] 0 wr (Lib.hid (hle.out _ hgr.out)) hlb z hz (by rw [hCl.out]; omega))
      rw [hCl.out] at hadd
      go_wp2_with (go_at_call 22; go_must (refine hadd.out.mono ?_); clear hadd; rintro e w5 ⟨rfl, ⟨vc5, q, hq, h5, hqs, hct⟩, t5⟩)
      go_roundw
      case rel => exact ⟨i + 1, vc5, C ++ [q], by go_num, by omega, Lib.hid (by rw [List.length_append, hCl.out]; rfl), h5, Lib.hid (hmd.out.elim (fun SS hs => ⟨_, hs.snoc (hle.out _ hgr.out) t5 hqs hct.out ⟨_, _, h5.out⟩⟩)), Lib.hid (hgr.out.trans (t5.below (hle.out _ hgr.out)))⟩
      case measure => simp [intOf]; omega
    · obtain rfl : i = nc := by omega
      have ii : decide ((i : Int) < (i : Int)) = false := decide_eq_false (by omega)
      go_wp2_with fail
      go_loopw [20] (fun q wr => ∃ (k : Nat) (vd : Value), q = .int .i64 k ∧ k ≤ nd ∧ Hid (Lb wr lo gl vc vd C (newD k) 0) ∧ Hid (∃ SS, Li wr lo gl C SS (newD k) 0) ∧ Hid (Below lo w wr)) (fun q _ => nd - (intOf q).toNat)
      case atStart => exact ⟨0, _, rfl, Nat.zero_le _, hlb, hmd, hgr⟩
      case round =>
        clear hlb hmd hgr
        obtain ⟨k, vd, rfl, hk, hlb, hmd, hgr⟩ := hrel
        by_cases hlt : k < nd
        · have kk : (k : Int) < (nd : Int) := by omega
          have hkl := Lib.hid (newD_len k)
          have hk4 : Hid (k + 1 ≤ 4) := Lib.hid (by omega)
          have hlow := Lib.hid (hle.out _ hgr.out)
          obtain ⟨Ac, cc, Ad, cd, rfl, rfl⟩ := hlb.out.form
          rw [hkl.out, hCl.out] at hlb
          have c0 := blk_cell (j := 1) hlb.out.blk rfl
          have f0 := blk_free hlb.out.blk 1
          go_wp2_with (at_builtin; go_must (refine wpl_appD rfl (.tmp 26) (.tmp 28) rfl lo (.slice Ad k cd) (newD k) rfl (by rw [hkl.out]; have hh := row_below hlb.out.drives (alloc_gr wr (.cells #[.bool false, .int .i64 (-1), .int .i64 0, .int .i64 0] 59)); rw [hkl.out] at hh; exact hh) (some ⟨wr.heap.size, 0, none⟩) 1 (wr.heap.size + 1) ⟨false, -1, 0, 0⟩ rfl (lit_d wr ⟨false, -1, 0, 0⟩) (by rw [hkl.out]; have := hk4.out; omega) (Nat.le_trans hlow.out (by simp)) ?_); intro v8 w8 hr8 hg8; rw [← newD_succ, newD_len] at hr8; obtain ⟨A8, c8, rfl, -, -⟩ := row_form hr8; have hb8 := blk_grow (blk_alloc hlb.out.blk (.cells #[.bool false, .int .i64 (-1), .int .i64 0, .int .i64 0] 59)) hg8 (row_ne (row_below hlb.out.drives (alloc_gr wr (.cells #[.bool false, .int .i64 (-1), .int .i64 0, .int .i64 0] 59))) (blk_alloc hlb.out.blk _) (by decide)); have k0 := blk_cell (j := 1) hb8 rfl; have g0 := blk_free hb8 1; have hend := Lib.hid (drive_endO hlb hr8 hg8 hb8 hk4.out); clear hr8 hg8 hb8 hlb)
          go_roundw
          case rel => exact ⟨k + 1, _, by go_num, by omega, Lib.hid (by rw [hCl.out]; exact hend.out.1), Lib.hid (hmd.out.elim (fun SS hs => ⟨SS, hs.tchg hend.out.2 (by decide) (by decide) (by decide) ⟨_, _, hend.out.1⟩⟩)), Lib.hid (hgr.out.trans (hend.out.2.below hlow.out))⟩
          case measure => simp [intOf]; omega
        · obtain rfl : k = nd := by omega
          have kk : decide ((k : Int) < (k : Int)) = false := decide_eq_false (by omega)
          go_wp2_with fail
          go_ret
          obtain ⟨SS, hs⟩ := hmd.out
          exact ⟨gl, C, SS, rfl, hCl.out, Lib.hid hs, hgr.out⟩
end Go.Proofs.Ytfjhdcppehfiiaa
