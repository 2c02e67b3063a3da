/- lib: New, Read, Append; no library. -/
import Derived.Test.YtfjhdcppehfiiaaLb7
namespace Go.Proofs.Ytfjhdcppehfiiaa
set_option linter.unusedVariables false
set_option linter.unusedSimpArgs false
open Go Go.RowKit
/-- every cartridge as it was made -/
def Made (w : World) (lo : Nat) (C : List Nat) (m : Nat) : Prop := ∀ b ∈ C, ∃ l hi, lo ≤ l ∧ Ct w l hi b ⟨[], m, false⟩
theorem Made.tchg {w w' : World} {lo lo' m : Nat} {C : List Nat} {ts : List TypeId} (h : Made w lo C m) (hc : TChg lo' ts w w') (h0 : 64 ∉ ts) (h1 : 66 ∉ ts) (h2 : 5 ∉ ts) : Made w' lo C m := fun b hb => by
  obtain ⟨l, hi, hl, hct⟩ := h b hb
  exact ⟨l, hi, hl, hct.tchg hc h0 h1 h2⟩
def newD (k : Nat) : List Dr := List.replicate k ⟨false, -1, 0, 0⟩
theorem newD_succ (k : Nat) : newD (k + 1) = newD k ++ [⟨false, -1, 0, 0⟩] := by unfold newD; rw [List.replicate_succ']
theorem newD_len (k : Nat) : (newD k).length = k := by unfold newD; simp
theorem info_dv : (Try.prog.info? 59).map (fun i => (i.zero, i.size, i.bytes)) = some (some (.agg #[.bool false, .int .i64 0, .int .i64 0, .int .i64 0]), 4, 32) := by kernel_rfl
theorem wpl_appD {w : World} {ops : Array Oper} {rest : List Oper} {o : Oper} {a : Act} {Q : Exit → Act → World → Prop} (hgd : o.guard = none) (s x : Operand)
    (ho : o.op = .call { callee := .builtin .append, args := #[s, x], argTypes := #[55, 55] })
    (base : Nat) (v : Value) (D : List Dr) (hs : a.eval s = v) (hown : w.ownsRow base 59 4 v D.length (flatD D)) (A : Option Addr) (c B : Nat) (d : Dr) (hx : a.eval x = .slice A 1 c) (hr : Reads w B 4 A 1 (encD d))
    (hlen : D.length ≤ 100000) (hbase : base ≤ w.heap.size)
    (h : ∀ v' w', w'.ownsRow base 59 4 v' (D ++ [d]).length (flatD (D ++ [d])) → w.grownBy w' v.ownBlock → wpList Try.prog ops Q rest (a.put o.dst v') w') : wpList Try.prog ops Q (o :: rest) a w := by
  obtain ⟨i0, hi, hz0, hz1, hz2⟩ := info_parts info_dv
  refine wpList_plain hgd fun _ hK => wp_append_any w s x 55 ho base 59 i0 _ 4 32 Try.underlying55 hi hz0 hz1 hz2 rfl (by omega) v D.length _ hs hown B A 1 c (encD d) hx hr (one_d _ _ _ _)
    (by simp only [maxLen]; omega) (by omega) hbase fun v' w' h2 h3 h4 => hK _ _ (h v' w' ?_ h3)
  rw [List.length_append, flatD_app]; exact h2
theorem lit_d (w : World) (d : Dr) : Reads (w.alloc (.cells #[.bool d.broken, .int .i64 d.cart, .int .i64 d.pos, .int .i64 d.named] 59)) (w.heap.size + 1) 4 (some ⟨w.heap.size, 0, none⟩) 1 (encD d) := by
  have hh := World.news_of_block (heap_alloc_new w (.cells #[.bool d.broken, .int .i64 d.cart, .int .i64 d.pos, .int .i64 d.named] 59))
  exact ⟨rfl, fun _ => ⟨_, rfl, Nat.lt_succ_self _, fun j u hu => hh j u hu⟩⟩
theorem drive_end {wr w8 : World} {lo g k cc c8 : Nat} {Ac Ad A8 : Option Addr} {cd : Nat} {nc : Nat} {C : List Nat} {m : Nat} {w : World}
    (h : Hid (Lb wr lo g (.slice Ac nc cc) (.slice Ad k cd) C (newD k) 0)) (hm : Hid (Made wr lo C m)) (hg : Hid (Below lo w wr)) (hlo : Hid (lo ≤ wr.heap.size))
    (hr8 : w8.ownsRow lo 59 4 (.slice A8 (k + 1) c8) (k + 1) (flatD (newD (k + 1))))
    (hg8 : (wr.alloc (.cells #[.bool false, .int .i64 (-1), .int .i64 0, .int .i64 0] 59)).grownBy w8 (Value.slice Ad k cd).ownBlock)
    (hb8 : w8.heap[g]? = some (.cells #[.slice Ac nc cc, .slice Ad k cd, .int .i64 0] 57 (0, 0))) (hk : k + 1 ≤ 4) :
    Lb (w8.setCell ⟨g, 1, none⟩ (.slice A8 (k + 1) c8)) lo g (.slice Ac nc cc) (.slice A8 (k + 1) c8) C (newD (k + 1)) 0 ∧ Made (w8.setCell ⟨g, 1, none⟩ (.slice A8 (k + 1) c8)) lo C m ∧ Below lo w (w8.setCell ⟨g, 1, none⟩ (.slice A8 (k + 1) c8)) := by
  have hro := row_below h.out.drives (alloc_gr wr (.cells #[.bool false, .int .i64 (-1), .int .i64 0, .int .i64 0] 59))
  have t1 : TChg lo [59] wr w8 := (TChg.of_below (alloc_gr wr _)).trans (TChg.of_row hro hg8 (by simp))
  have t2 : TChg lo [57] w8 (w8.setCell ⟨g, 1, none⟩ (.slice A8 (k + 1) c8)) := TChg.of_set hb8 (by simp) h.out.lg 1 _
  refine ⟨⟨blk_set hb8 1 _, h.out.lg, row_tchg (row_tchg h.out.carts t1 (by decide)) t2 (by decide), ?_, h.out.lc, by rw [newD_len]; omega⟩, (hm.out.tchg t1 (by decide) (by decide) (by decide)).tchg t2 (by decide) (by decide) (by decide), hg.out.trans ((t1.below hlo.out).trans (t2.below (Nat.le_trans hlo.out t1.size)))⟩
  rw [newD_len]
  exact row_tchg hr8 t2 (by decide)
set_option maxHeartbeats 4000000 in
set_option maxRecDepth 10000 in
theorem lnew_any (nc nd : Nat) (z : Int) (hz : I64 z) (hc : nc ≤ 32) (hd : nd ≤ 4) (w : World) : Calls Try.prog 23 #[.int .i64 nc, .int .i64 z, .int .i64 nd] w fun e w' => ∃ g vc vd C, e = .returned (.pointer (some ⟨g, 0, none⟩)) ∧ C.length = nc ∧ Hid (Lb w' w.heap.size g vc vd C (newD nd) 0) ∧ Hid (Made w' w.heap.size C (min (max z 0) 1024).toNat) ∧ Below w.heap.size w w' := by
  obtain ⟨lo, hlo⟩ : ∃ lo, w.heap.size = lo := ⟨_, rfl⟩
  rw [hlo]
  have hlb1 : Hid (Lb (w.alloc (.cells #[.slice none 0 0, .slice none 0 0, .int .i64 0] 57)) lo w.heap.size (.slice none 0 0) (.slice none 0 0) [] [] 0) := Lib.hid ⟨heap_alloc_new w _, by omega, World.ownsRow_nil _ _ _ 1, World.ownsRow_nil _ _ _ 4, Nat.zero_le _, Nat.zero_le _⟩
  have hb1 : Hid (Below lo w (w.alloc (.cells #[.slice none 0 0, .slice none 0 0, .int .i64 0] 57))) := Lib.hid (by rw [← hlo]; exact alloc_gr _ _)
  have hle : Hid (∀ x, Below lo w x → lo ≤ x.heap.size) := Lib.hid (fun x h => by rw [← hlo]; exact h.size)
  have i32 : (if (nc : Int) < 32 then (nc : Int) else 32) = (nc : Int) := by split <;> omega
  have i32' : min (nc : Int) 32 = (nc : Int) := by omega
  have i4' : min (nd : Int) 4 = (nd : Int) := by omega
  obtain ⟨gl, hgl⟩ : ∃ gl, w.heap.size = gl := ⟨_, rfl⟩
  rw [hgl] at hlb1
  replace hlo := Lib.hid hlo
  go_enter Try.func23, Try.ntmps23
  go_wp2_with fail
  go_loopw [12] (fun q wr => ∃ (i : Nat) (vc : Value) (C : List Nat), q = .int .i64 i ∧ i ≤ nc ∧ Hid (C.length = i) ∧ Hid (Lb wr lo gl vc (.slice none 0 0) C [] 0) ∧ Hid (Made wr lo C (min (max z 0) 1024).toNat) ∧ Hid (Below lo w wr)) (fun q _ => nc - (intOf q).toNat)
  case atStart => exact ⟨0, _, [], rfl, Nat.zero_le _, Lib.hid rfl, hlb1, Lib.hid (fun b hb => by cases hb), hb1⟩
  case round =>
    obtain ⟨i, vc, C, rfl, hi, hCl, hlb, hmd, hgr⟩ := hrel
    clear hlb1 hb1
    by_cases hlt : i < nc
    · have ii : (i : Int) < (nc : Int) := by omega
      have hadd := Lib.hid (ladd_any lo gl vc (.slice none 0 0) C [] 0 wr (Lib.hid (hle.out _ hgr.out)) hlb z hz (by rw [hCl.out]; omega))
      rw [hCl.out] at hadd
      go_wp2_with (go_at_call 22; go_must (refine hadd.out.mono ?_); clear hadd; rintro e w5 ⟨rfl, ⟨vc5, q, hq, h5, hqs, hct⟩, t5⟩)
      go_roundw
      case rel => exact ⟨i + 1, vc5, C ++ [q], by go_num, by omega, Lib.hid (by rw [List.length_append, hCl.out]; rfl), h5, Lib.hid (fun b hb => by
        rcases List.mem_append.1 hb with hb | hb
        · exact hmd.out.tchg t5 (by decide) (by decide) (by decide) b hb
        · rw [List.mem_singleton.1 hb]
          exact ⟨wr.heap.size, hq, hle.out _ hgr.out, hct.out⟩), Lib.hid (hgr.out.trans (t5.below (hle.out _ hgr.out)))⟩
      case measure => simp [intOf]; omega
    · obtain rfl : i = nc := by omega
      have ii : decide ((i : Int) < (i : Int)) = false := decide_eq_false (by omega)
      go_wp2_with fail
      go_loopw [20] (fun q wr => ∃ (k : Nat) (vd : Value), q = .int .i64 k ∧ k ≤ nd ∧ Hid (Lb wr lo gl vc vd C (newD k) 0) ∧ Hid (Made wr lo C (min (max z 0) 1024).toNat) ∧ Hid (Below lo w wr)) (fun q _ => nd - (intOf q).toNat)
      case atStart => exact ⟨0, _, rfl, Nat.zero_le _, hlb, hmd, hgr⟩
      case round =>
        clear hlb hmd hgr
        obtain ⟨k, vd, rfl, hk, hlb, hmd, hgr⟩ := hrel
        by_cases hlt : k < nd
        · have kk : (k : Int) < (nd : Int) := by omega
          have hkl := Lib.hid (newD_len k)
          have hk4 : Hid (k + 1 ≤ 4) := Lib.hid (by omega)
          have hlow := Lib.hid (hle.out _ hgr.out)
          obtain ⟨Ac, cc, Ad, cd, rfl, rfl⟩ := hlb.out.form
          rw [hkl.out, hCl.out] at hlb
          have c0 := blk_cell (j := 1) hlb.out.blk rfl
          have f0 := blk_free hlb.out.blk 1
          go_wp2_with (at_builtin; go_must (refine wpl_appD rfl (.tmp 26) (.tmp 28) rfl lo (.slice Ad k cd) (newD k) rfl (by rw [hkl.out]; have hh := row_below hlb.out.drives (alloc_gr wr (.cells #[.bool false, .int .i64 (-1), .int .i64 0, .int .i64 0] 59)); rw [hkl.out] at hh; exact hh) (some ⟨wr.heap.size, 0, none⟩) 1 (wr.heap.size + 1) ⟨false, -1, 0, 0⟩ rfl (lit_d wr ⟨false, -1, 0, 0⟩) (by rw [hkl.out]; have := hk4.out; omega) (Nat.le_trans hlow.out (by simp)) ?_); intro v8 w8 hr8 hg8; rw [← newD_succ, newD_len] at hr8; obtain ⟨A8, c8, rfl, -, -⟩ := row_form hr8; have hb8 := blk_grow (blk_alloc hlb.out.blk (.cells #[.bool false, .int .i64 (-1), .int .i64 0, .int .i64 0] 59)) hg8 (row_ne (row_below hlb.out.drives (alloc_gr wr (.cells #[.bool false, .int .i64 (-1), .int .i64 0, .int .i64 0] 59))) (blk_alloc hlb.out.blk _) (by decide)); have k0 := blk_cell (j := 1) hb8 rfl; have g0 := blk_free hb8 1; have hend := Lib.hid (drive_end hlb hmd hgr hlow hr8 hg8 hb8 hk4.out); clear hr8 hg8 hb8 hlb hmd hgr)
          go_roundw
          case rel => exact ⟨k + 1, _, by go_num, by omega, Lib.hid (by rw [hCl.out]; exact hend.out.1), Lib.hid hend.out.2.1, Lib.hid hend.out.2.2⟩
          case measure => simp [intOf]; omega
        · obtain rfl : k = nd := by omega
          have kk : decide ((k : Int) < (k : Int)) = false := decide_eq_false (by omega)
          go_wp2_with fail
          go_ret
          exact ⟨gl, vc, vd, C, rfl, hCl.out, hlb, hmd, hgr.out⟩
end Go.Proofs.Ytfjhdcppehfiiaa
