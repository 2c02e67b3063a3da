/- place: Pick. -/
import Derived.Test.YtfiaedhdgbnfiaaPk4
namespace Go.Proofs.Ytfiaedhdgbnfiaa
set_option linter.unusedVariables false
set_option linter.unusedSimpArgs false
open Go Go.RowKit Go.Maps
def pickOk (l : List Fr) (n : Int) (but : List Int) : Bool := decide (0 ≤ n) && decide (n ≤ (mayL but l).length)
def pickR (l : List Fr) (n : Int) (but : List Int) : List Int := if pickOk l n but = true then pickL l n.toNat but else []
def PickPost (l : List Fr) (n : Int) (but : List Int) (w : World) (e : Ending) (w' : World) : Prop :=
  ∃ v, e = .returned (.tuple #[v, .bool (pickOk l n but)]) ∧ Hid (OI (pickR l n but) v w.heap.size w') ∧ Gr w w'
theorem mayL_le (but : List Int) (l : List Fr) : (mayL but l).length ≤ l.length :=
  list_snoc_ind (p := fun l => (mayL but l).length ≤ l.length) (Nat.le_refl _) (fun l x ih => by
    rw [mayL_snoc, List.length_append]
    unfold addM
    split
    · rw [List.length_append]; simp; exact ih
    · simp; omega) l
set_option maxHeartbeats 8000000 in
set_option maxRecDepth 10000 in
theorem pick_any (l : List Fr) (n : Int) (hn : I64 n) (but : List Int) (v u : Value) (w : World) (hv : Hid (Frs l v w)) (hu : Hid (Ints but u w)) (hl : l.length ≤ 60) (hb : but.length ≤ 1000000) :
    Calls Try.prog 8 #[v, .int .i64 n, u] w fun e w' => PickPost l n but w e w' := by
  have hcand := Lib.hid (cand_any l but v u w hv hu hl hb)
  obtain ⟨may, hmay⟩ : ∃ may, mayL but l = may := ⟨_, rfl⟩
  have hap : Hid (Apart may) := Lib.hid (by rw [← hmay]; exact mayL_apart but l)
  have hsz : Hid (Maps.size (DMs may) = may.length) := Lib.hid (DMs_size may hap.out)
  have hm60 : may.length ≤ 60 := by rw [← hmay]; exact Nat.le_trans (mayL_le but l) hl
  have hok : Hid (pickOk l n but = (decide (0 ≤ n) && decide (n ≤ may.length))) := Lib.hid (by unfold pickOk; rw [hmay])
  rw [hmay] at hcand
  replace hmay := Lib.hid hmay
  replace hn := Lib.hid hn
  obtain ⟨N, hN⟩ : ∃ N, may.length = N := ⟨_, rfl⟩
  rw [hN] at hm60 hok hsz
  by_cases hneg : n < 0
  · have hno : Hid (pickOk l n but = false) := Lib.hid (by rw [hok.out, decide_eq_false (by omega), Bool.false_and])
    go_enter Try.func8, Try.ntmps8
    go_wp2_with (go_at_call 13; go_must (refine hcand.out.mono ?_); rintro e w1 ⟨b, rfl, hm, hbb, hg1⟩)
    go_ret2
    unfold PickPost pickR
    rw [hno.out]
    exact ⟨_, rfl, Lib.hid (OI.nil_ _ _), hg1⟩
  · have hneg' : ¬ (n < 0) := hneg
    have hn0 : 0 ≤ n := by omega
    by_cases hbig : (N : Int) < n
    · have hno : Hid (pickOk l n but = false) := Lib.hid (by rw [hok.out, decide_eq_false (by omega : ¬ n ≤ (N : Int)), Bool.and_false])
      go_enter Try.func8, Try.ntmps8
      go_wp2_with (go_at_call 13; go_must (refine hcand.out.mono ?_); rintro e w1 ⟨b, rfl, hm, hbb, hg1⟩; have hlen := fun ty => World.ownsMap.len hm.out Try.underlying36 ty; rw [hsz.out] at hlen)
      go_ret2
      unfold PickPost pickR
      rw [hno.out]
      exact ⟨_, rfl, Lib.hid (OI.nil_ _ _), hg1⟩
    · have hbig' : n ≤ (N : Int) := by omega
      have hyes : Hid (pickOk l n but = true) := Lib.hid (by rw [hok.out, decide_eq_true hn0, decide_eq_true hbig']; rfl)
      obtain ⟨m, rfl⟩ : ∃ m : Nat, n = (m : Int) := ⟨n.toNat, by omega⟩
      have hmN : m ≤ N := by omega
      have hres : Hid (pickR l m but = ((srt may).take m).map Prod.fst) := Lib.hid (by unfold pickR; rw [if_pos hyes.out]; unfold pickL; rw [hmay.out]; rfl)
      obtain ⟨B, hB⟩ : ∃ B, w.heap.size = B := ⟨_, rfl⟩
      go_enter Try.func8, Try.ntmps8
      go_upto_region 5 with (go_at_call 13; go_must (refine hcand.out.mono ?_); rintro e w1 ⟨b, rfl, hm, hbb, hg1⟩; have hlen := fun ty => World.ownsMap.len hm.out Try.underlying36 ty; rw [hsz.out] at hlen)
      clear hlen
      have hblt := Lib.hid (World.ownsMap.lt hm.out)
      have hown := hm.out
      unfold OM at hown
      obtain ⟨R, hR⟩ : ∃ R, w1.heap.size = R := ⟨_, rfl⟩
      go_wp2_with (at_range; go_must (refine wpList_range_own _ rfl _ 36 rfl 3 3 lawI Try.underlying36 _ b 60 _ rfl hown ?_); intro w2 hrg2 hg2 hs2)
      go_frame
      rw [hR] at hrg2 hs2 ⊢
      have hB1 : B ≤ R := by rw [← hB, ← hR]; exact hg1.size
      have hcoll0 := Coll.start hap.out
      have hq2 : Hid (Below B w w2) := Lib.hid (by
        rw [← hB]
        exact hg1.grown hg2 hg1.size (fun j hj => by cases hj))
      have hbB : B ≤ b := by rw [← hB]; exact hbb
      have hbR : b < R := by rw [← hR]; exact hblt.out
      clear hown hm hg2 hg1 hbb hblt hcand
      replace hR := Lib.hid hR
      replace hB := Lib.hid hB
      have dN : decide (N < m) = false := decide_eq_false (by omega)
      simp only [dN, Bool.or_false]
      replace dN := Lib.hid dN
      go_loopw [9] (fun u9 wr => ∃ (left : Lit → Bool) (cnt : Nat) (ss : List Fr), Hid (wr.ranges (H := Unit) Try.prog 3 (plainElem Try.prog 3) b R 60 (DMs may) left cnt) ∧ Hid (Coll may left cnt ss) ∧ Hid (OF ss u9 (R + 1) wr) ∧ Hid (Below B w wr) ∧ Hid (R + 1 ≤ wr.heap.size)) (fun _ wr => wr.rangeLeft b R)
      case atStart => exact ⟨_, _, [], Lib.hid hrg2, Lib.hid hcoll0, Lib.hid (OF.nil_ _ _), hq2, Lib.hid (by rw [hs2]; exact Nat.le_refl _)⟩
      case round =>
        obtain ⟨left, cnt, ss, hrg, hco, ho, hq, hsz2⟩ := hrel
        clear hrg2 hcoll0 hq2 hs2
        have hss : ss.length ≤ 60 := by have := hco.out.count; omega
        go_wp2_with (at_next; go_must (refine wpList_next_ranges_ii _ rfl _ rfl 3 3 .i64 .i64 lawI Try.underlying3 Try.underlying3 b R 60 _ _ _ rfl hrg.out ?_ ?_))
        · intro hc0 hl0
          have hsrt := hco.out.done hap.out hl0
          have hssN : ss.length = N := by rw [← hN, ← srt_len may, ← hsrt, srt_len]
          obtain ⟨A9, c9, rfl, hn9, hm9⟩ := ho.out.form
          rw [hssN] at ho hn9 ⊢
          have hsort := Lib.hid (sort_any ss (.slice A9 N c9) (R + 1) wr ho.out (by omega))
          rw [hsrt] at hsort
          obtain ⟨L, hL⟩ : ∃ L, L = srt may := ⟨_, rfl⟩
          rw [← hL] at hsort
          have hLN : Hid (L.length = N) := Lib.hid (by rw [hL, srt_len, hN])
          rw [← hL] at hres
          clear hsrt hssN
          have hmc : m ≤ c9 := by omega
          have hB1' : Hid (B ≤ R + 1) := Lib.hid (by omega)
          replace hL := Lib.hid hL
          replace hN := Lib.hid hN
          go_upto_region 10 with (go_at_call 14; go_must (refine hsort.out.mono ?_); rintro e w3 ⟨rfl, hfs, hb3⟩)
          have hq3 : Hid (Below B w w3) := Lib.hid (hq.out.trans (Below.mono hb3 hB1'.out))
          have hBz : Hid (B ≤ w3.heap.size) := Lib.hid (by have := hb3.size; have := hsz2.out; omega)
          clear ho hco hsort hrg hq hsz2
          clear hb3
          obtain ⟨R3, hR3⟩ : ∃ R3, w3.heap.size = R3 := ⟨_, rfl⟩
          go_wp2_with fail
          replace hR3 := Lib.hid hR3
          go_loopw [12, 45] (fun u12 u45 wq => ∃ k : Nat, k ≤ m ∧ u45 = .int .i64 k ∧ Hid (OI ((L.take k).map Prod.fst) u12 R3 wq) ∧ Hid (Below R3 w3 wq)) (fun _ u45 _ => (m - intOf u45).toNat)
          case atStart => exact ⟨0, Nat.zero_le _, rfl, Lib.hid (OI.nil_ _ _), Lib.hid (Below.refl _ _)⟩
          case round =>
            rename World => wq
            obtain ⟨k, hk, rfl, ho, hq⟩ := hrel
            have hgq : Gr w3 wq := by show Below w3.heap.size w3 wq; rw [hR3.out]; exact hq.out
            by_cases hkm : k < m
            · have ik : (k : Int) < (m : Int) := by omega
              have hfr := Frs.gr hgq hfs
              obtain ⟨A', c', e', -, -, h3, h4⟩ := hfr.out
              rw [hLN.out] at e' h3
              injection e' with e1 _ e2
              subst e1 e2
              obtain ⟨b3, o3, rfl, hb3, hc3⟩ := h3 (by omega)
              obtain ⟨x, hx⟩ : ∃ x, L[k]? = some x := ⟨_, List.getElem?_eq_getElem (by rw [hLN.out]; omega)⟩
              obtain ⟨c0, c1⟩ := hc3 k x hx
              have ix := (h4 x (List.mem_of_getElem? hx)).1
              have hnext : Hid ((L.take (k + 1)).map Prod.fst = (L.take k).map Prod.fst ++ [x.1]) := Lib.hid (by rw [List.take_add_one, hx, List.map_append]; rfl)
              have hlk : ((L.take k).map Prod.fst).length ≤ 60 := by rw [List.length_map, List.length_take]; omega
              obtain ⟨ls, hls⟩ : ∃ ls, (L.take k).map Prod.fst = ls := ⟨_, rfl⟩
              rw [hls] at ho hnext hlk
              clear hc3 h3 h4 hfr
              obtain ⟨W, hW⟩ : ∃ W, W = (wq.alloc (.cells #[.int .i64 x.1, .int .i64 x.2] 32)).alloc (.cells #[.int .i64 x.1] 3) := ⟨_, rfl⟩
              have hs1 : (wq.alloc (.cells #[.int .i64 x.1, .int .i64 x.2] 32)).heap.size = wq.heap.size + 1 := by simp
              have hgW : Gr wq W := by rw [hW]; exact (Gr.alloc _ _).trans (Gr.alloc _ _)
              have hi := Lib.hid (Ints.one (wq.alloc (.cells #[.int .i64 x.1, .int .i64 x.2] 32)) x.1 ix 3)
              rw [← hW, hs1] at hi
              have hoW := OI.gr hgW ho
              have hRq : R3 ≤ wq.heap.size := by rw [← hR3.out]; exact hgq.size
              have hRW : R3 ≤ W.heap.size := Nat.le_trans hRq hgW.size
              have hqW : Hid (Below R3 w3 W) := Lib.hid (hq.out.trans (Below.mono hgW hRq))
              replace hW := Lib.hid hW.symm
              replace hx := Lib.hid hx
              replace ix := Lib.hid ix
              replace hls := Lib.hid hls
              clear hgW hs1 ho hq hgq hfs
              go_wp2_with (at_builtin; rw [hW.out]; go_must (refine wpl_appI rfl (.tmp 49) (.tmp 52) rfl R3 u12 _ ls [x.1] rfl hoW.out rfl hi.out (by simp; omega) hRW ?_); intro v8 w8 ho8 hb8)
              have hq8 : Hid (Below R3 w3 w8) := Lib.hid (hqW.out.trans hb8)
              go_roundw
              case rel => exact ⟨k + 1, by omega, by go_num, Lib.hid (by rw [hnext.out]; exact ho8), hq8⟩
              case measure => simp [intOf]; omega
            · obtain rfl : k = m := by omega
              have ik : decide ((k : Int) < (k : Int)) = false := decide_eq_false (by omega)
              clear hkm
              go_wp2_with fail
              go_ret2
              unfold PickPost
              rw [hyes.out, hres.out]
              refine ⟨_, rfl, Lib.hid (OI.lo ho.out (by rw [hB.out, ← hR3.out]; exact hBz.out)), ?_⟩
              show Below w.heap.size w wq
              rw [hB.out]
              exact hq3.out.trans (Below.mono hgq hBz.out)
        · intro x c w5 cnt5 hwx hwc hlx hat hrg5 hlt hg5 hs5 hen
          have hco5 := Lib.hid (hco.out.step hap.out hlx hat hlt)
          have hx : I64 x := by have := i64_of hwx; exact this
          have hc : I64 c := by have := i64_of hwc; exact this
          have hRr : ∀ j, (some R : Option Nat) = some j → R + 1 ≤ j → False := fun j e h => by cases e; omega
          have hne : (some R : Option Nat) ≠ u9.ownBlock := fun e => by have := OF.up ho.out R e.symm; omega
          have ho5 : Hid (OF ss u9 (R + 1) w5) := Lib.hid ⟨World.ownsRow.kept ho.out.1 hg5 (.inr (fun e => hne e.symm)), ho.out.2⟩
          have hq5 : Hid (Below B w w5) := Lib.hid (hq.out.grown hg5 (by have := hsz2.out; omega) (fun j hj => by cases hj; exact hB1))
          obtain ⟨W, hW⟩ : ∃ W, W = w5.alloc (.cells #[.int .i64 x, .int .i64 c] 32) := ⟨_, rfl⟩
          have hgW : Gr w5 W := by rw [hW]; exact Gr.alloc _ _
          have hf := Lib.hid (Frs.one w5 (x, c) ⟨hx, hc⟩ 32)
          have hrW := hrg5.alloc (.cells #[.int .i64 x, .int .i64 c] 32)
          rw [← hW] at hf hrW
          rw [hs5] at hf
          have hoW := OF.gr hgW ho5
          have hszW : R + 1 ≤ W.heap.size := by have := hgW.size; have := hsz2.out; omega
          have hqW : Hid (Below B w W) := Lib.hid (hq5.out.trans (Below.mono hgW (by have := hsz2.out; omega)))
          replace hW := Lib.hid hW.symm
          replace hrW := Lib.hid hrW
          replace hrg5 := Lib.hid hrg5
          replace hg5 := Lib.hid hg5
          replace hat := Lib.hid hat
          replace hx := Lib.hid hx
          replace hc := Lib.hid hc
          clear hgW ho5 hq5
          have hmeas := Lib.hid hrg.out.left_eq
          go_wp2_with (at_builtin; rw [hW.out]; go_must (refine wpl_appF rfl (.tmp 33) (.tmp 37) rfl (R + 1) u9 _ ss [(x, c)] rfl hoW.out rfl hf.out (by simp; omega) hszW ?_); intro v6 w6 ho6 hg6 hloc6)
          have hrg6 := hrW.out.kept hg6 (fun e => by have := OF.up hoW.out b e.symm; omega) (fun e => by have := OF.up hoW.out R e.symm; omega)
          have hq6 : Hid (Below B w w6) := Lib.hid (hqW.out.grown hg6 (by omega) (fun j hj => by have := OF.up hoW.out j hj; omega))
          have hsz6 : Hid (R + 1 ≤ w6.heap.size) := Lib.hid (Nat.le_trans hszW hg6.size)
          go_roundw
          case rel => exact ⟨_, cnt5, _, Lib.hid hrg6, hco5, Lib.hid ho6, hq6, hsz6⟩
          case measure => rw [hrg6.left_eq, hmeas.out]; exact hlt
end Go.Proofs.Ytfiaedhdgbnfiaa
