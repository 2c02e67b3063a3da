/- scan: counting, the iterator over what counts. -/
import Derived.RangeFuncNested
import Derived.RangeFuncBound
import Derived.RangeFuncCalls
import Derived.RangeFuncWrites
import Derived.RangeFuncLeaves
import Derived.Shelf.Abstract
import Derived.Shelf.RegionOpen
import Derived.WalkKit
import Derived.OwnWalkIn
import Derived.TacticsInMore
import Derived.LoopNIn
import Derived.LoopIn
import Derived.Test.YtiliggleplpjbaaSc2
namespace Go.Proofs.Ytiliggleplpjbaa
set_option linter.unusedVariables false
set_option linter.unusedSimpArgs false
open Go Go.RowKit Go.Maps Go.Shelf Go.Proofs
attribute [local go_sem] Oper.semAt_some
theorem Gr.grown {w w' : World} (h : Gr w w') : w.grownBy w' none := ⟨h.os, h.tape, h.output, h.size, fun k hk _ => h.block k hk⟩
theorem Abides_gr {β : Type} {B : Nat} {J : β → World → Prop} (hJ : AbidesFrom B J) {s : β} {w w' : World} (h : J s w) (hg : Gr w w') : J s w' := hJ s w w' none h hg.grown (fun r e => by cases e)
/-- the finds of E that count -/
abbrev Ct (E : List Fe) := { x : Fe // x ∈ E ∧ cnt x.f = true }
def ctE (E : List Fe) : List Fe := E.filter (fun x => cnt x.f)
theorem ctE_take_succ {E : List Fe} {k : Nat} {x : Fe} (h : E[k]? = some x) : ctE (E.take (k + 1)) = ctE (E.take k) ++ (if cnt x.f = true then [x] else []) := by
  unfold ctE
  rw [List.take_add_one, h, List.filter_append]
  congr 1
  by_cases hc : cnt x.f = true
  · rw [if_pos hc]; simp [hc]
  · rw [if_neg hc]; simp [hc]
theorem ctE_len (E : List Fe) (k : Nat) : (ctE (E.take k)).length ≤ E.length := Nat.le_trans (List.length_filter_le _ _) (by rw [List.length_take]; omega)
set_option maxRecDepth 100000 in
set_option maxHeartbeats 4000000 in
theorem counting1_in (n : Nat) (hn : 2 ≤ n) (l Bl m c : Nat) (A : Option Addr) (E : List Fe) (w : World) (hE : Hid (FsV E (.slice A m c) w)) (hok : Hid (∀ x ∈ E, x.f.r.Ok)) (B : Nat) (J Jx : List (Ct E) → World → Prop) (hJ : AbidesFrom B J)
    (hY : ∀ pre x W1, J pre W1 → pre.length < E.length + 1 → YieldAt Fence.wide (n - 1) Try.prog l #[x.1.agg] W1 fun e W' =>
      (e = .returned (.bool true) ∧ J (pre ++ [x]) W' ∧ Below w.heap.size W1 W') ∨ (e = .returned (.bool false) ∧ Jx (pre ++ [x]) W'))
    (W : World) (hW : Gr w W) (hBl : W.cell? ⟨Bl, 0, none⟩ = some (.slice A m c)) (h0 : J [] W) :
    CallsIn Fence.wide n Try.prog 54 #[.func (.yield l) #[] #[], .pointer (some ⟨Bl, 0, none⟩)] W fun e W' => (∃ v, e = .returned v) ∧
      ((∃ ys, ys.map (·.1) = ctE E ∧ J ys W') ∨ (∃ pre : List (Ct E), pre.map (·.1) <+: ctE E ∧ Jx pre W')) := by
  obtain ⟨hm, hmc, hcm⟩ := hE.out.len
  have hmm : m ≤ 9223372036854775807 := by simp only [maxLen] at hcm; omega
  replace hm := Lib.hid hm
  clear hmc hcm
  have hW' := Lib.hid hW
  have hgo : Hid (∀ q r, Gr w q → Below w.heap.size q r → Gr w r) := Lib.hid (fun q r h1 h2 => Below.trans h1 h2)
  refine callsIn_of_wp Try.func54 rfl trivial ?_ rfl
  simp only [Try.ntmps54, List.size_toArray, List.length_cons, List.length_nil, Nat.reduceAdd, Nat.reduceSub, Array.replicate_succ, Array.replicate_zero, List.push_toArray, List.append_toArray, List.nil_append, List.cons_append]
  clear hW
  gi_wp2
  gi_loopw [7] (fun u wr => ∃ (k : Nat) (pre : List (Ct E)), k ≤ m ∧ u = .int .i64 k ∧ pre.map (·.1) = ctE (E.take k) ∧ J pre wr ∧ Hid (Gr w wr)) (fun u _ => (m - (intOf u)).toNat)
  case atStart => exact ⟨0, [], Nat.zero_le _, rfl, rfl, h0, hW'⟩
  case round =>
    obtain ⟨k, pre, hk, rfl, hpre, hJs, hg⟩ := hrel
    clear h0 hBl hW'
    by_cases hlt : k < m
    · have ii : (k : Int) < (m : Int) := by omega
      obtain ⟨x, hx⟩ : ∃ x, E[k]? = some x := ⟨_, List.getElem?_eq_getElem (by rw [hm.out]; exact hlt)⟩
      have hxE := List.mem_of_getElem? hx
      obtain ⟨b, o, rfl, hbl, hfv, hcx⟩ := hE.out.get hx
      obtain ⟨q0, q1, q2, q3, q4, q5, q6, q7, q8, q9, q10, q11⟩ := hcx wr hg.out
      have hts := ctE_take_succ hx
      have hpl : pre.length < E.length + 1 := by have := congrArg List.length hpre; rw [List.length_map] at this; have := ctE_len E k; omega
      have hco : ∀ q, Gr w q → Calls Try.prog 55 #[x.agg] q fun e w' => e = .returned (.bool (cnt x.f)) ∧ Gr q w' := fun q hq => counts_any x (hok.out x hxE) q (hfv.gr hq)
      obtain ⟨fd, fA, fc⟩ := x
      obtain ⟨ct, ps, r⟩ := fd
      obtain ⟨rk, rc, ry, rg, ro, rs, ri, rz, ru, rd⟩ := r
      obtain ⟨ld, hld⟩ : ∃ n, rd.length = n := ⟨_, rfl⟩
      unfold Fe.agg at hco
      simp only at hco q0 q1 q2 q3 q4 q5 q6 q7 q8 q9 q10 q11
      rw [hld] at q11
      simp only [hld] at hco
      replace hco := Lib.hid hco
      replace hld := Lib.hid hld
      clear hcx
      obtain ⟨xe, hxe⟩ : ∃ x : Fe, (⟨⟨ct, ps, ⟨rk, rc, ry, rg, ro, rs, ri, rz, ru, rd⟩⟩, fA, fc⟩ : Fe) = x := ⟨_, rfl⟩
      rw [hxe] at hts hxE hx
      have hcE : cnt ⟨ct, ps, ⟨rk, rc, ry, rg, ro, rs, ri, rz, ru, rd⟩⟩ = cnt xe.f := by rw [← hxe]
      have hxa : xe.agg = .agg #[.int .i64 ct, .int .i64 ps, .int .i64 rk, .int .i64 rc, .string (bs ry), .int .i64 rg, .int .i64 ro, .int .i64 rs, .int .i64 ri, .int .i64 rz, .string (bs ru), .slice fA ld fc] := by rw [← hxe, ← hld.out]; rfl
      rw [hcE] at hco
      have hg1 : Gr wr (wr.alloc (.cells #[.int .i64 ct, .int .i64 ps, .int .i64 rk, .int .i64 rc, .string (bs ry), .int .i64 rg, .int .i64 ro, .int .i64 rs, .int .i64 ri, .int .i64 rz, .string (bs ru), .slice fA ld fc] 39)) := Gr.alloc _ _
      have hx1 : (wr.alloc (.cells #[.int .i64 ct, .int .i64 ps, .int .i64 rk, .int .i64 rc, .string (bs ry), .int .i64 rg, .int .i64 ro, .int .i64 rs, .int .i64 ri, .int .i64 rz, .string (bs ru), .slice fA ld fc] 39)).heap[wr.heap.size]? = some (.cells #[.int .i64 ct, .int .i64 ps, .int .i64 rk, .int .i64 rc, .string (bs ry), .int .i64 rg, .int .i64 ro, .int .i64 rs, .int .i64 ri, .int .i64 rz, .string (bs ru), .slice fA ld fc] 39 (0, 0)) := heap_alloc_new wr _
      cases hcn : cnt xe.f with
      | false =>
        rw [hcn] at hco hts
        simp only [Bool.false_eq_true, if_false, List.append_nil] at hts
        have hts := Lib.hid hts
        replace hcn := Lib.hid hcn
        replace hcE := Lib.hid hcE
        replace hxe := Lib.hid hxe
        replace hxa := Lib.hid hxa
        replace hx := Lib.hid hx
        replace hpre := Lib.hid hpre
        have z0 := blk_cell (j := 0) hx1 rfl
        have z1 := blk_cell (j := 1) hx1 rfl
        have z2 := blk_cell (j := 2) hx1 rfl
        have z3 := blk_cell (j := 3) hx1 rfl
        have z4 := blk_cell (j := 4) hx1 rfl
        have z5 := blk_cell (j := 5) hx1 rfl
        have z6 := blk_cell (j := 6) hx1 rfl
        have z7 := blk_cell (j := 7) hx1 rfl
        have z8 := blk_cell (j := 8) hx1 rfl
        have z9 := blk_cell (j := 9) hx1 rfl
        have z10 := blk_cell (j := 10) hx1 rfl
        have z11 := blk_cell (j := 11) hx1 rfl
        gi_wp2_with (refine ⟨trivial, (fun h => by cases h), (callsIn_wide.2 (hco.out _ (hg.out.trans hg1))).mono ?_⟩; clear hco; rintro e w2 ⟨rfl, hg2⟩)
        refine ⟨fun _ h => (by cases h), ?_⟩
        gi_wp2
        go_roundw
        case rel => exact ⟨k + 1, pre, by omega, by go_num, by rw [hts.out]; exact hpre.out, Abides_gr hJ hJs (hg1.trans hg2), Lib.hid (hg.out.trans (hg1.trans hg2))⟩
        case measure => simp [intOf]; omega
      | true =>
        rw [hcn] at hco hts
        rw [if_pos rfl] at hts
        have hts := Lib.hid hts
        have hcn' := hcn
        replace hcn := Lib.hid hcn
        replace hcE := Lib.hid hcE
        replace hxe := Lib.hid hxe
        replace hx := Lib.hid hx
        replace hpre := Lib.hid hpre
        have z0 := blk_cell (j := 0) hx1 rfl
        have z1 := blk_cell (j := 1) hx1 rfl
        have z2 := blk_cell (j := 2) hx1 rfl
        have z3 := blk_cell (j := 3) hx1 rfl
        have z4 := blk_cell (j := 4) hx1 rfl
        have z5 := blk_cell (j := 5) hx1 rfl
        have z6 := blk_cell (j := 6) hx1 rfl
        have z7 := blk_cell (j := 7) hx1 rfl
        have z8 := blk_cell (j := 8) hx1 rfl
        have z9 := blk_cell (j := 9) hx1 rfl
        have z10 := blk_cell (j := 10) hx1 rfl
        have z11 := blk_cell (j := 11) hx1 rfl
        gi_wp2_with (first
          | (refine ⟨trivial, (fun h => by cases h), (callsIn_wide.2 (hco.out _ (hg.out.trans hg1))).mono ?_⟩; clear hco; rintro e w2 ⟨rfl, hg2⟩
             have hJ2 := Abides_gr hJ hJs (hg1.trans hg2)
             have hx2 := blk_below hx1 hg2
             clear z0 z1 z2 z3 z4 z5 z6 z7 z8 z9 z10 z11
             have z0 := blk_cell (j := 0) hx2 rfl
             have z1 := blk_cell (j := 1) hx2 rfl
             have z2 := blk_cell (j := 2) hx2 rfl
             have z3 := blk_cell (j := 3) hx2 rfl
             have z4 := blk_cell (j := 4) hx2 rfl
             have z5 := blk_cell (j := 5) hx2 rfl
             have z6 := blk_cell (j := 6) hx2 rfl
             have z7 := blk_cell (j := 7) hx2 rfl
             have z8 := blk_cell (j := 8) hx2 rfl
             have z9 := blk_cell (j := 9) hx2 rfl
             have z10 := blk_cell (j := 10) hx2 rfl
             have z11 := blk_cell (j := 11) hx2 rfl
             obtain ⟨fn, tmps, assign, body, hy, hR⟩ := hY pre ⟨xe, hxE, hcn'⟩ w2 hJ2 hpl
             dsimp only at hy
             rw [hxa] at hy))
        refine ⟨(fun h => by cases h), hR.mono ?_⟩
        rintro e W3 (⟨rfl, hJ3, hk3⟩ | ⟨rfl, hJx3⟩)
        · gi_wp2
          go_roundw
          case rel => exact ⟨k + 1, pre ++ [⟨xe, hxE, hcn'⟩], by omega, by go_num, by rw [hts.out, List.map_append, hpre.out]; rfl, hJ3, Lib.hid (hgo.out _ _ (hg.out.trans (hg1.trans hg2)) hk3)⟩
          case measure => simp [intOf]; omega
        · gi_wp2
          refine bodyPost_ret (results_none rfl _ _ _) rfl ?_
          refine ⟨⟨_, rfl⟩, .inr ⟨pre ++ [⟨xe, hxE, hcn'⟩], ?_, hJx3⟩⟩
          rw [List.map_append, hpre.out]
          show ctE (E.take k) ++ [xe] <+: ctE E
          rw [← hts.out]
          exact List.IsPrefix.filter _ (List.take_prefix _ _)
    · obtain rfl : m = k := by omega
      gi_wp2
      go_end0
      refine ⟨⟨_, rfl⟩, .inl ⟨pre, ?_, hJs⟩⟩
      rw [hpre, List.take_of_length_le (by rw [hm.out]; exact Nat.le_refl _)]
end Go.Proofs.Ytiliggleplpjbaa
