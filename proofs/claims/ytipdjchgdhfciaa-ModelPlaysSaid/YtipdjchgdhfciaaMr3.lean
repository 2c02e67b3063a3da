/- model: the reference's Get and Keys. -/
import Derived.Test.YtipdjchgdhfciaaMr2
import Derived.LoopTactic
namespace Go.Proofs.Ytipdjchgdhfciaa
set_option linter.unusedVariables false
set_option linter.unusedSimpArgs false
open Go Go.RowKit Go.Maps Go.Sort
theorem info_str : (Try.prog.info? 9).map (fun i => (i.zero, i.size, i.bytes)) = some (some (.string ⟨#[]⟩), 1, 16) := by kernel_rfl
theorem info_blob : (Try.prog.info? 63).map (fun i => (i.zero, i.size, i.bytes)) = some (some (.agg #[.string ⟨#[]⟩, .string ⟨#[]⟩]), 2, 32) := by kernel_rfl
/-- a row of texts of the call's own -/
def OS (l : List (List UInt8)) (v : Value) (base : Nat) (w : World) : Prop := w.ownsRow base 9 1 v l.length (l.map encStr)
theorem strs_one (l : List (List UInt8)) : ∀ v ∈ l.map encStr, v.oneCell' = true := fun v hv => by
  obtain ⟨j, -, rfl⟩ := List.mem_map.mp hv
  rfl
theorem wpl_appS {w : World} {ops : Array Oper} {rest : List Oper} {o : Oper} {a : Act} {Q : Exit → Act → World → Prop} (hgd : o.guard = none) (s x : Operand)
    (ho : o.op = .call { callee := .builtin .append, args := #[s, x], argTypes := #[38, 38] })
    (base : Nat) (v : Value) (l : List (List UInt8)) (hs : a.eval s = v) (hown : OS l v base w) (A : Option Addr) (c : Nat) (k : List UInt8) (hx : a.eval x = .slice A 1 c) (hr : Reads w w.heap.size 1 A 1 [encStr k])
    (hlen : l.length ≤ 100000000) (hbase : base ≤ w.heap.size)
    (h : ∀ v' w', OS (l ++ [k]) v' base w' → Below base w w' → wpList Try.prog ops Q rest (a.put o.dst v') w') : wpList Try.prog ops Q (o :: rest) a w := by
  obtain ⟨i0, hi, hz0, hz1, hz2⟩ := info_parts info_str
  refine wpList_plain hgd fun _ hK => wp_append_any w s x 38 ho base 9 i0 _ 1 16 Try.underlying38 hi hz0 hz1 hz2 rfl (by omega) v l.length (l.map encStr) hs hown w.heap.size A 1 c [encStr k] hx hr (strs_one [k])
    (by simp only [maxLen]; omega) (by omega) hbase fun v' w' h2 h3 h4 => hK _ _ (h v' w' ?_ ((Below.refl base w).grown h3 hbase (fun j hj => (World.ownsRow.lt hown j hj).1)))
  unfold OS
  rw [List.length_append, List.map_append]; exact h2
/-- what stands of a key -/
def dataR (R : List Pr) (k : List UInt8) : List UInt8 := match R[posR R k]? with | some p => if p.1 == k then p.2 else [] | none => []
theorem dataR_at {R : List Pr} {k : List UInt8} {x : Pr} (h : R[posR R k]? = some x) (e : (x.1 == k) = true) : dataR R k = x.2 := by unfold dataR; rw [h]; simp [e]
theorem dataR_no {R : List Pr} {k : List UInt8} (h : atR R k (posR R k) = false) : dataR R k = [] := by
  unfold atR at h
  unfold dataR
  cases hq : R[posR R k]? with
  | none => rfl
  | some p => rw [hq] at h; simp only at h; simp [h]
theorem dataR_pairs {L : List En} (h : Dist L) (k : List UInt8) : dataR (pairsL L) k = dataOf L k := by
  have h1 := is_at' (rise_pairs h) k
  rw [any_pairs] at h1
  cases hh : hasK L k with
  | false => rw [hh] at h1; rw [dataR_no h1.symm, dataOf_no hh]
  | true =>
    rw [hh] at h1
    unfold atR at h1
    cases hq : (pairsL L)[posR (pairsL L) k]? with
    | none => rw [hq] at h1; cases h1
    | some p =>
      rw [hq] at h1
      rw [dataR_at hq h1.symm, (pairs_mem (List.mem_of_getElem? hq)).2, eq_of_beq h1.symm]
set_option maxHeartbeats 4000000 in
set_option maxRecDepth 10000 in
theorem rget_any (lo g : Nat) (v : Value) (R : List Pr) (hr : Rise R) (hR : R.length ≤ 1000000) (k : List UInt8) (w : World) (h : Hid (Rm w lo g v R)) :
    Calls Try.prog 19 #[.pointer (some ⟨g, 0, none⟩), .string (bs k)] w fun e w' => e = .returned (.tuple #[.string (bs (dataR R k)), .bool (R.any (fun p => p.1 == k))]) ∧ GrM w w' := by
  have his := Lib.hid (ris_any lo g v R hr hR k w h)
  cases hh : R.any (fun p => p.1 == k) with
  | false =>
    rw [hh] at his
    rw [is_at' hr] at hh
    rw [dataR_no hh]
    replace hh := Lib.hid hh
    go_enter Try.func19, Try.ntmps19
    go_wp2_with (go_at_call 26; go_must (refine his.out.mono ?_); rintro e w1 ⟨rfl, hg1⟩)
    go_ret2
    exact ⟨rfl, hg1⟩
  | true =>
    rw [hh] at his
    rw [is_at' hr] at hh
    unfold atR at hh
    obtain ⟨x, hx⟩ : ∃ x, R[posR R k]? = some x := by
      cases hq : R[posR R k]? with
      | none => rw [hq] at hh; cases hh
      | some p => exact ⟨p, rfl⟩
    rw [hx] at hh
    rw [dataR_at hx hh]
    obtain ⟨A, c, rfl, hc, hm⟩ := row_form h.out.row
    obtain ⟨n, hn⟩ : ∃ n, R.length = n := ⟨_, rfl⟩
    have hpn : posR R k < n := by rw [← hn]; exact (List.getElem?_eq_some_iff.mp hx).1
    obtain ⟨p, hp⟩ : ∃ p, posR R k = p := ⟨_, rfl⟩
    rw [hp] at his hx hpn
    rw [hn] at h hc hR
    have ip : (p : Int) < (n : Int) := by omega
    have hcl : Hid (∀ w', GrM w w' → w'.cell? ⟨g, 0, none⟩ = some (.slice A n c) ∧ ∃ b, A = some ⟨b, 0, none⟩ ∧ w'.cell? ⟨b, p * 2 + 1, none⟩ = some (.string (bs x.2))) := Lib.hid (fun w' hg => by
      have h' := (Rm.gr hg h).out
      obtain ⟨b, e, hc⟩ := h'.cells (by omega)
      exact ⟨blk_cell (j := 0) (v := .slice A n c) h'.blk rfl, b, e, (hc p x hx).2⟩)
    replace hn := Lib.hid hn
    replace hp := Lib.hid hp
    replace hx := Lib.hid hx
    replace hh := Lib.hid hh
    obtain ⟨-, b, rfl, -⟩ := hcl.out w (GrM.refl _)
    go_enter Try.func19, Try.ntmps19
    go_wp2_with (go_at_call 26; go_must (refine his.out.mono ?_); rintro e w1 ⟨rfl, hg1⟩; obtain ⟨cg, b', e', cx⟩ := hcl.out w1 hg1; injection e' with e'; injection e' with e'; subst e'; replace hg1 := Lib.hid hg1)
    go_ret2
    exact ⟨rfl, hg1.out⟩
set_option maxHeartbeats 4000000 in
set_option maxRecDepth 10000 in
theorem rkeys_any (lo g : Nat) (v : Value) (R : List Pr) (hR : R.length ≤ 1000000) (w : World) (h : Hid (Rm w lo g v R)) :
    Calls Try.prog 15 #[.pointer (some ⟨g, 0, none⟩)] w fun e w' => ∃ u, e = .returned u ∧ Hid (Txts (R.map Prod.fst) u w') ∧ GrM w w' := by
  obtain ⟨A, c, rfl, hc, hm⟩ := row_form h.out.row
  obtain ⟨n, hn⟩ : ∃ n, R.length = n := ⟨_, rfl⟩
  rw [hn] at h hc hR
  obtain ⟨B, hB⟩ : ∃ B, w.heap.size = B := ⟨_, rfl⟩
  obtain ⟨w1, hw1⟩ : ∃ w1, w1 = w.alloc (.cells #[] 9) := ⟨_, rfl⟩
  have ho0 : Hid (OS ((R.map Prod.fst).take 0) (.slice (some ⟨B, 0, none⟩) 0 0) B w1) := Lib.hid (by
    rw [hw1, ← hB]; exact World.ownsRow_made w #[] 0 (Nat.le_refl _) (by simp [maxLen]) rfl)
  have hq0 : Hid (Below B w w1) := Lib.hid (by rw [hw1, ← hB]; exact GrM.alloc _ _)
  have hz0 : Hid (B ≤ w1.heap.size) := Lib.hid (by rw [hw1, ← hB]; simp)
  have hBg : Hid (∀ x, Below B w x → GrM w x) := Lib.hid (fun x h => by unfold GrM; rw [hB]; exact h)
  replace hn := Lib.hid hn
  go_enter Try.func15, Try.ntmps15
  go_upto_region 2 with (fail)
  rw [← hw1]
  replace hw1 := Lib.hid hw1
  replace hB := Lib.hid hB
  go_wp2_with fail
  go_loopw [3, 4] (fun u z wr => ∃ j : Nat, j ≤ n ∧ z = .int .i64 j ∧ Hid (OS ((R.map Prod.fst).take j) u B wr) ∧ Hid (Below B w wr) ∧ Hid (B ≤ wr.heap.size)) (fun _ z _ => (n - intOf z).toNat)
  case atStart => exact ⟨0, Nat.zero_le _, rfl, ho0, hq0, hz0⟩
  case round =>
    obtain ⟨j, hj, rfl, ho, hq, hz⟩ := hrel
    clear ho0 hq0 hz0
    have hrm := (Rm.gr (hBg.out _ hq.out) h).out
    have cg := blk_cell (j := 0) (v := .slice A n c) hrm.blk rfl
    by_cases hjn : j < n
    · have ij : (j : Int) < (n : Int) := by omega
      obtain ⟨b, rfl, hcl⟩ := hrm.cells (by omega)
      obtain ⟨x, hx⟩ : ∃ x, R[j]? = some x := ⟨_, List.getElem?_eq_getElem (by rw [hn.out]; exact hjn)⟩
      obtain ⟨c0, c1⟩ := hcl j x hx
      obtain ⟨W, hW⟩ : ∃ W, W = wr.alloc (.cells #[.string (bs x.1)] 9) := ⟨_, rfl⟩
      have hgW : GrM wr W := by rw [hW]; exact GrM.alloc _ _
      have hoW : Hid (OS ((R.map Prod.fst).take j) u3 B W) := Lib.hid (row_below ho.out hgW)
      have hsrc : Hid (Reads W W.heap.size 1 (some ⟨wr.heap.size, 0, none⟩) 1 [encStr x.1]) := Lib.hid (by
        refine ⟨rfl, fun _ => ⟨_, rfl, by rw [hW]; simp, fun i u hu => ?_⟩⟩
        rw [show (⟨wr.heap.size, 0, none⟩ : Addr).add i = ⟨wr.heap.size, i, none⟩ from by unfold Addr.add; split <;> simp_all]
        have hi : i = 0 := by
          have := (List.getElem?_eq_some_iff.mp hu).1
          simp at this; exact this
        subst hi
        simp at hu; subst hu
        rw [hW]
        exact cell_new wr _ _ rfl)
      have hnx : Hid ((R.map Prod.fst).take (j + 1) = (R.map Prod.fst).take j ++ [x.1]) := Lib.hid (by rw [List.take_add_one, List.getElem?_map, hx]; rfl)
      have hqW : Hid (Below B w W) := Lib.hid (hq.out.trans (Below.mono hgW hz.out))
      have hzW : B ≤ W.heap.size := Nat.le_trans hz.out hgW.size
      have hll : ((R.map Prod.fst).take j).length ≤ 100000000 := by rw [List.length_take]; omega
      replace hW := Lib.hid hW.symm
      replace hx := Lib.hid hx
      clear hgW hcl ho hq hrm
      go_wp2_with (at_builtin; rw [hW.out]; go_must (refine wpl_appS rfl (.tmp 15) (.tmp 24) rfl B _ _ rfl hoW.out _ _ x.1 rfl hsrc.out hll hzW ?_); intro v6 w6 ho6 hb6)
      have hq6 : Hid (Below B w w6) := Lib.hid (hqW.out.trans hb6)
      have hz6 : Hid (B ≤ w6.heap.size) := Lib.hid (Nat.le_trans hzW hb6.size)
      go_roundw
      case rel => exact ⟨j + 1, by omega, by go_num, Lib.hid (by rw [hnx.out]; exact ho6), hq6, hz6⟩
      case measure => simp [intOf]; omega
    · obtain rfl : j = n := by omega
      have ij : decide ((j : Int) < (j : Int)) = false := decide_eq_false (by omega)
      clear hjn hrm
      have hall : (R.map Prod.fst).take j = R.map Prod.fst := List.take_of_length_le (by rw [List.length_map, hn.out]; exact Nat.le_refl _)
      rw [hall] at ho
      go_wp2_with fail
      go_ret
      exact ⟨_, rfl, Lib.hid ⟨B, ho.out⟩, hBg.out _ hq.out⟩
end Go.Proofs.Ytipdjchgdhfciaa
