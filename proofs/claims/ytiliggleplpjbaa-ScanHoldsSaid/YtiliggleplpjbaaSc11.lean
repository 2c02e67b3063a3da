/- scan: slices.Chunk of places, over a body that turns old blocks of S beside its own. -/
import Derived.RangeFuncNested
import Derived.RangeFuncBound
import Derived.RangeFuncCalls
import Derived.RangeFuncWrites
import Derived.RangeFuncLeaves
import Derived.Shelf.Abstract
import Derived.Shelf.RegionOpen
import Derived.WalkKit
import Derived.OwnWalkIn
import Derived.TacticsInMore
import Derived.LoopNIn
import Derived.LoopIn
import Derived.Sort.CutIn
import Derived.WalkSpells
import Derived.Laws.StructEq
import Derived.Maps.OwnIn
import Derived.Test.YtiliggleplpjbaaSc10
namespace Go.Proofs.Ytiliggleplpjbaa
set_option linter.unusedVariables false
set_option linter.unusedSimpArgs false
open Go Go.RowKit Go.Maps Go.Shelf Go.Proofs
attribute [local go_sem] Oper.semAt_some
theorem finRange_take_succ {q k : Nat} (h : k < q) : (List.finRange q).take (k + 1) = (List.finRange q).take k ++ [⟨k, h⟩] := by
  rw [List.take_succ_eq_append_getElem (by rw [List.length_finRange]; exact h)]
  simp
/-- below n₀ nothing turns but blocks of S -/
def KpS (n₀ : Nat) (S : Nat → Prop) (W W' : World) : Prop := W.heap.size ≤ W'.heap.size ∧ ∀ k, k < n₀ → ¬ S k → W'.heap[k]? = W.heap[k]?
theorem KpS.refl (n₀ : Nat) (S : Nat → Prop) (W : World) : KpS n₀ S W W := ⟨Nat.le_refl _, fun _ _ _ => rfl⟩
theorem KpS.trans {n₀ : Nat} {S : Nat → Prop} {A B C : World} (h1 : KpS n₀ S A B) (h2 : KpS n₀ S B C) : KpS n₀ S A C := ⟨Nat.le_trans h1.1 h2.1, fun k hk hx => (h2.2 k hk hx).trans (h1.2 k hk hx)⟩
theorem KpS.cell {n₀ : Nat} {S : Nat → Prop} {W W' : World} (h : KpS n₀ S W W') {p : Addr} (hp : p.block < n₀) (hx : ¬ S p.block) : W'.cell? p = W.cell? p := World.cell?_of_block (h.2 _ hp hx)
theorem KpS.drew (n₀ : Nat) (S : Nat → Prop) (W : World) : KpS n₀ S W W.drew := ⟨Nat.le_refl _, fun _ _ _ => rfl⟩
theorem KpS.putObj {n₀ : Nat} {S : Nat → Prop} (W : World) (l : Nat) (o' : Obj) (h : n₀ ≤ l) : KpS n₀ S W (W.putObj l o') := by
  have hg := grownBy_putObj' W l o'
  exact ⟨hg.size, fun k hk hx => by
    by_cases hlt : k < W.heap.size
    · exact hg.block k hlt (fun e => by injection e; omega)
    · have h2 : (W.putObj l o').heap.size = W.heap.size := by simp [World.putObj]
      rw [Array.getElem?_eq_none (by omega), Array.getElem?_eq_none (by omega)]⟩
set_option maxRecDepth 100000 in
set_option maxHeartbeats 4000000 in
theorem chunkS_in (F : Fence) (n : Nat) (h7 : F.fn 57) (hro : F.round = none) (hn : 1 ≤ n) (S : Nat → Prop) (l Bs Bn n₀ b off cap q m : Nat) (hm : 1 ≤ m) (Q : Nat) (hQ : Hid (q * m = Q)) (hreach : Q + m ≤ 1000000000000) (hcap : Q ≤ cap) (hcm : cap ≤ maxLen) (J Jx : List (Fin q) → World → Prop) (W : World) (hJ : AbidesFrom W.heap.size J)
    (hY : ∀ pre x W, J pre W → pre.length < q → YieldAt F (n - 1) Try.prog l #[.slice (some ⟨b, off + x.1 * m * 2, none⟩) m m] W fun e W' =>
      (e = .returned (.bool true) ∧ J (pre ++ [x]) W' ∧ KpS n₀ S W W') ∨ (e = .returned (.bool false) ∧ Jx (pre ++ [x]) W'))
    (hs : Bs < n₀) (hn0 : Bn < n₀) (hsx : ¬ S Bs) (hnx0 : ¬ S Bn) (hBs : W.cell? ⟨Bs, 0, none⟩ = some (.slice (some ⟨b, off, none⟩) Q cap)) (hBn : W.cell? ⟨Bn, 0, none⟩ = some (.int .i64 m)) (h0 : J [] W) :
    CallsIn F n Try.prog 57 #[.func (.yield l) #[] #[], .pointer (some ⟨Bs, 0, none⟩), .pointer (some ⟨Bn, 0, none⟩)] W fun e W' => (∃ v, e = .returned v) ∧
      ((∃ ys, ys = List.finRange q ∧ J ys W') ∨ (∃ pre, True ∧ Jx pre W')) := by
  refine callsIn_of_wp Try.func57 rfl h7 ?_ hro
  simp only [Try.ntmps57, List.size_toArray, List.length_cons, List.length_nil, Nat.reduceAdd, Nat.reduceSub, Array.replicate_succ, Array.replicate_zero, List.push_toArray, List.append_toArray, List.nil_append, List.cons_append]
  gi_wp2
  gi_loopw [4] (fun i wr => ∃ k : Nat, k ≤ q ∧ i = .int .i64 ((k * m : Nat) : Int) ∧ J ((List.finRange q).take k) wr ∧ KpS n₀ S W wr)
    (fun i _ => Q + m - (intOf i).toNat)
  case atStart => exact ⟨0, Nat.zero_le _, by simp, h0, KpS.refl _ _ _⟩
  case round =>
    obtain ⟨k, hk, rfl, hJs, hnx⟩ := hrel
    have hcs := (hnx.cell (p := ⟨Bs, 0, none⟩) hs hsx).trans hBs
    have hcn := (hnx.cell (p := ⟨Bn, 0, none⟩) hn0 hnx0).trans hBn
    by_cases hlt : k < q
    · have hJd : J ((List.finRange q).take k) wr.drew := hJ _ _ _ none hJs ⟨rfl, rfl, rfl, Nat.le_refl _, fun _ _ _ => rfl⟩ (fun r e => by cases e)
      obtain ⟨fn, tmps, assign, body, hy, hR⟩ := hY _ ⟨k, hlt⟩ wr.drew hJd (by rw [List.length_take, List.length_finRange]; omega)
      dsimp only at hy
      have hnx1 : (k + 1) * m = k * m + m := by rw [Nat.succ_mul]
      have hle : (k + 1) * m ≤ q * m := Nat.mul_le_mul_right m hlt
      rw [hnx1, hQ.out] at hle
      have htake := Lib.hid (finRange_take_succ hlt)
      obtain ⟨t, ht⟩ : ∃ t, k * m = t := ⟨_, rfl⟩
      rw [ht] at hy hle hnx1 ⊢
      have i1 : (t : Int) < (Q : Int) := by omega
      have i2 : (m : Int) ≤ (Q : Int) - (t : Int) := by omega
      have hmin : (if Q - t < m then (((Q - t : Nat)) : Int) else (m : Int)) = (m : Int) := if_neg (by omega)
      replace ht := Lib.hid ht
      replace hnx1 := Lib.hid hnx1
      gi_wp2
      gi_region
      all_goals
        try simp only [hmin]
        gi_wp2
        refine hR.mono ?_
        rintro e W3 (⟨rfl, hJ3, hk3⟩ | ⟨rfl, hJx3⟩)
        · have hcn3 := (hk3.cell (p := ⟨Bn, 0, none⟩) hn0 hnx0).trans hcn
          have hnx3 : KpS n₀ S W W3 := hnx.trans (KpS.trans (KpS.drew _ _ _) hk3)
          gi_wp2
          go_roundw
          case rel => exact ⟨k + 1, by omega, by rw [hnx1.out]; go_num, by rw [htake.out]; exact hJ3, hnx3⟩
          case measure => simp [intOf]; omega
        · gi_wp2
          refine bodyPost_ret (results_none rfl _ _ _) rfl ?_
          exact ⟨⟨_, rfl⟩, .inr ⟨_, trivial, hJx3⟩⟩
    · obtain rfl : k = q := by omega
      have hQ2 := hQ.out
      rw [hQ2]
      have hall : (List.finRange k).take k = List.finRange k := List.take_of_length_le (by rw [List.length_finRange]; exact Nat.le_refl _)
      rw [hall] at hJs
      replace hQ2 := Lib.hid hQ2
      gi_wp2
      go_end0
      exact ⟨⟨_, rfl⟩, .inl ⟨_, rfl, hJs⟩⟩
theorem chunkS_stops (F : Fence) (n : Nat) (h7 : F.fn 57) (hro : F.round = none) (hn : 1 ≤ n) (S : Nat → Prop) (Bs Bn n₀ b off cap q m : Nat) (hm : 1 ≤ m) (Q : Nat) (hQ : q * m = Q) (hreach : Q + m ≤ 1000000000000) (hcap : Q ≤ cap) (hcm : cap ≤ maxLen)
    (w : World) (hs : Bs < n₀) (hn0 : Bn < n₀) (hsx : ¬ S Bs) (hnx0 : ¬ S Bn) (hnw : n₀ ≤ w.heap.size) (hBs : w.cell? ⟨Bs, 0, none⟩ = some (.slice (some ⟨b, off, none⟩) Q cap)) (hBn : w.cell? ⟨Bn, 0, none⟩ = some (.int .i64 m)) :
    SeqStopsK F n Try.prog 57 #[.pointer (some ⟨Bs, 0, none⟩), .pointer (some ⟨Bn, 0, none⟩)] (fun x : Fin q => #[.slice (some ⟨b, off + x.1 * m * 2, none⟩) m m]) (KpS n₀ S) (fun ys => ys = List.finRange q) (fun _ => True) q w := fun l J Jx W hW hJ _ hY h0 =>
  chunkS_in F n h7 hro hn S l Bs Bn n₀ b off cap q m hm Q (Lib.hid hQ) hreach hcap hcm J Jx W hJ hY hs hn0 hsx hnx0 ((hW.cell (p := ⟨Bs, 0, none⟩) (by show Bs < _; omega)).trans hBs) ((hW.cell (p := ⟨Bn, 0, none⟩) (by show Bn < _; omega)).trans hBn) h0
theorem chunk_any (A : Option Addr) (m c : Nat) (w : World) : Calls Try.prog 43 #[.slice A m c, .int .i64 10] w fun e w' => e = .returned (.func (.func 57) #[] #[.pointer (some ⟨w.heap.size, 0, none⟩), .pointer (some ⟨w.heap.size + 1, 0, none⟩)]) ∧ w' = (w.alloc (.cells #[.slice A m c] 30)).alloc (.cells #[.int .i64 10] 3) := by
  go_enter Try.func43, Try.ntmps43
  go_wp2
  go_ret
  exact ⟨rfl, rfl⟩
theorem neqS (a b : Int) (w : World) : (binOp .neq 34 (.agg #[.int .i64 a, .int .i64 b]) (.agg #[.int .i64 0, .int .i64 1024])).run Try.prog w = .ok (.bool (!(a == 0 && b == 1024))) w := by
  have h := eqlS a b w
  rw [run_eql_struct] at h
  rw [run_neq_struct]
  generalize (Op.equalIn 10000 34 (.agg #[.int .i64 a, .int .i64 b]) (.agg #[.int .i64 0, .int .i64 1024])).run Try.prog w = r at h ⊢
  cases r with
  | ok x w1 =>
    simp only [Result.andThen_ok] at h ⊢
    injection h with h1 h2
    injection h1 with h1
    rw [h1, h2]
  | halt x w1 => simp [Result.andThen] at h
end Go.Proofs.Ytiliggleplpjbaa
