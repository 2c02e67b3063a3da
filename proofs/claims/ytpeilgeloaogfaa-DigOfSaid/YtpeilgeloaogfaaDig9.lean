/- dig: slices.Chunk over a body that turns one old block beside its own. -/
import Derived.Test.YtpeilgeloaogfaaDgB
import Derived.Test.YtpeilgeloaogfaaDig8
namespace Go.Proofs.Ytpeilgeloaogfaa
set_option linter.unusedVariables false
open Go Go.RowKit Go.Shelf
attribute [local go_sem] Oper.semAt_some
/-- below n₀ nothing turns but block gx -/
def KpX (n₀ gx : Nat) (W W' : World) : Prop := W.heap.size ≤ W'.heap.size ∧ ∀ k, k < n₀ → k ≠ gx → W'.heap[k]? = W.heap[k]?
theorem KpX.refl (n₀ gx : Nat) (W : World) : KpX n₀ gx W W := ⟨Nat.le_refl _, fun _ _ _ => rfl⟩
theorem KpX.trans {n₀ gx : Nat} {A B C : World} (h1 : KpX n₀ gx A B) (h2 : KpX n₀ gx B C) : KpX n₀ gx A C := ⟨Nat.le_trans h1.1 h2.1, fun k hk hx => (h2.2 k hk hx).trans (h1.2 k hk hx)⟩
theorem KpX.cell {n₀ gx : Nat} {W W' : World} (h : KpX n₀ gx W W') {p : Addr} (hp : p.block < n₀) (hx : p.block ≠ gx) : W'.cell? p = W.cell? p := World.cell?_of_block (h.2 _ hp hx)
theorem KpX.drew (n₀ gx : Nat) (W : World) : KpX n₀ gx W W.drew := ⟨Nat.le_refl _, fun _ _ _ => rfl⟩
theorem KpX.putObj {n₀ gx : Nat} (W : World) (l : Nat) (o' : Obj) (h : n₀ ≤ l) : KpX n₀ gx W (W.putObj l o') := by
  have hg := grownBy_putObj' W l o'
  exact ⟨hg.size, fun k hk hx => by
    by_cases hlt : k < W.heap.size
    · exact hg.block k hlt (fun e => by injection e; omega)
    · have h2 : (W.putObj l o').heap.size = W.heap.size := by simp [World.putObj]
      rw [Array.getElem?_eq_none (by omega), Array.getElem?_eq_none (by omega)]⟩
set_option maxRecDepth 100000 in
set_option maxHeartbeats 4000000 in
theorem chunkX_in (F : Fence) (n : Nat) (h7 : F.fn 120) (hro : F.round = none) (hn : 1 ≤ n) (l Bs Bn n₀ gx b off cap q m : Nat) (hm : 1 ≤ m) (Q : Nat) (hQ : Hid (q * m = Q)) (hreach : Q + m ≤ 1000000000000) (hcap : Q ≤ cap) (hcm : cap ≤ maxLen) (J Jx : List (Fin q) → World → Prop) (W : World) (hJ : AbidesFrom W.heap.size J)
    (hY : ∀ pre x W, J pre W → pre.length < q → YieldAt F (n - 1) Try.prog l #[.slice (some ⟨b, off + x.1 * m, none⟩) m m] W fun e W' =>
      (e = .returned (.bool true) ∧ J (pre ++ [x]) W' ∧ KpX n₀ gx W W') ∨ (e = .returned (.bool false) ∧ Jx (pre ++ [x]) W'))
    (hs : Bs < n₀) (hn0 : Bn < n₀) (hsx : Bs ≠ gx) (hnx0 : Bn ≠ gx) (hBs : W.cell? ⟨Bs, 0, none⟩ = some (.slice (some ⟨b, off, none⟩) Q cap)) (hBn : W.cell? ⟨Bn, 0, none⟩ = some (.int .i64 m)) (h0 : J [] W) :
    CallsIn F n Try.prog 120 #[.func (.yield l) #[] #[], .pointer (some ⟨Bs, 0, none⟩), .pointer (some ⟨Bn, 0, none⟩)] W fun e W' => (∃ v, e = .returned v) ∧
      ((∃ ys, ys = List.finRange q ∧ J ys W') ∨ (∃ pre, True ∧ Jx pre W')) := by
  refine callsIn_of_wp Try.func120 rfl h7 ?_ hro
  simp only [Try.ntmps120, List.size_toArray, List.length_cons, List.length_nil, Nat.reduceAdd, Nat.reduceSub, Array.replicate_succ, Array.replicate_zero, List.push_toArray, List.append_toArray, List.nil_append, List.cons_append]
  gi_wp2
  gi_loopw [4] (fun i wr => ∃ k : Nat, k ≤ q ∧ i = .int .i64 ((k * m : Nat) : Int) ∧ J ((List.finRange q).take k) wr ∧ KpX n₀ gx W wr)
    (fun i _ => Q + m - (intOf i).toNat)
  case atStart => exact ⟨0, Nat.zero_le _, by simp, h0, KpX.refl _ _ _⟩
  case round =>
    obtain ⟨k, hk, rfl, hJs, hnx⟩ := hrel
    have hcs := (hnx.cell (p := ⟨Bs, 0, none⟩) hs hsx).trans hBs
    have hcn := (hnx.cell (p := ⟨Bn, 0, none⟩) hn0 hnx0).trans hBn
    by_cases hlt : k < q
    · have hJd : J ((List.finRange q).take k) wr.drew := hJ _ _ _ none hJs ⟨rfl, rfl, rfl, Nat.le_refl _, fun _ _ _ => rfl⟩ (fun r e => by cases e)
      obtain ⟨fn, tmps, assign, body, hy, hR⟩ := hY _ ⟨k, hlt⟩ wr.drew hJd (by rw [List.length_take, List.length_finRange]; omega)
      dsimp only at hy
      have hnx1 : (k + 1) * m = k * m + m := by rw [Nat.succ_mul]
      have hle : (k + 1) * m ≤ q * m := Nat.mul_le_mul_right m hlt
      rw [hnx1, hQ.out] at hle
      have htake := Lib.hid (finRange_take_succ hlt)
      obtain ⟨t, ht⟩ : ∃ t, k * m = t := ⟨_, rfl⟩
      rw [ht] at hy hle hnx1 ⊢
      have i1 : (t : Int) < (Q : Int) := by omega
      have i2 : (m : Int) ≤ (Q : Int) - (t : Int) := by omega
      have hmin : (if Q - t < m then (((Q - t : Nat)) : Int) else (m : Int)) = (m : Int) := if_neg (by omega)
      replace ht := Lib.hid ht
      replace hnx1 := Lib.hid hnx1
      gi_wp2
      gi_region
      all_goals
        try simp only [hmin]
        gi_wp2
        refine hR.mono ?_
        rintro e W3 (⟨rfl, hJ3, hk3⟩ | ⟨rfl, hJx3⟩)
        · have hcn3 := (hk3.cell (p := ⟨Bn, 0, none⟩) hn0 hnx0).trans hcn
          have hnx3 : KpX n₀ gx W W3 := hnx.trans (KpX.trans (KpX.drew _ _ _) hk3)
          gi_wp2
          go_roundw
          case rel => exact ⟨k + 1, by omega, by rw [hnx1.out]; go_num, by rw [htake.out]; exact hJ3, hnx3⟩
          case measure => simp [intOf]; omega
        · gi_wp2
          refine bodyPost_ret (results_none rfl _ _ _) rfl ?_
          exact ⟨⟨_, rfl⟩, .inr ⟨_, trivial, hJx3⟩⟩
    · obtain rfl : k = q := by omega
      have hQ2 := hQ.out
      rw [hQ2]
      have hall : (List.finRange k).take k = List.finRange k := List.take_of_length_le (by rw [List.length_finRange]; exact Nat.le_refl _)
      rw [hall] at hJs
      replace hQ2 := Lib.hid hQ2
      gi_wp2
      go_end0
      exact ⟨⟨_, rfl⟩, .inl ⟨_, rfl, hJs⟩⟩
theorem chunkX_stops (F : Fence) (n : Nat) (h7 : F.fn 120) (hro : F.round = none) (hn : 1 ≤ n) (Bs Bn n₀ gx b off cap q m : Nat) (hm : 1 ≤ m) (Q : Nat) (hQ : q * m = Q) (hreach : Q + m ≤ 1000000000000) (hcap : Q ≤ cap) (hcm : cap ≤ maxLen)
    (w : World) (hs : Bs < n₀) (hn0 : Bn < n₀) (hsx : Bs ≠ gx) (hnx0 : Bn ≠ gx) (hnw : n₀ ≤ w.heap.size) (hBs : w.cell? ⟨Bs, 0, none⟩ = some (.slice (some ⟨b, off, none⟩) Q cap)) (hBn : w.cell? ⟨Bn, 0, none⟩ = some (.int .i64 m)) :
    SeqStopsK F n Try.prog 120 #[.pointer (some ⟨Bs, 0, none⟩), .pointer (some ⟨Bn, 0, none⟩)] (fun x : Fin q => #[.slice (some ⟨b, off + x.1 * m, none⟩) m m]) (KpX n₀ gx) (fun ys => ys = List.finRange q) (fun _ => True) q w := fun l J Jx W hW hJ _ hY h0 =>
  chunkX_in F n h7 hro hn l Bs Bn n₀ gx b off cap q m hm Q (Lib.hid hQ) hreach hcap hcm J Jx W hJ hY hs hn0 hsx hnx0 ((hW.cell (p := ⟨Bs, 0, none⟩) (by show Bs < _; omega)).trans hBs) ((hW.cell (p := ⟨Bn, 0, none⟩) (by show Bn < _; omega)).trans hBn) h0
end Go.Proofs.Ytpeilgeloaogfaa
