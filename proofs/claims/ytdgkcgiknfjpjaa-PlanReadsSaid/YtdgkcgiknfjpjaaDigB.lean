/- dig: slices.Chunk over a body that turns one old block beside its own. -/
import Derived.Test.YtdgkcgiknfjpjaaDigA
import Derived.RangeFuncCalls
import Derived.RangeFuncLeaves
import Derived.OrdersIn
import Derived.TacticsIn
import Derived.Test.YtdgkcgiknfjpjaaBaseA
import Derived.RangeFuncWrites
namespace Go.Proofs.Ytdgkcgiknfjpjaa
set_option linter.unusedVariables false
open Go Go.RowKit Go.Shelf
attribute [local go_sem] Oper.semAt_some
/-- below n₀ nothing turns but block gx -/
def KpX (n₀ gx : Nat) (W W' : World) : Prop := W.heap.size ≤ W'.heap.size ∧ ∀ k, k < n₀ → k ≠ gx → W'.heap[k]? = W.heap[k]?
theorem KpX.refl (n₀ gx : Nat) (W : World) : KpX n₀ gx W W := ⟨Nat.le_refl _, fun _ _ _ => rfl⟩
theorem KpX.trans {n₀ gx : Nat} {A B C : World} (h1 : KpX n₀ gx A B) (h2 : KpX n₀ gx B C) : KpX n₀ gx A C := ⟨Nat.le_trans h1.1 h2.1, fun k hk hx => (h2.2 k hk hx).trans (h1.2 k hk hx)⟩
theorem KpX.cell {n₀ gx : Nat} {W W' : World} (h : KpX n₀ gx W W') {p : Addr} (hp : p.block < n₀) (hx : p.block ≠ gx) : W'.cell? p = W.cell? p := World.cell?_of_block (h.2 _ hp hx)
theorem KpX.drew (n₀ gx : Nat) (W : World) : KpX n₀ gx W W.drew := ⟨Nat.le_refl _, fun _ _ _ => rfl⟩
theorem KpX.putObj {n₀ gx : Nat} (W : World) (l : Nat) (o' : Obj) (h : n₀ ≤ l) : KpX n₀ gx W (W.putObj l o') := by
  have hg := grownBy_putObj' W l o'
  exact ⟨hg.size, fun k hk hx => by
    by_cases hlt : k < W.heap.size
    · exact hg.block k hlt (fun e => by injection e; omega)
    · have h2 : (W.putObj l o').heap.size = W.heap.size := by simp [World.putObj]
      rw [Array.getElem?_eq_none (by omega), Array.getElem?_eq_none (by omega)]⟩
set_option maxRecDepth 100000 in
set_option maxHeartbeats 4000000 in
theorem chunkX_in (F : Fence) (n : Nat) (h7 : F.fn 91) (hro : F.round = none) (hn : 1 ≤ n) (l Bs Bn n₀ gx b off cap q m : Nat) (hm : 1 ≤ m) (Q : Nat) (hQ : Hid (q * m = Q)) (hreach : Q + m ≤ 1000000000000) (hcap : Q ≤ cap) (hcm : cap ≤ maxLen) (J Jx : List (Fin q) → World → Prop) (W : World) (hJ : AbidesFrom W.heap.size J)
    (hY : ∀ pre x W, J pre W → pre.length < q → YieldAt F (n - 1) Try.prog l #[.slice (some ⟨b, off + x.1 * m, none⟩) m m] W fun e W' =>
      (e = .returned (.bool true) ∧ J (pre ++ [x]) W' ∧ KpX n₀ gx W W') ∨ (e = .returned (.bool false) ∧ Jx (pre ++ [x]) W'))
    (hs : Bs < n₀) (hn0 : Bn < n₀) (hsx : Bs ≠ gx) (hnx0 : Bn ≠ gx) (hBs : W.cell? ⟨Bs, 0, none⟩ = some (.slice (some ⟨b, off, none⟩) Q cap)) (hBn : W.cell? ⟨Bn, 0, none⟩ = some (.int .i64 m)) (h0 : J [] W) :
    CallsIn F n Try.prog 91 #[.func (.yield l) #[] #[], .pointer (some ⟨Bs, 0, none⟩), .pointer (some ⟨Bn, 0, none⟩)] W fun e W' => (∃ v, e = .returned v) ∧
      ((∃ ys, ys = List.finRange q ∧ J ys W') ∨ (∃ pre, True ∧ Jx pre W')) := by
  refine callsIn_of_wp Try.func91 rfl h7 ?_ hro
  simp only [Try.ntmps91, List.size_toArray, List.length_cons, List.length_nil, Nat.reduceAdd, Nat.reduceSub, Array.replicate_succ, Array.replicate_zero, List.push_toArray, List.append_toArray, List.nil_append, List.cons_append]
  gi_wp2
  gi_loopw [4] (fun i wr => ∃ k : Nat, k ≤ q ∧ i = .int .i64 ((k * m : Nat) : Int) ∧ J ((List.finRange q).take k) wr ∧ KpX n₀ gx W wr)
    (fun i _ => Q + m - (intOf i).toNat)
  case atStart => exact ⟨0, Nat.zero_le _, by simp, h0, KpX.refl _ _ _⟩
  case round =>
    obtain ⟨k, hk, rfl, hJs, hnx⟩ := hrel
    have hcs := (hnx.cell (p := ⟨Bs, 0, none⟩) hs hsx).trans hBs
    have hcn := (hnx.cell (p := ⟨Bn, 0, none⟩) hn0 hnx0).trans hBn
    by_cases hlt : k < q
    · have hJd : J ((List.finRange q).take k) wr.drew := hJ _ _ _ none hJs ⟨rfl, rfl, rfl, Nat.le_refl _, fun _ _ _ => rfl⟩ (fun r e => by cases e)
      obtain ⟨fn, tmps, assign, body, hy, hR⟩ := hY _ ⟨k, hlt⟩ wr.drew hJd (by rw [List.length_take, List.length_finRange]; omega)
      dsimp only at hy
      have hnx1 : (k + 1) * m = k * m + m := by rw [Nat.succ_mul]
      have hle : (k + 1) * m ≤ q * m := Nat.mul_le_mul_right m hlt
      rw [hnx1, hQ.out] at hle
      have htake := Lib.hid (finRange_take_succ hlt)
      obtain ⟨t, ht⟩ : ∃ t, k * m = t := ⟨_, rfl⟩
      rw [ht] at hy hle hnx1 ⊢
      have i1 : (t : Int) < (Q : Int) := by omega
      have i2 : (m : Int) ≤ (Q : Int) - (t : Int) := by omega
      have hmin : (if Q - t < m then (((Q - t : Nat)) : Int) else (m : Int)) = (m : Int) := if_neg (by omega)
      replace ht := Lib.hid ht
      replace hnx1 := Lib.hid hnx1
      gi_wp2
      gi_region
      all_goals
        try simp only [hmin]
        gi_wp2
        refine hR.mono ?_
        rintro e W3 (⟨rfl, hJ3, hk3⟩ | ⟨rfl, hJx3⟩)
        · have hcn3 := (hk3.cell (p := ⟨Bn, 0, none⟩) hn0 hnx0).trans hcn
          have hnx3 : KpX n₀ gx W W3 := hnx.trans (KpX.trans (KpX.drew _ _ _) hk3)
          gi_wp2
          go_roundw
          case rel => exact ⟨k + 1, by omega, by rw [hnx1.out]; go_num, by rw [htake.out]; exact hJ3, hnx3⟩
          case measure => simp [intOf]; omega
        · gi_wp2
          refine bodyPost_ret (results_none rfl _ _ _) rfl ?_
          exact ⟨⟨_, rfl⟩, .inr ⟨_, trivial, hJx3⟩⟩
    · obtain rfl : k = q := by omega
      have hQ2 := hQ.out
      rw [hQ2]
      have hall : (List.finRange k).take k = List.finRange k := List.take_of_length_le (by rw [List.length_finRange]; exact Nat.le_refl _)
      rw [hall] at hJs
      replace hQ2 := Lib.hid hQ2
      gi_wp2
      go_end0
      exact ⟨⟨_, rfl⟩, .inl ⟨_, rfl, hJs⟩⟩
theorem chunkX_stops (F : Fence) (n : Nat) (h7 : F.fn 91) (hro : F.round = none) (hn : 1 ≤ n) (Bs Bn n₀ gx b off cap q m : Nat) (hm : 1 ≤ m) (Q : Nat) (hQ : q * m = Q) (hreach : Q + m ≤ 1000000000000) (hcap : Q ≤ cap) (hcm : cap ≤ maxLen)
    (w : World) (hs : Bs < n₀) (hn0 : Bn < n₀) (hsx : Bs ≠ gx) (hnx0 : Bn ≠ gx) (hnw : n₀ ≤ w.heap.size) (hBs : w.cell? ⟨Bs, 0, none⟩ = some (.slice (some ⟨b, off, none⟩) Q cap)) (hBn : w.cell? ⟨Bn, 0, none⟩ = some (.int .i64 m)) :
    SeqStopsK F n Try.prog 91 #[.pointer (some ⟨Bs, 0, none⟩), .pointer (some ⟨Bn, 0, none⟩)] (fun x : Fin q => #[.slice (some ⟨b, off + x.1 * m, none⟩) m m]) (KpX n₀ gx) (fun ys => ys = List.finRange q) (fun _ => True) q w := fun l J Jx W hW hJ _ hY h0 =>
  chunkX_in F n h7 hro hn l Bs Bn n₀ gx b off cap q m hm Q (Lib.hid hQ) hreach hcap hcm J Jx W hJ hY hs hn0 hsx hnx0 ((hW.cell (p := ⟨Bs, 0, none⟩) (by show Bs < _; omega)).trans hBs) ((hW.cell (p := ⟨Bn, 0, none⟩) (by show Bn < _; omega)).trans hBn) h0
end Go.Proofs.Ytdgkcgiknfjpjaa
/- Regions that draw their order, in a round of a range over a function: the walk by wpR serves there too. -/
namespace Go.Proofs.Ytdgkcgiknfjpjaa
set_option linter.unusedVariables false
open Go
theorem rowsIn_wide_of {n : Nat} {P : Program} {row : String} {args : Array Value} {w : World} {R : Value → World → Prop} (h : Rows P row args w R) : RowsIn Fence.wide n P row args w R := by
  intro c cs _
  obtain ⟨v, w', r, s⟩ := h c cs
  exact ⟨v, w', r, stepsIn_wide.2 s⟩
theorem wp_inRound {l n : Nat} {P : Program} {o : Oper} {a : Act} {w : World} {K : Act → World → Prop} {Q : Exit → Act → World → Prop} (hd : ∀ c, o.op ≠ .defer c) (h : Oper.wp P o a w K Q) : Oper.wpIn (Fence.wide.inRound l) n P o a w K Q := by
  refine ⟨fun _ _ => trivial, ?_⟩
  show o.uponIn _ _ _ _ _ _ ((o.semAt (some l) a.eval).run P w)
  rw [Oper.semAt_some l a.eval o hd]
  unfold Oper.wp at h
  generalize (execOp a.eval o).run P w = r at h ⊢
  cases r with
  | halt x w' => cases x <;> exact h
  | ok nx w' =>
    cases nx with
    | value v => exact h
    | skip => exact h
    | defer d => exact h
    | enter f args => exact ⟨fun hh => (by cases hh), CallsIn.inRound l (callsIn_wide.2 h)⟩
    | row r as1 => exact ⟨fun hh => (by cases hh), rowsIn_wide_of h⟩
    | _ => exact h.elim
def noDefer (ops : Array Oper) : Bool := ops.all (fun o => match o.op with | .defer _ => false | _ => true)
theorem noDefer_spec {ops : Array Oper} (h : noDefer ops = true) {i : Nat} {o : Oper} (hi : ops[i]? = some o) : ∀ c, o.op ≠ .defer c := by
  intro c e
  obtain ⟨hlt, rfl⟩ := Array.getElem?_eq_some_iff.mp hi
  have := Array.all_eq_true.mp h i hlt
  rw [e] at this
  cases this
section
variable {P : Program} {ops : Array Oper} {Q : Exit → Act → World → Prop} {md : Region.Mode} {R : World → World → Prop} {L l n : Nat}
theorem anyIn_of_R (hlo : ¬ LetsOut Q) (hd : noDefer ops = true) : ∀ (fuel : Nat) (listed : Array Bool) (a : Act) (w : World), wpR P md ops R L Q fuel listed a w → wpAnyIn (Fence.wide.inRound l) n P md ops Q fuel listed a w
  | 0, _, _, _, h => h
  | fuel + 1, listed, a, w, h => ⟨h.1, fun i hi => by
    have h2 := h.2 i hi
    unfold wpOpIn
    unfold wpOp at h2
    cases ho : ops[i]? with
    | none =>
      rw [ho] at h2
      exact anyIn_of_R hlo hd fuel _ _ _ h2.2
    | some o =>
      rw [ho] at h2
      dsimp only at h2 ⊢
      by_cases hw : Region.wanted o (yielded ops a.tmps) = true
      · rw [if_pos hw] at h2 ⊢
        rcases h2 with h2 | ⟨_, h2⟩
        · exact wp_inRound (noDefer_spec hd ho) (Oper.wp_mono (fun a' w' h' => anyIn_of_R hlo hd fuel _ _ _ h'.2) h2)
        · exact (hlo h2).elim
      · rw [if_neg hw] at h2 ⊢
        exact ⟨fun _ _ => trivial, anyIn_of_R hlo hd fuel _ _ _ h2.2⟩⟩
theorem wpR_regionIn {id : Nat} {a : Act} {w : World} (hlo : ¬ LetsOut Q) (R : World → World → Prop) (L : Nat) (hm : P.follows .mixedOrders = true) (hd : noDefer ops = true) (h : wpR P .any ops R L Q ops.size (Array.replicate ops.size false) a w.drew) : (Code.region id ops true).wpIn (Fence.wide.inRound l) n P Q a w :=
  wpIn_region_any hm (anyIn_of_R hlo hd _ _ _ _ h)
end
end Go.Proofs.Ytdgkcgiknfjpjaa
/- dig: the digest. -/
namespace Go.Proofs.Ytdgkcgiknfjpjaa
set_option linter.unusedVariables false
set_option linter.unusedSimpArgs false
open Go Go.RowKit Go.Shelf
attribute [local go_sem] Oper.semAt_some
theorem Ar.own {W W' : World} {B g n : Nat} {t : TypeId} {f : Nat → BitVec 32} {row : Option Nat} (h : Ar W g t n f) (hg : W.grownBy W' row) (hr : ∀ r, row = some r → B ≤ r ∧ ∃ o : Obj, W.heap[r]? = some o ∧ o.isCells = false) : Ar W' g t n f := h.other (hg.block g h.lt (fun e => by
  obtain ⟨_, o, ho, hc⟩ := hr g e.symm
  unfold Ar at h
  rw [h] at ho
  injection ho with ho
  subst ho
  cases hc))
/-- the state after these blocks -/
def foB {q : Nat} (ml : List UInt8) (xs : List (Fin q)) : Nat → BitVec 32 := xs.foldl (fun s x => blkS s (wd (blkB ml x.1))) h0F
theorem foB_snoc {q : Nat} (ml : List UInt8) (xs : List (Fin q)) (x : Fin q) : foB ml (xs ++ [x]) = blkS (foB ml xs) (wd (blkB ml x.1)) := by unfold foB; rw [List.foldl_append]; rfl
theorem foB_take {q : Nat} (ml : List UInt8) : ∀ k, k ≤ q → foB ml ((List.finRange q).take k) = stB ml k
  | 0, _ => rfl
  | k + 1, h => by rw [finRange_take_succ (show k < q by omega), foB_snoc, foB_take ml k (by omega)]; rfl
theorem foB_all {q : Nat} (ml : List UInt8) : foB ml (List.finRange q) = stB ml q := by
  rw [← foB_take ml q (Nat.le_refl _), List.take_of_length_le (by rw [List.length_finRange]; exact Nat.le_refl _)]
set_option maxRecDepth 100000 in
theorem idx8 (s : Nat → BitVec 32) (k : Nat) (hk : k < 8) (w : World) : (Instr.index 104 (.agg #[.int .u32 (W (s 0)), .int .u32 (W (s 1)), .int .u32 (W (s 2)), .int .u32 (W (s 3)), .int .u32 (W (s 4)), .int .u32 (W (s 5)), .int .u32 (W (s 6)), .int .u32 (W (s 7))]) (.int .i64 k)).run Try.prog w = .ok (.int .u32 (W (s k))) w := by
  have i0 : (Instr.index 104 (.agg #[.int .u32 (W (s 0)), .int .u32 (W (s 1)), .int .u32 (W (s 2)), .int .u32 (W (s 3)), .int .u32 (W (s 4)), .int .u32 (W (s 5)), .int .u32 (W (s 6)), .int .u32 (W (s 7))]) (.int .i64 0)).run Try.prog w = .ok (.int .u32 (W (s 0))) w := by kernel_rfl
  have i1 : (Instr.index 104 (.agg #[.int .u32 (W (s 0)), .int .u32 (W (s 1)), .int .u32 (W (s 2)), .int .u32 (W (s 3)), .int .u32 (W (s 4)), .int .u32 (W (s 5)), .int .u32 (W (s 6)), .int .u32 (W (s 7))]) (.int .i64 1)).run Try.prog w = .ok (.int .u32 (W (s 1))) w := by kernel_rfl
  have i2 : (Instr.index 104 (.agg #[.int .u32 (W (s 0)), .int .u32 (W (s 1)), .int .u32 (W (s 2)), .int .u32 (W (s 3)), .int .u32 (W (s 4)), .int .u32 (W (s 5)), .int .u32 (W (s 6)), .int .u32 (W (s 7))]) (.int .i64 2)).run Try.prog w = .ok (.int .u32 (W (s 2))) w := by kernel_rfl
  have i3 : (Instr.index 104 (.agg #[.int .u32 (W (s 0)), .int .u32 (W (s 1)), .int .u32 (W (s 2)), .int .u32 (W (s 3)), .int .u32 (W (s 4)), .int .u32 (W (s 5)), .int .u32 (W (s 6)), .int .u32 (W (s 7))]) (.int .i64 3)).run Try.prog w = .ok (.int .u32 (W (s 3))) w := by kernel_rfl
  have i4 : (Instr.index 104 (.agg #[.int .u32 (W (s 0)), .int .u32 (W (s 1)), .int .u32 (W (s 2)), .int .u32 (W (s 3)), .int .u32 (W (s 4)), .int .u32 (W (s 5)), .int .u32 (W (s 6)), .int .u32 (W (s 7))]) (.int .i64 4)).run Try.prog w = .ok (.int .u32 (W (s 4))) w := by kernel_rfl
  have i5 : (Instr.index 104 (.agg #[.int .u32 (W (s 0)), .int .u32 (W (s 1)), .int .u32 (W (s 2)), .int .u32 (W (s 3)), .int .u32 (W (s 4)), .int .u32 (W (s 5)), .int .u32 (W (s 6)), .int .u32 (W (s 7))]) (.int .i64 5)).run Try.prog w = .ok (.int .u32 (W (s 5))) w := by kernel_rfl
  have i6 : (Instr.index 104 (.agg #[.int .u32 (W (s 0)), .int .u32 (W (s 1)), .int .u32 (W (s 2)), .int .u32 (W (s 3)), .int .u32 (W (s 4)), .int .u32 (W (s 5)), .int .u32 (W (s 6)), .int .u32 (W (s 7))]) (.int .i64 6)).run Try.prog w = .ok (.int .u32 (W (s 6))) w := by kernel_rfl
  have i7 : (Instr.index 104 (.agg #[.int .u32 (W (s 0)), .int .u32 (W (s 1)), .int .u32 (W (s 2)), .int .u32 (W (s 3)), .int .u32 (W (s 4)), .int .u32 (W (s 5)), .int .u32 (W (s 6)), .int .u32 (W (s 7))]) (.int .i64 7)).run Try.prog w = .ok (.int .u32 (W (s 7))) w := by kernel_rfl
  have h : k = 0 ∨ k = 1 ∨ k = 2 ∨ k = 3 ∨ k = 4 ∨ k = 5 ∨ k = 6 ∨ k = 7 := by omega
  rcases h with rfl | rfl | rfl | rfl | rfl | rfl | rfl | rfl
  · exact i0
  · exact i1
  · exact i2
  · exact i3
  · exact i4
  · exact i5
  · exact i6
  · exact i7
theorem row_four (k : Nat) (f : Nat → UInt8) : row (4 * (k + 1)) f = row (4 * k) f ++ [f (4 * k), f (4 * k + 1), f (4 * k + 2), f (4 * k + 3)] := by
  rw [show 4 * (k + 1) = 4 * k + 1 + 1 + 1 + 1 from by omega, ← row_snocD, ← row_snocD, ← row_snocD, ← row_snocD]
  simp
theorem dgB_four (s : Nat → BitVec 32) (k : Nat) : [dgB s (4 * k), dgB s (4 * k + 1), dgB s (4 * k + 2), dgB s (4 * k + 3)] = [lo8 (s k >>> 24), lo8 (s k >>> 16), lo8 (s k >>> 8), lo8 (s k)] := by
  unfold dgB
  rw [show 4 * k / 4 = k from by omega, show (4 * k + 1) / 4 = k from by omega, show (4 * k + 2) / 4 = k from by omega, show (4 * k + 3) / 4 = k from by omega,
    show 24 - 8 * (4 * k % 4) = 24 from by omega, show 24 - 8 * ((4 * k + 1) % 4) = 16 from by omega, show 24 - 8 * ((4 * k + 2) % 4) = 8 from by omega, show 24 - 8 * ((4 * k + 3) % 4) = 0 from by omega]
  simp
theorem Gr.undrew {w w' : World} (h : Gr w.drew w') : Below w.heap.size w w' := by
  obtain ⟨a, b, c, d, e⟩ := h
  exact ⟨a, b, c, d, e⟩
/-- nothing old turns but block g -/
def UpdX (g : Nat) (w w' : World) : Prop := w.os = w'.os ∧ w.tape = w'.tape ∧ w.output = w'.output ∧ w.heap.size ≤ w'.heap.size ∧ ∀ k, k < w.heap.size → k ≠ g → w'.heap[k]? = w.heap[k]?
theorem UpdX.refl (g : Nat) (w : World) : UpdX g w w := ⟨rfl, rfl, rfl, Nat.le_refl _, fun _ _ _ => rfl⟩
theorem UpdX.trans {g : Nat} {x y z : World} (h1 : UpdX g x y) (h2 : UpdX g y z) : UpdX g x z :=
  ⟨h1.1.trans h2.1, h1.2.1.trans h2.2.1, h1.2.2.1.trans h2.2.2.1, Nat.le_trans h1.2.2.2.1 h2.2.2.2.1, fun k hk hs => (h2.2.2.2.2 k (Nat.lt_of_lt_of_le hk h1.2.2.2.1) hs).trans (h1.2.2.2.2 k hk hs)⟩
theorem UpdX.own {g : Nat} {w W W' : World} {row : Option Nat} (h : UpdX g w W) (hg : W.grownBy W' row) (hr : ∀ r, row = some r → w.heap.size ≤ r) : UpdX g w W' :=
  ⟨h.1.trans hg.os.symm, h.2.1.trans hg.tape.symm, h.2.2.1.trans hg.output.symm, Nat.le_trans h.2.2.2.1 hg.size, fun k hk hx => (hg.block k (Nat.lt_of_lt_of_le hk h.2.2.2.1) (fun e => by have := hr k e.symm; omega)).trans (h.2.2.2.2 k hk hx)⟩
theorem UpdX.below {g B : Nat} {w w' : World} (h : Below B w w') (hB : w.heap.size ≤ B) : UpdX g w w' := by
  obtain ⟨h1, h2, h3, h4, h5⟩ := h
  exact ⟨h1.symm, h2.symm, h3.symm, h4, fun k hk _ => h5 k (by omega)⟩
theorem UpdX.keeps {g B n : Nat} {t : TypeId} {f : Nat → BitVec 32} {w w' : World} (h : UpdX g w w') (hA : Ar w g t n f) : KeepsFrom B w w' :=
  ⟨h.2.2.2.1, fun k o _ hk hc => (h.2.2.2.2 k (Array.getElem?_eq_some_iff.mp hk).1 (fun e => by
    subst e
    unfold Ar at hA
    rw [hA] at hk
    injection hk with hk
    subst hk
    cases hc)).trans hk⟩
theorem done_below {g : Nat} {w w6 W wr : World} (h1 : Below g w w6) (h2 : UpdX g w6 W) (h3 : Below W.heap.size W wr) (hg : g ≤ w6.heap.size) : Below g w wr := by
  obtain ⟨a1, a2, a3, a4, a5⟩ := h1
  obtain ⟨b1, b2, b3, b4, b5⟩ := h2
  obtain ⟨c1, c2, c3, c4, c5⟩ := h3
  exact ⟨c1.trans (b1.symm.trans a1), c2.trans (b2.symm.trans a2), c3.trans (b3.symm.trans a3), by omega, fun k hk => (c5 k (by omega)).trans ((b5 k (by omega) (by omega)).trans (a5 k hk))⟩
theorem UpdX.store (g : Nat) (w : World) (o : Nat) (vs : List Value) : UpdX g w (w.setCells g o vs) := by
  obtain ⟨-, h2, h3, h4, h5⟩ := setCells_other (b := g) (k := g + 1) (by omega) vs o w
  exact ⟨h3.symm, h4.symm, h5.symm, by omega, fun k hk hx => (setCells_other hx vs o w).1⟩
set_option maxHeartbeats 8000000 in
set_option maxRecDepth 20000 in
theorem of_any (A : Option Addr) (n c : Nat) (l : List UInt8) (hl : Hid (l.length = n)) (hn : n ≤ 100000) (w : World) (h : Hid (Rd w w.heap.size A l)) :
    Calls Try.prog 44 #[.slice A n c] w fun e w' => e = .returned (.string (bs (dg l))) ∧ Gr w w' := by
  refine (callsIn_wide (n := 8)).1 ?_
  refine callsIn_of_wp_marks Try.func44 rfl trivial ?_ rfl
  simp only [Try.ntmps44, List.size_toArray, List.length_cons, List.length_nil, Nat.reduceAdd, Nat.reduceSub, Array.replicate_succ, Array.replicate_zero, List.push_toArray, List.append_toArray, List.nil_append, List.cons_append]
  refine wpIn_wide.2 ?_
  have hA1 : Ar (w.alloc (.cells (wcells 8 h0F).toArray 104)) w.heap.size 104 8 h0F := Ar.new w _ _ _
  have hq1 : Below w.heap.size w (w.alloc (.cells (wcells 8 h0F).toArray 104)) := (Below.refl _ w).alloc (Nat.le_refl _) _
  go_upto_region 2 with (fail)
  rw [show (#[.int .u32 1779033703, .int .u32 3144134277, .int .u32 1013904242, .int .u32 2773480762, .int .u32 1359893119, .int .u32 2600822924, .int .u32 528734635, .int .u32 1541459225] : Array Value) = (wcells 8 h0F).toArray from by kernel_rfl]
  obtain ⟨w1, hw1⟩ : ∃ x, w.alloc (.cells (wcells 8 h0F).toArray 104) = x := ⟨_, rfl⟩
  have s1 : w1.heap.size = w.heap.size + 1 := by rw [← hw1]; simp
  rw [hw1] at hA1 hq1 ⊢
  replace hw1 := Lib.hid hw1
  replace hA1 := Lib.hid hA1
  replace hq1 := Lib.hid hq1
  replace s1 := Lib.hid s1
  refine wp_region_lit ?_
  refine wpList_plain rfl fun K hK => ?_
  go_simp
  refine (roundNumbers_any _).mono ?_
  rintro e w2 ⟨rfl, hr⟩
  refine hK _ _ ?_
  clear hK K
  have s2 : w.heap.size + 1 ≤ w2.heap.size := by have := Below.size hr; rw [← s1.out]; exact this
  replace hA1 := Lib.hid (hA1.out.below hr hA1.out.lt)
  replace hq1 := Lib.hid (hq1.out.trans (Below.mono hr hq1.out.size))
  clear hr
  refine wpList_plain rfl fun K hK => ?_
  go_simp
  refine hK _ _ ?_
  clear hK K
  rw [show (#[.int .u32 0, .int .u32 0, .int .u32 0, .int .u32 0, .int .u32 0, .int .u32 0, .int .u32 0, .int .u32 0, .int .u32 0, .int .u32 0, .int .u32 0, .int .u32 0, .int .u32 0, .int .u32 0, .int .u32 0, .int .u32 0, .int .u32 0, .int .u32 0, .int .u32 0, .int .u32 0, .int .u32 0, .int .u32 0, .int .u32 0, .int .u32 0, .int .u32 0, .int .u32 0, .int .u32 0, .int .u32 0, .int .u32 0, .int .u32 0, .int .u32 0, .int .u32 0, .int .u32 0, .int .u32 0, .int .u32 0, .int .u32 0, .int .u32 0, .int .u32 0, .int .u32 0, .int .u32 0, .int .u32 0, .int .u32 0, .int .u32 0, .int .u32 0, .int .u32 0, .int .u32 0, .int .u32 0, .int .u32 0, .int .u32 0, .int .u32 0, .int .u32 0, .int .u32 0, .int .u32 0, .int .u32 0, .int .u32 0, .int .u32 0, .int .u32 0, .int .u32 0, .int .u32 0, .int .u32 0, .int .u32 0, .int .u32 0, .int .u32 0, .int .u32 0] : Array Value) = (wcells 64 (fun _ => 0)).toArray from rfl]
  obtain ⟨g4, hg4⟩ : ∃ x, w2.heap.size = x := ⟨_, rfl⟩
  have hZ4 : Ar (w2.alloc (.cells (wcells 64 (fun _ => 0)).toArray 105)) g4 105 64 (fun _ => 0) := by rw [← hg4]; exact Ar.new w2 _ _ _
  have hth : Hid ((w2.alloc (.cells (wcells 64 (fun _ => 0)).toArray 105)).there g4 0 64) := Lib.hid (there_of hZ4 (by simp [wcells_length]))
  have hA4 := Ar.of_store (n := 64) (f := kF) hZ4 (by simp [wcells_length])
  have hq4 := below_setCells (b := g4) (hq1.out.alloc hq1.out.size (.cells (wcells 64 (fun _ => 0)).toArray 105)) (by omega) 0 (wcells 64 kF)
  have hA14 := (hA1.out.alloc (.cells (wcells 64 (fun _ => 0)).toArray 105)).other (setCells_other (b := g4) (k := w.heap.size) (by omega) (wcells 64 kF) 0 _).1
  have s4 : ((w2.alloc (.cells (wcells 64 (fun _ => 0)).toArray 105)).setCells g4 0 (wcells 64 kF)).heap.size = g4 + 1 := by rw [(setCells_other (b := g4) (k := w.heap.size) (by omega) (wcells 64 kF) 0 _).2.1, ← hg4]; simp
  rw [hg4]
  obtain ⟨w3, hw3⟩ : ∃ x, w2.alloc (.cells (wcells 64 (fun _ => 0)).toArray 105) = x := ⟨_, rfl⟩
  rw [hw3] at hA4 hq4 hA14 hth s4 ⊢
  obtain ⟨w4, hw4⟩ : ∃ x, w3.setCells g4 0 (wcells 64 kF) = x := ⟨_, rfl⟩
  rw [hw4] at hA4 hq4 hA14 s4
  replace hw3 := Lib.hid hw3
  replace hw4 := Lib.hid hw4
  replace hA4 := Lib.hid hA4
  replace hq4 := Lib.hid hq4
  replace hA14 := Lib.hid hA14
  replace s4 := Lib.hid s4
  have s2' : w.heap.size + 1 ≤ g4 := by omega
  replace hg4 := Lib.hid hg4
  clear hZ4 hA1 hq1 s2
  have h1 : Hid ((wcells 64 kF).toArray.all (·.oneCell') = true) := Lib.hid (all_oneCell_toArray (wcells_one 64 kF))
  have h2 : Hid ((wcells 64 kF).toArray.size = 64) := Lib.hid (by rw [List.size_toArray, wcells_length])
  have h3 : Hid ((wcells 64 kF).toArray.toList = wcells 64 kF) := Lib.hid rfl
  generalize hcs : (wcells 64 kF).toArray = cs at h1 h2 h3 ⊢
  replace hcs := Lib.hid hcs
  refine wpList_store_mid rfl 105 (.tmp 4) (.tmp 10) rfl g4 0 cs rfl rfl (by rw [h2.out]; exact hth.out) (by rw [h2.out]; exact info_k) h1.out ?_
  rw [h3.out, hw4.out]
  refine wpList_nil ?_
  simp only [Act.put, List.setIfInBounds_toArray, List.set_cons_zero, List.set_cons_succ]
  clear hth hw4
  have hme := Lib.hid (message_any A n c l hl hn w4 (h.out.up hq4.out |> Lib.hid))
  go_wp2_with fail
  refine hme.out.mono ?_
  rintro e w5 ⟨Am, cm, rfl, hob, hr⟩
  clear hme
  replace hA4 := Lib.hid (hA4.out.below hr hA4.out.lt)
  replace hA14 := Lib.hid (hA14.out.below hr hA14.out.lt)
  have s5 : w4.heap.size ≤ w5.heap.size := Below.size hr
  rw [s4.out] at s5
  replace hq4 := Lib.hid (hq4.out.trans (Below.mono hr hq4.out.size))
  clear hr
  have hml : Hid ((msg l).length = allN n) := Lib.hid (by rw [msg_length, hl.out])
  have hal : Hid (64 * (allN n / 64) = allN n ∧ 64 ≤ allN n ∧ allN n ≤ 100100) := Lib.hid (by unfold allN; omega)
  obtain ⟨A2, c2, e2, k1, k2, hrd, hge⟩ := hob.out.form
  obtain ⟨b, o, rfl, hb5, hcell⟩ := rd_flatD hrd (by rw [hml.out]; have := hal.out; omega)
  injection e2 with e21 _ e23
  subst e21
  subst e23
  rw [hml.out] at k1
  generalize hmm : msg l = ml at hml hcell
  replace hmm := Lib.hid hmm
  have hbg : w4.heap.size ≤ b := hge _ rfl
  rw [s4.out] at hbg
  clear hob hrd hge
  generalize hall : allN n = al at hml hal k1 ⊢
  replace hall := Lib.hid hall
  have hch := Lib.hid (chunk_anyD (some ⟨b, o, none⟩) al cm 64 (by decide) w5)
  replace hcell := Lib.hid hcell
  go_wp2_with fail
  refine hch.out.mono ?_
  rintro e w6 ⟨rfl, hw6⟩
  clear hch
  have hbb : Below w5.heap.size w5 w6 := by rw [hw6]; exact ((Below.refl _ w5).alloc (Nat.le_refl _) _).alloc (by simp) _
  have s6 : w6.heap.size = w5.heap.size + 2 := by rw [hw6]; simp
  have hBs : w6.cell? ⟨w5.heap.size, 0, none⟩ = some (.slice (some ⟨b, o, none⟩) al cm) := by
    rw [hw6]
    exact ((((Below.refl _ (w5.alloc (.cells #[.slice (some ⟨b, o, none⟩) al cm] 22))).alloc (Nat.le_refl _) (.cells #[.int .i64 64] 3))).cell (p := ⟨w5.heap.size, 0, none⟩) (by simp)).trans (blk_cell (heap_alloc_new w5 _) rfl)
  have hBn : w6.cell? ⟨w5.heap.size + 1, 0, none⟩ = some (.int .i64 64) := by
    rw [hw6]
    have h1 := blk_cell (j := 0) (v := .int .i64 64) (heap_alloc_new (w5.alloc (.cells #[.slice (some ⟨b, o, none⟩) al cm] 22)) (.cells #[.int .i64 64] 3)) rfl
    rw [World.size_alloc] at h1
    exact h1
  clear hw6
  replace hA4 := Lib.hid (hA4.out.below hbb hA4.out.lt)
  replace hA14 := Lib.hid (hA14.out.below hbb hA14.out.lt)
  replace hq4 := Lib.hid (hq4.out.trans (Below.mono hbb hq4.out.size))
  have hcell6 : Hid (∀ (j : Nat) (u : UInt8), ml[j]? = some u → w6.cell? ⟨b, o + j, none⟩ = some (.int .u8 (U u))) := Lib.hid (fun j u hu => (hbb.cell (p := ⟨b, o + j, none⟩) hb5).trans (hcell.out j u hu))
  clear hcell
  generalize hg5 : w5.heap.size = g5 at hb5 s6 hBs hBn s5 ⊢
  replace hbb := Lib.hid hbb
  replace hBs := Lib.hid hBs
  replace hBn := Lib.hid hBn
  replace hg5 := Lib.hid hg5
  replace s6 := Lib.hid s6
  go_wp2_with fail
  have hgl : w.heap.size < w6.heap.size := by rw [s6.out]; omega
  generalize hg : w.heap.size = g at hA14 hq4 s2' hgl ⊢
  replace hg := Lib.hid hg
  have hk8 : al / 64 * 64 = al := by have := hal.out; omega
  have hk9 : al + 64 ≤ 1000000000000 := by have := hal.out; omega
  refine (wpIn_wide (n := 8)).1 ?_
  refine wpIn_rangeFunc_ownG rfl (by omega) (gf := 91) (lb := #[.pointer (some ⟨g5, 0, none⟩), .pointer (some ⟨g5 + 1, 0, none⟩)]) rfl trivial (enters_of Try.func91 (by kernel_rfl) rfl)
    (chunkX_stops Fence.wide (8 - 1) trivial rfl (by omega) g5 (g5 + 1) w6.heap.size g b o cm (al / 64) 64 (by decide) al hk8 hk9 k1 k2 w6 (by rw [s6.out]; omega) (by rw [s6.out]; omega) (by omega) (by omega) (Nat.le_refl _) hBs.out hBn.out) KpX.trans (fun W l o o' hl _ _ _ => KpX.putObj W l o' hl) (Below.refl _ _) (fun _ => rfl)
    (fun (pre : List (Fin (al / 64))) W => Ar W g 104 8 (foB ml pre) ∧ UpdX g w6 W)
    (fun _ _ _ => False)
    (fun s W W' row hs hg9 hr => ⟨hs.1.own hg9 hr, hs.2.own hg9 (fun r e => (hr r e).1)⟩)
    (fun _ _ _ _ _ hs _ _ => hs)
    ⟨hA14.out, UpdX.refl _ _⟩
    (fun x => { tmps := #[.slice A n c, undef, .string { data := #[] }, .pointer (some { block := g, off := 0 }), .pointer (some { block := g4, off := 0 }), .slice (some ⟨b, o + x.1 * 64, none⟩) 64 64, undef, undef, undef, .agg (wcells 8 h0F).toArray, .agg cs, .slice A n c, .slice (some { block := b, off := o }) al cm, .func (Fn.func 91) #[] #[.pointer (some { block := g5, off := 0 }), .pointer (some { block := g5 + 1, off := 0 })], .slice (some ⟨b, o + x.1 * 64, none⟩) 64 64, undef, undef, undef, undef, undef, undef, undef, undef, undef, undef, undef, undef, undef, undef, undef, undef, undef, undef, undef, undef, undef, undef, undef, undef, undef], defers := [] }) ?assign ?body ?done ?stop
  case assign =>
    intro l x W K hK
    gi_wp2
    exact hK
  case body =>
    rintro lr pre x W ⟨hA, hU⟩ hlt
    obtain ⟨s, hs⟩ : ∃ s, foB ml pre = s := ⟨_, rfl⟩
    rw [hs] at hA
    have hx64 : x.1 * 64 + 64 ≤ ml.length := by have := x.2; have := hml.out; omega
    have hRd : Hid (Rd W.drew W.drew.heap.size (some ⟨b, o + x.1 * 64, none⟩) (row 64 (blkB ml x.1))) := Lib.hid (rd_partD (m := 64) (k := x.1) (l := ml) (show b < W.heap.size by have := hU.2.2.2.1; have := s6.out; omega) (fun j u hu => (World.cell?_of_block (a := ⟨b, o + j, none⟩) (hU.2.2.2.2 b (by rw [s6.out]; omega) (by omega))).trans (hcell6.out j u hu)) hx64)
    have hAd : Hid (Ar W.drew g 104 8 s) := Lib.hid (hA.other rfl)
    have hA4W : Ar W g4 105 64 kF := hA4.out.other (hU.2.2.2.2 g4 (by rw [s6.out]; omega) (by omega))
    refine wpIn_block ?_
    have hsc := Lib.hid (schedule_any (blkB ml x.1) _ 64 (row 64 (blkB ml x.1)) (Lib.hid rfl) (Nat.le_refl _) _ hRd)
    obtain ⟨f, hf⟩ : ∃ f, wd (blkB ml x.1) = f := ⟨_, rfl⟩
    rw [hf] at hsc
    replace hf := Lib.hid hf
    replace hs := Lib.hid hs
    refine wpR_regionIn (fun ⟨_, _, h⟩ => h) Gr 4 (by kernel_rfl) (by kernel_rfl) ?_
    refine wpR_take (i := 0) (v := ?_) (Gr.road) (some 15) rfl (by kernel_rfl) (by kernel_rfl) (by kernel_rfl) (by kernel_rfl) (by kernel_rfl) (fun _ _ _ h => h) (by kernel_rfl) (fun w' hw' => ?_) ?_
    rotate_left
    · have hr9 := hAd.out.below hw' hAd.out.lt; have c0 := hr9.at (i := 0) (by decide); have c1 := hr9.at (i := 1) (by decide); have c2 := hr9.at (i := 2) (by decide); have c3 := hr9.at (i := 3) (by decide); have c4 := hr9.at (i := 4) (by decide); have c5 := hr9.at (i := 5) (by decide); have c6 := hr9.at (i := 6) (by decide); have c7 := hr9.at (i := 7) (by decide); clear hr9; go_simp; with_reducible rfl
    simp only [Act.put, List.setIfInBounds_toArray, List.set_cons_zero, List.set_cons_succ]
    refine wpR_take (i := 1) (v := ?_) (Gr.road) (some 16) rfl (by kernel_rfl) (by kernel_rfl) (by kernel_rfl) (by kernel_rfl) (by kernel_rfl) (fun _ _ _ h => h) (by kernel_rfl) (fun w' hw' => ?_) ?_
    rotate_left
    · go_simp; with_reducible rfl
    simp only [Act.put, List.setIfInBounds_toArray, List.set_cons_zero, List.set_cons_succ]
    refine wpR_one 2 rfl (by kernel_rfl) (by kernel_rfl) (fun K hK => ?_)
    go_simp
    refine hsc.out.mono ?_
    rintro e w7 ⟨rfl, hr7⟩
    refine hK _ _ (fun _ => hr7) ?_
    clear hK K
    clear hsc
    have hA7 := Lib.hid (hAd.out.below hr7 hAd.out.lt)
    have hA47 := Lib.hid ((show Ar W.drew g4 105 64 kF from hA4W.other rfl).below hr7 (show g4 < W.drew.heap.size from hA4W.lt))
    replace hr7 := Lib.hid hr7
    try simp only [Act.put, List.setIfInBounds_toArray, List.set_cons_zero, List.set_cons_succ]
    refine wpR_one 3 rfl (by kernel_rfl) (by kernel_rfl) (fun K hK => ?_)
    go_simp
    rw [show (#[.int .u32 (Go.Proofs.Ytdgkcgiknfjpjaa.W (s 0)), .int .u32 (Go.Proofs.Ytdgkcgiknfjpjaa.W (s 1)), .int .u32 (Go.Proofs.Ytdgkcgiknfjpjaa.W (s 2)), .int .u32 (Go.Proofs.Ytdgkcgiknfjpjaa.W (s 3)), .int .u32 (Go.Proofs.Ytdgkcgiknfjpjaa.W (s 4)), .int .u32 (Go.Proofs.Ytdgkcgiknfjpjaa.W (s 5)), .int .u32 (Go.Proofs.Ytdgkcgiknfjpjaa.W (s 6)), .int .u32 (Go.Proofs.Ytdgkcgiknfjpjaa.W (s 7))] : Array Value) = (wcells 8 s).toArray from rfl]
    refine (addBlock_any s f g4 _ hA47).mono ?_
    rintro e w8 ⟨rfl, hr8⟩
    refine hK _ _ (fun _ => hr8) ?_
    clear hK K
    have hA8 := Lib.hid (hA7.out.below hr8 hA7.out.lt)
    have hr78 := Lib.hid (hr7.out.trans hr8)
    clear hr8 hA47 hA7 hr7
    have hlen : (wcells 8 (blkS s f)).length = 8 := wcells_length _ _
    have hone := wcells_one 8 (blkS s f)
    have hth : w8.there g 0 8 := there_of hA8.out (by simp [wcells_length])
    have hAn := Lib.hid (Ar.of_store (n := 8) (f := blkS s f) hA8.out (by simp [wcells_length]))
    obtain ⟨Lc, hLc⟩ : ∃ x, wcells 8 (blkS s f) = x := ⟨_, rfl⟩
    rw [hLc] at hlen hone hAn ⊢
    replace hLc := Lib.hid hLc
    replace hlen := Lib.hid hlen
    have h1c := Lib.hid (all_oneCell_toArray hone)
    replace hth := Lib.hid hth
    clear hone
    try simp only [Act.put, List.setIfInBounds_toArray, List.set_cons_zero, List.set_cons_succ]
    refine wpR_one 4 rfl (by kernel_rfl) (by kernel_rfl) (fun K hK => ?_)
    refine wp_store_mid 104 (.tmp 3) (.tmp 18) rfl g 0 Lc.toArray rfl rfl (by rw [List.size_toArray, hlen.out]; exact hth.out) (by rw [List.size_toArray, hlen.out]; exact info_s) h1c.out ?_
    refine hK _ _ (fun h => absurd h (by decide)) ?_
    clear hK K
    try simp only [Act.put, List.setIfInBounds_toArray, List.set_cons_zero, List.set_cons_succ]
    refine wpR_done (by kernel_rfl) ?_ _
    have hst : UpdX g W (w8.setCells g 0 Lc) := (UpdX.below (Gr.undrew hr78.out) (Nat.le_refl _)).trans (UpdX.store g w8 0 Lc)
    refine ⟨hst.keeps hA, ⟨hst.2.2.2.1, fun k hk hx => hst.2.2.2.2 k (Nat.lt_of_lt_of_le hk hU.2.2.2.1) hx⟩, ?_, hU.trans hst⟩
    rw [foB_snoc, hs.out, hf.out]
    exact hAn.out
  case done =>
    rintro D ys W hD rfl ⟨hA, hU⟩ hK
    rw [foB_all] at hA
    obtain ⟨s, hs⟩ : ∃ s, stB ml (al / 64) = s := ⟨_, rfl⟩
    rw [hs] at hA
    replace hs := Lib.hid hs
    have c0 := hA.at (i := 0) (by decide)
    have c1 := hA.at (i := 1) (by decide)
    have c2 := hA.at (i := 2) (by decide)
    have c3 := hA.at (i := 3) (by decide)
    have c4 := hA.at (i := 4) (by decide)
    have c5 := hA.at (i := 5) (by decide)
    have c6 := hA.at (i := 6) (by decide)
    have c7 := hA.at (i := 7) (by decide)
    replace hA := Lib.hid hA
    replace hU := Lib.hid hU
    have hDl : D < W.heap.size := (Array.getElem?_eq_some_iff.mp hK).1
    replace hK := Lib.hid hK
    go_wp2_with fail
    clear c0 c1 c2 c3 c4 c5 c6 c7
    go_loopw [6, 20] (fun v i wr => ∃ (k : Nat) (A4 : Option Addr) (c4 : Nat), k ≤ 8 ∧ v = .slice A4 (4 * k) c4 ∧ i = .int .i64 k ∧ Hid (OB wr W.heap.size (.slice A4 (4 * k) c4) (row (4 * k) (dgB s))) ∧ Hid (Below W.heap.size W wr)) (fun _ i _ => (8 - intOf i).toNat)
    case atStart => exact ⟨0, none, 0, by omega, rfl, rfl, Lib.hid (OB.nil_ _ _), Lib.hid (Below.refl _ _)⟩
    case round =>
      obtain ⟨k, A4, c4, hk, rfl, rfl, ho, hq⟩ := hrel
      by_cases hlt : k < 8
      · have i8 : (k : Int) < 8 := by omega
        have hix := idx8 s k hlt
        obtain ⟨y, hy⟩ : ∃ y, s k = y := ⟨_, rfl⟩
        rw [hy] at hix
        have hfour := Lib.hid (dgB_four s k)
        have hrow := Lib.hid (row_four k (dgB s))
        rw [hy] at hfour
        replace hy := Lib.hid hy
        have hlit := Lib.hid (Rd.lit wr #[.int .u8 (U (lo8 (y >>> 24))), .int .u8 (U (lo8 (y >>> 16))), .int .u8 (U (lo8 (y >>> 8))), .int .u8 (U (lo8 y))] 5 [lo8 (y >>> 24), lo8 (y >>> 16), lo8 (y >>> 8), lo8 y] rfl ((wr.alloc (.cells #[.int .u8 (U (lo8 (y >>> 24))), .int .u8 (U (lo8 (y >>> 16))), .int .u8 (U (lo8 (y >>> 8))), .int .u8 (U (lo8 y))] 5)).heap.size) (by simp))
        have ho7 := Lib.hid (ho.out.alloc (.cells #[.int .u8 (U (lo8 (y >>> 24))), .int .u8 (U (lo8 (y >>> 16))), .int .u8 (U (lo8 (y >>> 8))), .int .u8 (U (lo8 y))] 5))
        have hq7 := Lib.hid (hq.out.alloc hq.out.size (.cells #[.int .u8 (U (lo8 (y >>> 24))), .int .u8 (U (lo8 (y >>> 16))), .int .u8 (U (lo8 (y >>> 8))), .int .u8 (U (lo8 y))] 5))
        have hbd : Hid ((row (4 * k) (dgB s)).length + 4 ≤ 140737488355328) := Lib.hid (by rw [row_length]; omega)
        have hrl := Lib.hid (row_length (4 * k) (dgB s))
        generalize hrr : row (4 * k) (dgB s) = rr at ho ho7 hrow hbd hrl
        replace hrr := Lib.hid hrr
        go_wp2_with (at_builtin; go_must (refine wpl_append rfl (.tmp 23) (.tmp 35) rfl W.heap.size (.slice A4 (4 * k) c4) rr rfl ho7.out _ _ 4 [lo8 (y >>> 24), lo8 (y >>> 16), lo8 (y >>> 8), lo8 y] rfl hlit.out hbd.out hq7.out.size ?_); intro v8 w8 ho8 hg8 _; have hq8 := Lib.hid (below_rowD ho7.out hq7.out hq7.out.size hg8); rw [← hfour.out, ← hrow.out] at ho8; obtain ⟨A8, c8, rfl, -, -, -, -⟩ := ho8.form; rw [row_length] at ho8 ⊢; replace ho8 := Lib.hid ho8; clear hg8)
        go_roundw
        case rel => first | exact ⟨k + 1, A8, c8, by omega, rfl, by go_num, ho8, hq8⟩ | ((repeat apply Exists.intro); exact ⟨⟨k + 1, A8, c8, by omega, rfl, by go_num, ho8, hq8⟩, rfl⟩)
        case measure => simp [intOf]; omega
      · obtain rfl : k = 8 := by omega
        have i8 : decide (((8 : Nat) : Int) < 8) = false := by decide
        have hK9 : wr.heap[D]? = some (.deferred (some [])) := (hq.out.block D hDl).trans hK.out
        have hb9 : Below g w wr := done_below hq4.out hU.out hq.out (Nat.le_of_lt hgl)
        have hst := (OB.rd ho.out).1
        have hstr := run_str_at c4 hst (row_length _ _)
        clear hst hK hU hq hq4
        replace hK9 := Lib.hid hK9
        replace hb9 := Lib.hid hb9
        have hDr : D < wr.heap.size := (Array.getElem?_eq_some_iff.mp hK9.out).1
        go_wp2_with fail
        refine ⟨by simp, .inl ⟨_, _, rfl, run_takeDeferred hK9.out, ?_⟩⟩
        have hdg : bs (row 32 (dgB s)) = bs (dg l) := by unfold dg; rw [hl.out, hall.out, hmm.out, hs.out]
        rw [hdg]
        refine ⟨_, results_tmp rfl _ _ _, rfl, ?_⟩
        show Below w.heap.size w _
        rw [hg.out]
        exact hb9.out.grown (grownBy_putObj' wr D _) (Nat.le_trans (Nat.le_of_lt hgl) (by omega)) (fun k e => by cases e; omega)
  case stop =>
    rintro D c pre W _ _ h _
    exact h.elim
end Go.Proofs.Ytdgkcgiknfjpjaa
