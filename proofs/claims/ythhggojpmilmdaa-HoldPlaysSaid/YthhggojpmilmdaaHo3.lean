/- hold: the ring's way round; find, first. -/
import Derived.Test.YthhggojpmilmdaaHo2
import Derived.LaidEqlPtr
namespace Go.Proofs.Ythhggojpmilmdaa
set_option linter.unusedVariables false
set_option linter.unusedSimpArgs false
open Go Go.RowKit Go.Shelf
attribute [local go_sem] Oper.semAt_some
/-- below n₀ nothing turns but block gx -/
def KpH (n₀ gx : Nat) (W W' : World) : Prop := W.heap.size ≤ W'.heap.size ∧ ∀ k, k < n₀ → k ≠ gx → W'.heap[k]? = W.heap[k]?
theorem KpH.refl (n₀ gx : Nat) (W : World) : KpH n₀ gx W W := ⟨Nat.le_refl _, fun _ _ _ => rfl⟩
theorem KpH.trans {n₀ gx : Nat} {A B C : World} (h1 : KpH n₀ gx A B) (h2 : KpH n₀ gx B C) : KpH n₀ gx A C := ⟨Nat.le_trans h1.1 h2.1, fun k hk hx => (h2.2 k hk hx).trans (h1.2 k hk hx)⟩
theorem KpH.cell {n₀ gx : Nat} {W W' : World} (h : KpH n₀ gx W W') {p : Addr} (hp : p.block < n₀) (hx : p.block ≠ gx) : W'.cell? p = W.cell? p := World.cell?_of_block (h.2 _ hp hx)
theorem KpH.drew (n₀ gx : Nat) (W : World) : KpH n₀ gx W W.drew := ⟨Nat.le_refl _, fun _ _ _ => rfl⟩
theorem KpH.putObj {n₀ gx : Nat} (W : World) (l : Nat) (o' : Obj) (h : n₀ ≤ l) : KpH n₀ gx W (W.putObj l o') := by
  have hg := grownBy_putObj' W l o'
  exact ⟨hg.size, fun k hk hx => by
    by_cases hlt : k < W.heap.size
    · exact hg.block k hlt (fun e => by injection e; omega)
    · have h2 : (W.putObj l o').heap.size = W.heap.size := by simp [World.putObj]
      rw [Array.getElem?_eq_none (by omega), Array.getElem?_eq_none (by omega)]⟩
theorem finR_succ {q k : Nat} (h : k < q) : (List.finRange q).take (k + 1) = (List.finRange q).take k ++ [⟨k, h⟩] := by
  rw [List.take_add_one, List.getElem?_eq_getElem (by rw [List.length_finRange]; exact h)]
  simp
/-- how many pairs are still to come, told by the pair that the way has come to -/
def leftOf (B : List Nat) (v : Value) : Nat := match v with | .pointer (some a) => B.length - B.idxOf a.block | _ => 0
theorem leftOf_at {B : List Nat} (hn : B.Nodup) {k : Nat} (hk : k < B.length) : leftOf B (.pointer (some ⟨B[k], 0, none⟩)) = B.length - k := by
  unfold leftOf
  dsimp only
  rw [List.Nodup.idxOf_getElem hn]
theorem leftOf_end {B : List Nat} {r : Nat} (h : r ∉ B) : leftOf B (.pointer (some ⟨r, 0, none⟩)) = 0 := by
  unfold leftOf
  dsimp only
  rw [List.idxOf_eq_length h]
  omega
theorem info_pair : ∃ j, Try.prog.info? 60 = some j ∧ j.size ≠ 0 := by
  have h : (Try.prog.info? 60).map (fun i => i.size != 0) = some true := by kernel_rfl
  obtain ⟨i, hi, h2⟩ := Option.map_eq_some_iff.1 h
  exact ⟨i, hi, by simpa using h2⟩
theorem neq_same (w : World) (k : Nat) : (binOp .neq 47 (.pointer (some ⟨k, 0, none⟩)) (.pointer (some ⟨k, 0, none⟩))).run Try.prog w = .ok (.bool false) w := by
  obtain ⟨j, hj, hs⟩ := info_pair
  have h := run_eql_ptr_same (P := Try.prog) w ⟨k, 0, none⟩ Try.underlying47 hj
  simp only [binOp, Sem.run_bind, Sem.run_pure, Result.andThen_ok] at h ⊢
  cases hr : (Op.equal 47 (.pointer (some ⟨k, 0, none⟩)) (.pointer (some ⟨k, 0, none⟩))).run Try.prog w with
  | halt x w' => rw [hr] at h; cases h
  | ok b w' =>
    rw [hr] at h
    simp only [Result.andThen_ok, Result.ok.injEq, Value.bool.injEq] at h ⊢
    obtain ⟨rfl, rfl⟩ := h
    exact ⟨rfl, rfl⟩
theorem neq_other (w : World) {a b : Nat} {ca cb : Array Value} {ta tb : TypeId} (hne : a ≠ b) (ha : w.heap[a]? = some (.cells ca ta (0, 0))) (hb : w.heap[b]? = some (.cells cb tb (0, 0))) : (binOp .neq 47 (.pointer (some ⟨a, 0, none⟩)) (.pointer (some ⟨b, 0, none⟩))).run Try.prog w = .ok (.bool true) w := by
  obtain ⟨j, hj, hs⟩ := info_pair
  have h := run_eql_ptr_other (P := Try.prog) w (a := ⟨a, 0, none⟩) (b := ⟨b, 0, none⟩) Try.underlying47 hj hs (fun e => hne (by injection e)) ha hb
  simp only [binOp, Sem.run_bind, Sem.run_pure, Result.andThen_ok] at h ⊢
  cases hr : (Op.equal 47 (.pointer (some ⟨a, 0, none⟩)) (.pointer (some ⟨b, 0, none⟩))).run Try.prog w with
  | halt x w' => rw [hr] at h; cases h
  | ok b w' =>
    rw [hr] at h
    simp only [Result.andThen_ok, Result.ok.injEq, Value.bool.injEq] at h ⊢
    obtain ⟨rfl, rfl⟩ := h
    exact ⟨rfl, rfl⟩
/-- a pair's block, of which the way asks but what stands behind -/
def NxB (W : World) (nx : Nat → Nat) (k : Nat) : Prop := ∃ s v b, W.heap[k]? = some (.cells #[s, v, b, .pointer (some ⟨nx k, 0, none⟩)] 60 (0, 0))
theorem NxB.kp {W W' : World} {nx : Nat → Nat} {k n₀ gx : Nat} (h : NxB W nx k) (hk : KpH n₀ gx W W') (hl : k < n₀) (hx : k ≠ gx) : NxB W' nx k := by
  obtain ⟨s, v, b, h⟩ := h
  exact ⟨s, v, b, (hk.2 k hl hx).trans h⟩
set_option maxRecDepth 100000 in
set_option maxHeartbeats 4000000 in
theorem all1_in (F : Fence) (n : Nat) (h7 : F.fn 34) (hro : F.round = none) (hn : 1 ≤ n) (l Bn g r n₀ gx : Nat) (B : List Nat) (nx bf : Nat → Nat) (hl : Linked nx bf (r :: B ++ [r])) (hnd : (r :: B).Nodup)
    (J Jx : List (Fin B.length) → World → Prop) (W : World)
    (hY : ∀ pre x W, J pre W → pre.length < B.length → YieldAt F (n - 1) Try.prog l #[.pointer (some ⟨B[x.1]'x.2, 0, none⟩)] W fun e W' =>
      (e = .returned (.bool true) ∧ J (pre ++ [x]) W' ∧ KpH n₀ gx W W') ∨ (e = .returned (.bool false) ∧ Jx (pre ++ [x]) W'))
    (hBl : Bn < n₀) (hBx : Bn ≠ gx) (hgl : g < n₀) (hgx : g ≠ gx) (hkl : ∀ k ∈ r :: B, k < n₀ ∧ k ≠ gx)
    (hBn : W.cell? ⟨Bn, 0, none⟩ = some (.pointer (some ⟨g, 0, none⟩))) (hg : W.cell? ⟨g, 0, none⟩ = some (.pointer (some ⟨r, 0, none⟩))) (hc : ∀ k ∈ r :: B, NxB W nx k) (h0 : J [] W) :
    CallsIn F n Try.prog 34 #[.func (.yield l) #[] #[], .pointer (some ⟨Bn, 0, none⟩)] W fun e W' => (∃ v, e = .returned v) ∧
      ((∃ ys, ys = List.finRange B.length ∧ J ys W') ∨ (∃ pre, pre <+: List.finRange B.length ∧ Jx pre W')) := by
  obtain ⟨sr, vr, br, hbr⟩ := hc r (by simp)
  have hcr := blk_cell (j := 3) hbr rfl
  have hnr := ring_next (nx := nx) (bf := bf) 0 hl (by simp)
  simp only [List.getElem_cons_zero] at hnr
  rw [hnr] at hcr
  refine callsIn_of_wp Try.func34 rfl h7 ?_ hro
  simp only [Try.ntmps34, List.size_toArray, List.length_cons, List.length_nil, Nat.reduceAdd, Nat.reduceSub, Array.replicate_succ, Array.replicate_zero, List.push_toArray, List.append_toArray, List.nil_append, List.cons_append]
  gi_wp2
  gi_loopw [3] (fun p wr => ∃ (k : Nat) (hk : k ≤ B.length), p = .pointer (some ⟨(B ++ [r])[k]'(by simp; omega), 0, none⟩) ∧ J ((List.finRange B.length).take k) wr ∧ KpH n₀ gx W wr)
    (fun p _ => leftOf B p)
  case atStart => exact ⟨0, Nat.zero_le _, rfl, by simpa using h0, KpH.refl _ _ _⟩
  case round =>
    obtain ⟨k, hk, rfl, hJs, hkp⟩ := hrel
    have hcB := (hkp.cell (p := ⟨Bn, 0, none⟩) hBl hBx).trans hBn
    have hcg := (hkp.cell (p := ⟨g, 0, none⟩) hgl hgx).trans hg
    by_cases hlt : k < B.length
    · obtain ⟨fn, tmps, assign, body, hy, hR⟩ := hY _ ⟨k, hlt⟩ wr hJs (by rw [List.length_take, List.length_finRange]; omega)
      dsimp only at hy
      have hbe : (B ++ [r])[k]'(by simp; omega) = B[k] := List.getElem_append_left hlt
      have hmem : B[k] ∈ r :: B := List.mem_cons_of_mem _ (List.getElem_mem hlt)
      have hne : B[k] ≠ r := fun e => (List.nodup_cons.1 hnd).1 (by rw [← e]; exact List.getElem_mem hlt)
      have hnk := ring_next (nx := nx) (bf := bf) (k + 1) hl (by simp; omega)
      simp only [List.getElem_cons_succ] at hnk
      have hlk := hkl _ hmem
      obtain ⟨sk, vk, bk, hbk⟩ := (hc _ hmem).kp hkp hlk.1 hlk.2
      have hbr2 := (hkp.2 r (hkl r (by simp)).1 (hkl r (by simp)).2).trans hbr
      have hneq := neq_other wr hne hbk hbr2
      have hbk2 := hbk
      rw [hnk] at hbk2
      have hck := blk_cell (j := 3) hbk2 rfl
      have hle := leftOf_at (List.nodup_cons.1 hnd).2 hlt
      have hle2 : leftOf B (.pointer (some ⟨(B ++ [r])[k + 1]'(by simp; omega), 0, none⟩)) = B.length - (k + 1) := by
        by_cases h1 : k + 1 < B.length
        · rw [List.getElem_append_left h1]
          exact leftOf_at (List.nodup_cons.1 hnd).2 h1
        · have e1 : (B ++ [r])[k + 1]'(by simp; omega) = r := by
            rw [List.getElem_append_right (by omega)]
            simp
          rw [e1, leftOf_end (List.nodup_cons.1 hnd).1]
          omega
      rw [hbe]
      clear hbk hbr2
      generalize hb : B[k] = b at *
      generalize hb2 : (B ++ [r])[k + 1]'(by simp; omega) = b2 at *
      have htake := Lib.hid (finR_succ hlt)
      replace hb := Lib.hid hb
      replace hb2 := Lib.hid hb2
      replace hne := Lib.hid hne
      gi_wp2
      refine hR.mono ?_
      rintro e W3 (⟨rfl, hJ3, hk3⟩ | ⟨rfl, hJx3⟩)
      · have hck3 := (hk3.cell (p := ⟨b, 3, none⟩) hlk.1 hlk.2).trans hck
        gi_wp2
        go_roundw
        case rel => exact ⟨k + 1, by omega, by rw [hb2.out], by rw [htake.out]; exact hJ3, hkp.trans hk3⟩
        case measure => rw [hle, hle2]; omega
      · gi_wp2
        refine bodyPost_ret (results_none rfl _ _ _) rfl ?_
        refine ⟨⟨_, rfl⟩, .inr ⟨_, ?_, hJx3⟩⟩
        rw [← htake.out]
        exact List.take_prefix _ _
    · have hkl : k = B.length := by omega
      subst hkl
      have hb : (B ++ [r])[B.length]'(by simp) = r := by simp
      rw [hb] at ⊢
      have hall : (List.finRange B.length).take B.length = List.finRange B.length := List.take_of_length_le (by rw [List.length_finRange]; exact Nat.le_refl _)
      rw [hall] at hJs
      have hneq := neq_same wr r
      clear hb
      gi_wp2
      go_end0
      exact ⟨⟨_, rfl⟩, .inl ⟨_, rfl, hJs⟩⟩
theorem all_stops (F : Fence) (n : Nat) (h7 : F.fn 34) (hro : F.round = none) (hn : 1 ≤ n) (Bn g r n₀ gx : Nat) (B : List Nat) (nx bf : Nat → Nat) (hl : Linked nx bf (r :: B ++ [r])) (hnd : (r :: B).Nodup)
    (w : World) (hn0 : n₀ ≤ w.heap.size) (hBl : Bn < n₀) (hBx : Bn ≠ gx) (hgl : g < n₀) (hgx : g ≠ gx) (hkl : ∀ k ∈ r :: B, k < n₀ ∧ k ≠ gx)
    (hBn : w.cell? ⟨Bn, 0, none⟩ = some (.pointer (some ⟨g, 0, none⟩))) (hg : w.cell? ⟨g, 0, none⟩ = some (.pointer (some ⟨r, 0, none⟩))) (hc : ∀ k ∈ r :: B, NxB w nx k) :
    SeqStopsK F n Try.prog 34 #[.pointer (some ⟨Bn, 0, none⟩)] (fun x : Fin B.length => #[.pointer (some ⟨B[x.1]'x.2, 0, none⟩)]) (KpH n₀ gx) (fun ys => ys = List.finRange B.length) (fun pre => pre <+: List.finRange B.length) B.length w := fun l J Jx W hW hJ _ hY h0 =>
  all1_in F n h7 hro hn l Bn g r n₀ gx B nx bf hl hnd J Jx W hY hBl hBx hgl hgx hkl ((hW.cell (p := ⟨Bn, 0, none⟩) (by show Bn < _; omega)).trans hBn) ((hW.cell (p := ⟨g, 0, none⟩) (by show g < _; omega)).trans hg)
    (fun k hk => by obtain ⟨s, v, b, h⟩ := hc k hk; exact ⟨s, v, b, (hW.block k (by have := (hkl k hk).1; omega)).trans h⟩) h0
end Go.Proofs.Ythhggojpmilmdaa
