/- slices.Collect of slices.Chunk: the chunks of bytes, as a table. -/
import Derived.Test.YtpeilgeloaogfaaChunk
namespace Go.Proofs.Ytpeilgeloaogfaa
set_option linter.unusedVariables false
open Go Go.RowKit Go.Shelf
attribute [local go_sem] Oper.semAt_some
def chunkV (b off m : Nat) (x : Nat) : Value := .slice (some ⟨b, off + x * m, none⟩) m m
theorem chunk_stops (F : Fence) (n : Nat) (h7 : F.fn 120) (hro : F.round = none) (hn : 1 ≤ n) (Bs Bn n₀ b off cap q m : Nat) (hm : 1 ≤ m) (Q : Nat) (hQ : q * m = Q) (hreach : Q + m ≤ 1000000000000) (hcap : Q ≤ cap) (hcm : cap ≤ maxLen)
    (w : World) (hs : Bs < n₀) (hn0 : Bn < n₀) (hnw : n₀ ≤ w.heap.size) (hBs : w.cell? ⟨Bs, 0, none⟩ = some (.slice (some ⟨b, off, none⟩) Q cap)) (hBn : w.cell? ⟨Bn, 0, none⟩ = some (.int .i64 m)) :
    SeqStopsK F n Try.prog 120 #[.pointer (some ⟨Bs, 0, none⟩), .pointer (some ⟨Bn, 0, none⟩)] (fun x : Fin q => #[.slice (some ⟨b, off + x.1 * m, none⟩) m m]) (Below n₀) (fun ys => ys = List.finRange q) (fun _ => True) q w := fun l J Jx W hW hJ _ hY h0 =>
  chunk1_in F n h7 hro hn l Bs Bn n₀ b off cap q m hm Q (Lib.hid hQ) hreach hcap hcm J Jx W hJ hY hs hn0 ((hW.cell (p := ⟨Bs, 0, none⟩) (by show Bs < _; omega)).trans hBs) ((hW.cell (p := ⟨Bn, 0, none⟩) (by show Bn < _; omega)).trans hBn) h0
theorem infoBB : (Try.prog.info? 29).map (fun i => (i.zero, i.size, i.bytes)) = some (some (.slice none 0 0), 1, 24) := info_b8
set_option maxRecDepth 100000 in
set_option maxHeartbeats 4000000 in
theorem appendSeq_in (F : Fence) (n : Nat) (h3 : F.fn 119) (h5 : F.fn 120) (hro : F.round = none) (hn : 3 ≤ n) (Bs Bn b off cap q m : Nat) (hm : 1 ≤ m) (Q : Nat) (hQ : q * m = Q) (hreach : Q + m ≤ 1000000) (hcap : Q ≤ cap) (hcm : cap ≤ maxLen)
    (w : World) (hs : Bs < w.heap.size) (hn0 : Bn < w.heap.size) (hBs : w.cell? ⟨Bs, 0, none⟩ = some (.slice (some ⟨b, off, none⟩) Q cap)) (hBn : w.cell? ⟨Bn, 0, none⟩ = some (.int .i64 m)) :
    CallsIn F n Try.prog 119 #[.slice none 0 0, .func (.func 120) #[] #[.pointer (some ⟨Bs, 0, none⟩), .pointer (some ⟨Bn, 0, none⟩)]] w fun e W' => ∃ v, e = .returned v ∧ W'.ownsRow w.heap.size 29 1 v q ((List.finRange q).map (fun x => Value.slice (some ⟨b, off + x.1 * m, none⟩) m m)) ∧ Below w.heap.size w W' := by
  have h1 : 1 ≤ n := by omega
  have hq : q ≤ 1000000 := by
    have := Nat.le_mul_of_pos_right q hm
    omega
  obtain ⟨i0, hi, hz0, hz1, hz2⟩ := info_parts infoBB
  refine callsIn_of_wp_marks Try.func119 rfl h3 ?_ hro
  simp only [Try.ntmps119, List.size_toArray, List.length_cons, List.length_nil, Nat.reduceAdd, Nat.reduceSub, Array.replicate_succ, Array.replicate_zero, List.push_toArray, List.append_toArray, List.nil_append, List.cons_append]
  gi_wp2
  have bO := Boxed.new w 22 (.slice none 0 0)
  have hB0 : Below w.heap.size w (w.alloc (.cells #[.slice none 0 0] 22)) := (Below.refl _ w).alloc (Nat.le_refl _) _
  refine wpIn_rangeFunc_ownG hro h1 (gf := 120) (lb := #[.pointer (some ⟨Bs, 0, none⟩), .pointer (some ⟨Bn, 0, none⟩)]) rfl h5 (enters_of Try.func120 (by kernel_rfl) rfl)
    (chunk_stops F (n - 1) h5 hro (by omega) Bs Bn w.heap.size b off cap q m hm Q hQ (by omega) hcap hcm _ hs hn0 (by simp) ((hB0.cell (p := ⟨Bs, 0, none⟩) hs).trans hBs) ((hB0.cell (p := ⟨Bn, 0, none⟩) hn0).trans hBn)) belowK_t (belowK_b (by simp)) (Below.refl _ _) (fun _ => rfl)
    (fun (pre : List (Fin q)) W => (∃ v, Boxed W w.heap.size 22 v ∧ W.ownsRow w.heap.size 29 1 v pre.length (pre.map (fun x : Fin q => Value.slice (some ⟨b, off + x.1 * m, none⟩) m m)) ∧ True) ∧ Below w.heap.size w W)
    (fun _ _ _ => False)
    (OwnFrom.and (Own.from (holdsRow_own w.heap.size w.heap.size 22 29 1 (fun (pre : List (Fin q)) => pre.length) (fun (pre : List (Fin q)) => pre.map (fun x : Fin q => Value.slice (some ⟨b, off + x.1 * m, none⟩) m m)) (fun _ _ => True)) _) (ownFrom_below (Nat.le_refl _) (by simp)))
    (fun _ _ _ _ _ hs _ _ => hs)
    ⟨⟨_, bO, World.ownsRow_nil _ _ _ _, trivial⟩, hB0⟩
    (fun x => { tmps := #[.slice none 0 0, .func (.func 120) #[] #[.pointer (some ⟨Bs, 0, none⟩), .pointer (some ⟨Bn, 0, none⟩)], .pointer (some ⟨w.heap.size, 0, none⟩), undef, .slice none 0 0, Value.slice (some ⟨b, off + x.1 * m, none⟩) m m, .func (.func 120) #[] #[.pointer (some ⟨Bs, 0, none⟩), .pointer (some ⟨Bn, 0, none⟩)], Value.slice (some ⟨b, off + x.1 * m, none⟩) m m, undef, undef, undef, undef, undef], defers := [] }) ?assign ?body ?done ?stop
  case assign =>
    intro l x W K hK
    gi_wp2
    exact hK
  case body =>
    rintro l pre x W ⟨⟨v, hv, hrow, -⟩, hB⟩ hlt
    have hc := hv.cell
    have hb0 : w.heap.size ≤ (W.alloc (.cells #[.slice (some ⟨b, off + x.1 * m, none⟩) m m] 29)).heap.size := by have := hB.size; simp; omega
    gi_wp2_with (gi_at_builtin; refine wpListIn_append_own _ rfl _ _ 22 rfl w.heap.size 29 i0 (.slice none 0 0) 1 24 Try.underlying22 hi hz0 hz1 hz2 rfl (by decide) _ _ _ rfl (hrow.alloc _) ⟨W.heap.size, 0, none⟩ 1 1 [.slice (some ⟨b, off + x.1 * m, none⟩) m m] rfl rfl (cell_one_new _ _ _) (by simp [Value.oneCell']) (by simp only [maxLen]; omega) (by omega) hb0 ?_; intro v' w1 hown' hgrow _; obtain ⟨g', cap', rfl⟩ := ownsRow_succ hown'; obtain ⟨hv1, hv2, hr2, hk2, hb2⟩ := hv.appended (by decide) hrow hB.size (Nat.le_refl _) hown' hgrow; have hc1 := hv1.cell; have hf1 := hv1.frozen)
    exact ⟨hk2.from _, hb2, ⟨_, hv2, by simpa using hr2, trivial⟩, hB.trans hb2⟩
  case done =>
    rintro D ys W hD rfl ⟨⟨v, hv, hrow, -⟩, hB⟩ hK
    have hc := hv.cell
    gi_wp2
    refine ⟨by simp, .inl ⟨_, _, rfl, run_takeDeferred hK, ?_⟩⟩
    exact ⟨_, results_tmp rfl _ _ _, v, rfl, by rw [List.length_finRange] at hrow; exact ownsRow_putObj hrow _ hK rfl, hB.trans (belowK_b (w := w) (Nat.le_refl _) W D _ _ (by simp at hD; omega) hK rfl rfl)⟩
  case stop =>
    rintro D c pre W _ _ h _
    exact h.elim
end Go.Proofs.Ytpeilgeloaogfaa
