/- scan: counting's value; the greatest Gen. -/
import Derived.RangeFuncNested
import Derived.RangeFuncBound
import Derived.RangeFuncCalls
import Derived.RangeFuncWrites
import Derived.RangeFuncLeaves
import Derived.Shelf.Abstract
import Derived.Shelf.RegionOpen
import Derived.WalkKit
import Derived.OwnWalkIn
import Derived.TacticsInMore
import Derived.LoopNIn
import Derived.LoopIn
import Derived.Test.YtiliggleplpjbaaSc3
namespace Go.Proofs.Ytiliggleplpjbaa
set_option linter.unusedVariables false
set_option linter.unusedSimpArgs false
open Go Go.RowKit Go.Maps Go.Shelf Go.Proofs
attribute [local go_sem] Oper.semAt_some
theorem counting_any (A : Option Addr) (m c : Nat) (w : World) : Calls Try.prog 40 #[.slice A m c] w fun e w' => e = .returned (.func (.func 54) #[] #[.pointer (some ⟨w.heap.size, 0, none⟩)]) ∧ w' = w.alloc (.cells #[.slice A m c] 22) := by
  go_enter Try.func40, Try.ntmps40
  go_wp2
  go_ret
  exact ⟨rfl, rfl⟩
theorem counting_stops (n : Nat) (hn : 2 ≤ n) (Bl m c : Nat) (A : Option Addr) (E : List Fe) (w w1 : World) (hE : Hid (FsV E (.slice A m c) w)) (hok : Hid (∀ x ∈ E, x.f.r.Ok)) (hg : Gr w w1) (hBl : w1.cell? ⟨Bl, 0, none⟩ = some (.slice A m c)) (hlt : Bl < w1.heap.size) :
    SeqStopsK Fence.wide n Try.prog 54 #[.pointer (some ⟨Bl, 0, none⟩)] (fun x : Ct E => #[x.1.agg]) (Below w.heap.size) (fun ys => ys.map (·.1) = ctE E) (fun pre => pre.map (·.1) <+: ctE E) (E.length + 1) w1 :=
  fun l J Jx W hW hJ hJx hY h0 => counting1_in n hn l Bl m c A E w hE hok _ J Jx hJ hY W (hg.trans hW) ((cellGr hW (a := ⟨Bl, 0, none⟩) hlt).trans hBl) h0
theorem cells_own (B : Nat) (cs : Array Value) (T : TypeId) {W W' : World} {row : Option Nat} (h : W.heap[B]? = some (.cells cs T (0, 0))) (hg : W.grownBy W' row) (hr : ∀ r, row = some r → ∃ o : Obj, W.heap[r]? = some o ∧ o.isCells = false) : W'.heap[B]? = some (.cells cs T (0, 0)) :=
  (hg.block B (Array.getElem?_eq_some_iff.mp h).1 (fun e => by
    obtain ⟨o, ho, hc⟩ := hr B e.symm
    rw [h] at ho
    injection ho with ho
    subst ho
    cases hc)).trans h
/-- the finds that count -/
def cF (E : List Fe) : List Fd := (ctE E).map (·.f)
def cP {E : List Fe} (pre : List (Ct E)) : List Fd := pre.map (fun x => x.1.f)
theorem cP_all {E : List Fe} {ys : List (Ct E)} (h : ys.map (·.1) = ctE E) : cP ys = cF E := by
  unfold cP cF; rw [← h, List.map_map]; rfl
theorem cP_snoc {E : List Fe} (pre : List (Ct E)) (x : Ct E) : cP (pre ++ [x]) = cP pre ++ [x.1.f] := by unfold cP; rw [List.map_append]; rfl
theorem cF_cnt {E : List Fe} : ∀ f ∈ cF E, cnt f = true := fun f hf => by
  unfold cF ctE at hf
  obtain ⟨x, hx, rfl⟩ := List.mem_map.mp hf
  exact (List.mem_filter.mp hx).2
theorem cP_cnt {E : List Fe} (pre : List (Ct E)) : ∀ f ∈ cP pre, cnt f = true := fun f hf => by
  unfold cP at hf
  obtain ⟨x, hx, rfl⟩ := List.mem_map.mp hf
  exact x.2.2
theorem cnt_good {f : Fd} (h : cnt f = true) : goodB f.r = true := ((cnt_iff f).mp h).2.2
theorem cP_most {E : List Fe} (pre : List (Ct E)) : mostG (cP pre) ≤ 1099511627776 := foldG_le _ 0 _ (by omega) (fun f hf => (good_gen (cnt_good (cP_cnt pre f hf))).2)
/-- the loop variable lies in its own block -/
def AxF (lo T : Nat) (mk : Nat → Fe → Act) (x : Fe) (a' : Act) (W : World) : Prop := ∃ Bx, lo < Bx ∧ W.heap[Bx]? = some (.cells x.cells.toArray T (0, 0)) ∧ a' = mk Bx x
theorem AxF.own {lo T B : Nat} {mk : Nat → Fe → Act} {x : Fe} {a' : Act} : OwnFrom B (fun (_ : Unit) W => AxF lo T mk x a' W) := fun _ W W' row h hg hr => by
  obtain ⟨Bx, h1, h2, h3⟩ := h
  exact ⟨Bx, h1, cells_own _ _ _ h2 hg (fun r e => (hr r e).2), h3⟩
set_option maxRecDepth 100000 in
set_option maxHeartbeats 4000000 in
theorem greatest_any (E : List Fe) (v : Value) (w : World) (hE : FsV E v w) (hok : Hid (∀ x ∈ E, x.f.r.Ok)) : Calls Try.prog 26 #[v] w fun e w' => e = .returned (.int .i64 (mostG (cF E))) ∧ Gr w w' := by
  have hE0 := hE
  obtain ⟨A, c, rfl, -, -, -, -⟩ := hE0
  obtain ⟨m, hm⟩ : ∃ m, E.length = m := ⟨_, rfl⟩
  rw [hm] at hE ⊢
  replace hE := Lib.hid hE
  have hb : Boxed (w.alloc (.cells #[.int .i64 0] 3)) w.heap.size 3 (.int .i64 0) := Boxed.new w _ _
  refine (callsIn_wide (n := 8)).1 ?_
  refine callsIn_of_wp_marks Try.func26 rfl trivial ?_ rfl
  simp only [Try.ntmps26, List.size_toArray, List.length_cons, List.length_nil, Nat.reduceAdd, Nat.reduceSub, Array.replicate_succ, Array.replicate_zero, List.push_toArray, List.append_toArray, List.nil_append, List.cons_append]
  gi_wp2_with (refine ⟨trivial, (callsIn_wide.2 (counting_any _ _ _ _)).mono ?_⟩; rintro e w' ⟨rfl, rfl⟩)
  have hbl : ((w.alloc (.cells #[.int .i64 0] 3)).alloc (.cells #[.slice A m c] 22)).heap[w.heap.size + 1]? = some (.cells #[.slice A m c] 22 (0, 0)) := by
    have := heap_alloc_new (w.alloc (.cells #[.int .i64 0] 3)) (.cells #[.slice A m c] 22)
    rwa [World.size_alloc] at this
  have hbi := hb.alloc (.cells #[.slice A m c] 22)
  have hgg : Gr w ((w.alloc (.cells #[.int .i64 0] 3)).alloc (.cells #[.slice A m c] 22)) := (Gr.alloc _ _).trans (Gr.alloc _ _)
  have hsz : ((w.alloc (.cells #[.int .i64 0] 3)).alloc (.cells #[.slice A m c] 22)).heap.size = w.heap.size + 2 := by simp
  obtain ⟨W0, hW0⟩ : ∃ W0, (w.alloc (.cells #[.int .i64 0] 3)).alloc (.cells #[.slice A m c] 22) = W0 := ⟨_, rfl⟩
  try simp only [World.size_alloc]
  rw [hW0] at hbl hbi hgg hsz ⊢
  clear hW0 hb
  refine wpIn_rangeFunc_ownH rfl (by omega) (gf := 54) (lb := #[.pointer (some ⟨w.heap.size + 1, 0, none⟩)]) rfl trivial (enters_of Try.func54 (by kernel_rfl) rfl)
    (counting_stops (8 - 1) (by omega) (w.heap.size + 1) m c A E w W0 hE hok hgg (blk_cell (j := 0) hbl rfl) (by omega)) belowK_t (belowK_b (by omega)) (Below.refl _ _) (fun _ => rfl)
    (fun (pre : List (Ct E)) W => Boxed W w.heap.size 3 (.int .i64 (mostG (cP pre))) ∧ Below w.heap.size w W)
    (fun _ _ _ => False)
    (OwnFrom.and (Own.from (boxed_own _ _ _) _) (ownFrom_below (Nat.le_refl _) (by omega)))
    (fun _ _ _ _ _ hs _ _ => hs)
    ⟨hbi, hgg⟩
    (fun x a' W => AxF w.heap.size 39 (fun Bx x => { tmps := #[.slice A m c, undef, .int .i64 0, .pointer (some ⟨w.heap.size, 0, none⟩), .pointer (some ⟨Bx, 0, none⟩), .slice A m c, .func (.func 54) #[] #[.pointer (some ⟨w.heap.size + 1, 0, none⟩)], x.agg, undef, undef, undef, undef, undef, undef], defers := [] }) x.1 a' W)
    (fun x a' => AxF.own)
    ?assign ?body ?done ?stop
  case assign =>
    rintro l pre ⟨⟨⟨ct, ps, r⟩, fA, fc⟩, hxE, hxc⟩ W K ⟨hI1, hI2⟩ hK
    dsimp only [Fe.agg]
    gi_wp2
    exact hK _ _ ((KeepsOthers.alloc _ _).from _) ((Below.refl _ W).alloc hI2.size _) ⟨hI1.alloc _, hI2.alloc hI2.size _⟩ ⟨W.heap.size, hI1.lt, heap_alloc_new W _, rfl⟩
  case body =>
    rintro l pre ⟨⟨⟨ct, ps, r⟩, fA, fc⟩, hxE, hxc⟩ a' W hl hr ⟨hI1, hI2⟩ ⟨Bx, hB1, hB2, rfl⟩ hlt
    have c0 := hI1.cell
    have f0 := hI1.frozen
    have g5 := blk_cell (j := 5) (v := .int .i64 r.gen) hB2 rfl
    have e9 : mostG (cP (pre ++ [⟨⟨⟨ct, ps, r⟩, fA, fc⟩, hxE, hxc⟩])) = max (mostG (cP pre)) r.gen := by rw [cP_snoc]; exact mostG_snoc _ _
    dsimp only [Fe.agg]
    gi_wp2
    · have e8 : max (mostG (cP pre)) r.gen = r.gen := by omega
      exact ⟨(KeepsOthers.setCell _ _ _).from _, (Below.refl _ W).setCell (p := ⟨w.heap.size, 0, none⟩) (Nat.le_refl _) _, by rw [e9, e8]; exact hI1.set _, hI2.setCell (p := ⟨w.heap.size, 0, none⟩) (Nat.le_refl _) _⟩
    · have e8 : max (mostG (cP pre)) r.gen = mostG (cP pre) := by omega
      exact ⟨(KeepsOthers.setCell _ _ _).from _, (Below.refl _ W).setCell (p := ⟨w.heap.size, 0, none⟩) (Nat.le_refl _) _, by rw [e9, e8]; exact hI1.set _, hI2.setCell (p := ⟨w.heap.size, 0, none⟩) (Nat.le_refl _) _⟩
  case done =>
    rintro D ys W hD hS ⟨hI1, hI2⟩ hK
    have c0 := hI1.cell
    gi_wp2
    refine ⟨by simp, .inl ⟨_, _, rfl, run_takeDeferred hK, ?_⟩⟩
    exact ⟨_, results_tmp rfl _ _ _, by rw [cP_all hS]; rfl, hI2.trans (belowK_b (w := w) (Nat.le_refl _) W D _ _ (by omega) hK rfl rfl)⟩
  case stop =>
    rintro D c pre W _ _ h _
    exact h.elim
end Go.Proofs.Ytiliggleplpjbaa
