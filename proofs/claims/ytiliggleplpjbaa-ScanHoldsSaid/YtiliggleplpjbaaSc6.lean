/- scan: the last tombs. -/
import Derived.RangeFuncNested
import Derived.RangeFuncBound
import Derived.RangeFuncCalls
import Derived.RangeFuncWrites
import Derived.RangeFuncLeaves
import Derived.Shelf.Abstract
import Derived.Shelf.RegionOpen
import Derived.WalkKit
import Derived.OwnWalkIn
import Derived.TacticsInMore
import Derived.LoopNIn
import Derived.LoopIn
import Derived.Maps.OwnIn
import Derived.Test.YtiliggleplpjbaaSc4
import Derived.Test.YtiliggleplpjbaaSc5
namespace Go.Proofs.Ytiliggleplpjbaa
set_option linter.unusedVariables false
set_option linter.unusedSimpArgs false
open Go Go.RowKit Go.Maps Go.Shelf Go.Proofs
attribute [local go_sem] Oper.semAt_some
/-- T is the greatest Gen of each key's tombs among C -/
structure TombOk (C : List Fd) (T : List (By × Int)) : Prop where
  dist : DistP T
  has : ∀ k, hasP T k = C.any (fun f => decide (f.r.kind = 3) && (f.r.key == k))
  get : ∀ k, ∀ f ∈ C, f.r.kind = 3 → f.r.key = k → f.r.gen ≤ getP T k 0
  is : ∀ k, getP T k 0 = 0 ∨ ∃ f ∈ C, f.r.kind = 3 ∧ f.r.key = k ∧ f.r.gen = getP T k 0
theorem TombOk.nil_ : TombOk [] [] := ⟨List.Pairwise.nil, (fun _ => rfl), (fun _ f hf => by cases hf), (fun _ => .inl rfl)⟩
theorem TombOk.no {C : List Fd} {T : List (By × Int)} (h : TombOk C T) {f : Fd} (hk : f.r.kind ≠ 3) : TombOk (C ++ [f]) T where
  dist := h.dist
  has k := by rw [h.has, List.any_append]; simp [hk]
  get k g hg h3 hkk := by
    rcases List.mem_append.mp hg with hg | hg
    · exact h.get k g hg h3 hkk
    · rw [List.mem_singleton] at hg; subst hg; exact absurd h3 hk
  is k := (h.is k).imp id (fun ⟨g, hg, h1⟩ => ⟨g, List.mem_append.mpr (.inl hg), h1⟩)
theorem TombOk.yes {C : List Fd} {T : List (By × Int)} (h : TombOk C T) {f : Fd} (hk : f.r.kind = 3) : TombOk (C ++ [f]) (delP T f.r.key ++ [(f.r.key, max (getP T f.r.key 0) f.r.gen)]) where
  dist := h.dist.put _ _
  has k := by rw [hasP_put, h.has, List.any_append]; simp [hk]
  get k g hg h3 hkk := by
    rw [getP_put]
    by_cases e : f.r.key = k
    · rw [if_pos (by simpa using e)]
      rcases List.mem_append.mp hg with hg | hg
      · have := h.get k g hg h3 hkk
        rw [e]; omega
      · rw [List.mem_singleton] at hg; subst hg; omega
    · rw [if_neg (by simpa using e)]
      rcases List.mem_append.mp hg with hg | hg
      · exact h.get k g hg h3 hkk
      · rw [List.mem_singleton] at hg; subst hg; exact absurd hkk e
  is k := by
    rw [getP_put]
    by_cases e : f.r.key = k
    · rw [if_pos (by simpa using e)]
      by_cases hm : getP T f.r.key 0 ≤ f.r.gen
      · exact .inr ⟨f, by simp, hk, e, by omega⟩
      · rcases h.is k with h0 | ⟨g, hg, h1, h2, h3⟩
        · rw [e] at hm ⊢; exact .inl (by omega)
        · exact .inr ⟨g, List.mem_append.mpr (.inl hg), h1, h2, by rw [e] at hm ⊢; omega⟩
    · rw [if_neg (by simpa using e)]
      exact (h.is k).imp id (fun ⟨g, hg, h1⟩ => ⟨g, List.mem_append.mpr (.inl hg), h1⟩)
theorem TombOk.dead {C : List Fd} {T : List (By × Int)} (h : TombOk C T) (hC : ∀ f ∈ C, cnt f = true) (v : Vr) : (hasP T v.key && decide (v.gen ≤ getP T v.key 0)) = deadB C v := by
  rw [Bool.eq_iff_iff, Bool.and_eq_true, decide_eq_true_iff, h.has, List.any_eq_true]
  unfold deadB
  rw [List.any_eq_true]
  constructor
  · rintro ⟨⟨f, hf, hfk⟩, hg⟩
    simp at hfk
    rcases h.is v.key with h0 | ⟨g, hgm, h1, h2, h3⟩
    · exact ⟨f, hf, by simp [hfk]; have := (good_gen (cnt_good (hC f hf))).1; omega⟩
    · exact ⟨g, hgm, by simp [h1, h2]; omega⟩
  · rintro ⟨f, hf, hfk⟩
    simp at hfk
    obtain ⟨⟨h1, h2⟩, h3⟩ := hfk
    exact ⟨⟨f, hf, by simp [h1, h2]⟩, by have := h.get v.key f hf h1 h2; omega⟩
def iv (z : Int) : Value := .int .i64 z
set_option maxRecDepth 100000 in
set_option maxHeartbeats 4000000 in
theorem tombs_any (E : List Fe) (v : Value) (w : World) (hE : FsV E v w) (hok : Hid (∀ x ∈ E, x.f.r.Ok)) (hlen : E.length ≤ 1000) : Calls Try.prog 18 #[v] w fun e w' => ∃ b T, e = .returned (.map (some b)) ∧ w.heap.size ≤ b ∧ TombOk (cF E) T ∧ MapB w' 9 KS b (E.length + 1) (mapV iv T) ∧ Gr w w' := by
  have hE0 := hE
  obtain ⟨A, c, rfl, -, -, -, -⟩ := hE0
  obtain ⟨m, hm⟩ : ∃ m, E.length = m := ⟨_, rfl⟩
  rw [hm] at hE ⊢
  replace hE := Lib.hid hE
  have hmm := @run_makeMap Try.prog
  refine (callsIn_wide (n := 8)).1 ?_
  refine callsIn_of_wp_marks Try.func18 rfl trivial ?_ rfl
  simp only [Try.ntmps18, List.size_toArray, List.length_cons, List.length_nil, Nat.reduceAdd, Nat.reduceSub, Array.replicate_succ, Array.replicate_zero, List.push_toArray, List.append_toArray, List.nil_append, List.cons_append]
  gi_wp2_with (refine ⟨trivial, (callsIn_wide.2 (counting_any _ _ _ _)).mono ?_⟩; rintro e w' ⟨rfl, rfl⟩)
  have hm0 : MapB (w.alloc (.map #[] 0)) 9 KS w.heap.size 0 (mapV iv ([] : List (By × Int))) := MapB.made w _ _
  have hb : Boxed ((w.alloc (.map #[] 0)).alloc (.cells #[.map (some w.heap.size)] 53)) (w.heap.size + 1) 53 (.map (some w.heap.size)) := by
    have := Boxed.new (w.alloc (.map #[] 0)) 53 (.map (some w.heap.size))
    rwa [World.size_alloc] at this
  have hbl : (((w.alloc (.map #[] 0)).alloc (.cells #[.map (some w.heap.size)] 53)).alloc (.cells #[.slice A m c] 22)).heap[w.heap.size + 1 + 1]? = some (.cells #[.slice A m c] 22 (0, 0)) := by
    have := heap_alloc_new ((w.alloc (.map #[] 0)).alloc (.cells #[.map (some w.heap.size)] 53)) (.cells #[.slice A m c] 22)
    rwa [World.size_alloc, World.size_alloc] at this
  have hbi := hb.alloc (.cells #[.slice A m c] 22)
  have hm1 := (hm0.gr (Gr.alloc _ (.cells #[.map (some w.heap.size)] 53))).gr (Gr.alloc _ (.cells #[.slice A m c] 22))
  have hgg : Gr w (((w.alloc (.map #[] 0)).alloc (.cells #[.map (some w.heap.size)] 53)).alloc (.cells #[.slice A m c] 22)) := ((Gr.alloc _ _).trans (Gr.alloc _ _)).trans (Gr.alloc _ _)
  have hsz : (((w.alloc (.map #[] 0)).alloc (.cells #[.map (some w.heap.size)] 53)).alloc (.cells #[.slice A m c] 22)).heap.size = w.heap.size + 3 := by simp
  obtain ⟨W0, hW0⟩ : ∃ W0, ((w.alloc (.map #[] 0)).alloc (.cells #[.map (some w.heap.size)] 53)).alloc (.cells #[.slice A m c] 22) = W0 := ⟨_, rfl⟩
  try simp only [World.size_alloc]
  rw [hW0] at hbl hbi hgg hsz hm1 ⊢
  clear hW0 hb hm0 hmm
  refine wpIn_rangeFunc_ownH rfl (by omega) (gf := 54) (lb := #[.pointer (some ⟨w.heap.size + 1 + 1, 0, none⟩)]) rfl trivial (enters_of Try.func54 (by kernel_rfl) rfl)
    (counting_stops (8 - 1) (by omega) (w.heap.size + 1 + 1) m c A E w W0 hE hok hgg (blk_cell (j := 0) hbl rfl) (by omega)) belowK_t (belowK_b (by omega)) (Below.refl _ _) (fun _ => rfl)
    (fun (pre : List (Ct E)) W => Boxed W (w.heap.size + 1) 53 (.map (some w.heap.size)) ∧ (∃ T, TombOk (cP pre) T ∧ MapB W 9 KS w.heap.size pre.length (mapV iv T)) ∧ Below w.heap.size w W)
    (fun _ _ _ => False)
    (OwnFrom.and (Own.from (boxed_own _ _ _) _) (OwnFrom.and (fun pre W W' row hs hg hr => by
      obtain ⟨T, h1, h2⟩ := hs
      exact ⟨T, h1, h2.kept hg (fun e => by have := (hr _ e.symm).1; omega)⟩) (ownFrom_below (Nat.le_refl _) (by omega))))
    (fun _ _ _ _ _ hs _ _ => hs)
    ⟨hbi, ⟨[], TombOk.nil_, hm1⟩, hgg⟩
    (fun x a' W => AxF (w.heap.size + 1) 39 (fun Bx x => { tmps := #[.slice A m c, undef, .map none, .pointer (some ⟨w.heap.size + 1, 0, none⟩), .pointer (some ⟨Bx, 0, none⟩), .map (some w.heap.size), .slice A m c, .func (.func 54) #[] #[.pointer (some ⟨w.heap.size + 1 + 1, 0, none⟩)], x.agg, undef, undef, undef, undef, undef, undef, undef, undef, undef, undef, undef, undef, undef, undef, undef, undef, undef, undef], defers := [] }) x.1 a' W)
    (fun x a' => AxF.own)
    ?assign ?body ?done ?stop
  case assign =>
    rintro l pre ⟨⟨⟨ct, ps, r⟩, fA, fc⟩, hxE, hxc⟩ W K ⟨hI1, ⟨T, hT1, hT2⟩, hI2⟩ hK
    dsimp only [Fe.agg]
    gi_wp2
    exact hK _ _ ((KeepsOthers.alloc _ _).from _) ((Below.refl _ W).alloc hI2.size _) ⟨hI1.alloc _, ⟨T, hT1, hT2.gr (Gr.alloc _ _)⟩, hI2.alloc hI2.size _⟩ ⟨W.heap.size, hI1.lt, heap_alloc_new W _, rfl⟩
  case body =>
    rintro l pre ⟨⟨⟨ct, ps, r⟩, fA, fc⟩, hxE, hxc⟩ a' W hl hr ⟨hI1, ⟨T, hT1, hT2⟩, hI2⟩ ⟨Bx, hB1, hB2, rfl⟩ hlt
    have c0 := hI1.cell
    have g2 := blk_cell (j := 2) (v := .int .i64 r.kind) hB2 rfl
    have g4 := blk_cell (j := 4) (v := .string (bs r.key)) hB2 rfl
    have g5 := blk_cell (j := 5) (v := .int .i64 r.gen) hB2 rfl
    have e9 := cP_snoc pre ⟨⟨⟨ct, ps, r⟩, fA, fc⟩, hxE, hxc⟩
    have hkl : r.key.length ≤ maxLen := (hok.out _ hxE).key
    by_cases hk : r.kind = 3
    · have hk' : (r.kind == 3) = true := by simpa using hk
      have hlk := hT2.look1 lawS Try.underlying53 zeroI (keyS hkl)
      rw [show (Value.int .i64 0) = iv 0 from rfl, getP_mapV, show iv (getP T r.key 0) = .int .i64 (getP T r.key 0) from rfl] at hlk
      have hst : ∀ z : Int, ∃ w', (Instr.mapUpdate 53 (.map (some w.heap.size)) (.string (bs r.key)) (.int .i64 z)).run Try.prog W = .ok () w' ∧ MapB w' 9 KS w.heap.size (pre.length + 1) (mapV iv (delP T r.key ++ [(r.key, z)])) ∧ W.grownBy w' (some w.heap.size) := fun z => by
        obtain ⟨w', h1, h2, h3⟩ := hT2.store lawS Try.underlying53 (by rw [hm] at hlt; omega) (keyS hkl) (.int .i64 z)
        refine ⟨w', h1, ?_, h3⟩
        rw [mapV_snoc, ← delP_mapV]
        exact h2
      obtain ⟨wa, ha1, ha2, ha3⟩ := hst r.gen
      obtain ⟨wb, hb1, hb2, hb3⟩ := hst (getP T r.key 0)
      clear hst
      have hy := hT1.yes (f := ⟨ct, ps, r⟩) hk
      simp only at hy
      dsimp only [Fe.agg]
      generalize getP T r.key 0 = old at *
      gi_wp2
      · have e8 : max old r.gen = r.gen := by omega
        rw [e8] at hy
        refine ⟨KeepsFrom.of_grownBy ha3 (fun j e => by cases e; omega), (Below.refl _ W).grown ha3 hI2.size (fun k e => by cases e; exact Nat.le_refl _), hI1.kept ha3 (fun e => by injection e with e; omega), ⟨_, by rw [e9]; exact hy, ?_⟩, hI2.grown ha3 hI2.size (fun k e => by cases e; exact Nat.le_refl _)⟩
        rw [List.length_append]
        exact ha2
      · have e8 : max old r.gen = old := by omega
        rw [e8] at hy
        refine ⟨KeepsFrom.of_grownBy hb3 (fun j e => by cases e; omega), (Below.refl _ W).grown hb3 hI2.size (fun k e => by cases e; exact Nat.le_refl _), hI1.kept hb3 (fun e => by injection e with e; omega), ⟨_, by rw [e9]; exact hy, ?_⟩, hI2.grown hb3 hI2.size (fun k e => by cases e; exact Nat.le_refl _)⟩
        rw [List.length_append]
        exact hb2
    · have hk' : (r.kind == 3) = false := by simpa using hk
      dsimp only [Fe.agg]
      gi_wp2
      exact ⟨KeepsFrom.refl _ _, Below.refl _ _, hI1, ⟨T, by rw [e9]; exact hT1.no hk, by rw [List.length_append]; exact hT2.more (Nat.le_succ _)⟩, hI2⟩
  case done =>
    rintro D ys W hD hS ⟨hI1, ⟨T, hT1, hT2⟩, hI2⟩ hK
    have c0 := hI1.cell
    have hle : ys.length ≤ m + 1 := by
      have h1 := congrArg List.length hS
      rw [List.length_map] at h1
      have h2 : (ctE E).length ≤ E.length := List.length_filter_le _ _
      omega
    gi_wp2
    refine ⟨by simp, .inl ⟨_, _, rfl, run_takeDeferred hK, ?_⟩⟩
    refine ⟨_, results_tmp rfl _ _ _, w.heap.size, T, rfl, Nat.le_refl _, by rw [← cP_all hS]; exact hT1, (hT2.kept (grownBy_putObj' W D _) (fun e => by injection e with e; omega)).more hle, hI2.trans (belowK_b (w := w) (Nat.le_refl _) W D _ _ (by omega) hK rfl rfl)⟩
  case stop =>
    rintro D c pre W _ _ h _
    exact h.elim
end Go.Proofs.Ytiliggleplpjbaa
