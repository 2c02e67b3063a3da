/- hold: the cache in memory; New, missing, Used; the ring's way round, find, first. -/
import Derived.RangeFuncWrites
import Derived.RangeFuncNested
import Derived.RangeFuncCalls
import Derived.RangeFuncLeaves
import Derived.Shelf.Abstract
import Derived.WalkKit
import Derived.OwnWalkIn
import Derived.TacticsInMore
import Derived.LoopNIn
import Derived.LoopIn
import Derived.Test.YthhggojpmilmdaaHo1
import Derived.Test.YthhggojpmilmdaaRegIn
namespace Go.Proofs.Ythhggojpmilmdaa
set_option linter.unusedVariables false
set_option linter.unusedSimpArgs false
open Go Go.RowKit Go.Shelf
attribute [local go_sem] Oper.semAt_some
/-- block g is a cache: its root is block r, its quota q, its pairs L, the least recently used first -/
structure Hd (w : World) (lo g r q : Nat) (L : List Nd) : Prop where
  blk : w.heap[g]? = some (.cells #[.pointer (some ⟨r, 0, none⟩), .int .i64 q, .int .i64 (sumD L)] 52 (0, 0))
  lg : lo ≤ g
  ring : ∃ nx bf, Nds w nx bf ((r, [], .slice none 0 0) :: L.map (fun e => (e.1, e.2.1, e.2.2.1))) ∧ Linked nx bf (r :: L.map Prod.fst ++ [r])
  nd : (r :: L.map Prod.fst).Nodup
  lr : lo ≤ r
  ls : ∀ e ∈ L, lo ≤ e.1
  rows : ∀ e ∈ L, OB w lo e.2.2.1 e.2.2.2
  dist : DistN L
  le : sumD L ≤ q
  lq : q ≤ 32768
theorem Hd.keep {w w' : World} {lo g r q lo' : Nat} {L : List Nd} {ts : List TypeId} (h : Hd w lo g r q L) (hc : TChg lo' ts w w') (h1 : 52 ∉ ts) (h2 : 60 ∉ ts) (h3 : 5 ∉ ts) : Hd w' lo g r q L where
  blk := hc.block h.blk h1
  lg := h.lg
  ring := by
    obtain ⟨nx, bf, hn, hl⟩ := h.ring
    exact ⟨nx, bf, fun e he => hc.block (hn e he) h2, hl⟩
  nd := h.nd
  lr := h.lr
  ls := h.ls
  rows e he := row_tchg (h.rows e he) hc h3
  dist := h.dist
  le := h.le
  lq := h.lq
theorem Hd.gr {w w' : World} {lo g r q : Nat} {L : List Nd} (hb : GrM w w') (h : Hid (Hd w lo g r q L)) : Hid (Hd w' lo g r q L) := Lib.hid (h.out.keep (lo' := 0) (ts := []) (TChg.of_below hb) (by simp) (by simp) (by simp))
theorem Hd.lt {w : World} {lo g r q : Nat} {L : List Nd} (h : Hd w lo g r q L) : g < w.heap.size ∧ r < w.heap.size ∧ ∀ e ∈ L, e.1 < w.heap.size := by
  obtain ⟨nx, bf, hn, hl⟩ := h.ring
  exact ⟨blk_lt h.blk, blk_lt (hn (r, [], .slice none 0 0) (by simp)), fun e he => blk_lt (hn (e.1, e.2.1, e.2.2.1) (by simp only [List.mem_cons, List.mem_map]; exact .inr ⟨e, he, rfl⟩))⟩
set_option maxRecDepth 10000 in
theorem newRing_any (w : World) : Calls Try.prog 22 #[] w fun e w' => e = .returned (.agg #[.pointer (some ⟨w.heap.size + 1, 0, none⟩)]) ∧ GrM w w' ∧
    w'.heap[w.heap.size + 1]? = some (.cells (prC [] (.slice none 0 0) (w.heap.size + 1) (w.heap.size + 1)) 60 (0, 0)) := by
  go_enter Try.func22, Try.ntmps22
  go_wp2_with fail
  have hb : (((w.alloc (.cells #[.pointer (some ⟨w.heap.size + 1, 0, none⟩)] 49)).alloc (.cells (prC [] (.slice none 0 0) (w.heap.size + 1) (w.heap.size + 1)) 60))).heap[w.heap.size]? = some (.cells #[.pointer (some ⟨w.heap.size + 1, 0, none⟩)] 49 (0, 0)) := blk_alloc (World.alloc_heap_new w _) _
  have hc := blk_cell (j := 0) hb rfl
  refine bodyPost_ret (v := .agg #[.pointer (some ⟨w.heap.size + 1, 0, none⟩)]) (by simp [results, Try.f22, go_sem, hc]) rfl ?_
  refine ⟨rfl, (GrM.alloc _ _).trans (GrM.alloc _ _), ?_⟩
  have := World.alloc_heap_new (w.alloc (.cells #[.pointer (some ⟨w.heap.size + 1, 0, none⟩)] 49)) (.cells (prC [] (.slice none 0 0) (w.heap.size + 1) (w.heap.size + 1)) 60)
  rw [World.size_alloc] at this
  exact this
def quotaOf (q : Int) : Nat := (min (max q 0) 32768).toNat
theorem new_hd {w w1 : World} {q : Int} (x : Int) (hx : x = ((quotaOf q : Nat) : Int)) (hg1 : GrM w w1) (hb1 : w1.heap[w.heap.size + 1]? = some (.cells (prC [] (.slice none 0 0) (w.heap.size + 1) (w.heap.size + 1)) 60 (0, 0))) :
    Hid (Hd (w1.alloc (.cells #[.pointer (some ⟨w.heap.size + 1, 0, none⟩), .int .i64 x, .int .i64 0] 52)) w.heap.size w1.heap.size (w.heap.size + 1) (quotaOf q) []) ∧ GrM w (w1.alloc (.cells #[.pointer (some ⟨w.heap.size + 1, 0, none⟩), .int .i64 x, .int .i64 0] 52)) := by
  subst hx
  refine ⟨Lib.hid ?_, hg1.trans (GrM.alloc _ _)⟩
  exact {
    blk := World.alloc_heap_new w1 _
    lg := hg1.size
    ring := ⟨fun _ => w.heap.size + 1, fun _ => w.heap.size + 1, fun e he => by
      simp only [List.map_nil, List.mem_singleton] at he
      subst he
      exact blk_alloc hb1 _, rfl, rfl, trivial⟩
    nd := by simp
    lr := Nat.le_succ _
    ls := fun e h => by cases h
    rows := fun e h => by cases h
    dist := List.Pairwise.nil
    le := Nat.zero_le _
    lq := by unfold quotaOf; omega }
set_option maxRecDepth 10000 in
theorem new17_any (q : Int) (w : World) : Calls Try.prog 8 #[.int .i64 q] w fun e w' => ∃ g r, e = .returned (.pointer (some ⟨g, 0, none⟩)) ∧ Hid (Hd w' w.heap.size g r (quotaOf q) []) ∧ GrM w w' := by
  go_enter Try.func8, Try.ntmps8
  go_wp2_with (go_at_call 22; go_must (refine (newRing_any w).mono ?_); rintro e w1 ⟨rfl, hg1, hb1⟩)
  all_goals
    go_ret
    exact ⟨_, rfl, ⟨_, (new_hd (q := q) _ (by unfold quotaOf; omega) hg1 hb1).1⟩, (new_hd (q := q) _ (by unfold quotaOf; omega) hg1 hb1).2⟩
set_option maxRecDepth 10000 in
theorem missing_any (lo g r q : Nat) (L : List Nd) (w : World) (h : Hid (Hd w lo g r q L)) : Calls Try.prog 23 #[.pointer (some ⟨g, 0, none⟩)] w fun e w' => e = .returned (.bool false) ∧ w' = w := by
  have c0 := blk_cell (j := 0) h.out.blk rfl
  clear h
  go_enter Try.func23, Try.ntmps23
  go_wp2_with fail
  go_ret
  exact ⟨rfl, rfl⟩
set_option maxRecDepth 10000 in
theorem missing_nil (w : World) : Calls Try.prog 23 #[.pointer none] w fun e w' => e = .returned (.bool true) ∧ w' = w := by
  go_enter Try.func23, Try.ntmps23
  go_wp2_with fail
  go_ret
  exact ⟨rfl, rfl⟩
set_option maxRecDepth 10000 in
theorem used_any (lo g r q : Nat) (L : List Nd) (w : World) (h : Hid (Hd w lo g r q L)) : Calls Try.prog 16 #[.pointer (some ⟨g, 0, none⟩)] w fun e w' => e = .returned (.int .i64 (sumD L)) ∧ w' = w := by
  have c2 := blk_cell (j := 2) h.out.blk rfl
  clear h
  go_enter Try.func16, Try.ntmps16
  go_wp2_with fail
  go_ret
  exact ⟨rfl, rfl⟩
set_option maxRecDepth 10000 in
theorem used_nil (w : World) : Calls Try.prog 16 #[.pointer none] w fun e w' => e = .returned (.int .i64 0) ∧ w' = w := by
  go_enter Try.func16, Try.ntmps16
  go_wp2_with fail
  go_ret
  exact ⟨rfl, rfl⟩
end Go.Proofs.Ythhggojpmilmdaa
