/- hold: find, first, Keys. -/
import Derived.Test.YthhggojpmilmdaaHo3
namespace Go.Proofs.Ythhggojpmilmdaa
set_option linter.unusedVariables false
set_option linter.unusedSimpArgs false
open Go Go.RowKit Go.Shelf
attribute [local go_sem] Oper.semAt_some
set_option maxRecDepth 10000 in
theorem all_any (g : Nat) (w : World) : Calls Try.prog 33 #[.pointer (some ⟨g, 0, none⟩)] w fun e w' => e = .returned (.func (.func 34) #[] #[.pointer (some ⟨w.heap.size, 0, none⟩)]) ∧ w' = w.alloc (.cells #[.pointer (some ⟨g, 0, none⟩)] 67) := by
  go_enter Try.func33, Try.ntmps33
  go_wp2_with fail
  go_ret
  exact ⟨rfl, rfl⟩
/-- what the way round asks of a cache -/
theorem Hd.way {w : World} {lo g r q : Nat} {L : List Nd} (h : Hd w lo g r q L) : ∃ nx bf, Linked nx bf (r :: L.map Prod.fst ++ [r]) ∧ (∀ k ∈ r :: L.map Prod.fst, NxB w nx k ∧ k < w.heap.size) ∧ w.cell? ⟨g, 0, none⟩ = some (.pointer (some ⟨r, 0, none⟩)) := by
  obtain ⟨nx, bf, hn, hl⟩ := h.ring
  refine ⟨nx, bf, hl, fun k hk => ?_, blk_cell (j := 0) h.blk rfl⟩
  have : ∃ s v, (k, s, v) ∈ ((r, [], Value.slice none 0 0) :: L.map (fun e => (e.1, e.2.1, e.2.2.1))) := by
    rcases List.mem_cons.1 hk with rfl | hk
    · exact ⟨[], _, List.mem_cons_self⟩
    · obtain ⟨e, he, rfl⟩ := List.mem_map.1 hk
      exact ⟨e.2.1, e.2.2.1, List.mem_cons_of_mem _ (List.mem_map.2 ⟨e, he, rfl⟩)⟩
  obtain ⟨s, v, hm⟩ := this
  have := hn _ hm
  exact ⟨⟨_, _, _, this⟩, blk_lt this⟩
theorem find_some {L : List Nd} (hd : DistN L) {e : Nd} (he : e ∈ L) {k : List UInt8} (hk : e.2.1 = k) : L.find? (fun e => e.2.1 == k) = some e := by
  obtain ⟨L1, L2, rfl⟩ := List.append_of_mem he
  unfold DistN at hd
  rw [List.pairwise_append, List.pairwise_cons] at hd
  rw [List.find?_append, List.find?_eq_none.2 (fun z hz => by
    have := hd.2.2 z hz e (by simp)
    rw [hk] at this
    simpa using this), List.find?_cons_of_pos (by simpa using hk)]
  rfl
theorem Upd.ownF {S : Nat → Prop} {w W W' : World} {row : Option Nat} (h : Upd S w W) (hg : W.grownBy W' row) (hr : ∀ r, row = some r → w.heap.size ≤ r) : Upd S w W' :=
  ⟨h.1.trans hg.os.symm, h.2.1.trans hg.tape.symm, h.2.2.1.trans hg.output.symm, Nat.le_trans h.2.2.2.1 hg.size, fun k hk hx => (hg.block k (Nat.lt_of_lt_of_le hk h.2.2.2.1) (fun e => by have := hr k e.symm; omega)).trans (h.2.2.2.2 k hk hx)⟩
theorem blk_ownF {W W' : World} {row : Option Nat} {B k : Nat} {cs : Array Value} {T : TypeId} (h : W.heap[k]? = some (.cells cs T (0, 0))) (hg : W.grownBy W' row) (hr : ∀ r, row = some r → B ≤ r) (hk : k < B) : W'.heap[k]? = some (.cells cs T (0, 0)) :=
  (hg.block k (blk_lt h) (fun e => by have := hr k e.symm; omega)).trans h
theorem Upd.set1 {w : World} {g j : Nat} (u : Value) : Upd (· = g) w (w.setCell ⟨g, j, none⟩ u) := Upd.of_grown (blk_grown w g j u) rfl
theorem Upd.kp {g n : Nat} {w w' : World} (h : Upd (· = g) w w') (hn : n ≤ w.heap.size) : KpH n g w w' := ⟨h.2.2.2.1, fun k hk hx => h.2.2.2.2 k (by omega) hx⟩
theorem Upd.keepsF {g B : Nat} {w w' : World} {cs : Array Value} {T : TypeId} (h : Upd (· = g) w w') (hA : w.heap[g]? = some (.cells cs T (0, 0))) : KeepsFrom B w w' :=
  ⟨h.2.2.2.1, fun k o _ hk hc => (h.2.2.2.2 k (Array.getElem?_eq_some_iff.mp hk).1 (fun e => by
    subst e
    rw [hA] at hk
    injection hk with hk
    subst hk
    cases hc)).trans hk⟩
/-- the pair that came -/
abbrev nth (L : List Nd) (y : Fin (L.map Prod.fst).length) : Nd := L[y.1]'(by have := y.2; simpa using this)
theorem nth_blk (L : List Nd) (y : Fin (L.map Prod.fst).length) : (L.map Prod.fst)[y.1]'y.2 = (nth L y).1 := by simp
def findV (L : List Nd) (k : List UInt8) : Value := match L.find? (fun e => e.2.1 == k) with | some e => .pointer (some ⟨e.1, 0, none⟩) | none => .pointer none
set_option maxHeartbeats 4000000 in
set_option maxRecDepth 20000 in
theorem find_any (lo g r q : Nat) (L : List Nd) (k : List UInt8) (w : World) (h : Hid (Hd w lo g r q L)) :
    Calls Try.prog 24 #[.pointer (some ⟨g, 0, none⟩), .string (bs k)] w fun e w' => e = .returned (findV L k) ∧ GrM w w' := by
  refine (callsIn_wide (n := 4)).1 ?_
  refine callsIn_of_wp_marks Try.func24 rfl trivial ?_ rfl
  simp only [Try.ntmps24, List.size_toArray, List.length_cons, List.length_nil, Nat.reduceAdd, Nat.reduceSub, Array.replicate_succ, Array.replicate_zero, List.push_toArray, List.append_toArray, List.nil_append, List.cons_append]
  have hall := Lib.hid (fun w => all_any g w)
  gi_wp2_with (refine ⟨trivial, ?_⟩; gi_at_call 33; refine (callsIn_wide.2 (hall.out _)).mono ?_; rintro e w' ⟨rfl, hee⟩; rw [hee]; clear hee)
  obtain ⟨nx, bf, hlk, hnb, hcg⟩ := h.out.way
  have hnd := h.out.nd
  have hlt := h.out.lt
  obtain ⟨W0, hW0⟩ : ∃ x, ((w.alloc (.cells #[.string (bs k)] 9)).alloc (.cells #[.pointer none] 47)).alloc (.cells #[.pointer (some ⟨g, 0, none⟩)] 67) = x := ⟨_, rfl⟩
  have s0 : W0.heap.size = w.heap.size + 3 := by rw [← hW0]; simp
  have hb0 : Below w.heap.size w W0 := by rw [← hW0]; exact ((GrM.alloc _ _).trans (GrM.alloc _ _)).trans (GrM.alloc _ _)
  have hk0 : W0.heap[w.heap.size]? = some (.cells #[.string (bs k)] 9 (0, 0)) := by rw [← hW0]; exact blk_alloc (blk_alloc (World.alloc_heap_new w _) _) _
  have hr0 : W0.heap[w.heap.size + 1]? = some (.cells #[.pointer none] 47 (0, 0)) := by
    rw [← hW0]
    have := World.alloc_heap_new (w.alloc (.cells #[.string (bs k)] 9)) (.cells #[.pointer none] 47)
    rw [World.size_alloc] at this
    exact blk_alloc this _
  have hB0 : W0.heap[w.heap.size + 1 + 1]? = some (.cells #[.pointer (some ⟨g, 0, none⟩)] 67 (0, 0)) := by
    rw [← hW0]
    have := World.alloc_heap_new ((w.alloc (.cells #[.string (bs k)] 9)).alloc (.cells #[.pointer none] 47)) (.cells #[.pointer (some ⟨g, 0, none⟩)] 67)
    rw [World.size_alloc, World.size_alloc] at this
    exact this
  rw [hW0]
  replace hW0 := Lib.hid hW0
  have hkey : ∀ e ∈ L, ∃ s v b, W0.heap[e.1]? = some (.cells #[.string (bs e.2.1), s, v, b] 60 (0, 0)) := fun e he => by
    obtain ⟨nx, bf, hn, _⟩ := h.out.ring
    exact ⟨_, _, _, blk_below (hn (e.1, e.2.1, e.2.2.1) (List.mem_cons_of_mem _ (List.mem_map.2 ⟨e, he, rfl⟩))) hb0⟩
  have hrest := Lib.hid h.out
  clear h
  refine wpIn_rangeFunc_ownG rfl (by omega) (gf := 34) (lb := #[.pointer (some ⟨w.heap.size + 1 + 1, 0, none⟩)]) rfl trivial (enters_of Try.func34 (by kernel_rfl) rfl)
    (all_stops Fence.wide (4 - 1) trivial rfl (by omega) (w.heap.size + 1 + 1) g r W0.heap.size (w.heap.size + 1) (L.map Prod.fst) nx bf hlk hnd W0 (Nat.le_refl _) (by omega) (by omega) (by have := hlt.1; omega) (by have := hlt.1; omega)
      (fun k hk => ⟨by have := (hnb k hk).2; omega, by have := (hnb k hk).2; omega⟩) (blk_cell (j := 0) hB0 rfl) ((hb0.cell (p := ⟨g, 0, none⟩) hlt.1).trans hcg) (fun k hk => by obtain ⟨s, v, b, hh⟩ := (hnb k hk).1; exact ⟨s, v, b, blk_below hh hb0⟩)) KpH.trans (fun W l o o' hl _ _ _ => KpH.putObj W l o' hl) (Below.refl _ _) (fun _ => rfl)
    (fun (pre : List (Fin (L.map Prod.fst).length)) W => (∀ y ∈ pre, (nth L y).2.1 ≠ k) ∧ Upd (· = w.heap.size + 1) W0 W ∧ ∃ x, W.heap[w.heap.size + 1]? = some (.cells #[x] 47 (0, 0)))
    (fun c (pre : List (Fin (L.map Prod.fst).length)) W => c = .ret ∧ Upd (· = w.heap.size + 1) W0 W ∧ ∃ y, (nth L y).2.1 = k ∧ W.heap[w.heap.size + 1]? = some (.cells #[.pointer (some ⟨(nth L y).1, 0, none⟩)] 47 (0, 0)))
    (fun s W W' row hs hg9 hr => ⟨hs.1, hs.2.1.ownF hg9 (fun r e => (hr r e).1), by obtain ⟨x, hx⟩ := hs.2.2; exact ⟨x, blk_ownF (B := W0.heap.size) hx hg9 (fun r e => (hr r e).1) (by omega)⟩⟩)
    (fun c s W W' row hs hg9 hr => ⟨hs.1, hs.2.1.ownF hg9 (fun r e => (hr r e).1), by obtain ⟨y, hy, hx⟩ := hs.2.2; exact ⟨y, hy, blk_ownF (B := W0.heap.size) hx hg9 (fun r e => (hr r e).1) (by omega)⟩⟩)
    ⟨by simp, Upd.refl _ _, _, hr0⟩
    (fun x => { tmps := #[.pointer (some ⟨g, 0, none⟩), .string (bs k), undef, .pointer (some ⟨w.heap.size, 0, none⟩), .pointer (some ⟨w.heap.size + 1, 0, none⟩), .pointer (some ⟨(nth L x).1, 0, none⟩), .pointer (some ⟨g, 0, none⟩), .func (Fn.func 34) #[] #[.pointer (some ⟨w.heap.size + 1 + 1, 0, none⟩)], .pointer (some ⟨(nth L x).1, 0, none⟩), undef, undef, undef, undef, undef, undef, undef], defers := [] }) ?assign ?body ?done ?stop
  case assign =>
    intro l x W K hK
    gi_wp2
    exact hK
  case body =>
    rintro l pre x W ⟨hne, hU, xv, hx⟩ hltp
    obtain ⟨e, he⟩ : ∃ e, nth L x = e := ⟨_, rfl⟩
    have hel : e ∈ L := by rw [← he]; exact List.getElem_mem _
    rw [he]
    have hU0 : W.drew.heap = W.heap := rfl
    obtain ⟨sv, vv, bv, hee⟩ := hkey e hel
    have hst : W.drew.heap[e.1]? = some (.cells #[.string (bs e.2.1), sv, vv, bv] 60 (0, 0)) := (hU.2.2.2.2 _ (by have := hlt.2.2 e hel; omega) (by have := hlt.2.2 e hel; omega)).trans hee
    have hk1 : W.drew.heap[w.heap.size]? = some (.cells #[.string (bs k)] 9 (0, 0)) := (hU.2.2.2.2 _ (by omega) (by omega)).trans hk0
    have hx1 : W.drew.heap[w.heap.size + 1]? = some (.cells #[xv] 47 (0, 0)) := hx
    have ck := blk_cell (j := 0) hst rfl
    have cb := blk_cell (j := 0) hk1 rfl
    have cr := blk_cell (j := 0) hx1 rfl
    have fr := blk_free hx1 0
    have hUd : Hid (Upd (· = w.heap.size + 1) W0 W.drew) := Lib.hid hU
    replace hx1 := Lib.hid hx1
    replace hU := Lib.hid hU
    replace hx := Lib.hid hx
    have hs1 : Hid (w.heap.size + 3 = W0.heap.size) := Lib.hid s0.symm
    replace s0 := Lib.hid s0
    clear hst hk1 hee hU0
    refine wpIn_block ?_
    refine wpIn_seq_k (fun K hK => ?_)
    by_cases hek : e.2.1 = k
    · have hcmp : (e.2.1 == k) = true := by simp [hek]
      replace hek := Lib.hid hek
      refine wpR_regionIn (fun ⟨_, _, h⟩ => h) (Eq) 9999 (by kernel_rfl) (by kernel_rfl) ?_
      refine wpR_take (i := 0) (v := ?_) (⟨fun _ => rfl, Eq.trans⟩) (some 9) rfl (by kernel_rfl) (by kernel_rfl) (by kernel_rfl) (by kernel_rfl) (by kernel_rfl) (fun _ _ _ h => h) (by kernel_rfl) (fun w' hw' => ?_) ?_
      rotate_left
      · go_simp; with_reducible rfl
      simp only [Act.put, List.setIfInBounds_toArray, List.set_cons_zero, List.set_cons_succ]
      refine wpR_take (i := 1) (v := ?_) (⟨fun _ => rfl, Eq.trans⟩) (some 10) rfl (by kernel_rfl) (by kernel_rfl) (by kernel_rfl) (by kernel_rfl) (by kernel_rfl) (fun _ _ _ h => h) (by kernel_rfl) (fun w' hw' => ?_) ?_
      rotate_left
      · go_simp; with_reducible rfl
      simp only [Act.put, List.setIfInBounds_toArray, List.set_cons_zero, List.set_cons_succ]
      refine wpR_take (i := 2) (v := ?_) (⟨fun _ => rfl, Eq.trans⟩) (some 11) rfl (by kernel_rfl) (by kernel_rfl) (by kernel_rfl) (by kernel_rfl) (by kernel_rfl) (fun _ _ _ h => h) (by kernel_rfl) (fun w' hw' => ?_) ?_
      rotate_left
      · go_simp; with_reducible rfl
      simp only [Act.put, List.setIfInBounds_toArray, List.set_cons_zero, List.set_cons_succ]
      refine wpR_take (i := 3) (v := ?_) (⟨fun _ => rfl, Eq.trans⟩) (some 12) rfl (by kernel_rfl) (by kernel_rfl) (by kernel_rfl) (by kernel_rfl) (by kernel_rfl) (fun _ _ _ h => h) (by kernel_rfl) (fun w' hw' => ?_) ?_
      rotate_left
      · subst hw'; go_simp; with_reducible rfl
      simp only [Act.put, List.setIfInBounds_toArray, List.set_cons_zero, List.set_cons_succ]
      refine wpR_take (i := 4) (v := ?_) (⟨fun _ => rfl, Eq.trans⟩) (some 13) rfl (by kernel_rfl) (by kernel_rfl) (by kernel_rfl) (by kernel_rfl) (by kernel_rfl) (fun _ _ _ h => h) (by kernel_rfl) (fun w' hw' => ?_) ?_
      rotate_left
      · subst hw'; go_simp; with_reducible rfl
      simp only [Act.put, List.setIfInBounds_toArray, List.set_cons_zero, List.set_cons_succ]
      refine wpR_take (i := 5) (v := ?_) (⟨fun _ => rfl, Eq.trans⟩) (some 14) rfl (by kernel_rfl) (by kernel_rfl) (by kernel_rfl) (by kernel_rfl) (by kernel_rfl) (fun _ _ _ h => h) (by kernel_rfl) (fun w' hw' => ?_) ?_
      rotate_left
      · go_simp; with_reducible rfl
      simp only [Act.put, List.setIfInBounds_toArray, List.set_cons_zero, List.set_cons_succ]
      refine wpR_done (by kernel_rfl) ?_ _
      refine hK _ _ ?_
      clear hK K
      gi_wp2
      have hx2 := blk_set hx1.out 0 (.pointer (some ⟨e.1, 0, none⟩))
      have hu2 : Upd (· = w.heap.size + 1) W.drew (W.drew.setCell ⟨w.heap.size + 1, 0, none⟩ (.pointer (some ⟨e.1, 0, none⟩))) := Upd.set1 _
      exact ⟨⟨(Upd.keepsF (B := W0.heap.size) (w := W.drew) hu2 hx1.out).1, (Upd.keepsF (B := W0.heap.size) (w := W.drew) hu2 hx1.out).2⟩, rfl, Upd.trans hUd.out hu2, x, by rw [he]; exact hek.out, by rw [he]; exact hx2⟩
    · have hcmp : (e.2.1 == k) = false := by simpa using hek
      replace hek := Lib.hid hek
      refine wpR_regionIn (fun ⟨_, _, h⟩ => h) (Eq) 9999 (by kernel_rfl) (by kernel_rfl) ?_
      refine wpR_take (i := 0) (v := ?_) (⟨fun _ => rfl, Eq.trans⟩) (some 9) rfl (by kernel_rfl) (by kernel_rfl) (by kernel_rfl) (by kernel_rfl) (by kernel_rfl) (fun _ _ _ h => h) (by kernel_rfl) (fun w' hw' => ?_) ?_
      rotate_left
      · go_simp; with_reducible rfl
      simp only [Act.put, List.setIfInBounds_toArray, List.set_cons_zero, List.set_cons_succ]
      refine wpR_take (i := 1) (v := ?_) (⟨fun _ => rfl, Eq.trans⟩) (some 10) rfl (by kernel_rfl) (by kernel_rfl) (by kernel_rfl) (by kernel_rfl) (by kernel_rfl) (fun _ _ _ h => h) (by kernel_rfl) (fun w' hw' => ?_) ?_
      rotate_left
      · go_simp; with_reducible rfl
      simp only [Act.put, List.setIfInBounds_toArray, List.set_cons_zero, List.set_cons_succ]
      refine wpR_take (i := 2) (v := ?_) (⟨fun _ => rfl, Eq.trans⟩) (some 11) rfl (by kernel_rfl) (by kernel_rfl) (by kernel_rfl) (by kernel_rfl) (by kernel_rfl) (fun _ _ _ h => h) (by kernel_rfl) (fun w' hw' => ?_) ?_
      rotate_left
      · go_simp; with_reducible rfl
      simp only [Act.put, List.setIfInBounds_toArray, List.set_cons_zero, List.set_cons_succ]
      refine wpR_take (i := 3) (v := ?_) (⟨fun _ => rfl, Eq.trans⟩) (some 12) rfl (by kernel_rfl) (by kernel_rfl) (by kernel_rfl) (by kernel_rfl) (by kernel_rfl) (fun _ _ _ h => h) (by kernel_rfl) (fun w' hw' => ?_) ?_
      rotate_left
      · subst hw'; go_simp; with_reducible rfl
      simp only [Act.put, List.setIfInBounds_toArray, List.set_cons_zero, List.set_cons_succ]
      refine wpR_take (i := 4) (v := ?_) (⟨fun _ => rfl, Eq.trans⟩) (some 13) rfl (by kernel_rfl) (by kernel_rfl) (by kernel_rfl) (by kernel_rfl) (by kernel_rfl) (fun _ _ _ h => h) (by kernel_rfl) (fun w' hw' => ?_) ?_
      rotate_left
      · subst hw'; go_simp; with_reducible rfl
      simp only [Act.put, List.setIfInBounds_toArray, List.set_cons_zero, List.set_cons_succ]
      refine wpR_take (i := 5) (v := ?_) (⟨fun _ => rfl, Eq.trans⟩) (some 14) rfl (by kernel_rfl) (by kernel_rfl) (by kernel_rfl) (by kernel_rfl) (by kernel_rfl) (fun _ _ _ h => h) (by kernel_rfl) (fun w' hw' => ?_) ?_
      rotate_left
      · go_simp; with_reducible rfl
      simp only [Act.put, List.setIfInBounds_toArray, List.set_cons_zero, List.set_cons_succ]
      refine wpR_done (by kernel_rfl) ?_ _
      refine hK _ _ ?_
      clear hK K
      gi_wp2
      refine ⟨(KeepsOthers.drew W).from _, KpH.drew _ _ _, fun y hy => ?_, hUd.out, xv, hx1.out⟩
      rcases List.mem_append.1 hy with hy | hy
      · exact hne y hy
      · rw [List.mem_singleton.1 hy, he]
        exact hek.out
  case done =>
    rintro D ys W hD rfl ⟨hne, hU, xv, hx⟩ hK
    have cr := blk_cell (j := 0) hx rfl
    have fr := blk_free hx 0
    have hf : L.find? (fun e => e.2.1 == k) = none := by
      rw [List.find?_eq_none]
      intro e he
      obtain ⟨i, hi, rfl⟩ := List.mem_iff_getElem.1 he
      have := hne ⟨i, by simpa using hi⟩ (List.mem_finRange _)
      simpa using this
    have hfv : findV L k = .pointer none := by unfold findV; rw [hf]
    replace hfv := Lib.hid hfv
    have hx2 := blk_set hx 0 (.pointer none)
    have hu2 : Upd (· = w.heap.size + 1) W (W.setCell ⟨w.heap.size + 1, 0, none⟩ (.pointer none)) := Upd.set1 _
    clear hne hf
    gi_wp2
    have hK' := hu2.2.2.2.2 D (Array.getElem?_eq_some_iff.mp hK).1 (by have := s0; omega)
    rw [hK] at hK'
    have hr5 := cell_kept (blk_cell (j := 0) hx2 rfl) (grownBy_putObj' _ D (.deferred none)) (fun r e => by cases e; exact ⟨_, hK', rfl⟩)
    refine ⟨by simp, .inl ⟨_, _, rfl, run_takeDeferred hK', ?_⟩⟩
    rw [hfv.out]
    refine ⟨.pointer none, by simp [results, Try.f24, go_sem, hr5], rfl, ?_⟩
    have hb1 : Below w.heap.size w W := Upd.to_below hb0 hU (by omega) (fun k hk => by omega)
    have hb2 := hb1.setCell (p := ⟨w.heap.size + 1, 0, none⟩) (by show w.heap.size ≤ w.heap.size + 1; omega) (.pointer none)
    exact hb2.trans (belowK_b (w := w) (Nat.le_refl _) _ D _ _ (by omega) hK' rfl rfl)
  case stop =>
    rintro D c pre W hD hpre ⟨rfl, hU, y, hy, hx⟩ hK
    have hel : nth L y ∈ L := List.getElem_mem _
    have hfv : findV L k = .pointer (some ⟨(nth L y).1, 0, none⟩) := by
      unfold findV
      rw [find_some hrest.out.dist hel hy]
    replace hfv := Lib.hid hfv
    generalize (nth L y).1 = bl at hx hfv
    have hr5 := cell_kept (blk_cell (j := 0) hx rfl) (grownBy_putObj' _ D (.deferred none)) (fun r e => by cases e; exact ⟨_, hK, rfl⟩)
    have hb1 : Below w.heap.size w W := Upd.to_below hb0 hU (by omega) (fun k hk => by omega)
    clear hx hy
    gi_wp2
    refine ⟨by simp, .inl ⟨_, _, rfl, run_takeDeferred hK, ?_⟩⟩
    rw [hfv.out]
    refine ⟨.pointer (some ⟨bl, 0, none⟩), by simp [results, Try.f24, go_sem, hr5], rfl, ?_⟩
    exact hb1.trans (belowK_b (w := w) (Nat.le_refl _) _ D _ _ (by omega) hK rfl rfl)
end Go.Proofs.Ythhggojpmilmdaa
