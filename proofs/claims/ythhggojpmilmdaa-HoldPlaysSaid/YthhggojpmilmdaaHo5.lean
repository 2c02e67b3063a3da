/- hold: first, Keys. -/
import Derived.Test.YthhggojpmilmdaaHo4
import Derived.Test.YthhggojpmilmdaaOs
namespace Go.Proofs.Ythhggojpmilmdaa
set_option linter.unusedVariables false
set_option linter.unusedSimpArgs false
open Go Go.RowKit Go.Shelf
attribute [local go_sem] Oper.semAt_some
set_option maxHeartbeats 4000000 in
set_option maxRecDepth 20000 in
theorem first_any (lo g r q : Nat) (e0 : Nd) (L0 : List Nd) (w : World) (h : Hid (Hd w lo g r q (e0 :: L0))) :
    Calls Try.prog 31 #[.pointer (some ⟨g, 0, none⟩)] w fun e w' => e = .returned (.pointer (some ⟨e0.1, 0, none⟩)) ∧ GrM w w' := by
  obtain ⟨L, hL⟩ : ∃ L, e0 :: L0 = L := ⟨_, rfl⟩
  rw [hL] at h
  refine (callsIn_wide (n := 4)).1 ?_
  refine callsIn_of_wp_marks Try.func31 rfl trivial ?_ rfl
  simp only [Try.ntmps31, List.size_toArray, List.length_cons, List.length_nil, Nat.reduceAdd, Nat.reduceSub, Array.replicate_succ, Array.replicate_zero, List.push_toArray, List.append_toArray, List.nil_append, List.cons_append]
  have hall := Lib.hid (fun w => all_any g w)
  replace hL := Lib.hid hL
  gi_wp2_with (refine ⟨trivial, ?_⟩; gi_at_call 33; refine (callsIn_wide.2 (hall.out _)).mono ?_; rintro e w' ⟨rfl, hee⟩; rw [hee]; clear hee)
  obtain ⟨nx, bf, hlk, hnb, hcg⟩ := h.out.way
  have hnd := h.out.nd
  have hlt := h.out.lt
  obtain ⟨W0, hW0⟩ : ∃ x, (w.alloc (.cells #[.pointer none] 47)).alloc (.cells #[.pointer (some ⟨g, 0, none⟩)] 67) = x := ⟨_, rfl⟩
  have s0 : W0.heap.size = w.heap.size + 2 := by rw [← hW0]; simp
  have hb0 : Below w.heap.size w W0 := by rw [← hW0]; exact (GrM.alloc _ _).trans (GrM.alloc _ _)
  have hr0 : W0.heap[w.heap.size]? = some (.cells #[.pointer none] 47 (0, 0)) := by rw [← hW0]; exact blk_alloc (World.alloc_heap_new w _) _
  have hB0 : W0.heap[w.heap.size + 1]? = some (.cells #[.pointer (some ⟨g, 0, none⟩)] 67 (0, 0)) := by
    rw [← hW0]
    have := World.alloc_heap_new (w.alloc (.cells #[.pointer none] 47)) (.cells #[.pointer (some ⟨g, 0, none⟩)] 67)
    rw [World.size_alloc] at this
    exact this
  rw [hW0]
  replace hW0 := Lib.hid hW0
  clear h
  refine wpIn_rangeFunc_ownG rfl (by omega) (gf := 34) (lb := #[.pointer (some ⟨w.heap.size + 1, 0, none⟩)]) rfl trivial (enters_of Try.func34 (by kernel_rfl) rfl)
    (all_stops Fence.wide (4 - 1) trivial rfl (by omega) (w.heap.size + 1) g r W0.heap.size (w.heap.size) (L.map Prod.fst) nx bf hlk hnd W0 (Nat.le_refl _) (by omega) (by omega) (by have := hlt.1; omega) (by have := hlt.1; omega)
      (fun k hk => ⟨by have := (hnb k hk).2; omega, by have := (hnb k hk).2; omega⟩) (blk_cell (j := 0) hB0 rfl) ((hb0.cell (p := ⟨g, 0, none⟩) hlt.1).trans hcg) (fun k hk => by obtain ⟨s, v, b, hh⟩ := (hnb k hk).1; exact ⟨s, v, b, blk_below hh hb0⟩)) KpH.trans (fun W l o o' hl _ _ _ => KpH.putObj W l o' hl) (Below.refl _ _) (fun _ => rfl)
    (fun (pre : List (Fin (L.map Prod.fst).length)) W => pre = [] ∧ Upd (· = w.heap.size) W0 W ∧ ∃ x, W.heap[w.heap.size]? = some (.cells #[x] 47 (0, 0)))
    (fun c (pre : List (Fin (L.map Prod.fst).length)) W => c = .ret ∧ Upd (· = w.heap.size) W0 W ∧ ∃ y, pre = [y] ∧ W.heap[w.heap.size]? = some (.cells #[.pointer (some ⟨(nth L y).1, 0, none⟩)] 47 (0, 0)))
    (fun s W W' row hs hg9 hr => ⟨hs.1, hs.2.1.ownF hg9 (fun r e => (hr r e).1), by obtain ⟨x, hx⟩ := hs.2.2; exact ⟨x, blk_ownF (B := W0.heap.size) hx hg9 (fun r e => (hr r e).1) (by omega)⟩⟩)
    (fun c s W W' row hs hg9 hr => ⟨hs.1, hs.2.1.ownF hg9 (fun r e => (hr r e).1), by obtain ⟨y, hy, hx⟩ := hs.2.2; exact ⟨y, hy, blk_ownF (B := W0.heap.size) hx hg9 (fun r e => (hr r e).1) (by omega)⟩⟩)
    ⟨rfl, Upd.refl _ _, _, hr0⟩
    (fun x => { tmps := #[.pointer (some ⟨g, 0, none⟩), undef, .pointer (some ⟨w.heap.size, 0, none⟩), .pointer (some ⟨(nth L x).1, 0, none⟩), .pointer (some ⟨g, 0, none⟩), .func (Fn.func 34) #[] #[.pointer (some ⟨w.heap.size + 1, 0, none⟩)], .pointer (some ⟨(nth L x).1, 0, none⟩), undef], defers := [] }) ?assign ?body ?done ?stop
  case assign =>
    intro l x W K hK
    gi_wp2
    exact hK
  case body =>
    rintro l pre x W ⟨rfl, hU, xv, hx⟩ hltp
    have cr := blk_cell (j := 0) hx rfl
    have fr := blk_free hx 0
    have hx2 := blk_set hx 0 (.pointer (some ⟨(nth L x).1, 0, none⟩))
    have hu2 : Upd (· = w.heap.size) W (W.setCell ⟨w.heap.size, 0, none⟩ (.pointer (some ⟨(nth L x).1, 0, none⟩))) := Upd.set1 _
    have hkf := Lib.hid (Upd.keepsF (B := W0.heap.size) hu2 hx)
    have hfin := Lib.hid (Upd.trans hU hu2)
    replace hx2 := Lib.hid hx2
    clear hU hu2 hx hnb hlk hcg
    gi_wp2
    exact ⟨hkf.out, rfl, hfin.out, x, rfl, hx2.out⟩
  case done =>
    rintro D ys W hD rfl ⟨hne, hU, xv, hx⟩ hK
    have := congrArg List.length hne
    rw [List.length_finRange, List.length_map, ← hL.out] at this
    simp at this
  case stop =>
    rintro D c pre W hD hpre ⟨rfl, hU, y, rfl, hx⟩ hK
    have hy : (nth L y).1 = e0.1 := by
      have h1 : y.1 = 0 := by
        obtain ⟨t, ht⟩ := hpre
        have := congrArg (fun l => l[0]?) ht
        simp only [List.cons_append, List.getElem?_cons_zero] at this
        have h2 := this.symm
        rw [List.getElem?_eq_some_iff] at h2
        obtain ⟨hh, h2⟩ := h2
        rw [List.getElem_finRange] at h2
        rw [← h2]
        rfl
      have hz : L[0]'(by rw [← hL.out]; simp) = e0 := by
        have := hL.out
        subst this
        rfl
      unfold nth
      simp only [h1, hz]
    rw [hy] at hx
    have hr5 := cell_kept (blk_cell (j := 0) hx rfl) (grownBy_putObj' _ D (.deferred none)) (fun r e => by cases e; exact ⟨_, hK, rfl⟩)
    have hb1 : Below w.heap.size w W := Upd.to_below hb0 hU (by omega) (fun k hk => by omega)
    clear hx hy
    gi_wp2
    refine ⟨by simp, .inl ⟨_, _, rfl, run_takeDeferred hK, ?_⟩⟩
    refine ⟨.pointer (some ⟨e0.1, 0, none⟩), by simp [results, Try.f31, go_sem, hr5], rfl, ?_⟩
    exact hb1.trans (belowK_b (w := w) (Nat.le_refl _) _ D _ _ (by omega) hK rfl rfl)
theorem keepH {n g : Nat} {w w' : World} {row : Option Nat} (hg : w.grownBy w' row) (hr : ∀ j, row = some j → n ≤ j) (hn : n ≤ w.heap.size) : KpH n g w w' :=
  ⟨hg.size, fun k hk _ => hg.block k (by omega) (fun e => by have := hr k e.symm; omega)⟩
theorem keepF {B base : Nat} {w w' : World} {l : List (List UInt8)} {v : Value} (hg : w.grownBy w' v.ownBlock) (h : OS l v base w) : KeepsFrom B w w' :=
  ⟨hg.size, fun k o _ hk hc => (hg.block k (Array.getElem?_eq_some_iff.mp hk).1 (fun e => by
    rcases h.2 with ⟨rfl, -⟩ | ⟨g, cap, cur, rfl, hb, hh, -⟩
    · cases e
    · injection e with e
      have e : k = g := e
      subst e
      rw [hh] at hk
      injection hk with hk
      subst hk
      cases hc)).trans hk⟩
theorem OS.own {W W' : World} {row : Option Nat} {l : List (List UInt8)} {v : Value} {base : Nat} (h : OS l v base W) (hg : W.grownBy W' row) (hr : ∀ r, row = some r → ∃ o : Obj, W.heap[r]? = some o ∧ o.isCells = false) : OS l v base W' :=
  row_keep h (fun k hk => hg.block k (World.ownsRow.lt h k hk).2 (fun e => by
    obtain ⟨o, ho, hc⟩ := hr k e.symm
    rcases h.2 with ⟨rfl, -⟩ | ⟨g, cap, cur, rfl, hb, hh, -⟩
    · cases hk
    · injection hk with hk
      have hk : g = k := hk
      subst hk
      rw [hh] at ho
      injection ho with ho
      subst ho
      cases hc))
theorem KeepsFrom.of_alloc' {B : Nat} (w : World) (o : Obj) : KeepsFrom B w (w.alloc o) := (KeepsOthers.alloc w o).from B
set_option maxHeartbeats 4000000 in
set_option maxRecDepth 20000 in
theorem keys17_any (lo g r q : Nat) (L : List Nd) (hL : L.length ≤ 1000000) (w : World) (h : Hid (Hd w lo g r q L)) :
    Calls Try.prog 19 #[.pointer (some ⟨g, 0, none⟩)] w fun e w' => ∃ v, e = .returned v ∧ Hid (OS (L.map (fun e => e.2.1)) v w.heap.size w') ∧ GrM w w' := by
  refine (callsIn_wide (n := 4)).1 ?_
  refine callsIn_of_wp_marks Try.func19 rfl trivial ?_ rfl
  simp only [Try.ntmps19, List.size_toArray, List.length_cons, List.length_nil, Nat.reduceAdd, Nat.reduceSub, Array.replicate_succ, Array.replicate_zero, List.push_toArray, List.append_toArray, List.nil_append, List.cons_append]
  have hall := Lib.hid (fun w => all_any g w)
  have hms := Lib.hid (missing_any lo g r q L w h)
  gi_wp2_with (refine ⟨trivial, ?_⟩; first
    | (gi_at_call 23; refine (callsIn_wide.2 hms.out).mono ?_; rintro e w' ⟨rfl, hee⟩; rw [hee]; clear hee hms)
    | (gi_at_call 33; refine (callsIn_wide.2 (hall.out _)).mono ?_; rintro e w' ⟨rfl, hee⟩; rw [hee]; clear hee))
  obtain ⟨nx, bf, hlk, hnb, hcg⟩ := h.out.way
  have hnd := h.out.nd
  have hlt := h.out.lt
  obtain ⟨W0, hW0⟩ : ∃ x, (w.alloc (.cells #[.slice none 0 0] 39)).alloc (.cells #[.pointer (some ⟨g, 0, none⟩)] 67) = x := ⟨_, rfl⟩
  have s0 : W0.heap.size = w.heap.size + 2 := by rw [← hW0]; simp
  have hb0 : Below w.heap.size w W0 := by rw [← hW0]; exact (GrM.alloc _ _).trans (GrM.alloc _ _)
  have hr0 : W0.heap[w.heap.size]? = some (.cells #[.slice none 0 0] 39 (0, 0)) := by rw [← hW0]; exact blk_alloc (World.alloc_heap_new w _) _
  have hB0 : W0.heap[w.heap.size + 1]? = some (.cells #[.pointer (some ⟨g, 0, none⟩)] 67 (0, 0)) := by
    rw [← hW0]
    have := World.alloc_heap_new (w.alloc (.cells #[.slice none 0 0] 39)) (.cells #[.pointer (some ⟨g, 0, none⟩)] 67)
    rw [World.size_alloc] at this
    exact this
  have hkey : ∀ e ∈ L, ∃ s v b, W0.heap[e.1]? = some (.cells #[.string (bs e.2.1), s, v, b] 60 (0, 0)) := fun e he => by
    obtain ⟨nx, bf, hn, _⟩ := h.out.ring
    exact ⟨_, _, _, blk_below (hn (e.1, e.2.1, e.2.2.1) (List.mem_cons_of_mem _ (List.mem_map.2 ⟨e, he, rfl⟩))) hb0⟩
  rw [hW0]
  replace hW0 := Lib.hid hW0
  clear h
  refine wpIn_rangeFunc_ownG rfl (by omega) (gf := 34) (lb := #[.pointer (some ⟨w.heap.size + 1, 0, none⟩)]) rfl trivial (enters_of Try.func34 (by kernel_rfl) rfl)
    (all_stops Fence.wide (4 - 1) trivial rfl (by omega) (w.heap.size + 1) g r W0.heap.size (w.heap.size) (L.map Prod.fst) nx bf hlk hnd W0 (Nat.le_refl _) (by omega) (by omega) (by have := hlt.1; omega) (by have := hlt.1; omega)
      (fun k hk => ⟨by have := (hnb k hk).2; omega, by have := (hnb k hk).2; omega⟩) (blk_cell (j := 0) hB0 rfl) ((hb0.cell (p := ⟨g, 0, none⟩) hlt.1).trans hcg) (fun k hk => by obtain ⟨s, v, b, hh⟩ := (hnb k hk).1; exact ⟨s, v, b, blk_below hh hb0⟩)) KpH.trans (fun W l o o' hl _ _ _ => KpH.putObj W l o' hl) (Below.refl _ _) (fun _ => rfl)
    (fun (pre : List (Fin (L.map Prod.fst).length)) W => Upd (· = w.heap.size) W0 W ∧ ∃ v, W.heap[w.heap.size]? = some (.cells #[v] 39 (0, 0)) ∧ OS (pre.map (fun y => (nth L y).2.1)) v W0.heap.size W)
    (fun _ _ _ => False)
    (fun s W W' row hs hg9 hr => ⟨hs.1.ownF hg9 (fun r e => (hr r e).1), by obtain ⟨x, hx, ho⟩ := hs.2; exact ⟨x, blk_ownF (B := W0.heap.size) hx hg9 (fun r e => (hr r e).1) (by omega), ho.own hg9 (fun r e => (hr r e).2)⟩⟩)
    (fun _ _ _ _ _ hs _ _ => hs)
    ⟨Upd.refl _ _, _, hr0, OS.nil_ _ _⟩
    (fun x => { tmps := #[.pointer (some ⟨g, 0, none⟩), undef, .slice none 0 0, .pointer (some ⟨w.heap.size, 0, none⟩), .pointer (some ⟨(nth L x).1, 0, none⟩), .pointer (some ⟨g, 0, none⟩), .bool false, .pointer (some ⟨g, 0, none⟩), .pointer (some ⟨g, 0, none⟩), .pointer (some ⟨g, 0, none⟩), .func (Fn.func 34) #[] #[.pointer (some ⟨w.heap.size + 1, 0, none⟩)], .pointer (some ⟨(nth L x).1, 0, none⟩), undef, undef, undef, undef, undef, undef, undef, undef], defers := [] }) ?assign ?body ?done ?stop
  case assign =>
    intro l x W K hK
    gi_wp2
    exact hK
  case body =>
    rintro l pre x W ⟨hU, v1, hx, hos⟩ hltp
    obtain ⟨e, he⟩ : ∃ e, nth L x = e := ⟨_, rfl⟩
    have hel : e ∈ L := by rw [← he]; exact List.getElem_mem _
    rw [he]
    obtain ⟨sv, vv, bv, hee⟩ := hkey e hel
    obtain ⟨wd, hwd⟩ : ∃ wd, wd = W.drew := ⟨_, rfl⟩
    have hWd : KeepsFrom W0.heap.size W wd := by rw [hwd]; exact (KeepsOthers.drew W).from _
    have hWk : KpH W0.heap.size w.heap.size W wd := by rw [hwd]; exact KpH.drew _ _ _
    have hUd : Hid (Upd (· = w.heap.size) W0 wd) := Lib.hid (by rw [hwd]; exact hU)
    have hst : wd.heap[e.1]? = some (.cells #[.string (bs e.2.1), sv, vv, bv] 60 (0, 0)) := (hUd.out.2.2.2.2 _ (by have := hlt.2.2 e hel; omega) (by have := hlt.2.2 e hel; omega)).trans hee
    have hx1 : Hid (wd.heap[w.heap.size]? = some (.cells #[v1] 39 (0, 0))) := Lib.hid (by rw [hwd]; exact hx)
    have hosd : Hid (OS (pre.map (fun y => (nth L y).2.1)) v1 W0.heap.size wd) := Lib.hid (by rw [hwd]; exact hos)
    replace hos := hosd
    have ck := Lib.hid (blk_cell (j := 0) hst rfl)
    have cr := Lib.hid (blk_cell (j := 0) hx1.out rfl)
    have hsw := Lib.hid (blk_lt hx1.out)
    have hew := Lib.hid (blk_lt hst)
    have hs1 : Hid (w.heap.size < W0.heap.size) := Lib.hid (by omega)
    have hsz : Hid (W0.heap.size ≤ wd.heap.size) := Lib.hid hUd.out.size
    have hlen : Hid ((pre.map (fun y => (nth L y).2.1)).length ≤ 100000000) := Lib.hid (by have := hltp; simp only [List.length_map] at this ⊢; omega)
    have hpe : Hid ((pre ++ [x]).map (fun y => (nth L y).2.1) = pre.map (fun y => (nth L y).2.1) ++ [e.2.1]) := Lib.hid (by rw [List.map_append, ← he]; rfl)
    replace hWd := Lib.hid hWd
    replace hWk := Lib.hid hWk
    replace s0 := Lib.hid s0
    replace hx := Lib.hid hx
    replace hU := Lib.hid hU
    clear hst hee hosd hnb hlk hcg hnd hlt
    have ck0 := ck.out
    refine wpIn_block ?_
    refine wpR_regionIn (fun ⟨_, _, h⟩ => h) (GrM) 6 (by kernel_rfl) (by kernel_rfl) ?_
    (rw [← hwd]; replace hwd := Lib.hid hwd)
    refine wpR_take (i := 0) (v := ?_) (GrM.road) (some 12) rfl (by kernel_rfl) (by kernel_rfl) (by kernel_rfl) (by kernel_rfl) (by kernel_rfl) (fun _ _ _ h => h) (by kernel_rfl) (fun w' hw' => ?_) ?_
    rotate_left
    · have q := (Below.cell hw' (p := ⟨w.heap.size, 0, none⟩) hsw.out).trans cr.out; go_simp; with_reducible rfl
    simp only [Act.put, List.setIfInBounds_toArray, List.set_cons_zero, List.set_cons_succ]
    refine wpR_takeU (i := 1) (v := ?_) (GrM.road) (some 13) rfl (by kernel_rfl) (by kernel_rfl) (by kernel_rfl) (by kernel_rfl) (fun _ _ _ h => h) (by kernel_rfl) (fun w' => ?_) ?_
    rotate_left
    · go_simp; with_reducible rfl
    simp only [Act.put, List.setIfInBounds_toArray, List.set_cons_zero, List.set_cons_succ]
    refine wpR_takeU (i := 2) (v := ?_) (GrM.road) (some 14) rfl (by kernel_rfl) (by kernel_rfl) (by kernel_rfl) (by kernel_rfl) (fun _ _ _ h => h) (by kernel_rfl) (fun w' => ?_) ?_
    rotate_left
    · go_simp; with_reducible rfl
    simp only [Act.put, List.setIfInBounds_toArray, List.set_cons_zero, List.set_cons_succ]
    refine wpR_takeU (i := 3) (v := ?_) (GrM.road) (some 15) rfl (by kernel_rfl) (by kernel_rfl) (by kernel_rfl) (by kernel_rfl) (fun _ _ _ h => h) (by kernel_rfl) (fun w' => ?_) ?_
    rotate_left
    · go_simp; with_reducible rfl
    simp only [Act.put, List.setIfInBounds_toArray, List.set_cons_zero, List.set_cons_succ]
    refine wpR_one 4 rfl (by kernel_rfl) (by kernel_rfl) (fun K hK => ?_)
    go_simp
    refine hK _ _ (fun _ => GrM.refl _) ?_
    clear hK K
    try simp only [Act.put, List.setIfInBounds_toArray, List.set_cons_zero, List.set_cons_succ]
    refine wpR_one 5 rfl (by kernel_rfl) (by kernel_rfl) (fun K hK => ?_)
    go_simp
    refine hK _ _ (fun _ => GrM.alloc _ _) ?_
    clear hK K
    try simp only [Act.put, List.setIfInBounds_toArray, List.set_cons_zero, List.set_cons_succ]
    refine wpR_one 6 rfl (by kernel_rfl) (by kernel_rfl) (fun K hK => ?_)
    refine wp_appS (.tmp 12) (.tmp 17) rfl W0.heap.size v1 (pre.map (fun y => (nth L y).2.1)) rfl (OS.below (GrM.alloc _ _) hos.out) (some ⟨wd.heap.size, 0, none⟩) 1 (wd.heap.size + 1) e.2.1 rfl (sV_lit wd _) hlen.out (Nat.le_trans hsz.out (Below.size (GrM.alloc wd (.cells #[.string (bs e.2.1)] 9)))) ?_
    intro v2 w2 hos2 hg2
    refine hK _ _ (fun h => absurd h (by decide)) ?_
    clear hK K
    obtain ⟨A2, c2, hv2, -, -⟩ := hos2.form
    generalize (List.map (fun y => (nth L y).2.1) pre ++ [e.2.1]).length = n2 at hv2
    subst hv2
    have hx3 := blk_ownF (B := W0.heap.size) (k := w.heap.size) (blk_alloc hx1.out (.cells #[.string (bs e.2.1)] 9)) hg2 (fun j hj => (World.ownsRow.lt hos.out j hj).1) hs1.out
    have cr3 := blk_cell (j := 0) hx3 rfl
    have fr3 := blk_free hx3 0
    have hx4 := Lib.hid (blk_set hx3 0 (.slice A2 n2 c2))
    have hu3 : Upd (· = w.heap.size) W0 w2 := (Upd.trans hUd.out (Upd.of_below (GrM.alloc wd (.cells #[.string (bs e.2.1)] 9)))).ownF hg2 (fun j hj => (World.ownsRow.lt hos.out j hj).1)
    have hu4 : Upd (· = w.heap.size) W0 (w2.setCell ⟨w.heap.size, 0, none⟩ (.slice A2 n2 c2)) := Upd.trans hu3 (Upd.set1 (.slice A2 n2 c2))
    have hkp : KpH W0.heap.size w.heap.size wd (w2.setCell ⟨w.heap.size, 0, none⟩ (.slice A2 n2 c2)) := KpH.trans (KpH.trans (Upd.kp (g := w.heap.size) (Upd.of_below (GrM.alloc wd (.cells #[.string (bs e.2.1)] 9))) hsz.out) (keepH hg2 (fun j hj => (World.ownsRow.lt hos.out j hj).1) (by simp; have := hsz.out; omega))) (Upd.kp (Upd.set1 (.slice A2 n2 c2)) (by have := hg2.size; simp at this; have := hsz.out; omega))
    have hkf : KeepsFrom W0.heap.size wd (w2.setCell ⟨w.heap.size, 0, none⟩ (.slice A2 n2 c2)) := ((KeepsFrom.of_alloc' wd _).trans (keepF hg2 (OS.below (GrM.alloc wd (.cells #[.string (bs e.2.1)] 9)) hos.out))).trans (Upd.keepsF (Upd.set1 (.slice A2 n2 c2)) hx3)
    have hos4 : OS (pre.map (fun y => (nth L y).2.1) ++ [e.2.1]) (.slice A2 n2 c2) W0.heap.size (w2.setCell ⟨w.heap.size, 0, none⟩ (.slice A2 n2 c2)) := row_set_other hos2 _ _ _ (fun hh => by have := (World.ownsRow.lt hos2 _ hh).1; have := hs1.out; omega)
    have hu4' := Lib.hid hu4
    have hkp' := Lib.hid hkp
    have hkf' := Lib.hid hkf
    have hos4' := Lib.hid hos4
    clear hx3 hu3 hu4 hkp hkf hos4 hos2 hg2
    try simp only [Act.put, List.setIfInBounds_toArray, List.set_cons_zero, List.set_cons_succ]
    refine wpR_one 7 rfl (by kernel_rfl) (by kernel_rfl) (fun K hK => ?_)
    go_simp
    refine hK _ _ (fun h => absurd h (by decide)) ?_
    clear hK K
    try simp only [Act.put, List.setIfInBounds_toArray, List.set_cons_zero, List.set_cons_succ]
    refine wpR_done (by kernel_rfl) ?_ _
    exact ⟨hWd.out.trans hkf'.out, KpH.trans hWk.out hkp'.out, hu4'.out, _, hx4.out, by rw [hpe.out]; exact hos4'.out⟩
  case done =>
    rintro D ys W hD rfl ⟨hU, v1, hx, hos⟩ hK
    have hall : (List.finRange (L.map Prod.fst).length).map (fun y => (nth L y).2.1) = L.map (fun e => e.2.1) := by
      apply List.ext_getElem
      · simp
      · intro i h1 h2
        simp
    rw [hall] at hos
    have hb1 : Below w.heap.size w W := Upd.to_below hb0 hU (by omega) (fun k hk => by omega)
    have c3 := blk_cell (j := 0) hx rfl
    have hbk := Lib.hid (belowK_b (w := w) (Nat.le_refl _) W D (.deferred (some [])) (.deferred none) (by omega) hK rfl rfl)
    have hos2 := Lib.hid (hos.own (grownBy_putObj' W D (.deferred none)) (fun r e => by cases e; exact ⟨_, hK, rfl⟩))
    replace hb1 := Lib.hid hb1
    replace s0 := Lib.hid s0
    clear hx hos hU hall hnb hlk hcg hnd hlt hkey
    gi_wp2
    refine ⟨by simp, .inl ⟨_, _, rfl, run_takeDeferred hK, ?_⟩⟩
    refine ⟨_, results_tmp rfl _ _ _, v1, rfl, Lib.hid (row_more hos2.out (by have := s0.out; omega)), ?_⟩
    exact hb1.out.trans hbk.out
  case stop =>
    rintro D c pre W hD _ h _
    exact h.elim
end Go.Proofs.Ythhggojpmilmdaa
