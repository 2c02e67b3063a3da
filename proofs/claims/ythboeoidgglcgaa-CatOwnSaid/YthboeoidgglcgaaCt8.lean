/- cat: the staged keys, their bytes, the tombs as notes. -/
import Derived.Test.YthboeoidgglcgaaCt7
namespace Go.Proofs.Ythboeoidgglcgaa
set_option linter.unusedVariables false
set_option linter.unusedSimpArgs false
open Go Go.RowKit Go.Maps
theorem Ca.stag {w : World} {lo g t : Nat} {x : CtX} {c : CtP} (h : Ca w lo g x c t) {i : Nat} {q : Wt} (hq : x.W[i]? = some q) : ∃ b cp, x.vs = .slice (some ⟨b, 0, none⟩) x.W.length cp ∧ b < w.heap.size ∧ w.cell? ⟨b, i * 2, none⟩ = some (.string (bs q.k)) ∧ w.cell? ⟨b, i * 2 + 1, none⟩ = some (.slice q.A q.d.length q.c) ∧ (∀ j, w.frozen? ⟨b, j, none⟩ = false) := by
  obtain ⟨b, cp, e, -, -, -, hb, -, hfz, hcell, -⟩ := row_at h.ws (by have := (List.getElem?_eq_some_iff.mp hq).1; omega)
  have ha := flatW_at hq
  exact ⟨b, cp, e, hb, hcell _ _ ha.1, hcell _ _ ha.2, hfz⟩
def tombsN (T : List (By × Int)) : List Nt := T.map (fun e => ⟨6, e.1, e.2, 0, [], [], 1, []⟩)
def neN (n : Nt) : Ne := ⟨n, none, 0, none, 0⟩
theorem neN_v {n : Nt} (h1 : n.data = []) (h2 : n.places = []) (w : World) : NeV (neN n) w := by
  unfold NeV neN
  rw [h1, h2]
  exact ⟨Byt.nil_ _, Pls.nil_ _ _ _ (Nat.zero_le _)⟩
theorem neN_apt {n : Nt} (h1 : n.data = []) (h2 : n.places = []) (ob : Option Nat) : Apt (neN n) ob := by
  unfold Apt neN
  rw [h1, h2]
  exact ⟨fun h => absurd h (by simp), fun h => absurd h (by simp)⟩
/-- the bytes and the places of notes are the call's own -/
def ND (E : List Ne) (base : Nat) (w : World) : Prop := ∀ x ∈ E, OB w base (.slice x.A x.n.data.length x.c) x.n.data ∧ OP x.n.places (.slice x.A2 x.n.places.length x.c2) base w
theorem ND.gr {E : List Ne} {base : Nat} {w w' : World} (h : ND E base w) (hg : Gr w w') : ND E base w' := fun x hx => ⟨row_below (h x hx).1 hg, row_below (h x hx).2.1 hg, (h x hx).2.2⟩
theorem ND.own {E E' : List Ne} {base b2 : Nat} {v : Value} {w w' : World} (h : ND E base w) (ho : ON E' v b2 w) (hg : w.grownBy w' v.ownBlock) : ND E base w' := fun x hx => by
  have ne1 : ∀ {u : Value} {T s n m : Nat} {xs : List Value}, w.ownsRow m T s u n xs → T ≠ 32 → u.ownBlock = none ∨ u.ownBlock ≠ v.ownBlock := fun {u T s n m xs} hr hT => by
    cases hu : u.ownBlock with
    | none => exact .inl rfl
    | some k =>
      refine .inr (fun e => ?_)
      exact row_ne2 hr ho.row hT.symm k e.symm hu
  exact ⟨World.ownsRow.kept (h x hx).1 hg (ne1 (h x hx).1 (by decide)), World.ownsRow.kept (h x hx).2.1 hg (ne1 (h x hx).2.1 (by decide)), (h x hx).2.2⟩
theorem ND.ntv {E : List Ne} {base : Nat} {w : World} (h : ND E base w) : ∀ x ∈ E, NeV x w := fun x hx => ⟨Byt.ob (h x hx).1, (h x hx).2.pls⟩
theorem ND.neN {l : List Nt} (h : ∀ n ∈ l, n.data = [] ∧ n.places = []) (base : Nat) (w : World) : ND (l.map neN) base w := fun x hx => by
  obtain ⟨n, hn, rfl⟩ := List.mem_map.mp hx
  obtain ⟨h1, h2⟩ := h n hn
  unfold Go.Proofs.Ythboeoidgglcgaa.neN
  simp only
  rw [h1, h2]
  exact ⟨OB.nil_ _ _, OP.nil_ _ _⟩
section
variable (lo g t : Nat) (x : CtX) (c : CtP) (w : World) (h : Hid (Ca w lo g x c t))
include h
set_option maxRecDepth 10000 in
set_option maxHeartbeats 1000000 in
theorem staged_any (ht : t ≤ 1000) : Calls Try.prog 18 #[.pointer (some ⟨g, 0, none⟩)] w fun e w' => ∃ A cc, e = .returned (.slice A x.W.length cc) ∧ OS (c.W.map Prod.fst) (.slice A x.W.length cc) w.heap.size w' ∧ Gr w w' := by
  obtain ⟨A, cp, hv⟩ : ∃ A cp, x.vs = .slice A x.W.length cp := by obtain ⟨A, cp, _, _, e, -⟩ := h.out.form; exact ⟨A, cp, e⟩
  have hbk := h.out.blk
  rw [hv] at hbk
  have c0 := blk_cell (j := 0) hbk rfl
  obtain ⟨n, hn⟩ : ∃ n, x.W.length = n := ⟨_, rfl⟩
  have hlen : n ≤ 1000 := by have h1 := h.out.few.1; rw [h.out.wc, List.length_map] at h1; omega
  rw [hn] at c0 ⊢
  have hwc : Hid (c.W.map Prod.fst = x.W.map (·.k)) := Lib.hid (by rw [h.out.wc, List.map_map]; rfl)
  rw [hwc.out]
  obtain ⟨B0, hB0⟩ : ∃ B0, w.heap.size = B0 := ⟨_, rfl⟩
  have hlow : Hid (∀ y, Gr w y → B0 ≤ y.heap.size) := Lib.hid (fun y hy => by rw [← hB0]; exact Below.size hy)
  have hgo : Hid (∀ y z, Gr w y → Below B0 y z → Gr w z) := Lib.hid (fun y z h1 h2 => by unfold Gr at h1 ⊢; rw [hB0] at h1 ⊢; exact h1.trans h2)
  rw [hB0]
  replace hB0 := Lib.hid hB0
  replace hbk := Lib.hid hbk
  replace hn := Lib.hid hn
  replace hv := Lib.hid hv
  go_enter Try.func18, Try.ntmps18
  go_wp2_with fail
  go_loopw [3, 13] (fun u z wr => ∃ (k : Nat) (A1 : Option Addr) (c1 : Nat), k ≤ n ∧ u = .slice A1 k c1 ∧ z = .int .i64 k ∧ Hid (OS ((x.W.take k).map (·.k)) (.slice A1 k c1) B0 wr) ∧ Hid (Gr w wr)) (fun _ z _ => (n - intOf z).toNat)
  case atStart => exact ⟨0, none, 0, Nat.zero_le _, rfl, rfl, Lib.hid (OS.nil_ _ _), Lib.hid (Gr.refl _)⟩
  case round =>
    obtain ⟨k, A1, c1, hk, rfl, rfl, ho, hg⟩ := hrel
    by_cases hlt : k < n
    · have ii : (k : Int) < (n : Int) := by omega
      obtain ⟨q, hq⟩ : ∃ q, x.W[k]? = some q := ⟨_, List.getElem?_eq_getElem (by rw [hn.out]; exact hlt)⟩
      obtain ⟨b, cp', hv', hb, x0, x1, -⟩ := (h.out.gr hg.out).stag hq
      rw [hv.out, hn.out] at hv'
      injection hv' with e1 _ e3
      subst e1 e3
      obtain ⟨qk, qd, qA, qc⟩ := q
      simp only at x0 x1
      obtain ⟨m, hm⟩ : ∃ m, qd.length = m := ⟨_, rfl⟩
      rw [hm] at x1
      have htk : Hid ((x.W.take (k + 1)).map (·.k) = (x.W.take k).map (·.k) ++ [qk]) := Lib.hid (by rw [List.take_add_one, hq, List.map_append]; rfl)
      have hlk : Hid (((x.W.take k).map (·.k)).length ≤ 1000) := Lib.hid (by rw [List.length_map, List.length_take]; omega)
      obtain ⟨W, hW⟩ : ∃ W, wr.alloc (.cells #[.string (bs qk), .slice qA m qc] 67) = W := ⟨_, rfl⟩
      have hgW : Gr wr W := by rw [← hW]; exact Gr.alloc _ _
      have hbW : W.heap[wr.heap.size]? = some (.cells #[.string (bs qk), .slice qA m qc] 67 (0, 0)) := by rw [← hW]; exact heap_alloc_new wr _
      have y0 := blk_cell (j := 0) hbW rfl
      have hg2 : Hid (Gr w (W.alloc (.cells #[.string (bs qk)] 9))) := Lib.hid ((hg.out.trans hgW).trans (Gr.alloc _ _))
      have ho2 := Lib.hid (OS.below (Gr.alloc W (.cells #[.string (bs qk)] 9)) (OS.below hgW ho.out))
      replace hbW := Lib.hid hbW
      replace hgW := Lib.hid hgW
      replace hm := Lib.hid hm
      replace hq := Lib.hid hq
      clear ho hg
      go_upto_region 7 with (fail)
      replace hW := Lib.hid hW
      clear x0 x1
      go_wp2_with (at_builtin; go_must (refine wpl_appS rfl (.tmp 17) (.tmp 20) rfl B0 (.slice A1 k c1) _ rfl ho2.out (some ⟨W.heap.size, 0, none⟩) 1 (W.heap.size + 1) qk rfl (sV_lit W qk) (by have := hlk.out; omega) (hlow.out _ hg2.out) ?_); intro v6 w6 ho6 hg6; rw [← htk.out] at ho6; have hb6 := Lib.hid (hgo.out _ _ hg2.out ((Below.refl B0 _).grown hg6 (hlow.out _ hg2.out) (fun j hj => (World.ownsRow.lt ho2.out j hj).1))); obtain ⟨A6, c6, rfl, -, -⟩ := OS.form ho6; have hl6 : ((x.W.take (k + 1)).map (·.k)).length = k + 1 := (by have hh := hn.out; rw [List.length_map, List.length_take]; omega); rw [hl6] at ho6 ⊢; replace ho6 := Lib.hid ho6; clear hg6 hl6)
      go_roundw
      case rel => exact ⟨k + 1, A6, c6, by omega, rfl, by go_num, ho6, hb6⟩
      case measure => simp [intOf]; omega
    · obtain rfl : k = n := by omega
      go_wp2_with fail
      go_ret
      have e : (x.W.take k) = x.W := List.take_of_length_le (by rw [hn.out]; exact Nat.le_refl _)
      have ho' := ho.out
      rw [e] at ho'
      exact ⟨A1, c1, rfl, ho', hg.out⟩
set_option maxRecDepth 10000 in
set_option maxHeartbeats 1000000 in
theorem tombs_any (ht : t ≤ 1000) : Calls Try.prog 24 #[.pointer (some ⟨g, 0, none⟩)] w fun e w' => ∃ A cc, e = .returned (.slice A c.T.length cc) ∧ ON ((tombsN c.T).map neN) (.slice A c.T.length cc) w.heap.size w' ∧ Gr w w' := by
  obtain ⟨A, cp, hv⟩ : ∃ A cp, x.vt = .slice A c.T.length cp := by obtain ⟨_, _, A, cp, -, e⟩ := h.out.form; exact ⟨A, cp, e⟩
  have hbk := h.out.blk
  rw [hv] at hbk
  have c0 := blk_cell (j := 3) hbk rfl
  obtain ⟨n, hn⟩ : ∃ n, c.T.length = n := ⟨_, rfl⟩
  have hlen : n ≤ 1000 := by have h1 := h.out.few.2.2.2.1; omega
  rw [hn] at c0 ⊢
  obtain ⟨B0, hB0⟩ : ∃ B0, w.heap.size = B0 := ⟨_, rfl⟩
  have hlow : Hid (∀ y, Gr w y → B0 ≤ y.heap.size) := Lib.hid (fun y hy => by rw [← hB0]; exact Below.size hy)
  have hgo : Hid (∀ y z, Gr w y → Below B0 y z → Gr w z) := Lib.hid (fun y z h1 h2 => by unfold Gr at h1 ⊢; rw [hB0] at h1 ⊢; exact h1.trans h2)
  rw [hB0]
  replace hB0 := Lib.hid hB0
  replace hbk := Lib.hid hbk
  replace hn := Lib.hid hn
  replace hv := Lib.hid hv
  go_enter Try.func24, Try.ntmps24
  go_wp2_with fail
  go_loopw [3, 13] (fun u z wr => ∃ (k : Nat) (A1 : Option Addr) (c1 : Nat), k ≤ n ∧ u = .slice A1 k c1 ∧ z = .int .i64 k ∧ Hid (ON ((tombsN (c.T.take k)).map neN) (.slice A1 k c1) B0 wr) ∧ Hid (Gr w wr)) (fun _ z _ => (n - intOf z).toNat)
  case atStart => exact ⟨0, none, 0, Nat.zero_le _, rfl, rfl, Lib.hid (ON.nil_ _ _), Lib.hid (Gr.refl _)⟩
  case round =>
    obtain ⟨k, A1, c1, hk, rfl, rfl, ho, hg⟩ := hrel
    by_cases hlt : k < n
    · have ii : (k : Int) < (n : Int) := by omega
      obtain ⟨q, hq⟩ : ∃ q, c.T[k]? = some q := ⟨_, List.getElem?_eq_getElem (by rw [hn.out]; exact hlt)⟩
      obtain ⟨b, cp', hv', -, -, -, hb, -, -, hcell, -⟩ := row_at (h.out.gr hg.out).ts (by rw [hn.out]; omega)
      rw [hv.out, hn.out] at hv'
      injection hv' with e1 _ e3
      subst e1 e3
      have ha := flatT_at hq
      have x0 := hcell _ _ ha.1
      have x1 := hcell _ _ ha.2
      obtain ⟨qk, qg⟩ := q
      simp only at x0 x1
      have htk : Hid ((tombsN (c.T.take (k + 1))).map neN = (tombsN (c.T.take k)).map neN ++ [neN ⟨6, qk, qg, 0, [], [], 1, []⟩]) := Lib.hid (by unfold tombsN; rw [List.take_add_one, hq, List.map_append, List.map_append]; rfl)
      have hlk : Hid (((tombsN (c.T.take k)).map neN).length ≤ 1000) := Lib.hid (by unfold tombsN; rw [List.length_map, List.length_map, List.length_take]; omega)
      have hl6 : Hid (((tombsN (c.T.take (k + 1))).map neN).length = k + 1) := Lib.hid (by have hh := hn.out; unfold tombsN; rw [List.length_map, List.length_map, List.length_take]; omega)
      obtain ⟨W, hW⟩ : ∃ W, wr.alloc (.cells #[.string (bs qk), .int .i64 qg] 85) = W := ⟨_, rfl⟩
      have hgW : Gr wr W := by rw [← hW]; exact Gr.alloc _ _
      have hbW : W.heap[wr.heap.size]? = some (.cells #[.string (bs qk), .int .i64 qg] 85 (0, 0)) := by rw [← hW]; exact heap_alloc_new wr _
      have y0 := blk_cell (j := 0) hbW rfl
      have y1 := blk_cell (j := 1) hbW rfl
      have hlit : Hid (Reads _ _ 8 _ 1 _) := Lib.hid (Reads.noteLit W (neN ⟨6, qk, qg, 0, [], [], 1, []⟩))
      have hg2 : Hid (Gr w (W.alloc (.cells (neN ⟨6, qk, qg, 0, [], [], 1, []⟩).cells.toArray 32))) := Lib.hid ((hg.out.trans hgW).trans (Gr.alloc _ _))
      have ho2 := ON.gr (Gr.alloc W (.cells (neN ⟨6, qk, qg, 0, [], [], 1, []⟩).cells.toArray 32)) (ON.gr hgW ho)
      replace hbW := Lib.hid hbW
      replace hgW := Lib.hid hgW
      replace hq := Lib.hid hq
      clear ho hg ha hcell
      go_upto_region 7 with (fail)
      replace hW := Lib.hid hW
      clear x0 x1
      go_wp2_with (at_builtin; go_must (refine wpl_appN rfl (.tmp 17) (.tmp 23) rfl B0 (.slice A1 k c1) _ (neN ⟨6, qk, qg, 0, [], [], 1, []⟩) rfl ho2.out (some ⟨W.heap.size, 0, none⟩) 1 rfl hlit.out (neN_v rfl rfl _) (neN_apt rfl rfl _) (by have := hlk.out; omega) (hlow.out _ hg2.out) ?_); intro v6 w6 ho6 hg6 hb6; rw [← htk.out] at ho6; replace hb6 := Lib.hid (hgo.out _ _ hg2.out hb6); obtain ⟨A6, c6, rfl, -, -⟩ := ON.form ho6; rw [hl6.out] at ho6 ⊢; replace ho6 := Lib.hid ho6; clear hg6)
      go_roundw
      case rel => exact ⟨k + 1, A6, c6, by omega, rfl, by go_num, ho6, hb6⟩
      case measure => simp [intOf]; omega
    · obtain rfl : k = n := by omega
      go_wp2_with fail
      go_ret
      have e : (c.T.take k) = c.T := List.take_of_length_le (by rw [hn.out]; exact Nat.le_refl _)
      have ho' := ho.out
      rw [e] at ho'
      exact ⟨A1, c1, rfl, ho', hg.out⟩
def usedC (W : List (By × By)) : Nat := (W.map (fun e => e.2.length)).sum
set_option maxRecDepth 10000 in
set_option maxHeartbeats 1000000 in
theorem used_any (ht : t ≤ 1000) : Calls Try.prog 25 #[.pointer (some ⟨g, 0, none⟩)] w fun e w' => e = .returned (.int .i64 (usedC c.W)) ∧ Gr w w' := by
  obtain ⟨A, cp, hv⟩ : ∃ A cp, x.vs = .slice A x.W.length cp := by obtain ⟨A, cp, _, _, e, -⟩ := h.out.form; exact ⟨A, cp, e⟩
  have hbk := h.out.blk
  rw [hv] at hbk
  have c0 := blk_cell (j := 0) hbk rfl
  obtain ⟨n, hn⟩ : ∃ n, x.W.length = n := ⟨_, rfl⟩
  have hlen : n ≤ 1000 := by have h1 := h.out.few.1; rw [h.out.wc, List.length_map] at h1; omega
  rw [hn] at c0
  have hwc : Hid (∀ k, usedC (c.W.take k) = ((x.W.take k).map (fun q => q.d.length)).sum) := Lib.hid (fun k => by rw [h.out.wc, ← List.map_take]; unfold usedC; rw [List.map_map]; rfl)
  have hok : Hid (∀ k, usedC (c.W.take k) ≤ 512 * k) := Lib.hid (fun k => by
    unfold usedC
    induction k with
    | zero => simp
    | succ k ih =>
      rw [List.take_add_one, List.map_append, List.sum_append]
      cases hq : c.W[k]? with
      | none =>
        simp only [Option.toList_none, List.map_nil, List.sum_nil]
        omega
      | some q =>
        have := (h.out.ok.okW q (List.mem_of_getElem? hq)).2
        simp only [Option.toList_some, List.map_cons, List.map_nil, List.sum_cons, List.sum_nil]
        omega)
  replace hbk := Lib.hid hbk
  replace hn := Lib.hid hn
  replace hv := Lib.hid hv
  go_enter Try.func25, Try.ntmps25
  go_wp2_with fail
  go_loopw [3, 13] (fun u z wr => ∃ (k m : Nat), k ≤ n ∧ u = .int .i64 m ∧ z = .int .i64 k ∧ Hid (usedC (c.W.take k) = m) ∧ Hid (Gr w wr)) (fun _ z _ => (n - intOf z).toNat)
  case atStart => exact ⟨0, 0, Nat.zero_le _, rfl, rfl, Lib.hid rfl, Lib.hid (Gr.refl _)⟩
  case round =>
    obtain ⟨k, m, hk, rfl, rfl, hm, hg⟩ := hrel
    by_cases hlt : k < n
    · have ii : (k : Int) < (n : Int) := by omega
      obtain ⟨q, hq⟩ : ∃ q, x.W[k]? = some q := ⟨_, List.getElem?_eq_getElem (by rw [hn.out]; exact hlt)⟩
      obtain ⟨b, cp', hv', hb, x0, x1, -⟩ := (h.out.gr hg.out).stag hq
      rw [hv.out, hn.out] at hv'
      injection hv' with e1 _ e3
      subst e1 e3
      obtain ⟨qk, qd, qA, qc⟩ := q
      simp only at x0 x1
      obtain ⟨nd, hnd⟩ : ∃ m, qd.length = m := ⟨_, rfl⟩
      rw [hnd] at x1
      have hm2 : Hid (usedC (c.W.take (k + 1)) = m + nd) := Lib.hid (by rw [← hm.out, hwc.out, hwc.out, List.take_add_one, hq, List.map_append, List.sum_append, ← hnd]; simp)
      have hbd : m + nd ≤ 1000000 := by have := hok.out (k + 1); rw [hm2.out] at this; omega
      have hadd : IntKind.i64.wrap ((m : Int) + (nd : Int)) = ((m + nd : Nat) : Int) := by rw [IntKind.wrap_i64]; omega
      obtain ⟨W, hW⟩ : ∃ W, wr.alloc (.cells #[.string (bs qk), .slice qA nd qc] 67) = W := ⟨_, rfl⟩
      have hgW : Gr wr W := by rw [← hW]; exact Gr.alloc _ _
      have hbW : W.heap[wr.heap.size]? = some (.cells #[.string (bs qk), .slice qA nd qc] 67 (0, 0)) := by rw [← hW]; exact heap_alloc_new wr _
      have y1 := blk_cell (j := 1) hbW rfl
      have hg2 := Lib.hid (hg.out.trans hgW)
      replace hbW := Lib.hid hbW
      replace hgW := Lib.hid hgW
      replace hnd := Lib.hid hnd
      replace hq := Lib.hid hq
      clear hg
      go_upto_region 7 with (fail)
      replace hW := Lib.hid hW
      clear x0 x1
      go_wp2_with fail
      go_roundw
      case rel => exact ⟨k + 1, m + nd, by omega, by first | rfl | go_num, by go_num, hm2, hg2⟩
      case measure => simp [intOf]; omega
    · obtain rfl : k = n := by omega
      go_wp2_with fail
      go_ret
      have e : (c.W.take k) = c.W := List.take_of_length_le (by rw [h.out.wc, List.length_map, hn.out]; exact Nat.le_refl _)
      have hm' := hm.out
      rw [e] at hm'
      exact ⟨by rw [hm']; rfl, hg.out⟩
set_option maxRecDepth 10000 in
set_option maxHeartbeats 1000000 in
theorem data_any (ht : t ≤ 1000) (k : By) : Calls Try.prog 20 #[.pointer (some ⟨g, 0, none⟩), .string (bs k)] w fun e w' => ∃ A cc, e = .returned (.tuple #[.slice A (getP c.W k []).length cc, .bool (hasP c.W k)]) ∧ OB w' w.heap.size (.slice A (getP c.W k []).length cc) (getP c.W k []) ∧ Gr w w' := by
  have hst := Lib.hid (stagedAt_any lo g t x c w h ht k)
  have hW := Lib.hid (h.out.hasW k)
  go_enter Try.func20, Try.ntmps20
  go_upto_region 2 with (go_at_call 44; go_must (refine hst.out.mono ?_); clear hst; rintro e w5 ⟨hg5, ⟨rfl, hno⟩ | ⟨i, q, rfl, hq, hqk, hyes⟩⟩)
  · have hno' : Hid (hasP c.W k = false) := Lib.hid (by rw [hW.out, hno])
    clear hno
    go_wp2_with fail
    go_ret2
    rw [hno'.out, getP_no hno'.out]
    exact ⟨none, 0, rfl, OB.nil_ _ _, hg5⟩
  · have hyes' : Hid (hasP c.W k = true) := Lib.hid (by rw [hW.out, hyes])
    have hmem : (k, q.d) ∈ c.W := by rw [h.out.wc]; exact List.mem_map.mpr ⟨q, List.mem_of_getElem? hq, by rw [hqk]⟩
    have hgt : Hid (getP c.W k [] = q.d) := Lib.hid (getP_mem h.out.ok.dW hmem _)
    have hc5 := h.out.gr hg5
    obtain ⟨b, cp', hv', hb, x0, x1, -⟩ := hc5.stag hq
    have hbk := hc5.blk
    rw [hv'] at hbk
    have c0 := blk_cell (j := 0) hbk rfl
    have hrow := hc5.wd q (List.mem_of_getElem? hq)
    have hd512 := (h.out.ok.okW _ hmem).2
    have hin : i < x.W.length := (List.getElem?_eq_some_iff.mp hq).1
    have hrd : Rd w5 w5.heap.size q.A q.d := by unfold Wt.v at hrow; exact (OB.rd hrow).1
    have hcl := Lib.hid (clone_any q.A q.d.length q.c q.d rfl (by simp only at hd512; omega) w5 hrd)
    have hlw : x.W.length ≤ 1000 := by have h1 := h.out.few.1; rw [h.out.wc, List.length_map] at h1; omega
    replace hbk := Lib.hid hbk
    replace hq := Lib.hid hq
    generalize x.W.length = n at c0 hin hlw
    generalize q.d.length = m at x1 hcl
    have ii : (i : Int) < (n : Int) := by omega
    have i0 : decide ((i : Int) < 0) = false := decide_eq_false (by omega)
    replace hrow := Lib.hid hrow
    replace hrd := Lib.hid hrd
    replace hmem := Lib.hid hmem
    replace hc5 := Lib.hid hc5
    replace hv' := Lib.hid hv'
    replace hqk := Lib.hid hqk
    replace hg5 := Lib.hid hg5
    clear hyes hd512
    go_wp2_with (go_at_call 28; go_must (refine hcl.out.mono ?_); clear hcl; rintro e w6 ⟨v6, rfl, ho6, hb6⟩)
    go_ret2
    rw [hgt.out, hyes'.out]
    obtain ⟨A6, c6, rfl, -⟩ := ho6.form
    exact ⟨A6, c6, rfl, row_more ho6 (Below.size hg5.out), hg5.out.trans hb6⟩
end
end Go.Proofs.Ythboeoidgglcgaa
