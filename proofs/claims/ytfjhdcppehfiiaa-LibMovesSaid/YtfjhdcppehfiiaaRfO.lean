/- The reference cartridge, with the old blocks that an act on it may turn: its own alone. -/
import Derived.Test.YtfjhdcppehfiiaaStrs
import Derived.Test.YtfjhdcppehfiiaaCartO
import Derived.Deep.CutBlock
namespace Go.Proofs.Ytfjhdcppehfiiaa
set_option linter.unusedVariables false
set_option linter.unusedSimpArgs false
open Go Go.RowKit
/-- block g is the reference's cartridge in this state -/
def Rt (w : World) (lo g : Nat) (s : CS) : Prop :=
  ∃ v1 v2, w.heap[g]? = some (.cells #[v1, v2, .int .i64 s.most, .bool s.lost] 99 (0, 0)) ∧ lo ≤ g ∧ SRow w lo v1 (s.recs.map (·.1)) ∧ BRow w lo v2 (s.recs.map (·.2)) ∧ s.Ok
abbrev RT : List TypeId := [99, 9, 4]
section
variable {w w' : World} {lo g : Nat} {s : CS}
theorem Rt.tchg {lo' : Nat} {ts : List TypeId} (h : Rt w lo g s) (hc : TChg lo' ts w w') (h0 : 99 ∉ ts) (h1 : 9 ∉ ts) (h2 : 4 ∉ ts) : Rt w' lo g s := by
  obtain ⟨v1, v2, a, b, c, d, e⟩ := h
  exact ⟨v1, v2, hc.block a h0, b, row_tchg c hc h1, row_tchg d hc h2, e⟩
theorem Rt.below (h : Rt w lo g s) (hb : Below w.heap.size w w') : Rt w' lo g s := h.tchg (lo' := 0) (ts := []) (TChg.of_below hb) (by simp) (by simp) (by simp)
theorem Rt.drewN (h : Rt w lo g s) (n : Nat) : Rt (w.drewN n) lo g s := h
theorem Rt.ok (h : Rt w lo g s) : s.Ok := by obtain ⟨v1, v2, a, b, c, d, e⟩ := h; exact e
theorem Rt.open_ (h : Rt w lo g s) : ∃ A1 c1 A2 c2, w.heap[g]? = some (.cells #[.slice A1 s.recs.length c1, .slice A2 s.recs.length c2, .int .i64 s.most, .bool s.lost] 99 (0, 0)) ∧ lo ≤ g ∧ SRow w lo (.slice A1 s.recs.length c1) (s.recs.map (·.1)) ∧ BRow w lo (.slice A2 s.recs.length c2) (s.recs.map (·.2)) ∧
    w.cell? ⟨g, 0, none⟩ = some (.slice A1 s.recs.length c1) ∧ w.cell? ⟨g, 1, none⟩ = some (.slice A2 s.recs.length c2) ∧ w.cell? ⟨g, 2, none⟩ = some (.int .i64 s.most) ∧ w.cell? ⟨g, 3, none⟩ = some (.bool s.lost) ∧ s.recs.length ≤ c1 ∧ c1 ≤ maxLen ∧ s.recs.length ≤ c2 ∧ c2 ≤ maxLen := by
  obtain ⟨v1, v2, a, b, c, d, e⟩ := h
  obtain ⟨A1, c1, rfl, h1, h2⟩ := row_form c
  obtain ⟨A2, c2, rfl, h3, h4⟩ := row_form d
  simp only [List.length_map] at *
  exact ⟨A1, c1, A2, c2, a, b, c, d, blk_cell a rfl, blk_cell a rfl, blk_cell a rfl, blk_cell a rfl, h1, h2, h3, h4⟩
end
/-- block k is a row of cartridge g -/
def RRow (w : World) (g k : Nat) : Prop := ∃ v1 v2 a b, w.heap[g]? = some (.cells #[v1, v2, a, b] 99 (0, 0)) ∧ (v1.ownBlock = some k ∨ v2.ownBlock = some k)
def OwnR (w : World) (g k : Nat) : Prop := k = g ∨ RRow w g k
/-- of the old blocks only cartridge g and its rows may have turned; its rows are the old ones, or new -/
def RFr (w w' : World) (g : Nat) : Prop := Upd (OwnR w g) w w' ∧ ∀ k, RRow w' g k → RRow w g k ∨ w.heap.size ≤ k
theorem RFr.refl (w : World) (g : Nat) : RFr w w g := ⟨Upd.refl _ _, fun k h => .inl h⟩
theorem RFr.drewN (w : World) (n g : Nat) : RFr w (w.drewN n) g := ⟨⟨rfl, rfl, rfl, Nat.le_refl _, fun _ _ _ => rfl⟩, fun k h => .inl h⟩
theorem RFr.of_keep {w w' : World} {g : Nat} (h : Upd (OwnR w g) w w') (hk : w'.heap[g]? = w.heap[g]?) : RFr w w' g := ⟨h, fun k ⟨v, a, b, c, h1, h2⟩ => .inl ⟨v, a, b, c, by rw [← hk]; exact h1, h2⟩⟩
theorem RFr.of_below {w w' : World} {g : Nat} (h : Below w.heap.size w w') (hg : g < w.heap.size) : RFr w w' g := .of_keep (Upd.of_below h) (h.block g hg)
theorem RFr.trans {x y z : World} {g : Nat} (h1 : RFr x y g) (h2 : RFr y z g) : RFr x z g := by
  refine ⟨⟨h1.1.1.trans h2.1.1, h1.1.2.1.trans h2.1.2.1, h1.1.2.2.1.trans h2.1.2.2.1, Nat.le_trans h1.1.2.2.2.1 h2.1.2.2.2.1, fun k hk hn => ?_⟩, fun k hk => ?_⟩
  · have hk2 := Nat.lt_of_lt_of_le hk h1.1.2.2.2.1
    refine (h2.1.2.2.2.2 k hk2 (fun h => ?_)).trans (h1.1.2.2.2.2 k hk hn)
    rcases h with h | h
    · exact hn (.inl h)
    · rcases h1.2 k h with h | h
      · exact hn (.inr h)
      · omega
  · rcases h2.2 k hk with h | h
    · exact h1.2 k h
    · exact .inr (Nat.le_trans h1.1.2.2.2.1 h)
theorem rrow_of {w : World} {g k : Nat} {v1 v2 a b : Value} (hh : w.heap[g]? = some (.cells #[v1, v2, a, b] 99 (0, 0))) (h : RRow w g k) : v1.ownBlock = some k ∨ v2.ownBlock = some k := by
  obtain ⟨x1, x2, x3, x4, h1, h2⟩ := h
  rw [hh] at h1
  injection h1 with h1
  injection h1 with h1
  have e1 : v1 = x1 := by
    have := congrArg (fun x : Array Value => x[0]?) h1
    simpa using this
  have e2 : v2 = x2 := by
    have := congrArg (fun x : Array Value => x[1]?) h1
    simpa using this
  rw [e1, e2]; exact h2
/-- a row grows -/
theorem RFr.grown {w w' : World} {g : Nat} {v1 v2 a b : Value} {ob : Option Nat} (hh : w.heap[g]? = some (.cells #[v1, v2, a, b] 99 (0, 0))) (hg : w.grownBy w' ob) (ho : ∀ k, ob = some k → RRow w g k) (hne : ob ≠ some g) : RFr w w' g := by
  refine .of_keep ?_ ?_
  · cases ob with
    | none => exact Upd.of_below ((Below.refl _ _).grown hg (Nat.le_refl _) (fun _ h => by cases h))
    | some k => exact Upd.of_grown hg (.inr (ho k rfl))
  · rw [hh]; exact blk_grow hh hg hne
/-- a cell of the cartridge itself -/
theorem RFr.set_from {x y : World} {g j : Nat} {v1 v2 a b u : Value} (h : RFr x y g) (hh : y.heap[g]? = some (.cells #[v1, v2, a, b] 99 (0, 0))) (hu : ∀ k, u.ownBlock = some k → RRow x g k ∨ x.heap.size ≤ k) : RFr x (y.setCell ⟨g, j, none⟩ u) g := by
  have e : Upd (OwnR x g) y (y.setCell ⟨g, j, none⟩ u) := Upd.of_grown (blk_grown y g j u) (.inl rfl)
  refine ⟨h.1.trans e, fun k hk => ?_⟩
  obtain ⟨x1, x2, x3, x4, h1, h2⟩ := hk
  rw [blk_set hh j u] at h1
  injection h1 with h1
  injection h1 with h1
  have old : (v1.ownBlock = some k ∨ v2.ownBlock = some k) → RRow x g k ∨ x.heap.size ≤ k := fun ho => h.2 k ⟨_, _, _, _, hh, ho⟩
  have e1 : (#[v1, v2, a, b].setIfInBounds j u)[0]? = some x1 := by rw [h1]; rfl
  have e2 : (#[v1, v2, a, b].setIfInBounds j u)[1]? = some x2 := by rw [h1]; rfl
  rcases h2 with h2 | h2
  · by_cases hj : j = 0
    · subst hj
      have : x1 = u := by simpa using e1.symm
      exact hu k (by rw [← this]; exact h2)
    · rw [Array.getElem?_setIfInBounds_ne hj] at e1
      have : x1 = v1 := by simpa using e1.symm
      exact old (.inl (by rw [← this]; exact h2))
  · by_cases hj : j = 1
    · subst hj
      have : x2 = u := by simpa using e2.symm
      exact hu k (by rw [← this]; exact h2)
    · rw [Array.getElem?_setIfInBounds_ne hj] at e2
      have : x2 = v2 := by simpa using e2.symm
      exact old (.inr (by rw [← this]; exact h2))
/-- a cell of a row -/
theorem RFr.set_row {w : World} {g k : Nat} {v1 v2 a b : Value} {cs : Array Value} {T : TypeId} (hh : w.heap[g]? = some (.cells #[v1, v2, a, b] 99 (0, 0))) (hr : RRow w g k) (hcs : w.heap[k]? = some (.cells cs T (0, 0))) (hT : T ≠ 99) (j : Nat) (u : Value) : RFr w (w.setCell ⟨k, j, none⟩ u) g := by
  have hne : g ≠ k := fun e => by
    rw [← e, hh] at hcs
    injection hcs with hcs
    injection hcs with _ hcs
    exact hT hcs.symm
  exact .of_keep (Upd.of_grown (blk_grown w k j u) (.inr hr)) (blk_other hne j u)
section
variable {w : World} {ops : Array Oper} {rest : List Oper} {o : Oper} {a : Act} {Q : Exit → Act → World → Prop}
theorem wpl_append_boolsO (hgd : o.guard = none) (s x : Operand)
    (ho : o.op = .call { callee := .builtin .append, args := #[s, x], argTypes := #[97, 97] })
    (base : Nat) (v : Value) (L : List Bool) (hs : a.eval s = v) (hown : BRow w base v L)
    (B : Nat) (A : Option Addr) (c : Nat) (news : List Bool) (m : Nat) (hm : news.length = m) (hx : a.eval x = .slice A m c) (hr : Reads w B 1 A m (news.map Value.bool))
    (hlen : L.length + m ≤ 140737488355328) (hbase : base ≤ w.heap.size)
    (h : ∀ v' w', BRow w' base v' (L ++ news) → w.grownBy w' v.ownBlock → (v'.ownBlock = v.ownBlock ∨ v'.ownBlock = some w.heap.size) → wpList Try.prog ops Q rest (a.put o.dst v') w') : wpList Try.prog ops Q (o :: rest) a w := by
  obtain ⟨i0, hi, hz0, hz1, hz2⟩ := info_parts info_bool
  refine wpList_plain hgd fun _ hK => wp_append_any w s x 97 ho base 4 i0 _ 1 1 Try.underlying97 hi hz0 hz1 hz2 rfl (by omega) v L.length (L.map Value.bool) hs hown B A m c (news.map Value.bool) hx hr (fun u hu => by obtain ⟨x, _, rfl⟩ := List.mem_map.mp hu; rfl)
    (by simp only [maxLen]; omega) (by omega) hbase fun v' w' h2 h3 h4 => hK _ _ (h v' w' ?_ h3 h4)
  unfold BRow
  rw [List.length_append, List.map_append, hm]
  exact h2
end
set_option maxRecDepth 10000 in
theorem rnew_any (z : Int) (hz : I64 z) (w : World) :
    Calls Try.prog 36 #[.int .i64 z] w fun e w' => e = .returned (.pointer (some ⟨w.heap.size, 0, none⟩)) ∧ Rt w' w.heap.size w.heap.size ⟨[], (min (max z 0) 1024).toNat, false⟩ ∧ Below w.heap.size w w' := by
  obtain ⟨m, hm⟩ : ∃ m : Nat, (m : Int) = min (max z 0) 1024 := ⟨(min (max z 0) 1024).toNat, by omega⟩
  have hm2 : (min (max z 0) 1024).toNat = m := by omega
  rw [hm2]
  have hm3 : m ≤ 1024 := by omega
  replace hm := Lib.hid hm
  replace hm2 := Lib.hid hm2
  rcases (by have := hm.out; omega : (z < 0 ∧ (m : Int) = 0) ∨ (0 ≤ z ∧ z ≤ 1024 ∧ (m : Int) = z) ∨ (1024 < z ∧ (m : Int) = 1024)) with ⟨h1, hme⟩ | ⟨h1, h2, hme⟩ | ⟨h1, hme⟩
  all_goals
    replace hme := Lib.hid hme
    go_enter Try.func36, Try.ntmps36
    go_wp2
    try rw [← hme.out]
    go_ret
    exact ⟨rfl, ⟨_, _, by first | exact heap_alloc_new w _ | (rw [hme.out]; exact heap_alloc_new w _), Nat.le_refl _, World.ownsRow_nil _ _ _ 1, World.ownsRow_nil _ _ _ 1, ⟨Nat.zero_le _, hm3, fun r h => (by cases h)⟩⟩, (Below.refl _ _).alloc (Nat.le_refl _) _⟩
theorem bool_step {x y w6 : World} {lo g N c1 c2 c4 : Nat} {A3 A2 A4 : Option Addr} {m l : Value} {Z : List Bool} {cc : Array Value} {T : TypeId} (h : RFr x y g) (hh : y.heap[g]? = some (.cells #[.slice A3 (N + 1) c1, .slice A2 N c2, m, l] 99 (0, 0))) (hz : BRow y lo (.slice A2 N c2) Z) (hg : (y.alloc (.cells cc T)).grownBy w6 (Value.slice A2 N c2).ownBlock) (hv : (Value.slice A4 (N + 1) c4).ownBlock = (Value.slice A2 N c2).ownBlock ∨ (Value.slice A4 (N + 1) c4).ownBlock = some (y.alloc (.cells cc T)).heap.size)
    (hh6 : w6.heap[g]? = some (.cells #[.slice A3 (N + 1) c1, .slice A2 N c2, m, l] 99 (0, 0))) (hro : ∀ k, (Value.slice A2 N c2).ownBlock = some k → RRow x g k) : RFr x (w6.setCell ⟨g, 1, none⟩ (.slice A4 (N + 1) c4)) g := by
  have hnA := row_ne hz hh (by decide)
  have hf1 : RFr y (y.alloc (.cells cc T)) g := RFr.of_below ((Below.refl _ _).alloc (Nat.le_refl _) _) (blk_lt hh)
  have hf2 := (h.trans hf1).trans (RFr.grown (blk_alloc hh _) hg (fun k hk => ⟨_, _, _, _, blk_alloc hh _, .inr hk⟩) hnA)
  refine hf2.set_from (j := 1) hh6 (fun k hk => ?_)
  rcases hv with h11 | h11
  · exact .inl (hro k (by rw [← h11]; exact hk))
  · rw [h11] at hk
    injection hk with hk
    right
    have := h.1.2.2.2.1
    simp at hk
    omega
set_option maxHeartbeats 1000000 in
set_option maxRecDepth 10000 in
theorem rappend_any (lo g : Nat) (s : CS) (A : Option Addr) (n c : Nat) (b : List UInt8) (hn : b.length = n) (hnm : n ≤ maxLen) (w : World) (h : Rt w lo g s) (hlw : lo ≤ w.heap.size) (hrd : Rd w lo A b) :
    Calls Try.prog 54 #[.pointer (some ⟨g, 0, none⟩), .slice A n c] w fun e w' => e = .returned (.tuple #[.int .i64 (s.append b).1, .int .i64 (s.append b).2.1]) ∧ Rt w' lo g (s.append b).2.2 ∧ TChg lo RT w w' ∧ RFr w w' g := by
  obtain ⟨A1, c1, A2, c2, hh, hg, hs, hz, q0, q1, q2, q3, hc1, hm1, hc2, hm2⟩ := h.open_
  have hrl := h.ok.recs
  have hmo := h.ok.most
  have hok := Lib.hid h.ok
  unfold maxLen at hnm hm1 hm2
  replace h := Lib.hid h
  replace hrd := Lib.hid hrd
  replace hn := Lib.hid hn
  replace hh := Lib.hid hh
  replace hs := Lib.hid hs
  replace hz := Lib.hid hz
  obtain ⟨r, hr⟩ : ∃ r, s.append b = r := ⟨_, rfl⟩
  rw [hr]
  unfold CS.append at hr
  rw [hn.out] at hr
  by_cases h1 : n < 1
  · rw [if_pos (.inl h1)] at hr
    subst hr
    obtain rfl : n = 0 := by omega
    go_enter Try.func54, Try.ntmps54
    go_wp2
    go_ret2
    exact ⟨rfl, h.out, TChg.refl _ _ _, RFr.refl _ _⟩
  · by_cases h2 : 256 < n
    · rw [if_pos (.inr h2)] at hr
      subst hr
      go_enter Try.func54, Try.ntmps54
      go_wp2
      go_ret2
      exact ⟨rfl, h.out, TChg.refl _ _ _, RFr.refl _ _⟩
    · rw [if_neg (by omega)] at hr
      cases hlo : s.lost with
      | true =>
        rw [if_pos hlo] at hr
        rw [hlo] at q3
        replace hlo := Lib.hid hlo
        subst hr
        go_enter Try.func54, Try.ntmps54
        go_wp2
        go_ret2
        exact ⟨rfl, h.out, TChg.refl _ _ _, RFr.refl _ _⟩
      | false =>
        rw [if_neg (by rw [hlo]; decide)] at hr
        rw [hlo] at q3
        replace hlo := Lib.hid hlo
        by_cases h3 : s.most ≤ s.recs.length
        · rw [if_pos h3] at hr
          subst hr
          go_enter Try.func54, Try.ntmps54
          go_wp2_with fail
          go_quiet (fail)
          go_wp2
          go_ret2
          exact ⟨rfl, h.out.drewN _, TChg.drewN _ _, RFr.drewN _ _ _⟩
        · rw [if_neg h3] at hr
          replace hr := Lib.hid hr
          obtain ⟨N, hN⟩ : ∃ N, s.recs.length = N := ⟨_, rfl⟩
          obtain ⟨L, hL⟩ : ∃ L, s.recs.map (·.1) = L := ⟨_, rfl⟩
          obtain ⟨Z, hZ⟩ : ∃ Z, s.recs.map (·.2) = Z := ⟨_, rfl⟩
          rw [hN] at hrl hh hs hz q0 q1 hc1 hc2 h3
          rw [hL] at hs
          rw [hZ] at hz
          have hLN : L.length = N := by rw [← hL, List.length_map, hN]
          have hZN : Z.length = N := by rw [← hZ, List.length_map, hN]
          have hs' : Hid (w.ownsRow lo 9 1 (.slice A1 N c1) N (L.map sv)) := Lib.hid (by have := hs.out; unfold SRow at this; rw [hLN] at this; exact this)
          have hz' : Hid (w.ownsRow lo 4 1 (.slice A2 N c2) N (Z.map Value.bool)) := Lib.hid (by have := hz.out; unfold BRow at this; rw [hZN] at this; exact this)
          clear hs hz
          have hs := hs'
          have hz := hz'
          clear hs' hz'
          have hro1 : Hid (∀ k, (Value.slice A1 N c1).ownBlock = some k → RRow w g k) := Lib.hid (fun k hk => ⟨_, _, _, _, hh.out, .inl hk⟩)
          have hro2 : Hid (∀ k, (Value.slice A2 N c2).ownBlock = some k → RRow w g k) := Lib.hid (fun k hk => ⟨_, _, _, _, hh.out, .inr hk⟩)
          have hglt : Hid (g < w.heap.size) := Lib.hid (blk_lt hh.out)
          replace hN := Lib.hid hN
          replace hL := Lib.hid hL
          replace hZ := Lib.hid hZ
          replace hLN := Lib.hid hLN
          replace hZN := Lib.hid hZN
          have hd := decide_eq_false (p := (s.most : Int) ≤ N) (by omega)
          have hZ1 : Hid ((Z ++ [false]).length = N + 1) := Lib.hid (by rw [List.length_append, hZN.out]; rfl)
          obtain ⟨i0, hi0, hz0, hz1, hz2'⟩ := info_parts info_bool
          obtain ⟨j0, hj0, hy0, hy1, hy2⟩ := info_parts info_str
          go_enter Try.func54, Try.ntmps54
          go_wp2_with fail
          go_quiet (fail)
          go_wp2_with fail
          obtain ⟨w0, hw0⟩ : ∃ w0, w.drewN nq = w0 := ⟨_, rfl⟩
          rw [hw0]
          have hch0 : Hid (TChg lo RT w w0.drew) := Lib.hid (by rw [← hw0]; exact TChg.drewN w nq)
          have hf0 : Hid (RFr w w0.drew g) := Lib.hid (by rw [← hw0]; exact RFr.drewN w nq g)
          replace hh : Hid (w0.drew.heap[g]? = some (.cells #[.slice A1 N c1, .slice A2 N c2, .int .i64 s.most, .bool s.lost] 99 (0, 0))) := Lib.hid (by rw [← hw0]; exact hh.out)
          have hsD : Hid (w0.drew.ownsRow lo 9 1 (.slice A1 N c1) N (L.map sv)) := Lib.hid (by rw [← hw0]; exact hs.out)
          replace hz : Hid (w0.drew.ownsRow lo 4 1 (.slice A2 N c2) N (Z.map Value.bool)) := Lib.hid (by rw [← hw0]; exact hz.out)
          replace hrd : Hid (Rd w0.drew lo A b) := Lib.hid (by rw [← hw0]; exact hrd.out)
          replace hlw : lo ≤ w0.drew.heap.size := by rw [← hw0]; exact hlw
          clear hs h q0 q1 q2 q3
          replace hw0 := Lib.hid hw0
          obtain ⟨wd, hwd⟩ : ∃ wd, wd = w0.drew := ⟨_, rfl⟩
          rw [← hwd] at hch0 hf0 hh hsD hz hrd hlw
          refine wpR_region (TChg lo [9]) 11 (by kernel_rfl) ?_
          (rw [← hwd]; replace hwd := Lib.hid hwd)
          refine wpR_take (i := 0) (v := ?_) (TChg.road _ _) (some 28) rfl (by kernel_rfl) (by kernel_rfl) (by kernel_rfl) (by kernel_rfl) (by kernel_rfl) (fun _ _ _ h => h) (by kernel_rfl) (fun w' hw' => ?_) ?_
          rotate_left
          · go_simp; with_reducible rfl
          simp only [Act.put, List.setIfInBounds_toArray, List.set_cons_zero, List.set_cons_succ]
          refine wpR_take (i := 1) (v := ?_) (TChg.road _ _) (some 29) rfl (by kernel_rfl) (by kernel_rfl) (by kernel_rfl) (by kernel_rfl) (by kernel_rfl) (fun _ _ _ h => h) (by kernel_rfl) (fun w' hw' => ?_) ?_
          rotate_left
          · go_simp; with_reducible rfl
          simp only [Act.put, List.setIfInBounds_toArray, List.set_cons_zero, List.set_cons_succ]
          refine wpR_take (i := 2) (v := ?_) (TChg.road _ _) (some 30) rfl (by kernel_rfl) (by kernel_rfl) (by kernel_rfl) (by kernel_rfl) (by kernel_rfl) (fun _ _ _ h => h) (by kernel_rfl) (fun w' hw' => ?_) ?_
          rotate_left
          · go_simp; with_reducible rfl
          simp only [Act.put, List.setIfInBounds_toArray, List.set_cons_zero, List.set_cons_succ]
          refine wpR_take (i := 3) (v := ?_) (TChg.road _ _) (some 31) rfl (by kernel_rfl) (by kernel_rfl) (by kernel_rfl) (by kernel_rfl) (by kernel_rfl) (fun _ _ _ h => h) (by kernel_rfl) (fun w' hw' => ?_) ?_
          rotate_left
          · go_simp; with_reducible rfl
          simp only [Act.put, List.setIfInBounds_toArray, List.set_cons_zero, List.set_cons_succ]
          refine wpR_take (i := 4) (v := ?_) (TChg.road _ _) (some 32) rfl (by kernel_rfl) (by kernel_rfl) (by kernel_rfl) (by kernel_rfl) (by kernel_rfl) (fun _ _ _ h => h) (by kernel_rfl) (fun w' hw' => ?_) ?_
          rotate_left
          · have q := blk_cell (j := 0) (hw'.block hh.out (by decide)) rfl; go_simp; with_reducible rfl
          simp only [Act.put, List.setIfInBounds_toArray, List.set_cons_zero, List.set_cons_succ]
          refine wpR_take (i := 5) (v := ?_) (TChg.road _ _) (some 33) rfl (by kernel_rfl) (by kernel_rfl) (by kernel_rfl) (by kernel_rfl) (by kernel_rfl) (fun _ _ _ h => h) (by kernel_rfl) (fun w' hw' => ?_) ?_
          rotate_left
          · go_simp; with_reducible rfl
          simp only [Act.put, List.setIfInBounds_toArray, List.set_cons_zero, List.set_cons_succ]
          refine wpR_take (i := 6) (v := ?_) (TChg.road _ _) (some 34) rfl (by kernel_rfl) (by kernel_rfl) (by kernel_rfl) (by kernel_rfl) (by kernel_rfl) (fun _ _ _ h => h) (by kernel_rfl) (fun w' hw' => ?_) ?_
          rotate_left
          · have hcv := run_str_at (n := n) c (hrd.out.below (hw'.below hlw)) hn.out; go_simp; with_reducible rfl
          simp only [Act.put, List.setIfInBounds_toArray, List.set_cons_zero, List.set_cons_succ]
          refine wpR_one 7 rfl (by kernel_rfl) (by kernel_rfl) (fun K hK => ?_)
          go_simp
          refine hK _ _ (fun _ => TChg.of_alloc _ _) ?_
          clear hK K
          try simp only [Act.put, List.setIfInBounds_toArray, List.set_cons_zero, List.set_cons_succ]
          refine wpR_one 8 rfl (by kernel_rfl) (by kernel_rfl) (fun K hK => ?_)
          refine wp_append_any _ (.tmp 32) (.tmp 35) 96 rfl lo 9 j0 _ 1 16 Try.underlying96 hj0 hy0 hy1 hy2 rfl (by omega) (.slice A1 N c1) N (L.map sv) rfl (hsD.out.alloc _) _ _ 1 1 [.string (bs b)] rfl (Reads.lit1 _ _ _ _ (Nat.lt_succ_self _)) (sv_one [b]) (by unfold maxLen; omega) (by omega) (by simp; omega) ?_
          intro v2 w2 hs2 hg2 hv2
          obtain ⟨A3, c3, rfl, hc3, hm3⟩ := row_form hs2
          refine hK _ _ (fun _ => TChg.of_row (hsD.out.alloc _) hg2 (by simp)) ?_
          clear hK K
          have ht2 : TChg lo [9] wd w2 := (TChg.of_alloc wd _).trans (TChg.of_row (hsD.out.alloc _) hg2 (by simp))
          have hh2 := ht2.block hh.out (by decide)
          have hnA := row_ne hsD.out hh.out (by decide)
          have hf1 : RFr wd (wd.alloc (.cells #[.string (bs b)] 9)) g := RFr.of_below ((Below.refl _ _).alloc (Nat.le_refl _) _) (blk_lt hh.out)
          have hrD1 : ∀ k, (Value.slice A1 N c1).ownBlock = some k → RRow (wd.alloc (.cells #[.string (bs b)] 9)) g k := fun k hk => ⟨_, _, _, _, blk_alloc hh.out _, .inl hk⟩
          have hf2 := (hf0.out.trans hf1).trans (RFr.grown (blk_alloc hh.out _) hg2 hrD1 hnA)
          have hu3 : ∀ k, (Value.slice A3 (N + 1) c3).ownBlock = some k → RRow w g k ∨ w.heap.size ≤ k := fun k hk => by
            rcases hv2 with h11 | h11
            · exact .inl (hro1.out k (by rw [← h11]; exact hk))
            · rw [h11] at hk
              injection hk with hk
              right
              have := hf0.out.1.2.2.2.1
              simp at hk
              omega
          have hf3 := Lib.hid (hf2.set_from (j := 0) hh2 hu3)
          clear hnA hf1 hrD1 hf2 hu3
          have q0 := blk_cell (j := 0) hh2 rfl
          have q1 := blk_free hh2 0
          have hz2 := Lib.hid (row_tchg hz.out ht2 (by decide))
          have hset := blk_set hh2 0 (.slice A3 (N + 1) c3)
          have hs3 := Lib.hid (row_set_other hs2 g 0 (.slice A3 (N + 1) c3) (row_ne hs2 hh2 (by decide)))
          have hz3 := Lib.hid (row_set_other hz2.out g 0 (.slice A3 (N + 1) c3) (row_ne hz2.out hh2 (by decide)))
          have ht3 := Lib.hid ((ht2.mono (Nat.le_refl _) (by decide) : TChg lo [99, 9, 4] wd w2).trans (TChg.of_set hh2 (by decide) hg 0 (.slice A3 (N + 1) c3)))
          have hzz : lo ≤ w2.heap.size := Nat.le_trans hlw ht2.size
          replace hset := Lib.hid hset
          clear hs2 hg2 hv2 ht2 hh2 hz2
          try simp only [Act.put, List.setIfInBounds_toArray, List.set_cons_zero, List.set_cons_succ]
          refine wpR_one 9 rfl (by kernel_rfl) (by kernel_rfl) (fun K hK => ?_)
          go_simp
          refine hK _ _ (fun _ => TChg.refl _ _ _) ?_
          clear hK K
          try simp only [Act.put, List.setIfInBounds_toArray, List.set_cons_zero, List.set_cons_succ]
          refine wpR_take (i := 10) (v := ?_) (TChg.road _ _) (some 38) rfl (by kernel_rfl) (by kernel_rfl) (by kernel_rfl) (by kernel_rfl) (by kernel_rfl) (fun _ _ _ h => h) (by kernel_rfl) (fun w' hw' => ?_) ?_
          rotate_left
          · go_simp; with_reducible rfl
          simp only [Act.put, List.setIfInBounds_toArray, List.set_cons_zero, List.set_cons_succ]
          refine wpR_one 11 rfl (by kernel_rfl) (by kernel_rfl) (fun K hK => ?_)
          go_simp
          refine hK _ _ (fun h => absurd h (by decide)) ?_
          clear hK K
          try simp only [Act.put, List.setIfInBounds_toArray, List.set_cons_zero, List.set_cons_succ]
          refine wpR_done (by kernel_rfl) ?_ _
          obtain ⟨w5, hw5⟩ : ∃ w5, w2.setCell ⟨g, 0, none⟩ (.slice A3 (N + 1) c3) = w5 := ⟨_, rfl⟩
          have hz5' : lo ≤ w5.heap.size := by rw [← hw5, World.size_setCell]; exact hzz
          rw [hw5] at hset hs3 hz3 ht3 hf3 ⊢
          replace hset : Hid (w5.heap[g]? = some (.cells #[.slice A3 (N + 1) c3, .slice A2 N c2, .int .i64 s.most, .bool s.lost] 99 (0, 0))) := Lib.hid hset.out
          replace hz3 : Hid (BRow w5 lo (.slice A2 N c2) Z) := Lib.hid (by unfold BRow; rw [hZN.out]; exact hz3.out)
          clear q0 q1
          replace hw5 := Lib.hid hw5
          have q0 := blk_cell (j := 0) hset.out rfl
          have q1 := blk_cell (j := 1) hset.out rfl
          have hgz := blk_lt hset.out
          go_wp2_with (at_builtin; refine wpl_append_boolsO rfl (.tmp 43) (.tmp 44) rfl lo (.slice A2 N c2) Z rfl (hz3.out.alloc _) (w5.heap.size + 1) (some ⟨w5.heap.size, 0, none⟩) 1 [false] 1 rfl rfl (Reads.lit1 w5 _ _ _ (Nat.lt_succ_self _)) (by rw [hZN.out]; omega) (by simp; omega) ?_; intro v6 w6 hb6 hg6 hv6; obtain ⟨A4, c4, rfl, hn4, hc4⟩ := row_form hb6; rw [hZ1.out] at hb6 hn4 hv6 ⊢; have ht6 : TChg lo [4] w5 w6 := (TChg.of_alloc w5 _).trans (TChg.of_row (hz3.out.alloc _) hg6 (by simp)); have hh6 := ht6.block hset.out (by decide); have hf7 := Lib.hid (bool_step hf3.out hset.out hz3.out hg6 hv6 hh6 hro2.out); have p0 := blk_cell (j := 0) hh6 rfl; have p1 := blk_cell (j := 1) hh6 rfl; have p2 := blk_free hh6 1; have hs6 := Lib.hid (row_tchg hs3.out ht6 (by decide)); have hs7 := Lib.hid (row_set_other hs6.out g 1 (.slice A4 (N + 1) c4) (row_ne hs6.out hh6 (by decide))); have hb7 : Hid (BRow _ lo (.slice A4 (N + 1) c4) (Z ++ [false])) := Lib.hid (row_set_other hb6 g 1 (.slice A4 (N + 1) c4) (row_ne hb6 hh6 (by decide))); have ht7 := Lib.hid ((ht6.mono (Nat.le_refl _) (by decide) : TChg lo RT w5 w6).trans (TChg.of_set hh6 (by decide) hg 1 (.slice A4 (N + 1) c4))); have hst6 := Lib.hid (blk_set hh6 1 (.slice A4 (N + 1) c4)); replace hh6 := Lib.hid hh6; clear hb6 hg6 hv6 ht6)
          go_ret2
          rw [← hr.out, hN.out]
          refine ⟨rfl, ⟨_, _, hst6.out, hg, ?_, ?_, ⟨by show (s.recs ++ [(b, false)]).length ≤ s.most; rw [List.length_append, hN.out]; simp; omega, hmo, fun r hr => by
            rcases List.mem_append.1 hr with hr | hr
            · exact hok.out.len r hr
            · simp at hr; subst hr; show b.length ≤ 256; rw [hn.out]; omega⟩⟩, (hch0.out.trans ht3.out).trans ht7.out, hf7.out⟩
          · show SRow _ lo _ ((s.recs ++ [(b, false)]).map (·.1))
            rw [List.map_append, hL.out]
            show World.ownsRow _ lo _ 1 _ (L ++ [b]).length ((L ++ [b]).map sv)
            rw [List.map_append, List.length_append, hLN.out]
            exact hs7.out
          · show BRow _ lo _ ((s.recs ++ [(b, false)]).map (·.2))
            rw [List.map_append, hZ.out]
            exact hb7.out
theorem Rt.lt {w : World} {lo g : Nat} {s : CS} (h : Rt w lo g s) : g < w.heap.size := by obtain ⟨v1, v2, a, -⟩ := h; exact blk_lt a
set_option maxRecDepth 10000 in
theorem ris_true (lo g : Nat) (s : CS) (p : Int) (hl : s.lost = false) (h0 : 0 ≤ p) (h1 : p < s.recs.length) (w : World) (h : Rt w lo g s) :
    Calls Try.prog 51 #[.pointer (some ⟨g, 0, none⟩), .int .i64 p] w fun e w' => e = .returned (.bool true) ∧ w' = w := by
  obtain ⟨A1, c1, A2, c2, hh, hg, hs, hz, q0, q1, q2, q3, hc1, hm1, hc2, hm2⟩ := h.open_
  have hrl := h.ok.recs
  have hmo := h.ok.most
  rw [hl] at q3
  replace hl := Lib.hid hl
  replace hh := Lib.hid hh
  replace hs := Lib.hid hs
  replace hz := Lib.hid hz
  replace h := Lib.hid h
  go_enter Try.func51, Try.ntmps51
  go_wp2
  go_ret
  exact ⟨rfl, rfl⟩
set_option maxRecDepth 10000 in
theorem ris_false (lo g : Nat) (s : CS) (p : Int) (hf : s.lost = true ∨ p < 0 ∨ (s.recs.length : Int) ≤ p) (w : World) (h : Rt w lo g s) :
    Calls Try.prog 51 #[.pointer (some ⟨g, 0, none⟩), .int .i64 p] w fun e w' => e = .returned (.bool false) ∧ w' = w := by
  obtain ⟨A1, c1, A2, c2, hh, hg, hs, hz, q0, q1, q2, q3, hc1, hm1, hc2, hm2⟩ := h.open_
  have hrl := h.ok.recs
  have hmo := h.ok.most
  replace hh := Lib.hid hh
  replace hs := Lib.hid hs
  replace hz := Lib.hid hz
  replace h := Lib.hid h
  cases hl : s.lost with
  | true =>
    rw [hl] at q3
    clear hf
    replace hl := Lib.hid hl
    go_enter Try.func51, Try.ntmps51
    go_wp2
    go_ret
    exact ⟨rfl, rfl⟩
  | false =>
    rw [hl] at q3 hf
    replace hl := Lib.hid hl
    by_cases h0 : p < 0
    · clear hf
      go_enter Try.func51, Try.ntmps51
      go_wp2
      go_ret
      exact ⟨rfl, rfl⟩
    · have h1 : (s.recs.length : Int) ≤ p := by rcases hf with hf | hf | hf <;> first | cases hf | omega
      have hd : decide (p < (s.recs.length : Int)) = false := decide_eq_false (by omega)
      clear hf
      go_enter Try.func51, Try.ntmps51
      go_wp2
      go_ret
      exact ⟨rfl, rfl⟩
set_option maxHeartbeats 1000000 in
set_option maxRecDepth 10000 in
theorem rread_any (lo g : Nat) (s : CS) (p : Int) (w : World) (h : Rt w lo g s) :
    Calls Try.prog 53 #[.pointer (some ⟨g, 0, none⟩), .int .i64 p] w fun e w' => e = .returned (.tuple #[.string (bs (s.read p).1), .int .i64 (s.read p).2]) ∧ w' = w := by
  obtain ⟨A1, c1, A2, c2, hh, hg, hs, hz, q0, q1, q2, q3, hc1, hm1, hc2, hm2⟩ := h.open_
  have hrl := h.ok.recs
  have hmo := h.ok.most
  replace hh := Lib.hid hh
  obtain ⟨x, hx⟩ : ∃ x, s.read p = x := ⟨_, rfl⟩
  rw [hx]
  unfold CS.read at hx
  cases hlo : s.lost with
  | true =>
    rw [if_pos hlo] at hx
    rw [hlo] at q3
    replace hlo := Lib.hid hlo
    subst hx
    replace h := Lib.hid h
    replace hs := Lib.hid hs
    replace hz := Lib.hid hz
    go_enter Try.func53, Try.ntmps53
    go_wp2
    go_ret2
    exact ⟨rfl, rfl⟩
  | false =>
    rw [if_neg (by rw [hlo]; decide)] at hx
    rw [hlo] at q3
    by_cases ho : p < 0 ∨ (s.recs.length : Int) ≤ p
    · rw [if_pos ho] at hx
      subst hx
      have hf := Lib.hid (Or.inr ho : s.lost = true ∨ p < 0 ∨ (s.recs.length : Int) ≤ p)
      replace hlo := Lib.hid hlo
      replace ho := Lib.hid ho
      replace h := Lib.hid h
      replace hs := Lib.hid hs
      replace hz := Lib.hid hz
      go_enter Try.func53, Try.ntmps53
      go_wp2_with fail
      refine (ris_false lo g s p hf.out w h.out).mono ?_
      rintro e w' ⟨rfl, rfl⟩
      go_wp2
      go_ret2
      exact ⟨rfl, rfl⟩
    · rw [if_neg ho] at hx
      obtain ⟨i, hi'⟩ : ∃ i : Nat, p = i := ⟨p.toNat, by omega⟩
      have hil : i < s.recs.length := by omega
      obtain ⟨r, hr⟩ : ∃ r, s.recs[i]? = some r := ⟨_, List.getElem?_eq_getElem hil⟩
      have hpi : p.toNat = i := by omega
      rw [hpi, getD_some hr] at hx
      obtain ⟨gs, rfl, hgs1, hgs2, cs, -, -, -⟩ := hs.at_ (j := i) (l := r.1) (by rw [List.getElem?_map, hr]; rfl)
      obtain ⟨gz, rfl, hgz1, hgz2, -, cz, -, -, -⟩ := hz.at_ (j := i) (z := r.2) (by rw [List.getElem?_map, hr]; rfl)
      subst hi'
      have hi0 : (0 : Int) ≤ i := by omega
      have hi1 : (i : Int) < s.recs.length := by omega
      clear ho hpi
      replace hlo := Lib.hid hlo
      replace hr := Lib.hid hr
      replace h := Lib.hid h
      replace hs := Lib.hid hs
      replace hz := Lib.hid hz
      obtain ⟨bytes, rot⟩ := r
      try simp only at hx cs cz
      cases rot with
      | true =>
        rw [if_pos rfl] at hx
        subst hx
        go_enter Try.func53, Try.ntmps53
        go_wp2_with fail
        refine (ris_true lo g s i hlo.out hi0 hi1 w h.out).mono ?_
        rintro e w' ⟨rfl, rfl⟩
        go_wp2
        go_ret2
        exact ⟨rfl, rfl⟩
      | false =>
        rw [if_neg (by decide)] at hx
        subst hx
        go_enter Try.func53, Try.ntmps53
        go_wp2_with fail
        refine (ris_true lo g s i hlo.out hi0 hi1 w h.out).mono ?_
        rintro e w' ⟨rfl, rfl⟩
        go_wp2
        go_ret2
        exact ⟨rfl, rfl⟩
theorem Rt.rotted {w : World} {lo g i gz : Nat} {s : CS} {r : List UInt8 × Bool} (h : Rt w lo g s) (hr : s.recs[i]? = some r) {c2 : Nat} (h1 : w.cell? ⟨g, 1, none⟩ = some (.slice (some ⟨gz, 0, none⟩) s.recs.length c2)) :
    Rt (w.setCell ⟨gz, i, none⟩ (.bool true)) lo g { s with recs := s.recs.set i (r.1, true) } ∧ TChg lo RT w (w.setCell ⟨gz, i, none⟩ (.bool true)) ∧ RFr w (w.setCell ⟨gz, i, none⟩ (.bool true)) g := by
  obtain ⟨A1, c1, A2, c2', hh, hg, hs, hz, q0, q1, q2, q3, -⟩ := h.open_
  have hok := h.ok
  rw [q1] at h1
  injection h1 with h1
  injection h1 with h1 _ h2
  subst h1
  subst h2
  obtain ⟨_, e, hl1, hl2, ⟨cs, hcs⟩, -, -, hst, -⟩ := hz.at_ (j := i) (z := r.2) (by rw [List.getElem?_map, hr]; rfl)
  injection e with e
  injection e with e
  subst e
  have hne : g ≠ gz := fun e => by
    subst e
    rw [hh] at hcs
    injection hcs with hcs
    injection hcs with _ hcs _
    exact absurd hcs (by decide)
  refine ⟨⟨_, _, (blk_other hne _ _).trans hh, hg, ?_, ?_, ⟨by show (s.recs.set i _).length ≤ _; rw [List.length_set]; exact hok.recs, hok.most, fun q hq => ?_⟩⟩, TChg.of_set hcs (by decide) hl1 _ _, RFr.set_row hh ⟨_, _, _, _, hh, .inr rfl⟩ hcs (by decide) _ _⟩
  · have e : (s.recs.set i (r.1, true)).map (·.1) = s.recs.map (·.1) := by
      rw [List.map_set]
      obtain ⟨hlt, he⟩ := List.getElem?_eq_some_iff.1 hr
      refine List.ext_getElem? fun k => ?_
      rw [List.getElem?_set]
      split
      · rename_i hk; subst hk
        rw [List.length_map, if_pos hlt, List.getElem?_map, hr]; rfl
      · rfl
    show SRow _ lo _ ((s.recs.set i (r.1, true)).map (·.1))
    rw [e]
    exact row_set_other hs _ _ _ (row_ne hs hcs (by decide))
  · show BRow _ lo _ ((s.recs.set i (r.1, true)).map (·.2))
    rw [List.map_set]
    exact hst true
  · rcases List.mem_or_eq_of_mem_set hq with hq | rfl
    · exact hok.len q hq
    · exact hok.len r (List.mem_of_getElem? hr)
set_option maxHeartbeats 1000000 in
set_option maxRecDepth 10000 in
theorem rrot_any (lo g : Nat) (s : CS) (p : Int) (w : World) (h : Rt w lo g s) :
    Calls Try.prog 44 #[.pointer (some ⟨g, 0, none⟩), .int .i64 p] w fun e w' => e = .returned (.bool (s.rot p).1) ∧ Rt w' lo g (s.rot p).2 ∧ TChg lo RT w w' ∧ RFr w w' g := by
  obtain ⟨A1, c1, A2, c2, hh, hg, hs, hz, q0, q1, q2, q3, hc1, hm1, hc2, hm2⟩ := h.open_
  have hrl := h.ok.recs
  have hmo := h.ok.most
  replace hh := Lib.hid hh
  obtain ⟨x, hx⟩ : ∃ x, s.rot p = x := ⟨_, rfl⟩
  rw [hx]
  unfold CS.rot at hx
  by_cases ho : s.lost = true ∨ p < 0 ∨ (s.recs.length : Int) ≤ p
  · rw [if_pos ho] at hx
    subst hx
    replace ho := Lib.hid ho
    replace h := Lib.hid h
    replace hs := Lib.hid hs
    replace hz := Lib.hid hz
    clear q0 q1 q2 q3
    go_enter Try.func44, Try.ntmps44
    go_wp2_with fail
    refine (ris_false lo g s p ho.out w h.out).mono ?_
    rintro e w' ⟨rfl, rfl⟩
    go_wp2
    go_ret
    exact ⟨rfl, h.out, TChg.refl _ _ _, RFr.refl _ _⟩
  · rw [if_neg ho] at hx
    have hlo : s.lost = false := by cases hl : s.lost with
      | true => exact absurd (.inl hl) ho
      | false => rfl
    obtain ⟨i, hi'⟩ : ∃ i : Nat, p = i := ⟨p.toNat, by omega⟩
    have hil : i < s.recs.length := by omega
    obtain ⟨r, hr⟩ : ∃ r, s.recs[i]? = some r := ⟨_, List.getElem?_eq_getElem hil⟩
    have hpi : p.toNat = i := by omega
    rw [hpi, getD_some hr] at hx
    obtain ⟨gz, rfl, hgz1, hgz2, -, cz, fz, -, -⟩ := hz.at_ (j := i) (z := r.2) (by rw [List.getElem?_map, hr]; rfl)
    have hrot := Lib.hid (h.rotted hr q1)
    subst hi'
    have hi0 : (0 : Int) ≤ i := by omega
    have hi1 : (i : Int) < s.recs.length := by omega
    clear ho hpi
    replace hlo := Lib.hid hlo
    replace hr := Lib.hid hr
    replace h := Lib.hid h
    replace hs := Lib.hid hs
    replace hz := Lib.hid hz
    obtain ⟨bytes, rot⟩ := r
    try simp only at hx cz hrot
    cases rot with
    | true =>
      rw [if_pos rfl] at hx
      subst hx
      go_enter Try.func44, Try.ntmps44
      go_wp2_with fail
      refine (ris_true lo g s i hlo.out hi0 hi1 w h.out).mono ?_
      rintro e w' ⟨rfl, rfl⟩
      go_wp2
      go_ret
      exact ⟨rfl, h.out, TChg.refl _ _ _, RFr.refl _ _⟩
    | false =>
      rw [if_neg (by decide)] at hx
      subst hx
      go_enter Try.func44, Try.ntmps44
      go_wp2_with fail
      refine (ris_true lo g s i hlo.out hi0 hi1 w h.out).mono ?_
      rintro e w' ⟨rfl, rfl⟩
      go_wp2
      go_ret
      exact ⟨rfl, hrot.out.1, hrot.out.2.1, hrot.out.2.2⟩
theorem Rt.lostd {w : World} {lo g : Nat} {s : CS} (h : Rt w lo g s) : Rt (w.setCell ⟨g, 3, none⟩ (.bool true)) lo g { s with lost := true } ∧ TChg lo RT w (w.setCell ⟨g, 3, none⟩ (.bool true)) ∧ RFr w (w.setCell ⟨g, 3, none⟩ (.bool true)) g := by
  obtain ⟨v1, v2, a, b, c, d, e⟩ := h
  exact ⟨⟨v1, v2, blk_set a 3 _, b, row_set_other c _ _ _ (row_ne c a (by decide)), row_set_other d _ _ _ (row_ne d a (by decide)), ⟨e.recs, e.most, e.len⟩⟩, TChg.of_set a (by decide) b _ _, (RFr.refl w g).set_from (j := 3) a (fun k hk => by cases hk)⟩
set_option maxHeartbeats 1000000 in
set_option maxRecDepth 10000 in
theorem rlose_any (lo g : Nat) (s : CS) (w : World) (h : Rt w lo g s) :
    Calls Try.prog 42 #[.pointer (some ⟨g, 0, none⟩)] w fun e w' => e = .returned (.bool s.lose.1) ∧ Rt w' lo g s.lose.2 ∧ TChg lo RT w w' ∧ RFr w w' g := by
  obtain ⟨A1, c1, A2, c2, hh, hg, hs, hz, q0, q1, q2, q3, hc1, hm1, hc2, hm2⟩ := h.open_
  have f3 := blk_free hh 3
  have hset := Lib.hid h.lostd
  replace hh := Lib.hid hh
  replace hs := Lib.hid hs
  replace hz := Lib.hid hz
  obtain ⟨x, hx⟩ : ∃ x, s.lose = x := ⟨_, rfl⟩
  rw [hx]
  unfold CS.lose at hx
  replace h := Lib.hid h
  cases hlo : s.lost with
  | true =>
    rw [if_pos hlo] at hx
    rw [hlo] at q3
    replace hlo := Lib.hid hlo
    subst hx
    go_enter Try.func42, Try.ntmps42
    go_wp2
    go_ret
    exact ⟨rfl, h.out, TChg.refl _ _ _, RFr.refl _ _⟩
  | false =>
    rw [if_neg (by rw [hlo]; decide)] at hx
    rw [hlo] at q3
    replace hlo := Lib.hid hlo
    subst hx
    go_enter Try.func42, Try.ntmps42
    go_wp2
    go_ret
    exact ⟨rfl, hset.out.1, hset.out.2.1, hset.out.2.2⟩
end Go.Proofs.Ytfjhdcppehfiiaa
