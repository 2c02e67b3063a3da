/- A cartridge: which old blocks an act on it may turn: its own alone. -/
import Derived.Test.YtfjhdcppehfiiaaCart3L
namespace Go.Proofs.Ytfjhdcppehfiiaa
set_option linter.unusedVariables false
set_option linter.unusedSimpArgs false
open Go Go.RowKit
/-- block k is the row of records of cartridge g -/
def RowOf (w : World) (g k : Nat) : Prop := ∃ v a b, w.heap[g]? = some (.cells #[v, a, b] 64 (0, 0)) ∧ v.ownBlock = some k
def OwnC (w : World) (g k : Nat) : Prop := k = g ∨ RowOf w g k
/-- of the old blocks only cartridge g and its row may have turned; its row is the old one, or new -/
def CFr (w w' : World) (g : Nat) : Prop := Upd (OwnC w g) w w' ∧ ∀ k, RowOf w' g k → RowOf w g k ∨ w.heap.size ≤ k
theorem Upd.mono8 {S S' : Nat → Prop} {w w' : World} (h : Upd S w w') (hs : ∀ k, S k → S' k) : Upd S' w w' := ⟨h.1, h.2.1, h.2.2.1, h.2.2.2.1, fun k hk hn => h.2.2.2.2 k hk (fun h' => hn (hs k h'))⟩
theorem CFr.refl (w : World) (g : Nat) : CFr w w g := ⟨Upd.refl _ _, fun k h => .inl h⟩
theorem CFr.drewN (w : World) (n g : Nat) : CFr w (w.drewN n) g := ⟨⟨rfl, rfl, rfl, Nat.le_refl _, fun _ _ _ => rfl⟩, fun k h => .inl h⟩
theorem CFr.of_below {w w' : World} {g hi : Nat} (h : Below w.heap.size w w') (hh : hi ≤ w.heap.size) (hg : g < hi) : CFr w w' g := ⟨Upd.of_below h, fun k ⟨v, a, b, h1, h2⟩ => .inl ⟨v, a, b, by rw [← h.block g (by omega)]; exact h1, h2⟩⟩
theorem CFr.trans {x y z : World} {g : Nat} (h1 : CFr x y g) (h2 : CFr y z g) : CFr x z g := by
  refine ⟨⟨h1.1.1.trans h2.1.1, h1.1.2.1.trans h2.1.2.1, h1.1.2.2.1.trans h2.1.2.2.1, Nat.le_trans h1.1.2.2.2.1 h2.1.2.2.2.1, fun k hk hn => ?_⟩, fun k hk => ?_⟩
  · have hk2 := Nat.lt_of_lt_of_le hk h1.1.2.2.2.1
    refine (h2.1.2.2.2.2 k hk2 (fun h => ?_)).trans (h1.1.2.2.2.2 k hk hn)
    rcases h with h | h
    · exact hn (.inl h)
    · rcases h1.2 k h with h | h
      · exact hn (.inr h)
      · omega
  · rcases h2.2 k hk with h | h
    · exact h1.2 k h
    · exact .inr (Nat.le_trans h1.1.2.2.2.1 h)
theorem CFr.set_self {w : World} {g j : Nat} {v a b : Value} (hh : w.heap[g]? = some (.cells #[v, a, b] 64 (0, 0))) (hj : j ≠ 0) (u : Value) : CFr w (w.setCell ⟨g, j, none⟩ u) g := by
  refine ⟨Upd.of_grown (blk_grown w g j u) (.inl rfl), fun k hk => .inl ?_⟩
  obtain ⟨v9, a9, b9, h9, k9⟩ := hk
  rw [blk_set hh j u] at h9
  injection h9 with h9
  injection h9 with h9
  have h10 : v9 = v := by
    have h11 := congrArg (fun x : Array Value => x[0]?) h9
    simp only [Array.getElem?_setIfInBounds_ne hj] at h11
    simpa using h11.symm
  exact ⟨v, a, b, hh, by rw [← h10]; exact k9⟩
theorem CFr.set_row {w : World} {g b : Nat} {cs : Array Value} {v a c : Value} {T : TypeId} (hr : RowOf w g b) (hcs : w.heap[b]? = some (.cells cs T (0, 0))) (hT : T ≠ 64) (hh : w.heap[g]? = some (.cells #[v, a, c] 64 (0, 0))) (j : Nat) (u : Value) : CFr w (w.setCell ⟨b, j, none⟩ u) g := by
  have hne : g ≠ b := fun e => by
    rw [← e, hh] at hcs
    injection hcs with hcs
    injection hcs with _ hcs
    exact hT hcs.symm
  refine ⟨Upd.of_grown (blk_grown w b j u) (.inr hr), fun k hk => .inl ?_⟩
  obtain ⟨v9, a9, b9, h9, k9⟩ := hk
  rw [blk_other hne j u] at h9
  exact ⟨v9, a9, b9, h9, k9⟩
theorem Ct.ownRow {w : World} {lo hi g b c : Nat} {s : CS} (h : Ct w lo hi g s) (h0 : w.cell? ⟨g, 0, none⟩ = some (.slice (some ⟨b, 0, none⟩) s.recs.length c)) : RowOf w g b := by
  obtain ⟨v, h1, -⟩ := h
  have h2 := blk_cell (j := 0) h1 rfl
  rw [h0] at h2
  injection h2 with h2
  exact ⟨_, _, _, h1, by rw [show v = .slice (some ⟨b, 0, none⟩) s.recs.length c from by simpa using h2.symm]; rfl⟩
/-- another cartridge stays as it is -/
theorem Ct.apart {w w' : World} {lo hi g g2 : Nat} {s2 : CS} (h : Ct w lo hi g2 s2) (hf : CFr w w' g) {T : Nat} {v a b : Value} (hg : w.heap[g]? = some (.cells #[v, a, b] 64 (0, 0))) (hrow : ∀ k, v.ownBlock = some k → ∃ cs, w.heap[k]? = some (.cells cs 66 (0, 0))) (hne : g2 ≠ g) (hr : ∀ k, RowOf w g k → ¬ RowOf w g2 k) : Ct w' lo hi g2 s2 := by
  obtain ⟨v2, h1, h2, h3, h4, ⟨xs, r1, r2, r3⟩, h6⟩ := h
  have hown : ∀ k, OwnC w g k → (∃ cs, w.heap[k]? = some (.cells cs 64 (0, 0))) ∨ (∃ cs, w.heap[k]? = some (.cells cs 66 (0, 0))) := fun k hk => by
    rcases hk with rfl | ⟨v9, a9, b9, h9, k9⟩
    · exact .inl ⟨_, hg⟩
    · rw [hg] at h9
      injection h9 with h9
      injection h9 with h9
      have h10 : v = v9 := by
        have := congrArg (fun x : Array Value => x[0]?) h9
        simpa using this
      exact .inr (hrow k (by rw [h10]; exact k9))
  have hgk : w'.heap[g2]? = w.heap[g2]? := hf.1.2.2.2.2 g2 (by omega) (fun h => by
    rcases h with h | h
    · exact hne h
    · rcases hown g2 (.inr h) with ⟨cs, h9⟩ | ⟨cs, h9⟩
      · obtain ⟨v9, a9, b9, h10, k9⟩ := h
        rw [hg] at h10
        injection h10 with h10
        injection h10 with h10
        have h11 : v = v9 := by
          have := congrArg (fun x : Array Value => x[0]?) h10
          simpa using this
        obtain ⟨cs9, h12⟩ := hrow g2 (by rw [h11]; exact k9)
        rw [h12] at h9
        injection h9 with h9
        injection h9 with _ h9
        exact absurd h9 (by decide)
      · rw [h1] at h9
        injection h9 with h9
        injection h9 with _ h9
        exact absurd h9 (by decide))
  refine ⟨v2, by rw [hgk]; exact h1, h2, h3, Nat.le_trans h4 hf.1.2.2.2.1, ⟨xs, row_keep r1 (fun k hk => ?_), r2, fun i r hir => ?_⟩, h6⟩
  · refine hf.1.2.2.2.2 k (r1.lt k hk).2 (fun h => ?_)
    rcases h with rfl | h
    · exact row_ne r1 hg (by decide) hk
    · exact hr k h ⟨v2, _, _, h1, hk⟩
  · obtain ⟨u, u1, u2, u3, u4⟩ := r3 i r hir
    refine ⟨u, u1, u2, row_keep u3 (fun k hk => hf.1.2.2.2.2 k (u3.lt k hk).2 (fun h => ?_)), u4⟩
    rcases hown k h with ⟨cs, h9⟩ | ⟨cs, h9⟩
    · exact row_ne u3 h9 (by decide) hk
    · exact row_ne u3 h9 (by decide) hk
set_option maxHeartbeats 1000000 in
set_option maxRecDepth 10000 in
theorem add_anyO (lo hi g : Nat) (s : CS) (u : Value) (l : List UInt8) (b : Bool) (w : World) (h : Ct w lo hi g s) (hu : OB w lo u l) (hl : l.length ≤ 256) (hroom : s.recs.length < s.most) :
    Calls Try.prog 50 #[.pointer (some ⟨g, 0, none⟩), .agg #[u, .bool b]] w fun e w' => e = .returned (.int .i64 s.recs.length) ∧ Ct w' lo w'.heap.size g { s with recs := s.recs ++ [(l, b)] } ∧ TChg lo [64, 66] w w' ∧ CFr w w' g := by
  obtain ⟨i0, hi0, hz0, hz1, hz2⟩ := info_parts info_rec
  obtain ⟨A, c, hrecs, hc, hm, hh, c0, -, -⟩ := h.open_
  obtain ⟨xs, hrow, hlt, hall⟩ := hrecs
  obtain ⟨n, hn⟩ : ∃ n, s.recs.length = n := ⟨_, rfl⟩
  have hrl := h.ok.recs
  have hmo := h.ok.most
  have hgb := h.bounds
  have hok := Lib.hid h.ok
  rw [hn] at hroom hc hh c0 hrow hlt hrl
  have hrecs0 : Hid (RecsX w lo hi (.slice A n c) s.recs xs) := Lib.hid ⟨by rw [hn]; exact hrow, hlt, hall⟩
  rw [hn]
  have hone : ∀ x ∈ [u, Value.bool b], x.oneCell' = true := fun x hx => by
    obtain ⟨A1, c1, rfl, -⟩ := hu.form
    simp at hx
    rcases hx with rfl | rfl <;> rfl
  have hn1 := Lib.hid (row_ne hrow hh (by decide))
  have hn2 : Hid ((Value.slice A n c).ownBlock ≠ some w.heap.size) := Lib.hid (fun e => by have := hlt _ e; omega)
  have k0 : (w.alloc (.cells #[u, .bool b] 66)).cell? ⟨w.heap.size, 0, none⟩ = some u := blk_cell (heap_alloc_new w _) rfl
  have k1 : (w.alloc (.cells #[u, .bool b] 66)).cell? ⟨w.heap.size, 1, none⟩ = some (.bool b) := blk_cell (heap_alloc_new w _) rfl
  have hba := (Below.refl w.heap.size w).alloc (Nat.le_refl _) (.cells #[u, .bool b] 66)
  have hws : (w.alloc (.cells #[u, .bool b] 66)).heap.size = w.heap.size + 1 := by simp
  replace h := Lib.hid h
  replace hone := Lib.hid hone
  replace hrow := Lib.hid hrow
  replace hu := Lib.hid hu
  replace hall := Lib.hid hall
  replace hlt := Lib.hid hlt
  replace hh := Lib.hid hh
  replace hn := Lib.hid hn
  go_enter Try.func50, Try.ntmps50
  go_wp2_with fail
  obtain ⟨w1, hw1⟩ : ∃ w1, w.alloc (.cells #[u, .bool b] 66) = w1 := ⟨_, rfl⟩
  rw [hw1] at k0 k1 hba hws ⊢
  obtain ⟨N, hN⟩ : ∃ N, w.heap.size = N := ⟨_, rfl⟩
  rw [hN] at k0 k1 hws hgb hn2 ⊢
  have hh1 := (hba.block g (by omega)).trans hh.out
  have hrow1 := Lib.hid (row_below hrow.out hba)
  have hu1 := Lib.hid (row_below hu.out hba)
  replace c0 := blk_cell (j := 0) hh1 rfl
  have hgl : g < w1.heap.size := by omega
  have hgn : N < w1.heap.size := by omega
  have hsrc : Hid (Reads (w1.alloc (.cells #[u, .bool b] 66)) (N + 2) 2 (some ⟨N + 1, 0, none⟩) 1 [u, .bool b]) := Lib.hid (by
    have := Reads.lit2 w1 u (.bool b) 66 (N + 2) (by omega)
    rw [hws] at this
    exact this)
  have hk1 : Hid (∀ k, lo ≤ k → k < hi → w1.heap[k]? = w.heap[k]?) := Lib.hid (fun k _ hk => hba.block k (by omega))
  have hhW : Hid ((w1.alloc (.cells #[u, .bool b] 66)).drew.heap[g]? = some (.cells #[.slice A n c, .int .i64 s.most, .bool s.lost] 64 (0, 0))) := Lib.hid (blk_alloc hh1 _)
  have hrecsW : Hid (RecsX (w1.alloc (.cells #[u, .bool b] 66)).drew lo hi (.slice A n c) s.recs xs) := Lib.hid ((hrecs0.out.keep hk1.out).keep (fun k _ hk => Below.heap_alloc w1 (.cells #[u, .bool b] 66) k (by omega)))
  replace hba := Lib.hid hba
  replace hh1 := Lib.hid hh1
  refine wpR_region (Upd (fun k => (Value.slice A n c).ownBlock = some k)) 10 (by kernel_rfl) ?_
  refine wpR_take (i := 0) (v := ?_) (Upd.road _) (some 5) rfl (by kernel_rfl) (by kernel_rfl) (by kernel_rfl) (by kernel_rfl) (by kernel_rfl) (fun _ _ _ h => h) (by kernel_rfl) (fun w' hw' => ?_) ?_
  rotate_left
  · go_simp; with_reducible rfl
  simp only [Act.put, List.setIfInBounds_toArray, List.set_cons_zero, List.set_cons_succ]
  refine wpR_take (i := 1) (v := ?_) (Upd.road _) (some 6) rfl (by kernel_rfl) (by kernel_rfl) (by kernel_rfl) (by kernel_rfl) (by kernel_rfl) (fun _ _ _ h => h) (by kernel_rfl) (fun w' hw' => ?_) ?_
  rotate_left
  · go_simp; with_reducible rfl
  simp only [Act.put, List.setIfInBounds_toArray, List.set_cons_zero, List.set_cons_succ]
  refine wpR_take (i := 2) (v := ?_) (Upd.road _) (some 7) rfl (by kernel_rfl) (by kernel_rfl) (by kernel_rfl) (by kernel_rfl) (by kernel_rfl) (fun _ _ _ h => h) (by kernel_rfl) (fun w' hw' => ?_) ?_
  rotate_left
  · go_simp; with_reducible rfl
  simp only [Act.put, List.setIfInBounds_toArray, List.set_cons_zero, List.set_cons_succ]
  refine wpR_take (i := 3) (v := ?_) (Upd.road _) (some 8) rfl (by kernel_rfl) (by kernel_rfl) (by kernel_rfl) (by kernel_rfl) (by kernel_rfl) (fun _ _ _ h => h) (by kernel_rfl) (fun w' hw' => ?_) ?_
  rotate_left
  · go_simp; with_reducible rfl
  simp only [Act.put, List.setIfInBounds_toArray, List.set_cons_zero, List.set_cons_succ]
  refine wpR_take (i := 4) (v := ?_) (Upd.road _) (some 9) rfl (by kernel_rfl) (by kernel_rfl) (by kernel_rfl) (by kernel_rfl) (by kernel_rfl) (fun _ _ _ h => h) (by kernel_rfl) (fun w' hw' => ?_) ?_
  rotate_left
  · have q := (hw'.cell (p := ⟨g, 0, none⟩) hgl hn1.out).trans c0; go_simp; with_reducible rfl
  simp only [Act.put, List.setIfInBounds_toArray, List.set_cons_zero, List.set_cons_succ]
  refine wpR_take (i := 5) (v := ?_) (Upd.road _) (some 10) rfl (by kernel_rfl) (by kernel_rfl) (by kernel_rfl) (by kernel_rfl) (by kernel_rfl) (fun _ _ _ h => h) (by kernel_rfl) (fun w' hw' => ?_) ?_
  rotate_left
  · have q1 := (hw'.cell (p := ⟨N, 0, none⟩) hgn hn2.out).trans k0; have q2 := (hw'.cell (p := ⟨N, 1, none⟩) hgn hn2.out).trans k1; go_simp; with_reducible rfl
  simp only [Act.put, List.setIfInBounds_toArray, List.set_cons_zero, List.set_cons_succ]
  refine wpR_one 6 rfl (by kernel_rfl) (by kernel_rfl) (fun K hK => ?_)
  go_simp
  refine hK _ _ (fun _ => Upd.of_below ((Below.refl _ _).alloc (Nat.le_refl _) _)) ?_
  clear hK K
  try simp only [Act.put, List.setIfInBounds_toArray, List.set_cons_zero, List.set_cons_succ]
  refine wpR_one 7 rfl (by kernel_rfl) (by kernel_rfl) (fun K hK => ?_)
  refine wp_append_any _ (.tmp 9) (.tmp 11) 60 rfl lo 66 i0 _ 2 32 Try.underlying60 hi0 hz0 hz1 hz2 rfl (by omega) (.slice A n c) n xs rfl (hrow1.out.alloc _) _ _ 1 1 [u, .bool b] rfl hsrc.out hone.out (by unfold maxLen; omega) (by omega) (by simp; omega) ?_
  intro v2 w2 hrow2 hg2 hv2
  obtain ⟨A2, c2, rfl, hc2, hm2⟩ := row_form hrow2
  refine hK _ _ (fun _ => Upd.of_own hg2) ?_
  clear hK K
  have hh2 := blk_grow hhW.out hg2 hn1.out
  have q0 := blk_cell (j := 0) hh2 rfl
  have q1 := blk_free hh2 0
  have hlt2 := hg2.size
  have h6 : w1.heap.size ≤ w2.heap.size := Nat.le_trans (by simp) hlt2
  have hR2 := Lib.hid (Recs.push (b := l) (z := b) hrecsW.out (u := u) (hu1.out.alloc (.cells #[u, .bool b] 66)) hg2 (by rw [hn.out]; exact hrow2) (fun k hk => by have h5 := (hu1.out.lt k hk).2; omega) (by omega))
  clear h6 hlt2
  have hT2 := Lib.hid (TChg.of_row (ts := [64, 66]) (hrow1.out.alloc (.cells #[u, .bool b] 66)).drew hg2 (by simp))
  have hg2s := hg2.size
  replace hg2 := Lib.hid hg2
  replace hrow2 := Lib.hid hrow2
  have hv2o := Lib.hid hv2
  clear hv2
  replace hh2 := Lib.hid hh2
  try simp only [Act.put, List.setIfInBounds_toArray, List.set_cons_zero, List.set_cons_succ]
  refine wpR_one 8 rfl (by kernel_rfl) (by kernel_rfl) (fun K hK => ?_)
  go_simp
  refine hK _ _ (fun _ => Upd.refl _ _) ?_
  clear hK K
  try simp only [Act.put, List.setIfInBounds_toArray, List.set_cons_zero, List.set_cons_succ]
  refine wpR_take (i := 9) (v := ?_) (Upd.road _) (some 14) rfl (by kernel_rfl) (by kernel_rfl) (by kernel_rfl) (by kernel_rfl) (by kernel_rfl) (fun _ _ _ h => h) (by kernel_rfl) (fun w' hw' => ?_) ?_
  rotate_left
  · go_simp; with_reducible rfl
  simp only [Act.put, List.setIfInBounds_toArray, List.set_cons_zero, List.set_cons_succ]
  refine wpR_one 10 rfl (by kernel_rfl) (by kernel_rfl) (fun K hK => ?_)
  go_simp
  refine hK _ _ (fun h => absurd h (by decide)) ?_
  clear hK K
  try simp only [Act.put, List.setIfInBounds_toArray, List.set_cons_zero, List.set_cons_succ]
  refine wpR_done (by kernel_rfl) ?_ _
  go_wp2
  go_ret
  refine ⟨rfl, ?_, ?_, ?_⟩
  · rw [World.size_setCell]
    exact Ct.set0 (s := s) hh2.out hgb.1 hR2.out ⟨by show (s.recs ++ [(l, b)]).length ≤ s.most; rw [List.length_append, hn.out]; exact hroom, hmo, fun r hr => by
      rcases List.mem_append.1 hr with hr | hr
      · exact hok.out.len r hr
      · simp at hr; subst hr; exact hl⟩
  · exact (((TChg.of_below hba.out).trans (TChg.of_alloc w1 _)).trans hT2.out).trans (TChg.of_set hh2.out (by simp) hgb.1 0 _)
  · have hro : ∀ k, (Value.slice A n c).ownBlock = some k → RowOf w g k := fun k hk => ⟨_, _, _, hh.out, hk⟩
    have hsz : N = w.heap.size := hN.symm
    refine ⟨?_, fun k hk => ?_⟩
    · have e1 : Upd (OwnC w g) w w1 := Upd.of_below hba.out
      have e2 : Upd (OwnC w g) w1 (w1.alloc (.cells #[u, .bool b] 66)).drew := Upd.of_below (Below.drew ((Below.refl _ _).alloc (Nat.le_refl _) _))
      have e3 : Upd (OwnC w g) (w1.alloc (.cells #[u, .bool b] 66)).drew w2 := (Upd.of_own hg2.out).mono8 (fun k hk => .inr (hro k hk))
      have e4 : Upd (OwnC w g) w2 (w2.setCell ⟨g, 0, none⟩ (.slice A2 (n + 1) c2)) := Upd.of_grown (blk_grown w2 g 0 _) (.inl rfl)
      exact ((e1.trans e2).trans e3).trans e4
    · obtain ⟨v9, a9, b9, h9, k9⟩ := hk
      rw [blk_set hh2.out 0 _] at h9
      injection h9 with h9
      injection h9 with h9
      have h10 : v9 = .slice A2 (n + 1) c2 := by
        have := congrArg (fun x : Array Value => x[0]?) h9
        simpa using this.symm
      rw [h10] at k9
      rcases hv2o.out with h11 | h11
      · exact .inl (hro k (by rw [← h11]; exact k9))
      · rw [h11] at k9
        injection k9 with k9
        right
        simp at k9
        omega
set_option maxHeartbeats 1000000 in
set_option maxRecDepth 10000 in
theorem cappend_anyO (lo hi g : Nat) (s : CS) (A : Option Addr) (n c : Nat) (b : List UInt8) (hn : b.length = n) (hnm : n ≤ maxLen) (w : World) (h : Ct w lo hi g s) (hrd : Rd w w.heap.size A b) :
    Calls Try.prog 33 #[.pointer (some ⟨g, 0, none⟩), .slice A n c] w fun e w' => e = .returned (.tuple #[.int .i64 (s.append b).1, .int .i64 (s.append b).2.1]) ∧ Ct w' lo w'.heap.size g (s.append b).2.2 ∧ TChg lo [64, 66] w w' ∧ CFr w w' g := by
  obtain ⟨A0, c0, -, -, -, -, q0, q1, q2⟩ := h.open_
  have hm := Lib.hid (h.more h.bounds.2.2 (Nat.le_refl _))
  have hrl := h.ok.recs
  have hmo := h.ok.most
  have hgb := h.bounds
  have hlw : lo ≤ w.heap.size := by omega
  have hsz := Lib.hid (size_any lo hi g s w h)
  unfold maxLen at hnm
  replace h := Lib.hid h
  replace hrd := Lib.hid hrd
  replace hn := Lib.hid hn
  obtain ⟨r, hr⟩ : ∃ r, s.append b = r := ⟨_, rfl⟩
  rw [hr]
  unfold CS.append at hr
  rw [hn.out] at hr
  by_cases h1 : n < 1
  · rw [if_pos (.inl h1)] at hr
    subst hr
    obtain rfl : n = 0 := by omega
    go_enter Try.func33, Try.ntmps33
    go_wp2
    go_ret2
    exact ⟨rfl, hm.out, TChg.refl _ _ _, CFr.refl _ _⟩
  · by_cases h2 : 256 < n
    · rw [if_pos (.inr h2)] at hr
      subst hr
      go_enter Try.func33, Try.ntmps33
      go_wp2
      go_ret2
      exact ⟨rfl, hm.out, TChg.refl _ _ _, CFr.refl _ _⟩
    · rw [if_neg (by omega)] at hr
      cases hlo : s.lost with
      | true =>
        rw [if_pos hlo] at hr
        rw [hlo] at q2
        replace hlo := Lib.hid hlo
        subst hr
        go_enter Try.func33, Try.ntmps33
        go_wp2
        go_ret2
        exact ⟨rfl, hm.out, TChg.refl _ _ _, CFr.refl _ _⟩
      | false =>
        rw [if_neg (by rw [hlo]; decide)] at hr
        rw [hlo] at q2
        replace hlo := Lib.hid hlo
        by_cases h3 : s.most ≤ s.recs.length
        · rw [if_pos h3] at hr
          subst hr
          go_enter Try.func33, Try.ntmps33
          go_wp2_with fail
          go_quiet ((go_at_call 26; exact Calls.quiet_of_same (size_any lo hi g s _ (h.out.drewN _))))
          go_wp2
          go_ret2
          exact ⟨rfl, hm.out.drewN _, TChg.drewN _ _, CFr.drewN _ _ _⟩
        · rw [if_neg h3] at hr
          replace hr := Lib.hid hr
          have hd := decide_eq_false (p := (s.most : Int) ≤ s.recs.length) (by omega)
          go_enter Try.func33, Try.ntmps33
          go_wp2_with fail
          go_quiet ((go_at_call 26; exact Calls.quiet_of_same (size_any lo hi g s _ (h.out.drewN _))))
          go_wp2_with fail
          replace hrd : Hid (Rd (w.drewN nq).drew (w.drewN nq).drew.heap.size A b) := Lib.hid hrd.out
          replace h : Hid (Ct (w.drewN nq).drew lo hi g s) := Lib.hid h.out
          refine wpR_region (TChg lo [64, 66]) 9999 (by kernel_rfl) ?_
          refine wpR_take (i := 0) (v := ?_) (TChg.road _ _) (some 34) rfl (by kernel_rfl) (by kernel_rfl) (by kernel_rfl) (by kernel_rfl) (by kernel_rfl) (fun _ _ _ h => h) (by kernel_rfl) (fun w' hw' => ?_) ?_
          rotate_left
          · go_simp; with_reducible rfl
          simp only [Act.put, List.setIfInBounds_toArray, List.set_cons_zero, List.set_cons_succ]
          refine wpR_take (i := 1) (v := ?_) (TChg.road _ _) (some 35) rfl (by kernel_rfl) (by kernel_rfl) (by kernel_rfl) (by kernel_rfl) (by kernel_rfl) (fun _ _ _ h => h) (by kernel_rfl) (fun w' hw' => ?_) ?_
          rotate_left
          · go_simp; with_reducible rfl
          simp only [Act.put, List.setIfInBounds_toArray, List.set_cons_zero, List.set_cons_succ]
          refine wpR_take (i := 2) (v := ?_) (TChg.road _ _) (some 36) rfl (by kernel_rfl) (by kernel_rfl) (by kernel_rfl) (by kernel_rfl) (by kernel_rfl) (fun _ _ _ h => h) (by kernel_rfl) (fun w' hw' => ?_) ?_
          rotate_left
          · go_simp; with_reducible rfl
          simp only [Act.put, List.setIfInBounds_toArray, List.set_cons_zero, List.set_cons_succ]
          refine wpR_take (i := 3) (v := ?_) (TChg.road _ _) (some 37) rfl (by kernel_rfl) (by kernel_rfl) (by kernel_rfl) (by kernel_rfl) (by kernel_rfl) (fun _ _ _ h => h) (by kernel_rfl) (fun w' hw' => ?_) ?_
          rotate_left
          · go_simp; with_reducible rfl
          simp only [Act.put, List.setIfInBounds_toArray, List.set_cons_zero, List.set_cons_succ]
          refine wpR_one 4 rfl (by kernel_rfl) (by kernel_rfl) (fun K hK => ?_)
          go_simp
          refine (clone_any A n c b hn.out (by omega) _ hrd.out).mono ?_
          rintro e w1 ⟨v, rfl, hv, hb⟩
          obtain ⟨A1, c1, rfl, -, -, -, -⟩ := hv.form
          refine hK _ _ (fun _ => TChg.of_below hb) ?_
          clear hK K
          have hct1 := Lib.hid (h.out.below hb)
          replace hv := Lib.hid hv
          replace hb := Lib.hid hb
          try simp only [Act.put, List.setIfInBounds_toArray, List.set_cons_zero, List.set_cons_succ]
          refine wpR_take (i := 5) (v := ?_) (TChg.road _ _) (some 39) rfl (by kernel_rfl) (by kernel_rfl) (by kernel_rfl) (by kernel_rfl) (by kernel_rfl) (fun _ _ _ h => h) (by kernel_rfl) (fun w' hw' => ?_) ?_
          rotate_left
          · go_simp; with_reducible rfl
          simp only [Act.put, List.setIfInBounds_toArray, List.set_cons_zero, List.set_cons_succ]
          refine wpR_one 6 rfl (by kernel_rfl) (by kernel_rfl) (fun K hK => ?_)
          go_simp
          refine ((add_anyO lo hi g s (.slice A1 b.length c1) b false w1 hct1.out (hv.out.more' hlw) (by rw [hn.out]; omega) (by omega))).mono ?_
          rintro e w2 ⟨rfl, hct2, hch, hcf⟩
          refine hK _ _ (fun _ => hch) ?_
          clear hK K
          replace hct2 := Lib.hid hct2
          replace hch := Lib.hid hch
          replace hcf := Lib.hid hcf
          try simp only [Act.put, List.setIfInBounds_toArray, List.set_cons_zero, List.set_cons_succ]
          refine wpR_take (i := 7) (v := ?_) (TChg.road _ _) (some 4) rfl (by kernel_rfl) (by kernel_rfl) (by kernel_rfl) (by kernel_rfl) (by kernel_rfl) (fun _ _ _ h => h) (by kernel_rfl) (fun w' hw' => ?_) ?_
          rotate_left
          · go_simp; with_reducible rfl
          simp only [Act.put, List.setIfInBounds_toArray, List.set_cons_zero, List.set_cons_succ]
          refine wpR_take (i := 8) (v := ?_) (TChg.road _ _) (some 5) rfl (by kernel_rfl) (by kernel_rfl) (by kernel_rfl) (by kernel_rfl) (by kernel_rfl) (fun _ _ _ h => h) (by kernel_rfl) (fun w' hw' => ?_) ?_
          rotate_left
          · go_simp; with_reducible rfl
          simp only [Act.put, List.setIfInBounds_toArray, List.set_cons_zero, List.set_cons_succ]
          refine wpR_done (by kernel_rfl) ?_ _
          go_wp2
          go_ret2
          rw [← hr.out]
          exact ⟨rfl, hct2.out, (show TChg lo _ w w1 from TChg.of_below (w := (w.drewN nq).drew) hb.out).trans hch.out, (show CFr w w1 g from CFr.of_below (w := (w.drewN nq).drew) hb.out hgb.2.2 hgb.2.1).trans hcf.out⟩
set_option maxHeartbeats 1000000 in
set_option maxRecDepth 10000 in
theorem crot_anyO (lo hi g : Nat) (s : CS) (p : Int) (hp : I64 p) (w : World) (h : Ct w lo hi g s) :
    Calls Try.prog 43 #[.pointer (some ⟨g, 0, none⟩), .int .i64 p] w fun e w' => e = .returned (.bool (s.rot p).1) ∧ Ct w' lo hi g (s.rot p).2 ∧ TChg lo [64, 66] w w' ∧ CFr w w' g := by
  obtain ⟨A0, c0, -, -, -, hgcell, q0, q1, q2⟩ := h.open_
  have hrl := h.ok.recs
  have hmo := h.ok.most
  have hgb := h.bounds
  obtain ⟨x, hx⟩ : ∃ x, s.rot p = x := ⟨_, rfl⟩
  rw [hx]
  unfold CS.rot at hx
  cases hlo : s.lost with
  | true =>
    rw [if_pos (.inl hlo)] at hx
    rw [hlo] at q2
    replace hlo := Lib.hid hlo
    subst hx
    replace h := Lib.hid h
    go_enter Try.func43, Try.ntmps43
    go_wp2
    go_ret
    exact ⟨rfl, h.out, TChg.refl _ _ _, CFr.refl _ _⟩
  | false =>
    rw [hlo] at q2
    by_cases ho : p < 0 ∨ (s.recs.length : Int) ≤ p
    · rw [if_pos (.inr ho)] at hx
      replace hlo := Lib.hid hlo
      subst hx
      replace ho := Lib.hid ho
      replace h := Lib.hid h
      go_enter Try.func43, Try.ntmps43
      go_wp2_with fail
      refine (at_none lo hi g s p hp ho.out w h.out).mono ?_
      rintro e w' ⟨rfl, rfl⟩
      go_wp2
      go_ret
      exact ⟨rfl, h.out, TChg.refl _ _ _, CFr.refl _ _⟩
    · rw [if_neg (by rw [hlo]; simp; simp at ho; exact ho)] at hx
      replace hlo := Lib.hid hlo
      obtain ⟨i, hi'⟩ : ∃ i : Nat, p = i := ⟨p.toNat, by omega⟩
      have hil : i < s.recs.length := by omega
      obtain ⟨r, hr⟩ : ∃ r, s.recs[i]? = some r := ⟨_, List.getElem?_eq_getElem hil⟩
      have hpi : p.toNat = i := by omega
      rw [hpi, getD_some hr] at hx
      obtain ⟨b, c, A, m, k0, hlb, -, ⟨cs, hcs⟩, hfr, k1, k2, k3, hset, -⟩ := h.rec_ hr
      have hf := hfr (i * 2 + 1)
      replace hset := Lib.hid (hset true)
      have hcfr := Lib.hid (CFr.set_row (h.ownRow k0) hcs (by decide) hgcell (i * 2 + 1) (.bool true))
      have hT := Lib.hid (TChg.of_set (ts := [64, 66]) hcs (by simp) hlb (i * 2 + 1) (.bool true))
      clear q0 ho hfr hcs k3
      replace hr := Lib.hid hr
      replace hpi := Lib.hid hpi
      replace hi' := Lib.hid hi'
      replace h := Lib.hid h
      obtain ⟨bytes, rot⟩ := r
      try simp only at hx k1 k2 hset
      cases rot with
      | true =>
        rw [if_pos rfl] at hx
        subst hx
        go_enter Try.func43, Try.ntmps43
        go_wp2_with fail
        refine (at_some lo hi g b c s p i hi'.out hil w h.out k0).mono ?_
        rintro e w' ⟨rfl, rfl⟩
        go_wp2
        go_ret
        exact ⟨rfl, h.out, TChg.refl _ _ _, CFr.refl _ _⟩
      | false =>
        rw [if_neg (by decide)] at hx
        subst hx
        go_enter Try.func43, Try.ntmps43
        go_wp2_with fail
        refine (at_some lo hi g b c s p i hi'.out hil w h.out k0).mono ?_
        rintro e w' ⟨rfl, rfl⟩
        go_wp2
        go_ret
        exact ⟨rfl, hset.out, hT.out, hcfr.out⟩
set_option maxHeartbeats 1000000 in
set_option maxRecDepth 10000 in
theorem close_anyO (lo hi g : Nat) (s : CS) (w : World) (h : Ct w lo hi g s) :
    Calls Try.prog 41 #[.pointer (some ⟨g, 0, none⟩)] w fun e w' => e = .returned (.bool s.lose.1) ∧ Ct w' lo hi g s.lose.2 ∧ TChg lo [64, 66] w w' ∧ CFr w w' g := by
  obtain ⟨A0, c0, -, -, -, hh, q0, q1, q2⟩ := h.open_
  have hgb := h.bounds.1
  have hf := h.free 2
  have hset := Lib.hid (h.set2 true)
  have hT := Lib.hid (TChg.of_set (ts := [64, 66]) hh (by simp) hgb 2 (.bool true))
  have hcfr := Lib.hid (CFr.set_self (j := 2) hh (by decide) (.bool true))
  clear hh
  obtain ⟨x, hx⟩ : ∃ x, s.lose = x := ⟨_, rfl⟩
  rw [hx]
  unfold CS.lose at hx
  replace h := Lib.hid h
  cases hlo : s.lost with
  | true =>
    rw [if_pos hlo] at hx
    rw [hlo] at q2
    replace hlo := Lib.hid hlo
    subst hx
    go_enter Try.func41, Try.ntmps41
    go_wp2
    go_ret
    exact ⟨rfl, h.out, TChg.refl _ _ _, CFr.refl _ _⟩
  | false =>
    rw [if_neg (by rw [hlo]; decide)] at hx
    rw [hlo] at q2
    replace hlo := Lib.hid hlo
    subst hx
    go_enter Try.func41, Try.ntmps41
    go_wp2
    go_ret
    exact ⟨rfl, hset.out, hT.out, hcfr.out⟩
end Go.Proofs.Ytfjhdcppehfiiaa
