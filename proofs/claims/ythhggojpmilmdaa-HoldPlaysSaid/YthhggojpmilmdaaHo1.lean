/- hold: the ring in memory; New, missing, remove, addLast. -/
import Derived.Test.YthhggojpmilmdaaHoM
import Derived.Test.YthhggojpmilmdaaClone
import Derived.Test.YthhggojpmilmdaaReg2
import Derived.Test.YthhggojpmilmdaaTyp6
import Derived.Deep.DeepCutAuto
import Derived.LoopTactic
import Derived.WalkSpells
namespace Go.Proofs.Ythhggojpmilmdaa
set_option linter.unusedVariables false
set_option linter.unusedSimpArgs false
open Go Go.RowKit
def GrM (w w' : World) : Prop := Below w.heap.size w w'
theorem GrM.refl (w : World) : GrM w w := Below.refl _ w
theorem GrM.trans {x y z : World} (h1 : GrM x y) (h2 : GrM y z) : GrM x z := Below.trans h1 (Below.mono h2 (Below.size h1))
theorem GrM.road : Road GrM := ⟨GrM.refl, GrM.trans⟩
theorem GrM.alloc (w : World) (o : Obj) : GrM w (w.alloc o) := (Below.refl _ w).alloc (Nat.le_refl _) o
/-- what the cache may turn: its own struct, and pairs -/
abbrev hts : List TypeId := [52, 60]
abbrev pts : List TypeId := [60]
/-- the cells of a pair's block -/
abbrev prC (k : List UInt8) (v : Value) (b n : Nat) : Array Value := #[.string (bs k), v, .pointer (some ⟨b, 0, none⟩), .pointer (some ⟨n, 0, none⟩)]
abbrev Mn := Nat × List UInt8 × Value
/-- the pairs' blocks -/
def Nds (w : World) (nx bf : Nat → Nat) (M : List Mn) : Prop := ∀ e ∈ M, w.heap[e.1]? = some (.cells (prC e.2.1 e.2.2 (bf e.1) (nx e.1)) 60 (0, 0))
section
variable {w w' : World} {nx bf : Nat → Nat} {M : List Mn}
theorem Nds.setN (h : Nds w nx bf M) (a b : Nat) : Nds (w.setCell ⟨a, 3, none⟩ (.pointer (some ⟨b, 0, none⟩))) (fupd nx a b) bf M := fun e he => by
  by_cases hk : e.1 = a
  · have := blk_set (h e he) 3 (.pointer (some ⟨b, 0, none⟩))
    rw [hk] at this ⊢
    rw [fupd_at, this]
    rfl
  · rw [fupd_ne _ hk]
    exact (blk_other hk 3 _).trans (h e he)
theorem Nds.setB (h : Nds w nx bf M) (a b : Nat) : Nds (w.setCell ⟨a, 2, none⟩ (.pointer (some ⟨b, 0, none⟩))) nx (fupd bf a b) M := fun e he => by
  by_cases hk : e.1 = a
  · have := blk_set (h e he) 2 (.pointer (some ⟨b, 0, none⟩))
    rw [hk] at this ⊢
    rw [fupd_at, this]
    rfl
  · rw [fupd_ne _ hk]
    exact (blk_other hk 2 _).trans (h e he)
theorem Nds.below (hb : Below w.heap.size w w') (h : Nds w nx bf M) : Nds w' nx bf M := fun e he => blk_below (h e he) hb
theorem Nds.other {g j : Nat} {u : Value} (h : Nds w nx bf M) (hg : ∀ e ∈ M, e.1 ≠ g) : Nds (w.setCell ⟨g, j, none⟩ u) nx bf M := fun e he => (blk_other (hg e he) j u).trans (h e he)
end
theorem TChg.drew1 {lo : Nat} {ts : List TypeId} {w wd : World} (h : wd = w.drew) : TChg lo ts w wd := by subst h; exact TChg.refl _ _ _
set_option maxHeartbeats 1000000 in
set_option maxRecDepth 10000 in
/-- a pair is taken out of the ring -/
theorem rem_any (x : Value) (lo : Nat) (nx bf : Nat → Nat) (M : List Mn) (p : Nat) (w : World) (h : Hid (Nds w nx bf M)) (hp : ∃ k v, (p, k, v) ∈ M) (ha : ∃ k v, (bf p, k, v) ∈ M) (hb : ∃ k v, (nx p, k, v) ∈ M) (hla : lo ≤ bf p) (hlb : lo ≤ nx p) :
    Calls Try.prog 25 #[x, .pointer (some ⟨p, 0, none⟩)] w fun e w' => (∃ v, e = .returned v) ∧ Hid (Nds w' (fupd nx (bf p) (nx p)) (fupd bf (nx p) (bf p)) M) ∧ TChg lo pts w w' := by
  obtain ⟨wd, hwd⟩ : ∃ wd, wd = w.drew := ⟨_, rfl⟩
  have hd : Nds wd nx bf M := by rw [hwd]; exact h.out
  have ht0 : Hid (TChg lo pts w wd) := Lib.hid (TChg.drew1 hwd)
  clear h
  obtain ⟨kp, vp, hp⟩ := hp
  obtain ⟨ka, va, ha⟩ := ha
  obtain ⟨kb, vb', hb⟩ := hb
  have bp := hd _ hp
  have ba := hd _ ha
  have hda := hd.setN (bf p) (nx p)
  have bb := hda _ hb
  dsimp only at bp ba bb
  have t1 : TChg lo pts wd (wd.setCell ⟨bf p, 3, none⟩ (.pointer (some ⟨nx p, 0, none⟩))) := TChg.of_set ba (List.mem_singleton.2 rfl) hla 3 _
  have t2 := Lib.hid (t1.trans (TChg.of_set bb (by simp) hlb 2 (.pointer (some ⟨bf p, 0, none⟩))))
  have hfin := Lib.hid (hda.setB (nx p) (bf p))
  have c2 := blk_cell (j := 2) bp rfl
  have c3 := blk_cell (j := 3) bp rfl
  have ca := blk_cell (j := 3) ba rfl
  have fa := blk_free ba 3
  have cb := blk_cell (j := 2) bb rfl
  have fb := blk_free bb 2
  clear t1 bp ba bb hda hd hp ha hb hla hlb
  generalize bf p = a at *
  generalize nx p = b at *
  go_enter Try.func25, Try.ntmps25
  refine wpR_region (Eq) 18 (by kernel_rfl) ?_
  (rw [← hwd]; replace hwd := Lib.hid hwd)
  refine wpR_take (i := 0) (v := ?_) (⟨fun _ => rfl, Eq.trans⟩) (some 4) rfl (by kernel_rfl) (by kernel_rfl) (by kernel_rfl) (by kernel_rfl) (by kernel_rfl) (fun _ _ _ h => h) (by kernel_rfl) (fun w' hw' => ?_) ?_
  rotate_left
  · go_simp; with_reducible rfl
  simp only [Act.put, List.setIfInBounds_toArray, List.set_cons_zero, List.set_cons_succ]
  refine wpR_take (i := 1) (v := ?_) (⟨fun _ => rfl, Eq.trans⟩) (some 5) rfl (by kernel_rfl) (by kernel_rfl) (by kernel_rfl) (by kernel_rfl) (by kernel_rfl) (fun _ _ _ h => h) (by kernel_rfl) (fun w' hw' => ?_) ?_
  rotate_left
  · go_simp; with_reducible rfl
  simp only [Act.put, List.setIfInBounds_toArray, List.set_cons_zero, List.set_cons_succ]
  refine wpR_take (i := 2) (v := ?_) (⟨fun _ => rfl, Eq.trans⟩) (some 6) rfl (by kernel_rfl) (by kernel_rfl) (by kernel_rfl) (by kernel_rfl) (by kernel_rfl) (fun _ _ _ h => h) (by kernel_rfl) (fun w' hw' => ?_) ?_
  rotate_left
  · go_simp; with_reducible rfl
  simp only [Act.put, List.setIfInBounds_toArray, List.set_cons_zero, List.set_cons_succ]
  refine wpR_take (i := 3) (v := ?_) (⟨fun _ => rfl, Eq.trans⟩) (some 7) rfl (by kernel_rfl) (by kernel_rfl) (by kernel_rfl) (by kernel_rfl) (by kernel_rfl) (fun _ _ _ h => h) (by kernel_rfl) (fun w' hw' => ?_) ?_
  rotate_left
  · subst hw'; go_simp; with_reducible rfl
  simp only [Act.put, List.setIfInBounds_toArray, List.set_cons_zero, List.set_cons_succ]
  refine wpR_takeU (i := 4) (v := ?_) (⟨fun _ => rfl, Eq.trans⟩) (some 8) rfl (by kernel_rfl) (by kernel_rfl) (by kernel_rfl) (by kernel_rfl) (fun _ _ _ h => h) (by kernel_rfl) (fun w' => ?_) ?_
  rotate_left
  · go_simp; with_reducible rfl
  simp only [Act.put, List.setIfInBounds_toArray, List.set_cons_zero, List.set_cons_succ]
  refine wpR_takeU (i := 5) (v := ?_) (⟨fun _ => rfl, Eq.trans⟩) (some 9) rfl (by kernel_rfl) (by kernel_rfl) (by kernel_rfl) (by kernel_rfl) (fun _ _ _ h => h) (by kernel_rfl) (fun w' => ?_) ?_
  rotate_left
  · go_simp; with_reducible rfl
  simp only [Act.put, List.setIfInBounds_toArray, List.set_cons_zero, List.set_cons_succ]
  refine wpR_takeU (i := 6) (v := ?_) (⟨fun _ => rfl, Eq.trans⟩) (some 10) rfl (by kernel_rfl) (by kernel_rfl) (by kernel_rfl) (by kernel_rfl) (fun _ _ _ h => h) (by kernel_rfl) (fun w' => ?_) ?_
  rotate_left
  · go_simp; with_reducible rfl
  simp only [Act.put, List.setIfInBounds_toArray, List.set_cons_zero, List.set_cons_succ]
  refine wpR_take (i := 7) (v := ?_) (⟨fun _ => rfl, Eq.trans⟩) (some 11) rfl (by kernel_rfl) (by kernel_rfl) (by kernel_rfl) (by kernel_rfl) (by kernel_rfl) (fun _ _ _ h => h) (by kernel_rfl) (fun w' hw' => ?_) ?_
  rotate_left
  · subst hw'; go_simp; with_reducible rfl
  simp only [Act.put, List.setIfInBounds_toArray, List.set_cons_zero, List.set_cons_succ]
  refine wpR_take (i := 8) (v := ?_) (⟨fun _ => rfl, Eq.trans⟩) (some 12) rfl (by kernel_rfl) (by kernel_rfl) (by kernel_rfl) (by kernel_rfl) (by kernel_rfl) (fun _ _ _ h => h) (by kernel_rfl) (fun w' hw' => ?_) ?_
  rotate_left
  · go_simp; with_reducible rfl
  simp only [Act.put, List.setIfInBounds_toArray, List.set_cons_zero, List.set_cons_succ]
  refine wpR_take (i := 9) (v := ?_) (⟨fun _ => rfl, Eq.trans⟩) (some 13) rfl (by kernel_rfl) (by kernel_rfl) (by kernel_rfl) (by kernel_rfl) (by kernel_rfl) (fun _ _ _ h => h) (by kernel_rfl) (fun w' hw' => ?_) ?_
  rotate_left
  · go_simp; with_reducible rfl
  simp only [Act.put, List.setIfInBounds_toArray, List.set_cons_zero, List.set_cons_succ]
  refine wpR_take (i := 10) (v := ?_) (⟨fun _ => rfl, Eq.trans⟩) (some 14) rfl (by kernel_rfl) (by kernel_rfl) (by kernel_rfl) (by kernel_rfl) (by kernel_rfl) (fun _ _ _ h => h) (by kernel_rfl) (fun w' hw' => ?_) ?_
  rotate_left
  · go_simp; with_reducible rfl
  simp only [Act.put, List.setIfInBounds_toArray, List.set_cons_zero, List.set_cons_succ]
  refine wpR_take (i := 11) (v := ?_) (⟨fun _ => rfl, Eq.trans⟩) (some 15) rfl (by kernel_rfl) (by kernel_rfl) (by kernel_rfl) (by kernel_rfl) (by kernel_rfl) (fun _ _ _ h => h) (by kernel_rfl) (fun w' hw' => ?_) ?_
  rotate_left
  · subst hw'; go_simp; with_reducible rfl
  simp only [Act.put, List.setIfInBounds_toArray, List.set_cons_zero, List.set_cons_succ]
  refine wpR_takeU (i := 12) (v := ?_) (⟨fun _ => rfl, Eq.trans⟩) (some 16) rfl (by kernel_rfl) (by kernel_rfl) (by kernel_rfl) (by kernel_rfl) (fun _ _ _ h => h) (by kernel_rfl) (fun w' => ?_) ?_
  rotate_left
  · go_simp; with_reducible rfl
  simp only [Act.put, List.setIfInBounds_toArray, List.set_cons_zero, List.set_cons_succ]
  refine wpR_takeU (i := 13) (v := ?_) (⟨fun _ => rfl, Eq.trans⟩) (some 17) rfl (by kernel_rfl) (by kernel_rfl) (by kernel_rfl) (by kernel_rfl) (fun _ _ _ h => h) (by kernel_rfl) (fun w' => ?_) ?_
  rotate_left
  · go_simp; with_reducible rfl
  simp only [Act.put, List.setIfInBounds_toArray, List.set_cons_zero, List.set_cons_succ]
  refine wpR_takeU (i := 14) (v := ?_) (⟨fun _ => rfl, Eq.trans⟩) (some 18) rfl (by kernel_rfl) (by kernel_rfl) (by kernel_rfl) (by kernel_rfl) (fun _ _ _ h => h) (by kernel_rfl) (fun w' => ?_) ?_
  rotate_left
  · go_simp; with_reducible rfl
  simp only [Act.put, List.setIfInBounds_toArray, List.set_cons_zero, List.set_cons_succ]
  refine wpR_take (i := 15) (v := ?_) (⟨fun _ => rfl, Eq.trans⟩) (some 19) rfl (by kernel_rfl) (by kernel_rfl) (by kernel_rfl) (by kernel_rfl) (by kernel_rfl) (fun _ _ _ h => h) (by kernel_rfl) (fun w' hw' => ?_) ?_
  rotate_left
  · subst hw'; go_simp; with_reducible rfl
  simp only [Act.put, List.setIfInBounds_toArray, List.set_cons_zero, List.set_cons_succ]
  refine wpR_takeU (i := 16) (v := ?_) (⟨fun _ => rfl, Eq.trans⟩) (some 20) rfl (by kernel_rfl) (by kernel_rfl) (by kernel_rfl) (by kernel_rfl) (fun _ _ _ h => h) (by kernel_rfl) (fun w' => ?_) ?_
  rotate_left
  · go_simp; with_reducible rfl
  simp only [Act.put, List.setIfInBounds_toArray, List.set_cons_zero, List.set_cons_succ]
  refine wpR_take (i := 17) (v := ?_) (⟨fun _ => rfl, Eq.trans⟩) (some 21) rfl (by kernel_rfl) (by kernel_rfl) (by kernel_rfl) (by kernel_rfl) (by kernel_rfl) (fun _ _ _ h => h) (by kernel_rfl) (fun w' hw' => ?_) ?_
  rotate_left
  · go_simp; with_reducible rfl
  simp only [Act.put, List.setIfInBounds_toArray, List.set_cons_zero, List.set_cons_succ]
  refine wpR_one 18 rfl (by kernel_rfl) (by kernel_rfl) (fun K hK => ?_)
  go_simp
  refine hK _ _ (fun h => absurd h (by decide)) ?_
  clear hK K
  try simp only [Act.put, List.setIfInBounds_toArray, List.set_cons_zero, List.set_cons_succ]
  refine wpR_takeU (i := 19) (v := ?_) (⟨fun _ => rfl, Eq.trans⟩) (some 22) rfl (by kernel_rfl) (by kernel_rfl) (by kernel_rfl) (by kernel_rfl) (fun _ _ _ h => h) (by kernel_rfl) (fun w' => ?_) ?_
  rotate_left
  · go_simp; with_reducible rfl
  simp only [Act.put, List.setIfInBounds_toArray, List.set_cons_zero, List.set_cons_succ]
  refine wpR_take (i := 20) (v := ?_) (⟨fun _ => rfl, Eq.trans⟩) (some 23) rfl (by kernel_rfl) (by kernel_rfl) (by kernel_rfl) (by kernel_rfl) (by kernel_rfl) (fun _ _ _ h => h) (by kernel_rfl) (fun w' hw' => ?_) ?_
  rotate_left
  · go_simp; with_reducible rfl
  simp only [Act.put, List.setIfInBounds_toArray, List.set_cons_zero, List.set_cons_succ]
  refine wpR_one 21 rfl (by kernel_rfl) (by kernel_rfl) (fun K hK => ?_)
  go_simp
  refine hK _ _ (fun h => absurd h (by decide)) ?_
  clear hK K
  try simp only [Act.put, List.setIfInBounds_toArray, List.set_cons_zero, List.set_cons_succ]
  refine wpR_done (by kernel_rfl) ?_ _
  go_end0
  exact ⟨⟨_, rfl⟩, hfin, ht0.out.trans t2.out⟩
set_option maxHeartbeats 1000000 in
set_option maxRecDepth 10000 in
/-- a pair is linked in as the last -/
theorem add_any (lo g r : Nat) (nx bf : Nat → Nat) (M : List Mn) (p : Nat) (k : List UInt8) (v x y : Value) (T : TypeId) (cs : Array Value) (w : World) (h : Hid (Nds w nx bf M))
    (hg : w.heap[g]? = some (.cells cs T (0, 0))) (hT : T ≠ 60) (hc : cs[0]? = some (.pointer (some ⟨r, 0, none⟩)))
    (hp : w.heap[p]? = some (.cells #[.string (bs k), v, x, y] 60 (0, 0)))
    (hr : ∃ k v, (r, k, v) ∈ M) (hz : ∃ k v, (bf r, k, v) ∈ M) (hlp : lo ≤ p) (hlr : lo ≤ r) (hlz : lo ≤ bf r) :
    Calls Try.prog 26 #[.pointer (some ⟨g, 0, none⟩), .pointer (some ⟨p, 0, none⟩)] w fun e w' => (∃ v, e = .returned v) ∧
      Hid (Nds w' (fupd (fupd nx p r) (bf r) p) (fupd (fupd bf p (bf r)) r p) ((p, k, v) :: M)) ∧ TChg lo pts w w' := by
  obtain ⟨wd, hwd⟩ : ∃ wd, wd = w.drew := ⟨_, rfl⟩
  have hd : Nds wd nx bf M := by rw [hwd]; exact h.out
  have ht0 : Hid (TChg lo pts w wd) := Lib.hid (TChg.drew1 hwd)
  have hgd : wd.heap[g]? = some (.cells cs T (0, 0)) := by rw [hwd]; exact hg
  have hpd : wd.heap[p]? = some (.cells #[.string (bs k), v, x, y] 60 (0, 0)) := by rw [hwd]; exact hp
  have hgp : g ≠ p := fun e => by subst e; rw [hgd] at hpd; injection hpd with hpd; injection hpd with _ e _; exact hT e
  clear h hg hp
  obtain ⟨kr, vr, hr⟩ := hr
  obtain ⟨kz, vz, hz⟩ := hz
  have br := hd _ hr
  dsimp only at br
  have cg := blk_cell (j := 0) hgd hc
  have crb := blk_cell (j := 2) br rfl
  have cp2 := blk_cell (j := 2) hpd rfl
  have fp2 := blk_free hpd 2
  have n1 := hd.setB p (bf r)
  have q1 := blk_set hpd 2 (.pointer (some ⟨bf r, 0, none⟩))
  have t1 : TChg lo pts wd (wd.setCell ⟨p, 2, none⟩ (.pointer (some ⟨bf r, 0, none⟩))) := TChg.of_set hpd (by simp) hlp 2 _
  have n2 := n1.setN p r
  have q2 := blk_set q1 3 (.pointer (some ⟨r, 0, none⟩))
  have t2 := t1.trans (TChg.of_set q1 (by simp) hlp 3 (.pointer (some ⟨r, 0, none⟩)))
  have cp3 := blk_cell (j := 3) (v := y) q1 rfl
  have fp3 := blk_free q1 3
  have ht2 := Lib.hid t2
  have hn2 := Lib.hid n2
  have hq2 := Lib.hid q2
  clear t1 t2 n1 n2 q1 q2 br hgd hd hpd
  go_enter Try.func26, Try.ntmps26
  go_upto_region 0 with (fail)
  refine wpR_region (Eq) 15 (by kernel_rfl) ?_
  (rw [← hwd]; replace hwd := Lib.hid hwd)
  refine wpR_take (i := 0) (v := ?_) (⟨fun _ => rfl, Eq.trans⟩) (some 4) rfl (by kernel_rfl) (by kernel_rfl) (by kernel_rfl) (by kernel_rfl) (by kernel_rfl) (fun _ _ _ h => h) (by kernel_rfl) (fun w' hw' => ?_) ?_
  rotate_left
  · go_simp; with_reducible rfl
  simp only [Act.put, List.setIfInBounds_toArray, List.set_cons_zero, List.set_cons_succ]
  refine wpR_takeU (i := 1) (v := ?_) (⟨fun _ => rfl, Eq.trans⟩) (some 5) rfl (by kernel_rfl) (by kernel_rfl) (by kernel_rfl) (by kernel_rfl) (fun _ _ _ h => h) (by kernel_rfl) (fun w' => ?_) ?_
  rotate_left
  · go_simp; with_reducible rfl
  simp only [Act.put, List.setIfInBounds_toArray, List.set_cons_zero, List.set_cons_succ]
  refine wpR_take (i := 2) (v := ?_) (⟨fun _ => rfl, Eq.trans⟩) (some 6) rfl (by kernel_rfl) (by kernel_rfl) (by kernel_rfl) (by kernel_rfl) (by kernel_rfl) (fun _ _ _ h => h) (by kernel_rfl) (fun w' hw' => ?_) ?_
  rotate_left
  · go_simp; with_reducible rfl
  simp only [Act.put, List.setIfInBounds_toArray, List.set_cons_zero, List.set_cons_succ]
  refine wpR_take (i := 3) (v := ?_) (⟨fun _ => rfl, Eq.trans⟩) (some 7) rfl (by kernel_rfl) (by kernel_rfl) (by kernel_rfl) (by kernel_rfl) (by kernel_rfl) (fun _ _ _ h => h) (by kernel_rfl) (fun w' hw' => ?_) ?_
  rotate_left
  · go_simp; with_reducible rfl
  simp only [Act.put, List.setIfInBounds_toArray, List.set_cons_zero, List.set_cons_succ]
  refine wpR_take (i := 4) (v := ?_) (⟨fun _ => rfl, Eq.trans⟩) (some 8) rfl (by kernel_rfl) (by kernel_rfl) (by kernel_rfl) (by kernel_rfl) (by kernel_rfl) (fun _ _ _ h => h) (by kernel_rfl) (fun w' hw' => ?_) ?_
  rotate_left
  · go_simp; with_reducible rfl
  simp only [Act.put, List.setIfInBounds_toArray, List.set_cons_zero, List.set_cons_succ]
  refine wpR_take (i := 5) (v := ?_) (⟨fun _ => rfl, Eq.trans⟩) (some 9) rfl (by kernel_rfl) (by kernel_rfl) (by kernel_rfl) (by kernel_rfl) (by kernel_rfl) (fun _ _ _ h => h) (by kernel_rfl) (fun w' hw' => ?_) ?_
  rotate_left
  · subst hw'; go_simp; with_reducible rfl
  simp only [Act.put, List.setIfInBounds_toArray, List.set_cons_zero, List.set_cons_succ]
  refine wpR_take (i := 6) (v := ?_) (⟨fun _ => rfl, Eq.trans⟩) (some 10) rfl (by kernel_rfl) (by kernel_rfl) (by kernel_rfl) (by kernel_rfl) (by kernel_rfl) (fun _ _ _ h => h) (by kernel_rfl) (fun w' hw' => ?_) ?_
  rotate_left
  · go_simp; with_reducible rfl
  simp only [Act.put, List.setIfInBounds_toArray, List.set_cons_zero, List.set_cons_succ]
  refine wpR_take (i := 7) (v := ?_) (⟨fun _ => rfl, Eq.trans⟩) (some 11) rfl (by kernel_rfl) (by kernel_rfl) (by kernel_rfl) (by kernel_rfl) (by kernel_rfl) (fun _ _ _ h => h) (by kernel_rfl) (fun w' hw' => ?_) ?_
  rotate_left
  · go_simp; with_reducible rfl
  simp only [Act.put, List.setIfInBounds_toArray, List.set_cons_zero, List.set_cons_succ]
  refine wpR_take (i := 8) (v := ?_) (⟨fun _ => rfl, Eq.trans⟩) (some 12) rfl (by kernel_rfl) (by kernel_rfl) (by kernel_rfl) (by kernel_rfl) (by kernel_rfl) (fun _ _ _ h => h) (by kernel_rfl) (fun w' hw' => ?_) ?_
  rotate_left
  · subst hw'; go_simp; with_reducible rfl
  simp only [Act.put, List.setIfInBounds_toArray, List.set_cons_zero, List.set_cons_succ]
  refine wpR_takeU (i := 9) (v := ?_) (⟨fun _ => rfl, Eq.trans⟩) (some 13) rfl (by kernel_rfl) (by kernel_rfl) (by kernel_rfl) (by kernel_rfl) (fun _ _ _ h => h) (by kernel_rfl) (fun w' => ?_) ?_
  rotate_left
  · go_simp; with_reducible rfl
  simp only [Act.put, List.setIfInBounds_toArray, List.set_cons_zero, List.set_cons_succ]
  refine wpR_takeU (i := 10) (v := ?_) (⟨fun _ => rfl, Eq.trans⟩) (some 14) rfl (by kernel_rfl) (by kernel_rfl) (by kernel_rfl) (by kernel_rfl) (fun _ _ _ h => h) (by kernel_rfl) (fun w' => ?_) ?_
  rotate_left
  · go_simp; with_reducible rfl
  simp only [Act.put, List.setIfInBounds_toArray, List.set_cons_zero, List.set_cons_succ]
  refine wpR_takeU (i := 11) (v := ?_) (⟨fun _ => rfl, Eq.trans⟩) (some 15) rfl (by kernel_rfl) (by kernel_rfl) (by kernel_rfl) (by kernel_rfl) (fun _ _ _ h => h) (by kernel_rfl) (fun w' => ?_) ?_
  rotate_left
  · go_simp; with_reducible rfl
  simp only [Act.put, List.setIfInBounds_toArray, List.set_cons_zero, List.set_cons_succ]
  refine wpR_take (i := 12) (v := ?_) (⟨fun _ => rfl, Eq.trans⟩) (some 16) rfl (by kernel_rfl) (by kernel_rfl) (by kernel_rfl) (by kernel_rfl) (by kernel_rfl) (fun _ _ _ h => h) (by kernel_rfl) (fun w' hw' => ?_) ?_
  rotate_left
  · subst hw'; go_simp; with_reducible rfl
  simp only [Act.put, List.setIfInBounds_toArray, List.set_cons_zero, List.set_cons_succ]
  refine wpR_takeU (i := 13) (v := ?_) (⟨fun _ => rfl, Eq.trans⟩) (some 17) rfl (by kernel_rfl) (by kernel_rfl) (by kernel_rfl) (by kernel_rfl) (fun _ _ _ h => h) (by kernel_rfl) (fun w' => ?_) ?_
  rotate_left
  · go_simp; with_reducible rfl
  simp only [Act.put, List.setIfInBounds_toArray, List.set_cons_zero, List.set_cons_succ]
  refine wpR_take (i := 14) (v := ?_) (⟨fun _ => rfl, Eq.trans⟩) (some 18) rfl (by kernel_rfl) (by kernel_rfl) (by kernel_rfl) (by kernel_rfl) (by kernel_rfl) (fun _ _ _ h => h) (by kernel_rfl) (fun w' hw' => ?_) ?_
  rotate_left
  · go_simp; with_reducible rfl
  simp only [Act.put, List.setIfInBounds_toArray, List.set_cons_zero, List.set_cons_succ]
  refine wpR_one 15 rfl (by kernel_rfl) (by kernel_rfl) (fun K hK => ?_)
  go_simp
  refine hK _ _ (fun h => absurd h (by decide)) ?_
  clear hK K
  try simp only [Act.put, List.setIfInBounds_toArray, List.set_cons_zero, List.set_cons_succ]
  refine wpR_takeU (i := 16) (v := ?_) (⟨fun _ => rfl, Eq.trans⟩) (some 19) rfl (by kernel_rfl) (by kernel_rfl) (by kernel_rfl) (by kernel_rfl) (fun _ _ _ h => h) (by kernel_rfl) (fun w' => ?_) ?_
  rotate_left
  · go_simp; with_reducible rfl
  simp only [Act.put, List.setIfInBounds_toArray, List.set_cons_zero, List.set_cons_succ]
  refine wpR_take (i := 17) (v := ?_) (⟨fun _ => rfl, Eq.trans⟩) (some 20) rfl (by kernel_rfl) (by kernel_rfl) (by kernel_rfl) (by kernel_rfl) (by kernel_rfl) (fun _ _ _ h => h) (by kernel_rfl) (fun w' hw' => ?_) ?_
  rotate_left
  · go_simp; with_reducible rfl
  simp only [Act.put, List.setIfInBounds_toArray, List.set_cons_zero, List.set_cons_succ]
  refine wpR_one 18 rfl (by kernel_rfl) (by kernel_rfl) (fun K hK => ?_)
  go_simp
  refine hK _ _ (fun h => absurd h (by decide)) ?_
  clear hK K
  try simp only [Act.put, List.setIfInBounds_toArray, List.set_cons_zero, List.set_cons_succ]
  refine wpR_done (by kernel_rfl) ?_ _
  generalize hw2 : ((wd.setCell ⟨p, 2, none⟩ (.pointer (some ⟨bf r, 0, none⟩))).setCell ⟨p, 3, none⟩ (.pointer (some ⟨r, 0, none⟩))) = w2 at hq2 hn2 ht2 ⊢
  replace hw2 := Lib.hid hw2
  clear cg crb cp2 fp2 cp3 fp3
  go_upto_region 1 with (fail)
  obtain ⟨wd2, hwd2⟩ : ∃ wd2, wd2 = w2.drew := ⟨_, rfl⟩
  have hd2 : Nds wd2 (fupd nx p r) (fupd bf p (bf r)) M := by rw [hwd2]; exact hn2.out
  have hp2 : wd2.heap[p]? = some (.cells (prC k v (bf r) r) 60 (0, 0)) := by rw [hwd2]; exact hq2.out
  have ht3 : Hid (TChg lo pts w wd2) := Lib.hid (ht0.out.trans (ht2.out.trans (TChg.drew1 hwd2)))
  have hd3 : Nds wd2 (fupd nx p r) (fupd bf p (bf r)) ((p, k, v) :: M) := fun e he => by
    rcases List.mem_cons.1 he with rfl | he
    · dsimp only
      rw [fupd_at, fupd_at]
      exact hp2
    · exact hd2 e he
  have n1 := hd3.setN (bf r) p
  have bz := hd3 _ (List.mem_cons_of_mem _ hz)
  dsimp only at bz
  have br := n1 _ (List.mem_cons_of_mem _ hr)
  dsimp only at br
  have cp2 := blk_cell (j := 2) hp2 rfl
  have cp3 := blk_cell (j := 3) hp2 rfl
  have cz := blk_cell (j := 3) bz rfl
  have fz := blk_free bz 3
  have cr := blk_cell (j := 2) br rfl
  have fr := blk_free br 2
  have t1 : TChg lo pts wd2 (wd2.setCell ⟨bf r, 3, none⟩ (.pointer (some ⟨p, 0, none⟩))) := TChg.of_set bz (by simp) hlz 3 _
  have t2 := Lib.hid (t1.trans (TChg.of_set br (by simp) hlr 2 (.pointer (some ⟨p, 0, none⟩))))
  have hfin := Lib.hid (n1.setB r p)
  clear t1 n1 bz br hd3 hd2 hp2 hq2 hn2 hz hr
  refine wpR_region (Eq) 12 (by kernel_rfl) ?_
  (rw [← hwd2]; replace hwd2 := Lib.hid hwd2)
  refine wpR_take (i := 0) (v := ?_) (⟨fun _ => rfl, Eq.trans⟩) (some 21) rfl (by kernel_rfl) (by kernel_rfl) (by kernel_rfl) (by kernel_rfl) (by kernel_rfl) (fun _ _ _ h => h) (by kernel_rfl) (fun w' hw' => ?_) ?_
  rotate_left
  · go_simp; with_reducible rfl
  simp only [Act.put, List.setIfInBounds_toArray, List.set_cons_zero, List.set_cons_succ]
  refine wpR_take (i := 1) (v := ?_) (⟨fun _ => rfl, Eq.trans⟩) (some 22) rfl (by kernel_rfl) (by kernel_rfl) (by kernel_rfl) (by kernel_rfl) (by kernel_rfl) (fun _ _ _ h => h) (by kernel_rfl) (fun w' hw' => ?_) ?_
  rotate_left
  · go_simp; with_reducible rfl
  simp only [Act.put, List.setIfInBounds_toArray, List.set_cons_zero, List.set_cons_succ]
  refine wpR_take (i := 2) (v := ?_) (⟨fun _ => rfl, Eq.trans⟩) (some 23) rfl (by kernel_rfl) (by kernel_rfl) (by kernel_rfl) (by kernel_rfl) (by kernel_rfl) (fun _ _ _ h => h) (by kernel_rfl) (fun w' hw' => ?_) ?_
  rotate_left
  · go_simp; with_reducible rfl
  simp only [Act.put, List.setIfInBounds_toArray, List.set_cons_zero, List.set_cons_succ]
  refine wpR_take (i := 3) (v := ?_) (⟨fun _ => rfl, Eq.trans⟩) (some 24) rfl (by kernel_rfl) (by kernel_rfl) (by kernel_rfl) (by kernel_rfl) (by kernel_rfl) (fun _ _ _ h => h) (by kernel_rfl) (fun w' hw' => ?_) ?_
  rotate_left
  · subst hw'; go_simp; with_reducible rfl
  simp only [Act.put, List.setIfInBounds_toArray, List.set_cons_zero, List.set_cons_succ]
  refine wpR_takeU (i := 4) (v := ?_) (⟨fun _ => rfl, Eq.trans⟩) (some 25) rfl (by kernel_rfl) (by kernel_rfl) (by kernel_rfl) (by kernel_rfl) (fun _ _ _ h => h) (by kernel_rfl) (fun w' => ?_) ?_
  rotate_left
  · go_simp; with_reducible rfl
  simp only [Act.put, List.setIfInBounds_toArray, List.set_cons_zero, List.set_cons_succ]
  refine wpR_takeU (i := 5) (v := ?_) (⟨fun _ => rfl, Eq.trans⟩) (some 26) rfl (by kernel_rfl) (by kernel_rfl) (by kernel_rfl) (by kernel_rfl) (fun _ _ _ h => h) (by kernel_rfl) (fun w' => ?_) ?_
  rotate_left
  · go_simp; with_reducible rfl
  simp only [Act.put, List.setIfInBounds_toArray, List.set_cons_zero, List.set_cons_succ]
  refine wpR_takeU (i := 6) (v := ?_) (⟨fun _ => rfl, Eq.trans⟩) (some 27) rfl (by kernel_rfl) (by kernel_rfl) (by kernel_rfl) (by kernel_rfl) (fun _ _ _ h => h) (by kernel_rfl) (fun w' => ?_) ?_
  rotate_left
  · go_simp; with_reducible rfl
  simp only [Act.put, List.setIfInBounds_toArray, List.set_cons_zero, List.set_cons_succ]
  refine wpR_take (i := 7) (v := ?_) (⟨fun _ => rfl, Eq.trans⟩) (some 28) rfl (by kernel_rfl) (by kernel_rfl) (by kernel_rfl) (by kernel_rfl) (by kernel_rfl) (fun _ _ _ h => h) (by kernel_rfl) (fun w' hw' => ?_) ?_
  rotate_left
  · subst hw'; go_simp; with_reducible rfl
  simp only [Act.put, List.setIfInBounds_toArray, List.set_cons_zero, List.set_cons_succ]
  refine wpR_take (i := 8) (v := ?_) (⟨fun _ => rfl, Eq.trans⟩) (some 29) rfl (by kernel_rfl) (by kernel_rfl) (by kernel_rfl) (by kernel_rfl) (by kernel_rfl) (fun _ _ _ h => h) (by kernel_rfl) (fun w' hw' => ?_) ?_
  rotate_left
  · go_simp; with_reducible rfl
  simp only [Act.put, List.setIfInBounds_toArray, List.set_cons_zero, List.set_cons_succ]
  refine wpR_takeU (i := 9) (v := ?_) (⟨fun _ => rfl, Eq.trans⟩) (some 30) rfl (by kernel_rfl) (by kernel_rfl) (by kernel_rfl) (by kernel_rfl) (fun _ _ _ h => h) (by kernel_rfl) (fun w' => ?_) ?_
  rotate_left
  · go_simp; with_reducible rfl
  simp only [Act.put, List.setIfInBounds_toArray, List.set_cons_zero, List.set_cons_succ]
  refine wpR_takeU (i := 10) (v := ?_) (⟨fun _ => rfl, Eq.trans⟩) (some 31) rfl (by kernel_rfl) (by kernel_rfl) (by kernel_rfl) (by kernel_rfl) (fun _ _ _ h => h) (by kernel_rfl) (fun w' => ?_) ?_
  rotate_left
  · go_simp; with_reducible rfl
  simp only [Act.put, List.setIfInBounds_toArray, List.set_cons_zero, List.set_cons_succ]
  refine wpR_take (i := 11) (v := ?_) (⟨fun _ => rfl, Eq.trans⟩) (some 32) rfl (by kernel_rfl) (by kernel_rfl) (by kernel_rfl) (by kernel_rfl) (by kernel_rfl) (fun _ _ _ h => h) (by kernel_rfl) (fun w' hw' => ?_) ?_
  rotate_left
  · go_simp; with_reducible rfl
  simp only [Act.put, List.setIfInBounds_toArray, List.set_cons_zero, List.set_cons_succ]
  refine wpR_one 12 rfl (by kernel_rfl) (by kernel_rfl) (fun K hK => ?_)
  go_simp
  refine hK _ _ (fun h => absurd h (by decide)) ?_
  clear hK K
  try simp only [Act.put, List.setIfInBounds_toArray, List.set_cons_zero, List.set_cons_succ]
  refine wpR_takeU (i := 13) (v := ?_) (⟨fun _ => rfl, Eq.trans⟩) (some 33) rfl (by kernel_rfl) (by kernel_rfl) (by kernel_rfl) (by kernel_rfl) (fun _ _ _ h => h) (by kernel_rfl) (fun w' => ?_) ?_
  rotate_left
  · go_simp; with_reducible rfl
  simp only [Act.put, List.setIfInBounds_toArray, List.set_cons_zero, List.set_cons_succ]
  refine wpR_take (i := 14) (v := ?_) (⟨fun _ => rfl, Eq.trans⟩) (some 34) rfl (by kernel_rfl) (by kernel_rfl) (by kernel_rfl) (by kernel_rfl) (by kernel_rfl) (fun _ _ _ h => h) (by kernel_rfl) (fun w' hw' => ?_) ?_
  rotate_left
  · go_simp; with_reducible rfl
  simp only [Act.put, List.setIfInBounds_toArray, List.set_cons_zero, List.set_cons_succ]
  refine wpR_one 15 rfl (by kernel_rfl) (by kernel_rfl) (fun K hK => ?_)
  go_simp
  refine hK _ _ (fun h => absurd h (by decide)) ?_
  clear hK K
  try simp only [Act.put, List.setIfInBounds_toArray, List.set_cons_zero, List.set_cons_succ]
  refine wpR_done (by kernel_rfl) ?_ _
  go_end0
  exact ⟨⟨_, rfl⟩, hfin, ht3.out.trans t2.out⟩
end Go.Proofs.Ythhggojpmilmdaa
