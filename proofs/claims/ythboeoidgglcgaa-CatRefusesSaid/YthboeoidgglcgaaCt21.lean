/- cat: SortFunc's contract; the order of the notes that begin, plain. -/
import Derived.Test.YthboeoidgglcgaaCt20
namespace Go.Proofs.Ythboeoidgglcgaa
set_option linter.unusedVariables false
set_option linter.unusedSimpArgs false
open Go Go.RowKit Go.Maps Go.Sort Go.Shelf Go.Proofs
def BdG (L : List (By × Int)) : Prop := ∀ e ∈ L, 0 ≤ e.2 ∧ e.2 ≤ 1099511627776
def egs (L : List (By × Int)) (h : BdG L) : List Eg := L.pmap (fun e he => (⟨e, he⟩ : Eg)) (fun e he => h e he)
theorem egs_val (L : List (By × Int)) (h : BdG L) : (egs L h).map (fun e => e.1) = L := by
  unfold egs
  induction L with
  | nil => rfl
  | cons x L ih => rw [List.pmap, List.map_cons, ih (fun e he => h e (List.mem_cons_of_mem _ he))]
theorem egs_e4 (L : List (By × Int)) (h : BdG L) : (egs L h).map (fun e => e4 e.1) = L.map e4 := by
  have := congrArg (List.map e4) (egs_val L h)
  rw [List.map_map] at this
  exact this
theorem egs_len (L : List (By × Int)) (h : BdG L) : (egs L h).length = L.length := by unfold egs; exact List.length_pmap ..
theorem map_e4 (L : List Eg) : L.map (fun e => e4 e.1) = (L.map (fun e => e.1)).map e4 := by rw [List.map_map]; rfl
/-- rows of such notes -/
def O4 (L : List (By × Int)) (v : Value) (base : Nat) (w : World) : Prop := w.ownsRow base 32 8 v L.length (flatN (L.map e4))
theorem O4.on {L : List (By × Int)} {v : Value} {base : Nat} {w : World} (h : O4 L v base w) : ON (L.map e4) v base w where
  row := by unfold O4 at h; rw [List.length_map]; exact h
  vs x hx := by obtain ⟨e, -, rfl⟩ := List.mem_map.mp hx; exact neN_v rfl rfl w
  ap x hx := by obtain ⟨e, -, rfl⟩ := List.mem_map.mp hx; exact neN_apt rfl rfl _
theorem O4.of_on {L : List (By × Int)} {v : Value} {base : Nat} {w : World} (h : ON (L.map e4) v base w) : O4 L v base w := by have := h.row; rw [List.length_map] at this; exact this
theorem sortG_any (L : List (By × Int)) (hb : BdG L) (v : Value) (base : Nat) (w : World) (h : O4 L v base w) (hn : L.length ≤ 1000000) :
    Calls Try.prog 46 #[v, .func (.func 47) #[] #[]] w fun e w' => e = .returned (.tuple #[]) ∧ ∃ L', L'.Perm L ∧ L'.Pairwise (fun a b => a.2 ≤ b.2) ∧ O4 L' v base w' ∧ Below base w w' := by
  have h' := h
  unfold O4 at h
  rcases h.2 with ⟨rfl, h0⟩ | ⟨g, cap, cur, rfl, hbg, hh, hcap, hmx, hsz, htk⟩
  · obtain rfl : L = [] := List.eq_nil_of_length_eq_zero h0
    refine (AnyF.slices_SortFunc_none Try.ctFree none 0 (.func (.func 47) #[] #[]) w).mono ?_
    rintro e w' ⟨rfl, rfl⟩
    exact ⟨rfl, [], List.Perm.refl _, List.Pairwise.nil, h', Below.refl _ _⟩
  · have hg : g < w.heap.size := blk_lt hh
    have hle := egs_len L hb
    have hH : HoldsK encG 8 w g 0 (egs L hb).toArray := holdsG (L := egs L hb) hh (by rw [hle, egs_e4]; exact htk)
    have hcon := AnyQ.slices_SortFunc Try.ctFree 8 Try.isAgg32 Try.sizeOf32 encG encG_len encG_one cfG swoG 47 #[] g 0 cap (egs L hb).toArray w eg_enter
      (fun _ _ _ _ x y => closG_any x y _) hH hg (by simp [hle]; omega)
    have hz : (egs L hb).toArray.size = L.length := by simp [hle]
    rw [hz] at hcon
    refine hcon.mono ?_
    rintro e w' ⟨rfl, d', n, os, ⟨hs1, -, hp⟩, hso, rfl⟩
    rw [hz] at hs1
    have e1 : d'.extract 0 L.length = d' := by rw [← hs1]; exact Array.extract_size
    have e2 : (egs L hb).toArray.extract 0 L.length = (egs L hb).toArray := by rw [← hz]; exact Array.extract_size
    rw [e1, e2] at hp
    have hp : d'.toList.Perm (egs L hb) := hp
    have hl' : d'.toList.length = (egs L hb).length := hp.length_eq
    obtain ⟨hr, hgr⟩ := rowG (n := n) (os := os) (L := egs L hb) (L' := d'.toList) hl' hbg hh (by rw [hle]; exact hcap) hmx hsz
    rw [hle] at hr
    refine ⟨rfl, d'.toList.map (fun e => e.1), ?_, ?_, ?_, ?_⟩
    · have := hp.map (fun e => e.1)
      rw [egs_val] at this
      exact this
    · rw [List.pairwise_map, List.pairwise_iff_getElem]
      intro i j hi hj hij
      have hi' : i < d'.size := by simpa using hi
      have hj' : j < d'.size := by simpa using hj
      have := hso i j (Nat.zero_le _) hij (by omega)
      rw [getElem!_pos d' j hj', getElem!_pos d' i hi', ltG_no] at this
      simpa using this
    · unfold O4
      rw [List.length_map, ← map_e4, hl', hle]
      exact hr
    · exact (Below.refl base w).grown hgr (by omega) (fun k hk => by injection hk with hk; omega)
/-- the keys that wait and were begun, in the order in which they wait -/
def colB (B : List (By × Int)) (W : List (By × By)) : List (By × Int) := W.filterMap (fun e => if hasP B e.1 = true then some (e.1, getP B e.1 0) else none)
theorem colB_mem {B : List (By × Int)} (hd : DistP B) (W : List (By × By)) (e : By × Int) : e ∈ colB B W ↔ e ∈ B ∧ hasP W e.1 = true := by
  unfold colB
  rw [List.mem_filterMap, hasP_iff]
  constructor
  · rintro ⟨y, hy, he⟩
    split at he
    · rename_i hh
      injection he with he
      subst he
      obtain ⟨v, hv⟩ := hasP_mem hh
      refine ⟨by rw [getP_mem hd hv]; exact hv, y, hy, rfl⟩
    · cases he
  · rintro ⟨hB, y, hy, e1⟩
    refine ⟨y, hy, ?_⟩
    have hh : hasP B y.1 = true := (hasP_iff B y.1).mpr ⟨e, hB, e1.symm⟩
    rw [if_pos hh, e1, getP_mem (v := e.2) hd hB]
theorem colB_nodup (B : List (By × Int)) {W : List (By × By)} (hd : DistP W) : (colB B W).Nodup := by
  unfold colB
  unfold DistP at hd
  refine List.Pairwise.filterMap (R := fun x y => x.1 ≠ y.1) _ (fun a a' hne b hb b' hb' e => ?_) hd
  split at hb
  · split at hb'
    · injection hb with hb; injection hb' with hb'
      rw [← hb, ← hb'] at e
      have e1 := congrArg Prod.fst e
      exact hne e1
    · cases hb'
  · cases hb
/-- .. by generation -/
def begP (c : CtP) : List (By × Int) := c.B.filter (fun e => hasP c.W e.1)
theorem begP_of {c : CtP} (h : c.Ok) {L : List (By × Int)} (hp : L.Perm (colB c.B c.W)) (hs : L.Pairwise (fun a b => a.2 ≤ b.2)) : L = begP c := by
  have hBn : c.B.Nodup := List.Pairwise.imp (fun h e => h (by rw [e])) h.dB
  have hq : (colB c.B c.W).Perm (begP c) := (List.perm_ext_iff_of_nodup (colB_nodup _ h.dW) (hBn.filter _)).mpr (fun e => by
    rw [colB_mem h.dB, List.mem_filter])
  refine List.Perm.eq_of_pairwise (le := fun a b => a.2 ≤ b.2) (fun a b ha hb h1 h2 => ?_) hs ?_ (hp.trans hq)
  · have ha' : a ∈ c.B := ((colB_mem h.dB _ _).mp (hp.mem_iff.mp ha)).1
    have hb' : b ∈ c.B := (List.mem_filter.mp hb).1
    have e2 : a.2 = b.2 := Int.le_antisymm h1 h2
    have hi : c.B.Pairwise (fun x y => x.2 ≠ y.2) := h.rB.imp (fun h => by omega)
    refine Classical.byContradiction fun hne => ?_
    obtain ⟨i, hi1, ei⟩ := List.mem_iff_getElem.mp ha'
    obtain ⟨j, hj1, ej⟩ := List.mem_iff_getElem.mp hb'
    have hij : i ≠ j := fun e => by subst e; exact hne (ei.symm.trans ej)
    rcases Nat.lt_or_gt_of_ne hij with hlt | hlt
    · have := List.pairwise_iff_getElem.mp hi i j hi1 hj1 hlt
      rw [ei, ej] at this
      exact this e2
    · have := List.pairwise_iff_getElem.mp hi j i hj1 hi1 hlt
      rw [ei, ej] at this
      exact this e2.symm
  · exact (List.Pairwise.filter _ h.rB).imp (fun h => Int.le_of_lt h)
def lastG (L : List (By × Int)) : Int := match L.getLast? with | some e => e.2 | none => 0
/-- the notes that begin -/
def genP (c : CtP) : List (By × Int) := begP c ++ (if lastG (begP c) < c.G then [([], c.G)] else [])
end Go.Proofs.Ythboeoidgglcgaa
