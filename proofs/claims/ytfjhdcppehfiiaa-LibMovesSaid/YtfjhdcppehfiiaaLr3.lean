/- lib: the reference's library: Break, Mend, Go. -/
import Derived.Test.YtfjhdcppehfiiaaLr2
import Derived.Test.YtfjhdcppehfiiaaLi2
import Derived.Deep.MidRow
namespace Go.Proofs.Ytfjhdcppehfiiaa
set_option linter.unusedVariables false
set_option linter.unusedSimpArgs false
open Go Go.RowKit
theorem info_rd : (Try.prog.info? 85).map (·.size) = some 3 := by kernel_rfl
theorem one_r (b : Bool) (x y : Int) : ∀ v ∈ [Value.int .i64 x, .int .i64 y, .bool b], v.oneCell' = true := fun v hv => by
  simp only [List.mem_cons, List.not_mem_nil, or_false] at hv
  rcases hv with rfl | rfl | rfl <;> rfl
theorem flatR_set1 {l : List RD} {i k : Nat} {d d' : RD} {u : Value} (h : l[i]? = some d) (hk : k < 3) (he : (encR d).set k u = encR d') : (flatR l).set (i * 3 + k) u = flatR (l.set i d') := by
  obtain ⟨h2, h3⟩ := flatR_parts h
  have hl := (List.getElem?_eq_some_iff.1 h).1
  have h4 : (l.set i d')[i]? = some d' := List.getElem?_set_self hl
  obtain ⟨h5, -⟩ := flatR_parts h4
  rw [h5, h2, List.take_set_of_le (Nat.le_refl _), List.drop_set_of_lt (by omega), ← he, List.set_append_right _ _ (by omega), h3, show i * 3 + k - i * 3 = k from by omega, List.set_append_left _ _ (by show k < 3; exact hk)]
section
variable {w : World} {lo g bd n cd i : Nat} {vc va : Value} {C : List Nat} {D : List RD} {L : List Nat} {d d' : RD}
theorem Lr.setD {k : Nat} {u : Value} (h : Lr w lo g vc (.slice (some ⟨bd, 0, none⟩) n cd) va C D L) (hd : D[i]? = some d) (hk : k < 3) (he : (encR d).set k u = encR d') :
    Lr (w.setCell ⟨bd, i * 3 + k, none⟩ u) lo g vc (.slice (some ⟨bd, 0, none⟩) n cd) va C (D.set i d') L ∧ TChg lo [85] w (w.setCell ⟨bd, i * 3 + k, none⟩ u) ∧ w.frozen? ⟨bd, i * 3 + k, none⟩ = false := by
  obtain ⟨bz, c, e, -, -, hlo, hlt, ⟨cs, hbd⟩, hf, hc, hst⟩ := row_at h.drives (by have := (List.getElem?_eq_some_iff.1 hd).1; omega)
  injection e with e _ _
  injection e with e
  injection e with e
  subst e
  have hg : g ≠ bd := fun e => by
    have := h.blk
    rw [e, hbd] at this
    injection this with this
    injection this with _ hT _
    exact absurd hT (by decide)
  refine ⟨⟨(blk_other hg _ _).trans h.blk, h.lg, row_set_other h.carts bd _ _ (row_ne h.carts hbd (by decide)), ?_, row_set_other h.asked bd _ _ (row_ne h.asked hbd (by decide)), h.lc, by rw [List.length_set]; exact h.ld, by rw [List.length_set]; exact h.la⟩, TChg.of_set hbd (by simp) hlo _ _, hf _⟩
  rw [List.length_set, ← flatR_set1 hd hk he]
  exact hst _ _
theorem Lr.putD (h : Lr w lo g vc (.slice (some ⟨bd, 0, none⟩) n cd) va C D L) (hd : D[i]? = some d) :
    Lr (w.setCells bd (i * 3) (encR d')) lo g vc (.slice (some ⟨bd, 0, none⟩) n cd) va C (D.set i d') L ∧ TChg lo [85] w (w.setCells bd (i * 3) (encR d')) ∧ w.there bd (i * 3) 3 := by
  have hl : i < D.length := (List.getElem?_eq_some_iff.1 hd).1
  obtain ⟨h1, t1, f1⟩ := h.setD (k := 0) (u := .int .i64 d'.cart) (d' := { d with cart := d'.cart }) hd (by decide) rfl
  have hd1 : (D.set i { d with cart := d'.cart })[i]? = some { d with cart := d'.cart } := by rw [List.getElem?_set_self hl]
  obtain ⟨h2, t2, f2⟩ := h1.setD (k := 1) (u := .int .i64 d'.pos) (d' := { d with cart := d'.cart, pos := d'.pos }) hd1 (by decide) rfl
  rw [List.set_set] at h2
  have hd2 : (D.set i { d with cart := d'.cart, pos := d'.pos })[i]? = some { d with cart := d'.cart, pos := d'.pos } := by rw [List.getElem?_set_self hl]
  obtain ⟨h3, t3, f3⟩ := h2.setD (k := 2) (u := .bool d'.works) (d' := d') hd2 (by decide) rfl
  rw [List.set_set] at h3
  obtain ⟨bz, e, -, -, hc⟩ := h.driveAt (by omega)
  injection e with e
  injection e with e
  subst e
  obtain ⟨a0, a1, a2⟩ := hc i d hd
  obtain ⟨bz, c, e, -, -, -, -, -, hf, -, -⟩ := row_at h.drives (by omega)
  injection e with e _ _
  injection e with e
  injection e with e
  subst e
  refine ⟨h3, (t1.trans t2).trans t3, fun j hj => ?_⟩
  have : j = 0 ∨ j = 1 ∨ j = 2 := by omega
  rcases this with rfl | rfl | rfl
  · exact ⟨by rw [show i * 3 + 0 = i * 3 from rfl, a0]; rfl, hf _⟩
  · exact ⟨by rw [a1]; rfl, hf _⟩
  · exact ⟨by rw [a2]; rfl, hf _⟩
end
/-- where the reference's drives stand, behind at most T acts -/
def PR (T : Nat) (D : List RD) : Prop := ∀ d ∈ D, 0 ≤ d.pos ∧ d.pos ≤ 1024 + (T : Int)
theorem PR.set {T j : Nat} {D : List RD} {d' : RD} (h : PR T D) (h1 : 0 ≤ d'.pos) (h2 : d'.pos ≤ 1024 + (T : Int)) : PR T (D.set j d') := fun e he => by
  rcases List.mem_or_eq_of_mem_set he with he | rfl
  · exact h e he
  · exact ⟨h1, h2⟩
theorem PR.more {T T' : Nat} {D : List RD} (h : PR T D) (ht : T ≤ T') : PR T' D := fun d hd => by have := h d hd; omega
section
variable (lo g : Nat) (vc vd va : Value) (C : List Nat) (D : List RD) (L : List Nat) (w : World) (h : Hid (Lr w lo g vc vd va C D L)) (T : Nat) (hP : Hid (PR T D))
include h hP
set_option maxHeartbeats 1000000 in
set_option maxRecDepth 10000 in
theorem rbreak_any (z : Int) : Calls Try.prog 37 #[.pointer (some ⟨g, 0, none⟩), .int .i64 z] w fun e w' => ∃ r D', e = .returned (.bool r) ∧ Hid (Lr w' lo g vc vd va C D' L) ∧ Hid (PR T D') ∧ Hid (TChg lo rlts w w') := by
  obtain ⟨Ac, cc, Ad, cd, Aa, ca, rfl, rfl, rfl⟩ := h.out.form
  have c1 := blk_cell (j := 1) h.out.blk rfl
  rcases lit_or (n := D.length) z with hz | ⟨j, rfl, hj⟩
  · obtain ⟨n, hn⟩ : ∃ n, D.length = n := ⟨_, rfl⟩
    rw [hn] at c1 hz
    replace hn := Lib.hid hn
    have fin : ∃ r D', Ending.returned (.bool false) = .returned (.bool r) ∧ Hid (Lr w lo g (.slice Ac C.length cc) (.slice Ad D.length cd) (.slice Aa L.length ca) C D' L) ∧ Hid (PR T D') ∧ Hid (TChg lo rlts w w) := ⟨false, D, rfl, h, hP, Lib.hid (TChg.refl _ _ _)⟩
    replace fin := Lib.hid fin
    clear h hP
    by_cases h1 : z < 0
    · clear hz
      go_enter Try.func37, Try.ntmps37
      go_wp2_with fail
      go_ret
      exact fin.out
    · have i1 : decide (z < 0) = false := decide_eq_false h1
      have i2 : (n : Int) ≤ z := by omega
      clear hz h1
      go_enter Try.func37, Try.ntmps37
      go_wp2_with fail
      go_ret
      exact fin.out
  · obtain ⟨d, hd⟩ : ∃ d, D[j]? = some d := ⟨_, List.getElem?_eq_getElem hj⟩
    obtain ⟨bd, rfl, -, -, hc⟩ := h.out.driveAt (by omega)
    obtain ⟨-, -, a2⟩ := hc j d hd
    obtain ⟨h4, t4, ht⟩ := h.out.putD (d' := ⟨-1, 0, false⟩) hd
    have hP4 := Lib.hid (hP.out.set (j := j) (d' := ⟨-1, 0, false⟩) (by decide) (by show (0 : Int) ≤ 1024 + T; omega))
    replace h4 := Lib.hid h4
    replace t4 := Lib.hid t4
    replace ht := Lib.hid ht
    obtain ⟨n, hn⟩ : ∃ n, D.length = n := ⟨_, rfl⟩
    rw [hn] at c1 hj h h4 ⊢
    replace hn := Lib.hid hn
    obtain ⟨c, p, wk⟩ := d
    simp only at a2
    replace hd := Lib.hid hd
    clear hc
    have i1 : decide ((j : Int) < 0) = false := decide_eq_false (by omega)
    have i2 : decide ((n : Int) ≤ (j : Int)) = false := decide_eq_false (by omega)
    have i3 : (j : Int) < (n : Int) := by omega
    have i4 : (0 : Int) ≤ (j : Int) := by omega
    cases wk with
    | false =>
      go_enter Try.func37, Try.ntmps37
      go_wp2_with fail
      go_ret
      exact ⟨false, D, rfl, h, hP, Lib.hid (TChg.refl _ _ _)⟩
    | true =>
      go_enter Try.func37, Try.ntmps37
      go_wp2_with (refine wpList_store_mid rfl 85 (.tmp 33) (.tmp 32) rfl bd (j * 3) #[.int .i64 (-1), .int .i64 0, .bool false] rfl rfl ht.out info_rd (all_oneCell_toArray (cs := [.int .i64 (-1), .int .i64 0, .bool false]) (one_r _ _ _)) ?_)
      go_ret
      exact ⟨true, _, rfl, h4, hP4, Lib.hid (t4.out.mono (Nat.le_refl _) (by simp))⟩
set_option maxHeartbeats 1000000 in
set_option maxRecDepth 10000 in
theorem rmend_any (z : Int) : Calls Try.prog 38 #[.pointer (some ⟨g, 0, none⟩), .int .i64 z] w fun e w' => ∃ r D', e = .returned (.bool r) ∧ Hid (Lr w' lo g vc vd va C D' L) ∧ Hid (PR T D') ∧ Hid (TChg lo rlts w w') := by
  obtain ⟨Ac, cc, Ad, cd, Aa, ca, rfl, rfl, rfl⟩ := h.out.form
  have c1 := blk_cell (j := 1) h.out.blk rfl
  rcases lit_or (n := D.length) z with hz | ⟨j, rfl, hj⟩
  · obtain ⟨n, hn⟩ : ∃ n, D.length = n := ⟨_, rfl⟩
    rw [hn] at c1 hz
    replace hn := Lib.hid hn
    have fin : ∃ r D', Ending.returned (.bool false) = .returned (.bool r) ∧ Hid (Lr w lo g (.slice Ac C.length cc) (.slice Ad D.length cd) (.slice Aa L.length ca) C D' L) ∧ Hid (PR T D') ∧ Hid (TChg lo rlts w w) := ⟨false, D, rfl, h, hP, Lib.hid (TChg.refl _ _ _)⟩
    replace fin := Lib.hid fin
    clear h hP
    by_cases h1 : z < 0
    · clear hz
      go_enter Try.func38, Try.ntmps38
      go_wp2_with fail
      go_ret
      exact fin.out
    · have i1 : decide (z < 0) = false := decide_eq_false h1
      have i2 : (n : Int) ≤ z := by omega
      clear hz h1
      go_enter Try.func38, Try.ntmps38
      go_wp2_with fail
      go_ret
      exact fin.out
  · obtain ⟨d, hd⟩ : ∃ d, D[j]? = some d := ⟨_, List.getElem?_eq_getElem hj⟩
    obtain ⟨bd, rfl, -, -, hc⟩ := h.out.driveAt (by omega)
    obtain ⟨-, -, a2⟩ := hc j d hd
    obtain ⟨h4, t4, ht⟩ := h.out.putD (d' := ⟨-1, 0, true⟩) hd
    have hP4 := Lib.hid (hP.out.set (j := j) (d' := ⟨-1, 0, true⟩) (by decide) (by show (0 : Int) ≤ 1024 + T; omega))
    replace h4 := Lib.hid h4
    replace t4 := Lib.hid t4
    replace ht := Lib.hid ht
    obtain ⟨n, hn⟩ : ∃ n, D.length = n := ⟨_, rfl⟩
    rw [hn] at c1 hj h h4 ⊢
    replace hn := Lib.hid hn
    obtain ⟨c, p, wk⟩ := d
    simp only at a2
    replace hd := Lib.hid hd
    clear hc
    have i1 : decide ((j : Int) < 0) = false := decide_eq_false (by omega)
    have i2 : decide ((n : Int) ≤ (j : Int)) = false := decide_eq_false (by omega)
    have i3 : (j : Int) < (n : Int) := by omega
    have i4 : (0 : Int) ≤ (j : Int) := by omega
    cases wk with
    | true =>
      go_enter Try.func38, Try.ntmps38
      go_wp2_with fail
      go_ret
      exact ⟨false, D, rfl, h, hP, Lib.hid (TChg.refl _ _ _)⟩
    | false =>
      go_enter Try.func38, Try.ntmps38
      go_wp2_with (refine wpList_store_mid rfl 85 (.tmp 32) (.tmp 31) rfl bd (j * 3) #[.int .i64 (-1), .int .i64 0, .bool true] rfl rfl ht.out info_rd (all_oneCell_toArray (cs := [.int .i64 (-1), .int .i64 0, .bool true]) (one_r _ _ _)) ?_)
      go_ret
      exact ⟨true, _, rfl, h4, hP4, Lib.hid (t4.out.mono (Nat.le_refl _) (by simp))⟩
end
end Go.Proofs.Ytfjhdcppehfiiaa
