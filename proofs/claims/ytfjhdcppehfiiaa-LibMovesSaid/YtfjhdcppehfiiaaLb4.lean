/- lib: load, Go. -/
import Derived.Test.YtfjhdcppehfiiaaLb3
import Derived.Deep.MidRow
import Derived.Deep.DeepMust
namespace Go.Proofs.Ytfjhdcppehfiiaa
set_option linter.unusedVariables false
set_option linter.unusedSimpArgs false
open Go Go.RowKit
theorem info_dr : (Try.prog.info? 59).map (·.size) = some 4 := by kernel_rfl
theorem Lb.putD {w : World} {lo g bd n cd calls i : Nat} {vc : Value} {C : List Nat} {D : List Dr} {d d' : Dr} (h : Lb w lo g vc (.slice (some ⟨bd, 0, none⟩) n cd) C D calls) (hd : D[i]? = some d) :
    Lb (w.setCells bd (i * 4) (encD d')) lo g vc (.slice (some ⟨bd, 0, none⟩) n cd) C (D.set i d') calls ∧ TChg lo [59] w (w.setCells bd (i * 4) (encD d')) ∧ w.there bd (i * 4) 4 := by
  have hl : i < D.length := (List.getElem?_eq_some_iff.1 hd).1
  obtain ⟨h1, t1, f1⟩ := h.setD (k := 0) (u := .bool d'.broken) (d' := { d with broken := d'.broken }) hd (by decide) rfl
  have hd1 : (D.set i { d with broken := d'.broken })[i]? = some { d with broken := d'.broken } := by rw [List.getElem?_set_self hl]
  obtain ⟨h2, t2, f2⟩ := h1.setD (k := 1) (u := .int .i64 d'.cart) (d' := { d with broken := d'.broken, cart := d'.cart }) hd1 (by decide) rfl
  rw [List.set_set] at h2
  have hd2 : (D.set i { d with broken := d'.broken, cart := d'.cart })[i]? = some { d with broken := d'.broken, cart := d'.cart } := by rw [List.getElem?_set_self hl]
  obtain ⟨h3, t3, f3⟩ := h2.setD (k := 2) (u := .int .i64 d'.pos) (d' := { d with broken := d'.broken, cart := d'.cart, pos := d'.pos }) hd2 (by decide) rfl
  rw [List.set_set] at h3
  have hd3 : (D.set i { d with broken := d'.broken, cart := d'.cart, pos := d'.pos })[i]? = some { d with broken := d'.broken, cart := d'.cart, pos := d'.pos } := by rw [List.getElem?_set_self hl]
  obtain ⟨h4, t4, f4⟩ := h3.setD (k := 3) (u := .int .i64 d'.named) (d' := d') hd3 (by decide) rfl
  rw [List.set_set] at h4
  obtain ⟨bz, e, -, -, hc⟩ := h.driveAt (by omega)
  injection e with e
  injection e with e
  subst e
  obtain ⟨a0, a1, a2, a3⟩ := hc i d hd
  obtain ⟨bz, c, e, -, -, -, -, -, hf, -, -⟩ := row_at h.drives (by omega)
  injection e with e _ _
  injection e with e
  injection e with e
  subst e
  refine ⟨h4, ((t1.trans t2).trans t3).trans t4, fun j hj => ?_⟩
  have : j = 0 ∨ j = 1 ∨ j = 2 ∨ j = 3 := by omega
  rcases this with rfl | rfl | rfl | rfl
  · exact ⟨by rw [show i * 4 + 0 = i * 4 from rfl, a0]; rfl, hf _⟩
  · exact ⟨by rw [a1]; rfl, hf _⟩
  · exact ⟨by rw [a2]; rfl, hf _⟩
  · exact ⟨by rw [a3]; rfl, hf _⟩
theorem one_d (b : Bool) (x y z : Int) : ∀ v ∈ [Value.bool b, .int .i64 x, .int .i64 y, .int .i64 z], v.oneCell' = true := fun v hv => by
  simp only [List.mem_cons, List.not_mem_nil, or_false] at hv
  rcases hv with rfl | rfl | rfl | rfl <;> rfl
/-- drive j takes the next cartridge -/
def NextIs (D : List Dr) (j : Nat) : Prop := (∃ d, D[j]? = some d ∧ d.broken = false ∧ d.cart = -1 ∧ ∀ (j' : Nat) (d' : Dr), j' < j → D[j']? = some d' → busyD d') ∨ ((∀ d ∈ D, busyD d) ∧ oldN D D.length = some j)
/-- no drive takes one -/
def NoNext (D : List Dr) : Prop := (∀ d ∈ D, busyD d) ∧ oldN D D.length = none
theorem free_not {d : Dr} (h1 : d.broken = false) (h2 : d.cart = -1) (h : busyD d) : False := by
  rcases h with h | h
  · rw [h1] at h; cases h
  · exact h h2
theorem NextIs.lt {D : List Dr} {j : Nat} (h : NextIs D j) : ∃ d, D[j]? = some d := by
  rcases h with ⟨d, hd, -⟩ | ⟨-, h⟩
  · exact ⟨d, hd⟩
  · obtain ⟨-, e, he, -⟩ := oldN_lt h
    exact ⟨e, he⟩
section
variable (lo g : Nat) (vc vd : Value) (C : List Nat) (D : List Dr) (calls : Nat) (w : World) (h : Hid (Lb w lo g vc vd C D calls))
include h
theorem next_some (j : Nat) (hj : NextIs D j) : Calls Try.prog 49 #[.pointer (some ⟨g, 0, none⟩)] w fun e w' => (∃ bd cd, vd = .slice (some ⟨bd, 0, none⟩) D.length cd ∧ e = .returned (.pointer (some ⟨bd, j * 4, none⟩))) ∧ Below w.heap.size w w' := by
  refine (next_any lo g vc vd C D calls w h).mono ?_
  rintro e w' ⟨⟨hD, he⟩ | ⟨bd, cd, hv, ⟨i, d, he, hd, hb, hc, hno⟩ | ⟨he, hall⟩⟩, hbel⟩
  · subst hD
    obtain ⟨d, hd⟩ := hj.lt
    simp at hd
  · rcases hj with ⟨d2, hd2, hb2, hc2, hno2⟩ | ⟨hall, -⟩
    · rcases Nat.lt_trichotomy i j with hlt | rfl | hlt
      · exact (free_not hb hc (hno2 i d hlt hd)).elim
      · exact ⟨⟨bd, cd, hv, he⟩, hbel⟩
      · exact (free_not hb2 hc2 (hno j d2 hlt hd2)).elim
    · exact (free_not hb hc (hall d (List.mem_of_getElem? hd))).elim
  · rcases hj with ⟨d2, hd2, hb2, hc2, -⟩ | ⟨-, ho⟩
    · exact (free_not hb2 hc2 (hall d2 (List.mem_of_getElem? hd2))).elim
    · rw [ho] at he
      exact ⟨⟨bd, cd, hv, he⟩, hbel⟩
theorem next_none (hj : NoNext D) : Calls Try.prog 49 #[.pointer (some ⟨g, 0, none⟩)] w fun e w' => e = .returned (.pointer none) ∧ Below w.heap.size w w' := by
  refine (next_any lo g vc vd C D calls w h).mono ?_
  rintro e w' ⟨⟨hD, he⟩ | ⟨bd, cd, hv, ⟨i, d, he, hd, hb, hc, hno⟩ | ⟨he, hall⟩⟩, hbel⟩
  · exact ⟨he, hbel⟩
  · exact (free_not hb hc (hj.1 d (List.mem_of_getElem? hd))).elim
  · rw [hj.2] at he
    exact ⟨he, hbel⟩
set_option maxHeartbeats 1000000 in
set_option maxRecDepth 10000 in
theorem load_none (z : Int) (hj : NoNext D) : Calls Try.prog 28 #[.pointer (some ⟨g, 0, none⟩), .int .i64 z] w fun e w' => e = .returned (.int .i64 11) ∧ Below w.heap.size w w' := by
  have hn := Lib.hid (next_none lo g vc vd C D calls w h hj)
  clear h hj
  go_enter Try.func28, Try.ntmps28
  go_wp2_with (go_at_call 49; go_must (refine hn.out.mono ?_); rintro e w1 ⟨rfl, hg1⟩)
  go_ret
  exact ⟨rfl, hg1⟩
set_option maxHeartbeats 1000000 in
set_option maxRecDepth 10000 in
theorem load_some (z : Int) (j : Nat) (hj : NextIs D j) : Calls Try.prog 28 #[.pointer (some ⟨g, 0, none⟩), .int .i64 z] w fun e w' => e = .returned (.int .i64 0) ∧ Hid (Lb w' lo g vc vd C (D.set j ⟨false, z, 0, calls⟩) calls) ∧ TChg lo lts w w' := by
  have hn := Lib.hid (next_some lo g vc vd C D calls w h j hj)
  obtain ⟨d, hd⟩ := hj.lt
  replace hd := Lib.hid hd
  clear hj
  go_enter Try.func28, Try.ntmps28
  go_wp2_with (first
    | (go_at_call 49; go_must (refine hn.out.mono ?_); clear hn; rintro e w1 ⟨⟨bd, cd, hv, rfl⟩, hg1⟩; have h1 := Lb.gr hg1 h; have c2 := blk_cell (j := 2) h1.out.blk rfl; have h1' := h1.out; rw [hv] at h1'; obtain ⟨h4, t4, ht⟩ := h1'.putD (d' := ⟨false, z, 0, calls⟩) hd.out; rw [← hv] at h4; replace h4 := Lib.hid h4; replace t4 := Lib.hid t4; replace ht := Lib.hid ht; replace hv := Lib.hid hv; clear h1')
    | (refine wpList_store_mid rfl 59 (.tmp 17) (.tmp 16) rfl bd (j * 4) #[.bool false, .int .i64 z, .int .i64 0, .int .i64 calls] rfl rfl ht.out info_dr (all_oneCell_toArray (cs := [.bool false, .int .i64 z, .int .i64 0, .int .i64 calls]) (one_d _ _ _ _)) ?_))

  go_ret
  exact ⟨rfl, h4, (TChg.of_below hg1).trans (t4.out.mono (Nat.le_refl _) (by simp))⟩
end
end Go.Proofs.Ytfjhdcppehfiiaa
