/- cat: the law CatOwn. -/
import Derived.Test.YthboeoidgglcgaaCt43
namespace Go.Proofs.Ythboeoidgglcgaa
set_option linter.unusedVariables false
set_option linter.unusedSimpArgs false
set_option linter.unusedSectionVars false
open Go Go.RowKit Go.Maps Go.Sort Go.Shelf Go.Proofs
theorem getO (dl : By) (z : Int) (pl : List (Int × Int)) : getP (cO3 dl z pl).W kA [] = dl ∧ hasP (cO3 dl z pl).W kA = true := ⟨rfl, rfl⟩
theorem entO (dl : By) (z : Int) (pl : List (Int × Int)) : entOf (cO3 dl z pl) kB = eO z pl ∧ hasP (cO3 dl z pl).E kB = true := ⟨rfl, rfl⟩
theorem zerosP_len (m : Nat) : (zerosP m).length = m := by unfold zerosP; simp
theorem zerosP_at {m i : Nat} (h : i < m) : (zerosP m)[i]? = some (0, 0) := by unfold zerosP; rw [List.getElem?_replicate, if_pos h]
theorem store5 {a w : World} {b : Nat} {cs : Array Value} {T : TypeId} (h : w.heap[b]? = some (.cells cs T (0, 0))) (hs : cs.size = 5) (u0 u1 u2 u3 u4 : Value) (hg : Gr a w) (hb : a.heap.size ≤ b) :
    (((((w.setCell ⟨b, 0, none⟩ u0).setCell ⟨b, 1, none⟩ u1).setCell ⟨b, 2, none⟩ u2).setCell ⟨b, 3, none⟩ u3).setCell ⟨b, 4, none⟩ u4).cell? ⟨b, 4, none⟩ = some u4 ∧
    (∀ k, k ≠ b → (((((w.setCell ⟨b, 0, none⟩ u0).setCell ⟨b, 1, none⟩ u1).setCell ⟨b, 2, none⟩ u2).setCell ⟨b, 3, none⟩ u3).setCell ⟨b, 4, none⟩ u4).heap[k]? = w.heap[k]?) ∧
    Gr a (((((w.setCell ⟨b, 0, none⟩ u0).setCell ⟨b, 1, none⟩ u1).setCell ⟨b, 2, none⟩ u2).setCell ⟨b, 3, none⟩ u3).setCell ⟨b, 4, none⟩ u4) := by
  refine ⟨blk_cell (blk_set (blk_set (blk_set (blk_set (blk_set h 0 u0) 1 u1) 2 u2) 3 u3) 4 u4) ?_, fun k hk => ?_, ?_⟩
  · rw [Array.getElem?_setIfInBounds_self_of_lt]
    simp [hs]
  · rw [blk_other hk, blk_other hk, blk_other hk, blk_other hk, blk_other hk]
  · exact Below.setCell (Below.setCell (Below.setCell (Below.setCell (Below.setCell hg (show a.heap.size ≤ b from hb) _) (show a.heap.size ≤ b from hb) _) (show a.heap.size ≤ b from hb) _) (show a.heap.size ≤ b from hb) _) (show a.heap.size ≤ b from hb) _
def SO (bl bn eb g1 g3 g4 k : Nat) : Prop := k = bl ∨ k = bn ∨ k = eb ∨ k = g1 ∨ k = g3 ∨ k = g4
def SP (bl bn eb k : Nat) : Prop := k = bl ∨ k = bn ∨ k = eb
theorem SO.bn (a b c d e f : Nat) : SO a b c d e f b := .inr (.inl rfl)
theorem SO.g1 (a b c d e f : Nat) : SO a b c d e f d := .inr (.inr (.inr (.inl rfl)))
theorem SO.g3 (a b c d e f : Nat) : SO a b c d e f e := .inr (.inr (.inr (.inr (.inl rfl))))
theorem SO.g4 (a b c d e f : Nat) : SO a b c d e f f := .inr (.inr (.inr (.inr (.inr rfl))))
theorem SP.bl (a b c : Nat) : SP a b c a := .inl rfl
theorem SP.bn (a b c : Nat) : SP a b c b := .inr (.inl rfl)
theorem SP.eb (a b c : Nat) : SP a b c c := .inr (.inr rfl)
theorem SO.not {bl bn eb g1 g3 g4 k : Nat} (h1 : k ≠ bl) (h2 : k ≠ bn) (h3 : k ≠ eb) (h4 : k ≠ g1) (h5 : k ≠ g3) (h6 : k ≠ g4) : ¬ SO bl bn eb g1 g3 g4 k := by unfold SO; omega
theorem SP.not {bl bn eb k : Nat} (h1 : k ≠ bl) (h2 : k ≠ bn) (h3 : k ≠ eb) : ¬ SP bl bn eb k := by unfold SP; omega
theorem SO.of {bl bn eb g1 g3 g4 k : Nat} (h : SP bl bn eb k) : SO bl bn eb g1 g3 g4 k := by unfold SP at h; unfold SO; omega
section
variable {N5 g np dn z : Nat} {x : CtX} {dl : By} {y : World}
theorem dataO (hc : Hid (Ca y N5 g x (cO3 dl z (zerosP np)) 3)) (hdl : dl.length = dn) : Calls Try.prog 20 #[.pointer (some ⟨g, 0, none⟩), .string ⟨#[97]⟩] y fun e w' => ∃ A cc, e = .returned (.tuple #[.slice A dn cc, .bool true]) ∧ OB w' y.heap.size (.slice A dn cc) dl ∧ Gr y w' := by
  have h := data_any N5 g 3 x _ y hc (by omega) kA
  rw [(getO dl z (zerosP np)).1, (getO dl z (zerosP np)).2, hdl] at h
  exact h
theorem entryO (hc : Hid (Ca y N5 g x (cO3 dl z (zerosP np)) 3)) : Calls Try.prog 21 #[.pointer (some ⟨g, 0, none⟩), .string ⟨#[98]⟩] y fun e w' => ∃ A cc, e = .returned (.tuple #[.agg #[.string ⟨#[98]⟩, .int .i64 2, .int .i64 z, .string ⟨#[]⟩, .slice A np cc], .bool true]) ∧ OP (zerosP np) (.slice A np cc) y.heap.size w' ∧ Gr y w' := by
  have h := entry_any N5 g 3 x _ y hc kB (by simp [kB, maxLen])
  rw [(entO dl z (zerosP np)).1, (entO dl z (zerosP np)).2] at h
  unfold Et.agg Et.v eO at h
  simp only [zerosP_len] at h
  exact h
theorem entriesO (hc : Hid (Ca y N5 g x (cO3 dl z (zerosP np)) 3)) (hnp : 0 < np) : Calls Try.prog 19 #[.pointer (some ⟨g, 0, none⟩)] y fun e w' => ∃ bl c1 g1 c2, e = .returned (.slice (some ⟨bl, 0, none⟩) 1 c1) ∧ y.heap.size ≤ bl ∧ bl < w'.heap.size ∧ y.heap.size ≤ g1 ∧ g1 < w'.heap.size ∧ bl ≠ g1 ∧ w'.cell? ⟨bl, 4, none⟩ = some (.slice (some ⟨g1, 0, none⟩) np c2) ∧ PRow np (.slice (some ⟨g1, 0, none⟩) np c2) y.heap.size w' ∧ Gr y w' := by
  refine (entries_any N5 g 3 x _ y hc (by omega)).mono ?_
  rintro e w' ⟨A, cc, E', rfl, hE, ho, hg⟩
  obtain ⟨A1, c1, rfl⟩ := ne1_at hE rfl
  have hp := ho.2 _ (List.mem_singleton.mpr rfl)
  have hpr := hp.prow
  have hl : (eO (z : Int) (zerosP np)).places.length = np := zerosP_len np
  unfold Et.v at hpr
  simp only at hpr
  rw [hl] at hpr
  obtain ⟨g1, c2, e1, hb1, hg1, cs1, ht1⟩ := hpr.block hnp
  injection e1 with e1 _ e2
  subst e1 e2
  obtain ⟨bl, c3, e3, -, -, hb3, hg3, ⟨cs3, ht3⟩, -, hc3, -⟩ := row_at ho.1 (by show 0 < 1; omega)
  injection e3 with e3 _ e4
  subst e3 e4
  refine ⟨bl, cc, g1, c1, rfl, hb3, hg3, hb1, hg1, blk_apart ht3 ht1 (by decide), ?_, hpr, hg⟩
  have := hc3 4 (.slice (some ⟨g1, 0, none⟩) (eO (z : Int) (zerosP np)).places.length c1) rfl
  rwa [hl] at this
theorem notesO (hc : Hid (Ca y N5 g x (cO3 dl z (zerosP np)) 3)) (hnp : 0 < np) (hdl : dl.length = dn) : Calls Try.prog 11 #[.pointer (some ⟨g, 0, none⟩)] y fun e w' => ∃ bn c1 A2 c2 g3 c3, e = .returned (.slice (some ⟨bn, 0, none⟩) 3 c1) ∧ y.heap.size ≤ bn ∧ bn < w'.heap.size ∧ y.heap.size ≤ g3 ∧ g3 < w'.heap.size ∧ bn ≠ g3 ∧ w'.cell? ⟨bn, 4, none⟩ = some (.slice A2 dn c2) ∧ w'.cell? ⟨bn, 23, none⟩ = some (.slice (some ⟨g3, 0, none⟩) np c3) ∧ OB w' y.heap.size (.slice A2 dn c2) dl ∧ (∀ k, A2 = some ⟨k, 0, none⟩ → k ≠ bn ∧ k ≠ g3 ∧ k < w'.heap.size) ∧ PRow np (.slice (some ⟨g3, 0, none⟩) np c3) y.heap.size w' ∧ Gr y w' := by
  refine (notes_any N5 g 3 x _ y hc (by omega)).mono ?_
  rintro e w' ⟨E', A, cc, rfl, hE, ho, hg⟩
  obtain ⟨A1, c1, B1, d1, A2, c2, B2, d2, A3, c3, B3, d3, rfl⟩ := ne3_at hE (notes_o3 dl z (zerosP np))
  have hbq := (ho.2 ⟨nO1 dl, A1, c1, B1, d1⟩ (by simp)).1
  have hpr : PRow np (.slice B3 np d3) y.heap.size w' := by
    have h := OP.prow (ho.2 ⟨nO3 z (zerosP np), A3, c3, B3, d3⟩ (by simp)).2
    simp only at h
    rw [show (nO3 (z : Int) (zerosP np)).places.length = np from zerosP_len np] at h
    exact h
  simp only at hbq
  rw [show (nO1 dl).data.length = dn from hdl] at hbq
  obtain ⟨g3, c4, e1, hb1, hg1, cs1, ht1⟩ := hpr.block hnp
  injection e1 with e1 _ e2
  subst e1 e2
  obtain ⟨bn, e3, hbn, hcell⟩ := OND.cell ho (by show 0 < 3; omega)
  subst e3
  obtain ⟨bl, c5, e5, -, -, hb5, hg5, ⟨cs5, ht5⟩, -⟩ := row_at ho.1.row (by show 0 < 3; omega)
  injection e5 with e5 _ _
  injection e5 with e5
  injection e5 with e5 _ _
  subst e5
  refine ⟨bn, cc, A1, c1, g3, d3, rfl, hb5, hg5, hb1, hg1, blk_apart ht5 ht1 (by decide), ?_, ?_, hbq, fun k hk => ?_, hpr, hg⟩
  · have := hcell 0 ⟨nO1 dl, A1, c1, B1, d1⟩ 4 (.slice A1 (nO1 dl).data.length c1) rfl (by omega) rfl
    rw [show (nO1 dl).data.length = dn from hdl] at this
    exact this
  · have := hcell 2 ⟨nO3 z (zerosP np), A3, c3, some ⟨g3, 0, none⟩, d3⟩ 7 (.slice (some ⟨g3, 0, none⟩) (nO3 (z : Int) (zerosP np)).places.length d3) rfl (by omega) rfl
    rw [show (nO3 (z : Int) (zerosP np)).places.length = np from zerosP_len np] at this
    exact this
  · subst hk
    obtain ⟨cs6, ht6⟩ := row_type hbq rfl
    exact ⟨blk_apart ht6 ht5 (by decide), blk_apart ht6 ht1 (by decide), (hbq.lt k rfl).2⟩
end
set_option maxRecDepth 20000 in
set_option maxHeartbeats 8000000 in
theorem catOwn_any (dA : Option Addr) (dn dc : Nat) (dl : By) (hdl : dl.length = dn) (hdc : dn ≤ dc) (hdm : dc ≤ maxLen) (sz : Nat) (hsz : sz < 65536) (t : UInt8) (w : World) (hrd : Rd w w.heap.size dA dl) :
    Calls Try.prog 7 #[.slice dA dn dc, .int .u16 sz, .int .u8 (U t)] w fun e w' => e = .returned (.bool true) ∧ Gr w w' := by
  have hap := Lib.hid awake13_any
  by_cases hd5 : (512 : Int) < (dn : Int)
  · replace hrd := Lib.hid hrd
    replace hdl := Lib.hid hdl
    go_enter Try.func7, Try.ntmps7
    go_wp2_with (go_at_call 14; go_must (refine (hap.out _).mono ?_); clear hap; rintro e w6 ⟨rfl, hg6⟩)
    go_ret
    exact ⟨rfl, hg6⟩
  have hd5' : dn ≤ 512 := by omega
  have hnew := Lib.hid cnew_any
  have ho1 := Lib.hid (OB.empty w w.heap.size (Nat.le_refl _))
  have hr' := Lib.hid (hrd.alloc (Nat.le_refl _) (.cells #[] 5))
  have hb0 := Lib.hid ((Below.refl w.heap.size w).alloc (Nat.le_refl _) (.cells #[] 5))
  replace hrd := Lib.hid hrd
  replace hdl := Lib.hid hdl
  obtain ⟨z, hz⟩ : ∃ z, sz % 513 = z := ⟨_, rfl⟩
  have hz5 : z ≤ 512 := by rw [← hz]; have := Nat.mod_lt sz (show 0 < 513 by omega); omega
  have hmod : (sz : Int).tmod 513 = (z : Int) := by rw [← hz]; exact (Int.ofNat_tmod sz 513).symm
  obtain ⟨r, hr⟩ : ∃ r, max 1 ((z + 127) / 128) = r := ⟨_, rfl⟩
  have hr5 : 1 ≤ r ∧ r ≤ 4 := by omega
  obtain ⟨np, hnp⟩ : ∃ m, 10 * r = m := ⟨_, rfl⟩
  have hnp0 : 0 < np := by omega
  have hnpl : np ≤ 40 := by omega
  have hmul : IntKind.i64.wrap (10 * (r : Int)) = (np : Int) := by rw [i64_wrap_id (by omega) (by omega)]; omega
  have hgr : Hid (grp (z : Int) = r) := Lib.hid (by unfold grp; rw [if_neg (by omega)]; exact hr)
  have hgrp : Hid (∀ y, Calls Try.prog 23 #[.int .i64 z] y fun e w' => e = .returned (.int .i64 r) ∧ w' = y) := Lib.hid (fun y => by have := cgroups_nat z hz5 y; rw [hr] at this; exact this)
  have hpl : Hid ((zerosP np).length = 10 * grp (z : Int)) := Lib.hid (by rw [zerosP_len, hgr.out, hnp])
  have hgz : Hid (grp (z : Int) ≠ 0) := Lib.hid (by rw [hgr.out]; omega)
  replace hz := Lib.hid hz
  replace hr := Lib.hid hr
  replace hnp := Lib.hid hnp
  have hwz : IntKind.i64.wrap (z : Int) = (z : Int) := i64_wrap_id (by omega) (by omega)
  have hwu : IntKind.u16.wrap (z : Int) = (z : Int) := by rw [IntKind.wrap_u16]; omega
  go_enter Try.func7, Try.ntmps7
  go_upto_region 4 with (at_builtin; refine wpl_append rfl (.tmp 26) (.tmp 27) rfl w.heap.size (.slice (some ⟨w.heap.size, 0, none⟩) 0 0) [] rfl ho1.out w.heap.size dA dc dl (by rw [hdl.out]; rfl) hr'.out (by simp; rw [hdl.out]; omega) (by simp) ?_; intro v1 w1 hown1 hg1 _; rw [List.nil_append] at hown1; obtain ⟨Ad, cd, rfl, hcd, hcm, -, -⟩ := hown1.form; have hb1 := Lib.hid (below_app ho1.out hb0.out (by simp) hg1); replace hown1 := Lib.hid hown1; clear hg1; rw [hdl.out] at hown1; rw [hdl.out])
  clear hr' ho1 hb0
  rw [hdl.out] at hcd
  obtain ⟨w2, hmk, hg2, hop2⟩ := places_make w1 np (by omega)
  obtain ⟨bp, hbp⟩ : ∃ b, w1.heap.size = b := ⟨_, rfl⟩
  rw [hbp] at hmk hop2
  have hdlt : Hid (∀ k, (Value.slice Ad dn cd).ownBlock = some k → w.heap.size ≤ k ∧ k < bp) := Lib.hid (by rw [← hbp]; exact hown1.out.lt)
  have hbp0 : Hid (w.heap.size ≤ bp) := Lib.hid (by rw [← hbp]; exact Below.size hb1.out)
  replace hbp := Lib.hid hbp
  have hw2 : Hid (Gr w w2) := Lib.hid (Gr.trans (show Gr w w1 from hb1.out) hg2)
  have hd2 : Hid (OB w2 w.heap.size (.slice Ad dn cd) dl) := Lib.hid (hown1.out.below hg2)
  replace hg2 := Lib.hid hg2
  replace hop2 := Lib.hid hop2
  go_upto_region 5 with (go_at_call 23; go_must (refine (hgrp.out _).mono ?_); clear hgrp; rintro e w' ⟨rfl, hww⟩; rw [hww]; clear hww w')
  clear hmk
  go_upto_region 6 with (go_at_call 10; go_must (refine (hnew.out w2).mono ?_); clear hnew; rintro e w3 ⟨g, x3, rfl, hc3, hg3⟩)
  obtain ⟨N5, hN5⟩ : ∃ n, w2.heap.size = n := ⟨_, rfl⟩
  rw [hN5] at hc3
  have hdp : Hid (bp < N5) := Lib.hid (by have h1 := (hop2.out.1.lt bp rfl).2; omega)
  have hlow : Hid (∀ y, Gr w2 y → N5 ≤ y.heap.size) := Lib.hid (fun y hy => by rw [← hN5]; exact Below.size hy)
  have hgo : Hid (∀ y q, Gr w2 y → Below N5 y q → Gr w2 q) := Lib.hid (fun y q h1 h2 => by unfold Gr at h1 ⊢; rw [hN5] at h1 ⊢; exact h1.trans h2)
  have ap1 : Hid (Calls Try.prog 12 #[.pointer (some ⟨g, 0, none⟩), .agg #[.int .i64 1, .string ⟨#[97]⟩, .int .i64 0, .int .i64 0, .slice Ad dn cd, .string ⟨#[]⟩, .int .i64 0, .slice none 0 0]] w3 fun e w' => e = .returned (.int .i64 0) ∧ ∃ x', Hid (Ca w' N5 g x' (cO1 dl) 1) ∧ Below N5 w3 w') := Lib.hid (by
    have hby : Byt dl (.slice Ad dl.length cd) w3 := by
      rw [hdl.out]; exact Byt.ob (hd2.out.below hg3)
    have h := apply_far N5 g 0 x3 CtP.none_ w3 w2 (Lib.hid hc3) (by omega) (hlow.out _ hg3) (nO1 dl) Ad cd none 0 (by simp [nO1, kA, maxLen]) (by unfold I64; simp [nO1]) ⟨Ad, cd, none, 0, rfl, hby, Pls.nil_ w3 _ _ (Nat.zero_le _)⟩ (Pls.nil_ w2 _ _ (Nat.zero_le _)) (by rw [hN5]; exact Nat.le_refl _) (r_o1 (dl := dl) (by rw [hdl.out]; exact hd5'))
    unfold Nt.agg at h
    rw [show (nO1 dl).data.length = dn from hdl.out] at h
    exact h)
  have hw3 : Hid (Gr w2 w3) := Lib.hid hg3
  replace hg3 := Lib.hid hg3
  replace hc3 := Lib.hid hc3
  go_upto_region 8 with (go_at_call 12; first
    | (refine ap1.out.mono ?_; clear ap1; rintro e w4 ⟨rfl, x4, hc4, hb4⟩
       have hw4 : Hid (Gr w2 w4) := Lib.hid (hgo.out _ _ hw3.out hb4)
       replace hb4 := Lib.hid hb4
       have ap2 : Hid (Calls Try.prog 12 #[.pointer (some ⟨g, 0, none⟩), .agg #[.int .i64 4, .string ⟨#[]⟩, .int .i64 5, .int .i64 0, .slice none 0 0, .string ⟨#[]⟩, .int .i64 0, .slice none 0 0]] w4 fun e w' => e = .returned (.int .i64 0) ∧ ∃ x', Hid (Ca w' N5 g x' (cO2 dl) 2) ∧ Below N5 w4 w') := Lib.hid (by
         have h := apply_far N5 g 1 x4 (cO1 dl) w4 w2 hc4 (by omega) (hlow.out _ hw4.out) nO2 none 0 none 0 (by simp [nO2]) (by unfold I64; simp [nO2]) ⟨none, 0, none, 0, rfl, Byt.nil_ w4, Pls.nil_ w4 _ _ (Nat.zero_le _)⟩ (Pls.nil_ w2 _ _ (Nat.zero_le _)) (by rw [hN5]; exact Nat.le_refl _) (r_o2 dl)
         unfold Nt.agg at h
         exact h))
    | (refine ap2.out.mono ?_; clear ap2; rintro e w5 ⟨rfl, x5, hc5, hb5⟩
       have hw5 : Hid (Gr w2 w5) := Lib.hid (hgo.out _ _ hw4.out hb5)
       replace hb5 := Lib.hid hb5
       have ap3 : Hid (Calls Try.prog 12 #[.pointer (some ⟨g, 0, none⟩), .agg #[.int .i64 2, .string ⟨#[98]⟩, .int .i64 2, .int .i64 0, .slice none 0 0, .string ⟨#[]⟩, .int .i64 z, .slice (some ⟨bp, 0, none⟩) np np]] w5 fun e w' => e = .returned (.int .i64 0) ∧ ∃ x', Hid (Ca w' N5 g x' (cO3 dl z (zerosP np)) 3) ∧ Below N5 w5 w') := Lib.hid (by
         have hp5 := ((OP.gr hw5.out hop2).out).pls
         have hp2 := hop2.out.pls
         have h := apply_far N5 g 2 x5 (cO2 dl) w5 w2 hc5 (by omega) (hlow.out _ hw5.out) (nO3 z (zerosP np)) none 0 (some ⟨bp, 0, none⟩) np (by simp [nO3, kB, maxLen]) (by unfold I64; simp [nO3]) ⟨none, 0, some ⟨bp, 0, none⟩, np, rfl, Byt.nil_ w5, by rw [show (nO3 (z : Int) (zerosP np)).places.length = np from zerosP_len np]; exact hp5⟩ (by rw [show (nO3 (z : Int) (zerosP np)).places.length = np from zerosP_len np]; exact hp2) (by rw [hN5]; exact Nat.le_refl _) (r_o3 dl hgz.out hpl.out)
         unfold Nt.agg at h
         rw [show (nO3 (z : Int) (zerosP np)).places.length = np from zerosP_len np] at h
         exact h))
    | (refine ap3.out.mono ?_; clear ap3; rintro e w6 ⟨rfl, x, hc6, hb6⟩
       have hw6 : Hid (Gr w2 w6) := Lib.hid (hgo.out _ _ hw5.out hb6)
       replace hb6 := Lib.hid hb6))
  obtain ⟨N6, hN6⟩ : ∃ n, w6.heap.size = n := ⟨_, rfl⟩
  have hg06 : Hid (Gr w w6) := Lib.hid (hw2.out.trans hw6.out)
  have hd6 : Hid (OB w6 w.heap.size (.slice Ad dn cd) dl) := Lib.hid (hd2.out.below hw6.out)
  have hp6 : Hid (PRow np (.slice (some ⟨bp, 0, none⟩) np np) bp w6) := Lib.hid (by
    have h := ((OP.gr hw6.out hop2).out).prow
    rw [zerosP_len] at h
    exact h)
  have hk6 : Hid (KeepR N5 N6 w6 w6) := Lib.hid (KeepR.refl _ _ _)
  replace hN5 := Lib.hid hN5
  replace hN6 := Lib.hid hN6
  clear hw2 hw3 hw4 hw5 hc4 hc5 hb4 hb5 hb6 hop2 hd2 hown1 hb1 hmul hmod hwu
  go_wp2_with fail
  go_loopw [10] (fun u wr => ∃ (k : Nat) (l' : By), k ≤ dn ∧ u = .int .i64 k ∧ Hid (OB wr w.heap.size (.slice Ad dn cd) l') ∧ Hid (PRow np (.slice (some ⟨bp, 0, none⟩) np np) bp wr) ∧ Hid (KeepR N5 N6 w6 wr) ∧ Hid (Gr w wr)) (fun u _ => (dn - intOf u).toNat)
  case atStart => exact ⟨0, dl, Nat.zero_le _, rfl, hd6, hp6, hk6, hg06⟩
  case round =>
    obtain ⟨k, l', hk, rfl, hd, hp, hkr, hg⟩ := hrel
    clear hd6 hp6 hk6 hg06
    by_cases hlt : k < dn
    · have ii : (k : Int) < (dn : Int) := by omega
      obtain ⟨gd, rfl, hg1, hg2', hcell, hfr, hst⟩ := OB.store hd.out (k := k) (by rw [hd.out.len2]; exact hlt)
      have hgd := (hdlt.out gd rfl).2
      have hst := Lib.hid (hst (l'[k]'(by rw [hd.out.len2]; exact hlt) ^^^ t))
      have hpn := Lib.hid (hp.out.other (k := gd) (j := k) (u := .int .u8 (U (l'[k]'(by rw [hd.out.len2]; exact hlt) ^^^ t))) (by omega))
      have hkn := Lib.hid (hkr.out.set (g := gd) (j := k) (u := .int .u8 (U (l'[k]'(by rw [hd.out.len2]; exact hlt) ^^^ t))) (.inl (by have := hdp.out; omega)))
      have hgn : Hid (Gr w (wr.setCell ⟨gd, k, none⟩ (.int .u8 (U (l'[k]'(by rw [hd.out.len2]; exact hlt) ^^^ t))))) := Lib.hid (Below.setCell hg.out (show w.heap.size ≤ gd from hg1) _)
      generalize l'[k]'(by rw [hd.out.len2]; exact hlt) = zz at *
      clear hg2'
      go_wp2
      go_roundw
      case rel => exact ⟨k + 1, _, by omega, by go_num, hst, hpn, hkn, hgn⟩
      case measure => simp [intOf]; omega
    · obtain rfl : dn = k := by omega
      clear hd
      rename World => wq
      go_wp2_with fail
      go_loopw [11] (fun u wr => ∃ (k : Nat), k ≤ np ∧ u = .int .i64 k ∧ Hid (PRow np (.slice (some ⟨bp, 0, none⟩) np np) bp wr) ∧ Hid (KeepR N5 N6 w6 wr) ∧ Hid (Gr w wr)) (fun u _ => (np - intOf u).toNat)
      case atStart => exact ⟨0, Nat.zero_le _, rfl, hp, hkr, hg⟩
      case round =>
        obtain ⟨k, hk2, rfl, hp2, hkr2, hgg⟩ := hrel
        clear hp hkr hg
        by_cases hlt2 : k < np
        · have ii : (k : Int) < (np : Int) := by omega
          obtain ⟨⟨u0, hcell⟩, hfr, hst⟩ := hp2.out.store hlt2
          have hst := Lib.hid (hst (.int .i64 7))
          have hkn := Lib.hid (hkr2.out.set (g := bp) (j := k * 2 + 1) (u := .int .i64 7) (.inl hdp.out))
          have hgn : Hid (Gr w (wr.setCell ⟨bp, k * 2 + 1, none⟩ (.int .i64 7))) := Lib.hid (Below.setCell hgg.out (show w.heap.size ≤ bp from hbp0.out) _)
          go_wp2
          go_roundw
          case rel => exact ⟨k + 1, by omega, by go_num, hst, hkn, hgn⟩
          case measure => simp [intOf]; omega
        · obtain rfl : np = k := by omega
          clear hp2
          rename World => wb
          have hcb : Ca wb N5 g x (cO3 dl z (zerosP np)) 3 := hc6.out.keepR (by rw [hN6.out]; exact hkr2.out)
          have hcT : Hid (∀ y, Gr wb y → Hid (Ca y N5 g x (cO3 dl z (zerosP np)) 3)) := Lib.hid (fun y hy => Lib.hid (hcb.gr hy))
          replace hcb := Lib.hid hcb
          clear hkr2 hc6 hdp hdlt hlow hgo hgr hpl hgz
          obtain ⟨Nb, hNb⟩ : ∃ n, wb.heap.size = n := ⟨_, rfl⟩
          have hst0 : Hid (∀ y a j u, Gr wb y → Nb ≤ a → Gr wb (y.setCell ⟨a, j, none⟩ u)) := Lib.hid (fun y a j u h1 h2 => Below.setCell h1 (show wb.heap.size ≤ a by rw [hNb]; exact h2) _)
          have hsz0 : Hid (∀ y, Gr wb y → Nb ≤ y.heap.size) := Lib.hid (fun y hy => by rw [← hNb]; exact Below.size hy)
          have hda := Lib.hid (dataO (hcT.out wb (Gr.refl _)) hdl.out)
          rw [hNb] at hda
          replace hNb := Lib.hid hNb
          go_upto_region 17 with (go_at_call 20; go_must (refine hda.out.mono ?_); clear hda; rintro e w7 ⟨A7, c7, rfl, ho7, hg7⟩)
          have hcv1 := run_str_at (n := dn) c7 (OB.rd ho7).1 hdl.out
          have hcv2 := run_str_at (n := dn) dc (hrd.out.up (hgg.out.trans hg7)) hdl.out
          have hw7 : Hid (Gr wb w7) := Lib.hid hg7
          replace ho7 := Lib.hid ho7
          replace hg7 := Lib.hid hg7
          go_upto_region 19 with (fail)
          clear hcv1 hcv2
          go_wp2_with fail
          go_loopw [14] (fun u wr => ∃ (k : Nat) (l' : By), k ≤ dn ∧ u = .int .i64 k ∧ Hid (OB wr Nb (.slice A7 dn c7) l') ∧ Hid (Gr wb wr)) (fun u _ => (dn - intOf u).toNat)
          case atStart => exact ⟨0, dl, Nat.zero_le _, rfl, ho7, hw7⟩
          case round =>
            obtain ⟨k, l', hk3, rfl, hd, hg⟩ := hrel
            clear ho7 hw7
            by_cases hlt : k < dn
            · have ii : (k : Int) < (dn : Int) := by omega
              obtain ⟨gd, rfl, hg1, hg2', hcell, hfr, hst⟩ := OB.store hd.out (k := k) (by rw [hd.out.len2]; exact hlt)
              have hst := Lib.hid (hst (l'[k]'(by rw [hd.out.len2]; exact hlt) ^^^ t))
              have hgn := Lib.hid (hst0.out wr gd k (.int .u8 (U (l'[k]'(by rw [hd.out.len2]; exact hlt) ^^^ t))) hg.out hg1)
              generalize l'[k]'(by rw [hd.out.len2]; exact hlt) = zz at *
              clear hg2'
              go_wp2
              go_roundw
              case rel => exact ⟨k + 1, _, by omega, by go_num, hst, hgn⟩
              case measure => simp [intOf]; omega
            · obtain rfl : dn = k := by omega
              clear hd
              have hen := Lib.hid (entriesO (hcT.out wr hg.out) hnp0)
              obtain ⟨S8, hS8⟩ : ∃ n, wr.heap.size = n := ⟨_, rfl⟩
              have hS8b : Nb ≤ S8 := by rw [← hS8]; exact hsz0.out _ hg.out
              rw [hS8] at hen
              replace hS8 := Lib.hid hS8
              go_upto_region 24 with (go_at_call 19; go_must (refine hen.out.mono ?_); clear hen; rintro e w8 ⟨bl, c8, g1, k8, rfl, hbl1, hbl2, hg11, hg12, hblg, x8, hp8, hg8⟩)
              have hw8 : Hid (Gr wb w8) := Lib.hid (hg.out.trans hg8)
              replace hg8 := Lib.hid hg8
              have hno := Lib.hid (notesO (hcT.out w8 hw8.out) hnp0 hdl.out)
              obtain ⟨S9, hS9⟩ : ∃ n, w8.heap.size = n := ⟨_, rfl⟩
              rw [hS9] at hno hbl2 hg12
              replace hp8 := Lib.hid hp8
              replace x8 := Lib.hid x8
              go_upto_region 25 with (go_at_call 11; go_must (refine hno.out.mono ?_); clear hno; rintro e w9 ⟨bn, c9, A9, k9, g3, k3, rfl, hbn1, hbn2, hg31, hg32, hbng, x9, y9, ho9, hap9, hp9, hg9⟩)
              have hw9 : Hid (Gr wb w9) := Lib.hid (hw8.out.trans hg9)
              have x8' := Lib.hid ((cellGr hg9 (a := ⟨bl, 4, none⟩) (by show bl < _; rw [hS9]; exact hbl2)).trans x8.out)
              have hp8' := Lib.hid (hp8.out.gr hg9)
              replace hg9 := Lib.hid hg9
              replace hS9 := Lib.hid hS9
              have hey := Lib.hid (entryO (hcT.out w9 hw9.out))
              obtain ⟨S10, hS10⟩ : ∃ n, w9.heap.size = n := ⟨_, rfl⟩
              rw [hS10] at hey hbn2 hg32 hap9
              replace hp9 := Lib.hid hp9
              replace x9 := Lib.hid x9
              replace y9 := Lib.hid y9
              replace ho9 := Lib.hid ho9
              replace hap9 := Lib.hid hap9
              clear x8 hp8
              go_upto_region 26 with (go_at_call 21; go_must (refine hey.out.mono ?_); clear hey; rintro e w10 ⟨A10, k10, rfl, hop10, hg10⟩)
              obtain ⟨eb, heb⟩ : ∃ b, w10.heap.size = b := ⟨_, rfl⟩
              have hpr10 := hop10.prow
              rw [zerosP_len] at hpr10
              obtain ⟨g4, k4, e4, hg41, hg42, -⟩ := hpr10.block hnp0
              injection e4 with e4 _ e5
              subst e4 e5
              have hS10l : S10 ≤ eb := by rw [← heb, ← hS10]; exact Below.size hg10
              obtain ⟨wa, hwa⟩ : ∃ wa, w10.alloc (.cells #[.string ⟨#[98]⟩, .int .i64 2, .int .i64 z, .string ⟨#[]⟩, .slice (some ⟨g4, 0, none⟩) np k10] 45) = wa := ⟨_, rfl⟩
              have hga : Gr w10 wa := by rw [← hwa]; exact Gr.alloc _ _
              have hba : wa.heap[eb]? = some (.cells #[.string ⟨#[98]⟩, .int .i64 2, .int .i64 z, .string ⟨#[]⟩, .slice (some ⟨g4, 0, none⟩) np k10] 45 (0, 0)) := by rw [← hwa, ← heb]; exact heap_alloc_new w10 _
              rw [hwa, heb]
              rw [heb] at hg42
              have hga9 : Gr w9 wa := hg10.trans hga
              have hwA : Hid (Gr wb wa) := Lib.hid (hw9.out.trans hga9)
              have xl := (cellGr hga9 (a := ⟨bl, 4, none⟩) (by show bl < _; rw [hS10]; omega)).trans x8'.out
              have xn := (cellGr hga9 (a := ⟨bn, 4, none⟩) (by show bn < _; rw [hS10]; omega)).trans x9.out
              have yn := (cellGr hga9 (a := ⟨bn, 23, none⟩) (by show bn < _; rw [hS10]; omega)).trans y9.out
              have hP1 := Lib.hid (hp8'.out.gr hga9)
              have hP3 := Lib.hid (hp9.out.gr hga9)
              have hP4 := Lib.hid (hpr10.gr hga)
              have hD := Lib.hid (ho9.out.below hga9)
              have xe := blk_cell (j := 4) hba rfl
              replace hpr10 := Lib.hid hpr10
              replace hop10 := Lib.hid hop10
              replace hba := Lib.hid hba
              replace hwa := Lib.hid hwa
              replace hga := Lib.hid hga
              replace hga9 := Lib.hid hga9
              replace hg10 := Lib.hid hg10
              replace hS10 := Lib.hid hS10
              replace heb := Lib.hid heb
              clear x8' x9 y9 hp8' hp9 ho9
              go_upto_region 28 with (fail)
              have hk0 : Hid (KB (SO bl bn eb g1 g3 g4) wa wa) := Lib.hid (KB.refl _ _)
              go_wp2_with fail
              go_loopw [19] (fun u wr => ∃ (k : Nat) (l' : By), k ≤ dn ∧ u = .int .i64 k ∧ Hid (OB wr S9 (.slice A9 dn k9) l') ∧ Hid (KB (SO bl bn eb g1 g3 g4) wa wr) ∧ Hid (Gr wb wr)) (fun u _ => (dn - intOf u).toNat)
              case atStart => exact ⟨0, dl, Nat.zero_le _, rfl, hD, hk0, hwA⟩
              case round =>
                obtain ⟨k, l', hk4, rfl, hd, hkb, hg⟩ := hrel
                clear hD hk0
                have xn' := (hkb.out.cell (j := 4) (SO.bn _ _ _ _ _ _)).trans xn
                by_cases hlt : k < dn
                · have ii : (k : Int) < (dn : Int) := by omega
                  obtain ⟨gd, rfl, hg1, hg2', hcell, hfr, hst⟩ := OB.store hd.out (k := k) (by rw [hd.out.len2]; exact hlt)
                  obtain ⟨hgd1, hgd2, hgd3⟩ := hap9.out gd rfl
                  have hns : ¬ SO bl bn eb g1 g3 g4 gd := SO.not (by omega) hgd1 (by omega) (by omega) hgd2 (by omega)
                  have hst := Lib.hid (hst (l'[k]'(by rw [hd.out.len2]; exact hlt) ^^^ t))
                  have hgn := Lib.hid (hst0.out wr gd k (.int .u8 (U (l'[k]'(by rw [hd.out.len2]; exact hlt) ^^^ t))) hg.out (by omega))
                  have hkn := Lib.hid (hkb.out.trans (KB.set (w := wr) (j := k) (u := .int .u8 (U (l'[k]'(by rw [hd.out.len2]; exact hlt) ^^^ t))) hns))
                  generalize l'[k]'(by rw [hd.out.len2]; exact hlt) = zz at *
                  clear hg2' hns hgd1 hgd2 hgd3
                  go_wp2
                  go_roundw
                  case rel => exact ⟨k + 1, _, by omega, by go_num, hst, hkn, hgn⟩
                  case measure => simp [intOf]; omega
                · obtain rfl : dn = k := by omega
                  have hQ1 := Lib.hid (hP1.out.kb hkb.out (SO.g1 _ _ _ _ _ _))
                  have hQ3 := Lib.hid (hP3.out.kb hkb.out (SO.g3 _ _ _ _ _ _))
                  have hQ4 := Lib.hid (hP4.out.kb hkb.out (SO.g4 _ _ _ _ _ _))
                  have hk3 : Hid (KB (SP bl bn eb) wa wr) := Lib.hid (fun q hq => hkb.out q (SO.of hq))
                  clear hd hP1 hP3 hP4 hkb
                  go_wp2_with fail
                  clear xn'
                  go_loopw [20] (fun u wr => ∃ (k : Nat), k ≤ np ∧ u = .int .i64 k ∧ Hid (PRow np (.slice (some ⟨g1, 0, none⟩) np k8) S8 wr) ∧ Hid (PRow np (.slice (some ⟨g3, 0, none⟩) np k3) S9 wr) ∧ Hid (PRow np (.slice (some ⟨g4, 0, none⟩) np k10) S10 wr) ∧ Hid (KB (SP bl bn eb) wa wr) ∧ Hid (Gr wb wr)) (fun u _ => (np - intOf u).toNat)
                  case atStart => exact ⟨0, Nat.zero_le _, rfl, hQ1, hQ3, hQ4, hk3, hg⟩
                  case round =>
                    obtain ⟨k, hk5, rfl, hR1, hR3, hR4, hkb, hg⟩ := hrel
                    clear hQ1 hQ3 hQ4 hk3
                    by_cases hlt2 : k < np
                    · have ii : (k : Int) < (np : Int) := by omega
                      obtain ⟨wd, hwd2⟩ : ∃ wd, wd = wr.drew := ⟨_, rfl⟩
                      have hgd0 : Gr wr wd := by rw [hwd2]; exact (Below.refl _ _).drew
                      have hkd := Lib.hid (hkb.out.trans (show KB (SP bl bn eb) wr wd by rw [hwd2]; exact KB.drew _ _))
                      have hT1 := hR1.out.gr hgd0
                      have hT3 := Lib.hid (hR3.out.gr hgd0)
                      have hT4 := Lib.hid (hR4.out.gr hgd0)
                      have hgd := Lib.hid (hg.out.trans hgd0)
                      clear hgd0
                      obtain ⟨⟨u1, hc1⟩, hf1, hs1⟩ := hT1.store hlt2
                      replace hs1 := Lib.hid (hs1 (.int .i64 8))
                      replace hT1 := Lib.hid hT1
                      have hng1 : Hid (¬ SP bl bn eb g1) := Lib.hid (SP.not (by omega) (by omega) (by omega))
                      have hng3 : Hid (¬ SP bl bn eb g3) := Lib.hid (SP.not (by omega) (by omega) (by omega))
                      have hng4 : Hid (¬ SP bl bn eb g4) := Lib.hid (SP.not (by omega) (by omega) (by omega))
                      have h14 : Hid (g4 ≠ g1 ∧ g3 ≠ g1 ∧ g1 ≠ g4 ∧ g3 ≠ g4 ∧ g1 ≠ g3 ∧ g4 ≠ g3) := Lib.hid ⟨by omega, by omega, by omega, by omega, by omega, by omega⟩
                      have hNg : Hid (Nb ≤ g1 ∧ Nb ≤ g3 ∧ Nb ≤ g4) := Lib.hid ⟨by omega, by omega, by omega⟩
                      go_upto_region 35 with (fail)
                      refine wpR_region (KB (SP bl bn eb)) 9999 (by kernel_rfl) ?_
                      (rw [← hwd2]; replace hwd2 := Lib.hid hwd2)
                      refine wpR_take (i := 0) (v := ?_) (KB.road _) (some 183) rfl (by kernel_rfl) (by kernel_rfl) (by kernel_rfl) (by kernel_rfl) (by kernel_rfl) (fun _ _ _ h => h) (by kernel_rfl) (fun w' hw' => ?_) ?_
                      rotate_left
                      · go_simp; with_reducible rfl
                      simp only [Act.put, List.setIfInBounds_toArray, List.set_cons_zero, List.set_cons_succ]
                      refine wpR_take (i := 1) (v := ?_) (KB.road _) (some 184) rfl (by kernel_rfl) (by kernel_rfl) (by kernel_rfl) (by kernel_rfl) (by kernel_rfl) (fun _ _ _ h => h) (by kernel_rfl) (fun w' hw' => ?_) ?_
                      rotate_left
                      · go_simp; with_reducible rfl
                      simp only [Act.put, List.setIfInBounds_toArray, List.set_cons_zero, List.set_cons_succ]
                      refine wpR_take (i := 2) (v := ?_) (KB.road _) (some 185) rfl (by kernel_rfl) (by kernel_rfl) (by kernel_rfl) (by kernel_rfl) (by kernel_rfl) (fun _ _ _ h => h) (by kernel_rfl) (fun w' hw' => ?_) ?_
                      rotate_left
                      · go_simp; with_reducible rfl
                      simp only [Act.put, List.setIfInBounds_toArray, List.set_cons_zero, List.set_cons_succ]
                      refine wpR_take (i := 3) (v := ?_) (KB.road _) (some 186) rfl (by kernel_rfl) (by kernel_rfl) (by kernel_rfl) (by kernel_rfl) (by kernel_rfl) (fun _ _ _ h => h) (by kernel_rfl) (fun w' hw' => ?_) ?_
                      rotate_left
                      · have z1 := ((hkd.out.trans hw').cell (j := 4) (SP.bl _ _ _)).trans xl; go_simp; with_reducible rfl
                      simp only [Act.put, List.setIfInBounds_toArray, List.set_cons_zero, List.set_cons_succ]
                      refine wpR_take (i := 4) (v := ?_) (KB.road _) (some 187) rfl (by kernel_rfl) (by kernel_rfl) (by kernel_rfl) (by kernel_rfl) (by kernel_rfl) (fun _ _ _ h => h) (by kernel_rfl) (fun w' hw' => ?_) ?_
                      rotate_left
                      · go_simp; with_reducible rfl
                      simp only [Act.put, List.setIfInBounds_toArray, List.set_cons_zero, List.set_cons_succ]
                      refine wpR_take (i := 5) (v := ?_) (KB.road _) (some 188) rfl (by kernel_rfl) (by kernel_rfl) (by kernel_rfl) (by kernel_rfl) (by kernel_rfl) (fun _ _ _ h => h) (by kernel_rfl) (fun w' hw' => ?_) ?_
                      rotate_left
                      · go_simp; with_reducible rfl
                      simp only [Act.put, List.setIfInBounds_toArray, List.set_cons_zero, List.set_cons_succ]
                      refine wpR_take (i := 6) (v := ?_) (KB.road _) (some 189) rfl (by kernel_rfl) (by kernel_rfl) (by kernel_rfl) (by kernel_rfl) (by kernel_rfl) (fun _ _ _ h => h) (by kernel_rfl) (fun w' hw' => ?_) ?_
                      rotate_left
                      · have z1 := ((hkd.out.trans hw').cell (j := 4) (SP.eb _ _ _)).trans xe; go_simp; with_reducible rfl
                      simp only [Act.put, List.setIfInBounds_toArray, List.set_cons_zero, List.set_cons_succ]
                      refine wpR_take (i := 7) (v := ?_) (KB.road _) (some 190) rfl (by kernel_rfl) (by kernel_rfl) (by kernel_rfl) (by kernel_rfl) (by kernel_rfl) (fun _ _ _ h => h) (by kernel_rfl) (fun w' hw' => ?_) ?_
                      rotate_left
                      · go_simp; with_reducible rfl
                      simp only [Act.put, List.setIfInBounds_toArray, List.set_cons_zero, List.set_cons_succ]
                      refine wpR_take (i := 8) (v := ?_) (KB.road _) (some 191) rfl (by kernel_rfl) (by kernel_rfl) (by kernel_rfl) (by kernel_rfl) (by kernel_rfl) (fun _ _ _ h => h) (by kernel_rfl) (fun w' hw' => ?_) ?_
                      rotate_left
                      · go_simp; with_reducible rfl
                      simp only [Act.put, List.setIfInBounds_toArray, List.set_cons_zero, List.set_cons_succ]
                      refine wpR_take (i := 9) (v := ?_) (KB.road _) (some 192) rfl (by kernel_rfl) (by kernel_rfl) (by kernel_rfl) (by kernel_rfl) (by kernel_rfl) (fun _ _ _ h => h) (by kernel_rfl) (fun w' hw' => ?_) ?_
                      rotate_left
                      · go_simp; with_reducible rfl
                      simp only [Act.put, List.setIfInBounds_toArray, List.set_cons_zero, List.set_cons_succ]
                      refine wpR_take (i := 10) (v := ?_) (KB.road _) (some 193) rfl (by kernel_rfl) (by kernel_rfl) (by kernel_rfl) (by kernel_rfl) (by kernel_rfl) (fun _ _ _ h => h) (by kernel_rfl) (fun w' hw' => ?_) ?_
                      rotate_left
                      · go_simp; with_reducible rfl
                      simp only [Act.put, List.setIfInBounds_toArray, List.set_cons_zero, List.set_cons_succ]
                      refine wpR_take (i := 11) (v := ?_) (KB.road _) (some 194) rfl (by kernel_rfl) (by kernel_rfl) (by kernel_rfl) (by kernel_rfl) (by kernel_rfl) (fun _ _ _ h => h) (by kernel_rfl) (fun w' hw' => ?_) ?_
                      rotate_left
                      · have z1 := ((hkd.out.trans hw').cell (j := 23) (SP.bn _ _ _)).trans yn; go_simp; with_reducible rfl
                      simp only [Act.put, List.setIfInBounds_toArray, List.set_cons_zero, List.set_cons_succ]
                      refine wpR_take (i := 12) (v := ?_) (KB.road _) (some 195) rfl (by kernel_rfl) (by kernel_rfl) (by kernel_rfl) (by kernel_rfl) (by kernel_rfl) (fun _ _ _ h => h) (by kernel_rfl) (fun w' hw' => ?_) ?_
                      rotate_left
                      · go_simp; with_reducible rfl
                      simp only [Act.put, List.setIfInBounds_toArray, List.set_cons_zero, List.set_cons_succ]
                      refine wpR_take (i := 13) (v := ?_) (KB.road _) (some 196) rfl (by kernel_rfl) (by kernel_rfl) (by kernel_rfl) (by kernel_rfl) (by kernel_rfl) (fun _ _ _ h => h) (by kernel_rfl) (fun w' hw' => ?_) ?_
                      rotate_left
                      · go_simp; with_reducible rfl
                      simp only [Act.put, List.setIfInBounds_toArray, List.set_cons_zero, List.set_cons_succ]
                      refine wpR_take (i := 14) (v := ?_) (KB.road _) (some 197) rfl (by kernel_rfl) (by kernel_rfl) (by kernel_rfl) (by kernel_rfl) (by kernel_rfl) (fun _ _ _ h => h) (by kernel_rfl) (fun w' hw' => ?_) ?_
                      rotate_left
                      · go_simp; with_reducible rfl
                      simp only [Act.put, List.setIfInBounds_toArray, List.set_cons_zero, List.set_cons_succ]
                      refine wpR_one 15 rfl (by kernel_rfl) (by kernel_rfl) (fun K hK => ?_)
                      go_simp
                      refine hK _ _ (fun _ => KB.set hng1.out) ?_
                      clear hK K
                      obtain ⟨wA, hwA2⟩ : ∃ W, W = wd.setCell ⟨g1, k * 2 + 1, none⟩ (.int .i64 8) := ⟨_, rfl⟩
                      rw [← hwA2]
                      have hkA : Hid (KB (SP bl bn eb) wa wA) := Lib.hid (by rw [hwA2]; exact hkd.out.trans (KB.set hng1.out))
                      have hgA : Hid (Gr wb wA) := Lib.hid (by rw [hwA2]; exact hst0.out _ _ _ _ hgd.out hNg.out.1)
                      have hA1 : Hid (PRow np (.slice (some ⟨g1, 0, none⟩) np k8) S8 wA) := Lib.hid (by rw [hwA2]; exact hs1.out)
                      have hA3 : Hid (PRow np (.slice (some ⟨g3, 0, none⟩) np k3) S9 wA) := Lib.hid (by rw [hwA2]; exact hT3.out.other h14.out.2.1)
                      have hA4 : PRow np (.slice (some ⟨g4, 0, none⟩) np k10) S10 wA := by rw [hwA2]; exact hT4.out.other h14.out.1
                      clear hc1 hf1 hs1
                      replace hwA2 := Lib.hid hwA2
                      obtain ⟨⟨u2, hc2⟩, hf2, hs2⟩ := hA4.store hlt2
                      replace hs2 := Lib.hid (hs2 (.int .i64 9))
                      replace hA4 := Lib.hid hA4
                      try simp only [Act.put, List.setIfInBounds_toArray, List.set_cons_zero, List.set_cons_succ]
                      refine wpR_take (i := 16) (v := ?_) (KB.road _) (some 198) rfl (by kernel_rfl) (by kernel_rfl) (by kernel_rfl) (by kernel_rfl) (by kernel_rfl) (fun _ _ _ h => h) (by kernel_rfl) (fun w' hw' => ?_) ?_
                      rotate_left
                      · go_simp; with_reducible rfl
                      simp only [Act.put, List.setIfInBounds_toArray, List.set_cons_zero, List.set_cons_succ]
                      refine wpR_take (i := 17) (v := ?_) (KB.road _) (some 199) rfl (by kernel_rfl) (by kernel_rfl) (by kernel_rfl) (by kernel_rfl) (by kernel_rfl) (fun _ _ _ h => h) (by kernel_rfl) (fun w' hw' => ?_) ?_
                      rotate_left
                      · go_simp; with_reducible rfl
                      simp only [Act.put, List.setIfInBounds_toArray, List.set_cons_zero, List.set_cons_succ]
                      refine wpR_one 18 rfl (by kernel_rfl) (by kernel_rfl) (fun K hK => ?_)
                      go_simp
                      refine hK _ _ (fun _ => KB.set hng4.out) ?_
                      clear hK K
                      obtain ⟨wB, hwB2⟩ : ∃ W, W = wA.setCell ⟨g4, k * 2 + 1, none⟩ (.int .i64 9) := ⟨_, rfl⟩
                      rw [← hwB2]
                      have hkB : Hid (KB (SP bl bn eb) wa wB) := Lib.hid (by rw [hwB2]; exact hkA.out.trans (KB.set hng4.out))
                      have hgB : Hid (Gr wb wB) := Lib.hid (by rw [hwB2]; exact hst0.out _ _ _ _ hgA.out hNg.out.2.2)
                      have hB1 : Hid (PRow np (.slice (some ⟨g1, 0, none⟩) np k8) S8 wB) := Lib.hid (by rw [hwB2]; exact hA1.out.other h14.out.2.2.1)
                      have hB3 : PRow np (.slice (some ⟨g3, 0, none⟩) np k3) S9 wB := by rw [hwB2]; exact hA3.out.other h14.out.2.2.2.1
                      have hB4 : Hid (PRow np (.slice (some ⟨g4, 0, none⟩) np k10) S10 wB) := Lib.hid (by rw [hwB2]; exact hs2.out)
                      clear hc2 hf2 hs2
                      replace hwB2 := Lib.hid hwB2
                      obtain ⟨⟨u3, hc3⟩, hf3, hs3⟩ := hB3.store hlt2
                      replace hs3 := Lib.hid (hs3 (.int .i64 10))
                      replace hB3 := Lib.hid hB3
                      try simp only [Act.put, List.setIfInBounds_toArray, List.set_cons_zero, List.set_cons_succ]
                      refine wpR_take (i := 19) (v := ?_) (KB.road _) (some 200) rfl (by kernel_rfl) (by kernel_rfl) (by kernel_rfl) (by kernel_rfl) (by kernel_rfl) (fun _ _ _ h => h) (by kernel_rfl) (fun w' hw' => ?_) ?_
                      rotate_left
                      · go_simp; with_reducible rfl
                      simp only [Act.put, List.setIfInBounds_toArray, List.set_cons_zero, List.set_cons_succ]
                      refine wpR_take (i := 20) (v := ?_) (KB.road _) (some 201) rfl (by kernel_rfl) (by kernel_rfl) (by kernel_rfl) (by kernel_rfl) (by kernel_rfl) (fun _ _ _ h => h) (by kernel_rfl) (fun w' hw' => ?_) ?_
                      rotate_left
                      · go_simp; with_reducible rfl
                      simp only [Act.put, List.setIfInBounds_toArray, List.set_cons_zero, List.set_cons_succ]
                      refine wpR_one 21 rfl (by kernel_rfl) (by kernel_rfl) (fun K hK => ?_)
                      go_simp
                      refine hK _ _ (fun _ => KB.set hng3.out) ?_
                      clear hK K
                      obtain ⟨wC, hwC2⟩ : ∃ W, W = wB.setCell ⟨g3, k * 2 + 1, none⟩ (.int .i64 10) := ⟨_, rfl⟩
                      rw [← hwC2]
                      have hk9 : Hid (KB (SP bl bn eb) wa wC) := Lib.hid (by rw [hwC2]; exact hkB.out.trans (KB.set hng3.out))
                      have hg9 : Hid (Gr wb wC) := Lib.hid (by rw [hwC2]; exact hst0.out _ _ _ _ hgB.out hNg.out.2.1)
                      have hV1 : Hid (PRow np (.slice (some ⟨g1, 0, none⟩) np k8) S8 wC) := Lib.hid (by rw [hwC2]; exact hB1.out.other h14.out.2.2.2.2.1)
                      have hV4 : Hid (PRow np (.slice (some ⟨g4, 0, none⟩) np k10) S10 wC) := Lib.hid (by rw [hwC2]; exact hB4.out.other h14.out.2.2.2.2.2)
                      have hV3 : Hid (PRow np (.slice (some ⟨g3, 0, none⟩) np k3) S9 wC) := Lib.hid (by rw [hwC2]; exact hs3.out)
                      clear hc3 hf3 hs3
                      replace hwC2 := Lib.hid hwC2
                      try simp only [Act.put, List.setIfInBounds_toArray, List.set_cons_zero, List.set_cons_succ]
                      refine wpR_done (by kernel_rfl) ?_ _
                      go_wp2_with fail
                      go_roundw
                      case rel => exact ⟨k + 1, by omega, by go_num, hV1, hV3, hV4, hk9, hg9⟩
                      case measure => simp [intOf]; omega
                    · obtain rfl : np = k := by omega
                      clear hR1 hR3 hR4
                      have hbe : wr.heap[eb]? = some (.cells #[.string ⟨#[98]⟩, .int .i64 2, .int .i64 z, .string ⟨#[]⟩, .slice (some ⟨g4, 0, none⟩) np k10] 45 (0, 0)) := (hkb.out eb (SP.eb _ _ _)).trans hba.out
                      have hNe : Hid (Nb ≤ eb) := Lib.hid (by omega)
                      have hda2 := Lib.hid (dataO (hcT.out wr hg.out) hdl.out)
                      go_upto_region 37 with (go_at_call 20; go_must (refine hda2.out.mono ?_); clear hda2; rintro e w11 ⟨A11, c11, rfl, ho11, hg11'⟩)
                      have hw11 : Hid (Gr wb w11) := Lib.hid (hg.out.trans hg11')
                      have hbe11 := blk_below hbe hg11'
                      have hey2 := Lib.hid (entryO (hcT.out w11 hw11.out))
                      replace ho11 := Lib.hid ho11
                      replace hg11' := Lib.hid hg11'
                      replace hbe11 := Lib.hid hbe11
                      replace hbe := Lib.hid hbe
                      go_upto_region 38 with (go_at_call 21; go_must (refine hey2.out.mono ?_); clear hey2; rintro e w12 ⟨A12, c12, rfl, hop12, hg12'⟩; have hbe12 := blk_below hbe11.out hg12'; have hw12 : Hid (Gr wb w12) := Lib.hid (hw11.out.trans hg12'); have ho12 := Lib.hid (ho11.out.below hg12'); replace hop12 := Lib.hid hop12; replace hg12' := Lib.hid hg12'; have f0 := blk_free hbe12 0; have f1 := blk_free hbe12 1; have f2 := blk_free hbe12 2; have f3 := blk_free hbe12 3; have f4 := blk_free hbe12 4; have e0 := blk_cell (j := 0) hbe12 rfl; have e1 := blk_cell (j := 1) hbe12 rfl; have e2 := blk_cell (j := 2) hbe12 rfl; have e3 := blk_cell (j := 3) hbe12 rfl; have e4 := blk_cell (j := 4) hbe12 rfl; replace hbe12 := Lib.hid hbe12)
                      obtain ⟨hz1, hz2, hz3⟩ := store5 (a := wb) hbe12.out rfl (.string ⟨#[98]⟩) (.int .i64 2) (.int .i64 z) (.string ⟨#[]⟩) (.slice A12 np c12) hw12.out (by rw [hNb.out]; exact hNe.out)
                      clear e0 e1 e2 e3 e4 f0 f1 f2 f3 f4
                      obtain ⟨w13, hW⟩ : ∃ W, W = ((((w12.setCell ⟨eb, 0, none⟩ (.string ⟨#[98]⟩)).setCell ⟨eb, 1, none⟩ (.int .i64 2)).setCell ⟨eb, 2, none⟩ (.int .i64 z)).setCell ⟨eb, 3, none⟩ (.string ⟨#[]⟩)).setCell ⟨eb, 4, none⟩ (.slice A12 np c12) := ⟨_, rfl⟩
                      rw [← hW] at hz1 hz2 hz3
                      rw [← hW]
                      have hop13 : OP (zerosP np) (.slice A12 np c12) w11.heap.size w13 := ⟨row_keep hop12.out.1 (fun q hq => hz2 q (by have h1 := (hop12.out.1.lt q hq).1; have h2 := blk_lt hbe11.out; omega)), hop12.out.2⟩
                      have ho13 : OB w13 wr.heap.size (.slice A11 dn c11) dl := row_keep ho12.out (fun q hq => hz2 q (by have h1 := (ho12.out.lt q hq).1; have h2 := blk_lt hbe.out; omega))
                      have hg13 : Hid (Gr wb w13) := Lib.hid hz3
                      have hrw := hop13.1
                      rw [zerosP_len] at hrw
                      obtain ⟨g5, c5', e5', -, -, -, -, -, -, hcell5, -⟩ := row_at hrw hnp0
                      injection e5' with e5' _ _
                      subst e5'
                      have hc5 : Hid (∀ q, q < np → w13.cell? ⟨g5, q * 2, none⟩ = some (.int .i64 0) ∧ w13.cell? ⟨g5, q * 2 + 1, none⟩ = some (.int .i64 0)) := Lib.hid (fun q hq => ⟨hcell5 _ _ (by rw [zerosP_flat, List.getElem?_replicate, if_pos (by omega)]), hcell5 _ _ (by rw [zerosP_flat, List.getElem?_replicate, if_pos (by omega)])⟩)
                      replace hop13 := Lib.hid hop13
                      replace ho13 := Lib.hid ho13
                      replace hW := Lib.hid hW
                      replace hrw := Lib.hid hrw
                      clear hz2 hz3 hcell5
                      go_wp2_with fail
                      go_loopw [21] (fun u wr => ∃ (k : Nat), k ≤ np ∧ u = .int .i64 k ∧ wr = w13) (fun u _ => (np - intOf u).toNat)
                      case atStart => exact ⟨0, Nat.zero_le _, rfl, rfl⟩
                      case round =>
                        obtain ⟨k, hk6, rfl, rfl⟩ := hrel
                        by_cases hlt3 : k < np
                        · have ii : (k : Int) < (np : Int) := by omega
                          obtain ⟨q0, q1⟩ := hc5.out k hlt3
                          go_wp2_with fail
                          go_roundw
                          case rel => exact ⟨k + 1, by omega, by go_num, by first | trivial | rfl⟩
                          case measure => simp [intOf]; omega
                        · obtain rfl : np = k := by omega
                          go_upto_region 43 with (fail)
                          go_wp2_with (go_at_call 14; go_must (refine (hap.out _).mono ?_); clear hap; rintro e w14 ⟨rfl, hg14⟩; have hcv1 := run_str_at (n := dn) c11 (OB.rd (ho13.out.below hg14)).1 hdl.out; have hcv2 := run_str_at (n := dn) dc (hrd.out.up ((hgg.out.trans hg13.out).trans hg14)) hdl.out; replace hg14 := Lib.hid hg14)
                          go_ret
                          exact ⟨by first | rfl | simp, (hgg.out.trans hg13.out).trans hg14.out⟩
end Go.Proofs.Ythboeoidgglcgaa
