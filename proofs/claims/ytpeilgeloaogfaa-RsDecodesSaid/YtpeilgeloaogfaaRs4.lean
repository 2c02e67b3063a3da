/- rs: the fixed facts. -/
import Derived.Test.YtpeilgeloaogfaaRs3
namespace Go.Proofs.Ytpeilgeloaogfaa
set_option linter.unusedVariables false
set_option linter.unusedSimpArgs false
open Go Go.RowKit
/-- a table of the call's own, some rows of which have been taken away -/
structure TN (w : World) (base g n m : Nat) (G C : Nat → Nat) (M : Mx) (P : Nat → Bool) : Prop where
  spine : ∃ cs : Array Value, w.heap[g]? = some (.cells cs 29 (0, 0)) ∧ n ≤ cs.size ∧ ∀ i, i < n → cs[i]? = some (if P i = true then .slice none 0 0 else .slice (some ⟨G i, 0, none⟩) m (C i))
  low : base ≤ g
  own : ∀ i, i < n → OB w base (.slice (some ⟨G i, 0, none⟩) m (C i)) (row m (M i))
  gne : ∀ i, i < n → G i ≠ g
theorem TB.tn {w : World} {base g n m : Nat} {G C : Nat → Nat} {M : Mx} (h : TB w base g n m G C M) : TN w base g n m G C M (fun _ => false) := by
  obtain ⟨cs, h1, h2, h3⟩ := h.spine
  exact ⟨⟨cs, h1, h2, fun i hi => by rw [if_neg (by decide)]; exact h3 i hi⟩, h.low, h.own, fun i hi => h.gne hi⟩
section
variable {w w' : World} {base g n m : Nat} {G C : Nat → Nat} {M : Mx} {P : Nat → Bool}
theorem TN.lt (h : TN w base g n m G C M P) : g < w.heap.size := by
  obtain ⟨cs, h1, -, -⟩ := h.spine
  exact blk_lt h1
theorem TN.cell (h : TN w base g n m G C M P) {i : Nat} (hi : i < n) : w.cell? ⟨g, i, none⟩ = some (if P i = true then .slice none 0 0 else .slice (some ⟨G i, 0, none⟩) m (C i)) := by
  obtain ⟨cs, h1, -, h3⟩ := h.spine
  exact blk_cell h1 (h3 i hi)
theorem TN.free (h : TN w base g n m G C M P) (i : Nat) : w.frozen? ⟨g, i, none⟩ = false := by
  obtain ⟨cs, h1, -, -⟩ := h.spine
  exact blk_free h1 i
theorem TN.below (h : TN w base g n m G C M P) (hb : Below w.heap.size w w') : TN w' base g n m G C M P := by
  obtain ⟨cs, h1, h2, h3⟩ := h.spine
  exact ⟨⟨cs, (hb.block g h.lt).trans h1, h2, h3⟩, h.low, fun i hi => (h.own i hi).below hb, h.gne⟩
theorem TN.nil_ (h : TN w base g n m G C M P) {i : Nat} (hi : i < n) : TN (w.setCell ⟨g, i, none⟩ (.slice none 0 0)) base g n m G C M (fun j => if j = i then true else P j) := by
  obtain ⟨cs, h1, h2, h3⟩ := h.spine
  refine ⟨⟨_, blk_set h1 i _, by simp; exact h2, fun j hj => ?_⟩, h.low, fun j hj => row_keep (h.own j hj) (fun k hk => ?_), h.gne⟩
  · by_cases e : j = i
    · subst e
      simp [show j < cs.size by omega]
    · rw [Array.getElem?_setIfInBounds_ne (by omega), h3 j hj]
      simp only [if_neg e]
  · injection hk with hk
    subst hk
    exact blk_other (h.gne j hj) i _
def tabN (n m : Nat) (M : Mx) (P : Nat → Bool) : List (List UInt8) := (List.range n).map (fun i => if P i = true then [] else row m (M i))
theorem tabN_length (n m : Nat) (M : Mx) (P : Nat → Bool) : (tabN n m M P).length = n := by unfold tabN; simp
theorem tabN_get {n m i : Nat} (h : i < n) (M : Mx) (P : Nat → Bool) : (tabN n m M P)[i]? = some (if P i = true then [] else row m (M i)) := by unfold tabN; simp [h]
theorem tabN_getD {n m i : Nat} (h : i < n) (M : Mx) (P : Nat → Bool) : (tabN n m M P).getD i [] = if P i = true then [] else row m (M i) := by rw [List.getD_eq_getElem?_getD, tabN_get h]; rfl
theorem TN.tbl (h : TN w base g n m G C M P) (c : Nat) (hc : n ≤ c) (hm : c ≤ maxLen) : Tbl (tabN n m M P) (.slice (some ⟨g, 0, none⟩) n c) w := by
  refine ⟨_, c, by rw [tabN_length], by rw [tabN_length]; exact hc, hm, rfl, fun hn => ⟨g, 0, rfl, h.lt, fun i l hl => ?_⟩⟩
  have hi : i < n := by have := (List.getElem?_eq_some_iff.mp hl).1; rwa [tabN_length] at this
  rw [tabN_get hi] at hl
  injection hl with hl
  have hcell := h.cell hi
  by_cases e : P i = true
  · rw [if_pos e] at hl hcell
    subst hl
    exact ⟨none, 0, by rw [Nat.zero_add]; exact hcell, Nat.le_refl _, Nat.zero_le _, Rd.nil_⟩
  · rw [if_neg e] at hl hcell
    subst hl
    obtain ⟨A, c2, e2, k1, k2, k3, -⟩ := (h.own i hi).form
    injection e2 with e21 e22 e23
    subst e21 e23
    rw [row_length] at k1
    exact ⟨_, C i, by rw [Nat.zero_add, row_length]; exact hcell, by rw [row_length]; exact k1, k2, k3⟩
end
/-! ### shards of which some lack -/
theorem tabN_ok {M : Mx} {P : Nat → Bool} : shardsOk (tabN 10 16 M P) := fun r hr => by
  rw [tabN_getD hr]
  split
  · exact .inl rfl
  · exact .inr (row_length _ _)
theorem tabN_pidx {M : Mx} {P : Nat → Bool} (k : Nat) (hk : k ≤ 10) : pidx (tabN 10 16 M P) k = (List.range k).filter (fun r => !(P r)) := by
  unfold pidx
  refine List.filter_congr (fun r hr => ?_)
  have hr' := List.mem_range.mp hr
  rw [tabN_getD (by omega)]
  cases h : P r with
  | true => simp
  | false =>
    rw [if_neg (by decide), row_length]
    rfl
theorem tabN_solves {D : Mx} {P : Nat → Bool} (h8 : 8 ≤ (pidx (tabN 10 16 (encD D) P) 10).length) : Solves (tabN 10 16 (encD D) P) D := fun i j hi hj => by
  obtain ⟨h1, h2, h3⟩ := pidx8 h8
  obtain ⟨is, his⟩ : ∃ is, (pidx (tabN 10 16 (encD D) P) 10).take 8 = is := ⟨_, rfl⟩
  rw [his] at h2 h3 ⊢
  have hr := h3 (is.getD i 0) (by
    rw [List.getD_eq_getElem?_getD, List.getElem?_eq_getElem (by omega)]
    exact List.getElem_mem _)
  have hP : P (is.getD i 0) = false := by
    cases hh : P (is.getD i 0) with
    | false => rfl
    | true =>
      have := hr.2
      rw [tabN_getD hr.1, if_pos hh] at this
      exact absurd this (by decide)
  unfold ent
  rw [tabN_getD hr.1, if_neg (by rw [hP]; decide), row_getD hj]
  rfl
/-- what is decoded of shards of which two lack at most -/
theorem dec_back {l : List UInt8} (hl : l.length = 128) {P : Nat → Bool} (h8 : 8 ≤ (pidx (tabN 10 16 (encM l) P) 10).length) {D : Mx} (h : Solves (tabN 10 16 (encM l) P) D) : flat 8 16 D = l := by
  rw [encM_eq] at h h8
  rw [flat_congr (solves_unique h8 h (tabN_solves h8)), flat_part (by decide) (by rw [hl])]
def one128 : List UInt8 := row 128 (fun j => if j = 0 then 1 else 0)
theorem awk_8 : encM one128 8 0 = 173 := by decide +kernel
theorem awk_9 : encM one128 9 0 = 157 := by decide +kernel
set_option maxHeartbeats 16000000 in
set_option maxRecDepth 20000 in
theorem awake03_any (w : World) : Calls Try.prog 43 #[] w fun e w' => e = .returned (.bool true) ∧ Below w.heap.size w w' := by
  go_enter Try.func43, Try.ntmps43
  go_upto_region 2 with (refine wpl_make rfl (.const (.int .i64 128)) (.const (.int .i64 128)) rfl w.heap.size 128 rfl rfl (by omega) (Nat.le_refl _) ?_; intro w1 ho1 hb1; replace ho1 := Lib.hid ho1; replace hb1 := Lib.hid hb1)
  obtain ⟨g5, eg5, hg5, hg5', hc5, hf5, hst5⟩ := ho1.out.store (k := 0) (by simp)
  injection eg5 with eg5
  injection eg5 with eg5 _ _
  subst eg5
  have hone : Hid (OB (w1.setCell ⟨w.heap.size, 0, none⟩ (.int .u8 1)) w.heap.size (.slice (some ⟨w.heap.size, 0, none⟩) 128 128) one128) := Lib.hid (by
    have e : (List.replicate 128 (0 : UInt8)).set 0 1 = one128 := by decide +kernel
    rw [← e]; exact hst5 1)
  have hq1 : Gr w (w1.setCell ⟨w.heap.size, 0, none⟩ (.int .u8 1)) := hb1.out.setCell (p := ⟨w.heap.size, 0, none⟩) (Nat.le_refl _) _
  have hq : Hid (Gr w (w1.setCell ⟨w.heap.size, 0, none⟩ (.int .u8 1))) := Lib.hid hq1
  clear hst5 ho1 hb1 hq1
  go_upto_region 3 with (fail)
  obtain ⟨w2, hw2⟩ : ∃ x, w1.setCell ⟨w.heap.size, 0, none⟩ (.int .u8 1) = x := ⟨_, rfl⟩
  rw [hw2] at hone hq ⊢
  replace hw2 := Lib.hid hw2
  clear hg5 hg5' hc5 hf5
  have henc := Lib.hid (rsenc_ok (some ⟨w.heap.size, 0, none⟩) 128 one128 (by decide) (by decide) (row_length _ _) w2 (OB.rd hone.out).1)
  go_wp2_with fail
  refine henc.out.mono ?_
  rintro e w3 ⟨g, G, C, rfl, ht, hr⟩
  have hN0 := ht.tn
  have hone3 := Lib.hid (hone.out.below hr)
  have hsz2 := hq.out.size
  replace hq := Gr.go hq hr
  have c8 : w3.cell? ⟨g, 8, none⟩ = some (.slice (some ⟨G 8, 0, none⟩) 16 (C 8)) := ht.cell (by decide)
  have c9 : w3.cell? ⟨g, 9, none⟩ = some (.slice (some ⟨G 9, 0, none⟩) 16 (C 9)) := ht.cell (by decide)
  have x0 : w3.cell? ⟨g, 0, none⟩ = some (.slice (some ⟨G 0, 0, none⟩) 16 (C 0)) := ht.cell (by decide)
  have xf0 := ht.free 0
  have hN1 := hN0.nil_ (i := 0) (by decide)
  have x1 : (w3.setCell ⟨g, 0, none⟩ (.slice none 0 0)).cell? ⟨g, 1, none⟩ = some (.slice (some ⟨G 1, 0, none⟩) 16 (C 1)) := by
    have h1 := hN1.cell (i := 1) (by decide)
    rwa [if_neg (by decide)] at h1
  have xf1 := hN1.free 1
  have hN2 := Lib.hid (hN1.nil_ (i := 1) (by decide))
  have hlow : w.heap.size ≤ g := Nat.le_trans hsz2 ht.low
  have hgw : w.heap.size ≠ g := fun e => by
    have h1 := ht.low
    have h2 := (hone.out.lt w.heap.size rfl).2
    omega
  clear hone henc hN0 hN1 ht hr hsz2
  go_upto_region 7 with (fail)
  have hq4 : Hid (Gr w ((w3.setCell ⟨g, 0, none⟩ (.slice none 0 0)).setCell ⟨g, 1, none⟩ (.slice none 0 0))) := Lib.hid ((hq.out.setCell (p := ⟨g, 0, none⟩) hlow _).setCell (p := ⟨g, 1, none⟩) hlow _)
  have hone4 : Hid (OB ((w3.setCell ⟨g, 0, none⟩ (.slice none 0 0)).setCell ⟨g, 1, none⟩ (.slice none 0 0)) w.heap.size (.slice (some ⟨w.heap.size, 0, none⟩) 128 128) one128) := Lib.hid (row_keep (row_keep hone3.out (fun k hk => blk_other (by injection hk with hk; subst hk; exact hgw) 0 _)) (fun k hk => blk_other (by injection hk with hk; subst hk; exact hgw) 1 _))
  obtain ⟨w4, hw4⟩ : ∃ x, (w3.setCell ⟨g, 0, none⟩ (.slice none 0 0)).setCell ⟨g, 1, none⟩ (.slice none 0 0) = x := ⟨_, rfl⟩
  rw [hw4] at hN2 hq4 hone4 ⊢
  replace hw4 := Lib.hid hw4
  clear hq hone3 x0 x1 xf0 xf1 c8 c9
  have hT2 : Hid (Tbl (tabN 10 16 (encM one128) (fun j => if j = 1 then true else if j = 0 then true else false)) (.slice (some ⟨g, 0, none⟩) 10 10) w4) := Lib.hid (hN2.out.tbl 10 (Nat.le_refl _) (by decide))
  have hdec := Lib.hid (rsdec_any (tabN_length _ _ _ _) w4 hT2)
  go_wp2_with fail
  refine hdec.out.mono ?_
  rintro e w5 ⟨hr, hcase⟩
  have hcnt : (pidx (tabN 10 16 (encM one128) (fun j => if j = 1 then true else if j = 0 then true else false)) 10).length = 8 := by rw [tabN_pidx 10 (by decide)]; decide
  rcases hcase with ⟨-, h8, A5, c5, D, rfl, hob, hsol⟩ | ⟨-, h8, -⟩ | ⟨h8, -⟩
  rotate_left
  · omega
  · exact absurd tabN_ok h8
  have hfl := dec_back (row_length _ _) h8 hsol
  rw [hfl] at hob
  have hN5 := hN2.out.below hr
  have hone5 := Lib.hid (hone4.out.below hr)
  replace hq4 := Gr.go hq4 hr
  have x2 : w5.cell? ⟨g, 2, none⟩ = some (.slice (some ⟨G 2, 0, none⟩) 16 (C 2)) := by
    have h1 := hN5.cell (i := 2) (by decide)
    rwa [if_neg (by decide)] at h1
  have xf2 := hN5.free 2
  have hN6 := Lib.hid (hN5.nil_ (i := 2) (by decide))
  have hob5 : Hid (OB (w5.setCell ⟨g, 2, none⟩ (.slice none 0 0)) w4.heap.size (.slice A5 128 c5) one128) := Lib.hid (row_keep hob.out (fun k hk => blk_other (by
    have h1 := hob.out.up k hk
    have h2 := hN2.out.lt
    omega) 2 _))
  have hone6 : Hid (OB (w5.setCell ⟨g, 2, none⟩ (.slice none 0 0)) w.heap.size (.slice (some ⟨w.heap.size, 0, none⟩) 128 128) one128) := Lib.hid (row_keep hone5.out (fun k hk => blk_other (by injection hk with hk; subst hk; exact hgw) 2 _))
  have hq6 : Hid (Gr w (w5.setCell ⟨g, 2, none⟩ (.slice none 0 0))) := Lib.hid (hq4.out.setCell (p := ⟨g, 2, none⟩) hlow _)
  obtain ⟨A5', c5', e5, k51, k52, k53, -⟩ := hob.out.form
  clear e5 k51 k52 k53 hcnt h8 hsol hfl hr hdec hT2 hN2 hN5 hone4 hob hone5 hq4
  go_upto_region 9 with (fail)
  obtain ⟨w6, hw6⟩ : ∃ x, w5.setCell ⟨g, 2, none⟩ (.slice none 0 0) = x := ⟨_, rfl⟩
  rw [hw6] at hN6 hob5 hone6 hq6 ⊢
  replace hw6 := Lib.hid hw6
  clear x2 xf2
  have hT3 : Hid (Tbl (tabN 10 16 (encM one128) (fun j => if j = 2 then true else if j = 1 then true else if j = 0 then true else false)) (.slice (some ⟨g, 0, none⟩) 10 10) w6) := Lib.hid (hN6.out.tbl 10 (Nat.le_refl _) (by decide))
  have hdec := Lib.hid (rsdec_any (tabN_length _ _ _ _) w6 hT3)
  go_wp2_with fail
  refine hdec.out.mono ?_
  rintro e w7 ⟨hr, hcase⟩
  have hcnt : (pidx (tabN 10 16 (encM one128) (fun j => if j = 2 then true else if j = 1 then true else if j = 0 then true else false)) 10).length = 7 := by rw [tabN_pidx 10 (by decide)]; decide
  rcases hcase with ⟨-, h8, -⟩ | ⟨-, h8, rfl⟩ | ⟨h8, -⟩
  · omega
  rotate_left
  · exact absurd tabN_ok h8
  have hN7 := hN6.out.below hr
  have x8 : w7.cell? ⟨g, 8, none⟩ = some (.slice (some ⟨G 8, 0, none⟩) 16 (C 8)) := by
    have h1 := hN7.cell (i := 8) (by decide)
    rwa [if_neg (by decide)] at h1
  have x9 : w7.cell? ⟨g, 9, none⟩ = some (.slice (some ⟨G 9, 0, none⟩) 16 (C 9)) := by
    have h1 := hN7.cell (i := 9) (by decide)
    rwa [if_neg (by decide)] at h1
  have y8 : w7.cell? ⟨G 8, 0, none⟩ = some (.int .u8 173) := by
    obtain ⟨ad, e1, -, h1⟩ := (OB.rd (hN7.own 8 (by decide))).1.get (row_get (show 0 < 16 by decide) _)
    injection e1 with e1
    subst e1
    rw [awk_8] at h1
    exact h1
  have y9 : w7.cell? ⟨G 9, 0, none⟩ = some (.int .u8 157) := by
    obtain ⟨ad, e1, -, h1⟩ := (OB.rd (hN7.own 9 (by decide))).1.get (row_get (show 0 < 16 by decide) _)
    injection e1 with e1
    subst e1
    rw [awk_9] at h1
    exact h1
  have hq7 := Gr.go hq6 hr
  have cv1 := run_str_at (n := 128) c5 (OB.rd (hob5.out.below hr)).1 (row_length _ _)
  have cv2 := run_str_at (n := 128) 128 (OB.rd (hone6.out.below hr)).1 (row_length _ _)
  have hbb : (one128 == one128) = true := by decide +kernel
  generalize one128 = ol at *
  clear hN7 hr hcnt h8 hdec hT3 hN6 hob5 hone6 hq6
  go_wp2_with fail
  go_ret
  exact ⟨rfl, hq7.out⟩
end Go.Proofs.Ytpeilgeloaogfaa
