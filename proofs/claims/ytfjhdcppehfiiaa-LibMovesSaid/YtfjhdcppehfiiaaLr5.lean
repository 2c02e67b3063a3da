/- lib: the reference's whole library; Read, Append. -/
import Derived.Test.YtfjhdcppehfiiaaLr4
namespace Go.Proofs.Ytfjhdcppehfiiaa
set_option linter.unusedVariables false
set_option linter.unusedSimpArgs false
open Go Go.RowKit
theorem Rt.more {w : World} {lo lo' g : Nat} {s : CS} (h : Rt w lo g s) (hl : lo' ≤ lo) : Rt w lo' g s := by
  obtain ⟨v1, v2, a, b, c, d, e⟩ := h
  exact ⟨v1, v2, a, by omega, row_more c hl, row_more d hl, e⟩
theorem RRow.lt {w : World} {lo g k : Nat} {s : CS} (h : RRow w g k) (hc : Rt w lo g s) : k < w.heap.size ∧ lo ≤ k := by
  obtain ⟨v1, v2, a, b, c, d, e⟩ := hc
  rcases rrow_of a h with h | h
  · have := c.lt k h; omega
  · have := d.lt k h; omega
theorem RRow.of_eq {w w' : World} {b k : Nat} (he : w'.heap[b]? = w.heap[b]?) (h : RRow w' b k) : RRow w b k := by
  obtain ⟨v1, v2, a, c, h1, h2⟩ := h
  exact ⟨v1, v2, a, c, by rw [← he]; exact h1, h2⟩
theorem Rt.apart {w w' : World} {lo b b2 : Nat} {s s2 : CS} (h : Rt w lo b2 s2) (h1 : Rt w lo b s) (hf : RFr w w' b) (hne : b2 ≠ b) (hr : ∀ k, RRow w b k → ¬ RRow w b2 k) : Rt w' lo b2 s2 ∧ w'.heap[b2]? = w.heap[b2]? := by
  obtain ⟨v1, v2, a, hb, c, d, e⟩ := h
  obtain ⟨u1, u2, a', hb', c', d', e'⟩ := h1
  have hk : w'.heap[b2]? = w.heap[b2]? := hf.1.2.2.2.2 b2 (blk_lt a) (fun ho => by
    rcases ho with rfl | ho
    · exact hne rfl
    · rcases rrow_of a' ho with h9 | h9
      · exact row_ne c' a (by decide) h9
      · exact row_ne d' a (by decide) h9)
  refine ⟨⟨v1, v2, by rw [hk]; exact a, hb, row_keep c (fun k hk => ?_), row_keep d (fun k hk => ?_), e⟩, hk⟩
  · refine hf.1.2.2.2.2 k (c.lt k hk).2 (fun ho => ?_)
    rcases ho with rfl | ho
    · exact row_ne c a' (by decide) hk
    · exact hr k ho ⟨_, _, _, _, a, .inl hk⟩
  · refine hf.1.2.2.2.2 k (d.lt k hk).2 (fun ho => ?_)
    rcases ho with rfl | ho
    · exact row_ne d a' (by decide) hk
    · exact hr k ho ⟨_, _, _, _, a, .inr hk⟩
/-- the reference's library in memory, behind at most T acts -/
structure Rl (w : World) (lo g : Nat) (C : List Nat) (SS : List CS) (T : Nat) : Prop where
  lr : ∃ vc vd va D L, Lr w lo g vc vd va C D L ∧ PR T D ∧ L.length ≤ T
  len : SS.length = C.length
  ct : ∀ (i b : Nat) (s : CS), C[i]? = some b → SS[i]? = some s → Rt w lo b s
  ap : ∀ (i j b b' : Nat), i ≠ j → C[i]? = some b → C[j]? = some b' → b ≠ b' ∧ ∀ k, RRow w b k → ¬ RRow w b' k
section
variable {w w' : World} {lo g T T' : Nat} {C : List Nat} {SS : List CS}
theorem Rl.cs (h : Rl w lo g C SS T) {i b : Nat} (hb : C[i]? = some b) : ∃ s, SS[i]? = some s ∧ Rt w lo b s := by
  obtain ⟨s, hs⟩ : ∃ s, SS[i]? = some s := ⟨_, List.getElem?_eq_getElem (by rw [h.len]; exact (List.getElem?_eq_some_iff.mp hb).1)⟩
  exact ⟨s, hs, h.ct i b s hb hs⟩
/-- what turns no cartridge -/
theorem Rl.tchg {lo' : Nat} {ts : List TypeId} (h : Rl w lo g C SS T) (hc : TChg lo' ts w w') (h0 : 99 ∉ ts) (h1 : 9 ∉ ts) (h2 : 4 ∉ ts) (hl : ∃ vc vd va D L, Lr w' lo g vc vd va C D L ∧ PR T' D ∧ L.length ≤ T') : Rl w' lo g C SS T' := by
  refine ⟨hl, h.len, fun i b s hb hs => (h.ct i b s hb hs).tchg hc h0 h1 h2, fun i j b b' hij hb hb' => ?_⟩
  obtain ⟨h3, h4⟩ := h.ap i j b b' hij hb hb'
  have keep : ∀ (i b : Nat), C[i]? = some b → w'.heap[b]? = w.heap[b]? := fun i b hb => by
    obtain ⟨s, -, v1, v2, a, -⟩ := h.cs hb
    rw [a]
    exact hc.block a h0
  exact ⟨h3, fun k hk hk' => h4 k (hk.of_eq (keep i b hb)) (hk'.of_eq (keep j b' hb'))⟩
theorem Rl.gr (h : Rl w lo g C SS T) (hg : Below w.heap.size w w') (ht : T ≤ T') : Rl w' lo g C SS T' := by
  obtain ⟨vc, vd, va, D, L, h1, h2, h3⟩ := h.lr
  exact h.tchg (lo' := 0) (ts := []) (TChg.of_below hg) (by simp) (by simp) (by simp) ⟨vc, vd, va, D, L, (Lr.gr hg (Lib.hid h1)).out, h2.more ht, by omega⟩
/-- an act on one cartridge -/
theorem Rl.cart {i b : Nat} {s' : CS} (h : Rl w lo g C SS T) (hb : C[i]? = some b) (hf : RFr w w' b) (hc : Rt w' lo b s') (hl : ∃ vc vd va D L, Lr w' lo g vc vd va C D L ∧ PR T' D ∧ L.length ≤ T') : Rl w' lo g C (SS.set i s') T' := by
  obtain ⟨s, hs, hrt⟩ := h.cs hb
  have oth : ∀ (j b' : Nat), j ≠ i → C[j]? = some b' → ∀ s2, Rt w lo b' s2 → Rt w' lo b' s2 ∧ w'.heap[b']? = w.heap[b']? := fun j b' hj hb' s2 hs2 => by
    obtain ⟨h3, h4⟩ := h.ap i j b b' (fun e => hj e.symm) hb hb'
    exact hs2.apart hrt hf (fun e => h3 e.symm) h4
  have hil : i < SS.length := (List.getElem?_eq_some_iff.mp hs).1
  refine ⟨hl, by rw [List.length_set]; exact h.len, fun j b' s2 hb' hs2 => ?_, fun j k bj bk hjk hbj hbk => ?_⟩
  · by_cases e : j = i
    · subst e
      rw [List.getElem?_set_self hil] at hs2
      injection hs2 with hs2
      subst hs2
      rw [hb] at hb'
      injection hb' with hb'
      subst hb'
      exact hc
    · rw [List.getElem?_set_ne (fun e2 => e e2.symm)] at hs2
      exact (oth j b' e hb' s2 (h.ct j b' s2 hb' hs2)).1
  · obtain ⟨h3, h4⟩ := h.ap j k bj bk hjk hbj hbk
    obtain ⟨sj, -, hcj⟩ := h.cs hbj
    obtain ⟨sk, -, hck⟩ := h.cs hbk
    refine ⟨h3, fun x hx hx' => ?_⟩
    by_cases ej : j = i
    · subst ej
      rw [hb] at hbj
      injection hbj with hbj
      subst hbj
      have hk' := hx'.of_eq (oth k bk (fun e => hjk e.symm) hbk sk hck).2
      rcases hf.2 x hx with h5 | h5
      · exact h4 x h5 hk'
      · have := (hk'.lt hck).1; omega
    · have hj' := hx.of_eq (oth j bj ej hbj sj hcj).2
      by_cases ek : k = i
      · subst ek
        rw [hb] at hbk
        injection hbk with hbk
        subst hbk
        rcases hf.2 x hx' with h5 | h5
        · exact h4 x hj' h5
        · have := (hj'.lt hcj).1; omega
      · exact h4 x hj' (hx'.of_eq (oth k bk ek hbk sk hck).2)
/-- a cartridge more -/
theorem Rl.snoc {q : Nat} {s : CS} {ts : List TypeId} (h : Rl w lo g C SS T) (hlo : lo ≤ w.heap.size) (hc : TChg lo ts w w') (h0 : 99 ∉ ts) (h1 : 9 ∉ ts) (h2 : 4 ∉ ts) (hct : Rt w' w.heap.size q s) (hl : ∃ vc vd va D L, Lr w' lo g vc vd va (C ++ [q]) D L ∧ PR T' D ∧ L.length ≤ T') : Rl w' lo g (C ++ [q]) (SS ++ [s]) T' := by
  have hq : w.heap.size ≤ q := by obtain ⟨_, _, _, hq, -⟩ := hct; exact hq
  have keep : ∀ (i b : Nat), C[i]? = some b → w'.heap[b]? = w.heap[b]? ∧ b < w.heap.size := fun i b hb => by
    obtain ⟨s, -, v1, v2, a, -⟩ := h.cs hb
    exact ⟨by rw [a]; exact hc.block a h0, blk_lt a⟩
  have rowlt : ∀ (i b : Nat), C[i]? = some b → ∀ k, RRow w b k → k < w.heap.size := fun i b hb k hk => by
    obtain ⟨s, -, h5⟩ := h.cs hb
    exact (hk.lt h5).1
  have split : ∀ (i b : Nat), (C ++ [q])[i]? = some b → (C[i]? = some b ∧ i < C.length) ∨ (i = C.length ∧ b = q) := fun i b hb => by
    by_cases hi : i < C.length
    · rw [List.getElem?_append_left hi] at hb; exact .inl ⟨hb, hi⟩
    · have hl := (List.getElem?_eq_some_iff.mp hb).1
      rw [List.length_append] at hl
      have e : i = C.length := by simp at hl; omega
      subst e
      rw [List.getElem?_append_right (Nat.le_refl _), Nat.sub_self] at hb
      injection hb with hb
      exact .inr ⟨rfl, hb.symm⟩
  refine ⟨hl, by simp [h.len], fun i b s2 hb hs => ?_, fun i j b b' hij hb hb' => ?_⟩
  · rcases split i b hb with ⟨hbC, hil⟩ | ⟨rfl, rfl⟩
    · rw [List.getElem?_append_left (by rw [h.len]; exact hil)] at hs
      exact (h.ct i b s2 hbC hs).tchg hc h0 h1 h2
    · rw [List.getElem?_append_right (by rw [h.len]; exact Nat.le_refl _), h.len, Nat.sub_self] at hs
      injection hs with hs
      subst hs
      exact hct.more hlo
  · rcases split i b hb with ⟨hbC, hil⟩ | ⟨rfl, rfl⟩
    · rcases split j b' hb' with ⟨hbD, hjl⟩ | ⟨rfl, rfl⟩
      · obtain ⟨h3, h4⟩ := h.ap i j b b' hij hbC hbD
        exact ⟨h3, fun k hk hk' => h4 k (hk.of_eq (keep i b hbC).1) (hk'.of_eq (keep j b' hbD).1)⟩
      · refine ⟨by have := (keep i b hbC).2; omega, fun k hk hk' => ?_⟩
        have h5 := rowlt i b hbC k (hk.of_eq (keep i b hbC).1)
        have h6 := (hk'.lt hct).2
        omega
    · rcases split j b' hb' with ⟨hbD, hjl⟩ | ⟨rfl, rfl⟩
      · refine ⟨by have := (keep j b' hbD).2; omega, fun k hk hk' => ?_⟩
        have h5 := rowlt j b' hbD k (hk'.of_eq (keep j b' hbD).1)
        have h6 := (hk.lt hct).2
        omega
      · exact absurd rfl hij
end
section
variable (lo g : Nat) (C : List Nat) (SS : List CS) (T : Nat) (w : World) (h : Hid (Rl w lo g C SS T))
include h
theorem ris_li (z : Int) : Calls Try.prog 40 #[.pointer (some ⟨g, 0, none⟩), .int .i64 z] w fun e w' => e = .returned (.bool (decide (0 ≤ z ∧ z < C.length))) ∧ w' = w := by
  obtain ⟨vc, vd, va, D, L, h1, -⟩ := h.out.lr
  exact ris_any lo g vc vd va C D L w (Lib.hid h1) z
theorem rbreak_li (z : Int) : Calls Try.prog 37 #[.pointer (some ⟨g, 0, none⟩), .int .i64 z] w fun e w' => ∃ r, e = .returned (.bool r) ∧ Hid (Rl w' lo g C SS T) ∧ Hid (TChg lo rlts w w') := by
  obtain ⟨vc, vd, va, D, L, h1, h2, h3⟩ := h.out.lr
  refine (rbreak_any lo g vc vd va C D L w (Lib.hid h1) T (Lib.hid h2) z).mono ?_
  rintro e w' ⟨r, D', rfl, h4, h5, h6⟩
  exact ⟨r, rfl, Lib.hid (h.out.tchg h6.out (by decide) (by decide) (by decide) ⟨vc, vd, va, D', L, h4.out, h5.out, h3⟩), h6⟩
theorem rmend_li (z : Int) : Calls Try.prog 38 #[.pointer (some ⟨g, 0, none⟩), .int .i64 z] w fun e w' => ∃ r, e = .returned (.bool r) ∧ Hid (Rl w' lo g C SS T) ∧ Hid (TChg lo rlts w w') := by
  obtain ⟨vc, vd, va, D, L, h1, h2, h3⟩ := h.out.lr
  refine (rmend_any lo g vc vd va C D L w (Lib.hid h1) T (Lib.hid h2) z).mono ?_
  rintro e w' ⟨r, D', rfl, h4, h5, h6⟩
  exact ⟨r, rfl, Lib.hid (h.out.tchg h6.out (by decide) (by decide) (by decide) ⟨vc, vd, va, D', L, h4.out, h5.out, h3⟩), h6⟩
theorem rgo_li (hT : T ≤ 900) (z p : Int) : Calls Try.prog 48 #[.pointer (some ⟨g, 0, none⟩), .int .i64 z, .int .i64 p] w fun e w' => ∃ b r, e = .returned (.tuple #[.bool b, .int .i64 r]) ∧ Hid (Rl w' lo g C SS (T + 1)) ∧ Hid (TChg lo rlts w w') := by
  obtain ⟨vc, vd, va, D, L, h1, h2, h3⟩ := h.out.lr
  refine (rgo_any lo g vc vd va C D L w (Lib.hid h1) T (Lib.hid h2) (by omega) z p).mono ?_
  rintro e w' ⟨b, r, va', D', L', rfl, h4, h5, h6, h7⟩
  exact ⟨b, r, rfl, Lib.hid (h.out.tchg h7.out (by decide) (by decide) (by decide) ⟨vc, vd, va', D', L', h4.out, h6.out.more (by omega), by omega⟩), h7⟩
theorem rrot_li (i b : Nat) (hb : C[i]? = some b) (p : Int) : Calls Try.prog 44 #[.pointer (some ⟨b, 0, none⟩), .int .i64 p] w fun e w' => ∃ r SS', e = .returned (.bool r) ∧ Hid (Rl w' lo g C SS' T) ∧ Hid (TChg lo RT w w') := by
  obtain ⟨vc, vd, va, D, L, h1, h2, h3⟩ := h.out.lr
  obtain ⟨s, hs, hrt⟩ := h.out.cs hb
  refine (rrot_any lo b s p w hrt).mono ?_
  rintro e w' ⟨rfl, h4, h5, h6⟩
  exact ⟨_, _, rfl, Lib.hid (h.out.cart hb h6 h4 ⟨vc, vd, va, D, L, h1.tchg h5 (by decide), h2, h3⟩), Lib.hid h5⟩
theorem rlose_li (i b : Nat) (hb : C[i]? = some b) : Calls Try.prog 42 #[.pointer (some ⟨b, 0, none⟩)] w fun e w' => ∃ r SS', e = .returned (.bool r) ∧ Hid (Rl w' lo g C SS' T) ∧ Hid (TChg lo RT w w') := by
  obtain ⟨vc, vd, va, D, L, h1, h2, h3⟩ := h.out.lr
  obtain ⟨s, hs, hrt⟩ := h.out.cs hb
  refine (rlose_any lo b s w hrt).mono ?_
  rintro e w' ⟨rfl, h4, h5, h6⟩
  exact ⟨_, _, rfl, Lib.hid (h.out.cart hb h6 h4 ⟨vc, vd, va, D, L, h1.tchg h5 (by decide), h2, h3⟩), Lib.hid h5⟩
set_option maxHeartbeats 2000000 in
set_option maxRecDepth 10000 in
theorem rread_li (hT : T ≤ 900) (z p : Int) : Calls Try.prog 45 #[.pointer (some ⟨g, 0, none⟩), .int .i64 z, .int .i64 p] w fun e w' => ∃ x r, e = .returned (.tuple #[.string (bs x), .int .i64 r]) ∧ Hid (Rl w' lo g C SS (T + 1)) ∧ Hid (TChg lo rlts w w') := by
  have hIs := ris_li lo g C SS T w h z
  have fin : Hid (∀ r, ∃ x r', Ending.returned (.tuple #[.string { data := #[] }, .int .i64 r]) = .returned (.tuple #[.string (bs x), .int .i64 r']) ∧ Hid (Rl w lo g C SS (T + 1)) ∧ Hid (TChg lo rlts w w)) := Lib.hid (fun r => ⟨[], r, rfl, Lib.hid (h.out.gr (Below.refl _ _) (by omega)), Lib.hid (TChg.refl _ _ _)⟩)
  obtain ⟨vc, vd, va, D, L, h1, h2, h3⟩ := h.out.lr
  have hWi := Lib.hid (rwith_any lo g vc vd va C D L w (Lib.hid h1) z)
  by_cases hz : 0 ≤ z ∧ z < C.length
  · rw [decide_eq_true hz] at hIs
    replace hIs := Lib.hid hIs
    obtain ⟨i, rfl⟩ : ∃ i : Nat, z = i := ⟨z.toNat, by omega⟩
    have hi : i < C.length := by omega
    obtain ⟨b, hb⟩ : ∃ b, C[i]? = some b := ⟨_, List.getElem?_eq_getElem hi⟩
    have ii0 : (0 : Int) ≤ (i : Int) := by omega
    have ii1 : (i : Int) < (C.length : Int) := by omega
    clear hz
    replace h1 := Lib.hid h1
    go_enter Try.func45, Try.ntmps45
    go_upto_region 3 with (go_at_call 40; go_must (refine hIs.out.mono ?_); rintro e w' ⟨rfl, hee⟩; rw [hee]; clear hee)
    clear hIs
    go_wp2_with fail
    refine hWi.out.mono ?_
    clear hWi
    rintro e w' ⟨he, hee⟩
    rw [hee]
    clear hee w'
    rcases he with rfl | ⟨j, rfl, hj⟩
    · go_wp2_with fail
      go_ret2
      exact fin.out _
    · have i5 : decide ((j : Int) < 0) = false := decide_eq_false (by omega)
      obtain ⟨d, hd⟩ : ∃ d, D[j]? = some d := ⟨_, List.getElem?_eq_getElem hj⟩
      have h1c := h1.out
      obtain ⟨Ac, cc, Ad, cd, Aa, ca, rfl, rfl, rfl⟩ := h1c.form
      have c1 := blk_cell (j := 1) h1c.blk rfl
      obtain ⟨bd, rfl, -, -, hc⟩ := h1c.driveAt (by omega)
      obtain ⟨-, a1, -⟩ := hc j d hd
      have hdp := h2 d (List.mem_of_getElem? hd)
      obtain ⟨c, q, wk⟩ := d
      simp only at a1 hdp
      have i3 : (j : Int) < (D.length : Int) := by omega
      have i4 : (0 : Int) ≤ (j : Int) := by omega
      clear hc
      by_cases hq : q = p
      · subst hq
        obtain ⟨h4, t4, f4⟩ := h1c.setD (k := 1) (u := .int .i64 (q + 1)) (d' := ⟨c, q + 1, wk⟩) hd (by decide) rfl
        have hP4 : PR (T + 1) (D.set j ⟨c, q + 1, wk⟩) := (h2.more (by omega)).set (by show 0 ≤ q + 1; omega) (by show q + 1 ≤ 1024 + ((T + 1 : Nat) : Int); omega)
        have hR4 := Lib.hid (h.out.tchg (T' := T + 1) t4 (by decide) (by decide) (by decide) ⟨_, _, _, _, _, h4, hP4, by omega⟩)
        have e0 := blk_cell (j := 0) h4.blk rfl
        obtain ⟨bc, rfl, e1⟩ := h4.cartAt hb
        obtain ⟨s, -, hrt⟩ := hR4.out.cs hb
        have hrd := Lib.hid (rread_any lo b s q _ hrt)
        have hwr : IntKind.i64.wrap (q + 1) = q + 1 := by rw [IntKind.wrap_i64]; omega
        replace t4 := Lib.hid (t4.mono (Nat.le_refl _) (ts' := rlts) (by simp))
        clear h4 hrt h1c
        replace hd := Lib.hid hd
        replace hb := Lib.hid hb
        go_wp2_with (go_at_call 53; go_must (refine hrd.out.mono ?_); rintro e w' ⟨rfl, hee⟩; rw [hee]; clear hee)
        go_ret2
        exact ⟨_, _, rfl, hR4, t4⟩
      · have i6 : (q != p) = true := by simpa using hq
        replace hq := Lib.hid hq
        clear h1c
        go_wp2_with fail
        go_ret2
        exact fin.out _
  · rw [decide_eq_false hz] at hIs
    replace hIs := Lib.hid hIs
    replace hz := Lib.hid hz
    go_enter Try.func45, Try.ntmps45
    go_wp2_with (go_at_call 40; go_must (refine hIs.out.mono ?_); rintro e w' ⟨rfl, hee⟩; rw [hee]; clear hee)
    go_ret2
    exact fin.out _
end
end Go.Proofs.Ytfjhdcppehfiiaa
