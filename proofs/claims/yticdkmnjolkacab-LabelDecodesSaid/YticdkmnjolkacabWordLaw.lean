/- The laws of word: the fixed fact, and readers beside each other. -/
import Derived.Test.YticdkmnjolkacabWordRef2
namespace Go.Proofs.Yticdkmnjolkacab
set_option linter.unusedVariables false
open Go Go.RowKit

theorem Rdr.heapAt {w : World} {g : Nat} {st : RS} (h : Rdr w g st) : ∃ A n c b, w.heap[g]? = some (.cells #[.slice A n c, .bool b] 54 (0, 0)) := by
  cases st with
  | none => exact ⟨_, _, _, _, h⟩
  | some l => obtain ⟨A, c, h1, _⟩ := h; exact ⟨_, _, _, _, h1⟩
theorem not_int_at {w : World} {g : Nat} {st : RS} (h : Rdr w g st) {p : Addr} {x : Int} (hc : w.cell? p = some (.int .u8 x)) : p.block ≠ g := by
  intro e
  obtain ⟨A, n, c, b, hh⟩ := h.heapAt
  unfold World.cell? at hc
  rw [e, hh] at hc
  simp only at hc
  split at hc
  · cases hc
  · rcases ho : p.off with _ | _ | k
    · rw [ho] at hc; simp at hc
    · rw [ho] at hc; simp at hc
    · rw [ho] at hc; simp at hc
theorem Rd.other {w w' : World} {g B : Nat} {st : RS} {A : Option Addr} {l : List UInt8} (h : Rdr w g st) (hr : Rd w B A l) (hB : B ≤ w.heap.size) (hg : w.grownBy w' (some g)) : Rd w' B A l := by
  refine ⟨hr.1, fun hn => ?_⟩
  obtain ⟨ad, rfl, hb, hcell⟩ := hr.2 hn
  refine ⟨ad, rfl, hb, fun j u hu => ?_⟩
  have h1 := hcell j u hu
  rw [← h1]
  refine World.cell?_of_block ?_
  have hne : (ad.add j).block ≠ g := by
    rw [List.getElem?_map, Option.map_eq_some_iff] at hu
    obtain ⟨x, -, rfl⟩ := hu
    exact not_int_at h h1
  rw [block_of_add] at hne ⊢
  obtain ⟨_, _, _, _, hk⟩ := hg
  exact hk _ (by omega) (fun e => hne (by injection e))
theorem Rdr.other {w w' : World} {g g2 : Nat} {st st2 : RS} (h : Rdr w g st) (h2 : Rdr w g2 st2) (hne : g ≠ g2) (hg : w.grownBy w' (some g)) : Rdr w' g2 st2 := by
  have hlt := h2.lt
  have hgk := hg
  obtain ⟨_, _, _, _, hk⟩ := hgk
  have hh := hk g2 hlt (fun e => hne (by injection e with e; exact e.symm))
  cases st2 with
  | none => exact hh.trans h2
  | some l =>
    obtain ⟨A, c, h3, h4, h5, h6⟩ := h2
    exact ⟨A, c, hh.trans h3, h4, h5, h6.other h (by omega) hg⟩
theorem Rdr.below' {w w' : World} {g : Nat} {st : RS} (h : Rdr w g st) (hb : Below w.heap.size w w') : Rdr w' g st := h.below hb h.lt
theorem below_grown {B g : Nat} {w0 w w' : World} (hb : Below B w0 w) (hB : B ≤ w.heap.size) (hg : w.grownBy w' (some g)) (hBg : B ≤ g) : Below B w0 w' :=
  hb.grown hg hB (fun k hk => by injection hk with hk; omega)
theorem grown_size {g : Nat} {w w' : World} (hg : w.grownBy w' (some g)) : w.heap.size ≤ w'.heap.size := by
  obtain ⟨_, _, _, h, _⟩ := hg
  exact h
theorem enc300 : enc 300 = [172, 2] := by decide +kernel
theorem rget300 : rget (some [172, 2, 2, 97, 98]) 300 = (300, some [2, 97, 98]) := by decide +kernel
theorem rtext2 : rtext (some [2, 97, 98]) 2 = ([97, 98], some []) := by decide +kernel
theorem rgetbad : rget (some [128, 0]) 9 = (0, none) := by decide +kernel
set_option maxHeartbeats 400000 in
set_option maxRecDepth 10000 in
theorem awake_any (w : World) :
    Calls Try.prog 16 #[] w fun e w' => e = .returned (.bool true) ∧ Below w.heap.size w w' := by
  go_enter Try.func16, Try.ntmps16
  go_wp2_with fail
  refine (put_any none 0 0 [] rfl 300 (by decide) (by decide) (by decide) _ Rd.nil_).mono ?_
  rintro e w1 ⟨v1, rfl, ho1, hb1⟩
  rw [show [] ++ enc (300 : Int).toNat = [172, 2] from enc300] at ho1
  obtain ⟨A1, c1, rfl, hc1, -, hR1, -⟩ := ho1.form
  replace hR1 := Lib.hid hR1
  clear ho1
  go_wp2_with fail
  refine (text_any A1 2 c1 [172, 2] rfl [97, 98] (by decide) _ hR1.out).mono ?_
  rintro e w2 ⟨v2, rfl, ho2, hb2⟩
  replace hb2 := hb1.trans (hb2.mono hb1.size)
  clear hb1 hR1
  rw [show ([172, 2] ++ enc ([97, 98] : List UInt8).length) ++ [97, 98] = [172, 2, 2, 97, 98] by decide +kernel] at ho2
  obtain ⟨A2, c2, rfl, hc2, -, hR2, -⟩ := ho2.form
  clear ho2
  replace hR2 := Lib.hid hR2
  go_wp2_with fail
  refine (new_any A2 5 c2 [172, 2, 2, 97, 98] rfl (by decide) _ hR2.out).mono ?_
  rintro e w3 ⟨g, rfl, hg, hr1, hb3⟩
  replace hR2 := Lib.hid (hR2.out.up hb3)
  replace hb3 := hb2.trans (hb3.mono hb2.size)
  have hz2 := hb2.size
  clear hb2
  replace hr1 := Lib.hid hr1
  go_wp2_with fail
  refine (new_any (some ⟨w3.heap.size, 0, none⟩) 2 2 [128, 0] rfl (by decide) _ (Rd.lit _ _ _ _ rfl _ (by simp))).mono ?_
  rintro e w4 ⟨g2, rfl, hg2, hr2, hb4⟩
  have hsz3 : (w3.alloc (.cells #[.int .u8 128, .int .u8 0] 5)).heap.size = w3.heap.size + 1 := by simp
  have hg12 : g ≠ g2 := by
    have h1 := hr1.out.lt
    have h2 : w3.heap.size + 1 ≤ g2 := by rw [← hsz3]; exact hg2
    omega
  have hb34 : Below w3.heap.size w3 w4 := ((Below.refl w3.heap.size w3).alloc (Nat.le_refl _) _).trans (hb4.mono (by simp))
  replace hr1 := Lib.hid (hr1.out.below' hb34)
  replace hR2 := Lib.hid (hR2.out.up hb34)
  have hz3 := hb3.size
  have hg2' : w.heap.size ≤ g2 := by
    have h2 : w3.heap.size + 1 ≤ g2 := by rw [← hsz3]; exact hg2
    omega
  replace hb3 := hb3.trans (hb34.mono hz3)
  clear hb4 hsz3 hg2
  have hgw : w.heap.size ≤ g := by omega
  replace hr2 := Lib.hid hr2
  replace hb3 := Lib.hid (hb3.alloc hb3.size (.cells #[.int .u8 172, .int .u8 2, .int .u8 2, .int .u8 97, .int .u8 98] 5))
  have hcv1 : (convert 24 9 (.slice A2 5 c2)).run Try.prog w4 = .ok (.string (bs [172, 2, 2, 97, 98])) w4 := run_str_at c2 hR2.out rfl
  have hcv2 : (convert 24 9 (.slice (some ⟨w4.heap.size, 0, none⟩) 5 5)).run Try.prog (w4.alloc (.cells #[.int .u8 172, .int .u8 2, .int .u8 2, .int .u8 97, .int .u8 98] 5)) = .ok (.string (bs [172, 2, 2, 97, 98])) (w4.alloc (.cells #[.int .u8 172, .int .u8 2, .int .u8 2, .int .u8 97, .int .u8 98] 5)) :=
    run_str_at 5 (Rd.lit w4 _ _ _ rfl _ (Nat.lt_succ_self _)) rfl
  replace hr1 := Lib.hid (hr1.out.below' ((Below.refl w4.heap.size w4).alloc (Nat.le_refl _) (.cells #[.int .u8 172, .int .u8 2, .int .u8 2, .int .u8 97, .int .u8 98] 5)))
  replace hr2 := Lib.hid (hr2.out.below' ((Below.refl w4.heap.size w4).alloc (Nat.le_refl _) (.cells #[.int .u8 172, .int .u8 2, .int .u8 2, .int .u8 97, .int .u8 98] 5)))
  go_wp2_with fail
  have hz4 := hb3.out.size
  refine (get_any g _ 300 (by decide) (by decide) _ hr1.out (fun l e => by injection e with e; subst e; decide)).mono ?_
  rw [rget300]
  rintro e w5 ⟨rfl, hs1, hgr⟩
  replace hr2 := Lib.hid (hr1.out.other hr2.out hg12 hgr)
  replace hb3 := Lib.hid (below_grown hb3.out hz4 hgr hgw)
  replace hr1 := Lib.hid hs1
  clear hcv1 hcv2 hgr hs1 hR2 hz4
  have hz4 := hb3.out.size
  go_wp2_with fail
  refine (rtext_any g _ 2 (by decide) (by decide) _ hr1.out (fun l e => by injection e with e; subst e; decide)).mono ?_
  rw [rtext2]
  rintro e w6 ⟨rfl, hs1, hgr⟩
  replace hr2 := Lib.hid (hr1.out.other hr2.out hg12 hgr)
  replace hb3 := Lib.hid (below_grown hb3.out hz4 hgr hgw)
  replace hr1 := Lib.hid hs1
  clear hgr hs1 hz4
  have hz4 := hb3.out.size
  go_wp2_with fail
  refine (end_any g _ _ hr1.out).mono ?_
  rintro e w7 ⟨rfl, rfl⟩
  go_wp2_with fail
  refine (get_any g2 _ 9 (by decide) (by decide) _ hr2.out (fun l e => by injection e with e; subst e; decide)).mono ?_
  rw [rgetbad]
  rintro e w7 ⟨rfl, hs1, hgr⟩
  replace hb3 := Lib.hid (below_grown hb3.out hz4 hgr hg2')
  replace hr2 := Lib.hid hs1
  clear hgr hs1 hz4
  go_wp2_with fail
  refine (end_any g2 _ _ hr2.out).mono ?_
  rintro e w8 ⟨rfl, rfl⟩
  go_wp2_with fail
  go_ret
  exact ⟨rfl, hb3.out⟩
end Go.Proofs.Yticdkmnjolkacab
