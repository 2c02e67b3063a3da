/- blob: the law's own copy; groups of too many bytes; the reference's Split. -/
import Derived.Test.YtdgkcgiknfjpjaaBl4
namespace Go.Proofs.Ytdgkcgiknfjpjaa
set_option linter.unusedVariables false
set_option linter.unusedSimpArgs false
open Go Go.RowKit
set_option maxHeartbeats 4000000 in
set_option maxRecDepth 20000 in
theorem short18_any (A : Option Addr) (n c : Nat) (l : List UInt8) (most : Nat) (hm1 : 1 ≤ most) (hm : most ≤ 100000) (hl : Hid (l.length = n)) (hc : n ≤ c) (hcm : c ≤ 9223372036854775807) (w : World) (h : Hid (Rd w w.heap.size A l)) :
    Calls Try.prog 12 #[.slice A n c, .int .i64 most] w fun e w' => ∃ A' n' c', e = .returned (.slice A' n' c') ∧ Hid (OB w' w.heap.size (.slice A' n' c') (l.take most)) ∧ Hid ((l.take most).length = n') ∧ Gr w w' := by
  have ho := Lib.hid (OB.empty w w.heap.size (Nat.le_refl _))
  have hb1 := Lib.hid ((Below.refl w.heap.size w).alloc (Nat.le_refl _) (.cells #[] 5))
  by_cases hlt : most < n
  · have i1 : (most : Int) < (n : Int) := by omega
    have htl : Hid ((l.take most).length = most) := Lib.hid (by rw [List.length_take, hl.out]; omega)
    have hp : 0 < l.length := by rw [hl.out]; omega
    obtain ⟨ad, rfl, -⟩ := h.out.get (List.getElem?_eq_getElem hp)
    have hrd := Lib.hid (((h.out.take most (by rw [hl.out]; omega)).keep (fun p hp => hb1.out.cell hp)).more hb1.out.size)
    have i2 : most ≤ c := by omega
    clear hp
    go_enter Try.func12, Try.ntmps12
    go_wp2_with (at_builtin; go_must (refine wpl_append rfl (.tmp 9) (.tmp 12) rfl w.heap.size (.slice (some ⟨w.heap.size, 0, none⟩) 0 0) [] rfl ho.out _ (some ad) c (l.take most) (by rw [htl.out]; rfl) hrd.out (by rw [htl.out]; simp; omega) hb1.out.size ?_); intro v5 w5 ho5 hg5 _; have hb5 := Lib.hid (below_rowD ho.out hb1.out hb1.out.size hg5); rw [List.nil_append] at ho5; obtain ⟨A5, c5, rfl, -, -, -, -⟩ := ho5.form; rw [htl.out] at ho5 ⊢; replace ho5 := Lib.hid ho5; clear hg5)
    go_ret
    exact ⟨A5, most, c5, rfl, ho5, htl, hb5.out⟩
  · have i1 : decide ((most : Int) < (n : Int)) = false := decide_eq_false (by omega)
    have i1' : (n : Int) ≤ (most : Int) := by omega
    have htk : Hid (l.take most = l) := Lib.hid (List.take_of_length_le (by rw [hl.out]; omega))
    have hrd := Lib.hid ((h.out.keep (fun p hp => hb1.out.cell hp)).more hb1.out.size)
    have hn9 : Hid (l.length ≤ 100000) := Lib.hid (by rw [hl.out]; omega)
    go_enter Try.func12, Try.ntmps12
    go_wp2_with (at_builtin; go_must (refine wpl_append rfl (.tmp 14) (.tmp 15) rfl w.heap.size (.slice (some ⟨w.heap.size, 0, none⟩) 0 0) [] rfl ho.out _ A c l (by rw [hl.out]; rfl) hrd.out (by have := hn9.out; simp; omega) hb1.out.size ?_); intro v5 w5 ho5 hg5 _; have hb5 := Lib.hid (below_rowD ho.out hb1.out hb1.out.size hg5); rw [List.nil_append] at ho5; obtain ⟨A5, c5, rfl, -, -, -, -⟩ := ho5.form; rw [hl.out] at ho5 ⊢; replace ho5 := Lib.hid ho5; clear hg5)
    go_ret
    exact ⟨A5, n, c5, rfl, by rw [htk.out]; exact ho5, by rw [htk.out]; exact hl, hb5.out⟩
/-- a copy into nothing -/
theorem wpl_copy_zero {w : World} {ops : Array Oper} {rest : List Oper} {o : Oper} {a : Act} {Q : Exit → Act → World → Prop} (hgd : o.guard = none) (d s : Operand)
    (ho : o.op = .call { callee := .builtin .copy, args := #[d, s], argTypes := #[22, 22] })
    (base g n : Nat) (hown : OB w base (.slice (some ⟨g, 0, none⟩) 0 0) []) (A : Option Addr) (c : Nat)
    (hd : a.eval d = .slice (some ⟨g, 0, none⟩) 0 0) (hs : a.eval s = .slice A n c)
    (h : ∀ w', OB w' base (.slice (some ⟨g, 0, none⟩) 0 0) [] → Below base w w' → wpList Try.prog ops Q rest (a.put o.dst (goInt 0)) w') : wpList Try.prog ops Q (o :: rest) a w := by
  rcases hown.2 with ⟨hv, hz⟩ | ⟨g', cap, cur, hv, hb, hh, hnc, hcm, hcs, ht⟩
  · injection hv with h1; cases h1
  · injection hv with h1 h2 h3
    injection h1 with h1
    injection h1 with h1
    subst h1
    refine wpList_copy_splice hgd d s 22 22 ho 5 Try.underlying22 info8s (some ⟨g, 0, none⟩) A 0 0 n c hd hs g 0 cur.toList 5 (by simpa using hh) [] (by simp)
      (fun hp => absurd hp (by simp)) (by simp) (fun v hv => by cases hv) base w (Below.refl _ _) hb (fun w' hw hb' => ?_)
    refine h w' ?_ hb'
    have hsp : splice cur.toList 0 [] = cur.toList := by unfold splice; simp
    have hw := hw.out
    rw [hsp] at hw
    exact ⟨hown.1, .inr ⟨g, cap, cur, by rw [← h3]; rfl, hb, by simpa using hw, hnc, hcm, hcs, ht⟩⟩
set_option maxHeartbeats 4000000 in
set_option maxRecDepth 20000 in
theorem bsplit_big (A : Option Addr) (n c : Nat) (hn5 : 512 < n) (hnm : n ≤ 100000) (w : World) :
    Calls Try.prog 17 #[.slice A n c] w fun e w' => ∃ u, e = .returned u ∧ Tbl [] u w' ∧ Gr w w' := by
  have hg : groupsOf (n : Int) = 0 := by
    unfold groupsOf inB
    rw [if_neg (by simp; omega)]
  have hbg := bgroups_any (n : Int) ⟨by omega, by omega⟩ w
  rw [hg] at hbg
  have hgrp : Calls Try.prog 41 #[.slice A n c] w fun e w' => ∃ P s, e = .returned (.func (.func 91) #[] #[.pointer (some ⟨s, 0, none⟩), .pointer (some ⟨s + 1, 0, none⟩)]) ∧
      w'.cell? ⟨s, 0, none⟩ = some (.slice (some ⟨P, 0, none⟩) 0 0) ∧ w'.cell? ⟨s + 1, 0, none⟩ = some (.int .i64 128) ∧ w'.heap.size = s + 2 ∧ Gr w w' := by
    replace hbg := Lib.hid hbg
    clear hg
    go_enter Try.func41, Try.ntmps41
    go_wp2_with fail
    refine hbg.out.mono ?_
    clear hbg
    rintro e w1 ⟨rfl, hw1⟩
    rw [hw1]
    clear hw1
    go_wp2_with (first
      | (refine wpl_make rfl (.tmp 7) (.tmp 7) rfl w.heap.size 0 rfl rfl (by omega) (Nat.le_refl _) ?_; intro w1 hown1 hb1; replace hown1 : OB w1 w.heap.size (.slice (some ⟨w.heap.size, 0, none⟩) 0 0) [] := hown1)
      | (with_reducible refine wpl_copy_zero rfl (.tmp 9) (.tmp 10) rfl w.heap.size w.heap.size n hown1 A c rfl rfl ?_; intro w2 hown2 hb2))
    have hgr2 := hb1.trans hb2
    refine (chunk_any (some ⟨w.heap.size, 0, none⟩) 0 0 128 (by decide) w2).mono ?_
    rintro e w3 ⟨rfl, rfl⟩
    have hc0 : ((w2.alloc (.cells #[.slice (some ⟨w.heap.size, 0, none⟩) 0 0] 22)).alloc (.cells #[.int .i64 128] 3)).cell? ⟨w2.heap.size, 0, none⟩ = some (.slice (some ⟨w.heap.size, 0, none⟩) 0 0) :=
      ((((Below.refl _ (w2.alloc (.cells #[.slice (some ⟨w.heap.size, 0, none⟩) 0 0] 22))).alloc (Nat.le_refl _) (.cells #[.int .i64 128] 3))).cell (p := ⟨w2.heap.size, 0, none⟩) (by simp)).trans (blk_cell (heap_alloc_new w2 _) rfl)
    have hc1 : ((w2.alloc (.cells #[.slice (some ⟨w.heap.size, 0, none⟩) 0 0] 22)).alloc (.cells #[.int .i64 128] 3)).cell? ⟨w2.heap.size + 1, 0, none⟩ = some (.int .i64 128) := by
      have h1 := blk_cell (j := 0) (v := .int .i64 128) (heap_alloc_new (w2.alloc (.cells #[.slice (some ⟨w.heap.size, 0, none⟩) 0 0] 22)) (.cells #[.int .i64 128] 3)) rfl
      rw [World.size_alloc] at h1
      exact h1
    have hgf : Gr w ((w2.alloc (.cells #[.slice (some ⟨w.heap.size, 0, none⟩) 0 0] 22)).alloc (.cells #[.int .i64 128] 3)) := (hgr2.alloc hgr2.size _).alloc (by have := hgr2.size; simp; omega) _
    replace hc0 := Lib.hid hc0
    replace hc1 := Lib.hid hc1
    replace hgf := Lib.hid hgf
    clear hown1 hown2 hb1 hb2 hgr2
    go_wp2_with fail
    go_ret
    exact ⟨w.heap.size, w2.heap.size, rfl, hc0.out, hc1.out, by simp, hgf.out⟩
  replace hgrp := Lib.hid hgrp
  clear hbg hg
  go_enter Try.func17, Try.ntmps17
  go_wp2_with fail
  refine hgrp.out.mono ?_
  clear hgrp
  rintro e w1 ⟨P, s, rfl, c0, c1, hsz, hgr⟩
  have hco := Lib.hid (collect_any s (s + 1) P 0 0 0 128 (by decide) 0 rfl (by omega) (Nat.le_refl _) (by simp only [maxLen]; omega) w1 (by omega) (by omega) c0 c1)
  replace hgr := Lib.hid hgr
  replace hsz := Lib.hid hsz
  clear c0 c1
  go_wp2_with fail
  refine hco.out.mono ?_
  clear hco
  rintro e w2 ⟨u, rfl, hrow, hb2⟩
  have hT : Tbl [] u w2 := by
    obtain ⟨A', c', rfl, h1, h2⟩ := row_form hrow
    exact ⟨A', c', rfl, h1, h2, rfl, fun hn => absurd hn (by simp)⟩
  replace hT := Lib.hid hT
  have hgf := Lib.hid (hgr.out.trans hb2)
  clear hrow hb2
  go_wp2_with fail
  go_ret
  exact ⟨u, rfl, hT.out, hgf.out⟩
end Go.Proofs.Ytdgkcgiknfjpjaa
