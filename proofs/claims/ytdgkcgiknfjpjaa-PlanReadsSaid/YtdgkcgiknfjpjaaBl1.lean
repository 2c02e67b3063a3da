/- blob: groups, Split. -/
import Derived.Test.YtdgkcgiknfjpjaaJnA
import Derived.Test.YtdgkcgiknfjpjaaChS
import Derived.RangeFuncCalls
namespace Go.Proofs.Ytdgkcgiknfjpjaa
set_option linter.unusedVariables false
set_option linter.unusedSimpArgs false
open Go Go.RowKit
/-- a copy into the front of a slice -/
theorem wpl_copy_into {w : World} {ops : Array Oper} {rest : List Oper} {o : Oper} {a : Act} {Q : Exit → Act → World → Prop} (hgd : o.guard = none) (d s : Operand)
    (ho : o.op = .call { callee := .builtin .copy, args := #[d, s], argTypes := #[22, 22] })
    (base g n N : Nat) (zs : List UInt8) (hown : OB w base (.slice (some ⟨g, 0, none⟩) N N) zs) (hnN : n ≤ N) (B : Nat) (A : Option Addr) (c : Nat) (l : List UInt8) (hn : l.length = n)
    (hd : a.eval d = .slice (some ⟨g, 0, none⟩) N N) (hs : a.eval s = .slice A n c) (hr : Rd w B A l)
    (h : ∀ w', OB w' base (.slice (some ⟨g, 0, none⟩) N N) (l ++ zs.drop n) → Below base w w' → wpList Try.prog ops Q rest (a.put o.dst (goInt n)) w') : wpList Try.prog ops Q (o :: rest) a w := by
  rcases hown.2 with ⟨hv, hz⟩ | ⟨g', cap, cur, hv, hb, hh, hnc, hcm, hcs, ht⟩
  · injection hv with h1; cases h1
  · injection hv with h1 h2 h3
    injection h1 with h1
    injection h1 with h1
    subst h1
    subst h3
    have hlen : (l.map vb).length = n := by simp [hn]
    have hcl : cur.toList.length = N := by rw [Array.length_toList, hcs]; omega
    have hcz : cur.toList = zs.map vb := by
      rw [← ht, List.take_of_length_le (by omega)]
    have hzl : zs.length = N := by
      have := congrArg List.length hcz
      rw [hcl, List.length_map] at this
      exact this.symm
    refine wpList_copy_splice hgd d s 22 22 ho 5 Try.underlying22 info8s (some ⟨g, 0, none⟩) A N N n c hd hs g 0 cur.toList 5 (by simpa using hh) (l.map vb) (by rw [hlen]; first | exact (Nat.min_eq_right hnN).symm | exact (Nat.min_eq_left hnN).symm)
      (fun hp => ?_) (by rw [hlen]; omega) (vb_one l) base w (Below.refl _ _) hb (fun w' hw hb' => ?_)
    · rw [hlen] at hp
      obtain ⟨ad, e, _, hc⟩ := hr.2 (by omega)
      exact ⟨rfl, ad, e, hc⟩
    · rw [hlen]
      refine h w' ?_ hb'
      have hsp : splice cur.toList 0 (l.map vb) = (l ++ zs.drop n).map vb := by
        unfold splice
        rw [List.take_zero, List.nil_append, Nat.zero_add, hlen, hcz, List.map_append, List.map_drop]
      have hw := hw.out
      rw [hsp] at hw
      have hl2 : (l ++ zs.drop n).length = N := by rw [List.length_append, List.length_drop, hn, hzl]; omega
      exact ⟨by simp, .inr ⟨g, N, ((l ++ zs.drop n).map vb).toArray, by rw [hl2], hb, hw, by omega, hcm, by rw [List.size_toArray, List.length_map, hl2]; omega, by rw [List.take_of_length_le (by rw [List.length_map]; omega)]⟩⟩
/-- bytes padded to q groups -/
def padD (l : List UInt8) (q : Nat) : List UInt8 := l ++ List.replicate (q * 128 - l.length) 0
theorem padD_len {l : List UInt8} {q : Nat} (h : l.length ≤ q * 128) : (padD l q).length = q * 128 := by unfold padD; rw [List.length_append, List.length_replicate]; omega
def ngrp (n : Nat) : Nat := (groupsOf (n : Int)).toNat
theorem ngrp_spec {n : Nat} (h : n ≤ 512) : groupsOf (n : Int) = (ngrp n : Int) ∧ 1 ≤ ngrp n ∧ ngrp n ≤ 4 ∧ n ≤ ngrp n * 128 := by
  unfold ngrp groupsOf
  have h1 : inB (n : Int) 0 512 = true := by unfold inB; simp; omega
  rw [if_pos h1]
  omega
theorem OB.alloc2 {w : World} {base : Nat} {v : Value} {l : List UInt8} (h : OB w base v l) (o : Obj) : OB (w.alloc o) base v l := row_below h ((Below.refl _ w).alloc (Nat.le_refl _) o)
def GrpPost (l : List UInt8) (q : Nat) (w : World) (e : Ending) (w' : World) : Prop :=
  ∃ P s, e = .returned (.func (.func 91) #[] #[.pointer (some ⟨s, 0, none⟩), .pointer (some ⟨s + 1, 0, none⟩)]) ∧ OB w' w.heap.size (.slice (some ⟨P, 0, none⟩) (q * 128) (q * 128)) (padD l q) ∧
    w'.cell? ⟨s, 0, none⟩ = some (.slice (some ⟨P, 0, none⟩) (q * 128) (q * 128)) ∧ w'.cell? ⟨s + 1, 0, none⟩ = some (.int .i64 128) ∧ w'.heap.size = s + 2 ∧ w.heap.size ≤ P ∧ P < s ∧ Gr w w'
set_option maxHeartbeats 4000000 in
set_option maxRecDepth 20000 in
theorem bgrp_any (A : Option Addr) (n c : Nat) (l : List UInt8) (hn : l.length = n) (hn5 : n ≤ 512) (w : World) (hr : Rd w w.heap.size A l) :
    Calls Try.prog 41 #[.slice A n c] w (GrpPost l (ngrp n) w) := by
  obtain ⟨hg, hq1, hq4, hqn⟩ := ngrp_spec hn5
  have hbg := bgroups_any (n : Int) ⟨by omega, by omega⟩ w
  rw [hg] at hbg
  obtain ⟨q, hq⟩ : ∃ q, ngrp n = q := ⟨_, rfl⟩
  rw [hq] at hbg hq1 hq4 hqn ⊢
  have hw : IntKind.i64.wrap ((q : Int) * 128) = ((q * 128 : Nat) : Int) := by rw [IntKind.wrap_i64]; omega
  obtain ⟨Q, hQ⟩ : ∃ Q, q * 128 = Q := ⟨_, rfl⟩
  rw [hQ] at hw hqn
  replace hbg := Lib.hid hbg
  replace hr := Lib.hid hr
  replace hn := Lib.hid hn
  replace hQ := Lib.hid hQ
  replace hq := Lib.hid hq
  have hQ5 : Q ≤ 512 := by have := hQ.out; omega
  clear hg
  go_enter Try.func41, Try.ntmps41
  go_wp2_with fail
  refine hbg.out.mono ?_
  clear hbg
  rintro e w1 ⟨rfl, hw1⟩
  rw [hw1]
  clear hw1
  go_wp2_with (first
    | (refine wpl_make rfl (.tmp 7) (.tmp 7) rfl w.heap.size Q rfl rfl (by omega) (Nat.le_refl _) ?_; intro w1 hown1 hb1)
    | (with_reducible refine wpl_copy_into rfl (.tmp 9) (.tmp 10) rfl w.heap.size w.heap.size n Q _ hown1 hqn w1.heap.size A c l hn.out rfl rfl (hr.out.up hb1) ?_; intro w2 hown2 hb2))
  have hlt : w.heap.size < w2.heap.size := (hown2.lt w.heap.size rfl).2
  have hpd : l ++ (List.replicate Q 0).drop n = padD l q := by
    unfold padD
    rw [List.drop_replicate, hn.out, hQ.out]
  rw [hpd] at hown2
  have hgr2 := hb1.trans hb2
  refine (chunk_any (some ⟨w.heap.size, 0, none⟩) Q Q 128 (by decide) w2).mono ?_
  rintro e w3 ⟨rfl, rfl⟩
  have hga := (Below.refl w2.heap.size w2).alloc (Nat.le_refl _) (.cells #[.slice (some ⟨w.heap.size, 0, none⟩) Q Q] 22)
  have h1 := (hown2.alloc2 (.cells #[.slice (some ⟨w.heap.size, 0, none⟩) Q Q] 22)).alloc2 (.cells #[.int .i64 128] 3)
  have hc0 : ((w2.alloc (.cells #[.slice (some ⟨w.heap.size, 0, none⟩) Q Q] 22)).alloc (.cells #[.int .i64 128] 3)).cell? ⟨w2.heap.size, 0, none⟩ = some (.slice (some ⟨w.heap.size, 0, none⟩) Q Q) :=
    ((((Below.refl _ (w2.alloc (.cells #[.slice (some ⟨w.heap.size, 0, none⟩) Q Q] 22))).alloc (Nat.le_refl _) (.cells #[.int .i64 128] 3))).cell (p := ⟨w2.heap.size, 0, none⟩) (by simp)).trans (blk_cell (heap_alloc_new w2 _) rfl)
  have hc1 : ((w2.alloc (.cells #[.slice (some ⟨w.heap.size, 0, none⟩) Q Q] 22)).alloc (.cells #[.int .i64 128] 3)).cell? ⟨w2.heap.size + 1, 0, none⟩ = some (.int .i64 128) := by
    have h1 := blk_cell (j := 0) (v := .int .i64 128) (heap_alloc_new (w2.alloc (.cells #[.slice (some ⟨w.heap.size, 0, none⟩) Q Q] 22)) (.cells #[.int .i64 128] 3)) rfl
    rw [World.size_alloc] at h1
    exact h1
  have hgf : Gr w ((w2.alloc (.cells #[.slice (some ⟨w.heap.size, 0, none⟩) Q Q] 22)).alloc (.cells #[.int .i64 128] 3)) := (hgr2.alloc hgr2.size _).alloc (by have := hgr2.size; simp; omega) _
  replace h1 := Lib.hid h1
  replace hc0 := Lib.hid hc0
  replace hc1 := Lib.hid hc1
  replace hgf := Lib.hid hgf
  clear hown1 hown2 hb1 hb2 hga hgr2
  go_wp2_with fail
  go_ret
  unfold GrpPost
  rw [hQ.out]
  exact ⟨w.heap.size, w2.heap.size, rfl, h1.out, hc0.out, hc1.out, by simp, Nat.le_refl _, hlt, hgf.out⟩
/-- the groups of bytes -/
def splD (l : List UInt8) : List (List UInt8) := tabM (ngrp l.length) 128 (partM 128 (padD l (ngrp l.length)))
theorem OB.cells_at {w : World} {base P n : Nat} {l : List UInt8} (h : OB w base (.slice (some ⟨P, 0, none⟩) n n) l) (hl : 0 < l.length) : P < w.heap.size ∧ ∀ (j : Nat) (u : UInt8), l[j]? = some u → w.cell? ⟨P, 0 + j, none⟩ = some (.int .u8 (U u)) := by
  obtain ⟨A, c, e, -, -, hr, -⟩ := h.form
  injection e with e _ _
  subst e
  obtain ⟨b, o, e, hb, hc⟩ := rd_flat hr hl
  injection e with e
  injection e with e1 e2 _
  subst e1
  subst e2
  exact ⟨hb, hc⟩
set_option maxHeartbeats 4000000 in
set_option maxRecDepth 20000 in
theorem bsplit_any (A : Option Addr) (n c : Nat) (l : List UInt8) (hn : l.length = n) (hn5 : n ≤ 512) (w : World) (hr : Rd w w.heap.size A l) :
    Calls Try.prog 17 #[.slice A n c] w fun e w' => ∃ u, e = .returned u ∧ Tbl (splD l) u w' ∧ Gr w w' := by
  have hg := Lib.hid (bgrp_any A n c l hn hn5 w hr)
  obtain ⟨-, hq1, hq4, hqn⟩ := ngrp_spec hn5
  have hpl : (padD l (ngrp n)).length = ngrp n * 128 := padD_len (by rw [hn]; exact hqn)
  have hsp : Hid (splD l = tabM (ngrp n) 128 (partM 128 (padD l (ngrp n)))) := Lib.hid (by unfold splD; rw [hn])
  obtain ⟨q, hq⟩ : ∃ q, ngrp n = q := ⟨_, rfl⟩
  rw [hq] at hg hq1 hq4 hqn hpl hsp
  replace hq := Lib.hid hq
  clear hr
  replace hn := Lib.hid hn
  go_enter Try.func17, Try.ntmps17
  go_wp2_with fail
  refine hg.out.mono ?_
  clear hg
  rintro e w1 ⟨P, s, rfl, ho, c0, c1, hsz, hP, hPs, hgr⟩
  have hco := Lib.hid (collect_any s (s + 1) P 0 (q * 128) q 128 (by decide) (q * 128) rfl (by omega) (Nat.le_refl _) (by simp only [maxLen]; omega) w1 (by omega) (by omega) c0 c1)
  obtain ⟨hPl, hcells⟩ := ho.cells_at (by rw [hpl]; omega)
  replace hcells := Lib.hid hcells
  replace hgr := Lib.hid hgr
  replace hpl := Lib.hid hpl
  replace hsz := Lib.hid hsz
  clear ho c0 c1
  go_wp2_with fail
  refine hco.out.mono ?_
  clear hco
  rintro e w2 ⟨u, rfl, hrow, hb2⟩
  have hT := chunks_tbl (l := padD l q) (m := 128) (q := q) (B := w1.heap.size) (b := P) (o := 0) hb2.size hPl (by omega) (by decide) (fun j u hu => (hb2.cell (p := ⟨P, 0 + j, none⟩) hPl).trans (hcells.out j u hu)) hpl.out hrow
  replace hT := Lib.hid hT
  have hgf := Lib.hid (hgr.out.trans hb2)
  clear hrow hb2
  go_wp2_with fail
  go_ret
  exact ⟨u, rfl, by rw [hsp.out]; exact hT.out, hgf.out⟩
end Go.Proofs.Ytdgkcgiknfjpjaa
