/- cat: copies of places; what is had; an entry. -/
import Derived.Test.YthboeoidgglcgaaCt6
import Derived.Test.YthboeoidgglcgaaOsB
namespace Go.Proofs.Ythboeoidgglcgaa
set_option linter.unusedVariables false
set_option linter.unusedSimpArgs false
open Go Go.RowKit Go.Maps
theorem Pls.nilA {l : List (Int × Int)} {n c : Nat} {w : World} (h : Pls l (.slice none n c) w) : l = [] := by
  obtain ⟨A', c', e, -, -, h3, -⟩ := h
  injection e with e1 e2 e3
  rcases Nat.eq_zero_or_pos l.length with h0 | h0
  · exact List.eq_nil_of_length_eq_zero h0
  · obtain ⟨b, o, e, -⟩ := h3 h0
    rw [← e1] at e; cases e
theorem Pls.ln {l : List (Int × Int)} {A : Option Addr} {n c : Nat} {w : World} (h : Pls l (.slice A n c) w) : l.length = n := by
  obtain ⟨A', c', e, -⟩ := h
  injection e with e1 e2 e3
  exact e2.symm
set_option maxRecDepth 10000 in
theorem clonePl_any (A : Option Addr) (n c : Nat) (l : List (Int × Int)) (hl : n ≤ 1000000) (w : World) (h : Pls l (.slice A n c) w) :
    Calls Try.prog 45 #[.slice A n c] w fun e w' => ∃ A' c', e = .returned (.slice A' n c') ∧ OP l (.slice A' n c') w.heap.size w' ∧ Gr w w' := by
  have hn := h.ln
  rcases A with _ | ad
  · have hl0 := h.nilA
    subst hl0
    obtain rfl : n = 0 := hn.symm
    have hnil := fun w => Lib.run_eql_slice_nil (P := Try.prog) w 30 54 none 0 c 0 0 Try.underlying30
    replace h := Lib.hid h
    go_enter Try.func45, Try.ntmps45
    go_wp2
    go_ret
    exact ⟨_, _, rfl, OP.nil_ _ _, Gr.refl _⟩
  · have ho := Lib.hid (OP.empty w w.heap.size (Nat.le_refl _))
    have hga := Gr.alloc w (.cells #[] 54)
    have hrw := Pls.gr hga (Lib.hid h)
    replace hga := Lib.hid hga
    replace h := Lib.hid h
    replace hn := Lib.hid hn
    have hnil := fun w => Lib.run_eql_slice_nil (P := Try.prog) w 30 54 (some ad) n c 0 0 Try.underlying30
    go_enter Try.func45, Try.ntmps45
    go_wp2_with (at_builtin; go_must (refine wpl_appP rfl (.tmp 5) (.tmp 6) rfl w.heap.size (.slice (some ⟨w.heap.size, 0, none⟩) 0 0) (.slice (some ad) n c) [] l rfl ho.out rfl hrw.out (by have := hn.out; simp; omega) (by simp) ?_); intro v1 w1 hown1 hg1 _; rw [List.nil_append] at hown1; obtain ⟨A1, c1, rfl, -, -⟩ := hown1.form; rw [hn.out] at hown1 ⊢)
    go_ret
    exact ⟨A1, c1, rfl, hown1, Below.grown hga.out hg1 (by simp) ho.out.up⟩
def enZ : EnP := ⟨[], 0, 0, [], []⟩
def entOf (c : CtP) (k : By) : EnP := getP c.E k enZ
theorem Ca.entV {w : World} {lo g t : Nat} {x : CtX} {c : CtP} (h : Ca w lo g x c t) (k : By) : ∃ A cc, getP (eM x.E) k entZ = (Et.mk (entOf c k) A cc).agg ∧ Pls (entOf c k).places (.slice A (entOf c k).places.length cc) w ∧ (entOf c k).places.length ≤ 40 := by
  cases hh : hasP c.E k with
  | false =>
    refine ⟨none, 0, ?_, ?_, ?_⟩
    · unfold entOf
      rw [getP_no hh, getP_no (by rw [h.hasE]; exact hh)]
      rfl
    · unfold entOf
      rw [getP_no hh]
      exact Pls.nil_ _ _ _ (Nat.zero_le _)
    · unfold entOf
      rw [getP_no hh]
      exact Nat.zero_le _
  | true =>
    obtain ⟨e, he⟩ := hasP_mem hh
    have h1 : entOf c k = e := getP_mem h.ok.rE.dist he _
    have he2 := he
    rw [h.ec] at he2
    obtain ⟨q, hq, e1⟩ := List.mem_map.mp he2
    injection e1 with e1 e2
    have hm : (k, q.agg) ∈ eM x.E := List.mem_map.mpr ⟨q, hq, by rw [e1]⟩
    rw [h1, getP_mem h.me.dist hm]
    have hop := h.ep q hq
    rw [e2] at hop
    refine ⟨q.A, q.c, ?_, ?_, ?_⟩
    · rw [← e2]
    · have := hop.pls
      unfold Et.v at this
      rw [e2] at this
      exact this
    · obtain ⟨-, -, -, -, -, h6⟩ := h.ok.okE _ he
      have := grp_le e.size
      simp only at h6
      omega
section
variable (lo g t : Nat) (x : CtX) (c : CtP) (w : World) (h : Hid (Ca w lo g x c t))
include h
set_option maxRecDepth 10000 in
set_option maxHeartbeats 1000000 in
theorem has_any (ht : t ≤ 1000) (k : By) (hk : k.length ≤ maxLen) : Calls Try.prog 22 #[.pointer (some ⟨g, 0, none⟩), .string (bs k)] w fun e w' => e = .returned (.bool (c.has k)) ∧ Gr w w' := by
  have c1 := blk_cell (j := 1) h.out.blk rfl
  have hlk := h.out.me.look lawS Try.underlying59 zeroE (keyS hk)
  obtain ⟨A, cc, hv, -, -⟩ := h.out.entV k
  rw [hv, h.out.hasE] at hlk
  unfold Et.agg Et.v at hlk
  generalize (entOf c k).places.length = n at hlk
  generalize entOf c k = en at hlk
  obtain ⟨ek, eg, es, eu, ep⟩ := en
  simp only at hlk
  unfold CtP.has
  obtain ⟨w0, hw0⟩ : ∃ w0, w.alloc (.cells #[.string (bs ek), .int .i64 eg, .int .i64 es, .string (bs eu), .slice A n cc] 45) = w0 := ⟨_, rfl⟩
  have hg0 : Gr w w0 := by rw [← hw0]; exact Gr.alloc _ _
  have hst := stagedAt_any lo g t x c w0 (Lib.hid (h.out.gr hg0)) ht k
  have hW := h.out.hasW k
  replace hst := Lib.hid hst
  replace hg0 := Lib.hid hg0
  cases hh : hasP c.E k with
  | true =>
    rw [hh] at hlk
    replace hh := Lib.hid hh
    replace hv := Lib.hid hv
    replace hW := Lib.hid hW
    clear h hst
    go_enter Try.func22, Try.ntmps22
    go_wp2_with fail
    go_ret
    exact ⟨by first | rfl | simp, hg0.out⟩
  | false =>
    rw [hh] at hlk
    replace hh := Lib.hid hh
    replace hv := Lib.hid hv
    replace hW := Lib.hid hW
    clear h
    go_enter Try.func22, Try.ntmps22
    go_wp2_with (go_at_call 44; go_must (refine hst.out.mono ?_); clear hst; rintro e w5 ⟨hg5, ⟨rfl, hno⟩ | ⟨i, q, rfl, -, -, hyes⟩⟩)
    · go_ret
      exact ⟨by rw [hW.out, hno]; rfl, hg0.out.trans hg5⟩
    · go_ret
      exact ⟨by rw [hW.out, hyes]; first | rfl | simp, hg0.out.trans hg5⟩
set_option maxRecDepth 10000 in
theorem retired_any (z : Int) (hz : I64 z) : Calls Try.prog 27 #[.pointer (some ⟨g, 0, none⟩), .int .i64 z] w fun e w' => e = .returned (.bool (c.R.contains z)) ∧ w' = w := by
  have c4 := blk_cell (j := 4) h.out.blk rfl
  have hlk := h.out.mr.look lawI Try.underlying61 zeroI (keyI hz)
  have hh : hasP (rM c.R) z = c.R.contains z := by
    unfold hasP rM
    rw [List.any_map, List.contains_eq_any_beq]
    congr 1
    funext y
    simp only [Function.comp]
    exact Bool.beq_comm
  rw [hh] at hlk
  generalize getP (rM c.R) z (.int .i64 0) = v at hlk
  clear h hh
  go_enter Try.func27, Try.ntmps27
  go_wp2_with fail
  go_ret
  exact ⟨by simp, rfl⟩
set_option maxRecDepth 10000 in
set_option maxHeartbeats 1000000 in
theorem entry_any (k : By) (hk : k.length ≤ maxLen) : Calls Try.prog 21 #[.pointer (some ⟨g, 0, none⟩), .string (bs k)] w fun e w' => ∃ A cc, e = .returned (.tuple #[(Et.mk (entOf c k) A cc).agg, .bool (hasP c.E k)]) ∧ OP (entOf c k).places (.slice A (entOf c k).places.length cc) w.heap.size w' ∧ Gr w w' := by
  obtain ⟨A, cc, hv, hpl, hl40⟩ := h.out.entV k
  obtain ⟨n, hn⟩ : ∃ n, (entOf c k).places.length = n := ⟨_, rfl⟩
  rw [hn] at hpl hl40 ⊢
  obtain ⟨N, hN⟩ : ∃ N, w.heap.size = N := ⟨_, rfl⟩
  obtain ⟨w0, hw0⟩ : ∃ w0, w.alloc (.cells #[.string ⟨#[]⟩, .int .i64 0, .int .i64 0, .string ⟨#[]⟩, .slice none 0 0] 45) = w0 := ⟨_, rfl⟩
  have hg0 : Gr w w0 := by rw [← hw0]; exact Gr.alloc _ _
  have hs0 : w0.heap.size = N + 1 := by rw [← hw0, ← hN]; simp
  have hb0 : w0.heap[N]? = some (.cells #[.string ⟨#[]⟩, .int .i64 0, .int .i64 0, .string ⟨#[]⟩, .slice none 0 0] 45 (0, 0)) := by rw [← hw0, ← hN]; exact heap_alloc_new w _
  have hc0 := h.out.gr hg0
  have c1 := blk_cell (j := 1) hc0.blk rfl
  have hlk := hc0.me.look lawS Try.underlying59 zeroE (keyS hk)
  rw [hv, h.out.hasE] at hlk
  unfold Et.agg Et.v at hlk ⊢
  simp only at hlk ⊢
  rw [hn] at hlk ⊢
  generalize hasP c.E k = hb at hlk
  generalize hen : entOf c k = en at hlk hpl hn
  obtain ⟨ek, eg, es, eu, ep⟩ := en
  simp only at hlk hpl hn ⊢
  obtain ⟨w1, hw1⟩ : ∃ w1, w0.alloc (.cells #[.string (bs ek), .int .i64 eg, .int .i64 es, .string (bs eu), .slice A n cc] 45) = w1 := ⟨_, rfl⟩
  have hg1 : Gr w0 w1 := by rw [← hw1]; exact Gr.alloc _ _
  have hb1 : w1.heap[N + 1]? = some (.cells #[.string (bs ek), .int .i64 eg, .int .i64 es, .string (bs eu), .slice A n cc] 45 (0, 0)) := by rw [← hw1, ← hs0]; exact heap_alloc_new w0 _
  have hb01 := blk_below hb0 hg1
  have hcl := Lib.hid (clonePl_any A n cc ep (by omega) w1 (Pls.gr (hg0.trans hg1) (Lib.hid hpl)).out)
  have q4 := blk_cell (j := 4) hb1 rfl
  have hgw1 : Gr w w1 := hg0.trans hg1
  replace hgw1 := Lib.hid hgw1
  replace hb1 := Lib.hid hb1
  replace hb01 := Lib.hid hb01
  replace hb0 := Lib.hid hb0
  replace hv := Lib.hid hv
  replace hn := Lib.hid hn
  replace hen := Lib.hid hen
  replace hpl := Lib.hid hpl
  replace hg0 := Lib.hid hg0
  replace hg1 := Lib.hid hg1
  replace hc0 := Lib.hid hc0
  have hN' := Lib.hid hN
  clear h hl40
  go_enter Try.func21, Try.ntmps21
  go_upto_region 4 with (fail)
  replace hw0 := Lib.hid hw0
  replace hw1 := Lib.hid hw1
  replace hN := Lib.hid hN
  clear c1 hlk
  have hws1 : Hid (N + 2 ≤ w1.heap.size) := Lib.hid (by have := blk_lt hb1.out; omega)
  replace hs0 := Lib.hid hs0
  go_upto_region 5 with (go_at_call 45; go_must (refine hcl.out.mono ?_); clear hcl; rintro e w2 ⟨A2, c2, rfl, hop2, hg2⟩; have hb2 := blk_below hb1.out hg2; have hf2 := blk_free hb2 4; have q42 := blk_cell (j := 4) hb2 rfl)
  obtain ⟨w3, hw3⟩ : ∃ w3, w2.setCell ⟨N + 1, 4, none⟩ (.slice A2 n c2) = w3 := ⟨_, rfl⟩
  rw [hw3]
  have hg2s := hg2.size
  have hb3 : w3.heap[N + 1]? = some (.cells #[.string (bs ek), .int .i64 eg, .int .i64 es, .string (bs eu), .slice A2 n c2] 45 (0, 0)) := by rw [← hw3]; exact blk_set hb2 4 _
  have hz3 : w3.heap[N]? = some (.cells #[.string ⟨#[]⟩, .int .i64 0, .int .i64 0, .string ⟨#[]⟩, .slice none 0 0] 45 (0, 0)) := by rw [← hw3, blk_other (by omega)]; exact blk_below hb01.out hg2
  have hop3 : OP ep (.slice A2 n c2) w1.heap.size w3 := by rw [← hw3]; exact ⟨row_set_other hop2.1 _ _ _ (fun e => by have := hop2.up _ e; have := hws1.out; omega), hop2.2⟩
  have hu3 : Below N w2 w3 := by rw [← hw3]; exact (Below.refl N w2).setCell (p := ⟨N + 1, 4, none⟩) (by show N ≤ N + 1; omega) _
  clear hb2 hf2 q42
  have r0 := blk_cell (j := 0) hb3 rfl
  have r1 := blk_cell (j := 1) hb3 rfl
  have r2 := blk_cell (j := 2) hb3 rfl
  have r3 := blk_cell (j := 3) hb3 rfl
  have r4 := blk_cell (j := 4) hb3 rfl
  have z0 := blk_cell (j := 0) hz3 rfl
  have z1 := blk_cell (j := 1) hz3 rfl
  have z2 := blk_cell (j := 2) hz3 rfl
  have z3 := blk_cell (j := 3) hz3 rfl
  have z4 := blk_cell (j := 4) hz3 rfl
  have f0 := blk_free hz3 0
  have f1 := blk_free hz3 1
  have f2 := blk_free hz3 2
  have f3 := blk_free hz3 3
  have f4 := blk_free hz3 4
  replace hw3 := Lib.hid hw3
  replace hb3 := Lib.hid hb3
  replace hz3 := Lib.hid hz3
  replace hop2 := Lib.hid hop2
  replace hop3 := Lib.hid hop3
  go_wp2_with fail
  obtain ⟨w5, hw5⟩ : ∃ w5, ((((w3.setCell ⟨N, 0, none⟩ (.string (bs ek))).setCell ⟨N, 1, none⟩ (.int .i64 eg)).setCell ⟨N, 2, none⟩ (.int .i64 es)).setCell ⟨N, 3, none⟩ (.string (bs eu))).setCell ⟨N, 4, none⟩ (.slice A2 n c2) = w5 := ⟨_, rfl⟩
  rw [hw5]
  have hb5 : w5.heap[N]? = some (.cells #[.string (bs ek), .int .i64 eg, .int .i64 es, .string (bs eu), .slice A2 n c2] 45 (0, 0)) := by rw [← hw5]; exact blk_set (blk_set (blk_set (blk_set (blk_set hz3.out 0 _) 1 _) 2 _) 3 _) 4 _
  have hop5 : OP ep (.slice A2 n c2) w1.heap.size w5 := by
    rw [← hw5]
    have hne : (Value.slice A2 n c2).ownBlock ≠ some N := fun e => by have := hop3.out.up _ e; have := hws1.out; omega
    exact ⟨row_set_other (row_set_other (row_set_other (row_set_other (row_set_other hop3.out.1 _ _ _ hne) _ _ _ hne) _ _ _ hne) _ _ _ hne) _ _ _ hne, hop3.out.2⟩
  have hbw : Below N w w5 := by
    rw [← hw5]
    have h3 : Below N w w3 := (Below.mono hgw1.out (Nat.le_of_eq hN.out.symm)).trans ((Below.mono hg2 (by have := hws1.out; omega)).trans hu3)
    exact ((((h3.setCell (p := ⟨N, 0, none⟩) (Nat.le_refl _) _).setCell (p := ⟨N, 1, none⟩) (Nat.le_refl _) _).setCell (p := ⟨N, 2, none⟩) (Nat.le_refl _) _).setCell (p := ⟨N, 3, none⟩) (Nat.le_refl _) _).setCell (p := ⟨N, 4, none⟩) (Nat.le_refl _) _
  clear r0 r1 r2 r3 r4 z0 z1 z2 z3 z4 f0 f1 f2 f3 f4
  have r0 := blk_cell (j := 0) hb5 rfl
  have r1 := blk_cell (j := 1) hb5 rfl
  have r2 := blk_cell (j := 2) hb5 rfl
  have r3 := blk_cell (j := 3) hb5 rfl
  have r4 := blk_cell (j := 4) hb5 rfl
  refine bodyPost_ret (v := .tuple #[.agg #[.string (bs ek), .int .i64 eg, .int .i64 es, .string (bs eu), .slice A2 n c2], .bool hb]) (by simp [results, Try.results21, go_sem, r0, r1, r2, r3, r4]) rfl ?_
  have hNN := hN.out
  exact ⟨A2, c2, rfl, ⟨row_more hop5.1 (by have := hws1.out; omega), hop5.2⟩, by unfold Gr; rw [hNN]; exact hbw⟩
end
end Go.Proofs.Ythboeoidgglcgaa
