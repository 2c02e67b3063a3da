/- cat: copies of places; what is had; an entry. -/
import Derived.Test.YthboeoidgglcgaaGreatCtB
import Derived.Test.YthboeoidgglcgaaGreatOsB
namespace Go.Proofs.YthboeoidgglcgaaGreat
set_option linter.unusedVariables false
set_option linter.unusedSimpArgs false
open Go Go.RowKit Go.Maps
theorem Pls.nilA {l : List (Int × Int)} {n c : Nat} {w : World} (h : Pls l (.slice none n c) w) : l = [] := by
  obtain ⟨A', c', e, -, -, h3, -⟩ := h
  injection e with e1 e2 e3
  rcases Nat.eq_zero_or_pos l.length with h0 | h0
  · exact List.eq_nil_of_length_eq_zero h0
  · obtain ⟨b, o, e, -⟩ := h3 h0
    rw [← e1] at e; cases e
theorem Pls.ln {l : List (Int × Int)} {A : Option Addr} {n c : Nat} {w : World} (h : Pls l (.slice A n c) w) : l.length = n := by
  obtain ⟨A', c', e, -⟩ := h
  injection e with e1 e2 e3
  exact e2.symm
set_option maxRecDepth 10000 in
theorem clonePl_any (A : Option Addr) (n c : Nat) (l : List (Int × Int)) (hl : n ≤ 1000000) (w : World) (h : Pls l (.slice A n c) w) :
    Calls Tryz.prog 46 #[.slice A n c] w fun e w' => ∃ A' c', e = .returned (.slice A' n c') ∧ OP l (.slice A' n c') w.heap.size w' ∧ Gr w w' := by
  have hn := h.ln
  rcases A with _ | ad
  · have hl0 := h.nilA
    subst hl0
    obtain rfl : n = 0 := hn.symm
    have hnil := fun w => Lib.run_eql_slice_nil (P := Tryz.prog) w 35 79 none 0 c 0 0 Tryz.underlying35
    replace h := Lib.hid h
    go_enter Tryz.func46, Tryz.ntmps46
    go_wp2
    go_ret
    exact ⟨_, _, rfl, OP.nil_ _ _, Gr.refl _⟩
  · have ho := Lib.hid (OP.empty w w.heap.size (Nat.le_refl _))
    have hga := Gr.alloc w (.cells #[] 79)
    have hrw := Pls.gr hga (Lib.hid h)
    replace hga := Lib.hid hga
    replace h := Lib.hid h
    replace hn := Lib.hid hn
    have hnil := fun w => Lib.run_eql_slice_nil (P := Tryz.prog) w 35 79 (some ad) n c 0 0 Tryz.underlying35
    go_enter Tryz.func46, Tryz.ntmps46
    go_wp2_with (at_builtin; go_must (refine wpl_appP rfl (.tmp 5) (.tmp 6) rfl w.heap.size (.slice (some ⟨w.heap.size, 0, none⟩) 0 0) (.slice (some ad) n c) [] l rfl ho.out rfl hrw.out (by have := hn.out; simp; omega) (by simp) ?_); intro v1 w1 hown1 hg1 _; rw [List.nil_append] at hown1; obtain ⟨A1, c1, rfl, -, -⟩ := hown1.form; rw [hn.out] at hown1 ⊢)
    go_ret
    exact ⟨A1, c1, rfl, hown1, Below.grown hga.out hg1 (by simp) ho.out.up⟩
def enZ : EnP := ⟨[], 0, 0, [], []⟩
def entOf (c : CtP) (k : By) : EnP := getP c.E k enZ
theorem Ca.entV {w : World} {lo g t : Nat} {x : CtX} {c : CtP} (h : Ca w lo g x c t) (k : By) : ∃ A cc, getP (eM x.E) k entZ = (Et.mk (entOf c k) A cc).agg ∧ Pls (entOf c k).places (.slice A (entOf c k).places.length cc) w ∧ (entOf c k).places.length ≤ 40 := by
  cases hh : hasP c.E k with
  | false =>
    refine ⟨none, 0, ?_, ?_, ?_⟩
    · unfold entOf
      rw [getP_no hh, getP_no (by rw [h.hasE]; exact hh)]
      rfl
    · unfold entOf
      rw [getP_no hh]
      exact Pls.nil_ _ _ _ (Nat.zero_le _)
    · unfold entOf
      rw [getP_no hh]
      exact Nat.zero_le _
  | true =>
    obtain ⟨e, he⟩ := hasP_mem hh
    have h1 : entOf c k = e := getP_mem h.ok.rE.dist he _
    have he2 := he
    rw [h.ec] at he2
    obtain ⟨q, hq, e1⟩ := List.mem_map.mp he2
    injection e1 with e1 e2
    have hm : (k, q.agg) ∈ eM x.E := List.mem_map.mpr ⟨q, hq, by rw [e1]⟩
    rw [h1, getP_mem h.me.dist hm]
    have hop := h.ep q hq
    rw [e2] at hop
    refine ⟨q.A, q.c, ?_, ?_, ?_⟩
    · rw [← e2]
    · have := hop.pls
      unfold Et.v at this
      rw [e2] at this
      exact this
    · obtain ⟨-, -, -, -, -, h6⟩ := h.ok.okE _ he
      have := grp_le e.size
      simp only at h6
      omega
section
variable (lo g t : Nat) (x : CtX) (c : CtP) (w : World) (h : Hid (Ca w lo g x c t))
include h
set_option maxRecDepth 10000 in
set_option maxHeartbeats 1000000 in
theorem has_any (ht : t ≤ 1000) (k : By) (hk : k.length ≤ maxLen) : Calls Tryz.prog 11 #[.pointer (some ⟨g, 0, none⟩), .string (bs k)] w fun e w' => e = .returned (.bool (c.has k)) ∧ Gr w w' := by
  have c1 := blk_cell (j := 1) h.out.blk rfl
  have hlk := h.out.me.look lawS Tryz.underlying50 zeroE (keyS hk)
  obtain ⟨A, cc, hv, -, -⟩ := h.out.entV k
  rw [hv, h.out.hasE] at hlk
  unfold Et.agg Et.v at hlk
  generalize (entOf c k).places.length = n at hlk
  generalize entOf c k = en at hlk
  obtain ⟨ek, eg, es, eu, ep⟩ := en
  simp only at hlk
  unfold CtP.has
  obtain ⟨w0, hw0⟩ : ∃ w0, w.alloc (.cells #[.string (bs ek), .int .i64 eg, .int .i64 es, .string (bs eu), .slice A n cc] 43) = w0 := ⟨_, rfl⟩
  have hg0 : Gr w w0 := by rw [← hw0]; exact Gr.alloc _ _
  have hst := stagedAt_any lo g t x c w0 (Lib.hid (h.out.gr hg0)) ht k
  have hW := h.out.hasW k
  replace hst := Lib.hid hst
  replace hg0 := Lib.hid hg0
  cases hh : hasP c.E k with
  | true =>
    rw [hh] at hlk
    replace hh := Lib.hid hh
    replace hv := Lib.hid hv
    replace hW := Lib.hid hW
    clear h hst
    go_enter Tryz.func11, Tryz.ntmps11
    go_wp2_with fail
    go_ret
    exact ⟨by first | rfl | simp, hg0.out⟩
  | false =>
    rw [hh] at hlk
    replace hh := Lib.hid hh
    replace hv := Lib.hid hv
    replace hW := Lib.hid hW
    clear h
    go_enter Tryz.func11, Tryz.ntmps11
    go_wp2_with (go_at_call 44; go_must (refine hst.out.mono ?_); clear hst; rintro e w5 ⟨hg5, ⟨rfl, hno⟩ | ⟨i, q, rfl, -, -, hyes⟩⟩)
    · go_ret
      exact ⟨by rw [hW.out, hno]; rfl, hg0.out.trans hg5⟩
    · go_ret
      exact ⟨by rw [hW.out, hyes]; first | rfl | simp, hg0.out.trans hg5⟩
set_option maxRecDepth 10000 in
theorem retired_any (z : Int) (hz : I64 z) : Calls Tryz.prog 29 #[.pointer (some ⟨g, 0, none⟩), .int .i64 z] w fun e w' => e = .returned (.bool (c.R.contains z)) ∧ w' = w := by
  have c4 := blk_cell (j := 4) h.out.blk rfl
  have hlk := h.out.mr.look lawI Tryz.underlying52 zeroI (keyI hz)
  have hh : hasP (rM c.R) z = c.R.contains z := by
    unfold hasP rM
    rw [List.any_map, List.contains_eq_any_beq]
    congr 1
    funext y
    simp only [Function.comp]
    exact Bool.beq_comm
  rw [hh] at hlk
  generalize getP (rM c.R) z (.int .i64 0) = v at hlk
  clear h hh
  go_enter Tryz.func29, Tryz.ntmps29
  go_wp2_with fail
  go_ret
  exact ⟨by simp, rfl⟩
set_option maxRecDepth 10000 in
set_option maxHeartbeats 1000000 in
theorem entry_any (k : By) (hk : k.length ≤ maxLen) : Calls Tryz.prog 9 #[.pointer (some ⟨g, 0, none⟩), .string (bs k)] w fun e w' => ∃ A cc, e = .returned (.tuple #[(Et.mk (entOf c k) A cc).agg, .bool (hasP c.E k)]) ∧ OP (entOf c k).places (.slice A (entOf c k).places.length cc) w.heap.size w' ∧ Gr w w' := by
  obtain ⟨A, cc, hv, hpl, hl40⟩ := h.out.entV k
  obtain ⟨n, hn⟩ : ∃ n, (entOf c k).places.length = n := ⟨_, rfl⟩
  rw [hn] at hpl hl40 ⊢
  obtain ⟨N, hN⟩ : ∃ N, w.heap.size = N := ⟨_, rfl⟩
  obtain ⟨w0, hw0⟩ : ∃ w0, w.alloc (.cells #[.string ⟨#[]⟩, .int .i64 0, .int .i64 0, .string ⟨#[]⟩, .slice none 0 0] 43) = w0 := ⟨_, rfl⟩
  have hg0 : Gr w w0 := by rw [← hw0]; exact Gr.alloc _ _
  have hs0 : w0.heap.size = N + 1 := by rw [← hw0, ← hN]; simp
  have hb0 : w0.heap[N]? = some (.cells #[.string ⟨#[]⟩, .int .i64 0, .int .i64 0, .string ⟨#[]⟩, .slice none 0 0] 43 (0, 0)) := by rw [← hw0, ← hN]; exact heap_alloc_new w _
  have hc0 := h.out.gr hg0
  have c1 := blk_cell (j := 1) hc0.blk rfl
  have hlk := hc0.me.look lawS Tryz.underlying50 zeroE (keyS hk)
  rw [hv, h.out.hasE] at hlk
  unfold Et.agg Et.v at hlk ⊢
  simp only at hlk ⊢
  rw [hn] at hlk ⊢
  generalize hasP c.E k = hb at hlk
  generalize hen : entOf c k = en at hlk hpl hn
  obtain ⟨ek, eg, es, eu, ep⟩ := en
  simp only at hlk hpl hn ⊢
  obtain ⟨w1, hw1⟩ : ∃ w1, w0.alloc (.cells #[.string (bs ek), .int .i64 eg, .int .i64 es, .string (bs eu), .slice A n cc] 43) = w1 := ⟨_, rfl⟩
  have hg1 : Gr w0 w1 := by rw [← hw1]; exact Gr.alloc _ _
  have hb1 : w1.heap[N + 1]? = some (.cells #[.string (bs ek), .int .i64 eg, .int .i64 es, .string (bs eu), .slice A n cc] 43 (0, 0)) := by rw [← hw1, ← hs0]; exact heap_alloc_new w0 _
  have hb01 := blk_below hb0 hg1
  have hcl := Lib.hid (clonePl_any A n cc ep (by omega) w1 (Pls.gr (hg0.trans hg1) (Lib.hid hpl)).out)
  have q4 := blk_cell (j := 4) hb1 rfl
  have hgw1 : Gr w w1 := hg0.trans hg1
  replace hgw1 := Lib.hid hgw1
  replace hb1 := Lib.hid hb1
  replace hb01 := Lib.hid hb01
  replace hb0 := Lib.hid hb0
  replace hv := Lib.hid hv
  replace hn := Lib.hid hn
  replace hen := Lib.hid hen
  replace hpl := Lib.hid hpl
  replace hg0 := Lib.hid hg0
  replace hg1 := Lib.hid hg1
  replace hc0 := Lib.hid hc0
  have hN' := Lib.hid hN
  clear h hl40
  go_enter Tryz.func9, Tryz.ntmps9
  go_upto_region 4 with (fail)
  replace hw0 := Lib.hid hw0
  replace hw1 := Lib.hid hw1
  replace hN := Lib.hid hN
  clear c1 hlk
  have hws1 : Hid (N + 2 ≤ w1.heap.size) := Lib.hid (by have := blk_lt hb1.out; omega)
  replace hs0 := Lib.hid hs0
  go_upto_region 5 with (go_at_call 46; go_must (refine hcl.out.mono ?_); clear hcl; rintro e w2 ⟨A2, c2, rfl, hop2, hg2⟩; have hb2 := blk_below hb1.out hg2; have hf2 := blk_free hb2 4; have q42 := blk_cell (j := 4) hb2 rfl)
  obtain ⟨w3, hw3⟩ : ∃ w3, w2.setCell ⟨N + 1, 4, none⟩ (.slice A2 n c2) = w3 := ⟨_, rfl⟩
  rw [hw3]
  have hg2s := hg2.size
  have hb3 : w3.heap[N + 1]? = some (.cells #[.string (bs ek), .int .i64 eg, .int .i64 es, .string (bs eu), .slice A2 n c2] 43 (0, 0)) := by rw [← hw3]; exact blk_set hb2 4 _
  have hz3 : w3.heap[N]? = some (.cells #[.string ⟨#[]⟩, .int .i64 0, .int .i64 0, .string ⟨#[]⟩, .slice none 0 0] 43 (0, 0)) := by rw [← hw3, blk_other (by omega)]; exact blk_below hb01.out hg2
  have hop3 : OP ep (.slice A2 n c2) w1.heap.size w3 := by rw [← hw3]; exact ⟨row_set_other hop2.1 _ _ _ (fun e => by have := hop2.up _ e; have := hws1.out; omega), hop2.2⟩
  have hu3 : Below N w2 w3 := by rw [← hw3]; exact (Below.refl N w2).setCell (p := ⟨N + 1, 4, none⟩) (by show N ≤ N + 1; omega) _
  clear hb2 hf2 q42
  have r0 := blk_cell (j := 0) hb3 rfl
  have r1 := blk_cell (j := 1) hb3 rfl
  have r2 := blk_cell (j := 2) hb3 rfl
  have r3 := blk_cell (j := 3) hb3 rfl
  have r4 := blk_cell (j := 4) hb3 rfl
  have z0 := blk_cell (j := 0) hz3 rfl
  have z1 := blk_cell (j := 1) hz3 rfl
  have z2 := blk_cell (j := 2) hz3 rfl
  have z3 := blk_cell (j := 3) hz3 rfl
  have z4 := blk_cell (j := 4) hz3 rfl
  have f0 := blk_free hz3 0
  have f1 := blk_free hz3 1
  have f2 := blk_free hz3 2
  have f3 := blk_free hz3 3
  have f4 := blk_free hz3 4
  replace hw3 := Lib.hid hw3
  replace hb3 := Lib.hid hb3
  replace hz3 := Lib.hid hz3
  replace hop2 := Lib.hid hop2
  replace hop3 := Lib.hid hop3
  go_wp2_with fail
  obtain ⟨w5, hw5⟩ : ∃ w5, ((((w3.setCell ⟨N, 0, none⟩ (.string (bs ek))).setCell ⟨N, 1, none⟩ (.int .i64 eg)).setCell ⟨N, 2, none⟩ (.int .i64 es)).setCell ⟨N, 3, none⟩ (.string (bs eu))).setCell ⟨N, 4, none⟩ (.slice A2 n c2) = w5 := ⟨_, rfl⟩
  rw [hw5]
  have hb5 : w5.heap[N]? = some (.cells #[.string (bs ek), .int .i64 eg, .int .i64 es, .string (bs eu), .slice A2 n c2] 43 (0, 0)) := by rw [← hw5]; exact blk_set (blk_set (blk_set (blk_set (blk_set hz3.out 0 _) 1 _) 2 _) 3 _) 4 _
  have hop5 : OP ep (.slice A2 n c2) w1.heap.size w5 := by
    rw [← hw5]
    have hne : (Value.slice A2 n c2).ownBlock ≠ some N := fun e => by have := hop3.out.up _ e; have := hws1.out; omega
    exact ⟨row_set_other (row_set_other (row_set_other (row_set_other (row_set_other hop3.out.1 _ _ _ hne) _ _ _ hne) _ _ _ hne) _ _ _ hne) _ _ _ hne, hop3.out.2⟩
  have hbw : Below N w w5 := by
    rw [← hw5]
    have h3 : Below N w w3 := (Below.mono hgw1.out (Nat.le_of_eq hN.out.symm)).trans ((Below.mono hg2 (by have := hws1.out; omega)).trans hu3)
    exact ((((h3.setCell (p := ⟨N, 0, none⟩) (Nat.le_refl _) _).setCell (p := ⟨N, 1, none⟩) (Nat.le_refl _) _).setCell (p := ⟨N, 2, none⟩) (Nat.le_refl _) _).setCell (p := ⟨N, 3, none⟩) (Nat.le_refl _) _).setCell (p := ⟨N, 4, none⟩) (Nat.le_refl _) _
  clear r0 r1 r2 r3 r4 z0 z1 z2 z3 z4 f0 f1 f2 f3 f4
  have r0 := blk_cell (j := 0) hb5 rfl
  have r1 := blk_cell (j := 1) hb5 rfl
  have r2 := blk_cell (j := 2) hb5 rfl
  have r3 := blk_cell (j := 3) hb5 rfl
  have r4 := blk_cell (j := 4) hb5 rfl
  refine bodyPost_ret (v := .tuple #[.agg #[.string (bs ek), .int .i64 eg, .int .i64 es, .string (bs eu), .slice A2 n c2], .bool hb]) (by simp [results, Tryz.results9, go_sem, r0, r1, r2, r3, r4]) rfl ?_
  have hNN := hN.out
  exact ⟨A2, c2, rfl, ⟨row_more hop5.1 (by have := hws1.out; omega), hop5.2⟩, by unfold Gr; rw [hNN]; exact hbw⟩
end
end Go.Proofs.YthboeoidgglcgaaGreat
/- cat: the staged keys, their bytes, the tombs as notes. -/
namespace Go.Proofs.YthboeoidgglcgaaGreat
set_option linter.unusedVariables false
set_option linter.unusedSimpArgs false
open Go Go.RowKit Go.Maps
theorem Ca.stag {w : World} {lo g t : Nat} {x : CtX} {c : CtP} (h : Ca w lo g x c t) {i : Nat} {q : Wt} (hq : x.W[i]? = some q) : ∃ b cp, x.vs = .slice (some ⟨b, 0, none⟩) x.W.length cp ∧ b < w.heap.size ∧ w.cell? ⟨b, i * 2, none⟩ = some (.string (bs q.k)) ∧ w.cell? ⟨b, i * 2 + 1, none⟩ = some (.slice q.A q.d.length q.c) ∧ (∀ j, w.frozen? ⟨b, j, none⟩ = false) := by
  obtain ⟨b, cp, e, -, -, -, hb, -, hfz, hcell, -⟩ := row_at h.ws (by have := (List.getElem?_eq_some_iff.mp hq).1; omega)
  have ha := flatW_at hq
  exact ⟨b, cp, e, hb, hcell _ _ ha.1, hcell _ _ ha.2, hfz⟩
def tombsN (T : List (By × Int)) : List Nt := T.map (fun e => ⟨6, e.1, e.2, 0, [], [], 1, []⟩)
def neN (n : Nt) : Ne := ⟨n, none, 0, none, 0⟩
theorem neN_v {n : Nt} (h1 : n.data = []) (h2 : n.places = []) (w : World) : NeV (neN n) w := by
  unfold NeV neN
  rw [h1, h2]
  exact ⟨Byt.nil_ _, Pls.nil_ _ _ _ (Nat.zero_le _)⟩
theorem neN_apt {n : Nt} (h1 : n.data = []) (h2 : n.places = []) (ob : Option Nat) : Apt (neN n) ob := by
  unfold Apt neN
  rw [h1, h2]
  exact ⟨fun h => absurd h (by simp), fun h => absurd h (by simp)⟩
/-- the bytes and the places of notes are the call's own -/
def ND (E : List Ne) (base : Nat) (w : World) : Prop := ∀ x ∈ E, OB w base (.slice x.A x.n.data.length x.c) x.n.data ∧ OP x.n.places (.slice x.A2 x.n.places.length x.c2) base w
theorem ND.gr {E : List Ne} {base : Nat} {w w' : World} (h : ND E base w) (hg : Gr w w') : ND E base w' := fun x hx => ⟨row_below (h x hx).1 hg, row_below (h x hx).2.1 hg, (h x hx).2.2⟩
theorem ND.own {E E' : List Ne} {base b2 : Nat} {v : Value} {w w' : World} (h : ND E base w) (ho : ON E' v b2 w) (hg : w.grownBy w' v.ownBlock) : ND E base w' := fun x hx => by
  have ne1 : ∀ {u : Value} {T s n m : Nat} {xs : List Value}, w.ownsRow m T s u n xs → T ≠ 37 → u.ownBlock = none ∨ u.ownBlock ≠ v.ownBlock := fun {u T s n m xs} hr hT => by
    cases hu : u.ownBlock with
    | none => exact .inl rfl
    | some k =>
      refine .inr (fun e => ?_)
      exact row_ne2 hr ho.row hT.symm k e.symm hu
  exact ⟨World.ownsRow.kept (h x hx).1 hg (ne1 (h x hx).1 (by decide)), World.ownsRow.kept (h x hx).2.1 hg (ne1 (h x hx).2.1 (by decide)), (h x hx).2.2⟩
theorem ND.ntv {E : List Ne} {base : Nat} {w : World} (h : ND E base w) : ∀ x ∈ E, NeV x w := fun x hx => ⟨Byt.ob (h x hx).1, (h x hx).2.pls⟩
theorem ND.neN {l : List Nt} (h : ∀ n ∈ l, n.data = [] ∧ n.places = []) (base : Nat) (w : World) : ND (l.map neN) base w := fun x hx => by
  obtain ⟨n, hn, rfl⟩ := List.mem_map.mp hx
  obtain ⟨h1, h2⟩ := h n hn
  unfold Go.Proofs.YthboeoidgglcgaaGreat.neN
  simp only
  rw [h1, h2]
  exact ⟨OB.nil_ _ _, OP.nil_ _ _⟩
section
variable (lo g t : Nat) (x : CtX) (c : CtP) (w : World) (h : Hid (Ca w lo g x c t))
include h
set_option maxRecDepth 10000 in
set_option maxHeartbeats 1000000 in
theorem staged_any (ht : t ≤ 1000) : Calls Tryz.prog 32 #[.pointer (some ⟨g, 0, none⟩)] w fun e w' => ∃ A cc, e = .returned (.slice A x.W.length cc) ∧ OS (c.W.map Prod.fst) (.slice A x.W.length cc) w.heap.size w' ∧ Gr w w' := by
  obtain ⟨A, cp, hv⟩ : ∃ A cp, x.vs = .slice A x.W.length cp := by obtain ⟨A, cp, _, _, e, -⟩ := h.out.form; exact ⟨A, cp, e⟩
  have hbk := h.out.blk
  rw [hv] at hbk
  have c0 := blk_cell (j := 0) hbk rfl
  obtain ⟨n, hn⟩ : ∃ n, x.W.length = n := ⟨_, rfl⟩
  have hlen : n ≤ 1000 := by have h1 := h.out.few.1; rw [h.out.wc, List.length_map] at h1; omega
  rw [hn] at c0 ⊢
  have hwc : Hid (c.W.map Prod.fst = x.W.map (·.k)) := Lib.hid (by rw [h.out.wc, List.map_map]; rfl)
  rw [hwc.out]
  obtain ⟨B0, hB0⟩ : ∃ B0, w.heap.size = B0 := ⟨_, rfl⟩
  have hlow : Hid (∀ y, Gr w y → B0 ≤ y.heap.size) := Lib.hid (fun y hy => by rw [← hB0]; exact Below.size hy)
  have hgo : Hid (∀ y z, Gr w y → Below B0 y z → Gr w z) := Lib.hid (fun y z h1 h2 => by unfold Gr at h1 ⊢; rw [hB0] at h1 ⊢; exact h1.trans h2)
  rw [hB0]
  replace hB0 := Lib.hid hB0
  replace hbk := Lib.hid hbk
  replace hn := Lib.hid hn
  replace hv := Lib.hid hv
  go_enter Tryz.func32, Tryz.ntmps32
  go_wp2_with fail
  go_loopw [3, 13] (fun u z wr => ∃ (k : Nat) (A1 : Option Addr) (c1 : Nat), k ≤ n ∧ u = .slice A1 k c1 ∧ z = .int .i64 k ∧ Hid (OS ((x.W.take k).map (·.k)) (.slice A1 k c1) B0 wr) ∧ Hid (Gr w wr)) (fun _ z _ => (n - intOf z).toNat)
  case atStart => exact ⟨0, none, 0, Nat.zero_le _, rfl, rfl, Lib.hid (OS.nil_ _ _), Lib.hid (Gr.refl _)⟩
  case round =>
    obtain ⟨k, A1, c1, hk, rfl, rfl, ho, hg⟩ := hrel
    by_cases hlt : k < n
    · have ii : (k : Int) < (n : Int) := by omega
      obtain ⟨q, hq⟩ : ∃ q, x.W[k]? = some q := ⟨_, List.getElem?_eq_getElem (by rw [hn.out]; exact hlt)⟩
      obtain ⟨b, cp', hv', hb, x0, x1, -⟩ := (h.out.gr hg.out).stag hq
      rw [hv.out, hn.out] at hv'
      injection hv' with e1 _ e3
      subst e1 e3
      obtain ⟨qk, qd, qA, qc⟩ := q
      simp only at x0 x1
      obtain ⟨m, hm⟩ : ∃ m, qd.length = m := ⟨_, rfl⟩
      rw [hm] at x1
      have htk : Hid ((x.W.take (k + 1)).map (·.k) = (x.W.take k).map (·.k) ++ [qk]) := Lib.hid (by rw [List.take_add_one, hq, List.map_append]; rfl)
      have hlk : Hid (((x.W.take k).map (·.k)).length ≤ 1000) := Lib.hid (by rw [List.length_map, List.length_take]; omega)
      obtain ⟨W, hW⟩ : ∃ W, wr.alloc (.cells #[.string (bs qk), .slice qA m qc] 76) = W := ⟨_, rfl⟩
      have hgW : Gr wr W := by rw [← hW]; exact Gr.alloc _ _
      have hbW : W.heap[wr.heap.size]? = some (.cells #[.string (bs qk), .slice qA m qc] 76 (0, 0)) := by rw [← hW]; exact heap_alloc_new wr _
      have y0 := blk_cell (j := 0) hbW rfl
      have hg2 : Hid (Gr w (W.alloc (.cells #[.string (bs qk)] 9))) := Lib.hid ((hg.out.trans hgW).trans (Gr.alloc _ _))
      have ho2 := Lib.hid (OS.below (Gr.alloc W (.cells #[.string (bs qk)] 9)) (OS.below hgW ho.out))
      replace hbW := Lib.hid hbW
      replace hgW := Lib.hid hgW
      replace hm := Lib.hid hm
      replace hq := Lib.hid hq
      clear ho hg
      go_upto_region 7 with (fail)
      replace hW := Lib.hid hW
      clear x0 x1
      go_wp2_with (at_builtin; go_must (refine wpl_appS rfl (.tmp 17) (.tmp 20) rfl B0 (.slice A1 k c1) _ rfl ho2.out (some ⟨W.heap.size, 0, none⟩) 1 (W.heap.size + 1) qk rfl (sV_lit W qk) (by have := hlk.out; omega) (hlow.out _ hg2.out) ?_); intro v6 w6 ho6 hg6; rw [← htk.out] at ho6; have hb6 := Lib.hid (hgo.out _ _ hg2.out ((Below.refl B0 _).grown hg6 (hlow.out _ hg2.out) (fun j hj => (World.ownsRow.lt ho2.out j hj).1))); obtain ⟨A6, c6, rfl, -, -⟩ := OS.form ho6; have hl6 : ((x.W.take (k + 1)).map (·.k)).length = k + 1 := (by have hh := hn.out; rw [List.length_map, List.length_take]; omega); rw [hl6] at ho6 ⊢; replace ho6 := Lib.hid ho6; clear hg6 hl6)
      go_roundw
      case rel => exact ⟨k + 1, A6, c6, by omega, rfl, by go_num, ho6, hb6⟩
      case measure => simp [intOf]; omega
    · obtain rfl : k = n := by omega
      go_wp2_with fail
      go_ret
      have e : (x.W.take k) = x.W := List.take_of_length_le (by rw [hn.out]; exact Nat.le_refl _)
      have ho' := ho.out
      rw [e] at ho'
      exact ⟨A1, c1, rfl, ho', hg.out⟩
set_option maxRecDepth 10000 in
set_option maxHeartbeats 1000000 in
theorem tombs_any (ht : t ≤ 1000) : Calls Tryz.prog 38 #[.pointer (some ⟨g, 0, none⟩)] w fun e w' => ∃ A cc, e = .returned (.slice A c.T.length cc) ∧ ON ((tombsN c.T).map neN) (.slice A c.T.length cc) w.heap.size w' ∧ Gr w w' := by
  obtain ⟨A, cp, hv⟩ : ∃ A cp, x.vt = .slice A c.T.length cp := by obtain ⟨_, _, A, cp, -, e⟩ := h.out.form; exact ⟨A, cp, e⟩
  have hbk := h.out.blk
  rw [hv] at hbk
  have c0 := blk_cell (j := 3) hbk rfl
  obtain ⟨n, hn⟩ : ∃ n, c.T.length = n := ⟨_, rfl⟩
  have hlen : n ≤ 1000 := by have h1 := h.out.few.2.2.2.1; omega
  rw [hn] at c0 ⊢
  obtain ⟨B0, hB0⟩ : ∃ B0, w.heap.size = B0 := ⟨_, rfl⟩
  have hlow : Hid (∀ y, Gr w y → B0 ≤ y.heap.size) := Lib.hid (fun y hy => by rw [← hB0]; exact Below.size hy)
  have hgo : Hid (∀ y z, Gr w y → Below B0 y z → Gr w z) := Lib.hid (fun y z h1 h2 => by unfold Gr at h1 ⊢; rw [hB0] at h1 ⊢; exact h1.trans h2)
  rw [hB0]
  replace hB0 := Lib.hid hB0
  replace hbk := Lib.hid hbk
  replace hn := Lib.hid hn
  replace hv := Lib.hid hv
  go_enter Tryz.func38, Tryz.ntmps38
  go_wp2_with fail
  go_loopw [3, 13] (fun u z wr => ∃ (k : Nat) (A1 : Option Addr) (c1 : Nat), k ≤ n ∧ u = .slice A1 k c1 ∧ z = .int .i64 k ∧ Hid (ON ((tombsN (c.T.take k)).map neN) (.slice A1 k c1) B0 wr) ∧ Hid (Gr w wr)) (fun _ z _ => (n - intOf z).toNat)
  case atStart => exact ⟨0, none, 0, Nat.zero_le _, rfl, rfl, Lib.hid (ON.nil_ _ _), Lib.hid (Gr.refl _)⟩
  case round =>
    obtain ⟨k, A1, c1, hk, rfl, rfl, ho, hg⟩ := hrel
    by_cases hlt : k < n
    · have ii : (k : Int) < (n : Int) := by omega
      obtain ⟨q, hq⟩ : ∃ q, c.T[k]? = some q := ⟨_, List.getElem?_eq_getElem (by rw [hn.out]; exact hlt)⟩
      obtain ⟨b, cp', hv', -, -, -, hb, -, -, hcell, -⟩ := row_at (h.out.gr hg.out).ts (by rw [hn.out]; omega)
      rw [hv.out, hn.out] at hv'
      injection hv' with e1 _ e3
      subst e1 e3
      have ha := flatT_at hq
      have x0 := hcell _ _ ha.1
      have x1 := hcell _ _ ha.2
      obtain ⟨qk, qg⟩ := q
      simp only at x0 x1
      have htk : Hid ((tombsN (c.T.take (k + 1))).map neN = (tombsN (c.T.take k)).map neN ++ [neN ⟨6, qk, qg, 0, [], [], 1, []⟩]) := Lib.hid (by unfold tombsN; rw [List.take_add_one, hq, List.map_append, List.map_append]; rfl)
      have hlk : Hid (((tombsN (c.T.take k)).map neN).length ≤ 1000) := Lib.hid (by unfold tombsN; rw [List.length_map, List.length_map, List.length_take]; omega)
      have hl6 : Hid (((tombsN (c.T.take (k + 1))).map neN).length = k + 1) := Lib.hid (by have hh := hn.out; unfold tombsN; rw [List.length_map, List.length_map, List.length_take]; omega)
      obtain ⟨W, hW⟩ : ∃ W, wr.alloc (.cells #[.string (bs qk), .int .i64 qg] 83) = W := ⟨_, rfl⟩
      have hgW : Gr wr W := by rw [← hW]; exact Gr.alloc _ _
      have hbW : W.heap[wr.heap.size]? = some (.cells #[.string (bs qk), .int .i64 qg] 83 (0, 0)) := by rw [← hW]; exact heap_alloc_new wr _
      have y0 := blk_cell (j := 0) hbW rfl
      have y1 := blk_cell (j := 1) hbW rfl
      have hlit : Hid (Reads _ _ 8 _ 1 _) := Lib.hid (Reads.noteLit W (neN ⟨6, qk, qg, 0, [], [], 1, []⟩))
      have hg2 : Hid (Gr w (W.alloc (.cells (neN ⟨6, qk, qg, 0, [], [], 1, []⟩).cells.toArray 37))) := Lib.hid ((hg.out.trans hgW).trans (Gr.alloc _ _))
      have ho2 := ON.gr (Gr.alloc W (.cells (neN ⟨6, qk, qg, 0, [], [], 1, []⟩).cells.toArray 37)) (ON.gr hgW ho)
      replace hbW := Lib.hid hbW
      replace hgW := Lib.hid hgW
      replace hq := Lib.hid hq
      clear ho hg ha hcell
      go_upto_region 7 with (fail)
      replace hW := Lib.hid hW
      clear x0 x1
      go_wp2_with (at_builtin; go_must (refine wpl_appN rfl (.tmp 17) (.tmp 23) rfl B0 (.slice A1 k c1) _ (neN ⟨6, qk, qg, 0, [], [], 1, []⟩) rfl ho2.out (some ⟨W.heap.size, 0, none⟩) 1 rfl hlit.out (neN_v rfl rfl _) (neN_apt rfl rfl _) (by have := hlk.out; omega) (hlow.out _ hg2.out) ?_); intro v6 w6 ho6 hg6 hb6; rw [← htk.out] at ho6; replace hb6 := Lib.hid (hgo.out _ _ hg2.out hb6); obtain ⟨A6, c6, rfl, -, -⟩ := ON.form ho6; rw [hl6.out] at ho6 ⊢; replace ho6 := Lib.hid ho6; clear hg6)
      go_roundw
      case rel => exact ⟨k + 1, A6, c6, by omega, rfl, by go_num, ho6, hb6⟩
      case measure => simp [intOf]; omega
    · obtain rfl : k = n := by omega
      go_wp2_with fail
      go_ret
      have e : (c.T.take k) = c.T := List.take_of_length_le (by rw [hn.out]; exact Nat.le_refl _)
      have ho' := ho.out
      rw [e] at ho'
      exact ⟨A1, c1, rfl, ho', hg.out⟩
def usedC (W : List (By × By)) : Nat := (W.map (fun e => e.2.length)).sum
set_option maxRecDepth 10000 in
set_option maxHeartbeats 1000000 in
theorem used_any (ht : t ≤ 1000) : Calls Tryz.prog 40 #[.pointer (some ⟨g, 0, none⟩)] w fun e w' => e = .returned (.int .i64 (usedC c.W)) ∧ Gr w w' := by
  obtain ⟨A, cp, hv⟩ : ∃ A cp, x.vs = .slice A x.W.length cp := by obtain ⟨A, cp, _, _, e, -⟩ := h.out.form; exact ⟨A, cp, e⟩
  have hbk := h.out.blk
  rw [hv] at hbk
  have c0 := blk_cell (j := 0) hbk rfl
  obtain ⟨n, hn⟩ : ∃ n, x.W.length = n := ⟨_, rfl⟩
  have hlen : n ≤ 1000 := by have h1 := h.out.few.1; rw [h.out.wc, List.length_map] at h1; omega
  rw [hn] at c0
  have hwc : Hid (∀ k, usedC (c.W.take k) = ((x.W.take k).map (fun q => q.d.length)).sum) := Lib.hid (fun k => by rw [h.out.wc, ← List.map_take]; unfold usedC; rw [List.map_map]; rfl)
  have hok : Hid (∀ k, usedC (c.W.take k) ≤ 512 * k) := Lib.hid (fun k => by
    unfold usedC
    induction k with
    | zero => simp
    | succ k ih =>
      rw [List.take_add_one, List.map_append, List.sum_append]
      cases hq : c.W[k]? with
      | none =>
        simp only [Option.toList_none, List.map_nil, List.sum_nil]
        omega
      | some q =>
        have := (h.out.ok.okW q (List.mem_of_getElem? hq)).2
        simp only [Option.toList_some, List.map_cons, List.map_nil, List.sum_cons, List.sum_nil]
        omega)
  replace hbk := Lib.hid hbk
  replace hn := Lib.hid hn
  replace hv := Lib.hid hv
  go_enter Tryz.func40, Tryz.ntmps40
  go_wp2_with fail
  go_loopw [3, 13] (fun u z wr => ∃ (k m : Nat), k ≤ n ∧ u = .int .i64 m ∧ z = .int .i64 k ∧ Hid (usedC (c.W.take k) = m) ∧ Hid (Gr w wr)) (fun _ z _ => (n - intOf z).toNat)
  case atStart => exact ⟨0, 0, Nat.zero_le _, rfl, rfl, Lib.hid rfl, Lib.hid (Gr.refl _)⟩
  case round =>
    obtain ⟨k, m, hk, rfl, rfl, hm, hg⟩ := hrel
    by_cases hlt : k < n
    · have ii : (k : Int) < (n : Int) := by omega
      obtain ⟨q, hq⟩ : ∃ q, x.W[k]? = some q := ⟨_, List.getElem?_eq_getElem (by rw [hn.out]; exact hlt)⟩
      obtain ⟨b, cp', hv', hb, x0, x1, -⟩ := (h.out.gr hg.out).stag hq
      rw [hv.out, hn.out] at hv'
      injection hv' with e1 _ e3
      subst e1 e3
      obtain ⟨qk, qd, qA, qc⟩ := q
      simp only at x0 x1
      obtain ⟨nd, hnd⟩ : ∃ m, qd.length = m := ⟨_, rfl⟩
      rw [hnd] at x1
      have hm2 : Hid (usedC (c.W.take (k + 1)) = m + nd) := Lib.hid (by rw [← hm.out, hwc.out, hwc.out, List.take_add_one, hq, List.map_append, List.sum_append, ← hnd]; simp)
      have hbd : m + nd ≤ 1000000 := by have := hok.out (k + 1); rw [hm2.out] at this; omega
      have hadd : IntKind.i64.wrap ((m : Int) + (nd : Int)) = ((m + nd : Nat) : Int) := by rw [IntKind.wrap_i64]; omega
      obtain ⟨W, hW⟩ : ∃ W, wr.alloc (.cells #[.string (bs qk), .slice qA nd qc] 76) = W := ⟨_, rfl⟩
      have hgW : Gr wr W := by rw [← hW]; exact Gr.alloc _ _
      have hbW : W.heap[wr.heap.size]? = some (.cells #[.string (bs qk), .slice qA nd qc] 76 (0, 0)) := by rw [← hW]; exact heap_alloc_new wr _
      have y1 := blk_cell (j := 1) hbW rfl
      have hg2 := Lib.hid (hg.out.trans hgW)
      replace hbW := Lib.hid hbW
      replace hgW := Lib.hid hgW
      replace hnd := Lib.hid hnd
      replace hq := Lib.hid hq
      clear hg
      go_upto_region 7 with (fail)
      replace hW := Lib.hid hW
      clear x0 x1
      go_wp2_with fail
      go_roundw
      case rel => exact ⟨k + 1, m + nd, by omega, by first | rfl | go_num, by go_num, hm2, hg2⟩
      case measure => simp [intOf]; omega
    · obtain rfl : k = n := by omega
      go_wp2_with fail
      go_ret
      have e : (c.W.take k) = c.W := List.take_of_length_le (by rw [h.out.wc, List.length_map, hn.out]; exact Nat.le_refl _)
      have hm' := hm.out
      rw [e] at hm'
      exact ⟨by rw [hm']; rfl, hg.out⟩
set_option maxRecDepth 10000 in
set_option maxHeartbeats 1000000 in
theorem data_any (ht : t ≤ 1000) (k : By) : Calls Tryz.prog 8 #[.pointer (some ⟨g, 0, none⟩), .string (bs k)] w fun e w' => ∃ A cc, e = .returned (.tuple #[.slice A (getP c.W k []).length cc, .bool (hasP c.W k)]) ∧ OB w' w.heap.size (.slice A (getP c.W k []).length cc) (getP c.W k []) ∧ Gr w w' := by
  have hst := Lib.hid (stagedAt_any lo g t x c w h ht k)
  have hW := Lib.hid (h.out.hasW k)
  go_enter Tryz.func8, Tryz.ntmps8
  go_upto_region 2 with (go_at_call 44; go_must (refine hst.out.mono ?_); clear hst; rintro e w5 ⟨hg5, ⟨rfl, hno⟩ | ⟨i, q, rfl, hq, hqk, hyes⟩⟩)
  · have hno' : Hid (hasP c.W k = false) := Lib.hid (by rw [hW.out, hno])
    clear hno
    go_wp2_with fail
    go_ret2
    rw [hno'.out, getP_no hno'.out]
    exact ⟨none, 0, rfl, OB.nil_ _ _, hg5⟩
  · have hyes' : Hid (hasP c.W k = true) := Lib.hid (by rw [hW.out, hyes])
    have hmem : (k, q.d) ∈ c.W := by rw [h.out.wc]; exact List.mem_map.mpr ⟨q, List.mem_of_getElem? hq, by rw [hqk]⟩
    have hgt : Hid (getP c.W k [] = q.d) := Lib.hid (getP_mem h.out.ok.dW hmem _)
    have hc5 := h.out.gr hg5
    obtain ⟨b, cp', hv', hb, x0, x1, -⟩ := hc5.stag hq
    have hbk := hc5.blk
    rw [hv'] at hbk
    have c0 := blk_cell (j := 0) hbk rfl
    have hrow := hc5.wd q (List.mem_of_getElem? hq)
    have hd512 := (h.out.ok.okW _ hmem).2
    have hin : i < x.W.length := (List.getElem?_eq_some_iff.mp hq).1
    have hrd : Rd w5 w5.heap.size q.A q.d := by unfold Wt.v at hrow; exact (OB.rd hrow).1
    have hcl := Lib.hid (clone_any q.A q.d.length q.c q.d rfl (by simp only at hd512; omega) w5 hrd)
    have hlw : x.W.length ≤ 1000 := by have h1 := h.out.few.1; rw [h.out.wc, List.length_map] at h1; omega
    replace hbk := Lib.hid hbk
    replace hq := Lib.hid hq
    generalize x.W.length = n at c0 hin hlw
    generalize q.d.length = m at x1 hcl
    have ii : (i : Int) < (n : Int) := by omega
    have i0 : decide ((i : Int) < 0) = false := decide_eq_false (by omega)
    replace hrow := Lib.hid hrow
    replace hrd := Lib.hid hrd
    replace hmem := Lib.hid hmem
    replace hc5 := Lib.hid hc5
    replace hv' := Lib.hid hv'
    replace hqk := Lib.hid hqk
    replace hg5 := Lib.hid hg5
    clear hyes hd512
    go_wp2_with (go_at_call 45; go_must (refine hcl.out.mono ?_); clear hcl; rintro e w6 ⟨v6, rfl, ho6, hb6⟩)
    go_ret2
    rw [hgt.out, hyes'.out]
    obtain ⟨A6, c6, rfl, -⟩ := ho6.form
    exact ⟨A6, c6, rfl, row_more ho6 (Below.size hg5.out), hg5.out.trans hb6⟩
end
end Go.Proofs.YthboeoidgglcgaaGreat
