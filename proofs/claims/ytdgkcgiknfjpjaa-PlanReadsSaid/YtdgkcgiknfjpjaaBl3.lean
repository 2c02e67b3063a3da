/- blob.Records. -/
import Derived.Test.YtdgkcgiknfjpjaaBl2
import Derived.Test.YtdgkcgiknfjpjaaDigB
namespace Go.Proofs.Ytdgkcgiknfjpjaa
set_option linter.unusedVariables false
set_option linter.unusedSimpArgs false
open Go Go.RowKit
attribute [local go_sem] Oper.semAt_some
set_option maxHeartbeats 1000000 in
theorem brec_over (key : List UInt8) (gen : Int) (A : Option Addr) (n c : Nat) (hn : 512 < n) (w : World) :
    Calls Try.prog 21 #[.string (bs key), .int .i64 gen, .slice A n c] w fun e w' => e = .returned (.tuple #[.slice none 0 0, .int .i64 12]) ∧ w' = w := by
  have d1 : (512 : Int) < (n : Int) := by omega
  clear hn
  go_enter Try.func21, Try.ntmps21
  go_wp2_with fail
  go_ret2
  exact ⟨rfl, rfl⟩
def nameOk (key : List UInt8) (gen : Int) : Bool := inB key.length 1 16 && inB gen 0 1099511627776
def BRecPost (p : Rp) (w : World) (e : Ending) (w' : World) : Prop :=
  Gr w w' ∧ ((nameOk p.key p.gen = true ∧ ∃ u E, e = .returned (.tuple #[u, .int .i64 0]) ∧ E.map (·.r) = recsP p ∧ OR E u w.heap.size w') ∨ (nameOk p.key p.gen = false ∧ e = .returned (.tuple #[.slice none 0 0, .int .i64 12])))
set_option maxHeartbeats 8000000 in
set_option maxRecDepth 20000 in
theorem brec_any (key : List UInt8) (gen : Int) (hkl : key.length ≤ maxLen) (hgen : R64 gen) (A : Option Addr) (n c : Nat) (l : List UInt8) (hn : l.length = n) (hn5 : n ≤ 512) (w : World) (hr : Rd w w.heap.size A l) :
    Calls Try.prog 21 #[.string (bs key), .int .i64 gen, .slice A n c] w (BRecPost ⟨key, gen, l, ngrp n⟩ w) := by
  obtain ⟨hg, hq1, hq4, hqn⟩ := ngrp_spec hn5
  have hbg := bgroups_any (n : Int) ⟨by omega, by omega⟩ w
  rw [hg] at hbg
  obtain ⟨q, hq⟩ : ∃ q, ngrp n = q := ⟨_, rfl⟩
  rw [hq] at hbg hq1 hq4 hqn ⊢
  have hof := of_any A n c l (Lib.hid hn) (by omega) w (Lib.hid hr)
  have hgp := fun w' (hg : Gr w w') => bgrp_any A n c l hn hn5 w' (hr.up hg)
  rw [hq] at hgp
  have d1 : ¬ ((512 : Int) < (n : Int)) := by omega
  replace hbg := Lib.hid hbg
  replace hof := Lib.hid hof
  replace hgp := Lib.hid hgp
  replace hn := Lib.hid hn
  replace hq := Lib.hid hq
  replace hkl := Lib.hid hkl
  replace hgen := Lib.hid hgen
  have hgrp : Hid (groupsOf (n : Int) = (q : Int)) := Lib.hid (by rw [hg, hq.out])
  clear hg hr
  refine (callsIn_wide (n := 8)).1 ?_
  refine callsIn_of_wp_marks Try.func21 rfl trivial ?_ rfl
  simp only [Try.ntmps21, List.size_toArray, List.length_cons, List.length_nil, Nat.reduceAdd, Nat.reduceSub, Array.replicate_succ, Array.replicate_zero, List.push_toArray, List.append_toArray, List.nil_append, List.cons_append]
  refine wpIn_wide.2 ?_
  go_wp2_with fail
  refine hbg.out.mono ?_
  clear hbg
  rintro e w0 ⟨rfl, hw0⟩
  rw [hw0]
  clear hw0
  go_wp2_with fail
  refine hof.out.mono ?_
  clear hof
  rintro e w1 ⟨rfl, hg1⟩
  have hga := (hg1.trans (alloc_grB w1 (.cells #[.int .i64 2, .int .i64 0, .string (bs key), .int .i64 gen, .int .i64 0, .int .i64 q, .int .i64 0, .int .i64 n, .string (bs (dg l)), .slice none 0 0] 41))).trans (alloc_grB (w1.alloc (.cells #[.int .i64 2, .int .i64 0, .string (bs key), .int .i64 gen, .int .i64 0, .int .i64 q, .int .i64 0, .int .i64 n, .string (bs (dg l)), .slice none 0 0] 41)) (.cells #[.slice none 0 0] 33))
  have hgq := hgp.out _ hga
  replace hg1 := Lib.hid hg1
  replace hgq := Lib.hid hgq
  go_wp2_with fail
  refine hgq.out.mono ?_
  clear hgq hgp
  rintro e w3 ⟨P, s, rfl, ho, c0, c1, hsz, hP, hPs, hg3⟩
  obtain ⟨b8, hb8⟩ : ∃ b8, w1.heap.size = b8 := ⟨_, rfl⟩
  obtain ⟨w2, hw2⟩ : ∃ w2, (w1.alloc (.cells #[.int .i64 2, .int .i64 0, .string (bs key), .int .i64 gen, .int .i64 0, .int .i64 q, .int .i64 0, .int .i64 n, .string (bs (dg l)), .slice none 0 0] 41)).alloc (.cells #[.slice none 0 0] 33) = w2 := ⟨_, rfl⟩
  have k8 : w2.heap[b8]? = some (.cells #[.int .i64 2, .int .i64 0, .string (bs key), .int .i64 gen, .int .i64 0, .int .i64 q, .int .i64 0, .int .i64 n, .string (bs (dg l)), .slice none 0 0] 41 (0, 0)) := by rw [← hw2, ← hb8]; exact blk_alloc (heap_alloc_new w1 _) _
  have k9 : w2.heap[b8 + 1]? = some (.cells #[.slice none 0 0] 33 (0, 0)) := by
    have := heap_alloc_new (w1.alloc (.cells #[.int .i64 2, .int .i64 0, .string (bs key), .int .i64 gen, .int .i64 0, .int .i64 q, .int .i64 0, .int .i64 n, .string (bs (dg l)), .slice none 0 0] 41)) (.cells #[.slice none 0 0] 33)
    rw [World.size_alloc, hb8, hw2] at this
    exact this
  have s2 : w2.heap.size = b8 + 2 := by rw [← hw2, World.size_alloc, World.size_alloc, hb8]
  rw [hw2] at ho hP hg3 hga
  rw [hb8]
  have hgw3 := Lib.hid (hga.trans hg3)
  have k83 := (Below.block hg3 b8 (by omega)).trans k8
  have k93 := (Below.block hg3 (b8 + 1) (by omega)).trans k9
  have hpl : (padD l q).length = q * 128 := padD_len (by rw [hn.out]; exact hqn)
  obtain ⟨hPl, hcells⟩ := ho.cells_at (by rw [hpl]; omega)
  have h8 : b8 < w3.heap.size := by omega
  have h9 : b8 + 1 < w3.heap.size := by omega
  have hrc : rcells ⟨key, gen, l, q⟩ 0 (.int .i64 0) (.slice none 0 0) = #[.int .i64 2, .int .i64 0, .string (bs key), .int .i64 gen, .int .i64 0, .int .i64 q, .int .i64 0, .int .i64 n, .string (bs (dg l)), .slice none 0 0] := by
    unfold rcells
    rw [hn.out]
    rfl
  have hst0 : RSt ⟨key, gen, l, q⟩ w3 b8 (b8 + 1) (recsF ⟨key, gen, l, q⟩ (([] : List (Fin q)).map (·.1))) ([] : List (Fin q)).length w3 :=
    ⟨Upd.refl _ _, ⟨_, _, by show w3.heap[b8]? = some (.cells (rcells ⟨key, gen, l, q⟩ 0 (.int .i64 0) (.slice none 0 0)) 41 (0, 0)); rw [hrc]; exact k83⟩, .slice none 0 0, [], k93, OR.nil_ _ _, rfl, fun y hy => by cases hy⟩
  have hw8 : w.heap.size ≤ b8 := by have := Below.size hg1.out; omega
  obtain ⟨o0, ho0⟩ : ∃ o0 : Nat, o0 = 0 := ⟨0, rfl⟩
  replace hcells : Hid (∀ (j : Nat) (u : UInt8), (padD l q)[j]? = some u → w3.cell? ⟨P, o0 + j, none⟩ = some (.int .u8 (U u))) := Lib.hid (by rw [ho0]; exact hcells)
  replace c0 : w3.cell? ⟨s, 0, none⟩ = some (.slice (some ⟨P, o0, none⟩) (q * 128) (q * 128)) := by rw [ho0]; exact c0
  replace ho0 := Lib.hid ho0
  replace hst0 := Lib.hid hst0
  replace hsz := Lib.hid hsz
  replace hrc := Lib.hid hrc
  replace hpl := Lib.hid hpl
  replace c0 := Lib.hid c0
  replace c1 := Lib.hid c1
  replace s2 := Lib.hid s2
  have hPb : b8 + 2 ≤ P := by have := s2.out; omega
  clear hw2 k8 k9 k83 k93 ho hg3 hga hg1 hb8 hP
  go_wp2_with fail
  have hs3 := hsz.out
  have hown : ∀ (st : List (Fin q)) (W W' : World) (row : Option Nat), RSt ⟨key, gen, l, q⟩ w3 b8 (b8 + 1) (recsF ⟨key, gen, l, q⟩ (st.map (·.1))) st.length W → W.grownBy W' row → (∀ r, row = some r → w3.heap.size ≤ r ∧ ∃ o : Obj, W.heap[r]? = some o ∧ o.isCells = false) → RSt ⟨key, gen, l, q⟩ w3 b8 (b8 + 1) (recsF ⟨key, gen, l, q⟩ (st.map (·.1))) st.length W' := fun st W W' row hs hg hr => hs.own h8 h9 hg hr
  refine (wpIn_wide (n := 8)).1 ?_
  refine wpIn_rangeFunc_ownG rfl (by omega) (gf := 91) (lb := #[.pointer (some ⟨s, 0, none⟩), .pointer (some ⟨s + 1, 0, none⟩)]) rfl trivial (enters_of Try.func91 (by kernel_rfl) rfl)
    (chunkS_stops Fence.wide (8 - 1) trivial rfl (by omega) (SR b8 (b8 + 1)) s (s + 1) w3.heap.size P o0 (q * 128) q 128 (by decide) (q * 128) rfl (by omega) (Nat.le_refl _) (by simp only [maxLen]; omega) w3 (by omega) (by omega) (by unfold SR; omega) (by unfold SR; omega) (Nat.le_refl _) c0.out c1.out) KpS.trans (fun W l o o' hl _ _ _ => KpS.putObj W l o' hl) (Below.refl _ _) (fun _ => rfl)
    (fun (pre : List (Fin q)) W => RSt ⟨key, gen, l, q⟩ w3 b8 (b8 + 1) (recsF ⟨key, gen, l, q⟩ (pre.map (·.1))) pre.length W)
    (fun _ _ _ => False)
    ?own
    (fun _ _ _ _ _ hs _ _ => hs)
    hst0.out
    (fun x => { tmps := #[.string (bs key), .int .i64 gen, .slice A n c, undef, undef, undef, .slice none 0 0, .int .i64 0, .pointer (some ⟨b8, 0, none⟩), .pointer (some ⟨b8 + 1, 0, none⟩), Value.slice (some ⟨P, o0 + x.1 * 128, none⟩) 128 128, undef, undef, .slice A n c, .int .i64 n, .bool false, .string (bs key), .int .i64 gen, .slice A n c, .int .i64 n, .int .i64 q, .slice A n c, .int .i64 n, .slice A n c, .string (bs (dg l)), .agg #[.int .i64 2, .int .i64 0, .string (bs key), .int .i64 gen, .int .i64 0, .int .i64 q, .int .i64 0, .int .i64 n, .string (bs (dg l)), .slice none 0 0], .slice A n c, .func (Fn.func 91) #[] #[.pointer (some ⟨s, 0, none⟩), .pointer (some ⟨s + 1, 0, none⟩)], Value.slice (some ⟨P, o0 + x.1 * 128, none⟩) 128 128, undef, undef, undef, undef, undef, undef, undef, undef, undef, undef, undef, undef, undef, undef, undef, undef, undef, undef, undef, undef, undef, undef, undef, undef, undef, undef, undef, undef, undef], defers := [] }) ?assign ?body ?done ?stop
  case own => exact fun st W W' row hs hg hr => hown st W W' row hs hg hr
  case assign =>
    clear hown
    intro l x W K hK
    gi_wp2
    exact hK
  case body =>
    clear hown
    rintro lr pre x W hS hlt
    have hPW : P < W.heap.size := Nat.lt_of_lt_of_le hPl hS.U.2.2.2.1
    have hcW : ∀ (j : Nat) (u : UInt8), (padD l q)[j]? = some u → W.cell? ⟨P, o0 + j, none⟩ = some (.int .u8 (U u)) := fun j u hu => (World.cell?_of_block (a := ⟨P, o0 + j, none⟩) (hS.U.2.2.2.2 P hPl (by unfold SR; omega))).trans (hcells.out j u hu)
    have hx := x.2
    have hRd := rd_part (m := 128) (k := x.1) hPW hcW (by rw [hpl.out]; omega)
    have henc := rsenc_ok (some ⟨P, o0 + x.1 * 128, none⟩) 128 (grpB l q x.1) (Nat.le_refl _) (by decide) (grpB_len _ _ _) W hRd
    obtain ⟨R, hR⟩ : ∃ R, recsF ⟨key, gen, l, q⟩ (pre.map (·.1)) = R := ⟨_, rfl⟩
    obtain ⟨k, hk⟩ : ∃ k, pre.length = k := ⟨_, rfl⟩
    rw [hR, hk] at hS
    replace henc := Lib.hid henc
    replace hS := Lib.hid hS
    replace hR := Lib.hid hR
    replace hk := Lib.hid hk
    clear hcW hRd
    have hsW : w3.heap.size ≤ W.heap.size := hS.out.U.2.2.2.1
    have hSU := Lib.hid hS.out.U
    obtain ⟨i0, hi0, hz0, hz1, hz2⟩ := info_parts info_rec10
    replace hi0 := Lib.hid hi0
    replace hz0 := Lib.hid hz0
    replace hz1 := Lib.hid hz1
    replace hz2 := Lib.hid hz2
    refine wpIn_block ?_
    gi_wp2_with (refine ⟨trivial, ?_⟩; gi_at_call 45; refine (CallsIn.inRound _ (callsIn_wide.2 henc.out)).mono ?_; clear henc; rintro e w4 ⟨g, G, C, rfl, hT, hg4⟩; have hS4 := Lib.hid (hS.out.own h8 h9 (W' := w4) (row := none) ⟨hg4.os, hg4.tape, hg4.output, hg4.size, fun k hk _ => hg4.block k hk⟩ (fun r e => by cases e)); have hK4 := Lib.hid (keeps_gr (B := 0) hg4); replace hT := Lib.hid hT; clear hg4 hS)
    obtain ⟨M, hM⟩ : ∃ M, encM (grpB l q x.1) = M := ⟨_, rfl⟩
    rw [hM] at hT
    replace hM := Lib.hid hM
    gi_loopw [36] (fun iv wr => ∃ i : Nat, iv = .int .i64 i ∧ i ≤ 10 ∧ Hid (TB wr W.heap.size g 10 16 G C M) ∧ Hid (RSt ⟨key, gen, l, q⟩ w3 b8 (b8 + 1) (R ++ recsG ⟨key, gen, l, q⟩ k x.1 i) k wr) ∧ Hid (KeepsFrom 0 W wr)) (fun i _ => 10 - (intOf i).toNat)
    case atStart => exact ⟨0, rfl, Nat.zero_le _, hT, Lib.hid (by show RSt ⟨key, gen, l, q⟩ w3 b8 (b8 + 1) (R ++ []) k w4; rw [List.append_nil]; exact hS4.out), hK4⟩
    case round =>
      clear hT hS4 hK4
      obtain ⟨i, rfl, hi, hT, hS, hK⟩ := hrel
      by_cases hlt10 : i < 10
      · obtain ⟨idx, dat, hb⟩ := hS.out.blk
        obtain ⟨v, E, hbx, ho, hE, hd⟩ := hS.out.box
        obtain ⟨Av, cv, rfl, -, -⟩ := ho.form
        have hB := RSt.pre (p := ⟨key, gen, l, q⟩) (k := k) (x := x.1) (i := i) (M := M) hS.out.U h8 h9 (by omega) hT.out hsW hM.out.symm hlt10 hbx ho hd hb
        have z := srA_blk (p := ⟨key, gen, l, q⟩) (k := k) (i := i) (G := G) (C := C) hb
        have zb := (srA_other (b8 := b8) (k := b8 + 1) wr i G C (by omega)).trans hbx
        have hlit : ∀ j u, (reQ ⟨key, gen, l, q⟩ k x.1 i G C).cells[j]? = some u → (srB ⟨key, gen, l, q⟩ wr b8 k i G C).cell? ((⟨wr.heap.size, 0, none⟩ : Addr).add j) = some u := fun j u hu => by
          rw [addr0R]
          have h := cell_newR (srA wr b8 i G C) #[.int .i64 2, .int .i64 0, .string (bs key), .int .i64 gen, .int .i64 k, .int .i64 q, .int .i64 i, .int .i64 l.length, .string (bs (dg l)), .slice (some ⟨G i, 0, none⟩) 16 (C i)] 41 (j := j) (v := u) (by rw [reQ_cells] at hu; simpa using hu)
          rw [srA_size] at h
          exact h
        have hqc := reQ_cells ⟨key, gen, l, q⟩ k x.1 i G C
        have hone : ∀ u ∈ (reQ ⟨key, gen, l, q⟩ k x.1 i G C).cells, u.oneCell' = true := fun u hu => by
          have := flatRe_one [reQ ⟨key, gen, l, q⟩ k x.1 i G C] u (by simpa [flatRe] using hu)
          exact this
        have hEl : E.length ≤ 1000 := by
          have h1 := congrArg List.length hE
          rw [List.length_map, List.length_append, ← hR.out, recsF_len, List.length_map, hk.out] at h1
          unfold recsG at h1
          rw [List.length_map, List.length_range] at h1
          have : k ≤ q := by rw [← hk.out]; omega
          omega
        have hq8 := hT.out.cell hlt10
        have y6 := blk_cell (j := 6) (v := idx) hb rfl
        have q6 := blk_free hb 6
        have y9 := blk_cell (j := 9) (v := dat) (blk_set hb 6 (.int .i64 i)) rfl
        have q9 := blk_free (blk_set hb 6 (.int .i64 i)) 9
        unfold rcells at z
        unfold srB at hB hlit
        unfold srA at hB hlit z zb
        dsimp only at hB hlit z zb
        have z0 := blk_cell (j := 0) z rfl
        have z1 := blk_cell (j := 1) z rfl
        have z2 := blk_cell (j := 2) z rfl
        have z3 := blk_cell (j := 3) z rfl
        have z4 := blk_cell (j := 4) z rfl
        have z5 := blk_cell (j := 5) z rfl
        have z6 := blk_cell (j := 6) z rfl
        have z7 := blk_cell (j := 7) z rfl
        have z8 := blk_cell (j := 8) z rfl
        have z9 := blk_cell (j := 9) z rfl
        have zc := blk_cell (j := 0) zb rfl
        have i1 : (i : Int) < 10 := by omega
        replace hB := Lib.hid hB
        replace hlit := Lib.hid hlit
        replace hone := Lib.hid hone
        replace hqc := Lib.hid hqc
        replace hE := Lib.hid hE
        replace hd := Lib.hid hd
        clear z zb hb hbx ho hS hT
        gi_wp2_with (gi_at_builtin; go_loud (refine wpListIn_append_own_at _ rfl _ _ 33 rfl w3.heap.size 41 i0 _ 10 112 Try.underlying33 hi0.out hz0.out hz1.out hz2.out rfl (by decide) (.slice Av E.length cv) E.length (flatRe E) rfl hB.out.O.row ⟨wr.heap.size, 0, none⟩ 1 1 (reQ ⟨key, gen, l, q⟩ k x.1 i G C).cells rfl (by rw [hqc.out]; rfl) hlit.out hone.out (by simp only [maxLen]; omega) (by omega) hB.out.lo ?_); intro v5 w5 hrow hg5 _ hv5; have hx5 := (hg5.block (b8 + 1) (blk_lt hB.out.bx) (fun e => by have := (World.ownsRow.lt hB.out.O.row (b8 + 1) e.symm).1; omega)).trans hB.out.bx; have x5 := blk_cell (j := 0) (v := .slice Av E.length cv) hx5 rfl; have f5 := blk_free hx5 0; have hP5 := Lib.hid (StB.post hB.out h8 h9 (by omega) hsW hE.out hlt10 hd.out hrow hg5 hv5); obtain ⟨A5, c5, rfl, -, -⟩ := row_form hrow; clear hrow hg5 hv5 hx5)
        have hS5 : Hid (RSt ⟨key, gen, l, q⟩ w3 b8 (b8 + 1) (R ++ recsG ⟨key, gen, l, q⟩ k x.1 (i + 1)) k (w5.setCell ⟨b8 + 1, 0, none⟩ (.slice A5 (E.length + 1) c5))) := Lib.hid (by rw [recsG_next, ← List.append_assoc]; exact hP5.out.1)
        have hT5 := Lib.hid hP5.out.2.1
        have hK5 := Lib.hid (hK.out.trans hP5.out.2.2)
        go_roundw
        case rel => exact ⟨i + 1, by go_num, by omega, hT5, hS5, hK5⟩
        case measure => simp [intOf]; omega
      · obtain rfl : i = 10 := by omega
        obtain ⟨idx, dat, hb⟩ := hS.out.blk
        have y4 := blk_cell (j := 4) (v := .int .i64 k) hb rfl
        have f4 := blk_free hb 4
        have hw : IntKind.i64.wrap ((k : Int) + 1) = ((k + 1 : Nat) : Int) := by rw [IntKind.wrap_i64]; have : k ≤ q := (by rw [← hk.out]; omega); omega
        have hG := Lib.hid (RSt.group hS.out h8 h9 (by omega))
        replace hb := Lib.hid hb
        clear hT
        gi_wp2
        have hKf := hK.out.trans hG.out.2
        refine ⟨⟨hKf.size, fun j o _ hj ho => hKf.same j o (Nat.zero_le _) hj ho⟩, ⟨hKf.size, fun j hj hn => (hG.out.1.U.2.2.2.2 j hj hn).trans (hSU.out.2.2.2.2 j hj hn).symm⟩, ?_⟩
        have hlen : (pre ++ [x]).length = k + 1 := by rw [List.length_append, hk.out]; rfl
        show RSt _ w3 b8 (b8 + 1) (recsF ⟨key, gen, l, q⟩ ((pre ++ [x]).map (·.1))) (pre ++ [x]).length _
        rw [hlen, List.map_append]
        show RSt _ w3 b8 (b8 + 1) (recsF ⟨key, gen, l, q⟩ (pre.map (·.1) ++ [x.1])) (k + 1) _
        rw [recsF_snoc, hR.out, List.length_map, hk.out]
        exact hG.out.1
  case done =>
    clear hown
    rintro D ys W hD rfl hS hK
    have hS : RSt ⟨key, gen, l, q⟩ w3 b8 (b8 + 1) (recsP ⟨key, gen, l, q⟩) (List.finRange q).length W := by rw [← recsF_all ⟨key, gen, l, q⟩ q rfl]; exact hS
    obtain ⟨v, E, hbx, ho, hE, hd⟩ := hS.box
    have hEl : E.length = 10 * q := by
      have h1 := congrArg List.length hE
      rw [List.length_map, recsP_len] at h1
      exact h1
    obtain ⟨gz, cv, rfl, -, -, -, hglt, -, -, hcell, -⟩ := row_at ho.row (by omega)
    obtain ⟨x0, hx0⟩ : ∃ x0, E[0]? = some x0 := ⟨_, List.getElem?_eq_getElem (by omega)⟩
    have hr0 : x0.r = rec1 ⟨key, gen, l, q⟩ 0 0 0 := by
      have h1 := congrArg (fun t : List Rc => t[0]?) hE
      have h2 := recsP_at ⟨key, gen, l, q⟩ (k := 0) (i := 0) (show 0 < q by omega) (by decide)
      simp only [List.getElem?_map, hx0, Option.map_some] at h1
      rw [show 10 * 0 + 0 = 0 from rfl, ← h1] at h2
      injection h2
    obtain ⟨r0, A0, cc0⟩ := x0
    simp only at hr0
    have y0 : W.cell? ⟨gz, 0, none⟩ = some (.int .i64 r0.kind) := hcell _ _ ((flatRe_at hx0 0 (by decide)).trans rfl)
    have y1 : W.cell? ⟨gz, 1, none⟩ = some (.int .i64 r0.cart) := hcell _ _ ((flatRe_at hx0 1 (by decide)).trans rfl)
    have y2 : W.cell? ⟨gz, 2, none⟩ = some (.string (bs r0.key)) := hcell _ _ ((flatRe_at hx0 2 (by decide)).trans rfl)
    have y3 : W.cell? ⟨gz, 3, none⟩ = some (.int .i64 r0.gen) := hcell _ _ ((flatRe_at hx0 3 (by decide)).trans rfl)
    have y4 : W.cell? ⟨gz, 4, none⟩ = some (.int .i64 r0.group) := hcell _ _ ((flatRe_at hx0 4 (by decide)).trans rfl)
    have y5 : W.cell? ⟨gz, 5, none⟩ = some (.int .i64 r0.groups) := hcell _ _ ((flatRe_at hx0 5 (by decide)).trans rfl)
    have y6 : W.cell? ⟨gz, 6, none⟩ = some (.int .i64 r0.index) := hcell _ _ ((flatRe_at hx0 6 (by decide)).trans rfl)
    have y7 : W.cell? ⟨gz, 7, none⟩ = some (.int .i64 r0.size) := hcell _ _ ((flatRe_at hx0 7 (by decide)).trans rfl)
    have y8 : W.cell? ⟨gz, 8, none⟩ = some (.string (bs r0.sum)) := hcell _ _ ((flatRe_at hx0 8 (by decide)).trans rfl)
    have y9 : W.cell? ⟨gz, 9, none⟩ = some (.slice A0 r0.data.length cc0) := hcell _ _ ((flatRe_at hx0 9 (by decide)).trans rfl)
    have hok0 : r0.Ok := by
      have hg1 := hgen.out
      have hl1 := hn.out
      have r2 : R64 2 := by unfold R64; omega
      have r0' : R64 0 := by unfold R64; omega
      rw [hr0]
      unfold rec1
      exact ⟨r2, r0', hg1, r0', ⟨by show (-9223372036854775808 : Int) ≤ (q : Int); omega, by show (q : Int) ≤ 9223372036854775807; omega⟩, r0', ⟨by show (-9223372036854775808 : Int) ≤ (l.length : Int); omega, by show (l.length : Int) ≤ 9223372036854775807; omega⟩, hkl.out, by show (dg l).length ≤ maxLen; rw [dg_length]; decide⟩
    have hlg := lgood_any r0 A0 cc0 hok0 (by rw [hr0]; rfl) (by rw [hr0]; rfl) W
    have hres : (nameB r0 && shardB r0) = nameOk key gen := by
      have hs : shardB r0 = true := by
        have hl1 := hn.out
        have hgq := hgrp.out
        rw [hr0]
        unfold shardB rec1 inB
        simp only [row_length, dg_length]
        rw [hl1, hgq]
        simp
        omega
      rw [hs, Bool.and_true, hr0]
      rfl
    rw [hres] at hlg
    unfold Rc.agg at hlg
    have x9 := blk_cell (j := 0) (v := .slice (some ⟨gz, 0, none⟩) E.length cv) hbx rfl
    have i1 : (0 : Int) < (E.length : Int) := by omega
    have i2 : 0 < E.length := by omega
    have hb9 : Hid (Below w.heap.size w W) := Lib.hid (Upd.to_below hgw3.out hS.U (Below.size hgw3.out) (fun k hk => by unfold SR at hk; omega))
    have hwl := hb9.out.size
    have hlo3 := Below.size hgw3.out
    replace hlg := Lib.hid hlg
    replace hE := Lib.hid hE
    replace ho := Lib.hid ho
    replace hbx := Lib.hid hbx
    replace hK := Lib.hid hK
    clear hS hd hcell hx0 hr0 hok0 hres hEl
    go_wp2_with fail
    refine hlg.out.mono ?_
    clear hlg y0 y1 y2 y3 y4 y5 y6 y7 y8 y9
    rintro e w5 ⟨rfl, hg5⟩
    have hbx5 := (Below.block hg5 (b8 + 1) (blk_lt hbx.out)).trans hbx.out
    have x9 := blk_cell (j := 0) (v := .slice (some ⟨gz, 0, none⟩) E.length cv) hbx5 rfl
    have ho5 := OR.gr hg5 ho
    have hDW : D < W.heap.size := (Array.getElem?_eq_some_iff.mp hK.out).1
    have hK9 : Hid (w5.heap[D]? = some (.deferred (some []))) := Lib.hid ((Below.block hg5 D hDW).trans hK.out)
    have hb5 := Lib.hid (hb9.out.trans (Below.mono hg5 hwl))
    have hs5 := Below.size hg5
    clear hg5 hbx5 hbx ho hb9 hK
    cases hnm : nameOk key gen with
    | true =>
      replace hnm := Lib.hid hnm
      go_wp2_with fail
      refine ⟨by simp, .inl ⟨_, _, rfl, run_takeDeferred hK9.out, ?_⟩⟩
      have hgp := grownBy_putObj' w5 D (.deferred none)
      have hof := ho5.out.own hgp (fun r e => by cases e; exact ⟨_, hK9.out, rfl⟩)
      exact ⟨.tuple #[.slice (some ⟨gz, 0, none⟩) E.length cv, .int .i64 0], by simp [results, Try.results21, go_sem], hb5.out.grown hgp (by omega) (fun k e => by cases e; omega), .inl ⟨hnm.out, _, E, rfl, hE.out, ⟨row_more hof.row hlo3, hof.vs, hof.ap⟩⟩⟩
    | false =>
      replace hnm := Lib.hid hnm
      go_wp2_with fail
      refine ⟨by simp, .inl ⟨_, _, rfl, run_takeDeferred hK9.out, ?_⟩⟩
      have hgp := grownBy_putObj' w5 D (.deferred none)
      exact ⟨.tuple #[.slice none 0 0, .int .i64 12], by simp [results, Try.results21, go_sem], hb5.out.grown hgp (by omega) (fun k e => by cases e; omega), .inr ⟨hnm.out, rfl⟩⟩
  case stop =>
    rintro D c pre W _ _ h _
    exact h.elim
end Go.Proofs.Ytdgkcgiknfjpjaa
