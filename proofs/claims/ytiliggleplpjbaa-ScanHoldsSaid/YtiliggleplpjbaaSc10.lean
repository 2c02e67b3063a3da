/- scan: copies, walked. -/
import Derived.RangeFuncNested
import Derived.RangeFuncBound
import Derived.RangeFuncCalls
import Derived.RangeFuncWrites
import Derived.RangeFuncLeaves
import Derived.Shelf.Abstract
import Derived.Shelf.RegionOpen
import Derived.WalkKit
import Derived.OwnWalkIn
import Derived.TacticsInMore
import Derived.LoopNIn
import Derived.LoopIn
import Derived.Sort.CutIn
import Derived.WalkSpells
import Derived.Laws.StructEq
import Derived.Maps.OwnIn
import Derived.Test.YtiliggleplpjbaaSc9
namespace Go.Proofs.Ytiliggleplpjbaa
set_option linter.unusedVariables false
set_option linter.unusedSimpArgs false
open Go Go.RowKit Go.Maps Go.Shelf Go.Proofs
attribute [local go_sem] Oper.semAt_some
def nilP : Value := .slice none 0 0
theorem eqlP (a : Option Addr) (n c : Nat) (w : World) : (binOp .eql 30 (.slice a n c) (.slice none 0 0)).run Try.prog w = .ok (.bool a.isNone) w := by
  rw [_root_.Go.Lib.run_eql_slice_nil w 30 34 a n c 0 0 Try.underlying30]
theorem fieldsP : (Try.prog.fieldsOf 34).toList.map (fun f => (f.name, f.type, f.offset)) = [("Cart", 3, 0), ("Pos", 3, 1)] := by kernel_rfl
theorem undP : Try.prog.underlying 34 = some (.struct (Try.prog.fieldsOf 34)) := by kernel_rfl
theorem eqlS (a b : Int) (w : World) : (binOp .eql 34 (.agg #[.int .i64 a, .int .i64 b]) (.agg #[.int .i64 0, .int .i64 1024])).run Try.prog w = .ok (.bool (a == 0 && b == 1024)) w := by
  rw [run_eql_struct, run_equalIn_agg w 9999 34 _ _ undP (by kernel_rfl)]
  have hf := fieldsP
  generalize (Try.prog.fieldsOf 34).toList = fs at hf
  obtain ⟨f1, f2, rfl⟩ : ∃ f1 f2, fs = [f1, f2] := by
    cases fs with
    | nil => simp at hf
    | cons f1 fs =>
      cases fs with
      | nil => simp at hf
      | cons f2 fs =>
        cases fs with
        | nil => exact ⟨f1, f2, rfl⟩
        | cons _ _ => simp at hf
  · simp only [List.map_cons, List.map_nil, List.cons.injEq, Prod.mk.injEq, and_true] at hf
    obtain ⟨⟨h1, h2, h3⟩, h4, h5, h6⟩ := hf
    have p1 : (part f1.type #[.int .i64 a, .int .i64 b] f1.offset).run Try.prog w = .ok (.int .i64 a) w := by rw [h2, h3]; kernel_rfl
    have p2 : (part f1.type #[.int .i64 0, .int .i64 1024] f1.offset).run Try.prog w = .ok (.int .i64 0) w := by rw [h2, h3]; kernel_rfl
    have p3 : (part f2.type #[.int .i64 a, .int .i64 b] f2.offset).run Try.prog w = .ok (.int .i64 b) w := by rw [h5, h6]; kernel_rfl
    have p4 : (part f2.type #[.int .i64 0, .int .i64 1024] f2.offset).run Try.prog w = .ok (.int .i64 1024) w := by rw [h5, h6]; kernel_rfl
    have e1 : (Op.equalIn 9999 f1.type (.int .i64 a) (.int .i64 0)).run Try.prog w = .ok (a == 0) w := run_equalIn_int (P := Try.prog) w 9998 f1.type .i64 .i64 a 0 (by rw [h2]; exact Try.underlying3)
    have e2 : (Op.equalIn 9999 f2.type (.int .i64 b) (.int .i64 1024)).run Try.prog w = .ok (b == 1024) w := run_equalIn_int (P := Try.prog) w 9998 f2.type .i64 .i64 b 1024 (by rw [h5]; exact Try.underlying3)
    obtain ⟨b1, hb1⟩ : ∃ x, (a == 0) = x := ⟨_, rfl⟩
    obtain ⟨b2, hb2⟩ : ∃ x, (b == 1024) = x := ⟨_, rfl⟩
    rw [hb1] at e1 ⊢
    rw [hb2] at e2 ⊢
    clear hb1 hb2 h2 h3 h5 h6
    cases b1 <;> cases b2 <;> simp [Op.eqFields, h1, h4, p1, p2, p3, p4, e1, e2]
theorem cells_past {K : Type} [BEq K] [LawfulBEq K] {W W' : World} {k b t : Nat} {cs : Array Value} {T kt : TypeId} {c : KC K} {L : List (K × Value)} (h : W.heap[k]? = some (.cells cs T (0, 0))) (hg : W.grownBy W' (some b)) (hm : MapB W kt c b t L) : W'.heap[k]? = some (.cells cs T (0, 0)) :=
  (hg.block k (Array.getElem?_eq_some_iff.mp h).1 (fun e => by injection e with e; subst e; exact hm.notcell h)).trans h
theorem zeroP (w : World) : (zeroValue 30).run Try.prog w = .ok nilP w := by kernel_rfl
set_option maxRecDepth 100000 in
set_option maxHeartbeats 8000000 in
theorem copies_any (E : List Fe) (v : Value) (w : World) (hE : FsV E v w) (hok : Hid (∀ x ∈ E, x.f.r.Ok)) (hlen : E.length ≤ 1000) : Calls Try.prog 19 #[v] w fun e w' => ∃ b Cs, e = .returned (.map (some b)) ∧ w.heap.size ≤ b ∧ CpM (cF E) (vers (cF E)) Cs w' w.heap.size b (E.length + 1) ∧ Gr w w' := by
  have hE0 := hE
  obtain ⟨A, c, rfl, -, -, -, -⟩ := hE0
  obtain ⟨m, hm⟩ : ∃ m, E.length = m := ⟨_, rfl⟩
  rw [hm] at hE ⊢
  replace hE := Lib.hid hE
  have hmm := @run_makeMap Try.prog
  refine (callsIn_wide (n := 8)).1 ?_
  refine callsIn_of_wp_marks Try.func19 rfl trivial ?_ rfl
  simp only [Try.ntmps19, List.size_toArray, List.length_cons, List.length_nil, Nat.reduceAdd, Nat.reduceSub, Array.replicate_succ, Array.replicate_zero, List.push_toArray, List.append_toArray, List.nil_append, List.cons_append]
  gi_wp2_with (refine ⟨trivial, (callsIn_wide.2 (counting_any _ _ _ _)).mono ?_⟩; rintro e w' ⟨rfl, rfl⟩)
  have hm0 : CpM [] [] [] (w.alloc (.map #[] 0)) w.heap.size w.heap.size 0 := CpM.nil_ (MapB.made w _ _)
  have hb : Boxed ((w.alloc (.map #[] 0)).alloc (.cells #[.map (some w.heap.size)] 55)) (w.heap.size + 1) 55 (.map (some w.heap.size)) := by
    have := Boxed.new (w.alloc (.map #[] 0)) 55 (.map (some w.heap.size))
    rwa [World.size_alloc] at this
  have hbl : (((w.alloc (.map #[] 0)).alloc (.cells #[.map (some w.heap.size)] 55)).alloc (.cells #[.slice A m c] 22)).heap[w.heap.size + 1 + 1]? = some (.cells #[.slice A m c] 22 (0, 0)) := by
    have := heap_alloc_new ((w.alloc (.map #[] 0)).alloc (.cells #[.map (some w.heap.size)] 55)) (.cells #[.slice A m c] 22)
    rwa [World.size_alloc, World.size_alloc] at this
  have hbi := hb.alloc (.cells #[.slice A m c] 22)
  have hm1 := (hm0.gr (Gr.alloc _ (.cells #[.map (some w.heap.size)] 55))).gr (Gr.alloc _ (.cells #[.slice A m c] 22))
  have hgg : Gr w (((w.alloc (.map #[] 0)).alloc (.cells #[.map (some w.heap.size)] 55)).alloc (.cells #[.slice A m c] 22)) := ((Gr.alloc _ _).trans (Gr.alloc _ _)).trans (Gr.alloc _ _)
  have hsz : (((w.alloc (.map #[] 0)).alloc (.cells #[.map (some w.heap.size)] 55)).alloc (.cells #[.slice A m c] 22)).heap.size = w.heap.size + 3 := by simp
  obtain ⟨W0, hW0⟩ : ∃ W0, ((w.alloc (.map #[] 0)).alloc (.cells #[.map (some w.heap.size)] 55)).alloc (.cells #[.slice A m c] 22) = W0 := ⟨_, rfl⟩
  try simp only [World.size_alloc]
  rw [hW0] at hbl hbi hgg hsz hm1 ⊢
  clear hW0 hb hm0 hmm
  refine wpIn_rangeFunc_ownH rfl (by omega) (gf := 54) (lb := #[.pointer (some ⟨w.heap.size + 1 + 1, 0, none⟩)]) rfl trivial (enters_of Try.func54 (by kernel_rfl) rfl)
    (counting_stops (8 - 1) (by omega) (w.heap.size + 1 + 1) m c A E w W0 hE hok hgg (blk_cell (j := 0) hbl rfl) (by omega)) belowK_t (belowK_b (by omega)) (Below.refl _ _) (fun _ => rfl)
    (fun (pre : List (Ct E)) W => Boxed W (w.heap.size + 1) 55 (.map (some w.heap.size)) ∧ (∃ Cs, CpM (cP pre) (vers (cP pre)) Cs W w.heap.size w.heap.size pre.length) ∧ Below w.heap.size w W)
    (fun _ _ _ => False)
    (OwnFrom.and (Own.from (boxed_own _ _ _) _) (OwnFrom.and (fun pre W W' row hs hg hr => by
      obtain ⟨Cs, h1⟩ := hs
      exact ⟨Cs, h1.grown hg (fun e => by have := (hr _ e.symm).1; omega) (fun r e => (hr r e).2)⟩) (ownFrom_below (Nat.le_refl _) (by omega))))
    (fun _ _ _ _ _ hs _ _ => hs)
    ⟨hbi, ⟨[], hm1⟩, hgg⟩
    (fun x a' W => AxF (w.heap.size + 1) 39 (fun Bx x => { tmps := #[.slice A m c, undef, .map none, .pointer (some ⟨w.heap.size + 1, 0, none⟩), .pointer (some ⟨Bx, 0, none⟩), undef, undef, undef, .map (some w.heap.size), .slice A m c, .func (.func 54) #[] #[.pointer (some ⟨w.heap.size + 1 + 1, 0, none⟩)], x.agg, undef, undef, undef, undef, undef, undef, undef, undef, undef, undef, undef, undef, undef, undef, undef, undef, undef, undef, undef, undef, undef, undef, undef, undef, undef, undef, undef, undef, undef, undef, undef, undef, undef, undef, undef, undef, undef, undef, undef, undef, undef, undef, undef, undef, undef, undef, undef, undef], defers := [] }) x.1 a' W)
    (fun x a' => AxF.own)
    ?assign ?body ?done ?stop
  case assign =>
    rintro l pre ⟨⟨⟨ct, ps, r⟩, fA, fc⟩, hxE, hxc⟩ W K ⟨hI1, ⟨Cs, hT⟩, hI2⟩ hK
    dsimp only [Fe.agg]
    gi_wp2
    exact hK _ _ ((KeepsOthers.alloc _ _).from _) ((Below.refl _ W).alloc hI2.size _) ⟨hI1.alloc _, ⟨Cs, hT.gr (Gr.alloc _ _)⟩, hI2.alloc hI2.size _⟩ ⟨W.heap.size, hI1.lt, heap_alloc_new W _, rfl⟩
  case body =>
    rintro l pre ⟨⟨⟨ct, ps, r⟩, fA, fc⟩, hxE, hxc⟩ a' W hl hr ⟨hI1, ⟨Cs, hT⟩, hI2⟩ ⟨Bx, hB1, hB2, rfl⟩ hlt
    have c0 := hI1.cell
    have e9 := cP_snoc pre ⟨⟨⟨ct, ps, r⟩, fA, fc⟩, hxE, hxc⟩
    have hro : r.Ok := hok.out _ hxE
    have hgood : goodB r = true := cnt_good hxc
    obtain ⟨rk, rc, ry, rg, ro, rs, ri, rz, ru, rd⟩ := r
    have z0 := blk_cell (j := 0) (v := .int .i64 ct) hB2 rfl
    have z1 := blk_cell (j := 1) (v := .int .i64 ps) hB2 rfl
    have z2 := blk_cell (j := 2) (v := .int .i64 rk) hB2 rfl
    have z3 := blk_cell (j := 3) (v := .int .i64 rc) hB2 rfl
    have z4 := blk_cell (j := 4) (v := .string (bs ry)) hB2 rfl
    have z5 := blk_cell (j := 5) (v := .int .i64 rg) hB2 rfl
    have z6 := blk_cell (j := 6) (v := .int .i64 ro) hB2 rfl
    have z7 := blk_cell (j := 7) (v := .int .i64 rs) hB2 rfl
    have z8 := blk_cell (j := 8) (v := .int .i64 ri) hB2 rfl
    have z9 := blk_cell (j := 9) (v := .int .i64 rz) hB2 rfl
    have z10 := blk_cell (j := 10) (v := .string (bs ru)) hB2 rfl
    have z11 := blk_cell (j := 11) (v := .slice fA rd.length fc) hB2 rfl
    have hgR : Gr W (W.alloc (.cells #[.int .i64 rk, .int .i64 rc, .string (bs ry), .int .i64 rg, .int .i64 ro, .int .i64 rs, .int .i64 ri, .int .i64 rz, .string (bs ru), .slice fA rd.length fc] 37)) := Gr.alloc _ _
    by_cases hk : rk = 2
    · subst hk
      have h4 := good_shard hgood rfl
      simp only at h4
      obtain ⟨-, -, hgs, hg0, hg1, hi0, hi1, hG1, hG4⟩ := h4
      obtain ⟨G, rfl⟩ : ∃ G : Nat, rs = (G : Int) := ⟨rs.toNat, by omega⟩
      obtain ⟨gr, rfl⟩ : ∃ g : Nat, ro = (g : Int) := ⟨ro.toNat, by omega⟩
      obtain ⟨ix, rfl⟩ : ∃ g : Nat, ri = (g : Int) := ⟨ri.toNat, by omega⟩
      have hvo : VrOk (⟨ry, rg, rz, ru⟩ : Vr) := ⟨hro.key, hro.sum, hro.gen, hro.size⟩
      have hns : nSlots ⟨ry, rg, rz, ru⟩ = 10 * G := by unfold nSlots; simp only; rw [← hgs]; simp
      obtain ⟨wv, hwv⟩ : ∃ W2, (W.alloc (.cells #[.int .i64 2, .int .i64 rc, .string (bs ry), .int .i64 rg, .int .i64 gr, .int .i64 G, .int .i64 ix, .int .i64 rz, .string (bs ru), .slice fA rd.length fc] 37)).alloc (.cells #[.string (bs ry), .int .i64 rg, .int .i64 rz, .string (bs ru)] 58) = W2 := ⟨_, rfl⟩
      have hgv : Gr W wv := by rw [← hwv]; exact hgR.trans (Gr.alloc _ _)
      have hbR : wv.heap[W.heap.size]? = some (.cells #[.int .i64 2, .int .i64 rc, .string (bs ry), .int .i64 rg, .int .i64 gr, .int .i64 G, .int .i64 ix, .int .i64 rz, .string (bs ru), .slice fA rd.length fc] 37 (0, 0)) := by rw [← hwv]; exact blk_below (heap_alloc_new W _) (Gr.alloc _ _)
      have hbV : wv.heap[W.heap.size + 1]? = some (.cells #[.string (bs ry), .int .i64 rg, .int .i64 rz, .string (bs ru)] 58 (0, 0)) := by
        rw [← hwv]
        have := heap_alloc_new (W.alloc (.cells #[.int .i64 2, .int .i64 rc, .string (bs ry), .int .i64 rg, .int .i64 gr, .int .i64 G, .int .i64 ix, .int .i64 rz, .string (bs ru), .slice fA rd.length fc] 37)) (.cells #[.string (bs ry), .int .i64 rg, .int .i64 rz, .string (bs ru)] 58)
        rwa [World.size_alloc] at this
      have hTv := hT.gr hgv
      have hlk := hTv.map.look1 lawV Try.underlying55 zeroP (keyV ⟨_, hvo⟩)
      unfold Vr.agg at hlk
      simp only at hlk
      have c0v := blk_cell (j := 0) (blk_below hI1 hgv) rfl
      have hBxv := blk_below hB2 hgv
      dsimp only [Fe.agg]
      replace hgs := Lib.hid hgs
      replace hns := Lib.hid hns
      replace hgood := Lib.hid hgood
      replace hro := Lib.hid hro
      replace hbR := Lib.hid hbR
      replace hbV := Lib.hid hbV
      replace hBxv := Lib.hid hBxv
      replace hgv := Lib.hid hgv
      replace hgR := Lib.hid hgR
      gi_upto_region 7 with (fail)
      replace hwv := Lib.hid hwv
      clear c0 z0 z1 z2 z3 z4 z5 z6 z7 z8 z9 z10 z11
      have v0 := blk_cell (j := 0) hbV.out rfl
      have v1 := blk_cell (j := 1) hbV.out rfl
      have v2 := blk_cell (j := 2) hbV.out rfl
      have v3 := blk_cell (j := 3) hbV.out rfl
      obtain ⟨bR, hbRe⟩ : ∃ b, W.heap.size = b := ⟨_, rfl⟩
      rw [hbRe] at hbR hbV v0 v1 v2 v3 ⊢
      have hfl : (⟨ct, ps, ⟨2, rc, ry, rg, gr, G, ix, rz, ru, rd⟩⟩ : Fd).r.vr = ⟨ry, rg, rz, ru⟩ := rfl
      obtain ⟨s, hs⟩ : ∃ s, 10 * gr + ix = s := ⟨_, rfl⟩
      have hso : slotOf (⟨ct, ps, ⟨2, rc, ry, rg, gr, G, ix, rz, ru, rd⟩⟩ : Fd).r = s := by unfold slotOf; simp only; omega
      have hsn : s < 10 * G := by omega
      have w1e : IntKind.i64.wrap (10 * (gr : Int)) = 10 * (gr : Int) := i64_wrap_id (by omega) (by omega)
      have w2e : IntKind.i64.wrap (10 * (gr : Int) + (ix : Int)) = (s : Int) := by rw [i64_wrap_id (by omega) (by omega)]; omega
      have w3e : IntKind.i64.wrap (10 * (G : Int)) = ((10 * G : Nat) : Int) := by rw [i64_wrap_id (by omega) (by omega)]; omega
      have ii : (s : Int) < 10 * (G : Int) := by omega
      have hI1v := Lib.hid (blk_below hI1 hgv.out)
      have hBx2 := hBxv.out
      replace hfl := Lib.hid hfl
      replace hso := Lib.hid hso
      replace hI1 := Lib.hid hI1
      replace hB2 := Lib.hid hB2
      by_cases hv : (⟨ry, rg, rz, ru⟩ : Vr) ∈ vers (cP pre)
      · have hyes : hasP Cs ⟨⟨ry, rg, rz, ru⟩, hvo⟩ = true := by rw [hTv.has, decide_eq_true hv]
        obtain ⟨⟨g, n⟩, hmem⟩ := hasP_mem hyes
        have hbk := hTv.blk _ hmem
        have hgn : n = 10 * G := hbk.1.trans hns.out
        subst hgn
        rw [show nilP = Value.slice none 0 0 from rfl] at hlk
        have hlk2 : getP (mapV slV Cs) ⟨⟨ry, rg, rz, ru⟩, hvo⟩ (.slice none 0 0) = .slice (some ⟨g, 0, none⟩) (10 * G) (10 * G) := getP_mem hTv.map.dist (v := slV (g, 10 * G)) (by unfold mapV; exact List.mem_map.mpr ⟨_, hmem, rfl⟩) _
        rw [hlk2] at hlk
        have hT5 := hTv.more (Nat.le_succ pre.length)
        have hS5 : ∀ u, u ∈ vers (cP pre) ↔ u ∈ vers (cP pre ++ [⟨ct, ps, ⟨2, rc, ry, rg, gr, G, ix, rz, ru, rd⟩⟩]) := fun u => by
          rw [vers_snoc, if_pos rfl, List.mem_append, List.mem_singleton]
          exact ⟨.inl, fun hh => hh.elim id (fun e => by rw [e]; exact hv)⟩
        have hKF5 : Hid (KeepsFrom W0.heap.size W wv) := Lib.hid (KeepsFrom.of_grownBy hgv.out.grown (fun j e => by cases e))
        have hBl5 : Hid (Below w.heap.size W wv) := Lib.hid (Below.mono hgv.out hI2.size)
        have hbR5 := hbR
        have hbV5 := hbV
        have hBx5 := hBxv
        have hI15 := hI1v
        replace hT := Lib.hid hT
        replace hS5 := Lib.hid hS5
        replace hlk2 := Lib.hid hlk2
        replace hbk := Lib.hid hbk
        have hqe := eqlP (some ⟨g, 0, none⟩) (10 * G) (10 * G)
        simp only [Option.isNone_some] at hqe
        have r4 := blk_cell (j := 4) hbR.out rfl
        have r6 := blk_cell (j := 6) hbR.out rfl
        gi_wp2
        obtain ⟨w5, hw5⟩ : ∃ x, wv = x := ⟨_, rfl⟩
        rw [hw5] at hT5 hKF5 hBl5 hbR5 hbV5 hBx5 hI15 ⊢
        replace hw5 := Lib.hid hw5
        clear hlk c0v v0 v1 v2 v3 r4 r6
        obtain ⟨we, hwe⟩ : ∃ we, we = w5.drew := ⟨_, rfl⟩
        have hgd : Gr w5 we := by rw [hwe]; exact (Below.refl _ _).drew
        have hTe := hT5.gr hgd
        have hblk := (hTe.blk _ hmem).2.2
        have hlt5 : s < nSlots ⟨ry, rg, rz, ru⟩ := by rw [hns.out]; exact hsn
        obtain ⟨⟨pa, pb⟩, hp⟩ : ∃ p, placeOf (cP pre) ⟨ry, rg, rz, ru⟩ s = p := ⟨_, rfl⟩
        have hpl : (placesOf (cP pre) ⟨ry, rg, rz, ru⟩)[s]? = some (pa, pb) := (placesOf_at _ _ hlt5).trans (congrArg some hp)
        have hx0 := (flatPl_at hpl).1
        have hx1 := (flatPl_at hpl).2
        have hlkq : Hid (∀ q, Gr we q → (Instr.lookup 55 (.map (some w.heap.size)) (.agg #[.string (bs ry), .int .i64 rg, .int .i64 rz, .string (bs ru)]) false).run Try.prog q = .ok (.slice (some ⟨g, 0, none⟩) (10 * G) (10 * G)) q) := Lib.hid (fun q hq => by
          have h1 := (hTe.gr hq).map.look1 lawV Try.underlying55 zeroP (keyV ⟨⟨ry, rg, rz, ru⟩, hvo⟩)
          have h2 : getP (mapV slV Cs) ⟨⟨ry, rg, rz, ru⟩, hvo⟩ nilP = .slice (some ⟨g, 0, none⟩) (10 * G) (10 * G) := getP_mem hTe.map.dist (v := slV (g, 10 * G)) (by unfold mapV; exact List.mem_map.mpr ⟨_, hmem, rfl⟩) _
          rw [h2] at h1
          exact h1)
        have hgd' := Lib.hid hgd
        replace hblk := Lib.hid hblk
        replace hx0 := Lib.hid hx0
        replace hx1 := Lib.hid hx1
        replace hpl := Lib.hid hpl
        clear hgd
        by_cases hpn : ((pa, pb) : Int × Int) = nowP
        · have hpa : pa = 0 := congrArg Prod.fst hpn
          have hpb : pb = 1024 := congrArg Prod.snd hpn
          subst hpa hpb
          have hqs := eqlS 0 1024
          simp only [beq_self_eq_true, Bool.and_self] at hqs
          refine wpR_regionIn ?_ (Gr) 9999 (by kernel_rfl) (by kernel_rfl) ?_
          · rintro ⟨_, _, h⟩; exact h
          (rw [← hwe]; replace hwe := Lib.hid hwe)
          refine wpR_take (i := 0) (v := ?_) (Gr.road) (some 44) rfl (by kernel_rfl) (by kernel_rfl) (by kernel_rfl) (by kernel_rfl) (by kernel_rfl) (fun _ _ _ h => h) (by kernel_rfl) (fun w' hw' => ?_) ?_
          rotate_left
          · have z0 := blk_cell (j := 0) (blk_below hI15.out (hgd'.out.trans hw')) rfl; go_simp; with_reducible rfl
          simp only [Act.put, List.setIfInBounds_toArray, List.set_cons_zero, List.set_cons_succ]
          refine wpR_take (i := 1) (v := ?_) (Gr.road) (some 45) rfl (by kernel_rfl) (by kernel_rfl) (by kernel_rfl) (by kernel_rfl) (by kernel_rfl) (fun _ _ _ h => h) (by kernel_rfl) (fun w' hw' => ?_) ?_
          rotate_left
          · have z0 := blk_cell (j := 0) (blk_below hbV5.out (hgd'.out.trans hw')) rfl; have z1 := blk_cell (j := 1) (blk_below hbV5.out (hgd'.out.trans hw')) rfl; have z2 := blk_cell (j := 2) (blk_below hbV5.out (hgd'.out.trans hw')) rfl; have z3 := blk_cell (j := 3) (blk_below hbV5.out (hgd'.out.trans hw')) rfl; go_simp; with_reducible rfl
          simp only [Act.put, List.setIfInBounds_toArray, List.set_cons_zero, List.set_cons_succ]
          refine wpR_take (i := 2) (v := ?_) (Gr.road) (some 46) rfl (by kernel_rfl) (by kernel_rfl) (by kernel_rfl) (by kernel_rfl) (by kernel_rfl) (fun _ _ _ h => h) (by kernel_rfl) (fun w' hw' => ?_) ?_
          rotate_left
          · have hkq := hlkq.out _ hw'; go_simp; with_reducible rfl
          simp only [Act.put, List.setIfInBounds_toArray, List.set_cons_zero, List.set_cons_succ]
          refine wpR_take (i := 3) (v := ?_) (Gr.road) (some 47) rfl (by kernel_rfl) (by kernel_rfl) (by kernel_rfl) (by kernel_rfl) (by kernel_rfl) (fun _ _ _ h => h) (by kernel_rfl) (fun w' hw' => ?_) ?_
          rotate_left
          · go_simp; with_reducible rfl
          simp only [Act.put, List.setIfInBounds_toArray, List.set_cons_zero, List.set_cons_succ]
          refine wpR_take (i := 4) (v := ?_) (Gr.road) (some 48) rfl (by kernel_rfl) (by kernel_rfl) (by kernel_rfl) (by kernel_rfl) (by kernel_rfl) (fun _ _ _ h => h) (by kernel_rfl) (fun w' hw' => ?_) ?_
          rotate_left
          · go_simp; with_reducible rfl
          simp only [Act.put, List.setIfInBounds_toArray, List.set_cons_zero, List.set_cons_succ]
          refine wpR_take (i := 5) (v := ?_) (Gr.road) (some 49) rfl (by kernel_rfl) (by kernel_rfl) (by kernel_rfl) (by kernel_rfl) (by kernel_rfl) (fun _ _ _ h => h) (by kernel_rfl) (fun w' hw' => ?_) ?_
          rotate_left
          · have y0 := blk_cell (j := s * 2) (blk_below hblk.out hw') (by rw [List.getElem?_toArray]; exact hx0.out); have y1 := blk_cell (j := s * 2 + 1) (blk_below hblk.out hw') (by rw [List.getElem?_toArray]; exact hx1.out); go_simp; with_reducible rfl
          simp only [Act.put, List.setIfInBounds_toArray, List.set_cons_zero, List.set_cons_succ]
          refine wpR_one 6 rfl (by kernel_rfl) (by kernel_rfl) (fun K hK => ?_)
          go_simp
          refine (nowhere_any we).mono ?_
          rintro e wa ⟨rfl, hga⟩
          refine hK _ _ (fun _ => hga) ?_
          clear hK K
          have hga' := Lib.hid hga
          clear hga
          try simp only [Act.put, List.setIfInBounds_toArray, List.set_cons_zero, List.set_cons_succ]
          refine wpR_take (i := 7) (v := ?_) (Gr.road) (some 51) rfl (by kernel_rfl) (by kernel_rfl) (by kernel_rfl) (by kernel_rfl) (by kernel_rfl) (fun _ _ _ h => h) (by kernel_rfl) (fun w' hw' => ?_) ?_
          rotate_left
          · go_simp; with_reducible rfl
          simp only [Act.put, List.setIfInBounds_toArray, List.set_cons_zero, List.set_cons_succ]
          refine wpR_done (by kernel_rfl) ?_ _
          gi_wp2
          obtain ⟨wx, hwx⟩ : ∃ x, x = wa.drew := ⟨_, rfl⟩
          have hgx0 : Gr wa wx := by rw [hwx]; exact (Below.refl _ _).drew
          have hgx := Lib.hid (hga'.out.trans hgx0)
          have hb7 := blk_below hblk.out hgx.out
          have y0 := blk_cell (j := s * 2) hb7 (by rw [List.getElem?_toArray]; exact hx0.out)
          have y1 := blk_cell (j := s * 2 + 1) hb7 (by rw [List.getElem?_toArray]; exact hx1.out)
          have f0 := blk_free hb7 (s * 2)
          have f1 := blk_free hb7 (s * 2 + 1)
          have hb7' := Lib.hid hb7
          clear hgx0 hb7
          refine wpR_regionIn ?_ (Gr) 7 (by kernel_rfl) (by kernel_rfl) ?_
          · rintro ⟨_, _, h⟩; exact h
          (rw [← hwx]; replace hwx := Lib.hid hwx)
          refine wpR_take (i := 0) (v := ?_) (Gr.road) (some 52) rfl (by kernel_rfl) (by kernel_rfl) (by kernel_rfl) (by kernel_rfl) (by kernel_rfl) (fun _ _ _ h => h) (by kernel_rfl) (fun w' hw' => ?_) ?_
          rotate_left
          · have z0 := blk_cell (j := 0) (blk_below hI15.out (hgd'.out.trans (hgx.out.trans hw'))) rfl; go_simp; with_reducible rfl
          simp only [Act.put, List.setIfInBounds_toArray, List.set_cons_zero, List.set_cons_succ]
          refine wpR_take (i := 1) (v := ?_) (Gr.road) (some 53) rfl (by kernel_rfl) (by kernel_rfl) (by kernel_rfl) (by kernel_rfl) (by kernel_rfl) (fun _ _ _ h => h) (by kernel_rfl) (fun w' hw' => ?_) ?_
          rotate_left
          · have z0 := blk_cell (j := 0) (blk_below hbV5.out (hgd'.out.trans (hgx.out.trans hw'))) rfl; have z1 := blk_cell (j := 1) (blk_below hbV5.out (hgd'.out.trans (hgx.out.trans hw'))) rfl; have z2 := blk_cell (j := 2) (blk_below hbV5.out (hgd'.out.trans (hgx.out.trans hw'))) rfl; have z3 := blk_cell (j := 3) (blk_below hbV5.out (hgd'.out.trans (hgx.out.trans hw'))) rfl; go_simp; with_reducible rfl
          simp only [Act.put, List.setIfInBounds_toArray, List.set_cons_zero, List.set_cons_succ]
          refine wpR_take (i := 2) (v := ?_) (Gr.road) (some 54) rfl (by kernel_rfl) (by kernel_rfl) (by kernel_rfl) (by kernel_rfl) (by kernel_rfl) (fun _ _ _ h => h) (by kernel_rfl) (fun w' hw' => ?_) ?_
          rotate_left
          · have hkq := hlkq.out _ (hgx.out.trans hw'); go_simp; with_reducible rfl
          simp only [Act.put, List.setIfInBounds_toArray, List.set_cons_zero, List.set_cons_succ]
          refine wpR_take (i := 3) (v := ?_) (Gr.road) (some 55) rfl (by kernel_rfl) (by kernel_rfl) (by kernel_rfl) (by kernel_rfl) (by kernel_rfl) (fun _ _ _ h => h) (by kernel_rfl) (fun w' hw' => ?_) ?_
          rotate_left
          · go_simp; with_reducible rfl
          simp only [Act.put, List.setIfInBounds_toArray, List.set_cons_zero, List.set_cons_succ]
          refine wpR_take (i := 4) (v := ?_) (Gr.road) (some 56) rfl (by kernel_rfl) (by kernel_rfl) (by kernel_rfl) (by kernel_rfl) (by kernel_rfl) (fun _ _ _ h => h) (by kernel_rfl) (fun w' hw' => ?_) ?_
          rotate_left
          · go_simp; with_reducible rfl
          simp only [Act.put, List.setIfInBounds_toArray, List.set_cons_zero, List.set_cons_succ]
          refine wpR_take (i := 5) (v := ?_) (Gr.road) (some 57) rfl (by kernel_rfl) (by kernel_rfl) (by kernel_rfl) (by kernel_rfl) (by kernel_rfl) (fun _ _ _ h => h) (by kernel_rfl) (fun w' hw' => ?_) ?_
          rotate_left
          · have z0 := blk_cell (j := 0) (v := .int .i64 ct) (blk_below hBx5.out (hgd'.out.trans (hgx.out.trans hw'))) rfl; have z1 := blk_cell (j := 1) (v := .int .i64 ps) (blk_below hBx5.out (hgd'.out.trans (hgx.out.trans hw'))) rfl; go_simp; with_reducible rfl
          simp only [Act.put, List.setIfInBounds_toArray, List.set_cons_zero, List.set_cons_succ]
          refine wpR_take (i := 6) (v := ?_) (Gr.road) (some 58) rfl (by kernel_rfl) (by kernel_rfl) (by kernel_rfl) (by kernel_rfl) (by kernel_rfl) (fun _ _ _ h => h) (by kernel_rfl) (fun w' hw' => ?_) ?_
          rotate_left
          · go_simp; with_reducible rfl
          simp only [Act.put, List.setIfInBounds_toArray, List.set_cons_zero, List.set_cons_succ]
          refine wpR_one 7 rfl (by kernel_rfl) (by kernel_rfl) (fun K hK => ?_)
          go_simp
          refine hK _ _ (fun h => absurd h (by decide)) ?_
          clear hK K
          try simp only [Act.put, List.setIfInBounds_toArray, List.set_cons_zero, List.set_cons_succ]
          refine wpR_done (by kernel_rfl) ?_ _
          gi_wp2
          have hb8 := blk_set (blk_set hb7'.out (s * 2) (.int .i64 ct)) (s * 2 + 1) (.int .i64 ps)
          have hT7 := hTe.gr hgx.out
          have hng : ∀ k, k ≠ g → ((wx.setCell ⟨g, s * 2, none⟩ (.int .i64 ct)).setCell ⟨g, s * 2 + 1, none⟩ (.int .i64 ps)).heap[k]? = wx.heap[k]? := fun k hk => (blk_other hk _ _).trans (blk_other hk _ _)
          have hgw : w.heap.size ≤ g := (hT5.blk _ hmem).2.1
          have hgI : w.heap.size + 1 ≠ g := fun e => by
            have h1 := blk_below hI15.out (hgd'.out.trans hgx.out)
            rw [e, hb7'.out] at h1
            injection h1 with h1
            injection h1 with _ h1 _
            exact absurd h1 (by decide)
          have hgm : w.heap.size ≠ g := fun e => by
            have h1 := hT7.map.notcell (cs := (flatPl (placesOf (cP pre) ⟨ry, rg, rz, ru⟩)).toArray) (T := 34)
            rw [e] at h1
            exact h1 hb7'.out
          have hKG : KeepsFrom W0.heap.size W wx := hKF5.out.trans (KeepsFrom.of_grownBy (hgd'.out.trans hgx.out).grown (fun j e => by cases e))
          have hBG : Below w.heap.size W wx := hBl5.out.trans (Below.mono (hgd'.out.trans hgx.out) (Nat.le_trans hI2.size hBl5.out.size))
          have hst := CpM.step (W' := (wx.setCell ⟨g, s * 2, none⟩ (.int .i64 ct)).setCell ⟨g, s * 2 + 1, none⟩ (.int .i64 ps)) hT7 (f := ⟨ct, ps, ⟨2, rc, ry, rg, gr, G, ix, rz, ru, rd⟩⟩) hvo hgood.out rfl hmem hS5.out (hng _ hgm) (by
            rw [placesOf_set (cP_cnt pre) hgood.out rfl (by rw [hso.out]; exact hp), hso.out, hb8]
            simp only [List.setIfInBounds_toArray]
            rw [flatPl_set]
            rfl) (fun e he hne => hng _ hne)
          refine ⟨by (try rw [← hsz]); exact (hKG.trans ((KeepsOthers.setCell _ _ _).from _)).trans ((KeepsOthers.setCell _ _ _).from _), (hBG.setCell (p := ⟨g, s * 2, none⟩) hgw _).setCell (p := ⟨g, s * 2 + 1, none⟩) hgw _, (hng _ hgI).trans (blk_below hI15.out (hgd'.out.trans hgx.out)), ⟨_, by rw [e9, List.length_append]; exact hst⟩, (hI2.trans (hBG.setCell (p := ⟨g, s * 2, none⟩) hgw _)).setCell (p := ⟨g, s * 2 + 1, none⟩) hgw _⟩
        · have hqs := eqlS pa pb
          have hfb : (pa == 0 && pb == 1024) = false := by
            cases h1 : (pa == 0 && pb == 1024) with
            | false => rfl
            | true =>
              rw [Bool.and_eq_true, beq_iff_eq, beq_iff_eq] at h1
              exact absurd (by rw [h1.1, h1.2]; rfl) hpn
          rw [hfb] at hqs
          clear hfb
          refine wpR_regionIn ?_ (Gr) 9999 (by kernel_rfl) (by kernel_rfl) ?_
          · rintro ⟨_, _, h⟩; exact h
          (rw [← hwe]; replace hwe := Lib.hid hwe)
          refine wpR_take (i := 0) (v := ?_) (Gr.road) (some 44) rfl (by kernel_rfl) (by kernel_rfl) (by kernel_rfl) (by kernel_rfl) (by kernel_rfl) (fun _ _ _ h => h) (by kernel_rfl) (fun w' hw' => ?_) ?_
          rotate_left
          · have z0 := blk_cell (j := 0) (blk_below hI15.out (hgd'.out.trans hw')) rfl; go_simp; with_reducible rfl
          simp only [Act.put, List.setIfInBounds_toArray, List.set_cons_zero, List.set_cons_succ]
          refine wpR_take (i := 1) (v := ?_) (Gr.road) (some 45) rfl (by kernel_rfl) (by kernel_rfl) (by kernel_rfl) (by kernel_rfl) (by kernel_rfl) (fun _ _ _ h => h) (by kernel_rfl) (fun w' hw' => ?_) ?_
          rotate_left
          · have z0 := blk_cell (j := 0) (blk_below hbV5.out (hgd'.out.trans hw')) rfl; have z1 := blk_cell (j := 1) (blk_below hbV5.out (hgd'.out.trans hw')) rfl; have z2 := blk_cell (j := 2) (blk_below hbV5.out (hgd'.out.trans hw')) rfl; have z3 := blk_cell (j := 3) (blk_below hbV5.out (hgd'.out.trans hw')) rfl; go_simp; with_reducible rfl
          simp only [Act.put, List.setIfInBounds_toArray, List.set_cons_zero, List.set_cons_succ]
          refine wpR_take (i := 2) (v := ?_) (Gr.road) (some 46) rfl (by kernel_rfl) (by kernel_rfl) (by kernel_rfl) (by kernel_rfl) (by kernel_rfl) (fun _ _ _ h => h) (by kernel_rfl) (fun w' hw' => ?_) ?_
          rotate_left
          · have hkq := hlkq.out _ hw'; go_simp; with_reducible rfl
          simp only [Act.put, List.setIfInBounds_toArray, List.set_cons_zero, List.set_cons_succ]
          refine wpR_take (i := 3) (v := ?_) (Gr.road) (some 47) rfl (by kernel_rfl) (by kernel_rfl) (by kernel_rfl) (by kernel_rfl) (by kernel_rfl) (fun _ _ _ h => h) (by kernel_rfl) (fun w' hw' => ?_) ?_
          rotate_left
          · go_simp; with_reducible rfl
          simp only [Act.put, List.setIfInBounds_toArray, List.set_cons_zero, List.set_cons_succ]
          refine wpR_take (i := 4) (v := ?_) (Gr.road) (some 48) rfl (by kernel_rfl) (by kernel_rfl) (by kernel_rfl) (by kernel_rfl) (by kernel_rfl) (fun _ _ _ h => h) (by kernel_rfl) (fun w' hw' => ?_) ?_
          rotate_left
          · go_simp; with_reducible rfl
          simp only [Act.put, List.setIfInBounds_toArray, List.set_cons_zero, List.set_cons_succ]
          refine wpR_take (i := 5) (v := ?_) (Gr.road) (some 49) rfl (by kernel_rfl) (by kernel_rfl) (by kernel_rfl) (by kernel_rfl) (by kernel_rfl) (fun _ _ _ h => h) (by kernel_rfl) (fun w' hw' => ?_) ?_
          rotate_left
          · have y0 := blk_cell (j := s * 2) (blk_below hblk.out hw') (by rw [List.getElem?_toArray]; exact hx0.out); have y1 := blk_cell (j := s * 2 + 1) (blk_below hblk.out hw') (by rw [List.getElem?_toArray]; exact hx1.out); go_simp; with_reducible rfl
          simp only [Act.put, List.setIfInBounds_toArray, List.set_cons_zero, List.set_cons_succ]
          refine wpR_one 6 rfl (by kernel_rfl) (by kernel_rfl) (fun K hK => ?_)
          go_simp
          refine (nowhere_any we).mono ?_
          rintro e wa ⟨rfl, hga⟩
          refine hK _ _ (fun _ => hga) ?_
          clear hK K
          have hga' := Lib.hid hga
          clear hga
          try simp only [Act.put, List.setIfInBounds_toArray, List.set_cons_zero, List.set_cons_succ]
          refine wpR_take (i := 7) (v := ?_) (Gr.road) (some 51) rfl (by kernel_rfl) (by kernel_rfl) (by kernel_rfl) (by kernel_rfl) (by kernel_rfl) (fun _ _ _ h => h) (by kernel_rfl) (fun w' hw' => ?_) ?_
          rotate_left
          · go_simp; with_reducible rfl
          simp only [Act.put, List.setIfInBounds_toArray, List.set_cons_zero, List.set_cons_succ]
          refine wpR_done (by kernel_rfl) ?_ _
          gi_wp2
          have hga2 := hgd'.out.trans hga'.out
          have hst := CpM.step (W' := wa) (hTe.gr hga'.out) (f := ⟨ct, ps, ⟨2, rc, ry, rg, gr, G, ix, rz, ru, rd⟩⟩) hvo hgood.out rfl hmem hS5.out rfl (by
            rw [placesOf_keep hgood.out rfl (by rw [hso.out]; show placeOf (cP pre) ⟨ry, rg, rz, ru⟩ s ≠ nowP; rw [hp]; exact hpn)]
            exact blk_below hblk.out hga'.out) (fun e he hne => rfl)
          refine ⟨by (try rw [← hsz]); exact hKF5.out.trans (KeepsFrom.of_grownBy hga2.grown (fun j e => by cases e)), hBl5.out.trans (Below.mono hga2 (Nat.le_trans hI2.size hBl5.out.size)), blk_below hI15.out hga2, ⟨_, by rw [e9, List.length_append]; exact hst⟩, hI2.trans (hBl5.out.trans (Below.mono hga2 (Nat.le_trans hI2.size hBl5.out.size)))⟩
      · have hno : hasP (mapV slV Cs) ⟨⟨ry, rg, rz, ru⟩, hvo⟩ = false := by rw [hasP_mapV, hTv.has, decide_eq_false hv]
        rw [getP_no hno] at hlk
        unfold nilP at hlk
        have hqe := eqlP none 0 0
        simp only [Option.isNone_none] at hqe
        gi_wp2
        obtain ⟨we, hwe⟩ : ∃ we, we = wv.drew := ⟨_, rfl⟩
        have hgd : Gr wv we := by rw [hwe]; exact (Below.refl _ _).drew
        have hTe := hTv.gr hgd
        have hgd' := Lib.hid hgd
        clear hlk c0v v0 v1 v2 v3
        replace hTv := Lib.hid hTv
        replace hT := Lib.hid hT
        refine wpR_regionIn ?_ (Gr) 8 (by kernel_rfl) (by kernel_rfl) ?_
        · rintro ⟨_, _, h⟩; exact h
        (rw [← hwe]; replace hwe := Lib.hid hwe)
        refine wpR_take (i := 0) (v := ?_) (Gr.road) (some 30) rfl (by kernel_rfl) (by kernel_rfl) (by kernel_rfl) (by kernel_rfl) (by kernel_rfl) (fun _ _ _ h => h) (by kernel_rfl) (fun w' hw' => ?_) ?_
        rotate_left
        · have z0 := blk_cell (j := 0) (blk_below hI1v.out (hgd'.out.trans hw')) rfl; go_simp; with_reducible rfl
        simp only [Act.put, List.setIfInBounds_toArray, List.set_cons_zero, List.set_cons_succ]
        refine wpR_take (i := 1) (v := ?_) (Gr.road) (some 31) rfl (by kernel_rfl) (by kernel_rfl) (by kernel_rfl) (by kernel_rfl) (by kernel_rfl) (fun _ _ _ h => h) (by kernel_rfl) (fun w' hw' => ?_) ?_
        rotate_left
        · have z0 := blk_cell (j := 0) (blk_below hbV.out (hgd'.out.trans hw')) rfl; have z1 := blk_cell (j := 1) (blk_below hbV.out (hgd'.out.trans hw')) rfl; have z2 := blk_cell (j := 2) (blk_below hbV.out (hgd'.out.trans hw')) rfl; have z3 := blk_cell (j := 3) (blk_below hbV.out (hgd'.out.trans hw')) rfl; go_simp; with_reducible rfl
        simp only [Act.put, List.setIfInBounds_toArray, List.set_cons_zero, List.set_cons_succ]
        refine wpR_take (i := 4) (v := ?_) (Gr.road) (some 34) rfl (by kernel_rfl) (by kernel_rfl) (by kernel_rfl) (by kernel_rfl) (by kernel_rfl) (fun _ _ _ h => h) (by kernel_rfl) (fun w' hw' => ?_) ?_
        rotate_left
        · go_simp; with_reducible rfl
        simp only [Act.put, List.setIfInBounds_toArray, List.set_cons_zero, List.set_cons_succ]
        refine wpR_take (i := 5) (v := ?_) (Gr.road) (some 35) rfl (by kernel_rfl) (by kernel_rfl) (by kernel_rfl) (by kernel_rfl) (by kernel_rfl) (fun _ _ _ h => h) (by kernel_rfl) (fun w' hw' => ?_) ?_
        rotate_left
        · have z5 := blk_cell (j := 5) (blk_below hbR.out (hgd'.out.trans hw')) rfl; go_simp; with_reducible rfl
        simp only [Act.put, List.setIfInBounds_toArray, List.set_cons_zero, List.set_cons_succ]
        refine wpR_take (i := 6) (v := ?_) (Gr.road) (some 36) rfl (by kernel_rfl) (by kernel_rfl) (by kernel_rfl) (by kernel_rfl) (by kernel_rfl) (fun _ _ _ h => h) (by kernel_rfl) (fun w' hw' => ?_) ?_
        rotate_left
        · go_simp; with_reducible rfl
        simp only [Act.put, List.setIfInBounds_toArray, List.set_cons_zero, List.set_cons_succ]
        refine wpR_one 2 rfl (by kernel_rfl) (by kernel_rfl) (fun K hK => ?_)
        go_simp
        refine (nowhere_any we).mono ?_
        rintro e wa ⟨rfl, hga⟩
        refine hK _ _ (fun _ => hga) ?_
        clear hK K
        have hga' := Lib.hid hga
        clear hga
        try simp only [Act.put, List.setIfInBounds_toArray, List.set_cons_zero, List.set_cons_succ]
        refine wpR_one 3 rfl (by kernel_rfl) (by kernel_rfl) (fun K hK => ?_)
        go_simp
        obtain ⟨wb, hwb⟩ : ∃ x, wa.alloc (.cells #[.int .i64 0, .int .i64 1024] 34) = x := ⟨_, rfl⟩
        have hgb : Gr wa wb := by rw [← hwb]; exact Gr.alloc _ _
        have hbb : wb.heap[wa.heap.size]? = some (.cells #[.int .i64 0, .int .i64 1024] 34 (0, 0)) := by rw [← hwb]; exact heap_alloc_new wa _
        rw [hwb]
        refine hK _ _ (fun _ => hgb) ?_
        clear hK K
        replace hwb := Lib.hid hwb
        have hgb' := Lib.hid hgb
        have hrp := Lib.hid (repeat_any G (by omega) (by omega) wa.heap.size wb (blk_cell (j := 0) hbb rfl) (blk_cell (j := 1) hbb rfl) (blk_lt hbb))
        replace hbb := Lib.hid hbb
        clear hgb
        try simp only [Act.put, List.setIfInBounds_toArray, List.set_cons_zero, List.set_cons_succ]
        refine wpR_one 7 rfl (by kernel_rfl) (by kernel_rfl) (fun K hK => ?_)
        go_simp
        refine hrp.out.mono ?_
        clear hrp
        rintro e wc ⟨g, rfl, hgl, hgc, hg3⟩
        refine hK _ _ (fun _ => hg3) ?_
        clear hK K
        have hgx : Hid (Gr we wc) := Lib.hid (hga'.out.trans (hgb'.out.trans hg3))
        have hTc := hTe.gr hgx.out
        obtain ⟨wd, hst, hmd, hgd4⟩ := hTc.map.store lawV Try.underlying55 (by rw [hm] at hlt; omega) (keyV ⟨⟨ry, rg, rz, ru⟩, hvo⟩) (slV (g, 10 * G))
        unfold Vr.agg slV at hst
        simp only at hst
        replace hgc := Lib.hid hgc
        try simp only [Act.put, List.setIfInBounds_toArray, List.set_cons_zero, List.set_cons_succ]
        refine wpR_one 8 rfl (by kernel_rfl) (by kernel_rfl) (fun K hK => ?_)
        go_simp
        refine hK _ _ (fun h => absurd h (by decide)) ?_
        clear hK K
        clear hst
        try simp only [Act.put, List.setIfInBounds_toArray, List.set_cons_zero, List.set_cons_succ]
        refine wpR_done (by kernel_rfl) ?_ _
        have hgwc : Gr W wc := hgv.out.trans (hgd'.out.trans hgx.out)
        have hgm0 : ∀ e ∈ Cs, e.2.1 ≠ g := fun e he => by
          have h1 := hTe.lt he
          have h2 := Below.size hga'.out
          have h3 := Below.size hgb'.out
          omega
        have hwg : w.heap.size ≤ g := by
          have h1 := hI2.size
          have h2 := Below.size (hgv.out.trans (hgd'.out.trans (hga'.out.trans hgb'.out)))
          omega
        have hT5 := CpM.new (g := g) hTc (v := ⟨⟨ry, rg, rz, ru⟩, hvo⟩) hv hwg (.inr hgm0) (by rw [hns.out]; exact hmd) (by rw [hns.out]; exact cells_past hgc.out hgd4 hTc.map) (fun e he => (cells_past (hTc.blk e he).2.2 hgd4 hTc.map).trans (hTc.blk e he).2.2.symm)
        rw [hns.out] at hT5
        have hmem : ((⟨⟨ry, rg, rz, ru⟩, hvo⟩, (g, 10 * G)) : Vk × (Nat × Nat)) ∈ Cs ++ [(⟨⟨ry, rg, rz, ru⟩, hvo⟩, (g, 10 * G))] := by simp
        have hS5 : Hid (∀ u, u ∈ vers (cP pre) ++ [⟨ry, rg, rz, ru⟩] ↔ u ∈ vers (cP pre ++ [⟨ct, ps, ⟨2, rc, ry, rg, gr, G, ix, rz, ru, rd⟩⟩])) := Lib.hid (fun u => by rw [vers_snoc, if_pos rfl]; rfl)
        have hKF5 : Hid (KeepsFrom W0.heap.size W wd) := Lib.hid ((KeepsFrom.of_grownBy hgwc.grown (fun j e => by cases e)).trans (KeepsFrom.of_grownBy hgd4 (fun j e => by injection e with e; omega)))
        have hBl5 : Hid (Below w.heap.size W wd) := Lib.hid ((Below.mono hgwc hI2.size).grown hgd4 (Nat.le_trans hI2.size (Below.size hgwc)) (fun k e => by injection e with e; omega))
        have hbR5 := Lib.hid (cells_past (blk_below hbR.out (hgd'.out.trans hgx.out)) hgd4 hTc.map)
        have hbV5 := Lib.hid (cells_past (blk_below hbV.out (hgd'.out.trans hgx.out)) hgd4 hTc.map)
        have hBx5 := Lib.hid (cells_past (blk_below hBxv.out (hgd'.out.trans hgx.out)) hgd4 hTc.map)
        have hI15 := Lib.hid (cells_past (blk_below hI1v.out (hgd'.out.trans hgx.out)) hgd4 hTc.map)
        have r4 := blk_cell (j := 4) hbR5.out rfl
        have r6 := blk_cell (j := 6) hbR5.out rfl
        replace hTe := Lib.hid hTe
        replace hTc := Lib.hid hTc
        replace hmd := Lib.hid hmd
        replace hgd4 := Lib.hid hgd4
        replace hgwc := Lib.hid hgwc
        gi_wp2
        clear r4 r6
        obtain ⟨we, hwe⟩ : ∃ we, we = wd.drew := ⟨_, rfl⟩
        have hgd2 : Gr wd we := by rw [hwe]; exact (Below.refl _ _).drew
        have hTe2 := hT5.gr hgd2
        have hblk := (hTe2.blk _ hmem).2.2
        have hlt5 : s < nSlots ⟨ry, rg, rz, ru⟩ := by rw [hns.out]; exact hsn
        obtain ⟨⟨pa, pb⟩, hp⟩ : ∃ p, placeOf (cP pre) ⟨ry, rg, rz, ru⟩ s = p := ⟨_, rfl⟩
        have hpl : (placesOf (cP pre) ⟨ry, rg, rz, ru⟩)[s]? = some (pa, pb) := (placesOf_at _ _ hlt5).trans (congrArg some hp)
        have hx0 := (flatPl_at hpl).1
        have hx1 := (flatPl_at hpl).2
        have hlkq : Hid (∀ q, Gr we q → (Instr.lookup 55 (.map (some w.heap.size)) (.agg #[.string (bs ry), .int .i64 rg, .int .i64 rz, .string (bs ru)]) false).run Try.prog q = .ok (.slice (some ⟨g, 0, none⟩) (10 * G) (10 * G)) q) := Lib.hid (fun q hq => by
          have h1 := (hTe2.gr hq).map.look1 lawV Try.underlying55 zeroP (keyV ⟨⟨ry, rg, rz, ru⟩, hvo⟩)
          have h2 : getP (mapV slV (Cs ++ [(⟨⟨ry, rg, rz, ru⟩, hvo⟩, (g, 10 * G))])) ⟨⟨ry, rg, rz, ru⟩, hvo⟩ nilP = .slice (some ⟨g, 0, none⟩) (10 * G) (10 * G) := getP_mem hTe2.map.dist (v := slV (g, 10 * G)) (by unfold mapV; exact List.mem_map.mpr ⟨_, hmem, rfl⟩) _
          rw [h2] at h1
          exact h1)
        have hge2 := Lib.hid hgd2
        replace hblk := Lib.hid hblk
        replace hx0 := Lib.hid hx0
        replace hx1 := Lib.hid hx1
        replace hpl := Lib.hid hpl
        clear hgd2
        by_cases hpn : ((pa, pb) : Int × Int) = nowP
        · have hpa : pa = 0 := congrArg Prod.fst hpn
          have hpb : pb = 1024 := congrArg Prod.snd hpn
          subst hpa hpb
          have hqs := eqlS 0 1024
          simp only [beq_self_eq_true, Bool.and_self] at hqs
          refine wpR_regionIn ?_ (Gr) 9999 (by kernel_rfl) (by kernel_rfl) ?_
          · rintro ⟨_, _, h⟩; exact h
          (rw [← hwe]; replace hwe := Lib.hid hwe)
          refine wpR_take (i := 0) (v := ?_) (Gr.road) (some 44) rfl (by kernel_rfl) (by kernel_rfl) (by kernel_rfl) (by kernel_rfl) (by kernel_rfl) (fun _ _ _ h => h) (by kernel_rfl) (fun w' hw' => ?_) ?_
          rotate_left
          · have z0 := blk_cell (j := 0) (blk_below hI15.out (hge2.out.trans hw')) rfl; go_simp; with_reducible rfl
          simp only [Act.put, List.setIfInBounds_toArray, List.set_cons_zero, List.set_cons_succ]
          refine wpR_take (i := 1) (v := ?_) (Gr.road) (some 45) rfl (by kernel_rfl) (by kernel_rfl) (by kernel_rfl) (by kernel_rfl) (by kernel_rfl) (fun _ _ _ h => h) (by kernel_rfl) (fun w' hw' => ?_) ?_
          rotate_left
          · have z0 := blk_cell (j := 0) (blk_below hbV5.out (hge2.out.trans hw')) rfl; have z1 := blk_cell (j := 1) (blk_below hbV5.out (hge2.out.trans hw')) rfl; have z2 := blk_cell (j := 2) (blk_below hbV5.out (hge2.out.trans hw')) rfl; have z3 := blk_cell (j := 3) (blk_below hbV5.out (hge2.out.trans hw')) rfl; go_simp; with_reducible rfl
          simp only [Act.put, List.setIfInBounds_toArray, List.set_cons_zero, List.set_cons_succ]
          refine wpR_take (i := 2) (v := ?_) (Gr.road) (some 46) rfl (by kernel_rfl) (by kernel_rfl) (by kernel_rfl) (by kernel_rfl) (by kernel_rfl) (fun _ _ _ h => h) (by kernel_rfl) (fun w' hw' => ?_) ?_
          rotate_left
          · have hkq := hlkq.out _ hw'; go_simp; with_reducible rfl
          simp only [Act.put, List.setIfInBounds_toArray, List.set_cons_zero, List.set_cons_succ]
          refine wpR_take (i := 3) (v := ?_) (Gr.road) (some 47) rfl (by kernel_rfl) (by kernel_rfl) (by kernel_rfl) (by kernel_rfl) (by kernel_rfl) (fun _ _ _ h => h) (by kernel_rfl) (fun w' hw' => ?_) ?_
          rotate_left
          · go_simp; with_reducible rfl
          simp only [Act.put, List.setIfInBounds_toArray, List.set_cons_zero, List.set_cons_succ]
          refine wpR_take (i := 4) (v := ?_) (Gr.road) (some 48) rfl (by kernel_rfl) (by kernel_rfl) (by kernel_rfl) (by kernel_rfl) (by kernel_rfl) (fun _ _ _ h => h) (by kernel_rfl) (fun w' hw' => ?_) ?_
          rotate_left
          · go_simp; with_reducible rfl
          simp only [Act.put, List.setIfInBounds_toArray, List.set_cons_zero, List.set_cons_succ]
          refine wpR_take (i := 5) (v := ?_) (Gr.road) (some 49) rfl (by kernel_rfl) (by kernel_rfl) (by kernel_rfl) (by kernel_rfl) (by kernel_rfl) (fun _ _ _ h => h) (by kernel_rfl) (fun w' hw' => ?_) ?_
          rotate_left
          · have y0 := blk_cell (j := s * 2) (blk_below hblk.out hw') (by rw [List.getElem?_toArray]; exact hx0.out); have y1 := blk_cell (j := s * 2 + 1) (blk_below hblk.out hw') (by rw [List.getElem?_toArray]; exact hx1.out); go_simp; with_reducible rfl
          simp only [Act.put, List.setIfInBounds_toArray, List.set_cons_zero, List.set_cons_succ]
          refine wpR_one 6 rfl (by kernel_rfl) (by kernel_rfl) (fun K hK => ?_)
          go_simp
          refine (nowhere_any we).mono ?_
          rintro e wa ⟨rfl, hga⟩
          refine hK _ _ (fun _ => hga) ?_
          clear hK K
          have hga' := Lib.hid hga
          clear hga
          try simp only [Act.put, List.setIfInBounds_toArray, List.set_cons_zero, List.set_cons_succ]
          refine wpR_take (i := 7) (v := ?_) (Gr.road) (some 51) rfl (by kernel_rfl) (by kernel_rfl) (by kernel_rfl) (by kernel_rfl) (by kernel_rfl) (fun _ _ _ h => h) (by kernel_rfl) (fun w' hw' => ?_) ?_
          rotate_left
          · go_simp; with_reducible rfl
          simp only [Act.put, List.setIfInBounds_toArray, List.set_cons_zero, List.set_cons_succ]
          refine wpR_done (by kernel_rfl) ?_ _
          gi_wp2
          obtain ⟨wx, hwx⟩ : ∃ x, x = wa.drew := ⟨_, rfl⟩
          have hgx0 : Gr wa wx := by rw [hwx]; exact (Below.refl _ _).drew
          have hgx := Lib.hid (hga'.out.trans hgx0)
          have hb7 := blk_below hblk.out hgx.out
          have y0 := blk_cell (j := s * 2) hb7 (by rw [List.getElem?_toArray]; exact hx0.out)
          have y1 := blk_cell (j := s * 2 + 1) hb7 (by rw [List.getElem?_toArray]; exact hx1.out)
          have f0 := blk_free hb7 (s * 2)
          have f1 := blk_free hb7 (s * 2 + 1)
          have hb7' := Lib.hid hb7
          clear hgx0 hb7
          refine wpR_regionIn ?_ (Gr) 7 (by kernel_rfl) (by kernel_rfl) ?_
          · rintro ⟨_, _, h⟩; exact h
          (rw [← hwx]; replace hwx := Lib.hid hwx)
          refine wpR_take (i := 0) (v := ?_) (Gr.road) (some 52) rfl (by kernel_rfl) (by kernel_rfl) (by kernel_rfl) (by kernel_rfl) (by kernel_rfl) (fun _ _ _ h => h) (by kernel_rfl) (fun w' hw' => ?_) ?_
          rotate_left
          · have z0 := blk_cell (j := 0) (blk_below hI15.out (hge2.out.trans (hgx.out.trans hw'))) rfl; go_simp; with_reducible rfl
          simp only [Act.put, List.setIfInBounds_toArray, List.set_cons_zero, List.set_cons_succ]
          refine wpR_take (i := 1) (v := ?_) (Gr.road) (some 53) rfl (by kernel_rfl) (by kernel_rfl) (by kernel_rfl) (by kernel_rfl) (by kernel_rfl) (fun _ _ _ h => h) (by kernel_rfl) (fun w' hw' => ?_) ?_
          rotate_left
          · have z0 := blk_cell (j := 0) (blk_below hbV5.out (hge2.out.trans (hgx.out.trans hw'))) rfl; have z1 := blk_cell (j := 1) (blk_below hbV5.out (hge2.out.trans (hgx.out.trans hw'))) rfl; have z2 := blk_cell (j := 2) (blk_below hbV5.out (hge2.out.trans (hgx.out.trans hw'))) rfl; have z3 := blk_cell (j := 3) (blk_below hbV5.out (hge2.out.trans (hgx.out.trans hw'))) rfl; go_simp; with_reducible rfl
          simp only [Act.put, List.setIfInBounds_toArray, List.set_cons_zero, List.set_cons_succ]
          refine wpR_take (i := 2) (v := ?_) (Gr.road) (some 54) rfl (by kernel_rfl) (by kernel_rfl) (by kernel_rfl) (by kernel_rfl) (by kernel_rfl) (fun _ _ _ h => h) (by kernel_rfl) (fun w' hw' => ?_) ?_
          rotate_left
          · have hkq := hlkq.out _ (hgx.out.trans hw'); go_simp; with_reducible rfl
          simp only [Act.put, List.setIfInBounds_toArray, List.set_cons_zero, List.set_cons_succ]
          refine wpR_take (i := 3) (v := ?_) (Gr.road) (some 55) rfl (by kernel_rfl) (by kernel_rfl) (by kernel_rfl) (by kernel_rfl) (by kernel_rfl) (fun _ _ _ h => h) (by kernel_rfl) (fun w' hw' => ?_) ?_
          rotate_left
          · go_simp; with_reducible rfl
          simp only [Act.put, List.setIfInBounds_toArray, List.set_cons_zero, List.set_cons_succ]
          refine wpR_take (i := 4) (v := ?_) (Gr.road) (some 56) rfl (by kernel_rfl) (by kernel_rfl) (by kernel_rfl) (by kernel_rfl) (by kernel_rfl) (fun _ _ _ h => h) (by kernel_rfl) (fun w' hw' => ?_) ?_
          rotate_left
          · go_simp; with_reducible rfl
          simp only [Act.put, List.setIfInBounds_toArray, List.set_cons_zero, List.set_cons_succ]
          refine wpR_take (i := 5) (v := ?_) (Gr.road) (some 57) rfl (by kernel_rfl) (by kernel_rfl) (by kernel_rfl) (by kernel_rfl) (by kernel_rfl) (fun _ _ _ h => h) (by kernel_rfl) (fun w' hw' => ?_) ?_
          rotate_left
          · have z0 := blk_cell (j := 0) (v := .int .i64 ct) (blk_below hBx5.out (hge2.out.trans (hgx.out.trans hw'))) rfl; have z1 := blk_cell (j := 1) (v := .int .i64 ps) (blk_below hBx5.out (hge2.out.trans (hgx.out.trans hw'))) rfl; go_simp; with_reducible rfl
          simp only [Act.put, List.setIfInBounds_toArray, List.set_cons_zero, List.set_cons_succ]
          refine wpR_take (i := 6) (v := ?_) (Gr.road) (some 58) rfl (by kernel_rfl) (by kernel_rfl) (by kernel_rfl) (by kernel_rfl) (by kernel_rfl) (fun _ _ _ h => h) (by kernel_rfl) (fun w' hw' => ?_) ?_
          rotate_left
          · go_simp; with_reducible rfl
          simp only [Act.put, List.setIfInBounds_toArray, List.set_cons_zero, List.set_cons_succ]
          refine wpR_one 7 rfl (by kernel_rfl) (by kernel_rfl) (fun K hK => ?_)
          go_simp
          refine hK _ _ (fun h => absurd h (by decide)) ?_
          clear hK K
          try simp only [Act.put, List.setIfInBounds_toArray, List.set_cons_zero, List.set_cons_succ]
          refine wpR_done (by kernel_rfl) ?_ _
          gi_wp2
          have hb8 := blk_set (blk_set hb7'.out (s * 2) (.int .i64 ct)) (s * 2 + 1) (.int .i64 ps)
          have hT7 := hTe2.gr hgx.out
          have hng : ∀ k, k ≠ g → ((wx.setCell ⟨g, s * 2, none⟩ (.int .i64 ct)).setCell ⟨g, s * 2 + 1, none⟩ (.int .i64 ps)).heap[k]? = wx.heap[k]? := fun k hk => (blk_other hk _ _).trans (blk_other hk _ _)
          have hgw : w.heap.size ≤ g := (hT5.blk _ hmem).2.1
          have hgI : w.heap.size + 1 ≠ g := fun e => by
            have h1 := blk_below hI15.out (hge2.out.trans hgx.out)
            rw [e, hb7'.out] at h1
            injection h1 with h1
            injection h1 with _ h1 _
            exact absurd h1 (by decide)
          have hgm : w.heap.size ≠ g := fun e => by
            have h1 := hT7.map.notcell (cs := (flatPl (placesOf (cP pre) ⟨ry, rg, rz, ru⟩)).toArray) (T := 34)
            rw [e] at h1
            exact h1 hb7'.out
          have hKG : KeepsFrom W0.heap.size W wx := hKF5.out.trans (KeepsFrom.of_grownBy (hge2.out.trans hgx.out).grown (fun j e => by cases e))
          have hBG : Below w.heap.size W wx := hBl5.out.trans (Below.mono (hge2.out.trans hgx.out) (Nat.le_trans hI2.size hBl5.out.size))
          have hst := CpM.step (W' := (wx.setCell ⟨g, s * 2, none⟩ (.int .i64 ct)).setCell ⟨g, s * 2 + 1, none⟩ (.int .i64 ps)) hT7 (f := ⟨ct, ps, ⟨2, rc, ry, rg, gr, G, ix, rz, ru, rd⟩⟩) hvo hgood.out rfl hmem hS5.out (hng _ hgm) (by
            rw [placesOf_set (cP_cnt pre) hgood.out rfl (by rw [hso.out]; exact hp), hso.out, hb8]
            simp only [List.setIfInBounds_toArray]
            rw [flatPl_set]
            rfl) (fun e he hne => hng _ hne)
          refine ⟨by (try rw [← hsz]); exact (hKG.trans ((KeepsOthers.setCell _ _ _).from _)).trans ((KeepsOthers.setCell _ _ _).from _), (hBG.setCell (p := ⟨g, s * 2, none⟩) hgw _).setCell (p := ⟨g, s * 2 + 1, none⟩) hgw _, (hng _ hgI).trans (blk_below hI15.out (hge2.out.trans hgx.out)), ⟨_, by rw [e9, List.length_append]; exact hst⟩, (hI2.trans (hBG.setCell (p := ⟨g, s * 2, none⟩) hgw _)).setCell (p := ⟨g, s * 2 + 1, none⟩) hgw _⟩
        · have hqs := eqlS pa pb
          have hfb : (pa == 0 && pb == 1024) = false := by
            cases h1 : (pa == 0 && pb == 1024) with
            | false => rfl
            | true =>
              rw [Bool.and_eq_true, beq_iff_eq, beq_iff_eq] at h1
              exact absurd (by rw [h1.1, h1.2]; rfl) hpn
          rw [hfb] at hqs
          clear hfb
          refine wpR_regionIn ?_ (Gr) 9999 (by kernel_rfl) (by kernel_rfl) ?_
          · rintro ⟨_, _, h⟩; exact h
          (rw [← hwe]; replace hwe := Lib.hid hwe)
          refine wpR_take (i := 0) (v := ?_) (Gr.road) (some 44) rfl (by kernel_rfl) (by kernel_rfl) (by kernel_rfl) (by kernel_rfl) (by kernel_rfl) (fun _ _ _ h => h) (by kernel_rfl) (fun w' hw' => ?_) ?_
          rotate_left
          · have z0 := blk_cell (j := 0) (blk_below hI15.out (hge2.out.trans hw')) rfl; go_simp; with_reducible rfl
          simp only [Act.put, List.setIfInBounds_toArray, List.set_cons_zero, List.set_cons_succ]
          refine wpR_take (i := 1) (v := ?_) (Gr.road) (some 45) rfl (by kernel_rfl) (by kernel_rfl) (by kernel_rfl) (by kernel_rfl) (by kernel_rfl) (fun _ _ _ h => h) (by kernel_rfl) (fun w' hw' => ?_) ?_
          rotate_left
          · have z0 := blk_cell (j := 0) (blk_below hbV5.out (hge2.out.trans hw')) rfl; have z1 := blk_cell (j := 1) (blk_below hbV5.out (hge2.out.trans hw')) rfl; have z2 := blk_cell (j := 2) (blk_below hbV5.out (hge2.out.trans hw')) rfl; have z3 := blk_cell (j := 3) (blk_below hbV5.out (hge2.out.trans hw')) rfl; go_simp; with_reducible rfl
          simp only [Act.put, List.setIfInBounds_toArray, List.set_cons_zero, List.set_cons_succ]
          refine wpR_take (i := 2) (v := ?_) (Gr.road) (some 46) rfl (by kernel_rfl) (by kernel_rfl) (by kernel_rfl) (by kernel_rfl) (by kernel_rfl) (fun _ _ _ h => h) (by kernel_rfl) (fun w' hw' => ?_) ?_
          rotate_left
          · have hkq := hlkq.out _ hw'; go_simp; with_reducible rfl
          simp only [Act.put, List.setIfInBounds_toArray, List.set_cons_zero, List.set_cons_succ]
          refine wpR_take (i := 3) (v := ?_) (Gr.road) (some 47) rfl (by kernel_rfl) (by kernel_rfl) (by kernel_rfl) (by kernel_rfl) (by kernel_rfl) (fun _ _ _ h => h) (by kernel_rfl) (fun w' hw' => ?_) ?_
          rotate_left
          · go_simp; with_reducible rfl
          simp only [Act.put, List.setIfInBounds_toArray, List.set_cons_zero, List.set_cons_succ]
          refine wpR_take (i := 4) (v := ?_) (Gr.road) (some 48) rfl (by kernel_rfl) (by kernel_rfl) (by kernel_rfl) (by kernel_rfl) (by kernel_rfl) (fun _ _ _ h => h) (by kernel_rfl) (fun w' hw' => ?_) ?_
          rotate_left
          · go_simp; with_reducible rfl
          simp only [Act.put, List.setIfInBounds_toArray, List.set_cons_zero, List.set_cons_succ]
          refine wpR_take (i := 5) (v := ?_) (Gr.road) (some 49) rfl (by kernel_rfl) (by kernel_rfl) (by kernel_rfl) (by kernel_rfl) (by kernel_rfl) (fun _ _ _ h => h) (by kernel_rfl) (fun w' hw' => ?_) ?_
          rotate_left
          · have y0 := blk_cell (j := s * 2) (blk_below hblk.out hw') (by rw [List.getElem?_toArray]; exact hx0.out); have y1 := blk_cell (j := s * 2 + 1) (blk_below hblk.out hw') (by rw [List.getElem?_toArray]; exact hx1.out); go_simp; with_reducible rfl
          simp only [Act.put, List.setIfInBounds_toArray, List.set_cons_zero, List.set_cons_succ]
          refine wpR_one 6 rfl (by kernel_rfl) (by kernel_rfl) (fun K hK => ?_)
          go_simp
          refine (nowhere_any we).mono ?_
          rintro e wa ⟨rfl, hga⟩
          refine hK _ _ (fun _ => hga) ?_
          clear hK K
          have hga' := Lib.hid hga
          clear hga
          try simp only [Act.put, List.setIfInBounds_toArray, List.set_cons_zero, List.set_cons_succ]
          refine wpR_take (i := 7) (v := ?_) (Gr.road) (some 51) rfl (by kernel_rfl) (by kernel_rfl) (by kernel_rfl) (by kernel_rfl) (by kernel_rfl) (fun _ _ _ h => h) (by kernel_rfl) (fun w' hw' => ?_) ?_
          rotate_left
          · go_simp; with_reducible rfl
          simp only [Act.put, List.setIfInBounds_toArray, List.set_cons_zero, List.set_cons_succ]
          refine wpR_done (by kernel_rfl) ?_ _
          gi_wp2
          have hga3 := hge2.out.trans hga'.out
          have hst := CpM.step (W' := wa) (hTe2.gr hga'.out) (f := ⟨ct, ps, ⟨2, rc, ry, rg, gr, G, ix, rz, ru, rd⟩⟩) hvo hgood.out rfl hmem hS5.out rfl (by
            rw [placesOf_keep hgood.out rfl (by rw [hso.out]; show placeOf (cP pre) ⟨ry, rg, rz, ru⟩ s ≠ nowP; rw [hp]; exact hpn)]
            exact blk_below hblk.out hga'.out) (fun e he hne => rfl)
          refine ⟨by (try rw [← hsz]); exact hKF5.out.trans (KeepsFrom.of_grownBy hga3.grown (fun j e => by cases e)), hBl5.out.trans (Below.mono hga3 (Nat.le_trans hI2.size hBl5.out.size)), blk_below hI15.out hga3, ⟨_, by rw [e9, List.length_append]; exact hst⟩, hI2.trans (hBl5.out.trans (Below.mono hga3 (Nat.le_trans hI2.size hBl5.out.size)))⟩
    · dsimp only [Fe.agg]
      have hk' : (rk != 2) = true := by simpa using hk
      gi_wp2
      exact ⟨(KeepsOthers.alloc _ _).from _, (Below.refl _ W).alloc hI2.size _, hI1.alloc _, ⟨Cs, by rw [e9, List.length_append]; exact ((hT.gr hgR).other hk).more (Nat.le_succ _)⟩, hI2.alloc hI2.size _⟩
  case done =>
    rintro D ys W hD hS ⟨hI1, ⟨Cs, hT⟩, hI2⟩ hK
    have c0 := hI1.cell
    have hle : ys.length ≤ m + 1 := by
      have h1 := congrArg List.length hS
      rw [List.length_map] at h1
      have h2 : (ctE E).length ≤ E.length := List.length_filter_le _ _
      omega
    gi_wp2
    refine ⟨by simp, .inl ⟨_, _, rfl, run_takeDeferred hK, ?_⟩⟩
    refine ⟨_, results_tmp rfl _ _ _, w.heap.size, Cs, rfl, Nat.le_refl _, ?_, hI2.trans (belowK_b (w := w) (Nat.le_refl _) W D _ _ (by omega) hK rfl rfl)⟩
    rw [← cP_all hS]
    exact (hT.grown (grownBy_putObj' W D _) (fun e => by injection e with e; omega) (fun r e => by injection e with e; subst e; exact ⟨_, hK, rfl⟩)).more hle
  case stop =>
    rintro D c pre W _ _ h _
    exact h.elim
end Go.Proofs.Ytiliggleplpjbaa
