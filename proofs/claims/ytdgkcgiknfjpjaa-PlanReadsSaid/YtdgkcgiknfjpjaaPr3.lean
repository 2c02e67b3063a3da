/- The law PlanReads. -/
import Derived.Test.YtdgkcgiknfjpjaaPr2
import Derived.Deep.CutBlock
import Derived.Deep.DeepCutAuto
namespace Go.Proofs.Ytdgkcgiknfjpjaa
set_option linter.unusedVariables false
set_option linter.unusedSimpArgs false
open Go Go.RowKit
def RU16 (w : World) (A : Option Addr) (n : Nat) (lk : List Nat) : Prop := Reads w w.heap.size 1 A n (lk.map (fun (x : Nat) => Value.int .u16 (x : Int)))
theorem RU16.gr {w w' : World} {A : Option Addr} {n : Nat} {l : List Nat} (hr : Gr w w') (h : RU16 w A n l) : RU16 w' A n l := Reads.more (Reads.below h hr) (Below.size hr)
theorem RU16.len {w : World} {A : Option Addr} {n : Nat} {l : List Nat} (h : RU16 w A n l) : l.length = n := by have := h.1; rw [List.length_map] at this; omega
theorem RU16.at_ {w : World} {A : Option Addr} {n : Nat} {l : List Nat} (h : RU16 w A n l) {k x : Nat} (hk : l[k]? = some x) : ∃ ad, A = some ad ∧ w.cell? (ad.add k) = some (.int .u16 x) := by
  have hkn : k < n := by rw [← h.len]; exact (List.getElem?_eq_some_iff.mp hk).1
  obtain ⟨ad, u, e, -, hu, hc⟩ := Reads.at_ h hkn
  rw [List.getElem?_map, hk] at hu
  injection hu with hu
  exact ⟨ad, e, by rw [hc, ← hu]⟩
theorem bit_one9 (x : Int) : bits BinOp.and .u16 x 1 = 0 ∨ bits BinOp.and .u16 x 1 = 1 := by
  have h : ((BitVec.ofInt 16 x) &&& (BitVec.ofInt 16 1)).toNat = 0 ∨ ((BitVec.ofInt 16 x) &&& (BitVec.ofInt 16 1)).toNat = 1 := by
    have h1 : (BitVec.ofInt 16 1).toNat = 1 := by decide
    rw [BitVec.toNat_and, h1, Nat.and_one_is_mod]
    omega
  show IntKind.u16.wrap ((((BitVec.ofInt 16 x) &&& (BitVec.ofInt 16 1)).toNat : Nat) : Int) = 0 ∨ IntKind.u16.wrap ((((BitVec.ofInt 16 x) &&& (BitVec.ofInt 16 1)).toNat : Nat) : Int) = 1
  rcases h with h | h
  · left; rw [h]; decide
  · right; rw [h]; decide
theorem lackP_yes9 {lk k : Nat} (h : lackP lk k = true) : bits BinOp.and .u16 ((lk : Int) / 2 ^ k) 1 = 1 := beq_iff_eq.mp h
theorem lackP_no9 {lk k : Nat} (h : lackP lk k = false) : bits BinOp.and .u16 ((lk : Int) / 2 ^ k) 1 = 0 := by
  rcases bit_one9 ((lk : Int) / 2 ^ k) with h1 | h1
  · exact h1
  · have : lackP lk k = true := beq_iff_eq.mpr h1
    rw [h] at this
    cases this
theorem lackS_some {lk : List Nat} {g x : Nat} (h : lk[g]? = some x) : cntQ (fun j => lackS lk (10 * g + j)) 10 = cntQ (lackP x) 10 := cntQ_congr fun j hj => by
  unfold lackS
  rw [show (10 * g + j) / 10 = g by omega, h, show (10 * g + j) % 10 = j by omega]
theorem lackS_none {lk : List Nat} {g : Nat} (h : lk.length ≤ g) : cntQ (fun j => lackS lk (10 * g + j)) 10 = 0 := by
  have : cntQ (fun j => lackS lk (10 * g + j)) 10 = cntQ (fun _ => false) 10 := cntQ_congr fun j hj => by
    unfold lackS
    rw [show (10 * g + j) / 10 = g by omega, List.getElem?_eq_none h]
  rw [this, cntQ_none]
set_option maxHeartbeats 16000000 in
set_option maxRecDepth 20000 in
theorem planReads_any (A : Option Addr) (n c : Nat) (l : List UInt8) (hn : l.length = n) (hnc : n ≤ c) (hcm : c ≤ maxLen) (LA : Option Addr) (ln lc : Nat) (lk : List Nat) (hlk : ∀ x ∈ lk, x < 65536) (w : World) (hr : Rd w w.heap.size A l) (hL : RU16 w LA ln lk) :
    Calls Try.prog 10 #[.slice A n c, .slice LA ln lc] w fun e w' => e = .returned (.bool true) ∧ Gr w w' := by
  have hLlen := hL.len
  replace hlk := Lib.hid hlk
  have hsh := Lib.hid (short19_any A n c l 512 (by decide) (by decide) (Lib.hid hn) hnc (by simp only [maxLen] at hcm; omega) w (Lib.hid hr))
  have hd5 : (l.take 512).length ≤ 512 := by rw [List.length_take]; omega
  obtain ⟨d, hd⟩ : ∃ d, l.take 512 = d := ⟨_, rfl⟩
  rw [hd] at hsh hd5
  replace hd := Lib.hid hd
  clear hn hnc hcm hr
  go_enter Try.func10, Try.ntmps10
  go_wp2_with fail
  refine hsh.out.mono ?_
  clear hsh
  rintro e w1 ⟨A1, n1, cq, rfl, ho1, hn1, hg1⟩
  have hd5n := hd5
  rw [hn1.out] at hd5
  obtain ⟨A1x, c1x, e1x, hc1x, -⟩ := ho1.out.form
  injection e1x with e1a e1b e1c
  subst e1a e1c
  rw [hn1.out] at hc1x
  clear e1b
  obtain ⟨hgq, hq1, hq4, hqn⟩ := ngrp_spec hd5
  obtain ⟨q, hq⟩ : ∃ q, ngrp n1 = q := ⟨_, rfl⟩
  obtain ⟨m, hm⟩ : ∃ m, 10 * q = m := ⟨_, rfl⟩
  have hs := Lib.hid (entry_any A1 n1 cq d hn1.out hc1x hd5 m (by rw [hq, hm]) w1 ho1.out.rd.1)
  rw [hq] at hs hq1 hq4
  have hm60 : m ≤ 60 := by omega
  have hq2 : Hid (ngrp d.length = q) := Lib.hid (by rw [hn1.out, hq])
  replace hd5n := Lib.hid hd5n
  replace hq := Lib.hid hq
  replace hg1 := Lib.hid hg1
  replace hqn := Lib.hid hqn
  replace hgq := Lib.hid hgq
  go_wp2_with fail
  refine hs.out.mono ?_
  clear hs
  rintro e w2 ⟨hg2, PA, pc, lv, sv, E, rfl, hpc, hpm, hE, hvs, hrow⟩
  rw [show (⟨[107], 3, d, q⟩ : Rp).l = d from rfl, hn1.out, show bs (⟨[107], 3, d, q⟩ : Rp).key = { data := #[107] } from rfl, show (⟨[107], 3, d, q⟩ : Rp).gen = 3 from rfl]
  have hEl : E.length = m := by rw [← hm, ← recsP_len ⟨[107], 3, d, q⟩, ← hE, List.length_map]
  have hBS : BlobS d q (fun _ _ => false) (E.map (·.r.data)) := blobS_all hE
  rw [← hEl] at hrow
  have hT := tbl_rows hrow hvs
  obtain ⟨SS, hSS⟩ : ∃ SS, E.map (·.r.data) = SS := ⟨_, rfl⟩
  rw [hSS] at hBS hT
  obtain ⟨sm, hsm⟩ : ∃ sm, dg d = sm := ⟨_, rfl⟩
  rw [hsm]
  have hj0 : joinOk (splD d) (n1 : Int) = true := by rw [← hn1.out]; exact join_spl hd5n.out
  have hv0 : joinV (splD d) (n1 : Int) = d := by rw [← hn1.out]; exact join_back hd5n.out
  have hvd : dg (joinV (splD d) (n1 : Int)) = sm := by rw [hv0, hsm]
  have hnz : R64 (n1 : Int) := ⟨by omega, by omega⟩
  have ho2 : Hid (OB w2 w.heap.size (.slice A1 n1 cq) d) := Lib.hid (row_below ho1.out hg2)
  have hg2' := Lib.hid (hg1.out.trans hg2)
  have ho2k := ho2
  have hwB0 := hg2'.out.size
  have x8 := heap_alloc_new w2 (.cells #[.string { data := #[107] }, .int .i64 3, .int .i64 (n1 : Int), .string (bs sm), .slice PA m pc] 55)
  have hr8 := alloc_grB w2 (.cells #[.string { data := #[107] }, .int .i64 3, .int .i64 (n1 : Int), .string (bs sm), .slice PA m pc] 55)
  have hT8 := (Tbl.gr hr8 (Lib.hid hT)).out
  have ho8 := row_below ho2.out hr8
  replace hg2' := Lib.hid (hg2'.out.trans hr8)
  have hL2 := hL.gr (hg1.out.trans hg2)
  obtain ⟨bs_, Sc, eSv, hSc, hScm, -, hSb, -, -, hScell, -⟩ := row_at hrow (by rw [hEl]; omega)
  subst eSv
  rw [hEl]
  have hm40 : m ≤ 40 := by omega
  have hm10 : 10 ≤ m := by omega
  replace hE := Lib.hid hE
  replace hSS := Lib.hid hSS
  replace hsm := Lib.hid hsm
  replace hEl := Lib.hid hEl
  replace hBS := Lib.hid hBS
  replace hm := Lib.hid hm
  replace hj0 := Lib.hid hj0
  replace hv0 := Lib.hid hv0
  replace hvd := Lib.hid hvd
  replace hrow := Lib.hid hrow
  replace hvs := Lib.hid hvs
  replace hT8 := Lib.hid hT8
  replace ho8 := Lib.hid ho8
  clear hT hg2 ho1 hr8 ho2
  replace hL2 := Lib.hid hL2
  replace hScell := Lib.hid hScell
  clear hL
  obtain ⟨B, hB⟩ : ∃ B, w2.heap.size = B := ⟨_, rfl⟩
  rw [hB] at hwB0
  go_upto_region 3 with (fail)
  obtain ⟨w8, hw8⟩ : ∃ w8, w2.alloc (.cells #[.string { data := #[107] }, .int .i64 3, .int .i64 (n1 : Int), .string (bs sm), .slice PA m pc] 55) = w8 := ⟨_, rfl⟩
  have hz8 : w8.heap.size = B + 1 := by rw [← hw8, World.size_alloc, hB]
  rw [hB] at x8
  rw [hw8] at x8 hT8 ho8 hg2' ⊢
  have hg28 : Gr w2 w8 := by rw [← hw8]; exact alloc_grB _ _
  have hmkb := bools_make w8 m (by omega)
  rw [hz8] at hmkb
  replace hw8 := Lib.hid hw8
  go_upto_region 4 with (fail)
  have xa := heap_alloc_new w8 (.cells (boolV (List.replicate m false)) 4)
  have hga := alloc_grB w8 (.cells (boolV (List.replicate m false)) 4)
  obtain ⟨w9, hw9⟩ : ∃ w9, w8.alloc (.cells (boolV (List.replicate m false)) 4) = w9 := ⟨_, rfl⟩
  have hz9 : w9.heap.size = B + 2 := by rw [← hw9, World.size_alloc, hz8]
  rw [hz8] at xa
  rw [hw9] at xa hga ⊢
  clear hmkb
  have hmks := slices_make w9 m (by omega) (rowsE E)
  rw [hz9] at hmks
  replace hw9 := Lib.hid hw9
  go_upto_region 5 with (fail)
  have xg := heap_alloc_new w9 (.cells (gotV (rowsE E) (fun _ => false) m) 22)
  have hgb := alloc_grB w9 (.cells (gotV (rowsE E) (fun _ => false) m) 22)
  obtain ⟨wA, hwA⟩ : ∃ wA, w9.alloc (.cells (gotV (rowsE E) (fun _ => false) m) 22) = wA := ⟨_, rfl⟩
  have hzA : wA.heap.size = B + 3 := by rw [← hwA, World.size_alloc, hz9]
  rw [hz9] at xg
  rw [hwA] at xg hgb ⊢
  clear hmks
  replace hwA := Lib.hid hwA
  have xaA := blk_below xa hgb
  have x8A := blk_below (blk_below x8 hga) hgb
  have hg2A := hg28.trans (hga.trans hgb)
  have hgwA := hg2'.out.trans (hga.trans hgb)
  replace hz8 := Lib.hid hz8
  replace hz9 := Lib.hid hz9
  clear xa x8 hga hgb hg28
  replace xg := Lib.hid xg
  replace xaA := Lib.hid xaA
  replace x8A := Lib.hid x8A
  replace hg2A := Lib.hid hg2A
  replace hgwA := Lib.hid hgwA
  replace hzA := Lib.hid hzA
  replace hB := Lib.hid hB
  have c0 := blk_cell (j := 0) x8A.out rfl
  have c1 := blk_cell (j := 1) x8A.out rfl
  have c2 := blk_cell (j := 2) x8A.out rfl
  have c3 := blk_cell (j := 3) x8A.out rfl
  have c4 := blk_cell (j := 4) x8A.out rfl
  obtain ⟨hf1, hf2, hf3, hf4, hf5⟩ := first_nil hq1 hq4
  replace hf5 := Lib.hid hf5
  have hfi := Lib.hid (first_any ⟨[107], 3, (n1 : Int), sm⟩ PA m pc (by omega) none 0 0 [] wA (Lib.hid ⟨rfl, fun h => absurd h (by decide)⟩))
  rw [show bs (⟨[107], 3, (n1 : Int), sm⟩ : En).key = { data := #[107] } from rfl, show m / 10 = q by have := hm.out; omega] at hfi
  replace hf1 := Lib.hid hf1
  replace hf2 := Lib.hid hf2
  replace hf3 := Lib.hid hf3
  replace hf4 := Lib.hid hf4
  go_wp2_with fail
  clear c0 c1 c2 c3 c4
  refine hfi.out.mono ?_
  clear hfi
  rintro r w5 ⟨TA, tc, td, tb, rfl, hv, htc, -, htr, hr5⟩
  have hv2 := hv.out
  rw [hf1.out] at hv2
  obtain ⟨rfl, rfl⟩ := Prod.mk.inj hv2
  clear hv hv2
  obtain ⟨td, htd⟩ : ∃ td, catF [] q = td := ⟨_, rfl⟩
  rw [htd] at htr htc hf2 hf3 ⊢
  obtain ⟨T, hT9⟩ : ∃ T, td.length = T := ⟨_, rfl⟩
  rw [hT9] at htr htc ⊢
  have hTm : T ≤ m := by rw [← hT9]; have := List.Nodup.length_le_of_subset hf2.out (l₂ := List.range (10 * q)) (fun s hs => List.mem_range.mpr (hf3.out s hs)); rw [List.length_range, hm.out] at this; exact this
  replace htd := Lib.hid htd
  replace hT9 := Lib.hid hT9
  have xa5 := blk_below xaA.out hr5
  have xg5 := blk_below xg.out hr5
  have x85 := blk_below x8A.out hr5
  have hg25 := hg2A.out.trans hr5
  have hgw5 := hgwA.out.trans hr5
  have hB5 : B + 3 ≤ w5.heap.size := by rw [← hzA.out]; exact hr5.size
  replace xa5 := Lib.hid xa5
  replace xg5 := Lib.hid xg5
  replace x85 := Lib.hid x85
  replace hg25 := Lib.hid hg25
  replace hgw5 := Lib.hid hgw5
  clear hr5 xaA xg x8A hg2A hgwA hT8 ho8 hg2'
  have hLG : Hid (∀ (x y : Nat), lk[x]? = some y → x < ln ∧ y < 65536 ∧ ∃ bL oL, LA = some ⟨bL, oL, none⟩ ∧ ∀ w', Gr w2 w' → w'.cell? ⟨bL, oL + x, none⟩ = some (.int .u16 y)) := Lib.hid (fun x y hy => by
    have hyl := (List.getElem?_eq_some_iff.mp hy).1
    refine ⟨by rw [← hLlen]; exact hyl, hlk.out y (List.mem_of_getElem? hy), ?_⟩
    obtain ⟨ad, e1, c1⟩ := hL2.out.at_ (k := 0) (List.getElem?_eq_getElem (show 0 < lk.length by omega))
    obtain ⟨bL, oL, e2⟩ := addr_flatP c1
    subst e2
    refine ⟨bL, oL, e1, fun w' hw' => ?_⟩
    obtain ⟨ad2, e3, c3⟩ := (hL2.out.gr hw').at_ hy
    rw [e1] at e3
    injection e3 with e3
    subst e3
    rw [addr_addP] at c3
    exact c3)
  have hN0 : Hid (OIp (w5.alloc (.cells #[] 3)) w5.heap.size (.slice (some ⟨w5.heap.size, 0, none⟩) 0 0) []) := Lib.hid (World.ownsRow_made w5 #[] 0 (Nat.le_refl _) (by simp [maxLen]) rfl)
  have hU0 : Hid (Upd (· = B + 1) w5 (w5.alloc (.cells #[] 3))) := Lib.hid (Upd.of_below (alloc_grB _ _))
  have hxa0 := Lib.hid (blk_alloc xa5.out (.cells #[] 3))
  have hT0 : 0 < T := by rw [← hT9.out, ← htd.out, hf5.out]; omega
  obtain ⟨ad0, u0, eTA, hbtl, hu0, d0⟩ := Reads.at_ htr.out (k := 0) hT0
  obtain ⟨bt, ot, eAD⟩ := addr_flatP d0
  subst eAD
  subst eTA
  have hu0' : ∃ x0 : Nat, u0 = .int .i64 x0 := by
    unfold icells at hu0
    rw [List.getElem?_map] at hu0
    obtain ⟨x0, -, h0⟩ := Option.map_eq_some_iff.mp hu0
    exact ⟨x0, h0.symm⟩
  have hbta : bt ≠ B + 1 := fun e => by
    obtain ⟨x0, e0⟩ := hu0'
    rw [e0, addr_addP, e] at d0
    have h9 : w5.cell? ⟨B + 1, ot + 0, none⟩ = (boolV (List.replicate m false))[ot + 0]? := by
      unfold World.cell?
      rw [show (⟨B + 1, ot + 0, none⟩ : Addr).block = B + 1 from rfl, xa5.out]
      rfl
    rw [h9] at d0
    exact boolV_noint d0
  have htdc : Hid (∀ w', Upd (· = B + 1) w5 w' → ∀ (k x : Nat), td[k]? = some x → w'.cell? ⟨bt, ot + k, none⟩ = some (.int .i64 x)) := Lib.hid (fun w' hU' k x hk => by
    have hkT : k < T := by rw [← hT9.out]; exact (List.getElem?_eq_some_iff.mp hk).1
    obtain ⟨ad', u', e', -, hu', hc'⟩ := Reads.at_ htr.out hkT
    injection e' with e'
    subst e'
    unfold icells at hu'
    rw [List.getElem?_map, hk] at hu'
    injection hu' with hu'
    rw [addr_addP] at hc'
    rw [hU'.cell (p := ⟨bt, ot + k, none⟩) hbtl hbta, hc', ← hu'])
  clear hu0 hu0' d0
  go_wp2_with fail
  go_loopw [13, 14] (fun v iv wr => ∃ (i : Nat) (fl : List Bool) (NV : Value), i ≤ T ∧ iv = .int .i64 i ∧ NV = v ∧ Hid (As m fl (td.take i)) ∧ Hid (wr.heap[B + 1]? = some (.cells (boolV fl) 4 (0, 0))) ∧ Hid (OIp wr w5.heap.size NV (td.take i)) ∧ Hid (Upd (· = B + 1) w5 wr)) (fun _ iv _ => T - (intOf iv).toNat)
  case atStart => exact ⟨0, _, _, Nat.zero_le _, rfl, rfl, Lib.hid (As.nil_ m), hxa0, hN0, hU0⟩
  case round =>
    clear hxa0 hN0 hU0
    obtain ⟨i, fl, NV, hiT, rfl, rfl, hAs, hxa, hN, hU⟩ := hrel
    obtain ⟨wo, hwo⟩ : ∃ wo, wo = wr := ⟨_, rfl⟩
    subst hwo
    have hti : (td.take i).length = i := by rw [List.length_take, hT9.out]; omega
    obtain ⟨NA, Nc, eN, -, -, -⟩ := hN.out.form
    rw [hti] at eN
    subst eN
    by_cases hlt : i < T
    · have ik : (i : Int) < (T : Int) := by omega
      obtain ⟨x, hx⟩ : ∃ x, td[i]? = some x := ⟨_, List.getElem?_eq_getElem (by rw [hT9.out]; exact hlt)⟩
      have hxm : x < m := by rw [← hm.out]; exact hf3.out x (List.mem_of_getElem? hx)
      have hx0 : ¬ ((x : Int) < 0) := by omega
      have hxmi : (x : Int) < (m : Int) := by omega
      have hnx := nodup_take hf2.out hx
      have z := htdc.out wo hU.out i x hx
      have za : wo.cell? ⟨B + 1, x, none⟩ = some (.bool false) := by
        have := blk_cell (j := x) hxa.out (boolV_get hAs.out.len hxm)
        rw [hAs.out.flag x hxm, decide_eq_false hnx] at this
        exact this
      have fa := blk_free hxa.out x
      have hxa2 : (wo.setCell ⟨B + 1, x, none⟩ (.bool true)).heap[B + 1]? = some (.cells (boolV (fl.set x true)) 4 (0, 0)) := by rw [← boolV_set]; exact blk_set hxa.out x _
      have hU2 : Upd (· = B + 1) w5 (wo.setCell ⟨B + 1, x, none⟩ (.bool true)) := hU.out.trans (Upd.of_grown (blk_grown wo (B + 1) x _) rfl)
      have hN2 : OIp (wo.setCell ⟨B + 1, x, none⟩ (.bool true)) w5.heap.size (.slice NA i Nc) (td.take i) := row_set_other hN.out (B + 1) x _ (fun e => by have := (hN.out.lt (B + 1) e).1; omega)
      have zS := htdc.out _ hU2 i x hx
      have hB2 : w5.heap.size ≤ (wo.setCell ⟨B + 1, x, none⟩ (.bool true)).heap.size := hU2.size
      have hAs2 := Lib.hid (hAs.out.snoc hxm hnx)
      have htn := take_next hx
      rw [← htn] at hAs2
      replace htn := Lib.hid htn
      replace hx := Lib.hid hx
      replace hxa2 := Lib.hid hxa2
      replace hU2 := Lib.hid hU2
      replace hN2 := Lib.hid hN2
      replace hti := Lib.hid hti
      clear hnx
      go_wp2_with (at_builtin; go_must (refine wpl_appI rfl (.tmp 82) (.tmp 87) rfl w5.heap.size (.slice NA i Nc) (td.take i) rfl (hN2.out.below (alloc_grB _ _)) _ 1 1 [x] rfl (by have h0 := reads_one (wo.setCell ⟨B + 1, x, none⟩ (.bool true)) 3 (.int .i64 x); rw [show (wo.setCell ⟨B + 1, x, none⟩ (.bool true)).heap.size = wo.heap.size from by simp] at h0; exact h0) (by rw [hti.out]; omega) (by simp; simpa using Nat.le_succ_of_le hB2) ?_; intro v8 w8 hN8 hb8; have hxa8 := Lib.hid ((hb8.block (B + 1) (by omega)).trans (blk_alloc hxa2.out _)); have hU8 := Lib.hid (Upd.low (hU2.out.trans (Upd.of_below (alloc_grB _ _))) hb8); rw [← htn.out] at hN8; replace hN8 := Lib.hid hN8; clear hb8))
      go_roundw
      case rel => first | exact ⟨i + 1, _, _, by omega, by go_num, rfl, hAs2, hxa8, hN8, hU8⟩ | ((repeat apply Exists.intro); exact ⟨⟨i + 1, _, _, by omega, by go_num, rfl, hAs2, hxa8, hN8, hU8⟩, rfl⟩)
      case measure => simp [intOf]; omega
    · obtain rfl : i = T := by omega
      have hik : decide ((i : Int) < (i : Int)) = false := decide_eq_false (by omega)
      have htt : td.take i = td := List.take_of_length_le (by rw [hT9.out]; exact Nat.le_refl _)
      rw [htt] at hAs hN
      have hR0 := Lib.hid (Rdq.start (lk := lk) hq1 hq4 (by rw [htd.out, hm.out]; exact hAs.out))
      rw [htd.out] at hR0
      have hU0 : Hid (Upd (fun k => k = B + 1 ∨ k = B + 2) w5 wo) := Lib.hid ⟨hU.out.1, hU.out.2.1, hU.out.2.2.1, hU.out.2.2.2.1, fun k hk hn => hU.out.2.2.2.2 k hk (fun e => hn (.inl e))⟩
      have hxg0 : Hid (wo.heap[B + 2]? = some (.cells (gotV (rowsE E) (fun s => decide (s ∈ td.take 0) && !lackS lk s) m) 22 (0, 0))) := Lib.hid (by
        rw [gotV_congr (D' := fun _ => false) (fun s => by simp)]
        exact (hU.out.2.2.2.2 (B + 2) (by omega) (by omega)).trans xg5.out)
      replace htt := Lib.hid htt
      clear hti
      go_wp2_with fail
      clear hik
      go_loopw [13, 15] (fun v iv wr => ∃ (i2 N : Nat) (X : List Nat) (fl : List Bool) (NV : Value), i2 ≤ N ∧ N ≤ m ∧ Hid (X.length = N) ∧ iv = .int .i64 i2 ∧ NV = v ∧ Hid (Rdq lk q fl X i2) ∧ Hid (wr.heap[B + 1]? = some (.cells (boolV fl) 4 (0, 0))) ∧ Hid (wr.heap[B + 2]? = some (.cells (gotV (rowsE E) (fun s => decide (s ∈ X.take i2) && !lackS lk s) m) 22 (0, 0))) ∧ Hid (OIp wr w5.heap.size NV X) ∧ Hid (Upd (fun k => k = B + 1 ∨ k = B + 2) w5 wr)) (fun _ iv _ => m - (intOf iv).toNat)
      case atStart => exact ⟨0, i, td, fl, _, Nat.zero_le _, hTm, hT9, rfl, rfl, hR0, hxa, hxg0, hN, hU0⟩
      case round =>
        clear hR0 hxg0 hU0 hxa hN hAs hU
        obtain ⟨k, N, X, f2, NV2, hkN, hNm, hX, rfl, rfl, hR, hxa, hxg, hN, hU⟩ := hrel
        obtain ⟨wi, hwi⟩ : ∃ wi, wi = wr := ⟨_, rfl⟩
        subst hwi
        obtain ⟨NB, Nd, eN, -, -, -⟩ := hN.out.form
        rw [hX.out] at eN
        subst eN
        have hx8i : Hid (wi.heap[B]? = some (.cells #[.string { data := #[107] }, .int .i64 3, .int .i64 (n1 : Int), .string (bs sm), .slice PA m pc] 55 (0, 0))) := Lib.hid ((hU.out.2.2.2.2 B (by omega) (by omega)).trans x85.out)
        have hgi : Hid (Gr w2 wi) := Lib.hid (by
          have h0 := Upd.to_below hg25.out hU.out hg25.out.size (fun k hk => by rw [hB.out]; omega)
          exact h0)
        have hgwi : Hid (Gr w wi) := Lib.hid (by
          have h0 := Upd.to_below hgw5.out hU.out (by have := hgw5.out.size; omega) (fun k hk => by omega)
          exact h0)
        by_cases hlt2 : k < N
        · have ik : (k : Int) < (N : Int) := by omega
          obtain ⟨s, hs⟩ : ∃ s, X[k]? = some s := ⟨_, List.getElem?_eq_getElem (by rw [hX.out]; exact hlt2)⟩
          have hsm : s < m := by rw [← hm.out]; exact hR.out.asd.lt s (List.mem_of_getElem? hs)
          obtain ⟨gN, cN, eNB, -, -, -, -, -, -, hNc, -⟩ := row_at hN.out (by rw [hX.out]; omega)
          injection eNB with eN1 eN2 eN3
          subst eN1
          clear eN2 eN3
          have zn : wi.cell? ⟨gN, k, none⟩ = some (.int .i64 s) := hNc k _ (by unfold icells; rw [List.getElem?_map, hs]; rfl)
          obtain ⟨x10, hx10⟩ : ∃ x, s / 10 = x := ⟨_, rfl⟩
          obtain ⟨r10, hr10⟩ : ∃ x, s % 10 = x := ⟨_, rfl⟩
          have e10 : (s : Int) / 10 = (x10 : Int) := by omega
          have e10m : (s : Int) % 10 = (r10 : Int) := by omega
          have hr10l : (r10 : Int) < 10 := by omega
          have hr10n : r10 < 10 := by omega
          have hcases : (lackS lk s = false ∧ (ln ≤ x10 ∨ ∃ y, lk[x10]? = some y ∧ lackP y r10 = false)) ∨ (lackS lk s = true ∧ ∃ y, lk[x10]? = some y ∧ lackP y r10 = true) := by
            unfold lackS
            rw [hx10, hr10]
            cases hy : lk[x10]? with
            | none => exact .inl ⟨rfl, .inl (by rw [← hLlen]; exact List.getElem?_eq_none_iff.mp hy)⟩
            | some y =>
              cases hy2 : lackP y r10 with
              | true => exact .inr ⟨hy2, y, rfl, hy2⟩
              | false => exact .inl ⟨hy2, .inr ⟨y, rfl, hy2⟩⟩
          have hLc := hLG.out x10
          rcases hcases with ⟨hlS, hor⟩ | ⟨hlS, y, hy, hyP⟩
          · have hR2 := Lib.hid (hR.out.good hs hlS)
            have hsc := hScell.out s
            obtain ⟨vs, hvs2⟩ : ∃ v, (rowsE E)[s]? = some v := ⟨_, List.getElem?_eq_getElem (by unfold rowsE; rw [List.length_map, hEl.out]; exact hsm)⟩
            have zs : wi.cell? ⟨bs_, s, none⟩ = some vs := (hgi.out.cell (p := ⟨bs_, s, none⟩) hSb).trans (hsc vs hvs2)
            obtain ⟨v0, hv0⟩ := gotV_some (rowsE E) (fun s => decide (s ∈ X.take k) && !lackS lk s) hsm
            have zg := blk_cell (j := s) hxg.out hv0
            have fg := blk_free hxg.out s
            obtain ⟨vA, vn, vc, evs⟩ : ∃ vA vn vc, vs = .slice vA vn vc := by
              unfold rowsE at hvs2
              rw [List.getElem?_map] at hvs2
              obtain ⟨x9, -, h9⟩ := Option.map_eq_some_iff.mp hvs2
              exact ⟨_, _, _, h9.symm⟩
            subst evs
            have hxg2 : (wi.setCell ⟨B + 2, s, none⟩ (.slice vA vn vc)).heap[B + 2]? = some (.cells (gotV (rowsE E) (fun s => decide (s ∈ X.take (k + 1)) && !lackS lk s) m) 22 (0, 0)) := by
              rw [← gotV_set (D := fun s => decide (s ∈ X.take k) && !lackS lk s) hvs2 (by rw [take_next hs, hlS]; simp) (fun x hx => by rw [take_next hs]; congr 1; rw [decide_eq_decide, List.mem_append]; simp [hx])]
              exact blk_set hxg.out s _
            have hxa2 : (wi.setCell ⟨B + 2, s, none⟩ (.slice vA vn vc)).heap[B + 1]? = some (.cells (boolV f2) 4 (0, 0)) := (blk_other (by omega) s _).trans hxa.out
            have hU2 : Upd (fun k => k = B + 1 ∨ k = B + 2) w5 (wi.setCell ⟨B + 2, s, none⟩ (.slice vA vn vc)) := hU.out.trans (Upd.of_grown (blk_grown wi (B + 2) s _) (.inr rfl))
            have hN2 : OIp (wi.setCell ⟨B + 2, s, none⟩ (.slice vA vn vc)) w5.heap.size (.slice (some ⟨gN, 0, none⟩) N Nd) X := row_set_other hN.out (B + 2) s _ (fun e => by have := (hN.out.lt (B + 2) e).1; omega)
            replace hxg2 := Lib.hid hxg2
            replace hxa2 := Lib.hid hxa2
            replace hU2 := Lib.hid hU2
            replace hN2 := Lib.hid hN2
            replace hs := Lib.hid hs
            replace hx10 := Lib.hid hx10
            replace hr10 := Lib.hid hr10
            replace hlS := Lib.hid hlS
            replace hv0 := Lib.hid hv0
            replace hvs2 := Lib.hid hvs2
            clear hNc hsc
            rcases hor with hge | ⟨y, hy, hyP⟩
            · have hgei : (ln : Int) ≤ (x10 : Int) := by omega
              clear hLc
              go_wp2_with fail
              go_roundw
              case rel => first | exact ⟨k + 1, N, X, f2, _, by omega, hNm, hX, by go_num, rfl, hR2, hxa2, hxg2, hN2, hU2⟩ | ((repeat apply Exists.intro); exact ⟨⟨k + 1, N, X, f2, _, by omega, hNm, hX, by go_num, rfl, hR2, hxa2, hxg2, hN2, hU2⟩, rfl⟩)
              case measure => simp [intOf]; omega
            · obtain ⟨hxl, hy16, bL, oL, eLA, hLcell⟩ := hLc y hy
              subst eLA
              have zl := hLcell wi hgi.out
              have hxli : (x10 : Int) < (ln : Int) := by omega
              have hb := lackP_no9 hyP
              replace hy := Lib.hid hy
              replace hyP := Lib.hid hyP
              clear hLc hLcell
              go_wp2_with fail
              go_roundw
              case rel => first | exact ⟨k + 1, N, X, f2, _, by omega, hNm, hX, by go_num, rfl, hR2, hxa2, hxg2, hN2, hU2⟩ | ((repeat apply Exists.intro); exact ⟨⟨k + 1, N, X, f2, _, by omega, hNm, hX, by go_num, rfl, hR2, hxa2, hxg2, hN2, hU2⟩, rfl⟩)
              case measure => simp [intOf]; omega
          · obtain ⟨hxl, hy16, bL, oL, eLA, hLcell⟩ := hLc y hy
            subst eLA
            have zl := hLcell wi hgi.out
            have hxli : (x10 : Int) < (ln : Int) := by omega
            have hb := lackP_yes9 hyP
            have c0 := blk_cell (j := 0) hx8i.out rfl
            have c1 := blk_cell (j := 1) hx8i.out rfl
            have c2 := blk_cell (j := 2) hx8i.out rfl
            have c3 := blk_cell (j := 3) hx8i.out rfl
            have c4 := blk_cell (j := 4) hx8i.out rfl
            have hfl := hR.out.asd.len
            rw [hm.out] at hfl
            have hmo := Lib.hid (more_any ⟨[107], 3, (n1 : Int), sm⟩ PA m pc (by omega) (some ⟨B + 1, 0, none⟩) m m f2 (s : Int) wi (Lib.hid (boolV_read hfl hxa.out)))
            rw [show bs (⟨[107], 3, (n1 : Int), sm⟩ : En).key = { data := #[107] } from rfl] at hmo
            replace hy := Lib.hid hy
            replace hyP := Lib.hid hyP
            replace hs := Lib.hid hs
            replace hx10 := Lib.hid hx10
            replace hr10 := Lib.hid hr10
            replace hlS := Lib.hid hlS
            clear hLc hLcell hNc
            go_wp2_with fail
            clear c0 c1 c2 c3 c4
            refine hmo.out.mono ?_
            clear hmo
            rintro e w6 ⟨k6, b6, rfl, hmo, hr6⟩
            have hmi : MoreIs f2 m s k6 b6 := by
              have h9 := hmo.out
              unfold MoreOf at h9
              rw [if_pos (by unfold slotB; simp; omega)] at h9
              exact h9
            have hxa6 := blk_below hxa.out hr6
            have hxg6 := blk_below hxg.out hr6
            have hN6 := hN.out.below hr6
            have hU6 := hU.out.trans (Upd.of_below hr6)
            have hsame : gotV (rowsE E) (fun s => decide (s ∈ X.take (k + 1)) && !lackS lk s) m = gotV (rowsE E) (fun s => decide (s ∈ X.take k) && !lackS lk s) m := gotV_congr (fun x => by
              rw [take_next hs.out]
              by_cases e : x = s
              · subst e; rw [hlS.out]; simp
              · congr 1
                rw [decide_eq_decide, List.mem_append]
                simp [e])
            clear hmo hr6
            cases b6 with
            | false =>
              have hR2 := Lib.hid (hR.out.none_ hs.out hlS.out (fun j hj hg => by
                have h9 := (hmi.2 rfl).2 j (by rw [← hm.out]; exact hj) hg
                rw [mark_get hfl (by rw [← hm.out]; exact hj)] at h9
                exact h9))
              rw [← hsame] at hxg6
              replace hsame := Lib.hid hsame
              replace hxa6 := Lib.hid hxa6
              replace hxg6 := Lib.hid hxg6
              replace hN6 := Lib.hid hN6
              replace hU6 := Lib.hid hU6
              replace hfl := Lib.hid hfl
              clear hmi
              go_wp2_with fail
              go_roundw
              case rel => first | exact ⟨k + 1, N, X, f2, _, by omega, hNm, hX, by go_num, rfl, hR2, hxa6, hxg6, hN6, hU6⟩ | ((repeat apply Exists.intro); exact ⟨⟨k + 1, N, X, f2, _, by omega, hNm, hX, by go_num, rfl, hR2, hxa6, hxg6, hN6, hU6⟩, rfl⟩)
              case measure => simp [intOf]; omega
            | true =>
              obtain ⟨hk6, hg6, hmk, -⟩ := hmi.1 rfl
              rw [mark_get hfl hk6] at hmk
              obtain ⟨hnX, hR2⟩ := hR.out.more hs.out hlS.out (by rw [hm.out]; exact hk6) hg6 hmk
              have hNm2 : N + 1 ≤ m := by
                have := hR2.asd.le
                rw [List.length_append, hX.out, hm.out] at this
                simpa using this
              have hk60 : ¬ ((k6 : Int) < 0) := by omega
              have hk6m : (k6 : Int) < (m : Int) := by omega
              have za : w6.cell? ⟨B + 1, k6, none⟩ = some (.bool false) := by
                have := blk_cell (j := k6) hxa6 (boolV_get hfl hk6)
                rw [hmk] at this
                exact this
              have fa := blk_free hxa6 k6
              have hxa2 : (w6.setCell ⟨B + 1, k6, none⟩ (.bool true)).heap[B + 1]? = some (.cells (boolV (f2.set k6 true)) 4 (0, 0)) := by rw [← boolV_set]; exact blk_set hxa6 k6 _
              rw [← hsame] at hxg6
              have hxg2 : (w6.setCell ⟨B + 1, k6, none⟩ (.bool true)).heap[B + 2]? = some (.cells (gotV (rowsE E) (fun s => decide (s ∈ (X ++ [k6]).take (k + 1)) && !lackS lk s) m) 22 (0, 0)) := by
                rw [List.take_append_of_le_length (by rw [hX.out]; omega)]
                exact (blk_other (by omega) k6 _).trans hxg6
              have hU2 : Upd (fun k => k = B + 1 ∨ k = B + 2) w5 (w6.setCell ⟨B + 1, k6, none⟩ (.bool true)) := hU6.trans (Upd.of_grown (blk_grown w6 (B + 1) k6 _) (.inl rfl))
              have hN2 : OIp (w6.setCell ⟨B + 1, k6, none⟩ (.bool true)) w5.heap.size (.slice (some ⟨gN, 0, none⟩) N Nd) X := row_set_other hN6 (B + 1) k6 _ (fun e => by have := (hN6.lt (B + 1) e).1; omega)
              have hB2 : w5.heap.size ≤ (w6.setCell ⟨B + 1, k6, none⟩ (.bool true)).heap.size := hU2.size
              have hX2 : Hid ((X ++ [k6]).length = N + 1) := Lib.hid (by rw [List.length_append, hX.out]; rfl)
              replace hsame := Lib.hid hsame
              replace hR2 := Lib.hid hR2
              replace hxa2 := Lib.hid hxa2
              replace hxg2 := Lib.hid hxg2
              replace hN2 := Lib.hid hN2
              replace hU2 := Lib.hid hU2
              replace hfl := Lib.hid hfl
              replace hmk := Lib.hid hmk
              replace hg6 := Lib.hid hg6
              clear hmi hxa6 hxg6 hN6 hU6 hnX
              go_wp2_with (at_builtin; go_must (refine wpl_appI rfl (.tmp 149) (.tmp 151) rfl w5.heap.size (.slice (some ⟨gN, 0, none⟩) N Nd) X rfl (hN2.out.below (alloc_grB _ _)) _ 1 1 [k6] rfl (by have h0 := reads_one (w6.setCell ⟨B + 1, k6, none⟩ (.bool true)) 3 (.int .i64 k6); rw [show (w6.setCell ⟨B + 1, k6, none⟩ (.bool true)).heap.size = w6.heap.size from by simp] at h0; exact h0) (by rw [hX.out]; omega) (by simp; simpa using Nat.le_succ_of_le hB2) ?_; intro v8 w9z hN8 hb8; have hxa8 := Lib.hid ((hb8.block (B + 1) (by omega)).trans (blk_alloc hxa2.out _)); have hxg8 := Lib.hid ((hb8.block (B + 2) (by omega)).trans (blk_alloc hxg2.out _)); have hU8 := Lib.hid (Upd.low (hU2.out.trans (Upd.of_below (alloc_grB _ _))) hb8); replace hN8 := Lib.hid hN8; clear hb8))
              go_roundw
              case rel => first | exact ⟨k + 1, N + 1, _, _, _, by omega, hNm2, hX2, by go_num, rfl, hR2, hxa8, hxg8, hN8, hU8⟩ | ((repeat apply Exists.intro); exact ⟨⟨k + 1, N + 1, _, _, _, by omega, hNm2, hX2, by go_num, rfl, hR2, hxa8, hxg8, hN8, hU8⟩, rfl⟩)
              case measure => simp [intOf]; omega
        · obtain rfl : k = N := by omega
          have hik : decide ((k : Int) < (k : Int)) = false := decide_eq_false (by omega)
          have hRl : Hid (Rdq lk q f2 X X.length) := Lib.hid (by rw [hX.out]; exact hR.out)
          have hXt : X.take k = X := List.take_of_length_le (by rw [hX.out]; exact Nat.le_refl _)
          have hvi : ∀ x ∈ E, ReV x wi := fun x hx => (hvs.out x hx).gr hgi.out
          have hTG := gotV_tbl (c := m) (D := fun s => decide (s ∈ X.take k) && !lackS lk s) hEl.out hvi hxg.out (Nat.le_refl m) (by simp only [maxLen]; omega)
          obtain ⟨G, hG⟩ : ∃ G, (List.range m).map (fun s => if (decide (s ∈ X.take k) && !lackS lk s) = true then (E.map (·.r.data)).getD s [] else []) = G := ⟨_, rfl⟩
          have hTG2 : Hid (Tbl G (.slice (some ⟨B + 2, 0, none⟩) m m) wi) := Lib.hid (by rw [← hG]; exact hTG)
          have hBG : Hid (BlobS d q (missP lk X) G) := Lib.hid (by
            refine blobS_miss hBS.out (missP lk X) (by rw [← hG, List.length_map, List.length_range, hm.out]) fun t j ht hj => ?_
            have hlt9 : 10 * t + j < m := by have := hm.out; omega
            have hSl : 10 * t + j < SS.length := by rw [hBS.out.1]; omega
            rw [← hG, List.getElem?_map, List.getElem?_range hlt9, hXt]
            show some (if (decide (10 * t + j ∈ X) && !lackS lk (10 * t + j)) = true then (E.map (·.r.data)).getD (10 * t + j) [] else []) = _
            rw [hSS.out]
            unfold missP
            rw [List.getElem?_eq_getElem hSl, List.getD_eq_getElem?_getD, List.getElem?_eq_getElem hSl]
            cases (decide (10 * t + j ∈ X) && !lackS lk (10 * t + j)) <;> rfl)
          have hoi : Hid (OB wi w.heap.size (.slice A1 n1 cq) d) := Lib.hid (row_below ho2k.out hgi.out)
          have hkm : (k : Int) ≤ (m : Int) := by omega
          have hwh := Lib.hid (whole_any ⟨[107], 3, (n1 : Int), sm⟩ PA m pc hm60 hnz wi hTG2)
          rw [show bs (⟨[107], 3, (n1 : Int), sm⟩ : En).key = { data := #[107] } from rfl] at hwh
          replace hG := Lib.hid hG
          replace hXt := Lib.hid hXt
          clear hTG hvi
          go_wp2_with fail
          go_loopw [19, 20] (fun mo gv wr => ∃ (g M : Nat), g ≤ q ∧ gv = .int .i64 g ∧ mo = .int .i64 M ∧ M ≤ 10 ∧ Hid (2 < M ↔ ∃ t, t < g ∧ 2 < cntQ (fun j => lackS lk (10 * t + j)) 10) ∧ wi = wr) (fun _ gv _ => q - (intOf gv).toNat)
          case atStart => exact ⟨0, 0, Nat.zero_le _, rfl, rfl, by decide, Lib.hid ⟨fun h => absurd h (by decide), fun ⟨t, h, _⟩ => absurd h (by omega)⟩, rfl⟩
          case round =>
            obtain ⟨g, M, hgq, rfl, rfl, hM10, hM, rfl⟩ := hrel
            clear hik
            obtain ⟨G10, hG10⟩ : ∃ x, 10 * g = x := ⟨_, rfl⟩
            have hw10 : IntKind.i64.wrap (10 * (g : Int)) = (G10 : Int) := by rw [IntKind.wrap_i64]; omega
            by_cases hgq2 : g < q
            · have hG10m : (G10 : Int) < (m : Int) := by have := hm.out; omega
              by_cases hgln : g < ln
              · have hgl : (g : Int) < (ln : Int) := by omega
                obtain ⟨y, hy⟩ : ∃ y, lk[g]? = some y := ⟨_, List.getElem?_eq_getElem (by rw [hLlen]; exact hgln)⟩
                obtain ⟨-, hy16, bL, oL, eLA, hLcell⟩ := hLG.out g y hy
                subst eLA
                have zl := hLcell wi hgi.out
                have hcg : Hid (cntQ (fun j => lackS lk (10 * g + j)) 10 = cntQ (lackP y) 10) := Lib.hid (lackS_some hy)
                replace hy := Lib.hid hy
                replace hG10 := Lib.hid hG10
                clear hLcell
                go_wp2_with fail
                go_loopw [21, 22] (fun nv jv wr => ∃ (j cnt : Nat), j ≤ 10 ∧ cnt ≤ j ∧ jv = .int .i64 j ∧ nv = .int .i64 cnt ∧ Hid (cnt = cntQ (lackP y) j) ∧ wi = wr) (fun _ jv _ => 10 - (intOf jv).toNat)
                case atStart => exact ⟨0, 0, Nat.zero_le _, Nat.le_refl _, rfl, rfl, Lib.hid rfl, rfl⟩
                case round =>
                  obtain ⟨j, cnt, hj10, hcj, rfl, rfl, hcnt, rfl⟩ := hrel
                  by_cases hltj : j < 10
                  · have ij : (j : Int) < 10 := by omega
                    have hcs := cntQ_next (lackP y) j
                    cases hP : lackP y j with
                    | true =>
                      rw [hP, if_pos rfl, ← hcnt.out] at hcs
                      have hb := lackP_yes9 hP
                      replace hP := Lib.hid hP
                      replace hcs := Lib.hid hcs
                      go_wp2_with fail
                      go_roundw
                      case rel => exact ⟨j + 1, cnt + 1, by omega, by omega, by go_num, by go_num, Lib.hid hcs.out.symm, trivial⟩
                      case measure => simp [intOf]; omega
                    | false =>
                      rw [hP, if_neg (by decide), ← hcnt.out] at hcs
                      have hb := lackP_no9 hP
                      replace hP := Lib.hid hP
                      replace hcs := Lib.hid hcs
                      go_wp2_with fail
                      go_roundw
                      case rel => exact ⟨j + 1, cnt, by omega, by omega, by go_num, by go_num, Lib.hid hcs.out.symm, trivial⟩
                      case measure => simp [intOf]; omega
                  · obtain rfl : j = 10 := by omega
                    have ij : decide (((10 : Nat) : Int) < 10) = false := by decide
                    have hce : cntQ (fun j => lackS lk (10 * g + j)) 10 = cnt := by rw [hcg.out, hcnt.out]
                    by_cases hgt : M < cnt
                    · have hgti : (M : Int) < (cnt : Int) := by omega
                      have hMn : Hid (2 < cnt ↔ ∃ t, t < g + 1 ∧ 2 < cntQ (fun j => lackS lk (10 * t + j)) 10) := Lib.hid (by
                        constructor
                        · intro h; exact ⟨g, by omega, by rw [hce]; exact h⟩
                        · rintro ⟨t, ht, h⟩
                          by_cases e : t = g
                          · subst e; rw [hce] at h; exact h
                          · have := hM.out.mpr ⟨t, by omega, h⟩; omega)
                      replace hce := Lib.hid hce
                      go_wp2_with fail
                      go_roundw
                      case rel => first | exact ⟨g + 1, cnt, by omega, by go_num, by go_num, by omega, hMn, trivial⟩ | exact ⟨g + 1, cnt, by omega, by go_num, by go_num, by omega, hMn, rfl⟩
                      case measure => simp [intOf]; omega
                    · have hgti : ¬ ((M : Int) < (cnt : Int)) := by omega
                      have hMn : Hid (2 < M ↔ ∃ t, t < g + 1 ∧ 2 < cntQ (fun j => lackS lk (10 * t + j)) 10) := Lib.hid (by
                        constructor
                        · intro h
                          obtain ⟨t, ht, h2⟩ := hM.out.mp h
                          exact ⟨t, by omega, h2⟩
                        · rintro ⟨t, ht, h⟩
                          by_cases e : t = g
                          · subst e; rw [hce] at h; omega
                          · exact hM.out.mpr ⟨t, by omega, h⟩)
                      replace hce := Lib.hid hce
                      go_wp2_with fail
                      go_roundw
                      case rel => first | exact ⟨g + 1, M, by omega, by go_num, by go_num, by omega, hMn, trivial⟩ | exact ⟨g + 1, M, by omega, by go_num, by go_num, by omega, hMn, rfl⟩
                      case measure => simp [intOf]; omega
              · have hgl : decide ((g : Int) < (ln : Int)) = false := decide_eq_false (by omega)
                have hgl2 : (ln : Int) ≤ (g : Int) := by omega
                have hFin : Hid (2 < M ↔ ∃ t, t < q ∧ 2 < cntQ (fun j => lackS lk (10 * t + j)) 10) := Lib.hid (by
                  constructor
                  · intro h
                    obtain ⟨t, ht, h2⟩ := hM.out.mp h
                    exact ⟨t, by omega, h2⟩
                  · rintro ⟨t, ht, h⟩
                    by_cases e : t < g
                    · exact hM.out.mpr ⟨t, e, h⟩
                    · rw [lackS_none (by omega)] at h; omega)
                replace hG10 := Lib.hid hG10
                have c0 := blk_cell (j := 0) hx8i.out rfl
                have c1 := blk_cell (j := 1) hx8i.out rfl
                have c2 := blk_cell (j := 2) hx8i.out rfl
                have c3 := blk_cell (j := 3) hx8i.out rfl
                have c4 := blk_cell (j := 4) hx8i.out rfl
                go_wp2_with fail
                clear c0 c1 c2 c3 c4
                refine hwh.out.mono ?_
                clear hwh
                rintro e w7 hp
                rw [← hm.out] at hp
                by_cases hM2 : 2 < M
                · have hM2i : (2 : Int) < (M : Int) := by omega
                  obtain ⟨t0, ht0, hc0⟩ := hFin.out.mp hM2
                  obtain ⟨hr7, A7, c7, rfl, ho7⟩ := whole_lost hBG.out ht0 (miss_many hc0) hp
                  have hfr := Lib.hid (hgwi.out.trans hr7)
                  clear hp hr7 ho7
                  go_wp2_with fail
                  refine (awake19_any _).mono ?_
                  rintro e w8z ⟨rfl, hr8⟩
                  have hfr2 := Lib.hid (hfr.out.trans hr8)
                  clear hr8
                  go_wp2_with fail
                  go_ret
                  exact ⟨by first | rfl | simp, hfr2.out⟩
                · have hM2i : ¬ ((2 : Int) < (M : Int)) := by omega
                  have hfew : ∀ t, t < q → cntQ (missP lk X t) 10 ≤ 2 := fun t ht => hRl.out.few ht (by
                    have := hFin.out
                    by_cases h9 : 2 < cntQ (fun j => lackS lk (10 * t + j)) 10
                    · exact absurd (this.mpr ⟨t, ht, h9⟩) hM2
                    · omega)
                  rcases whole_blob hd5n.out hq2.out hBG.out hfew hp with ⟨-, -, hr7, A7, c7, rfl, ho7⟩ | ⟨hbad, -⟩
                  rotate_left
                  · rcases hbad with hbad | hbad
                    · rw [hj0.out] at hbad; cases hbad
                    · exact absurd hvd.out hbad
                  rw [hv0.out] at ho7 ⊢
                  rw [hn1.out] at ho7 ⊢
                  have hfr := Lib.hid (hgwi.out.trans hr7)
                  have ho9 := Lib.hid (row_below (hoi.out) hr7)
                  replace ho7 := Lib.hid ho7
                  clear hp hr7 hfew
                  go_wp2_with fail
                  refine (awake19_any _).mono ?_
                  rintro e w8z ⟨rfl, hr8⟩
                  have hfr2 := Lib.hid (hfr.out.trans hr8)
                  have hoa := row_below ho7.out hr8
                  have hob := row_below ho9.out hr8
                  have cv1 := run_str_at c7 (OB.rd hoa).1 hn1.out
                  have cv2 := run_str_at cq (OB.rd hob).1 hn1.out
                  have hdd : (d == d) = true := by simp
                  clear hr8 hoa hob
                  go_wp2_with fail
                  go_ret
                  exact ⟨by first | rfl | simp, hfr2.out⟩
            · have egq : q = g := by omega
              subst egq
              have hG10m : decide ((G10 : Int) < (m : Int)) = false := decide_eq_false (by have := hm.out; omega)
              have hG10m2 : (m : Int) ≤ (G10 : Int) := by have := hm.out; omega
              have hFin := hM
              replace hG10 := Lib.hid hG10
              have c0 := blk_cell (j := 0) hx8i.out rfl
              have c1 := blk_cell (j := 1) hx8i.out rfl
              have c2 := blk_cell (j := 2) hx8i.out rfl
              have c3 := blk_cell (j := 3) hx8i.out rfl
              have c4 := blk_cell (j := 4) hx8i.out rfl
              go_wp2_with fail
              clear c0 c1 c2 c3 c4
              refine hwh.out.mono ?_
              clear hwh
              rintro e w7 hp
              rw [← hm.out] at hp
              by_cases hM2 : 2 < M
              · have hM2i : (2 : Int) < (M : Int) := by omega
                obtain ⟨t0, ht0, hc0⟩ := hFin.out.mp hM2
                obtain ⟨hr7, A7, c7, rfl, ho7⟩ := whole_lost hBG.out ht0 (miss_many hc0) hp
                have hfr := Lib.hid (hgwi.out.trans hr7)
                clear hp hr7 ho7
                go_wp2_with fail
                refine (awake19_any _).mono ?_
                rintro e w8z ⟨rfl, hr8⟩
                have hfr2 := Lib.hid (hfr.out.trans hr8)
                clear hr8
                go_wp2_with fail
                go_ret
                exact ⟨by first | rfl | simp, hfr2.out⟩
              · have hM2i : ¬ ((2 : Int) < (M : Int)) := by omega
                have hfew : ∀ t, t < q → cntQ (missP lk X t) 10 ≤ 2 := fun t ht => hRl.out.few ht (by
                  have := hFin.out
                  by_cases h9 : 2 < cntQ (fun j => lackS lk (10 * t + j)) 10
                  · exact absurd (this.mpr ⟨t, ht, h9⟩) hM2
                  · omega)
                rcases whole_blob hd5n.out hq2.out hBG.out hfew hp with ⟨-, -, hr7, A7, c7, rfl, ho7⟩ | ⟨hbad, -⟩
                rotate_left
                · rcases hbad with hbad | hbad
                  · rw [hj0.out] at hbad; cases hbad
                  · exact absurd hvd.out hbad
                rw [hv0.out] at ho7 ⊢
                rw [hn1.out] at ho7 ⊢
                have hfr := Lib.hid (hgwi.out.trans hr7)
                have ho9 := Lib.hid (row_below (hoi.out) hr7)
                replace ho7 := Lib.hid ho7
                clear hp hr7 hfew
                go_wp2_with fail
                refine (awake19_any _).mono ?_
                rintro e w8z ⟨rfl, hr8⟩
                have hfr2 := Lib.hid (hfr.out.trans hr8)
                have hoa := row_below ho7.out hr8
                have hob := row_below ho9.out hr8
                have cv1 := run_str_at c7 (OB.rd hoa).1 hn1.out
                have cv2 := run_str_at cq (OB.rd hob).1 hn1.out
                have hdd : (d == d) = true := by simp
                clear hr8 hoa hob
                go_wp2_with fail
                go_ret
                exact ⟨by first | rfl | simp, hfr2.out⟩
end Go.Proofs.Ytdgkcgiknfjpjaa
