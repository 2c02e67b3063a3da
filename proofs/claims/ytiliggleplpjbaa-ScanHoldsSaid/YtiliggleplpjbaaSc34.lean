/- scan: the law of what entries hold. -/
import Derived.Test.YtiliggleplpjbaaSc33
import Derived.BigQuiet
import Derived.Deep.CutBlock
import Derived.Sort.Walk0
namespace Go.Proofs.Ytiliggleplpjbaa
set_option linter.unusedVariables false
set_option linter.unusedSimpArgs false
open Go Go.RowKit Go.Maps Go.Proofs


theorem gr_drewN (w : World) (n : Nat) : Gr w (w.drewN n) := ⟨(Below.refl w.heap.size w).os, (Below.refl w.heap.size w).tape, (Below.refl w.heap.size w).output, (Below.refl w.heap.size w).size, (Below.refl w.heap.size w).block⟩
/-- may a find lie there? -/
def inR (f : Fd) : Bool := decide (0 ≤ f.cart ∧ f.cart < 32 ∧ 0 ≤ f.pos ∧ f.pos < 1024)
theorem cnt_inR (f : Fd) : cnt f = (inR f && goodB f.r) := by
  rw [Bool.eq_iff_iff, cnt_iff, Bool.and_eq_true]
  unfold inR
  rw [decide_eq_true_iff]
  constructor
  · rintro ⟨h1, h2, h3⟩
    exact ⟨by omega, h3⟩
  · rintro ⟨h1, h3⟩
    exact ⟨by omega, by omega, h3⟩
theorem mem_cF {E : List Fe} {x : Fe} (hx : x ∈ E) (hc : cnt x.f = true) : x.f ∈ cF E := by
  unfold cF ctE
  exact List.mem_map.mpr ⟨x, List.mem_filter.mpr ⟨hx, hc⟩, rfl⟩
/-- where a place is somewhere a shard is held there, and where it is nowhere none is -/
theorem hold_iff {E : List Fe} {e : EnP} {s : Nat} {p : Int × Int} (h : p ≠ nowP → ∃ f ∈ cF E, f.r.kind = 2 ∧ f.r.key = e.key ∧ f.r.gen = e.gen ∧ f.r.size = e.size ∧ f.r.sum = e.sum ∧ f.r.group = ((s / 10 : Nat) : Int) ∧ f.r.index = ((s % 10 : Nat) : Int) ∧ (f.cart, f.pos) = p) : E.any (fun x => holdB x.f p e s) = decide (p ≠ nowP) := by
  by_cases hp : p = nowP
  · rw [decide_eq_false (fun h => h hp), List.any_eq_false]
    intro x hx
    unfold holdB
    rw [hp]
    unfold nowP
    simp only
    intro hh
    simp only [Bool.and_eq_true, decide_eq_true_iff] at hh
    omega
  · rw [decide_eq_true hp]
    obtain ⟨f, hf, h1, h2, h3, h4, h5, h6, h7, h8⟩ := h hp
    have hc := cF_cnt f hf
    unfold cF ctE at hf
    obtain ⟨x, hx, rfl⟩ := List.mem_map.mp hf
    have hxE := (List.mem_filter.mp hx).1
    refine List.any_eq_true.mpr ⟨x, hxE, ?_⟩
    have hcc := (cnt_iff x.f).mp hc
    unfold holdB
    rw [← h8, decide_eq_true rfl, decide_eq_true rfl, decide_eq_true (show x.f.pos < 1024 by omega), hcc.2.2, h1, h2, h3, h4, h5, h6, h7]
    simp
theorem present_take_succ {l : List (Int × Int)} {j : Nat} {p : Int × Int} (h : l[j]? = some p) : present (l.take (j + 1)) = present (l.take j) + (if p ≠ nowP then 1 else 0) := by
  unfold present
  rw [List.take_add_one, h, List.filter_append, List.length_append]
  congr 1
  by_cases hp : p = nowP
  · rw [if_neg (fun h => h hp)]; simp [hp]
  · rw [if_pos hp]; simp [hp]
/-- how many of the group's first places before s are somewhere -/
def cntT (pl : List (Int × Int)) (s : Nat) : Nat := present ((pl.drop (10 * (s / 10))).take (s % 10))
theorem cntT_zero {pl : List (Int × Int)} {s : Nat} (h : s % 10 = 0) : cntT pl s = 0 := by unfold cntT; rw [h]; rfl
theorem cntT_le (pl : List (Int × Int)) (s : Nat) : cntT pl s ≤ s % 10 := Nat.le_trans (present_le _) (by rw [List.length_take]; omega)
theorem cntT_step {pl : List (Int × Int)} {s : Nat} {p : Int × Int} (h : pl[s]? = some p) (h9 : s % 10 ≠ 9) : cntT pl (s + 1) = cntT pl s + (if p ≠ nowP then 1 else 0) := by
  unfold cntT
  rw [show (s + 1) / 10 = s / 10 from by omega, show (s + 1) % 10 = s % 10 + 1 from by omega]
  exact present_take_succ (by rw [List.getElem?_drop, show 10 * (s / 10) + s % 10 = s from by omega]; exact h)
theorem cntT_full {pl : List (Int × Int)} {s : Nat} {p : Int × Int} (h : pl[s]? = some p) (h9 : s % 10 = 9) : present (chunkOf pl (s / 10)) = cntT pl s + (if p ≠ nowP then 1 else 0) := by
  unfold cntT chunkOf
  have := present_take_succ (l := pl.drop (10 * (s / 10))) (j := s % 10) (p := p) (by rw [List.getElem?_drop, show 10 * (s / 10) + s % 10 = s from by omega]; exact h)
  rw [h9] at this ⊢
  exact this
set_option maxRecDepth 100000 in
set_option maxHeartbeats 8000000 in
theorem scanHolds_any (E : List Fe) (v : Value) (w : World) (hE : FsV E v w) (hok : ∀ x ∈ E, FOk x.f) : Calls Try.prog 4 #[v] w fun e w' => e = .returned (.bool true) ∧ Gr w w' := by
  have hE0 := hE
  obtain ⟨A, c, rfl, -, -, -, -⟩ := hE0
  obtain ⟨m0, hm0⟩ : ∃ m, E.length = m := ⟨_, rfl⟩
  rw [hm0] at hE ⊢
  replace hm0 := Lib.hid hm0
  have hfew := Lib.hid (few_any E A m0 c w hE)
  have hawk := Lib.hid awake_any
  replace hE := Lib.hid hE
  go_enter Try.func4, Try.ntmps4
  go_upto_region 2 with (go_at_call 9; go_must (refine hfew.out.mono ?_); clear hfew; rintro e wz ⟨m, rfl, hm, hfk, hww⟩; rw [hww]; clear hww wz; replace hfk := Lib.hid hfk)
  obtain ⟨EL, hEL⟩ : ∃ l, E.take m = l := ⟨_, rfl⟩
  have hokL : Hid (∀ x ∈ EL, x.f.r.Ok) := Lib.hid (fun x hx => by rw [← hEL] at hx; exact (hok x (List.mem_of_mem_take hx)).r)
  rw [hEL] at hfk
  have hlL := Lib.hid hfk.out.len.1
  have hb1 := Lib.hid (bestV_any EL _ w hfk.out hokL (by rw [hlL.out]; omega))
  replace hEL := Lib.hid hEL
  replace hok := Lib.hid hok
  obtain ⟨mg, hmg⟩ : ∃ z, mostG (cF EL) = z := ⟨_, rfl⟩
  rw [hmg] at hb1
  go_upto_region 3 with (go_at_call 10; go_must (refine hb1.out.mono ?_); clear hb1; rintro e w2 ⟨A2, c2, Z2, rfl, hI2, hZ2, hg2⟩; replace hg2 := Lib.hid hg2)
  have hL := FsV.gr hg2.out hfk
  obtain ⟨n2, hn2⟩ : ∃ n, Z2.length = n := ⟨_, rfl⟩
  have hnm : n2 ≤ 1000000 := by
    have h1 := out_len hI2.out
    rw [List.length_map, hn2] at h1
    have h2 := cF_len EL
    have := hlL.out
    omega
  rw [hn2] at hZ2 ⊢
  replace hn2 := Lib.hid hn2
  replace hmg := Lib.hid hmg
  clear hfk
  go_wp2_with fail
  go_loopw [6] (fun u wr => ∃ i : Nat, i ≤ n2 ∧ u = .int .i64 i ∧ Hid (Gr w2 wr)) (fun u _ => n2 - (intOf u).toNat)
  case atStart => exact ⟨0, Nat.zero_le _, rfl, Lib.hid (Gr.refl _)⟩
  case round =>
    obtain ⟨i, hi, rfl, hgi⟩ := hrel
    rename World => wi
    by_cases hlt : i < n2
    · have ii : (i : Int) < (n2 : Int) := by omega
      obtain ⟨z, hz⟩ : ∃ z, Z2[i]? = some z := ⟨_, List.getElem?_eq_getElem (by rw [hn2.out]; exact hlt)⟩
      obtain ⟨zb, zo, rfl, hzb, hzp, hzc⟩ := hZ2.out.get hz
      have hze : z.e ∈ Z2.map (fun x => x.e) := List.mem_map.mpr ⟨z, List.mem_of_getElem? hz, rfl⟩
      obtain ⟨⟨G, hG1, hG4, hGl, hGp⟩, hdead, hhold⟩ := hI2.out.holds cF_cnt hze
      have hgen := hI2.out.gen_le hze
      rw [hmg.out] at hgen
      have hprev : ∀ j y, i = j + 1 → Z2[j]? = some y → y.e.key < z.e.key := fun j y hj hy => by
        have h1 := List.pairwise_iff_getElem.mp hI2.out.1 j i (by rw [List.length_map, hn2.out]; omega) (by rw [List.length_map, hn2.out]; omega) (by omega)
        obtain ⟨h2, h3⟩ := List.getElem?_eq_some_iff.mp hy
        obtain ⟨h4, h5⟩ := List.getElem?_eq_some_iff.mp hz
        rw [List.getElem_map, List.getElem_map, h3, h5] at h1
        exact h1
      have hhi := Lib.hid (fun s p => hold_iff (E := EL) (e := z.e) (s := s) (p := p))
      obtain ⟨zz, hzz⟩ : ∃ y, y = z := ⟨_, rfl⟩
      obtain ⟨⟨ek, eg, ez, eu, pl⟩, zA, zc⟩ := z
      simp only at hGl hGp hdead hhold hgen hprev hzc hzp hhi
      obtain ⟨zn, hzn⟩ : ∃ n, pl.length = n := ⟨_, rfl⟩
      rw [hzn] at hGl hzp
      simp only [hzn] at hzc
      obtain ⟨y0, y1, y2, y3, y4⟩ := hzc wi hgi.out
      obtain ⟨W, hW⟩ : ∃ W, wi.alloc (.cells #[.string (bs ek), .int .i64 eg, .int .i64 ez, .string (bs eu), .slice zA zn zc] 32) = W := ⟨_, rfl⟩
      have hgW : Gr wi W := by rw [← hW]; exact Gr.alloc _ _
      have hEB : W.heap[wi.heap.size]? = some (.cells #[.string (bs ek), .int .i64 eg, .int .i64 ez, .string (bs eu), .slice zA zn zc] 32 (0, 0)) := by rw [← hW]; exact heap_alloc_new wi _
      obtain ⟨EB, hEBe⟩ : ∃ n, wi.heap.size = n := ⟨_, rfl⟩
      rw [hEBe] at hEB
      replace hz := Lib.hid hz
      replace hzz := Lib.hid hzz
      replace hzn := Lib.hid hzn
      replace hze := Lib.hid hze
      replace hzp := Lib.hid hzp
      replace hdead := Lib.hid hdead
      replace hhold := Lib.hid hhold
      replace hGp := Lib.hid hGp
      replace hprev := Lib.hid hprev
      replace hgW := Lib.hid hgW
      replace hEB := Lib.hid hEB
      have hGl' := Lib.hid hGl
      have hzc' := Lib.hid hzc
      clear hzc hGl
      go_upto_region 7 with (fail)
      clear y0 y1 y2 y3 y4
      replace hW := Lib.hid hW
      replace hEBe := Lib.hid hEBe
      have hg2W : Hid (Gr w2 W) := Lib.hid (hgi.out.trans hgW.out)
      go_cut [61] (fun v wq => v = .bool false ∧ Hid (Gr W wq))
      case first =>
        have e0 := blk_cell (j := 0) hEB.out rfl
        have e1 := blk_cell (j := 1) hEB.out rfl
        have e4 := blk_cell (j := 4) hEB.out rfl
        have t1 : ¬ mg < eg := by omega
        have t2 : ¬ (zn : Int) = 0 := by have := hGl'.out; omega
        have t1d : decide (mg < eg) = false := decide_eq_false t1
        have t2n : ¬ zn = 0 := by have := hGl'.out; omega
        have t2b : ((zn : Int) == 0) = false := by rw [beq_eq_false_iff_ne]; exact t2
        have t3 : (zn : Int).tmod 10 = 0 := by rw [Int.tmod_eq_emod_of_nonneg (by omega)]; have := hGl'.out; omega
        by_cases hi0 : i = 0
        · have t0 : ¬ (0 : Int) < (i : Int) := by omega
          have t0n : ¬ 0 < i := by omega
          have t0d : decide (0 < i) = false := decide_eq_false t0n
          have t0e : decide ((0 : Int) < (i : Int)) = false := decide_eq_false t0
          replace hi0 := Lib.hid hi0
          go_quiet (fail)
          go_wp2_with fail
          go_meet
          exact ⟨rfl, Lib.hid (gr_drewN _ _)⟩
        · have t0 : (0 : Int) < (i : Int) := by omega
          have t0n : 0 < i := by omega
          have t0d : decide (0 < i) = true := decide_eq_true t0n
          have t0e : decide ((0 : Int) < (i : Int)) = true := decide_eq_true t0
          obtain ⟨j, hj⟩ : ∃ j, i = j + 1 := ⟨i - 1, by omega⟩
          obtain ⟨y, hy⟩ : ∃ y, Z2[j]? = some y := ⟨_, List.getElem?_eq_getElem (by rw [hn2.out]; omega)⟩
          have hlk := hprev.out j y hj hy
          obtain ⟨zb', zo', eb, -, -, hyc⟩ := hZ2.out.get hy
          injection eb with eb
          injection eb with eb1 eb2 _
          subst eb1 eb2
          obtain ⟨u0, -⟩ := hyc W hg2W.out
          obtain ⟨yk, hyk⟩ : ∃ k, y.e.key = k := ⟨_, rfl⟩
          rw [hyk] at u0 hlk
          have hge : binOp .geq 9 (.string (bs yk)) (.string (bs ek)) = pure (.bool false) := by
            have h1 : Op.bytesLess (bs yk).toList (bs ek).toList = true := by rw [bs_toList, bs_toList, bytesLess_eq]; exact decide_eq_true hlk
            simp [binOp, Op.stringOp, h1]
          have hsub : IntKind.i64.wrap ((i : Int) - 1) = (j : Int) := by rw [IntKind.wrap_i64]; omega
          have hsub2 : (i : Int) - 1 = (j : Int) := by omega
          replace hyk := Lib.hid hyk
          replace hy := Lib.hid hy
          have ij2 : (j : Int) < (n2 : Int) := by omega
          replace hj := Lib.hid hj
          replace hlk := Lib.hid hlk
          replace hi0 := Lib.hid hi0
          go_quiet (fail)
          go_wp2_with fail
          go_meet
          exact ⟨rfl, Lib.hid (gr_drewN _ _)⟩
      case rest =>
        obtain ⟨rfl, hg7⟩ := hcut
        rename World => w7
        have hEB7 := Lib.hid (blk_below hEB.out hg7.out)
        have hg27 : Hid (Gr w2 w7) := Lib.hid (hg2W.out.trans hg7.out)
        clear hEB
        have hm63 : m ≤ 9223372036854775807 := by omega
        go_upto_region 9 with (fail)
        go_wp2_with fail
        go_loopw [8] (fun u wr => ∃ k : Nat, k ≤ m ∧ u = .int .i64 k ∧ Hid (Gr w7 wr)) (fun u _ => m - (intOf u).toNat)
        case atStart => exact ⟨0, Nat.zero_le _, rfl, Lib.hid (Gr.refl _)⟩
        case round =>
          obtain ⟨k, hk, rfl, hgk⟩ := hrel
          rename World => wk
          by_cases hlk : k < m
          · have kk : (k : Int) < (m : Int) := by omega
            obtain ⟨x, hx⟩ : ∃ x, EL[k]? = some x := ⟨_, List.getElem?_eq_getElem (by rw [hlL.out]; exact hlk)⟩
            have hxm := List.mem_of_getElem? hx
            obtain ⟨b, o, rfl, hbl, hxv, hxc⟩ := hL.out.get hx
            have hxo := hokL.out x hxm
            have hg2k : Hid (Gr w2 wk) := Lib.hid (hg27.out.trans hgk.out)
            have hgood : Hid (∀ y, Gr w2 y → Calls Try.prog 14 #[x.f.r.agg x.A x.c] y fun e w' => e = .returned (.bool (goodB x.f.r)) ∧ Gr y w') := Lib.hid (fun y hy => good_any x.f.r x.A x.c hxo y (hxv.gr hy).rd)
            have hdx : Hid (inR x.f = true → goodB x.f.r = true → x.f.r.kind = 3 → x.f.r.key = ek → x.f.r.gen < eg) := Lib.hid (fun h1 h2 h3 h4 => hdead.out x.f (mem_cF hxm (by rw [cnt_inR, h1, h2]; rfl)) h3 h4)
            obtain ⟨⟨ct, ps, ⟨rk, rc, ry, rg, ro, rs, ri, rz, ru, rd⟩⟩, xA, xc⟩ := x
            obtain ⟨xl, hxl⟩ : ∃ n, rd.length = n := ⟨_, rfl⟩
            obtain ⟨gB, hgB⟩ : ∃ b, goodB ⟨rk, rc, ry, rg, ro, rs, ri, rz, ru, rd⟩ = b := ⟨_, rfl⟩
            unfold Rc.agg at hgood
            simp only [hxl, hgB] at hgood hxc hdx
            obtain ⟨bR, hbR⟩ : ∃ b, inR ⟨ct, ps, ⟨rk, rc, ry, rg, ro, rs, ri, rz, ru, rd⟩⟩ = b := ⟨_, rfl⟩
            rw [hbR] at hdx
            have hbR' : Hid (bR = decide (0 ≤ ct ∧ ct < 32 ∧ 0 ≤ ps ∧ ps < 1024)) := Lib.hid (by rw [← hbR]; rfl)
            obtain ⟨y0, y1, -⟩ := hxc wk hg2k.out
            obtain ⟨w12, hw12⟩ : ∃ x, wk.alloc (.cells #[.int .i64 ct, .int .i64 ps] 34) = x := ⟨_, rfl⟩
            have hg12 : Gr wk w12 := by rw [← hw12]; exact Gr.alloc _ _
            have hPB : w12.heap[wk.heap.size]? = some (.cells #[.int .i64 ct, .int .i64 ps] 34 (0, 0)) := by rw [← hw12]; exact heap_alloc_new wk _
            obtain ⟨PB, hPBe⟩ : ∃ n, wk.heap.size = n := ⟨_, rfl⟩
            rw [hPBe] at hPB
            replace hxl := Lib.hid hxl
            replace hgB := Lib.hid hgB
            replace hbR := Lib.hid hbR
            replace hx := Lib.hid hx
            replace hxm := Lib.hid hxm
            replace hxv := Lib.hid hxv
            replace hxo := Lib.hid hxo
            replace hg12 := Lib.hid hg12
            replace hPB := Lib.hid hPB
            have hxc' := Lib.hid hxc
            clear hxc
            go_upto_region 13 with (fail)
            clear y0 y1
            replace hw12 := Lib.hid hw12
            replace hPBe := Lib.hid hPBe
            go_cut [10] from 62 to 130 (fun v wq => v = .bool bR ∧ w12 = wq)
            case first =>
              have a0 := blk_cell (j := 0) hPB.out rfl
              have a1 := blk_cell (j := 1) hPB.out rfl
              have hbq := hbR'.out
              by_cases c0 : 0 ≤ ct
              · by_cases c1 : ct < 32
                · by_cases c2 : 0 ≤ ps
                  · by_cases c3 : ps < 1024
                    · have hb0 : bR = true := by rw [hbq]; exact decide_eq_true ⟨c0, c1, c2, c3⟩
                      subst hb0
                      clear hbq
                      go_wp2_with fail
                      go_meet
                      exact ⟨by first | rfl | simp [*], rfl⟩
                    · have hb0 : bR = false := by rw [hbq]; exact decide_eq_false (fun h => c3 h.2.2.2)
                      subst hb0
                      clear hbq
                      go_wp2_with fail
                      go_meet
                      exact ⟨by first | rfl | simp [*], rfl⟩
                  · have hb0 : bR = false := by rw [hbq]; exact decide_eq_false (fun h => c2 h.2.2.1)
                    subst hb0
                    clear hbq
                    go_wp2_with fail
                    go_meet
                    exact ⟨by first | rfl | simp [*], rfl⟩
                · have hb0 : bR = false := by rw [hbq]; exact decide_eq_false (fun h => c1 h.2.1)
                  subst hb0
                  clear hbq
                  go_wp2_with fail
                  go_meet
                  exact ⟨by first | rfl | simp [*], rfl⟩
              · have hb0 : bR = false := by rw [hbq]; exact decide_eq_false (fun h => c0 h.1)
                subst hb0
                clear hbq
                go_wp2_with fail
                go_meet
                exact ⟨by first | rfl | simp [*], rfl⟩
            case rest =>
              obtain ⟨rfl, rfl⟩ := hcut
              have hg7x : Hid (Gr w7 w12) := Lib.hid (hgk.out.trans hg12.out)
              obtain ⟨wd, hwd⟩ : ∃ wd, wd = w12.drew := ⟨_, rfl⟩
              have hgdd : Hid (Gr w12 wd) := Lib.hid (by rw [hwd]; exact (Below.refl _ _).drew)
              have hg7d : Hid (Gr w7 wd) := Lib.hid (hg7x.out.trans hgdd.out)
              have hXk := Lib.hid (fun y (hy : Gr wd y) => hxc'.out y (hg27.out.trans (hg7d.out.trans hy)))
              have hEk : Hid (∀ y, Gr wd y → y.heap[EB]? = some (.cells #[.string (bs ek), .int .i64 eg, .int .i64 ez, .string (bs eu), .slice zA zn zc] 32 (0, 0))) := Lib.hid (fun y hy => blk_below hEB7.out (hg7d.out.trans hy))
              have hgd := Lib.hid (fun y (hy : Gr wd y) => hgood.out y (hg27.out.trans (hg7d.out.trans hy)))
              go_upto_region 14 with (fail)
              refine wpR_region (Gr) 9999 (by kernel_rfl) ?_
              (rw [← hwd]; replace hwd := Lib.hid hwd)
              by_cases k0 : bR = true
              · subst k0
                refine wpR_take (i := 0) (v := ?_) (⟨fun x => Below.refl _ x, fun h1 h2 => h1.trans h2⟩) (some 91) rfl (by kernel_rfl) (by kernel_rfl) (by kernel_rfl) (by kernel_rfl) (by kernel_rfl) (fun _ _ _ h => h) (by kernel_rfl) (fun w' hw' => ?_) ?_
                rotate_left
                · go_simp; with_reducible rfl
                simp only [Act.put, List.setIfInBounds_toArray, List.set_cons_zero, List.set_cons_succ]
                refine wpR_take (i := 1) (v := ?_) (⟨fun x => Below.refl _ x, fun h1 h2 => h1.trans h2⟩) (some 92) rfl (by kernel_rfl) (by kernel_rfl) (by kernel_rfl) (by kernel_rfl) (by kernel_rfl) (fun _ _ _ h => h) (by kernel_rfl) (fun w' hw' => ?_) ?_
                rotate_left
                · go_simp; with_reducible rfl
                simp only [Act.put, List.setIfInBounds_toArray, List.set_cons_zero, List.set_cons_succ]
                by_cases k1 : gB = true
                · subst k1
                  refine wpR_take (i := 2) (v := ?_) (⟨fun x => Below.refl _ x, fun h1 h2 => h1.trans h2⟩) (some 93) rfl (by kernel_rfl) (by kernel_rfl) (by kernel_rfl) (by kernel_rfl) (by kernel_rfl) (fun _ _ _ h => h) (by kernel_rfl) (fun w' hw' => ?_) ?_
                  rotate_left
                  · go_simp; with_reducible rfl
                  simp only [Act.put, List.setIfInBounds_toArray, List.set_cons_zero, List.set_cons_succ]
                  refine wpR_take (i := 3) (v := ?_) (⟨fun x => Below.refl _ x, fun h1 h2 => h1.trans h2⟩) (some 94) rfl (by kernel_rfl) (by kernel_rfl) (by kernel_rfl) (by kernel_rfl) (by kernel_rfl) (fun _ _ _ h => h) (by kernel_rfl) (fun w' hw' => ?_) ?_
                  rotate_left
                  · go_simp; with_reducible rfl
                  simp only [Act.put, List.setIfInBounds_toArray, List.set_cons_zero, List.set_cons_succ]
                  refine wpR_take (i := 4) (v := ?_) (⟨fun x => Below.refl _ x, fun h1 h2 => h1.trans h2⟩) (some 95) rfl (by kernel_rfl) (by kernel_rfl) (by kernel_rfl) (by kernel_rfl) (by kernel_rfl) (fun _ _ _ h => h) (by kernel_rfl) (fun w' hw' => ?_) ?_
                  rotate_left
                  · go_simp; with_reducible rfl
                  simp only [Act.put, List.setIfInBounds_toArray, List.set_cons_zero, List.set_cons_succ]
                  refine wpR_take (i := 5) (v := ?_) (⟨fun x => Below.refl _ x, fun h1 h2 => h1.trans h2⟩) (some 96) rfl (by kernel_rfl) (by kernel_rfl) (by kernel_rfl) (by kernel_rfl) (by kernel_rfl) (fun _ _ _ h => h) (by kernel_rfl) (fun w' hw' => ?_) ?_
                  rotate_left
                  · go_simp; with_reducible rfl
                  simp only [Act.put, List.setIfInBounds_toArray, List.set_cons_zero, List.set_cons_succ]
                  refine wpR_take (i := 6) (v := ?_) (⟨fun x => Below.refl _ x, fun h1 h2 => h1.trans h2⟩) (some 97) rfl (by kernel_rfl) (by kernel_rfl) (by kernel_rfl) (by kernel_rfl) (by kernel_rfl) (fun _ _ _ h => h) (by kernel_rfl) (fun w' hw' => ?_) ?_
                  rotate_left
                  · obtain ⟨x0, x1, x2, x3, x4, x5, x6, x7, x8, x9, x10, x11⟩ := hXk.out w' hw'; go_simp; with_reducible rfl
                  simp only [Act.put, List.setIfInBounds_toArray, List.set_cons_zero, List.set_cons_succ]
                  refine wpR_one 7 rfl (by kernel_rfl) (by kernel_rfl) (fun K hK => ?_)
                  go_simp
                  refine (hgd.out wd (Gr.refl _)).mono ?_
                  rintro e w5 ⟨rfl, hg5⟩
                  refine hK _ _ (fun _ => hg5) ?_
                  clear hK K
                  replace hg5 : Hid (Gr wd w5) := Lib.hid hg5
                  try simp only [Act.put, List.setIfInBounds_toArray, List.set_cons_zero, List.set_cons_succ]
                  refine wpR_take (i := 8) (v := ?_) (⟨fun x => Below.refl _ x, fun h1 h2 => h1.trans h2⟩) (some 99) rfl (by kernel_rfl) (by kernel_rfl) (by kernel_rfl) (by kernel_rfl) (by kernel_rfl) (fun _ _ _ h => h) (by kernel_rfl) (fun w' hw' => ?_) ?_
                  rotate_left
                  · go_simp; with_reducible rfl
                  simp only [Act.put, List.setIfInBounds_toArray, List.set_cons_zero, List.set_cons_succ]
                  refine wpR_take (i := 9) (v := ?_) (⟨fun x => Below.refl _ x, fun h1 h2 => h1.trans h2⟩) (some 100) rfl (by kernel_rfl) (by kernel_rfl) (by kernel_rfl) (by kernel_rfl) (by kernel_rfl) (fun _ _ _ h => h) (by kernel_rfl) (fun w' hw' => ?_) ?_
                  rotate_left
                  · go_simp; with_reducible rfl
                  simp only [Act.put, List.setIfInBounds_toArray, List.set_cons_zero, List.set_cons_succ]
                  by_cases k2 : rk = 3
                  · have d2 : decide (rk = 3) = true := decide_eq_true k2
                    have b2 : (rk == 3) = true := by rw [beq_iff_eq]; exact k2
                    replace k2 := Lib.hid k2
                    refine wpR_take (i := 10) (v := ?_) (⟨fun x => Below.refl _ x, fun h1 h2 => h1.trans h2⟩) (some 101) rfl (by kernel_rfl) (by kernel_rfl) (by kernel_rfl) (by kernel_rfl) (by kernel_rfl) (fun _ _ _ h => h) (by kernel_rfl) (fun w' hw' => ?_) ?_
                    rotate_left
                    · go_simp; with_reducible rfl
                    simp only [Act.put, List.setIfInBounds_toArray, List.set_cons_zero, List.set_cons_succ]
                    refine wpR_take (i := 11) (v := ?_) (⟨fun x => Below.refl _ x, fun h1 h2 => h1.trans h2⟩) (some 102) rfl (by kernel_rfl) (by kernel_rfl) (by kernel_rfl) (by kernel_rfl) (by kernel_rfl) (fun _ _ _ h => h) (by kernel_rfl) (fun w' hw' => ?_) ?_
                    rotate_left
                    · go_simp; with_reducible rfl
                    simp only [Act.put, List.setIfInBounds_toArray, List.set_cons_zero, List.set_cons_succ]
                    refine wpR_take (i := 12) (v := ?_) (⟨fun x => Below.refl _ x, fun h1 h2 => h1.trans h2⟩) (some 103) rfl (by kernel_rfl) (by kernel_rfl) (by kernel_rfl) (by kernel_rfl) (by kernel_rfl) (fun _ _ _ h => h) (by kernel_rfl) (fun w' hw' => ?_) ?_
                    rotate_left
                    · go_simp; with_reducible rfl
                    simp only [Act.put, List.setIfInBounds_toArray, List.set_cons_zero, List.set_cons_succ]
                    refine wpR_take (i := 13) (v := ?_) (⟨fun x => Below.refl _ x, fun h1 h2 => h1.trans h2⟩) (some 104) rfl (by kernel_rfl) (by kernel_rfl) (by kernel_rfl) (by kernel_rfl) (by kernel_rfl) (fun _ _ _ h => h) (by kernel_rfl) (fun w' hw' => ?_) ?_
                    rotate_left
                    · go_simp; with_reducible rfl
                    simp only [Act.put, List.setIfInBounds_toArray, List.set_cons_zero, List.set_cons_succ]
                    refine wpR_take (i := 14) (v := ?_) (⟨fun x => Below.refl _ x, fun h1 h2 => h1.trans h2⟩) (some 105) rfl (by kernel_rfl) (by kernel_rfl) (by kernel_rfl) (by kernel_rfl) (by kernel_rfl) (fun _ _ _ h => h) (by kernel_rfl) (fun w' hw' => ?_) ?_
                    rotate_left
                    · go_simp; with_reducible rfl
                    simp only [Act.put, List.setIfInBounds_toArray, List.set_cons_zero, List.set_cons_succ]
                    refine wpR_take (i := 15) (v := ?_) (⟨fun x => Below.refl _ x, fun h1 h2 => h1.trans h2⟩) (some 106) rfl (by kernel_rfl) (by kernel_rfl) (by kernel_rfl) (by kernel_rfl) (by kernel_rfl) (fun _ _ _ h => h) (by kernel_rfl) (fun w' hw' => ?_) ?_
                    rotate_left
                    · obtain ⟨x0, x1, x2, x3, x4, x5, x6, x7, x8, x9, x10, x11⟩ := hXk.out w' (Gr.trans hg5.out hw'); go_simp; with_reducible rfl
                    simp only [Act.put, List.setIfInBounds_toArray, List.set_cons_zero, List.set_cons_succ]
                    refine wpR_take (i := 16) (v := ?_) (⟨fun x => Below.refl _ x, fun h1 h2 => h1.trans h2⟩) (some 107) rfl (by kernel_rfl) (by kernel_rfl) (by kernel_rfl) (by kernel_rfl) (by kernel_rfl) (fun _ _ _ h => h) (by kernel_rfl) (fun w' hw' => ?_) ?_
                    rotate_left
                    · go_simp; with_reducible rfl
                    simp only [Act.put, List.setIfInBounds_toArray, List.set_cons_zero, List.set_cons_succ]
                    refine wpR_take (i := 17) (v := ?_) (⟨fun x => Below.refl _ x, fun h1 h2 => h1.trans h2⟩) (some 108) rfl (by kernel_rfl) (by kernel_rfl) (by kernel_rfl) (by kernel_rfl) (by kernel_rfl) (fun _ _ _ h => h) (by kernel_rfl) (fun w' hw' => ?_) ?_
                    rotate_left
                    · go_simp; with_reducible rfl
                    simp only [Act.put, List.setIfInBounds_toArray, List.set_cons_zero, List.set_cons_succ]
                    refine wpR_take (i := 18) (v := ?_) (⟨fun x => Below.refl _ x, fun h1 h2 => h1.trans h2⟩) (some 109) rfl (by kernel_rfl) (by kernel_rfl) (by kernel_rfl) (by kernel_rfl) (by kernel_rfl) (fun _ _ _ h => h) (by kernel_rfl) (fun w' hw' => ?_) ?_
                    rotate_left
                    · go_simp; with_reducible rfl
                    simp only [Act.put, List.setIfInBounds_toArray, List.set_cons_zero, List.set_cons_succ]
                    by_cases k3 : (ry == ek) = true
                    · have d3 := k3
                      refine wpR_take (i := 19) (v := ?_) (⟨fun x => Below.refl _ x, fun h1 h2 => h1.trans h2⟩) (some 110) rfl (by kernel_rfl) (by kernel_rfl) (by kernel_rfl) (by kernel_rfl) (by kernel_rfl) (fun _ _ _ h => h) (by kernel_rfl) (fun w' hw' => ?_) ?_
                      rotate_left
                      · go_simp; with_reducible rfl
                      simp only [Act.put, List.setIfInBounds_toArray, List.set_cons_zero, List.set_cons_succ]
                      refine wpR_take (i := 20) (v := ?_) (⟨fun x => Below.refl _ x, fun h1 h2 => h1.trans h2⟩) (some 111) rfl (by kernel_rfl) (by kernel_rfl) (by kernel_rfl) (by kernel_rfl) (by kernel_rfl) (fun _ _ _ h => h) (by kernel_rfl) (fun w' hw' => ?_) ?_
                      rotate_left
                      · go_simp; with_reducible rfl
                      simp only [Act.put, List.setIfInBounds_toArray, List.set_cons_zero, List.set_cons_succ]
                      refine wpR_take (i := 21) (v := ?_) (⟨fun x => Below.refl _ x, fun h1 h2 => h1.trans h2⟩) (some 112) rfl (by kernel_rfl) (by kernel_rfl) (by kernel_rfl) (by kernel_rfl) (by kernel_rfl) (fun _ _ _ h => h) (by kernel_rfl) (fun w' hw' => ?_) ?_
                      rotate_left
                      · go_simp; with_reducible rfl
                      simp only [Act.put, List.setIfInBounds_toArray, List.set_cons_zero, List.set_cons_succ]
                      refine wpR_take (i := 22) (v := ?_) (⟨fun x => Below.refl _ x, fun h1 h2 => h1.trans h2⟩) (some 113) rfl (by kernel_rfl) (by kernel_rfl) (by kernel_rfl) (by kernel_rfl) (by kernel_rfl) (fun _ _ _ h => h) (by kernel_rfl) (fun w' hw' => ?_) ?_
                      rotate_left
                      · go_simp; with_reducible rfl
                      simp only [Act.put, List.setIfInBounds_toArray, List.set_cons_zero, List.set_cons_succ]
                      refine wpR_take (i := 23) (v := ?_) (⟨fun x => Below.refl _ x, fun h1 h2 => h1.trans h2⟩) (some 114) rfl (by kernel_rfl) (by kernel_rfl) (by kernel_rfl) (by kernel_rfl) (by kernel_rfl) (fun _ _ _ h => h) (by kernel_rfl) (fun w' hw' => ?_) ?_
                      rotate_left
                      · go_simp; with_reducible rfl
                      simp only [Act.put, List.setIfInBounds_toArray, List.set_cons_zero, List.set_cons_succ]
                      refine wpR_take (i := 24) (v := ?_) (⟨fun x => Below.refl _ x, fun h1 h2 => h1.trans h2⟩) (some 115) rfl (by kernel_rfl) (by kernel_rfl) (by kernel_rfl) (by kernel_rfl) (by kernel_rfl) (fun _ _ _ h => h) (by kernel_rfl) (fun w' hw' => ?_) ?_
                      rotate_left
                      · obtain ⟨x0, x1, x2, x3, x4, x5, x6, x7, x8, x9, x10, x11⟩ := hXk.out w' (Gr.trans hg5.out hw'); go_simp; with_reducible rfl
                      simp only [Act.put, List.setIfInBounds_toArray, List.set_cons_zero, List.set_cons_succ]
                      refine wpR_take (i := 25) (v := ?_) (⟨fun x => Below.refl _ x, fun h1 h2 => h1.trans h2⟩) (some 116) rfl (by kernel_rfl) (by kernel_rfl) (by kernel_rfl) (by kernel_rfl) (by kernel_rfl) (fun _ _ _ h => h) (by kernel_rfl) (fun w' hw' => ?_) ?_
                      rotate_left
                      · go_simp; with_reducible rfl
                      simp only [Act.put, List.setIfInBounds_toArray, List.set_cons_zero, List.set_cons_succ]
                      refine wpR_take (i := 26) (v := ?_) (⟨fun x => Below.refl _ x, fun h1 h2 => h1.trans h2⟩) (some 117) rfl (by kernel_rfl) (by kernel_rfl) (by kernel_rfl) (by kernel_rfl) (by kernel_rfl) (fun _ _ _ h => h) (by kernel_rfl) (fun w' hw' => ?_) ?_
                      rotate_left
                      · have r := blk_cell (j := 0) (hEk.out w' (Gr.trans hg5.out hw')) rfl; go_simp; with_reducible rfl
                      simp only [Act.put, List.setIfInBounds_toArray, List.set_cons_zero, List.set_cons_succ]
                      refine wpR_take (i := 27) (v := ?_) (⟨fun x => Below.refl _ x, fun h1 h2 => h1.trans h2⟩) (some 118) rfl (by kernel_rfl) (by kernel_rfl) (by kernel_rfl) (by kernel_rfl) (by kernel_rfl) (fun _ _ _ h => h) (by kernel_rfl) (fun w' hw' => ?_) ?_
                      rotate_left
                      · go_simp; with_reducible rfl
                      simp only [Act.put, List.setIfInBounds_toArray, List.set_cons_zero, List.set_cons_succ]
                      refine wpR_take (i := 28) (v := ?_) (⟨fun x => Below.refl _ x, fun h1 h2 => h1.trans h2⟩) (some 119) rfl (by kernel_rfl) (by kernel_rfl) (by kernel_rfl) (by kernel_rfl) (by kernel_rfl) (fun _ _ _ h => h) (by kernel_rfl) (fun w' hw' => ?_) ?_
                      rotate_left
                      · go_simp; with_reducible rfl
                      simp only [Act.put, List.setIfInBounds_toArray, List.set_cons_zero, List.set_cons_succ]
                      refine wpR_take (i := 29) (v := ?_) (⟨fun x => Below.refl _ x, fun h1 h2 => h1.trans h2⟩) (some 120) rfl (by kernel_rfl) (by kernel_rfl) (by kernel_rfl) (by kernel_rfl) (by kernel_rfl) (fun _ _ _ h => h) (by kernel_rfl) (fun w' hw' => ?_) ?_
                      rotate_left
                      · go_simp; with_reducible rfl
                      simp only [Act.put, List.setIfInBounds_toArray, List.set_cons_zero, List.set_cons_succ]
                      have k4 : ¬ eg ≤ rg := by have h1 := hdx.out rfl rfl k2.out (beq_iff_eq.mp d3); omega
                      have d4 : decide (eg ≤ rg) = false := decide_eq_false k4
                      have d4b : ¬ eg ≤ rg := k4
                      replace k4 := Lib.hid k4
                      refine wpR_take (i := 30) (v := ?_) (⟨fun x => Below.refl _ x, fun h1 h2 => h1.trans h2⟩) (some 121) rfl (by kernel_rfl) (by kernel_rfl) (by kernel_rfl) (by kernel_rfl) (by kernel_rfl) (fun _ _ _ h => h) (by kernel_rfl) (fun w' hw' => ?_) ?_
                      rotate_left
                      · go_simp; with_reducible rfl
                      simp only [Act.put, List.setIfInBounds_toArray, List.set_cons_zero, List.set_cons_succ]
                      refine wpR_take (i := 31) (v := ?_) (⟨fun x => Below.refl _ x, fun h1 h2 => h1.trans h2⟩) (some 122) rfl (by kernel_rfl) (by kernel_rfl) (by kernel_rfl) (by kernel_rfl) (by kernel_rfl) (fun _ _ _ h => h) (by kernel_rfl) (fun w' hw' => ?_) ?_
                      rotate_left
                      · go_simp; with_reducible rfl
                      simp only [Act.put, List.setIfInBounds_toArray, List.set_cons_zero, List.set_cons_succ]
                      refine wpR_take (i := 32) (v := ?_) (⟨fun x => Below.refl _ x, fun h1 h2 => h1.trans h2⟩) (some 123) rfl (by kernel_rfl) (by kernel_rfl) (by kernel_rfl) (by kernel_rfl) (by kernel_rfl) (fun _ _ _ h => h) (by kernel_rfl) (fun w' hw' => ?_) ?_
                      rotate_left
                      · go_simp; with_reducible rfl
                      simp only [Act.put, List.setIfInBounds_toArray, List.set_cons_zero, List.set_cons_succ]
                      refine wpR_take (i := 33) (v := ?_) (⟨fun x => Below.refl _ x, fun h1 h2 => h1.trans h2⟩) (some 124) rfl (by kernel_rfl) (by kernel_rfl) (by kernel_rfl) (by kernel_rfl) (by kernel_rfl) (fun _ _ _ h => h) (by kernel_rfl) (fun w' hw' => ?_) ?_
                      rotate_left
                      · go_simp; with_reducible rfl
                      simp only [Act.put, List.setIfInBounds_toArray, List.set_cons_zero, List.set_cons_succ]
                      refine wpR_take (i := 34) (v := ?_) (⟨fun x => Below.refl _ x, fun h1 h2 => h1.trans h2⟩) (some 125) rfl (by kernel_rfl) (by kernel_rfl) (by kernel_rfl) (by kernel_rfl) (by kernel_rfl) (fun _ _ _ h => h) (by kernel_rfl) (fun w' hw' => ?_) ?_
                      rotate_left
                      · go_simp; with_reducible rfl
                      simp only [Act.put, List.setIfInBounds_toArray, List.set_cons_zero, List.set_cons_succ]
                      refine wpR_take (i := 35) (v := ?_) (⟨fun x => Below.refl _ x, fun h1 h2 => h1.trans h2⟩) (some 126) rfl (by kernel_rfl) (by kernel_rfl) (by kernel_rfl) (by kernel_rfl) (by kernel_rfl) (fun _ _ _ h => h) (by kernel_rfl) (fun w' hw' => ?_) ?_
                      rotate_left
                      · obtain ⟨x0, x1, x2, x3, x4, x5, x6, x7, x8, x9, x10, x11⟩ := hXk.out w' (Gr.trans hg5.out hw'); go_simp; with_reducible rfl
                      simp only [Act.put, List.setIfInBounds_toArray, List.set_cons_zero, List.set_cons_succ]
                      refine wpR_take (i := 36) (v := ?_) (⟨fun x => Below.refl _ x, fun h1 h2 => h1.trans h2⟩) (some 127) rfl (by kernel_rfl) (by kernel_rfl) (by kernel_rfl) (by kernel_rfl) (by kernel_rfl) (fun _ _ _ h => h) (by kernel_rfl) (fun w' hw' => ?_) ?_
                      rotate_left
                      · go_simp; with_reducible rfl
                      simp only [Act.put, List.setIfInBounds_toArray, List.set_cons_zero, List.set_cons_succ]
                      refine wpR_take (i := 37) (v := ?_) (⟨fun x => Below.refl _ x, fun h1 h2 => h1.trans h2⟩) (some 128) rfl (by kernel_rfl) (by kernel_rfl) (by kernel_rfl) (by kernel_rfl) (by kernel_rfl) (fun _ _ _ h => h) (by kernel_rfl) (fun w' hw' => ?_) ?_
                      rotate_left
                      · have r := blk_cell (j := 1) (hEk.out w' (Gr.trans hg5.out hw')) rfl; go_simp; with_reducible rfl
                      simp only [Act.put, List.setIfInBounds_toArray, List.set_cons_zero, List.set_cons_succ]
                      refine wpR_take (i := 38) (v := ?_) (⟨fun x => Below.refl _ x, fun h1 h2 => h1.trans h2⟩) (some 129) rfl (by kernel_rfl) (by kernel_rfl) (by kernel_rfl) (by kernel_rfl) (by kernel_rfl) (fun _ _ _ h => h) (by kernel_rfl) (fun w' hw' => ?_) ?_
                      rotate_left
                      · go_simp; with_reducible rfl
                      simp only [Act.put, List.setIfInBounds_toArray, List.set_cons_zero, List.set_cons_succ]
                      refine wpR_take (i := 39) (v := ?_) (⟨fun x => Below.refl _ x, fun h1 h2 => h1.trans h2⟩) (some 130) rfl (by kernel_rfl) (by kernel_rfl) (by kernel_rfl) (by kernel_rfl) (by kernel_rfl) (fun _ _ _ h => h) (by kernel_rfl) (fun w' hw' => ?_) ?_
                      rotate_left
                      · go_simp; with_reducible rfl
                      simp only [Act.put, List.setIfInBounds_toArray, List.set_cons_zero, List.set_cons_succ]
                      refine wpR_done (by kernel_rfl) ?_ _
                      go_wp2_with fail
                      go_roundw
                      case rel => exact ⟨k + 1, by omega, by go_num, Lib.hid (hg7d.out.trans hg5.out)⟩
                      case measure => simp [intOf]; omega
                    · have d3 : (ry == ek) = false := by rw [← Bool.not_eq_true]; exact k3
                      replace k3 := Lib.hid k3
                      refine wpR_take (i := 19) (v := ?_) (⟨fun x => Below.refl _ x, fun h1 h2 => h1.trans h2⟩) (some 110) rfl (by kernel_rfl) (by kernel_rfl) (by kernel_rfl) (by kernel_rfl) (by kernel_rfl) (fun _ _ _ h => h) (by kernel_rfl) (fun w' hw' => ?_) ?_
                      rotate_left
                      · go_simp; with_reducible rfl
                      simp only [Act.put, List.setIfInBounds_toArray, List.set_cons_zero, List.set_cons_succ]
                      refine wpR_take (i := 20) (v := ?_) (⟨fun x => Below.refl _ x, fun h1 h2 => h1.trans h2⟩) (some 111) rfl (by kernel_rfl) (by kernel_rfl) (by kernel_rfl) (by kernel_rfl) (by kernel_rfl) (fun _ _ _ h => h) (by kernel_rfl) (fun w' hw' => ?_) ?_
                      rotate_left
                      · go_simp; with_reducible rfl
                      simp only [Act.put, List.setIfInBounds_toArray, List.set_cons_zero, List.set_cons_succ]
                      refine wpR_take (i := 21) (v := ?_) (⟨fun x => Below.refl _ x, fun h1 h2 => h1.trans h2⟩) (some 112) rfl (by kernel_rfl) (by kernel_rfl) (by kernel_rfl) (by kernel_rfl) (by kernel_rfl) (fun _ _ _ h => h) (by kernel_rfl) (fun w' hw' => ?_) ?_
                      rotate_left
                      · go_simp; with_reducible rfl
                      simp only [Act.put, List.setIfInBounds_toArray, List.set_cons_zero, List.set_cons_succ]
                      refine wpR_take (i := 22) (v := ?_) (⟨fun x => Below.refl _ x, fun h1 h2 => h1.trans h2⟩) (some 113) rfl (by kernel_rfl) (by kernel_rfl) (by kernel_rfl) (by kernel_rfl) (by kernel_rfl) (fun _ _ _ h => h) (by kernel_rfl) (fun w' hw' => ?_) ?_
                      rotate_left
                      · go_simp; with_reducible rfl
                      simp only [Act.put, List.setIfInBounds_toArray, List.set_cons_zero, List.set_cons_succ]
                      refine wpR_take (i := 23) (v := ?_) (⟨fun x => Below.refl _ x, fun h1 h2 => h1.trans h2⟩) (some 114) rfl (by kernel_rfl) (by kernel_rfl) (by kernel_rfl) (by kernel_rfl) (by kernel_rfl) (fun _ _ _ h => h) (by kernel_rfl) (fun w' hw' => ?_) ?_
                      rotate_left
                      · go_simp; with_reducible rfl
                      simp only [Act.put, List.setIfInBounds_toArray, List.set_cons_zero, List.set_cons_succ]
                      refine wpR_take (i := 24) (v := ?_) (⟨fun x => Below.refl _ x, fun h1 h2 => h1.trans h2⟩) (some 115) rfl (by kernel_rfl) (by kernel_rfl) (by kernel_rfl) (by kernel_rfl) (by kernel_rfl) (fun _ _ _ h => h) (by kernel_rfl) (fun w' hw' => ?_) ?_
                      rotate_left
                      · obtain ⟨x0, x1, x2, x3, x4, x5, x6, x7, x8, x9, x10, x11⟩ := hXk.out w' (Gr.trans hg5.out hw'); go_simp; with_reducible rfl
                      simp only [Act.put, List.setIfInBounds_toArray, List.set_cons_zero, List.set_cons_succ]
                      refine wpR_take (i := 25) (v := ?_) (⟨fun x => Below.refl _ x, fun h1 h2 => h1.trans h2⟩) (some 116) rfl (by kernel_rfl) (by kernel_rfl) (by kernel_rfl) (by kernel_rfl) (by kernel_rfl) (fun _ _ _ h => h) (by kernel_rfl) (fun w' hw' => ?_) ?_
                      rotate_left
                      · go_simp; with_reducible rfl
                      simp only [Act.put, List.setIfInBounds_toArray, List.set_cons_zero, List.set_cons_succ]
                      refine wpR_take (i := 26) (v := ?_) (⟨fun x => Below.refl _ x, fun h1 h2 => h1.trans h2⟩) (some 117) rfl (by kernel_rfl) (by kernel_rfl) (by kernel_rfl) (by kernel_rfl) (by kernel_rfl) (fun _ _ _ h => h) (by kernel_rfl) (fun w' hw' => ?_) ?_
                      rotate_left
                      · have r := blk_cell (j := 0) (hEk.out w' (Gr.trans hg5.out hw')) rfl; go_simp; with_reducible rfl
                      simp only [Act.put, List.setIfInBounds_toArray, List.set_cons_zero, List.set_cons_succ]
                      refine wpR_take (i := 27) (v := ?_) (⟨fun x => Below.refl _ x, fun h1 h2 => h1.trans h2⟩) (some 118) rfl (by kernel_rfl) (by kernel_rfl) (by kernel_rfl) (by kernel_rfl) (by kernel_rfl) (fun _ _ _ h => h) (by kernel_rfl) (fun w' hw' => ?_) ?_
                      rotate_left
                      · go_simp; with_reducible rfl
                      simp only [Act.put, List.setIfInBounds_toArray, List.set_cons_zero, List.set_cons_succ]
                      refine wpR_take (i := 28) (v := ?_) (⟨fun x => Below.refl _ x, fun h1 h2 => h1.trans h2⟩) (some 119) rfl (by kernel_rfl) (by kernel_rfl) (by kernel_rfl) (by kernel_rfl) (by kernel_rfl) (fun _ _ _ h => h) (by kernel_rfl) (fun w' hw' => ?_) ?_
                      rotate_left
                      · go_simp; with_reducible rfl
                      simp only [Act.put, List.setIfInBounds_toArray, List.set_cons_zero, List.set_cons_succ]
                      refine wpR_take (i := 29) (v := ?_) (⟨fun x => Below.refl _ x, fun h1 h2 => h1.trans h2⟩) (some 120) rfl (by kernel_rfl) (by kernel_rfl) (by kernel_rfl) (by kernel_rfl) (by kernel_rfl) (fun _ _ _ h => h) (by kernel_rfl) (fun w' hw' => ?_) ?_
                      rotate_left
                      · go_simp; with_reducible rfl
                      simp only [Act.put, List.setIfInBounds_toArray, List.set_cons_zero, List.set_cons_succ]
                      refine wpR_skip (i := 30) (⟨fun x => Below.refl _ x, fun h1 h2 => h1.trans h2⟩) (some 121) rfl (by kernel_rfl) (by kernel_rfl) (by kernel_rfl) (by kernel_rfl) (by kernel_rfl) (fun _ _ _ h => h) (by kernel_rfl) ?_
                      simp only [Act.put, List.setIfInBounds_toArray, List.set_cons_zero, List.set_cons_succ]
                      refine wpR_skip (i := 31) (⟨fun x => Below.refl _ x, fun h1 h2 => h1.trans h2⟩) (some 122) rfl (by kernel_rfl) (by kernel_rfl) (by kernel_rfl) (by kernel_rfl) (by kernel_rfl) (fun _ _ _ h => h) (by kernel_rfl) ?_
                      simp only [Act.put, List.setIfInBounds_toArray, List.set_cons_zero, List.set_cons_succ]
                      refine wpR_skip (i := 32) (⟨fun x => Below.refl _ x, fun h1 h2 => h1.trans h2⟩) (some 123) rfl (by kernel_rfl) (by kernel_rfl) (by kernel_rfl) (by kernel_rfl) (by kernel_rfl) (fun _ _ _ h => h) (by kernel_rfl) ?_
                      simp only [Act.put, List.setIfInBounds_toArray, List.set_cons_zero, List.set_cons_succ]
                      refine wpR_skip (i := 33) (⟨fun x => Below.refl _ x, fun h1 h2 => h1.trans h2⟩) (some 124) rfl (by kernel_rfl) (by kernel_rfl) (by kernel_rfl) (by kernel_rfl) (by kernel_rfl) (fun _ _ _ h => h) (by kernel_rfl) ?_
                      simp only [Act.put, List.setIfInBounds_toArray, List.set_cons_zero, List.set_cons_succ]
                      refine wpR_skip (i := 34) (⟨fun x => Below.refl _ x, fun h1 h2 => h1.trans h2⟩) (some 125) rfl (by kernel_rfl) (by kernel_rfl) (by kernel_rfl) (by kernel_rfl) (by kernel_rfl) (fun _ _ _ h => h) (by kernel_rfl) ?_
                      simp only [Act.put, List.setIfInBounds_toArray, List.set_cons_zero, List.set_cons_succ]
                      refine wpR_skip (i := 35) (⟨fun x => Below.refl _ x, fun h1 h2 => h1.trans h2⟩) (some 126) rfl (by kernel_rfl) (by kernel_rfl) (by kernel_rfl) (by kernel_rfl) (by kernel_rfl) (fun _ _ _ h => h) (by kernel_rfl) ?_
                      simp only [Act.put, List.setIfInBounds_toArray, List.set_cons_zero, List.set_cons_succ]
                      refine wpR_skip (i := 36) (⟨fun x => Below.refl _ x, fun h1 h2 => h1.trans h2⟩) (some 127) rfl (by kernel_rfl) (by kernel_rfl) (by kernel_rfl) (by kernel_rfl) (by kernel_rfl) (fun _ _ _ h => h) (by kernel_rfl) ?_
                      simp only [Act.put, List.setIfInBounds_toArray, List.set_cons_zero, List.set_cons_succ]
                      refine wpR_skip (i := 37) (⟨fun x => Below.refl _ x, fun h1 h2 => h1.trans h2⟩) (some 128) rfl (by kernel_rfl) (by kernel_rfl) (by kernel_rfl) (by kernel_rfl) (by kernel_rfl) (fun _ _ _ h => h) (by kernel_rfl) ?_
                      simp only [Act.put, List.setIfInBounds_toArray, List.set_cons_zero, List.set_cons_succ]
                      refine wpR_skip (i := 38) (⟨fun x => Below.refl _ x, fun h1 h2 => h1.trans h2⟩) (some 129) rfl (by kernel_rfl) (by kernel_rfl) (by kernel_rfl) (by kernel_rfl) (by kernel_rfl) (fun _ _ _ h => h) (by kernel_rfl) ?_
                      simp only [Act.put, List.setIfInBounds_toArray, List.set_cons_zero, List.set_cons_succ]
                      refine wpR_take (i := 39) (v := ?_) (⟨fun x => Below.refl _ x, fun h1 h2 => h1.trans h2⟩) (some 130) rfl (by kernel_rfl) (by kernel_rfl) (by kernel_rfl) (by kernel_rfl) (by kernel_rfl) (fun _ _ _ h => h) (by kernel_rfl) (fun w' hw' => ?_) ?_
                      rotate_left
                      · go_simp; with_reducible rfl
                      simp only [Act.put, List.setIfInBounds_toArray, List.set_cons_zero, List.set_cons_succ]
                      refine wpR_done (by kernel_rfl) ?_ _
                      go_wp2_with fail
                      go_roundw
                      case rel => exact ⟨k + 1, by omega, by go_num, Lib.hid (hg7d.out.trans hg5.out)⟩
                      case measure => simp [intOf]; omega
                  · have d2 : decide (rk = 3) = false := decide_eq_false k2
                    have b2 : (rk == 3) = false := by rw [beq_eq_false_iff_ne]; exact k2
                    replace k2 := Lib.hid k2
                    refine wpR_take (i := 10) (v := ?_) (⟨fun x => Below.refl _ x, fun h1 h2 => h1.trans h2⟩) (some 101) rfl (by kernel_rfl) (by kernel_rfl) (by kernel_rfl) (by kernel_rfl) (by kernel_rfl) (fun _ _ _ h => h) (by kernel_rfl) (fun w' hw' => ?_) ?_
                    rotate_left
                    · go_simp; with_reducible rfl
                    simp only [Act.put, List.setIfInBounds_toArray, List.set_cons_zero, List.set_cons_succ]
                    refine wpR_take (i := 11) (v := ?_) (⟨fun x => Below.refl _ x, fun h1 h2 => h1.trans h2⟩) (some 102) rfl (by kernel_rfl) (by kernel_rfl) (by kernel_rfl) (by kernel_rfl) (by kernel_rfl) (fun _ _ _ h => h) (by kernel_rfl) (fun w' hw' => ?_) ?_
                    rotate_left
                    · go_simp; with_reducible rfl
                    simp only [Act.put, List.setIfInBounds_toArray, List.set_cons_zero, List.set_cons_succ]
                    refine wpR_take (i := 12) (v := ?_) (⟨fun x => Below.refl _ x, fun h1 h2 => h1.trans h2⟩) (some 103) rfl (by kernel_rfl) (by kernel_rfl) (by kernel_rfl) (by kernel_rfl) (by kernel_rfl) (fun _ _ _ h => h) (by kernel_rfl) (fun w' hw' => ?_) ?_
                    rotate_left
                    · go_simp; with_reducible rfl
                    simp only [Act.put, List.setIfInBounds_toArray, List.set_cons_zero, List.set_cons_succ]
                    refine wpR_take (i := 13) (v := ?_) (⟨fun x => Below.refl _ x, fun h1 h2 => h1.trans h2⟩) (some 104) rfl (by kernel_rfl) (by kernel_rfl) (by kernel_rfl) (by kernel_rfl) (by kernel_rfl) (fun _ _ _ h => h) (by kernel_rfl) (fun w' hw' => ?_) ?_
                    rotate_left
                    · go_simp; with_reducible rfl
                    simp only [Act.put, List.setIfInBounds_toArray, List.set_cons_zero, List.set_cons_succ]
                    refine wpR_take (i := 14) (v := ?_) (⟨fun x => Below.refl _ x, fun h1 h2 => h1.trans h2⟩) (some 105) rfl (by kernel_rfl) (by kernel_rfl) (by kernel_rfl) (by kernel_rfl) (by kernel_rfl) (fun _ _ _ h => h) (by kernel_rfl) (fun w' hw' => ?_) ?_
                    rotate_left
                    · go_simp; with_reducible rfl
                    simp only [Act.put, List.setIfInBounds_toArray, List.set_cons_zero, List.set_cons_succ]
                    refine wpR_take (i := 15) (v := ?_) (⟨fun x => Below.refl _ x, fun h1 h2 => h1.trans h2⟩) (some 106) rfl (by kernel_rfl) (by kernel_rfl) (by kernel_rfl) (by kernel_rfl) (by kernel_rfl) (fun _ _ _ h => h) (by kernel_rfl) (fun w' hw' => ?_) ?_
                    rotate_left
                    · obtain ⟨x0, x1, x2, x3, x4, x5, x6, x7, x8, x9, x10, x11⟩ := hXk.out w' (Gr.trans hg5.out hw'); go_simp; with_reducible rfl
                    simp only [Act.put, List.setIfInBounds_toArray, List.set_cons_zero, List.set_cons_succ]
                    refine wpR_take (i := 16) (v := ?_) (⟨fun x => Below.refl _ x, fun h1 h2 => h1.trans h2⟩) (some 107) rfl (by kernel_rfl) (by kernel_rfl) (by kernel_rfl) (by kernel_rfl) (by kernel_rfl) (fun _ _ _ h => h) (by kernel_rfl) (fun w' hw' => ?_) ?_
                    rotate_left
                    · go_simp; with_reducible rfl
                    simp only [Act.put, List.setIfInBounds_toArray, List.set_cons_zero, List.set_cons_succ]
                    refine wpR_take (i := 17) (v := ?_) (⟨fun x => Below.refl _ x, fun h1 h2 => h1.trans h2⟩) (some 108) rfl (by kernel_rfl) (by kernel_rfl) (by kernel_rfl) (by kernel_rfl) (by kernel_rfl) (fun _ _ _ h => h) (by kernel_rfl) (fun w' hw' => ?_) ?_
                    rotate_left
                    · go_simp; with_reducible rfl
                    simp only [Act.put, List.setIfInBounds_toArray, List.set_cons_zero, List.set_cons_succ]
                    refine wpR_take (i := 18) (v := ?_) (⟨fun x => Below.refl _ x, fun h1 h2 => h1.trans h2⟩) (some 109) rfl (by kernel_rfl) (by kernel_rfl) (by kernel_rfl) (by kernel_rfl) (by kernel_rfl) (fun _ _ _ h => h) (by kernel_rfl) (fun w' hw' => ?_) ?_
                    rotate_left
                    · go_simp; with_reducible rfl
                    simp only [Act.put, List.setIfInBounds_toArray, List.set_cons_zero, List.set_cons_succ]
                    refine wpR_skip (i := 19) (⟨fun x => Below.refl _ x, fun h1 h2 => h1.trans h2⟩) (some 110) rfl (by kernel_rfl) (by kernel_rfl) (by kernel_rfl) (by kernel_rfl) (by kernel_rfl) (fun _ _ _ h => h) (by kernel_rfl) ?_
                    simp only [Act.put, List.setIfInBounds_toArray, List.set_cons_zero, List.set_cons_succ]
                    refine wpR_skip (i := 20) (⟨fun x => Below.refl _ x, fun h1 h2 => h1.trans h2⟩) (some 111) rfl (by kernel_rfl) (by kernel_rfl) (by kernel_rfl) (by kernel_rfl) (by kernel_rfl) (fun _ _ _ h => h) (by kernel_rfl) ?_
                    simp only [Act.put, List.setIfInBounds_toArray, List.set_cons_zero, List.set_cons_succ]
                    refine wpR_skip (i := 21) (⟨fun x => Below.refl _ x, fun h1 h2 => h1.trans h2⟩) (some 112) rfl (by kernel_rfl) (by kernel_rfl) (by kernel_rfl) (by kernel_rfl) (by kernel_rfl) (fun _ _ _ h => h) (by kernel_rfl) ?_
                    simp only [Act.put, List.setIfInBounds_toArray, List.set_cons_zero, List.set_cons_succ]
                    refine wpR_skip (i := 22) (⟨fun x => Below.refl _ x, fun h1 h2 => h1.trans h2⟩) (some 113) rfl (by kernel_rfl) (by kernel_rfl) (by kernel_rfl) (by kernel_rfl) (by kernel_rfl) (fun _ _ _ h => h) (by kernel_rfl) ?_
                    simp only [Act.put, List.setIfInBounds_toArray, List.set_cons_zero, List.set_cons_succ]
                    refine wpR_skip (i := 23) (⟨fun x => Below.refl _ x, fun h1 h2 => h1.trans h2⟩) (some 114) rfl (by kernel_rfl) (by kernel_rfl) (by kernel_rfl) (by kernel_rfl) (by kernel_rfl) (fun _ _ _ h => h) (by kernel_rfl) ?_
                    simp only [Act.put, List.setIfInBounds_toArray, List.set_cons_zero, List.set_cons_succ]
                    refine wpR_skip (i := 24) (⟨fun x => Below.refl _ x, fun h1 h2 => h1.trans h2⟩) (some 115) rfl (by kernel_rfl) (by kernel_rfl) (by kernel_rfl) (by kernel_rfl) (by kernel_rfl) (fun _ _ _ h => h) (by kernel_rfl) ?_
                    simp only [Act.put, List.setIfInBounds_toArray, List.set_cons_zero, List.set_cons_succ]
                    refine wpR_skip (i := 25) (⟨fun x => Below.refl _ x, fun h1 h2 => h1.trans h2⟩) (some 116) rfl (by kernel_rfl) (by kernel_rfl) (by kernel_rfl) (by kernel_rfl) (by kernel_rfl) (fun _ _ _ h => h) (by kernel_rfl) ?_
                    simp only [Act.put, List.setIfInBounds_toArray, List.set_cons_zero, List.set_cons_succ]
                    refine wpR_skip (i := 26) (⟨fun x => Below.refl _ x, fun h1 h2 => h1.trans h2⟩) (some 117) rfl (by kernel_rfl) (by kernel_rfl) (by kernel_rfl) (by kernel_rfl) (by kernel_rfl) (fun _ _ _ h => h) (by kernel_rfl) ?_
                    simp only [Act.put, List.setIfInBounds_toArray, List.set_cons_zero, List.set_cons_succ]
                    refine wpR_skip (i := 27) (⟨fun x => Below.refl _ x, fun h1 h2 => h1.trans h2⟩) (some 118) rfl (by kernel_rfl) (by kernel_rfl) (by kernel_rfl) (by kernel_rfl) (by kernel_rfl) (fun _ _ _ h => h) (by kernel_rfl) ?_
                    simp only [Act.put, List.setIfInBounds_toArray, List.set_cons_zero, List.set_cons_succ]
                    refine wpR_take (i := 28) (v := ?_) (⟨fun x => Below.refl _ x, fun h1 h2 => h1.trans h2⟩) (some 119) rfl (by kernel_rfl) (by kernel_rfl) (by kernel_rfl) (by kernel_rfl) (by kernel_rfl) (fun _ _ _ h => h) (by kernel_rfl) (fun w' hw' => ?_) ?_
                    rotate_left
                    · go_simp; with_reducible rfl
                    simp only [Act.put, List.setIfInBounds_toArray, List.set_cons_zero, List.set_cons_succ]
                    refine wpR_take (i := 29) (v := ?_) (⟨fun x => Below.refl _ x, fun h1 h2 => h1.trans h2⟩) (some 120) rfl (by kernel_rfl) (by kernel_rfl) (by kernel_rfl) (by kernel_rfl) (by kernel_rfl) (fun _ _ _ h => h) (by kernel_rfl) (fun w' hw' => ?_) ?_
                    rotate_left
                    · go_simp; with_reducible rfl
                    simp only [Act.put, List.setIfInBounds_toArray, List.set_cons_zero, List.set_cons_succ]
                    refine wpR_skip (i := 30) (⟨fun x => Below.refl _ x, fun h1 h2 => h1.trans h2⟩) (some 121) rfl (by kernel_rfl) (by kernel_rfl) (by kernel_rfl) (by kernel_rfl) (by kernel_rfl) (fun _ _ _ h => h) (by kernel_rfl) ?_
                    simp only [Act.put, List.setIfInBounds_toArray, List.set_cons_zero, List.set_cons_succ]
                    refine wpR_skip (i := 31) (⟨fun x => Below.refl _ x, fun h1 h2 => h1.trans h2⟩) (some 122) rfl (by kernel_rfl) (by kernel_rfl) (by kernel_rfl) (by kernel_rfl) (by kernel_rfl) (fun _ _ _ h => h) (by kernel_rfl) ?_
                    simp only [Act.put, List.setIfInBounds_toArray, List.set_cons_zero, List.set_cons_succ]
                    refine wpR_skip (i := 32) (⟨fun x => Below.refl _ x, fun h1 h2 => h1.trans h2⟩) (some 123) rfl (by kernel_rfl) (by kernel_rfl) (by kernel_rfl) (by kernel_rfl) (by kernel_rfl) (fun _ _ _ h => h) (by kernel_rfl) ?_
                    simp only [Act.put, List.setIfInBounds_toArray, List.set_cons_zero, List.set_cons_succ]
                    refine wpR_skip (i := 33) (⟨fun x => Below.refl _ x, fun h1 h2 => h1.trans h2⟩) (some 124) rfl (by kernel_rfl) (by kernel_rfl) (by kernel_rfl) (by kernel_rfl) (by kernel_rfl) (fun _ _ _ h => h) (by kernel_rfl) ?_
                    simp only [Act.put, List.setIfInBounds_toArray, List.set_cons_zero, List.set_cons_succ]
                    refine wpR_skip (i := 34) (⟨fun x => Below.refl _ x, fun h1 h2 => h1.trans h2⟩) (some 125) rfl (by kernel_rfl) (by kernel_rfl) (by kernel_rfl) (by kernel_rfl) (by kernel_rfl) (fun _ _ _ h => h) (by kernel_rfl) ?_
                    simp only [Act.put, List.setIfInBounds_toArray, List.set_cons_zero, List.set_cons_succ]
                    refine wpR_skip (i := 35) (⟨fun x => Below.refl _ x, fun h1 h2 => h1.trans h2⟩) (some 126) rfl (by kernel_rfl) (by kernel_rfl) (by kernel_rfl) (by kernel_rfl) (by kernel_rfl) (fun _ _ _ h => h) (by kernel_rfl) ?_
                    simp only [Act.put, List.setIfInBounds_toArray, List.set_cons_zero, List.set_cons_succ]
                    refine wpR_skip (i := 36) (⟨fun x => Below.refl _ x, fun h1 h2 => h1.trans h2⟩) (some 127) rfl (by kernel_rfl) (by kernel_rfl) (by kernel_rfl) (by kernel_rfl) (by kernel_rfl) (fun _ _ _ h => h) (by kernel_rfl) ?_
                    simp only [Act.put, List.setIfInBounds_toArray, List.set_cons_zero, List.set_cons_succ]
                    refine wpR_skip (i := 37) (⟨fun x => Below.refl _ x, fun h1 h2 => h1.trans h2⟩) (some 128) rfl (by kernel_rfl) (by kernel_rfl) (by kernel_rfl) (by kernel_rfl) (by kernel_rfl) (fun _ _ _ h => h) (by kernel_rfl) ?_
                    simp only [Act.put, List.setIfInBounds_toArray, List.set_cons_zero, List.set_cons_succ]
                    refine wpR_skip (i := 38) (⟨fun x => Below.refl _ x, fun h1 h2 => h1.trans h2⟩) (some 129) rfl (by kernel_rfl) (by kernel_rfl) (by kernel_rfl) (by kernel_rfl) (by kernel_rfl) (fun _ _ _ h => h) (by kernel_rfl) ?_
                    simp only [Act.put, List.setIfInBounds_toArray, List.set_cons_zero, List.set_cons_succ]
                    refine wpR_take (i := 39) (v := ?_) (⟨fun x => Below.refl _ x, fun h1 h2 => h1.trans h2⟩) (some 130) rfl (by kernel_rfl) (by kernel_rfl) (by kernel_rfl) (by kernel_rfl) (by kernel_rfl) (fun _ _ _ h => h) (by kernel_rfl) (fun w' hw' => ?_) ?_
                    rotate_left
                    · go_simp; with_reducible rfl
                    simp only [Act.put, List.setIfInBounds_toArray, List.set_cons_zero, List.set_cons_succ]
                    refine wpR_done (by kernel_rfl) ?_ _
                    go_wp2_with fail
                    go_roundw
                    case rel => exact ⟨k + 1, by omega, by go_num, Lib.hid (hg7d.out.trans hg5.out)⟩
                    case measure => simp [intOf]; omega
                · obtain rfl : gB = false := by cases gB with | false => rfl | true => exact absurd rfl k1
                  clear k1
                  refine wpR_take (i := 2) (v := ?_) (⟨fun x => Below.refl _ x, fun h1 h2 => h1.trans h2⟩) (some 93) rfl (by kernel_rfl) (by kernel_rfl) (by kernel_rfl) (by kernel_rfl) (by kernel_rfl) (fun _ _ _ h => h) (by kernel_rfl) (fun w' hw' => ?_) ?_
                  rotate_left
                  · go_simp; with_reducible rfl
                  simp only [Act.put, List.setIfInBounds_toArray, List.set_cons_zero, List.set_cons_succ]
                  refine wpR_take (i := 3) (v := ?_) (⟨fun x => Below.refl _ x, fun h1 h2 => h1.trans h2⟩) (some 94) rfl (by kernel_rfl) (by kernel_rfl) (by kernel_rfl) (by kernel_rfl) (by kernel_rfl) (fun _ _ _ h => h) (by kernel_rfl) (fun w' hw' => ?_) ?_
                  rotate_left
                  · go_simp; with_reducible rfl
                  simp only [Act.put, List.setIfInBounds_toArray, List.set_cons_zero, List.set_cons_succ]
                  refine wpR_take (i := 4) (v := ?_) (⟨fun x => Below.refl _ x, fun h1 h2 => h1.trans h2⟩) (some 95) rfl (by kernel_rfl) (by kernel_rfl) (by kernel_rfl) (by kernel_rfl) (by kernel_rfl) (fun _ _ _ h => h) (by kernel_rfl) (fun w' hw' => ?_) ?_
                  rotate_left
                  · go_simp; with_reducible rfl
                  simp only [Act.put, List.setIfInBounds_toArray, List.set_cons_zero, List.set_cons_succ]
                  refine wpR_take (i := 5) (v := ?_) (⟨fun x => Below.refl _ x, fun h1 h2 => h1.trans h2⟩) (some 96) rfl (by kernel_rfl) (by kernel_rfl) (by kernel_rfl) (by kernel_rfl) (by kernel_rfl) (fun _ _ _ h => h) (by kernel_rfl) (fun w' hw' => ?_) ?_
                  rotate_left
                  · go_simp; with_reducible rfl
                  simp only [Act.put, List.setIfInBounds_toArray, List.set_cons_zero, List.set_cons_succ]
                  refine wpR_take (i := 6) (v := ?_) (⟨fun x => Below.refl _ x, fun h1 h2 => h1.trans h2⟩) (some 97) rfl (by kernel_rfl) (by kernel_rfl) (by kernel_rfl) (by kernel_rfl) (by kernel_rfl) (fun _ _ _ h => h) (by kernel_rfl) (fun w' hw' => ?_) ?_
                  rotate_left
                  · obtain ⟨x0, x1, x2, x3, x4, x5, x6, x7, x8, x9, x10, x11⟩ := hXk.out w' hw'; go_simp; with_reducible rfl
                  simp only [Act.put, List.setIfInBounds_toArray, List.set_cons_zero, List.set_cons_succ]
                  refine wpR_one 7 rfl (by kernel_rfl) (by kernel_rfl) (fun K hK => ?_)
                  go_simp
                  refine (hgd.out wd (Gr.refl _)).mono ?_
                  rintro e w5 ⟨rfl, hg5⟩
                  refine hK _ _ (fun _ => hg5) ?_
                  clear hK K
                  replace hg5 : Hid (Gr wd w5) := Lib.hid hg5
                  try simp only [Act.put, List.setIfInBounds_toArray, List.set_cons_zero, List.set_cons_succ]
                  refine wpR_take (i := 8) (v := ?_) (⟨fun x => Below.refl _ x, fun h1 h2 => h1.trans h2⟩) (some 99) rfl (by kernel_rfl) (by kernel_rfl) (by kernel_rfl) (by kernel_rfl) (by kernel_rfl) (fun _ _ _ h => h) (by kernel_rfl) (fun w' hw' => ?_) ?_
                  rotate_left
                  · go_simp; with_reducible rfl
                  simp only [Act.put, List.setIfInBounds_toArray, List.set_cons_zero, List.set_cons_succ]
                  refine wpR_take (i := 9) (v := ?_) (⟨fun x => Below.refl _ x, fun h1 h2 => h1.trans h2⟩) (some 100) rfl (by kernel_rfl) (by kernel_rfl) (by kernel_rfl) (by kernel_rfl) (by kernel_rfl) (fun _ _ _ h => h) (by kernel_rfl) (fun w' hw' => ?_) ?_
                  rotate_left
                  · go_simp; with_reducible rfl
                  simp only [Act.put, List.setIfInBounds_toArray, List.set_cons_zero, List.set_cons_succ]
                  refine wpR_skip (i := 10) (⟨fun x => Below.refl _ x, fun h1 h2 => h1.trans h2⟩) (some 101) rfl (by kernel_rfl) (by kernel_rfl) (by kernel_rfl) (by kernel_rfl) (by kernel_rfl) (fun _ _ _ h => h) (by kernel_rfl) ?_
                  simp only [Act.put, List.setIfInBounds_toArray, List.set_cons_zero, List.set_cons_succ]
                  refine wpR_skip (i := 11) (⟨fun x => Below.refl _ x, fun h1 h2 => h1.trans h2⟩) (some 102) rfl (by kernel_rfl) (by kernel_rfl) (by kernel_rfl) (by kernel_rfl) (by kernel_rfl) (fun _ _ _ h => h) (by kernel_rfl) ?_
                  simp only [Act.put, List.setIfInBounds_toArray, List.set_cons_zero, List.set_cons_succ]
                  refine wpR_skip (i := 12) (⟨fun x => Below.refl _ x, fun h1 h2 => h1.trans h2⟩) (some 103) rfl (by kernel_rfl) (by kernel_rfl) (by kernel_rfl) (by kernel_rfl) (by kernel_rfl) (fun _ _ _ h => h) (by kernel_rfl) ?_
                  simp only [Act.put, List.setIfInBounds_toArray, List.set_cons_zero, List.set_cons_succ]
                  refine wpR_skip (i := 13) (⟨fun x => Below.refl _ x, fun h1 h2 => h1.trans h2⟩) (some 104) rfl (by kernel_rfl) (by kernel_rfl) (by kernel_rfl) (by kernel_rfl) (by kernel_rfl) (fun _ _ _ h => h) (by kernel_rfl) ?_
                  simp only [Act.put, List.setIfInBounds_toArray, List.set_cons_zero, List.set_cons_succ]
                  refine wpR_skip (i := 14) (⟨fun x => Below.refl _ x, fun h1 h2 => h1.trans h2⟩) (some 105) rfl (by kernel_rfl) (by kernel_rfl) (by kernel_rfl) (by kernel_rfl) (by kernel_rfl) (fun _ _ _ h => h) (by kernel_rfl) ?_
                  simp only [Act.put, List.setIfInBounds_toArray, List.set_cons_zero, List.set_cons_succ]
                  refine wpR_skip (i := 15) (⟨fun x => Below.refl _ x, fun h1 h2 => h1.trans h2⟩) (some 106) rfl (by kernel_rfl) (by kernel_rfl) (by kernel_rfl) (by kernel_rfl) (by kernel_rfl) (fun _ _ _ h => h) (by kernel_rfl) ?_
                  simp only [Act.put, List.setIfInBounds_toArray, List.set_cons_zero, List.set_cons_succ]
                  refine wpR_skip (i := 16) (⟨fun x => Below.refl _ x, fun h1 h2 => h1.trans h2⟩) (some 107) rfl (by kernel_rfl) (by kernel_rfl) (by kernel_rfl) (by kernel_rfl) (by kernel_rfl) (fun _ _ _ h => h) (by kernel_rfl) ?_
                  simp only [Act.put, List.setIfInBounds_toArray, List.set_cons_zero, List.set_cons_succ]
                  refine wpR_take (i := 17) (v := ?_) (⟨fun x => Below.refl _ x, fun h1 h2 => h1.trans h2⟩) (some 108) rfl (by kernel_rfl) (by kernel_rfl) (by kernel_rfl) (by kernel_rfl) (by kernel_rfl) (fun _ _ _ h => h) (by kernel_rfl) (fun w' hw' => ?_) ?_
                  rotate_left
                  · go_simp; with_reducible rfl
                  simp only [Act.put, List.setIfInBounds_toArray, List.set_cons_zero, List.set_cons_succ]
                  refine wpR_take (i := 18) (v := ?_) (⟨fun x => Below.refl _ x, fun h1 h2 => h1.trans h2⟩) (some 109) rfl (by kernel_rfl) (by kernel_rfl) (by kernel_rfl) (by kernel_rfl) (by kernel_rfl) (fun _ _ _ h => h) (by kernel_rfl) (fun w' hw' => ?_) ?_
                  rotate_left
                  · go_simp; with_reducible rfl
                  simp only [Act.put, List.setIfInBounds_toArray, List.set_cons_zero, List.set_cons_succ]
                  refine wpR_skip (i := 19) (⟨fun x => Below.refl _ x, fun h1 h2 => h1.trans h2⟩) (some 110) rfl (by kernel_rfl) (by kernel_rfl) (by kernel_rfl) (by kernel_rfl) (by kernel_rfl) (fun _ _ _ h => h) (by kernel_rfl) ?_
                  simp only [Act.put, List.setIfInBounds_toArray, List.set_cons_zero, List.set_cons_succ]
                  refine wpR_skip (i := 20) (⟨fun x => Below.refl _ x, fun h1 h2 => h1.trans h2⟩) (some 111) rfl (by kernel_rfl) (by kernel_rfl) (by kernel_rfl) (by kernel_rfl) (by kernel_rfl) (fun _ _ _ h => h) (by kernel_rfl) ?_
                  simp only [Act.put, List.setIfInBounds_toArray, List.set_cons_zero, List.set_cons_succ]
                  refine wpR_skip (i := 21) (⟨fun x => Below.refl _ x, fun h1 h2 => h1.trans h2⟩) (some 112) rfl (by kernel_rfl) (by kernel_rfl) (by kernel_rfl) (by kernel_rfl) (by kernel_rfl) (fun _ _ _ h => h) (by kernel_rfl) ?_
                  simp only [Act.put, List.setIfInBounds_toArray, List.set_cons_zero, List.set_cons_succ]
                  refine wpR_skip (i := 22) (⟨fun x => Below.refl _ x, fun h1 h2 => h1.trans h2⟩) (some 113) rfl (by kernel_rfl) (by kernel_rfl) (by kernel_rfl) (by kernel_rfl) (by kernel_rfl) (fun _ _ _ h => h) (by kernel_rfl) ?_
                  simp only [Act.put, List.setIfInBounds_toArray, List.set_cons_zero, List.set_cons_succ]
                  refine wpR_skip (i := 23) (⟨fun x => Below.refl _ x, fun h1 h2 => h1.trans h2⟩) (some 114) rfl (by kernel_rfl) (by kernel_rfl) (by kernel_rfl) (by kernel_rfl) (by kernel_rfl) (fun _ _ _ h => h) (by kernel_rfl) ?_
                  simp only [Act.put, List.setIfInBounds_toArray, List.set_cons_zero, List.set_cons_succ]
                  refine wpR_skip (i := 24) (⟨fun x => Below.refl _ x, fun h1 h2 => h1.trans h2⟩) (some 115) rfl (by kernel_rfl) (by kernel_rfl) (by kernel_rfl) (by kernel_rfl) (by kernel_rfl) (fun _ _ _ h => h) (by kernel_rfl) ?_
                  simp only [Act.put, List.setIfInBounds_toArray, List.set_cons_zero, List.set_cons_succ]
                  refine wpR_skip (i := 25) (⟨fun x => Below.refl _ x, fun h1 h2 => h1.trans h2⟩) (some 116) rfl (by kernel_rfl) (by kernel_rfl) (by kernel_rfl) (by kernel_rfl) (by kernel_rfl) (fun _ _ _ h => h) (by kernel_rfl) ?_
                  simp only [Act.put, List.setIfInBounds_toArray, List.set_cons_zero, List.set_cons_succ]
                  refine wpR_skip (i := 26) (⟨fun x => Below.refl _ x, fun h1 h2 => h1.trans h2⟩) (some 117) rfl (by kernel_rfl) (by kernel_rfl) (by kernel_rfl) (by kernel_rfl) (by kernel_rfl) (fun _ _ _ h => h) (by kernel_rfl) ?_
                  simp only [Act.put, List.setIfInBounds_toArray, List.set_cons_zero, List.set_cons_succ]
                  refine wpR_skip (i := 27) (⟨fun x => Below.refl _ x, fun h1 h2 => h1.trans h2⟩) (some 118) rfl (by kernel_rfl) (by kernel_rfl) (by kernel_rfl) (by kernel_rfl) (by kernel_rfl) (fun _ _ _ h => h) (by kernel_rfl) ?_
                  simp only [Act.put, List.setIfInBounds_toArray, List.set_cons_zero, List.set_cons_succ]
                  refine wpR_take (i := 28) (v := ?_) (⟨fun x => Below.refl _ x, fun h1 h2 => h1.trans h2⟩) (some 119) rfl (by kernel_rfl) (by kernel_rfl) (by kernel_rfl) (by kernel_rfl) (by kernel_rfl) (fun _ _ _ h => h) (by kernel_rfl) (fun w' hw' => ?_) ?_
                  rotate_left
                  · go_simp; with_reducible rfl
                  simp only [Act.put, List.setIfInBounds_toArray, List.set_cons_zero, List.set_cons_succ]
                  refine wpR_take (i := 29) (v := ?_) (⟨fun x => Below.refl _ x, fun h1 h2 => h1.trans h2⟩) (some 120) rfl (by kernel_rfl) (by kernel_rfl) (by kernel_rfl) (by kernel_rfl) (by kernel_rfl) (fun _ _ _ h => h) (by kernel_rfl) (fun w' hw' => ?_) ?_
                  rotate_left
                  · go_simp; with_reducible rfl
                  simp only [Act.put, List.setIfInBounds_toArray, List.set_cons_zero, List.set_cons_succ]
                  refine wpR_skip (i := 30) (⟨fun x => Below.refl _ x, fun h1 h2 => h1.trans h2⟩) (some 121) rfl (by kernel_rfl) (by kernel_rfl) (by kernel_rfl) (by kernel_rfl) (by kernel_rfl) (fun _ _ _ h => h) (by kernel_rfl) ?_
                  simp only [Act.put, List.setIfInBounds_toArray, List.set_cons_zero, List.set_cons_succ]
                  refine wpR_skip (i := 31) (⟨fun x => Below.refl _ x, fun h1 h2 => h1.trans h2⟩) (some 122) rfl (by kernel_rfl) (by kernel_rfl) (by kernel_rfl) (by kernel_rfl) (by kernel_rfl) (fun _ _ _ h => h) (by kernel_rfl) ?_
                  simp only [Act.put, List.setIfInBounds_toArray, List.set_cons_zero, List.set_cons_succ]
                  refine wpR_skip (i := 32) (⟨fun x => Below.refl _ x, fun h1 h2 => h1.trans h2⟩) (some 123) rfl (by kernel_rfl) (by kernel_rfl) (by kernel_rfl) (by kernel_rfl) (by kernel_rfl) (fun _ _ _ h => h) (by kernel_rfl) ?_
                  simp only [Act.put, List.setIfInBounds_toArray, List.set_cons_zero, List.set_cons_succ]
                  refine wpR_skip (i := 33) (⟨fun x => Below.refl _ x, fun h1 h2 => h1.trans h2⟩) (some 124) rfl (by kernel_rfl) (by kernel_rfl) (by kernel_rfl) (by kernel_rfl) (by kernel_rfl) (fun _ _ _ h => h) (by kernel_rfl) ?_
                  simp only [Act.put, List.setIfInBounds_toArray, List.set_cons_zero, List.set_cons_succ]
                  refine wpR_skip (i := 34) (⟨fun x => Below.refl _ x, fun h1 h2 => h1.trans h2⟩) (some 125) rfl (by kernel_rfl) (by kernel_rfl) (by kernel_rfl) (by kernel_rfl) (by kernel_rfl) (fun _ _ _ h => h) (by kernel_rfl) ?_
                  simp only [Act.put, List.setIfInBounds_toArray, List.set_cons_zero, List.set_cons_succ]
                  refine wpR_skip (i := 35) (⟨fun x => Below.refl _ x, fun h1 h2 => h1.trans h2⟩) (some 126) rfl (by kernel_rfl) (by kernel_rfl) (by kernel_rfl) (by kernel_rfl) (by kernel_rfl) (fun _ _ _ h => h) (by kernel_rfl) ?_
                  simp only [Act.put, List.setIfInBounds_toArray, List.set_cons_zero, List.set_cons_succ]
                  refine wpR_skip (i := 36) (⟨fun x => Below.refl _ x, fun h1 h2 => h1.trans h2⟩) (some 127) rfl (by kernel_rfl) (by kernel_rfl) (by kernel_rfl) (by kernel_rfl) (by kernel_rfl) (fun _ _ _ h => h) (by kernel_rfl) ?_
                  simp only [Act.put, List.setIfInBounds_toArray, List.set_cons_zero, List.set_cons_succ]
                  refine wpR_skip (i := 37) (⟨fun x => Below.refl _ x, fun h1 h2 => h1.trans h2⟩) (some 128) rfl (by kernel_rfl) (by kernel_rfl) (by kernel_rfl) (by kernel_rfl) (by kernel_rfl) (fun _ _ _ h => h) (by kernel_rfl) ?_
                  simp only [Act.put, List.setIfInBounds_toArray, List.set_cons_zero, List.set_cons_succ]
                  refine wpR_skip (i := 38) (⟨fun x => Below.refl _ x, fun h1 h2 => h1.trans h2⟩) (some 129) rfl (by kernel_rfl) (by kernel_rfl) (by kernel_rfl) (by kernel_rfl) (by kernel_rfl) (fun _ _ _ h => h) (by kernel_rfl) ?_
                  simp only [Act.put, List.setIfInBounds_toArray, List.set_cons_zero, List.set_cons_succ]
                  refine wpR_take (i := 39) (v := ?_) (⟨fun x => Below.refl _ x, fun h1 h2 => h1.trans h2⟩) (some 130) rfl (by kernel_rfl) (by kernel_rfl) (by kernel_rfl) (by kernel_rfl) (by kernel_rfl) (fun _ _ _ h => h) (by kernel_rfl) (fun w' hw' => ?_) ?_
                  rotate_left
                  · go_simp; with_reducible rfl
                  simp only [Act.put, List.setIfInBounds_toArray, List.set_cons_zero, List.set_cons_succ]
                  refine wpR_done (by kernel_rfl) ?_ _
                  go_wp2_with fail
                  go_roundw
                  case rel => exact ⟨k + 1, by omega, by go_num, Lib.hid (hg7d.out.trans hg5.out)⟩
                  case measure => simp [intOf]; omega
              · obtain rfl : bR = false := by cases bR with | false => rfl | true => exact absurd rfl k0
                clear k0
                refine wpR_take (i := 0) (v := ?_) (⟨fun x => Below.refl _ x, fun h1 h2 => h1.trans h2⟩) (some 91) rfl (by kernel_rfl) (by kernel_rfl) (by kernel_rfl) (by kernel_rfl) (by kernel_rfl) (fun _ _ _ h => h) (by kernel_rfl) (fun w' hw' => ?_) ?_
                rotate_left
                · go_simp; with_reducible rfl
                simp only [Act.put, List.setIfInBounds_toArray, List.set_cons_zero, List.set_cons_succ]
                refine wpR_take (i := 1) (v := ?_) (⟨fun x => Below.refl _ x, fun h1 h2 => h1.trans h2⟩) (some 92) rfl (by kernel_rfl) (by kernel_rfl) (by kernel_rfl) (by kernel_rfl) (by kernel_rfl) (fun _ _ _ h => h) (by kernel_rfl) (fun w' hw' => ?_) ?_
                rotate_left
                · go_simp; with_reducible rfl
                simp only [Act.put, List.setIfInBounds_toArray, List.set_cons_zero, List.set_cons_succ]
                refine wpR_skip (i := 2) (⟨fun x => Below.refl _ x, fun h1 h2 => h1.trans h2⟩) (some 93) rfl (by kernel_rfl) (by kernel_rfl) (by kernel_rfl) (by kernel_rfl) (by kernel_rfl) (fun _ _ _ h => h) (by kernel_rfl) ?_
                simp only [Act.put, List.setIfInBounds_toArray, List.set_cons_zero, List.set_cons_succ]
                refine wpR_skip (i := 3) (⟨fun x => Below.refl _ x, fun h1 h2 => h1.trans h2⟩) (some 94) rfl (by kernel_rfl) (by kernel_rfl) (by kernel_rfl) (by kernel_rfl) (by kernel_rfl) (fun _ _ _ h => h) (by kernel_rfl) ?_
                simp only [Act.put, List.setIfInBounds_toArray, List.set_cons_zero, List.set_cons_succ]
                refine wpR_skip (i := 4) (⟨fun x => Below.refl _ x, fun h1 h2 => h1.trans h2⟩) (some 95) rfl (by kernel_rfl) (by kernel_rfl) (by kernel_rfl) (by kernel_rfl) (by kernel_rfl) (fun _ _ _ h => h) (by kernel_rfl) ?_
                simp only [Act.put, List.setIfInBounds_toArray, List.set_cons_zero, List.set_cons_succ]
                refine wpR_skip (i := 5) (⟨fun x => Below.refl _ x, fun h1 h2 => h1.trans h2⟩) (some 96) rfl (by kernel_rfl) (by kernel_rfl) (by kernel_rfl) (by kernel_rfl) (by kernel_rfl) (fun _ _ _ h => h) (by kernel_rfl) ?_
                simp only [Act.put, List.setIfInBounds_toArray, List.set_cons_zero, List.set_cons_succ]
                refine wpR_skip (i := 6) (⟨fun x => Below.refl _ x, fun h1 h2 => h1.trans h2⟩) (some 97) rfl (by kernel_rfl) (by kernel_rfl) (by kernel_rfl) (by kernel_rfl) (by kernel_rfl) (fun _ _ _ h => h) (by kernel_rfl) ?_
                simp only [Act.put, List.setIfInBounds_toArray, List.set_cons_zero, List.set_cons_succ]
                refine wpR_skip (i := 7) (⟨fun x => Below.refl _ x, fun h1 h2 => h1.trans h2⟩) (some 98) rfl (by kernel_rfl) (by kernel_rfl) (by kernel_rfl) (by kernel_rfl) (by kernel_rfl) (fun _ _ _ h => h) (by kernel_rfl) ?_
                simp only [Act.put, List.setIfInBounds_toArray, List.set_cons_zero, List.set_cons_succ]
                refine wpR_take (i := 8) (v := ?_) (⟨fun x => Below.refl _ x, fun h1 h2 => h1.trans h2⟩) (some 99) rfl (by kernel_rfl) (by kernel_rfl) (by kernel_rfl) (by kernel_rfl) (by kernel_rfl) (fun _ _ _ h => h) (by kernel_rfl) (fun w' hw' => ?_) ?_
                rotate_left
                · go_simp; with_reducible rfl
                simp only [Act.put, List.setIfInBounds_toArray, List.set_cons_zero, List.set_cons_succ]
                refine wpR_take (i := 9) (v := ?_) (⟨fun x => Below.refl _ x, fun h1 h2 => h1.trans h2⟩) (some 100) rfl (by kernel_rfl) (by kernel_rfl) (by kernel_rfl) (by kernel_rfl) (by kernel_rfl) (fun _ _ _ h => h) (by kernel_rfl) (fun w' hw' => ?_) ?_
                rotate_left
                · go_simp; with_reducible rfl
                simp only [Act.put, List.setIfInBounds_toArray, List.set_cons_zero, List.set_cons_succ]
                refine wpR_skip (i := 10) (⟨fun x => Below.refl _ x, fun h1 h2 => h1.trans h2⟩) (some 101) rfl (by kernel_rfl) (by kernel_rfl) (by kernel_rfl) (by kernel_rfl) (by kernel_rfl) (fun _ _ _ h => h) (by kernel_rfl) ?_
                simp only [Act.put, List.setIfInBounds_toArray, List.set_cons_zero, List.set_cons_succ]
                refine wpR_skip (i := 11) (⟨fun x => Below.refl _ x, fun h1 h2 => h1.trans h2⟩) (some 102) rfl (by kernel_rfl) (by kernel_rfl) (by kernel_rfl) (by kernel_rfl) (by kernel_rfl) (fun _ _ _ h => h) (by kernel_rfl) ?_
                simp only [Act.put, List.setIfInBounds_toArray, List.set_cons_zero, List.set_cons_succ]
                refine wpR_skip (i := 12) (⟨fun x => Below.refl _ x, fun h1 h2 => h1.trans h2⟩) (some 103) rfl (by kernel_rfl) (by kernel_rfl) (by kernel_rfl) (by kernel_rfl) (by kernel_rfl) (fun _ _ _ h => h) (by kernel_rfl) ?_
                simp only [Act.put, List.setIfInBounds_toArray, List.set_cons_zero, List.set_cons_succ]
                refine wpR_skip (i := 13) (⟨fun x => Below.refl _ x, fun h1 h2 => h1.trans h2⟩) (some 104) rfl (by kernel_rfl) (by kernel_rfl) (by kernel_rfl) (by kernel_rfl) (by kernel_rfl) (fun _ _ _ h => h) (by kernel_rfl) ?_
                simp only [Act.put, List.setIfInBounds_toArray, List.set_cons_zero, List.set_cons_succ]
                refine wpR_skip (i := 14) (⟨fun x => Below.refl _ x, fun h1 h2 => h1.trans h2⟩) (some 105) rfl (by kernel_rfl) (by kernel_rfl) (by kernel_rfl) (by kernel_rfl) (by kernel_rfl) (fun _ _ _ h => h) (by kernel_rfl) ?_
                simp only [Act.put, List.setIfInBounds_toArray, List.set_cons_zero, List.set_cons_succ]
                refine wpR_skip (i := 15) (⟨fun x => Below.refl _ x, fun h1 h2 => h1.trans h2⟩) (some 106) rfl (by kernel_rfl) (by kernel_rfl) (by kernel_rfl) (by kernel_rfl) (by kernel_rfl) (fun _ _ _ h => h) (by kernel_rfl) ?_
                simp only [Act.put, List.setIfInBounds_toArray, List.set_cons_zero, List.set_cons_succ]
                refine wpR_skip (i := 16) (⟨fun x => Below.refl _ x, fun h1 h2 => h1.trans h2⟩) (some 107) rfl (by kernel_rfl) (by kernel_rfl) (by kernel_rfl) (by kernel_rfl) (by kernel_rfl) (fun _ _ _ h => h) (by kernel_rfl) ?_
                simp only [Act.put, List.setIfInBounds_toArray, List.set_cons_zero, List.set_cons_succ]
                refine wpR_take (i := 17) (v := ?_) (⟨fun x => Below.refl _ x, fun h1 h2 => h1.trans h2⟩) (some 108) rfl (by kernel_rfl) (by kernel_rfl) (by kernel_rfl) (by kernel_rfl) (by kernel_rfl) (fun _ _ _ h => h) (by kernel_rfl) (fun w' hw' => ?_) ?_
                rotate_left
                · go_simp; with_reducible rfl
                simp only [Act.put, List.setIfInBounds_toArray, List.set_cons_zero, List.set_cons_succ]
                refine wpR_take (i := 18) (v := ?_) (⟨fun x => Below.refl _ x, fun h1 h2 => h1.trans h2⟩) (some 109) rfl (by kernel_rfl) (by kernel_rfl) (by kernel_rfl) (by kernel_rfl) (by kernel_rfl) (fun _ _ _ h => h) (by kernel_rfl) (fun w' hw' => ?_) ?_
                rotate_left
                · go_simp; with_reducible rfl
                simp only [Act.put, List.setIfInBounds_toArray, List.set_cons_zero, List.set_cons_succ]
                refine wpR_skip (i := 19) (⟨fun x => Below.refl _ x, fun h1 h2 => h1.trans h2⟩) (some 110) rfl (by kernel_rfl) (by kernel_rfl) (by kernel_rfl) (by kernel_rfl) (by kernel_rfl) (fun _ _ _ h => h) (by kernel_rfl) ?_
                simp only [Act.put, List.setIfInBounds_toArray, List.set_cons_zero, List.set_cons_succ]
                refine wpR_skip (i := 20) (⟨fun x => Below.refl _ x, fun h1 h2 => h1.trans h2⟩) (some 111) rfl (by kernel_rfl) (by kernel_rfl) (by kernel_rfl) (by kernel_rfl) (by kernel_rfl) (fun _ _ _ h => h) (by kernel_rfl) ?_
                simp only [Act.put, List.setIfInBounds_toArray, List.set_cons_zero, List.set_cons_succ]
                refine wpR_skip (i := 21) (⟨fun x => Below.refl _ x, fun h1 h2 => h1.trans h2⟩) (some 112) rfl (by kernel_rfl) (by kernel_rfl) (by kernel_rfl) (by kernel_rfl) (by kernel_rfl) (fun _ _ _ h => h) (by kernel_rfl) ?_
                simp only [Act.put, List.setIfInBounds_toArray, List.set_cons_zero, List.set_cons_succ]
                refine wpR_skip (i := 22) (⟨fun x => Below.refl _ x, fun h1 h2 => h1.trans h2⟩) (some 113) rfl (by kernel_rfl) (by kernel_rfl) (by kernel_rfl) (by kernel_rfl) (by kernel_rfl) (fun _ _ _ h => h) (by kernel_rfl) ?_
                simp only [Act.put, List.setIfInBounds_toArray, List.set_cons_zero, List.set_cons_succ]
                refine wpR_skip (i := 23) (⟨fun x => Below.refl _ x, fun h1 h2 => h1.trans h2⟩) (some 114) rfl (by kernel_rfl) (by kernel_rfl) (by kernel_rfl) (by kernel_rfl) (by kernel_rfl) (fun _ _ _ h => h) (by kernel_rfl) ?_
                simp only [Act.put, List.setIfInBounds_toArray, List.set_cons_zero, List.set_cons_succ]
                refine wpR_skip (i := 24) (⟨fun x => Below.refl _ x, fun h1 h2 => h1.trans h2⟩) (some 115) rfl (by kernel_rfl) (by kernel_rfl) (by kernel_rfl) (by kernel_rfl) (by kernel_rfl) (fun _ _ _ h => h) (by kernel_rfl) ?_
                simp only [Act.put, List.setIfInBounds_toArray, List.set_cons_zero, List.set_cons_succ]
                refine wpR_skip (i := 25) (⟨fun x => Below.refl _ x, fun h1 h2 => h1.trans h2⟩) (some 116) rfl (by kernel_rfl) (by kernel_rfl) (by kernel_rfl) (by kernel_rfl) (by kernel_rfl) (fun _ _ _ h => h) (by kernel_rfl) ?_
                simp only [Act.put, List.setIfInBounds_toArray, List.set_cons_zero, List.set_cons_succ]
                refine wpR_skip (i := 26) (⟨fun x => Below.refl _ x, fun h1 h2 => h1.trans h2⟩) (some 117) rfl (by kernel_rfl) (by kernel_rfl) (by kernel_rfl) (by kernel_rfl) (by kernel_rfl) (fun _ _ _ h => h) (by kernel_rfl) ?_
                simp only [Act.put, List.setIfInBounds_toArray, List.set_cons_zero, List.set_cons_succ]
                refine wpR_skip (i := 27) (⟨fun x => Below.refl _ x, fun h1 h2 => h1.trans h2⟩) (some 118) rfl (by kernel_rfl) (by kernel_rfl) (by kernel_rfl) (by kernel_rfl) (by kernel_rfl) (fun _ _ _ h => h) (by kernel_rfl) ?_
                simp only [Act.put, List.setIfInBounds_toArray, List.set_cons_zero, List.set_cons_succ]
                refine wpR_take (i := 28) (v := ?_) (⟨fun x => Below.refl _ x, fun h1 h2 => h1.trans h2⟩) (some 119) rfl (by kernel_rfl) (by kernel_rfl) (by kernel_rfl) (by kernel_rfl) (by kernel_rfl) (fun _ _ _ h => h) (by kernel_rfl) (fun w' hw' => ?_) ?_
                rotate_left
                · go_simp; with_reducible rfl
                simp only [Act.put, List.setIfInBounds_toArray, List.set_cons_zero, List.set_cons_succ]
                refine wpR_take (i := 29) (v := ?_) (⟨fun x => Below.refl _ x, fun h1 h2 => h1.trans h2⟩) (some 120) rfl (by kernel_rfl) (by kernel_rfl) (by kernel_rfl) (by kernel_rfl) (by kernel_rfl) (fun _ _ _ h => h) (by kernel_rfl) (fun w' hw' => ?_) ?_
                rotate_left
                · go_simp; with_reducible rfl
                simp only [Act.put, List.setIfInBounds_toArray, List.set_cons_zero, List.set_cons_succ]
                refine wpR_skip (i := 30) (⟨fun x => Below.refl _ x, fun h1 h2 => h1.trans h2⟩) (some 121) rfl (by kernel_rfl) (by kernel_rfl) (by kernel_rfl) (by kernel_rfl) (by kernel_rfl) (fun _ _ _ h => h) (by kernel_rfl) ?_
                simp only [Act.put, List.setIfInBounds_toArray, List.set_cons_zero, List.set_cons_succ]
                refine wpR_skip (i := 31) (⟨fun x => Below.refl _ x, fun h1 h2 => h1.trans h2⟩) (some 122) rfl (by kernel_rfl) (by kernel_rfl) (by kernel_rfl) (by kernel_rfl) (by kernel_rfl) (fun _ _ _ h => h) (by kernel_rfl) ?_
                simp only [Act.put, List.setIfInBounds_toArray, List.set_cons_zero, List.set_cons_succ]
                refine wpR_skip (i := 32) (⟨fun x => Below.refl _ x, fun h1 h2 => h1.trans h2⟩) (some 123) rfl (by kernel_rfl) (by kernel_rfl) (by kernel_rfl) (by kernel_rfl) (by kernel_rfl) (fun _ _ _ h => h) (by kernel_rfl) ?_
                simp only [Act.put, List.setIfInBounds_toArray, List.set_cons_zero, List.set_cons_succ]
                refine wpR_skip (i := 33) (⟨fun x => Below.refl _ x, fun h1 h2 => h1.trans h2⟩) (some 124) rfl (by kernel_rfl) (by kernel_rfl) (by kernel_rfl) (by kernel_rfl) (by kernel_rfl) (fun _ _ _ h => h) (by kernel_rfl) ?_
                simp only [Act.put, List.setIfInBounds_toArray, List.set_cons_zero, List.set_cons_succ]
                refine wpR_skip (i := 34) (⟨fun x => Below.refl _ x, fun h1 h2 => h1.trans h2⟩) (some 125) rfl (by kernel_rfl) (by kernel_rfl) (by kernel_rfl) (by kernel_rfl) (by kernel_rfl) (fun _ _ _ h => h) (by kernel_rfl) ?_
                simp only [Act.put, List.setIfInBounds_toArray, List.set_cons_zero, List.set_cons_succ]
                refine wpR_skip (i := 35) (⟨fun x => Below.refl _ x, fun h1 h2 => h1.trans h2⟩) (some 126) rfl (by kernel_rfl) (by kernel_rfl) (by kernel_rfl) (by kernel_rfl) (by kernel_rfl) (fun _ _ _ h => h) (by kernel_rfl) ?_
                simp only [Act.put, List.setIfInBounds_toArray, List.set_cons_zero, List.set_cons_succ]
                refine wpR_skip (i := 36) (⟨fun x => Below.refl _ x, fun h1 h2 => h1.trans h2⟩) (some 127) rfl (by kernel_rfl) (by kernel_rfl) (by kernel_rfl) (by kernel_rfl) (by kernel_rfl) (fun _ _ _ h => h) (by kernel_rfl) ?_
                simp only [Act.put, List.setIfInBounds_toArray, List.set_cons_zero, List.set_cons_succ]
                refine wpR_skip (i := 37) (⟨fun x => Below.refl _ x, fun h1 h2 => h1.trans h2⟩) (some 128) rfl (by kernel_rfl) (by kernel_rfl) (by kernel_rfl) (by kernel_rfl) (by kernel_rfl) (fun _ _ _ h => h) (by kernel_rfl) ?_
                simp only [Act.put, List.setIfInBounds_toArray, List.set_cons_zero, List.set_cons_succ]
                refine wpR_skip (i := 38) (⟨fun x => Below.refl _ x, fun h1 h2 => h1.trans h2⟩) (some 129) rfl (by kernel_rfl) (by kernel_rfl) (by kernel_rfl) (by kernel_rfl) (by kernel_rfl) (fun _ _ _ h => h) (by kernel_rfl) ?_
                simp only [Act.put, List.setIfInBounds_toArray, List.set_cons_zero, List.set_cons_succ]
                refine wpR_take (i := 39) (v := ?_) (⟨fun x => Below.refl _ x, fun h1 h2 => h1.trans h2⟩) (some 130) rfl (by kernel_rfl) (by kernel_rfl) (by kernel_rfl) (by kernel_rfl) (by kernel_rfl) (fun _ _ _ h => h) (by kernel_rfl) (fun w' hw' => ?_) ?_
                rotate_left
                · go_simp; with_reducible rfl
                simp only [Act.put, List.setIfInBounds_toArray, List.set_cons_zero, List.set_cons_succ]
                refine wpR_done (by kernel_rfl) ?_ _
                go_wp2_with fail
                go_roundw
                case rel => exact ⟨k + 1, by omega, by go_num, hg7d⟩
                case measure => simp [intOf]; omega
          · obtain rfl : k = m := by omega
            go_upto_region 17 with (fail)
            have hEBk := Lib.hid (blk_below hEB7.out hgk.out)
            have hg2k : Hid (Gr w2 wk) := Lib.hid (hg27.out.trans hgk.out)
            have hzc9 : Hid (zz.cells.toArray = #[.string (bs ek), .int .i64 eg, .int .i64 ez, .string (bs eu), .slice zA zn zc]) := Lib.hid (by rw [hzz.out, ← hzn.out]; rfl)
            have hze9 : Hid (zz.e.places = pl) := Lib.hid (by rw [hzz.out])
            have hzp9 : Hid (Pls zz.e.places (.slice zz.A zz.e.places.length zz.c) w2) := Lib.hid (by rw [hzz.out, hzn.out]; exact hzp.out)
            have hh9 : Hid (∀ s p, s < 40 → pl[s]? = some p → ∀ y, Gr w2 y → Calls Try.prog 15 #[.slice A k c, .agg #[.string (bs ek), .int .i64 eg, .int .i64 ez, .string (bs eu), .slice zA zn zc], .int .i64 (s : Nat)] y fun e w' => e = .returned (.bool (decide (p ≠ nowP))) ∧ Gr y w') := Lib.hid (fun s p hs40 hsp y hy => by
              have h1 := holds_any EL A k c zz s p y (FsV.gr hy hL).out hokL (Pls.gr hy hzp9).out (by rw [hze9.out]; exact hsp) hs40
              rw [hzc9.out] at h1
              have h2 := hhi.out s p (fun hp => hhold.out s p hsp hp)
              have h3 : EL.any (fun x => holdB x.f p zz.e s) = decide (p ≠ nowP) := by rw [hzz.out]; exact h2
              rw [h3] at h1
              exact h1)
            obtain ⟨pA, pc, ep, hp1, hp2, hp3, -⟩ := hzp.out
            injection ep with ep ed ep2
            subst ep ep2
            clear ed
            replace hp3 := Lib.hid hp3
            have hzn63 : zn ≤ 9223372036854775807 := by have := hGl'.out; omega
            clear hp1 hp2
            go_wp2_with fail
            go_loopw [11, 12] (fun o u wr => ∃ s th : Nat, s ≤ zn ∧ th ≤ 10 ∧ u = .int .i64 s ∧ o = .int .i64 th ∧ Hid (s % 10 = 0 ∨ th = cntT pl s) ∧ Hid (Gr wk wr)) (fun _ u _ => zn - (intOf u).toNat)
            case atStart => exact ⟨0, 0, Nat.zero_le _, by omega, rfl, rfl, Lib.hid (.inl rfl), Lib.hid (Gr.refl _)⟩
            case round =>
              obtain ⟨s, th, hs, hth, rfl, rfl, hct, hgs⟩ := hrel
              rename World => ws
              have hE5 := Lib.hid (blk_below hEBk.out hgs.out)
              have e4 := blk_cell (j := 4) hE5.out rfl
              by_cases hls : s < zn
              · have jj : (s : Int) < (zn : Int) := by omega
                have hs40 : s < 40 := by have := hGl'.out; omega
                obtain ⟨p, hs9⟩ : ∃ p, pl[s]? = some p := ⟨_, List.getElem?_eq_getElem (by rw [hzn.out]; exact hls)⟩
                obtain ⟨sm, hsm⟩ : ∃ n, s % 10 = n := ⟨_, rfl⟩
                have et10 : (s : Int).tmod 10 = (sm : Int) := by rw [Int.tmod_eq_emod_of_nonneg (by omega)]; omega
                have hsm10 : sm < 10 := by omega
                obtain ⟨th0, hth0e⟩ : ∃ n, (if sm = 0 then 0 else th) = n := ⟨_, rfl⟩
                have hth0 : Hid (th0 = cntT pl s) := Lib.hid (by
                  rw [← hth0e]
                  by_cases h0 : sm = 0
                  · rw [if_pos h0, cntT_zero (by rw [hsm]; exact h0)]
                  · rw [if_neg h0]; exact hct.out.resolve_left (by rw [hsm]; exact h0))
                have hth9 : th0 ≤ 9 := by have := cntT_le pl s; have := hth0.out; omega
                have hhc0 := hh9.out s p hs40 hs9
                obtain ⟨bpN, hbpN⟩ : ∃ b, decide (p ≠ nowP) = b := ⟨_, rfl⟩
                rw [hbpN] at hhc0
                have hhc := Lib.hid hhc0
                clear hhc0
                replace hbpN := Lib.hid hbpN
                replace hs9 := Lib.hid hs9
                replace hsm := Lib.hid hsm
                replace hth0e := Lib.hid hth0e
                go_upto_if 140 with (fail)
                go_cut [11] from 131 to 169 (fun v wq => v = .int .i64 th0 ∧ ws = wq)
                case first =>
                  by_cases h0 : sm = 0
                  · have jz : (sm : Int) = 0 := by omega
                    have jzb : ((sm : Int) == 0) = true := by rw [beq_iff_eq]; exact jz
                    have ht0 : Hid (th0 = 0) := Lib.hid (by rw [← hth0e.out, if_pos h0])
                    replace h0 := Lib.hid h0
                    go_wp2_with fail
                    all_goals first
                      | (go_meet; exact ⟨by rw [ht0.out]; rfl, rfl⟩)
                      | (exfalso; omega)
                  · have jz : ¬ (sm : Int) = 0 := by omega
                    have jzb : ((sm : Int) == 0) = false := by rw [beq_eq_false_iff_ne]; exact jz
                    have ht0 : Hid (th0 = th) := Lib.hid (by rw [← hth0e.out, if_neg h0])
                    replace h0 := Lib.hid h0
                    go_wp2_with fail
                    all_goals first
                      | (go_meet; exact ⟨by rw [ht0.out], rfl⟩)
                      | (exfalso; omega)
                case rest =>
                  obtain ⟨rfl, rfl⟩ := hcut
                  clear e4
                  have e0 := blk_cell (j := 0) hE5.out rfl
                  have e1 := blk_cell (j := 1) hE5.out rfl
                  have e2 := blk_cell (j := 2) hE5.out rfl
                  have e3 := blk_cell (j := 3) hE5.out rfl
                  have e4 := blk_cell (j := 4) hE5.out rfl
                  have hhc2 := Lib.hid (hhc.out ws (hg2k.out.trans hgs.out))
                  go_upto_if 144 with (go_at_call 15; go_must (refine hhc2.out.mono ?_); clear hhc2; rintro e wh ⟨rfl, hgh0⟩; have hgh : Hid (Gr wk wh) := Lib.hid (hgs.out.trans hgh0); replace hgh0 := Lib.hid hgh0)
                  clear e0 e1 e2 e3 e4
                  have hE6 := Lib.hid (blk_below hEBk.out hgh.out)
                  have e4 := blk_cell (j := 4) hE6.out rfl
                  by_cases hpn : p ≠ nowP
                  · have hpd : bpN = true := by rw [← hbpN.out]; exact decide_eq_true hpn
                    subst hpd
                    by_cases h9 : s % 10 = 9
                    · have hc1 : Hid ((th0 + 1) = cntT pl s + (if p ≠ nowP then 1 else 0)) := Lib.hid (by rw [if_pos hpn, ← hth0.out])
                      have h8 : 8 ≤ (th0 + 1) := by
                        have h1 := cntT_full hs9.out h9
                        rw [← hc1.out] at h1
                        have h2 := hGp.out (s / 10) (by have := hGl'.out; omega)
                        omega
                      have hsm9 : sm = 9 := by rw [← hsm.out]; exact h9
                      have j1 : ((sm : Int) == 9) = true := by rw [beq_iff_eq]; omega
                      have j1p : (sm : Int) = 9 := by omega
                      have j1d : decide ((sm : Int) = 9) = true := decide_eq_true j1p
                      have j3 : ¬ (th0 : Int) + 1 < 8 := by omega
                      have j3d : decide ((th0 : Int) + 1 < 8) = false := decide_eq_false j3
                      replace hsm9 := Lib.hid hsm9
                      have h9' := Lib.hid h9
                      clear h9
                      replace hpn := Lib.hid hpn
                      go_wp2_with fail
                      go_roundw
                      case rel => exact ⟨s + 1, (th0 + 1), by omega, by omega, by go_num, by first | rfl | go_num, Lib.hid (.inl (by have := h9'.out; omega)), hgh⟩
                      case measure => simp [intOf]; omega
                    · have hc1 : Hid ((th0 + 1) = cntT pl s + (if p ≠ nowP then 1 else 0)) := Lib.hid (by rw [if_pos hpn, ← hth0.out])
                      have hsm9 : sm ≠ 9 := by rw [← hsm.out]; exact h9
                      have j1 : ((sm : Int) == 9) = false := by rw [beq_eq_false_iff_ne]; omega
                      have j1p : ¬ (sm : Int) = 9 := by omega
                      have hnx := cntT_step hs9.out h9
                      rw [← hc1.out] at hnx
                      replace hnx := Lib.hid hnx
                      replace hsm9 := Lib.hid hsm9
                      have h9' := Lib.hid h9
                      clear h9
                      replace hpn := Lib.hid hpn
                      go_wp2_with fail
                      go_roundw
                      case rel => exact ⟨s + 1, (th0 + 1), by omega, by omega, by go_num, by first | rfl | go_num, Lib.hid (.inr hnx.out.symm), hgh⟩
                      case measure => simp [intOf]; omega
                  · have hpd : bpN = false := by rw [← hbpN.out]; exact decide_eq_false hpn
                    subst hpd
                    have hpn : p = nowP := Classical.byContradiction hpn
                    obtain ⟨pb, po, rfl, hpb, hpcell⟩ := hp3.out (by rw [hzn.out]; omega)
                    obtain ⟨c0, c1'⟩ := hpcell s p hs9.out
                    rw [hpn] at c0 c1'
                    unfold nowP at c0 c1'
                    simp only at c0 c1'
                    have c0 := (cellGr (hg2k.out.trans hgh.out) (a := ⟨pb, po + s * 2, none⟩) hpb).trans c0
                    have c1' := (cellGr (hg2k.out.trans hgh.out) (a := ⟨pb, po + s * 2 + 1, none⟩) hpb).trans c1'
                    clear hpcell
                    by_cases h9 : s % 10 = 9
                    · have hc1 : Hid (th0 = cntT pl s + (if p ≠ nowP then 1 else 0)) := Lib.hid (by rw [if_neg (fun h => h hpn), ← hth0.out]; rfl)
                      have h8 : 8 ≤ th0 := by
                        have h1 := cntT_full hs9.out h9
                        rw [← hc1.out] at h1
                        have h2 := hGp.out (s / 10) (by have := hGl'.out; omega)
                        omega
                      have hsm9 : sm = 9 := by rw [← hsm.out]; exact h9
                      have j1 : ((sm : Int) == 9) = true := by rw [beq_iff_eq]; omega
                      have j1p : (sm : Int) = 9 := by omega
                      have j1d : decide ((sm : Int) = 9) = true := decide_eq_true j1p
                      have j3 : ¬ (th0 : Int) < 8 := by omega
                      have j3d : decide ((th0 : Int) < 8) = false := decide_eq_false j3
                      replace hsm9 := Lib.hid hsm9
                      have h9' := Lib.hid h9
                      clear h9
                      replace hpn := Lib.hid hpn
                      go_wp2_with fail
                      go_roundw
                      case rel => exact ⟨s + 1, th0, by omega, by omega, by go_num, by first | rfl | go_num, Lib.hid (.inl (by have := h9'.out; omega)), hgh⟩
                      case measure => simp [intOf]; omega
                    · have hc1 : Hid (th0 = cntT pl s + (if p ≠ nowP then 1 else 0)) := Lib.hid (by rw [if_neg (fun h => h hpn), ← hth0.out]; rfl)
                      have hsm9 : sm ≠ 9 := by rw [← hsm.out]; exact h9
                      have j1 : ((sm : Int) == 9) = false := by rw [beq_eq_false_iff_ne]; omega
                      have j1p : ¬ (sm : Int) = 9 := by omega
                      have hnx := cntT_step hs9.out h9
                      rw [← hc1.out] at hnx
                      replace hnx := Lib.hid hnx
                      replace hsm9 := Lib.hid hsm9
                      have h9' := Lib.hid h9
                      clear h9
                      replace hpn := Lib.hid hpn
                      go_wp2_with fail
                      go_roundw
                      case rel => exact ⟨s + 1, th0, by omega, by omega, by go_num, by first | rfl | go_num, Lib.hid (.inr hnx.out.symm), hgh⟩
                      case measure => simp [intOf]; omega
              · obtain rfl : s = zn := by omega
                go_wp2_with fail
                go_roundw
                case rel => exact ⟨i + 1, by omega, by go_num, Lib.hid (hg2k.out.trans hgs.out)⟩
                case measure => simp [intOf]; omega
    · obtain rfl : i = n2 := by omega
      go_wp2_with (go_at_call 12; go_must (refine (hawk.out _).mono ?_); rintro e w8 ⟨rfl, hg8⟩; replace hg8 := Lib.hid hg8)
      go_ret
      exact ⟨rfl, hg2.out.trans (hgi.out.trans hg8.out)⟩
end Go.Proofs.Ytiliggleplpjbaa
