/- The laws of lift: LiftAll. -/
import Derived.Test.YtppclmidnomkjabLiftAll
import Derived.Deep.CutBlock
import Derived.Deep.DeepCutAuto
import Derived.IntWalk
namespace Go.Proofs.Ytppclmidnomkjab
set_option linter.unusedVariables false
set_option linter.unusedSimpArgs false
open Go Go.RowKit
theorem eraseIdx_parts (l : List AskR) (f : Nat) : l.take f ++ l.drop (f + 1) = l.eraseIdx f := (List.eraseIdx_eq_take_drop_succ l f).symm
set_option maxHeartbeats 8000000 in
set_option maxRecDepth 10000 in
theorem liftAll_any (A : Option Addr) (n c : Nat) (ps : List UInt8) (hn : ps.length = n) (hnc : n ≤ c) (hcm : c ≤ maxLen) (x : UInt8) (w : World) (hr : Rd w w.heap.size A ps) :
    Calls Try.prog 11 #[.slice A n c, .int .u8 (U x)] w fun e w' => e = .returned (.bool true) ∧ Below w.heap.size w w' := by
  replace hr := Lib.hid hr
  unfold maxLen at hcm
  obtain ⟨lo, hlo⟩ : ∃ lo, lo = w.heap.size := ⟨_, rfl⟩
  have hb0 := Lib.hid ((Below.refl w.heap.size w).alloc (Nat.le_refl _) (.cells #[] 28))
  have hr0 : Hid (ARow (w.alloc (.cells #[] 28)) lo (.slice (some ⟨w.heap.size, 0, none⟩) 0 0) []) := Lib.hid (by rw [hlo]; exact World.ownsRow_made w #[] 0 (Nat.le_refl _) (by simp [maxLen]) rfl)
  have hlw : lo ≤ w.heap.size := by omega
  replace hlo := Lib.hid hlo
  replace hn := Lib.hid hn
  have hx0 := U_lo x
  have hx1 := U_hi x
  go_enter Try.func11, Try.ntmps11
  go_upto_block 0 with (fail)
  go_cut [5] (fun u wx => ∃ (l : List AskR) (A5 : Option Addr) (c5 : Nat), u = .slice A5 l.length c5 ∧ l.length ≤ 40 ∧ Hid (Row3 l) ∧ Hid (ARow wx lo (.slice A5 l.length c5) l) ∧ Hid (Below w.heap.size w wx))
  case first =>
    go_wp2_with fail
    go_loopw [5, 6] (fun u i wr => ∃ (k m : Nat) (l : List AskR) (A5 : Option Addr) (c5 : Nat), i = .int .i64 k ∧ u = .slice A5 m c5 ∧ k ≤ n ∧ k ≤ 40 ∧ m ≤ k ∧ Hid (l.length = m) ∧ Hid (Row3 l) ∧ Hid (ARow wr lo (.slice A5 m c5) l) ∧ Hid (Below w.heap.size w wr)) (fun _ i _ => n - (intOf i).toNat)
    case atStart => exact ⟨0, 0, [], _, _, rfl, rfl, Nat.zero_le _, by decide, Nat.le_refl _, Lib.hid rfl, Lib.hid Row3.nil, hr0, hb0⟩
    case round =>
      obtain ⟨k, m, l, A5, c5, rfl, rfl, hk, hk40, hmk, hlm, h3, hrow, hb⟩ := hrel
      clear hr0 hb0
      have hwl := hb.out.size
      by_cases hlt : k < n
      · by_cases h40 : k < 40
        · obtain ⟨y, hy⟩ : ∃ y, ps[k]? = some y := ⟨_, List.getElem?_eq_getElem (by rw [hn.out]; exact hlt)⟩
          have hy0 := U_lo y
          have hy1 := U_hi y
          have hpl : Hid (∀ W : World, Below w.heap.size w W → ∃ ad, A = some ad ∧ W.cell? (ad.add k) = some (.int .u8 (U y))) := Lib.hid (fun W hW => by
            obtain ⟨ad, e, -, hc⟩ := (hr.out.below hW).get hy
            exact ⟨ad, e, hc⟩)
          replace hy := Lib.hid hy
          go_wp2_with fail
          go_loopw [7, 8] (fun t j ws => ∃ q : Nat, j = .int .i64 q ∧ q ≤ m ∧ t = .bool (twB l (U y) q) ∧ Hid (ARow ws lo (.slice A5 m c5) l) ∧ Hid (Below w.heap.size w ws)) (fun _ j _ => m - (intOf j).toNat)
          case atStart => exact ⟨0, rfl, Nat.zero_le _, rfl, hrow, hb⟩
          case round =>
            obtain ⟨q, rfl, hq, rfl, hrow2, hb2⟩ := hrel
            clear hrow hb
            by_cases hql : q < m
            · obtain ⟨p, hp⟩ : ∃ p, l[q]? = some p := ⟨_, List.getElem?_eq_getElem (by rw [hlm.out]; exact hql)⟩
              have hts := twB_succ hp (U y)
              obtain ⟨b, o, rfl, hbb, hcc⟩ := hrow2.out.aat (by rw [hlm.out]; omega)
              obtain ⟨-, -, -, c3, -, -⟩ := hcc q p hp
              obtain ⟨ad, rfl, hpc⟩ := hpl.out _ hb2.out
              replace hp := Lib.hid hp
              clear hcc
              cases ht : twB l (U y) q with
              | true =>
                rw [ht, Bool.true_or] at hts
                replace hts := Lib.hid hts
                replace ht := Lib.hid ht
                go_wp2_with fail
                go_quiet (fail)
                go_wp2
                go_roundw
                case rel => exact ⟨q + 1, by go_num, by omega, by rw [hts.out], Lib.hid hrow2.out, Lib.hid (below_drewN hb2.out _)⟩
                case measure => simp [intOf]; omega
              | false =>
                rw [ht, Bool.false_or] at hts
                replace hts := Lib.hid hts
                replace ht := Lib.hid ht
                go_wp2_with fail
                go_quiet (fail)
                go_wp2
                go_roundw
                case rel => exact ⟨q + 1, by go_num, by omega, by rw [hts.out], Lib.hid hrow2.out, Lib.hid (below_drewN hb2.out _)⟩
                case measure => simp [intOf]; omega
            · obtain rfl : q = m := by omega
              cases ht : twB l (U y) q with
              | true =>
                replace ht := Lib.hid ht
                go_wp2_with fail
                go_roundw
                case rel => exact ⟨k + 1, q, l, A5, c5, by go_num, rfl, by omega, by omega, by omega, hlm, h3, hrow2, hb2⟩
                case measure => simp [intOf]; omega
              | false =>
                have hno := twB_no (l := l) (x := U y) (by rw [hlm.out]; exact ht)
                replace ht := Lib.hid ht
                obtain ⟨ad, rfl, hpc⟩ := hpl.out _ hb2.out
                have hnew : Hid (Row3 (l ++ [⟨k, 0, 3, U y, 0, 5⟩])) := Lib.hid (h3.out.snoc ⟨rfl, rfl, hy0, hy1, by unfold AskR.Ok I64; simp only; omega⟩ hno)
                replace hno := Lib.hid hno
                have hsrc : Hid (Reads (wr.alloc (.cells #[.int .i64 k, .int .i64 0, .int .i64 3, .int .i64 (U y), .int .i64 0, .int .i64 5] 28)) (wr.heap.size + 1) 6 (some ⟨wr.heap.size, 0, none⟩) 1 (flatA [⟨k, 0, 3, U y, 0, 5⟩])) := Lib.hid (by rw [flatA_one]; exact Reads.lit6 wr ⟨k, 0, 3, U y, 0, 5⟩ 28 _ (Nat.lt_succ_self _))
                have hll : Hid ((l ++ [(⟨k, 0, 3, U y, 0, 5⟩ : AskR)]).length = q + 1) := Lib.hid (by rw [List.length_append, hlm.out]; rfl)
                have hwl2 := hb2.out.size
                go_wp2_with (at_builtin; refine wpl_append_asks rfl (.tmp 49) (.tmp 57) rfl lo (.slice A5 q c5) l rfl (hrow2.out.alloc (.cells #[.int .i64 k, .int .i64 0, .int .i64 3, .int .i64 (U y), .int .i64 0, .int .i64 5] 28)) (wr.heap.size + 1) (some ⟨wr.heap.size, 0, none⟩) 1 1 [⟨k, 0, 3, U y, 0, 5⟩] rfl rfl hsrc.out (by rw [hlm.out]; omega) (by simp; omega) ?_; intro v6 w6 hr6 hg6 hv6; obtain ⟨A6, c6, rfl, -, -⟩ := row_form hr6; rw [hll.out] at hr6 ⊢; have hb6 := Lib.hid ((hb2.out.alloc hb2.out.size (.cells #[.int .i64 k, .int .i64 0, .int .i64 3, .int .i64 (U y), .int .i64 0, .int .i64 5] 28)).grown hg6 (by simp; omega) (fun z hz => by have := (hrow2.out.lt z hz).1; have := hlo.out; omega)); replace hr6 := Lib.hid hr6; clear hg6 hv6)
                go_roundw
                case rel => exact ⟨k + 1, q + 1, _, A6, c6, by go_num, rfl, by omega, by omega, by omega, hll, hnew, hr6, hb6⟩
                case measure => simp [intOf]; omega
        · go_wp2_with fail
          go_meet
          exact ⟨l, A5, c5, by rw [hlm.out], by rw [hlm.out]; omega, h3, by rw [hlm.out]; exact hrow, hb⟩
      · go_wp2_with fail
        go_meet
        exact ⟨l, A5, c5, by rw [hlm.out], by rw [hlm.out]; omega, h3, by rw [hlm.out]; exact hrow, hb⟩
  case rest =>
    obtain ⟨l, A5, c5, rfl, hl40, h3, hrow, hb⟩ := hcut
    clear hr0 hb0 hr
    obtain ⟨g, hg⟩ : ∃ g, g = wc.heap.size := ⟨_, rfl⟩
    have hbx0 : Hid ((wc.alloc (.cells #[.int .i64 3, .int .i64 (U x)] 56)).heap[g]? = some (.cells #[.int .i64 3, .int .i64 (U x)] 56 (0, 0))) := Lib.hid (by rw [hg]; exact heap_alloc_new wc _)
    have hrow0 := Lib.hid (hrow.out.alloc (.cells #[.int .i64 3, .int .i64 (U x)] 56))
    have hb0 := Lib.hid (hb.out.alloc hb.out.size (.cells #[.int .i64 3, .int .i64 (U x)] 56))
    have hlg : lo ≤ g := by have := hb.out.size; omega
    have hi0 := Lib.hid (Inv3.start h3.out (U x) hx0 hx1)
    replace hg := Lib.hid hg
    clear hrow hb h3
    go_wp2_with fail
    rw [← hg.out]
    go_loopw [5, 10, 11] (fun u la lw wr => ∃ (l : List AskR) (m : Nat) (A5 : Option Addr) (c5 : Nat) (last hp : Int) (low : Bool), u = .slice A5 m c5 ∧ la = .int .i64 last ∧ lw = .bool low ∧ m ≤ 40 ∧ Hid (l.length = m) ∧ Hid (Inv3 l (U x) hp last low) ∧ Hid (ARow wr lo (.slice A5 m c5) l) ∧ Hid (wr.heap[g]? = some (.cells #[.int .i64 3, .int .i64 hp] 56 (0, 0))) ∧ Hid (Below w.heap.size w wr)) (fun u _ _ _ => match u with | .slice _ m _ => m | _ => 0)
    case atStart => exact ⟨l, l.length, A5, c5, -1, U x, false, rfl, rfl, rfl, hl40, Lib.hid rfl, hi0, hrow0, hbx0, hb0⟩
    case round =>
      obtain ⟨l, m, A5, c5, last, hp, low, rfl, rfl, rfl, hm40, hlm, hinv, hrow, hbx, hb⟩ := hrel
      clear hbx0 hrow0 hb0 hi0 hl40
      by_cases hm : 0 < m
      · obtain ⟨f, q, hnx, hq, hs⟩ := lift_next hinv.out.row (by rw [hlm.out]; exact hm) hp
        rw [hlm.out] at hnx
        have hf : f < m := by rw [← hlm.out]; exact (List.getElem?_eq_some_iff.1 hq).1
        have hq0 : 0 ≤ q.d ∧ q.d ≤ 255 := by have := hinv.out.row.all q (List.mem_of_getElem? hq); omega
        obtain ⟨hq0, hq1⟩ := hq0
        have hi1 := hinv.out.lo
        have hi2 := hinv.out.lt
        have hi3 := hinv.out.h0
        have hi4 := hinv.out.h1
        have hok : Hid (∀ q ∈ l, q.Ok) := Lib.hid (fun q hq => (hinv.out.row.all q hq).2.2.2.2)
        replace hnx := Lib.hid hnx
        obtain ⟨b, c6, e5, hmc, hcx, hlb, -, -, -, -, -⟩ := row_at hrow.out (by rw [hlm.out]; exact hm)
        have e5' : A5 = some ⟨b, 0, none⟩ := by injection e5
        have e6 : c6 = c5 := by injection e5 with _ _ e; exact e.symm
        subst e5'
        subst e6
        clear e5
        rw [hlm.out] at hmc
        unfold maxLen at hcx
        have c0 := blk_cell (j := 0) (v := .int .i64 3) hbx.out rfl
        have c1 := blk_cell (j := 1) (v := .int .i64 hp) hbx.out rfl
        have htab := Lib.hid ((ARow.tab hrow.out hlm.out hok.out).up ((Below.refl wr.heap.size wr).alloc (Nat.le_refl _) (.cells #[.int .i64 3, .int .i64 hp] 56)))
        have hhead := Lib.hid (Tab.sz (Tab.lit wr [3, hp] 2 1 rfl (fun z hz => by
          rcases List.mem_cons.mp hz with rfl | hz
          · unfold I64; decide
          · rcases List.mem_singleton.mp hz with rfl
            unfold I64; omega) #[.int .i64 3, .int .i64 hp] rfl 56 (wr.heap.size + 1) (Nat.lt_succ_self _)) (w := wr.alloc (.cells #[.int .i64 3, .int .i64 hp] 56)) (by simp))
        go_wp2_with fail
        refine (next_any _ m c6 (askF l) (by omega) _ 1 1 (litF [3, hp] 2) (by omega) 5 1 (by unfold I64; decide) (by unfold I64; decide) _ htab.out hhead.out).mono ?_
        rw [hnx.out]
        rintro e w3 ⟨rfl, hbb⟩
        have hbw := (Below.refl wr.heap.size wr).alloc (Nat.le_refl _) (.cells #[.int .i64 3, .int .i64 hp] 56)
        replace hbb := hbw.trans (hbb.mono hbw.size)
        replace hrow : Hid (ARow w3 lo (.slice (some ⟨b, 0, none⟩) m c6) l) := Lib.hid (row_upd hrow.out (S := fun _ => False) (Upd.of_below hbb) (fun _ _ h => h))
        replace hbx := Lib.hid (blk_below hbx.out hbb)
        replace hb := Lib.hid (hb.out.trans (hbb.mono hb.out.size))
        clear htab hhead hbw hbb c0 c1
        obtain ⟨b', o', he, -, hcc⟩ := hrow.out.aat (by rw [hlm.out]; exact hm)
        injection he with he
        injection he with e1 e2
        subst e1
        subst e2
        obtain ⟨-, -, -, c3, -, -⟩ := hcc f q hq
        rw [Nat.zero_add] at c3
        clear hcc
        have k1 := blk_free hbx.out 1
        have k2 := blk_cell (j := 1) (v := .int .i64 hp) hbx.out rfl
        have hset := blk_set hbx.out 1 (.int .i64 (q.d + 1))
        have hrow2 := Lib.hid (row_set_other hrow.out g 1 (.int .i64 (q.d + 1)) (row_ne hrow.out hbx.out (by decide)))
        have hb2 : Hid (Below w.heap.size w (w3.setCell ⟨g, 1, none⟩ (.int .i64 (q.d + 1)))) := Lib.hid (hb.out.setCell (p := ⟨g, 1, none⟩) (by have := hlo.out; simp; omega) _)
        have hgB := blk_lt hset
        obtain ⟨w4, hw4⟩ : ∃ w4, w3.setCell ⟨g, 1, none⟩ (.int .i64 (q.d + 1)) = w4 := ⟨_, rfl⟩
        rw [hw4] at hset hrow2 hb2 hgB
        replace hset := Lib.hid hset
        obtain ⟨B, hB⟩ : ∃ B, w4.heap.size = B := ⟨_, rfl⟩
        rw [hB] at hgB
        have hw4l : w.heap.size ≤ B := by rw [← hB]; exact hb2.out.size
        have hnS : Hid (∀ k, (Value.slice (some ⟨b, 0, none⟩) m c6).ownBlock = some k → ¬ B ≤ k) := Lib.hid (fun k hk => by have := (hrow2.out.lt k hk).2; omega)
        have hE0 : ARow (w4.alloc (.cells #[] 28)) B (.slice (some ⟨w4.heap.size, 0, none⟩) 0 0) [] := World.ownsRow_made w4 #[] 0 (by omega) (by simp [maxLen]) rfl
        have hua := Upd.of_below (S := (B ≤ ·)) ((Below.refl w4.heap.size w4).alloc (Nat.le_refl _) (.cells #[] 28))
        have hE := Lib.hid hE0
        have hup := Lib.hid hua
        clear hE0 hua
        obtain ⟨r, rfl⟩ : ∃ r, m = r + (f + 1) := ⟨m - (f + 1), by omega⟩
        have hti : Hid ((l.take f).length = f) := Lib.hid (by rw [List.length_take, hlm.out]; omega)
        have hdi : Hid ((l.drop (f + 1)).length = r) := Lib.hid (by rw [List.length_drop, hlm.out]; omega)
        have hel : Hid ((l.eraseIdx f).length = r + f) := Lib.hid (by rw [List.length_eraseIdx, if_pos (by rw [hlm.out]; exact hf), hlm.out]; omega)
        have hrd1 := Lib.hid (Reads.take6 (ARow.reads (row_upd hrow2.out hup.out hnS.out)).1 (Nat.le_of_lt hf))
        have hbp : B ≤ (w4.alloc (.cells #[] 28)).heap.size := by rw [← hB]; exact hup.out.size
        replace hB := Lib.hid hB
        cases low with
        | false =>
          by_cases hlt : q.d < U x
          · obtain ⟨hx2, hnew⟩ := hinv.out.turn hq hs hlt
            have hd1 : decide (q.d ≤ -1) = false := decide_eq_false (by omega)
            have hd2 : decide (U x ≤ q.d) = false := decide_eq_false (by omega)
            replace hnew := Lib.hid hnew
            replace hq := Lib.hid hq
            replace hs := Lib.hid hs
            go_wp2_with (first | (at_builtin; refine wpl_append_asks rfl (.tmp 113) (.tmp 116) rfl B (.slice (some ⟨w4.heap.size, 0, none⟩) 0 0) [] rfl hE.out (w4.alloc (.cells #[] 28)).heap.size _ _ f (l.take f) hti.out rfl hrd1.out (by simp; omega) hbp ?_; intro v6 w6 hr6 hg6 hv6; have hu6 : Upd (B ≤ ·) _ w6 := (Upd.of_own hg6).mono (fun k hk => (hE.out.lt k hk).1); rw [List.nil_append] at hr6; obtain ⟨A6, c7, rfl, -, -⟩ := row_form hr6; rw [hti.out] at hr6 ⊢; replace hr6 := Lib.hid hr6; have hup6 := Lib.hid (hup.out.trans hu6); have hbp6 : B ≤ w6.heap.size := Nat.le_trans hbp hu6.size; have hrd6 := Lib.hid (ARow.reads (row_upd hrow2.out hup6.out hnS.out)).1; clear hg6 hu6 hv6) | (at_builtin; refine wpl_append_asks rfl (.tmp 118) (.tmp 122) rfl B (.slice A6 f c7) (l.take f) rfl hr6.out w6.heap.size _ _ r (l.drop (f + 1)) hdi.out rfl (Reads.drop6 hrd6.out rfl (fun h0 => by first | rfl | (rw [if_neg (by omega)]))) (by rw [hti.out]; omega) hbp6 ?_; intro v9 w9 hr9 hg9 hv9; have hu9 : Upd (B ≤ ·) w6 w9 := (Upd.of_own hg9).mono (fun k hk => (hr6.out.lt k hk).1); rw [eraseIdx_parts] at hr9; obtain ⟨A9, c9, rfl, -, -⟩ := row_form hr9; rw [hel.out] at hr9 ⊢; have hut := hup6.out.trans hu9; have hbx9 := Lib.hid ((hut.2.2.2.2 g (by rw [hB.out]; exact hgB) (by omega)).trans hset.out); have hb9 := Lib.hid (Upd.to_below hb2.out hut (by rw [hB.out]; exact hw4l) (fun k hk => Nat.le_trans hw4l hk)); replace hr9 : Hid (ARow w9 lo (.slice A9 (r + f) c9) (l.eraseIdx f)) := Lib.hid (ARow.mono hr9 (Nat.le_trans hlw hw4l)); clear hg9 hu9 hut hv9))
            go_roundw
            case rel => exact ⟨l.eraseIdx f, r + f, A9, c9, q.d, q.d + 1, true, rfl, rfl, rfl, by omega, hel, hnew, hr9, hbx9, hb9⟩
            case measure => simp
          · have hup2 : U x ≤ q.d := by omega
            obtain ⟨hx2, hnew⟩ := hinv.out.stepUp hq hs hup2
            have hd1 : decide (q.d ≤ last) = false := decide_eq_false (by omega)
            replace hnew := Lib.hid hnew
            replace hq := Lib.hid hq
            replace hs := Lib.hid hs
            go_wp2_with (first | (at_builtin; refine wpl_append_asks rfl (.tmp 113) (.tmp 116) rfl B (.slice (some ⟨w4.heap.size, 0, none⟩) 0 0) [] rfl hE.out (w4.alloc (.cells #[] 28)).heap.size _ _ f (l.take f) hti.out rfl hrd1.out (by simp; omega) hbp ?_; intro v6 w6 hr6 hg6 hv6; have hu6 : Upd (B ≤ ·) _ w6 := (Upd.of_own hg6).mono (fun k hk => (hE.out.lt k hk).1); rw [List.nil_append] at hr6; obtain ⟨A6, c7, rfl, -, -⟩ := row_form hr6; rw [hti.out] at hr6 ⊢; replace hr6 := Lib.hid hr6; have hup6 := Lib.hid (hup.out.trans hu6); have hbp6 : B ≤ w6.heap.size := Nat.le_trans hbp hu6.size; have hrd6 := Lib.hid (ARow.reads (row_upd hrow2.out hup6.out hnS.out)).1; clear hg6 hu6 hv6) | (at_builtin; refine wpl_append_asks rfl (.tmp 118) (.tmp 122) rfl B (.slice A6 f c7) (l.take f) rfl hr6.out w6.heap.size _ _ r (l.drop (f + 1)) hdi.out rfl (Reads.drop6 hrd6.out rfl (fun h0 => by first | rfl | (rw [if_neg (by omega)]))) (by rw [hti.out]; omega) hbp6 ?_; intro v9 w9 hr9 hg9 hv9; have hu9 : Upd (B ≤ ·) w6 w9 := (Upd.of_own hg9).mono (fun k hk => (hr6.out.lt k hk).1); rw [eraseIdx_parts] at hr9; obtain ⟨A9, c9, rfl, -, -⟩ := row_form hr9; rw [hel.out] at hr9 ⊢; have hut := hup6.out.trans hu9; have hbx9 := Lib.hid ((hut.2.2.2.2 g (by rw [hB.out]; exact hgB) (by omega)).trans hset.out); have hb9 := Lib.hid (Upd.to_below hb2.out hut (by rw [hB.out]; exact hw4l) (fun k hk => Nat.le_trans hw4l hk)); replace hr9 : Hid (ARow w9 lo (.slice A9 (r + f) c9) (l.eraseIdx f)) := Lib.hid (ARow.mono hr9 (Nat.le_trans hlw hw4l)); clear hg9 hu9 hut hv9))
            go_roundw
            case rel => exact ⟨l.eraseIdx f, r + f, A9, c9, q.d, q.d + 1, false, rfl, rfl, rfl, by omega, hel, hnew, hr9, hbx9, hb9⟩
            case measure => simp
        | true =>
          obtain ⟨hx2, hlt, hnew⟩ := hinv.out.stepDown hq hs
          have hd1 : decide (q.d ≤ last) = false := decide_eq_false (by omega)
          have hd2 : decide (U x ≤ q.d) = false := decide_eq_false (by omega)
          replace hnew := Lib.hid hnew
          replace hq := Lib.hid hq
          replace hs := Lib.hid hs
          go_wp2_with (first | (at_builtin; refine wpl_append_asks rfl (.tmp 113) (.tmp 116) rfl B (.slice (some ⟨w4.heap.size, 0, none⟩) 0 0) [] rfl hE.out (w4.alloc (.cells #[] 28)).heap.size _ _ f (l.take f) hti.out rfl hrd1.out (by simp; omega) hbp ?_; intro v6 w6 hr6 hg6 hv6; have hu6 : Upd (B ≤ ·) _ w6 := (Upd.of_own hg6).mono (fun k hk => (hE.out.lt k hk).1); rw [List.nil_append] at hr6; obtain ⟨A6, c7, rfl, -, -⟩ := row_form hr6; rw [hti.out] at hr6 ⊢; replace hr6 := Lib.hid hr6; have hup6 := Lib.hid (hup.out.trans hu6); have hbp6 : B ≤ w6.heap.size := Nat.le_trans hbp hu6.size; have hrd6 := Lib.hid (ARow.reads (row_upd hrow2.out hup6.out hnS.out)).1; clear hg6 hu6 hv6) | (at_builtin; refine wpl_append_asks rfl (.tmp 118) (.tmp 122) rfl B (.slice A6 f c7) (l.take f) rfl hr6.out w6.heap.size _ _ r (l.drop (f + 1)) hdi.out rfl (Reads.drop6 hrd6.out rfl (fun h0 => by first | rfl | (rw [if_neg (by omega)]))) (by rw [hti.out]; omega) hbp6 ?_; intro v9 w9 hr9 hg9 hv9; have hu9 : Upd (B ≤ ·) w6 w9 := (Upd.of_own hg9).mono (fun k hk => (hr6.out.lt k hk).1); rw [eraseIdx_parts] at hr9; obtain ⟨A9, c9, rfl, -, -⟩ := row_form hr9; rw [hel.out] at hr9 ⊢; have hut := hup6.out.trans hu9; have hbx9 := Lib.hid ((hut.2.2.2.2 g (by rw [hB.out]; exact hgB) (by omega)).trans hset.out); have hb9 := Lib.hid (Upd.to_below hb2.out hut (by rw [hB.out]; exact hw4l) (fun k hk => Nat.le_trans hw4l hk)); replace hr9 : Hid (ARow w9 lo (.slice A9 (r + f) c9) (l.eraseIdx f)) := Lib.hid (ARow.mono hr9 (Nat.le_trans hlw hw4l)); clear hg9 hu9 hut hv9))
          go_roundw
          case rel => exact ⟨l.eraseIdx f, r + f, A9, c9, q.d, q.d + 1, true, rfl, rfl, rfl, by omega, hel, hnew, hr9, hbx9, hb9⟩
          case measure => simp
      · obtain rfl : m = 0 := by omega
        go_wp2_with fail
        refine (awake16_any _).mono ?_
        rintro e w9 ⟨rfl, hb9⟩
        replace hb9 := Lib.hid hb9
        go_wp2_with fail
        go_ret
        exact ⟨rfl, hb.out.trans (hb9.out.mono hb.out.size)⟩
end Go.Proofs.Ytppclmidnomkjab
