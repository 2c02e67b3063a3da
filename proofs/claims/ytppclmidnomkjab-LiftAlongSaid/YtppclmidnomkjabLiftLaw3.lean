/- The laws of lift: LiftAlong. -/
import Derived.Test.YtppclmidnomkjabLiftLaw
import Derived.Test.YtppclmidnomkjabRegRd
import Derived.Test.YtppclmidnomkjabTabs
namespace Go.Proofs.Ytppclmidnomkjab
set_option linter.unusedVariables false
set_option linter.unusedSimpArgs false
open Go Go.RowKit

def mineB (F : Nat → Nat → Int) (c : Int) : Nat → Bool
  | 0 => false
  | k + 1 => mineB F c k || F k 2 == c
theorem mineB_true (F : Nat → Nat → Int) (c : Int) : ∀ k, mineB F c k = true → ∃ i, i < k ∧ F i 2 = c
  | 0, h => by cases h
  | k + 1, h => by
    unfold mineB at h
    rw [Bool.or_eq_true] at h
    rcases h with h | h
    · obtain ⟨i, hi, e⟩ := mineB_true F c k h
      exact ⟨i, by omega, e⟩
    · exact ⟨k, by omega, by simpa using h⟩
theorem overD_young (x : Int) (h : 0 ≤ x) : overD x 0 1 = false := by unfold overD; simp; omega
theorem info_head : (Try.prog.info? 56).map (fun i => (i.zero, i.size, i.bytes)) = some (some (.agg #[.int .i64 0, .int .i64 0]), 2, 16) := by kernel_rfl
theorem own_slice {w wr w' : World} {base s n : Nat} {e : TypeId} {v : Value} {xs : List Value} {o : Obj} (hown : w'.ownsRow base e s v n xs) (hb : Below w.heap.size w wr) (hz : w.heap.size < wr.heap.size) (hg : (wr.drew.alloc o).grownBy w' (some wr.drew.heap.size)) :
    ∃ A c, v = .slice A n c ∧ Below w.heap.size w w' ∧ w.heap.size < w'.heap.size := by
  have h4 : (wr.drew.alloc o).heap.size ≤ w'.heap.size := by obtain ⟨-, -, -, h4, -⟩ := hg; exact h4
  have h5 : wr.heap.size + 1 ≤ w'.heap.size := by have := h4; simp at this; omega
  have hbb : Below w.heap.size w w' := (hb.drew.alloc hb.size o).grown hg (by simp; omega) (fun k hk => by injection hk with hk; subst hk; exact hb.size)
  rcases hown.2 with ⟨rfl, rfl⟩ | ⟨g, cap, cur, rfl, -⟩
  · exact ⟨_, _, rfl, hbb, by omega⟩
  · exact ⟨_, _, rfl, hbb, by omega⟩
theorem app_below {wr w' : World} {o : Obj} (hg : (wr.drew.alloc o).grownBy w' (some wr.drew.heap.size)) : Below wr.heap.size wr w' :=
  ((Below.refl wr.heap.size wr).drew.alloc (Nat.le_refl _) o).grown hg (by simp) (fun k hk => by injection hk with hk; subst hk; exact Nat.le_refl _)
theorem app_tab {wr w' : World} {s n : Nat} {A : Option Addr} {F : Nat → Nat → Int} {o : Obj} (h : Tab wr.drew wr.drew.heap.size s A n F) (hg : (wr.drew.alloc o).grownBy w' (some wr.drew.heap.size)) : Tab w' w'.heap.size s A n F := by
  obtain ⟨-, -, -, h4, hk⟩ := hg
  have h5 : wr.heap.size + 1 ≤ w'.heap.size := by have := h4; simp at this; omega
  refine (h.keep (w' := w') fun p hp => World.cell?_of_block ?_).more (show wr.heap.size ≤ _ by omega)
  rw [hk p.block (by simp; exact Nat.lt_succ_of_lt hp) (fun e => by injection e with e; omega)]
  exact heap_alloc_old wr.drew o hp
set_option maxHeartbeats 4000000 in
set_option maxRecDepth 10000 in
theorem liftAlong_any (A : Option Addr) (n c : Nat) (hc : n ≤ c) (hm : c ≤ maxLen) (F : Nat → Nat → Int) (x y : Int) (hx : I64 x) (hy : I64 y) (A2 : Option Addr) (m c2 : Nat) (hc2 : m ≤ c2) (hm2 : c2 ≤ maxLen) (G : Nat → Nat → Int) (w : World) (hr : Tab w w.heap.size 6 A n F) (hg : Tab w w.heap.size 2 A2 m G) :
    Calls Try.prog 10 #[.slice A n c, .agg #[.int .i64 x, .int .i64 y], .slice A2 m c2] w fun e w' => e = .returned (.bool true) ∧ Below w.heap.size w w' := by
  replace hr := Lib.hid (hr.take (m := min n 60) (Nat.min_le_left _ _))
  replace hg := Lib.hid (hg.take (m := min m 20) (Nat.min_le_left _ _))
  have hn6 : min n 60 ≤ 60 := Nat.min_le_right _ _
  have hm6 : min m 20 ≤ 20 := Nat.min_le_right _ _
  have hf := Lib.hid (fun W => few_any A n c hc hm W)
  have hs := Lib.hid (fun W => some_any A2 m c2 hc2 hm2 W)
  clear hc hm hc2 hm2
  generalize min n 60 = N at *
  generalize min m 20 = M at *
  go_enter Try.func10, Try.ntmps10
  go_wp2_with fail
  refine (hf.out _).mono ?_
  rintro e w1 ⟨rfl, rfl⟩
  go_wp2_with fail
  go_loopw [8, 9] (fun mine i wr => ∃ k : Nat, k ≤ N ∧ i = .int .i64 k ∧ mine = .bool (mineB F x k) ∧ Hid (∀ j, j < k → 0 ≤ F j 5) ∧ Hid (wr.cell? ⟨w.heap.size, 0, none⟩ = some (.int .i64 x) ∧ wr.cell? ⟨w.heap.size, 1, none⟩ = some (.int .i64 y)) ∧ Hid (Below w.heap.size w wr) ∧ w.heap.size < wr.heap.size) (fun _ i _ => N - (intOf i).toNat)
  case atStart => exact ⟨0, Nat.zero_le _, rfl, rfl, Lib.hid (fun j h => absurd h (by omega)), Lib.hid ⟨cell_new w #[.int .i64 x, .int .i64 y] _ rfl, cell_new w #[.int .i64 x, .int .i64 y] _ rfl⟩, Lib.hid ((Below.refl _ _).alloc (Nat.le_refl _) _), by simp⟩
  case round =>
    obtain ⟨k, hk, rfl, rfl, hall, hhd, hbw, hsz⟩ := hrel
    obtain ⟨q0, q1⟩ := hhd.out
    by_cases hlt : k < N
    · obtain ⟨b, o, rfl, hb, hc⟩ := hr.out.1 (by omega)
      have hcw := Lib.hid (hc.below hb hbw.out)
      have h5 := hcw.out.one (i := k) (j := 5) hlt (by omega)
      have h2 := hcw.out.one (i := k) (j := 2) hlt (by omega)
      replace hc := Lib.hid hc
      have HM : Hid (mineB F x (k + 1) = (mineB F x k || F k 2 == x)) := Lib.hid rfl
      obtain ⟨mb, hmb⟩ : ∃ mb, Hid (mineB F x (k + 1) = mb) := ⟨_, Lib.hid rfl⟩
      rw [hmb.out] at HM
      go_wp2_with fail
      go_upto_region 6 with (fail)
      go_cut [8] (fun v wx => v = .bool mb ∧ Hid (∃ nq, wx = wr.drewN nq))
      case first =>
        cases hb : mineB F x k
        all_goals
          rw [hb] at HM
          go_quiet (fail)
          go_wp2
          go_meet
          exact ⟨by rw [HM.out]; rfl, Lib.hid ⟨_, rfl⟩⟩
      case rest =>
        obtain ⟨rfl, hnq⟩ := hcut
        obtain ⟨nq, rfl⟩ := hnq.out
        by_cases hneg : F k 5 < 0
        · go_wp2_with fail
          refine (awake16_any _).mono ?_
          rintro e w3 ⟨rfl, hb2⟩
          go_wp2
          go_ret
          exact ⟨rfl, (below_drewN hbw.out nq).trans (hb2.mono hbw.out.size)⟩
        · have hnn : 0 ≤ F k 5 := by omega
          go_wp2_with fail
          go_roundw
          case rel => exact ⟨k + 1, by omega, by go_num, by rw [hmb.out], Lib.hid (fun j hj => by
            by_cases e : j = k
            · subst e; exact hnn
            · exact hall.out j (by omega)), hhd, Lib.hid (below_drewN hbw.out _), hsz⟩
          case measure => simp [intOf]; omega
    · obtain rfl : k = N := by omega
      cases hmine : mineB F x k with
      | false =>
        go_wp2_with fail
        refine (awake16_any _).mono ?_
        rintro e w3 ⟨rfl, hb2⟩
        go_wp2
        go_ret
        exact ⟨rfl, hbw.out.trans (hb2.mono hbw.out.size)⟩
      | true =>
        obtain ⟨i0, hi0, hi1⟩ := mineB_true F x k hmine
        cases hmt : metTo F x y k with
        | none => exact absurd hi1 (metTo_none F x y k hmt i0 hi0)
        | some f =>
          obtain ⟨hfk, hfc⟩ := metTo_lt F x y k f hmt
          have hbest := Lib.hid (metTo_best F x y k f hmt)
          have hall' := hall.out (oldTo F k) (oldTo_lt F (by omega))
          have hnx : ∀ (zs : List Int) (mm : Nat), Hid (nextOf F k (litF ([x, y] ++ zs) 2) (1 + mm) 0 1 = (f, true)) := fun zs mm => Lib.hid (by
            have h1 : pickTo F k (litF ([x, y] ++ zs) 2) 1 = some f := by
              show metTo F (litF ([x, y] ++ zs) 2 0 0) (litF ([x, y] ++ zs) 2 0 1) k = some f
              exact hmt
            have h2 := pickTo_stay F k (litF ([x, y] ++ zs) 2) h1 mm
            unfold nextOf
            rw [if_neg (by omega), overD_young _ hall', h2]
            rfl)
          replace hnx := Lib.hid hnx
          clear hi1 hmt hall'
          replace hfc := Lib.hid hfc
          have hrw := hr
          replace hg : Hid (Tab wr.drew wr.drew.heap.size 2 A2 M G) := Lib.hid ((hg.out.below hbw.out).more hbw.out.size)
          replace hr : Hid (Tab wr.drew wr.drew.heap.size 6 A k F) := Lib.hid ((hr.out.below hbw.out).more hbw.out.size)
          have hszd : w.heap.size < wr.drew.heap.size := hsz
          have hr0 := hrw
          obtain ⟨i0, hi, hz0, hz1, hz2⟩ := info_parts info_head
          replace hi := Lib.hid hi
          go_upto_region 11 with (fail)
          refine wpR_region (Upd (wr.heap.size ≤ ·)) (by kernel_rfl) ?_
          refine wpR_take (i := 0) (v := ?_) (Upd.road _) (some 45) rfl (by kernel_rfl) (by kernel_rfl) (by kernel_rfl) (by kernel_rfl) (fun _ _ _ h => h) (by kernel_rfl) (fun w' hw' => ?_) ?_
          rotate_left
          · go_simp; with_reducible rfl
          simp only [Act.put, List.setIfInBounds_toArray, List.set_cons_zero, List.set_cons_succ]
          refine wpR_take (i := 1) (v := ?_) (Upd.road _) (some 46) rfl (by kernel_rfl) (by kernel_rfl) (by kernel_rfl) (by kernel_rfl) (fun _ _ _ h => h) (by kernel_rfl) (fun w' hw' => ?_) ?_
          rotate_left
          · have q0' := (hw'.cell (p := ⟨w.heap.size, 0, none⟩) hszd (Nat.not_le_of_lt hsz)).trans q0; have q1' := (hw'.cell (p := ⟨w.heap.size, 1, none⟩) hszd (Nat.not_le_of_lt hsz)).trans q1; go_simp; with_reducible rfl
          simp only [Act.put, List.setIfInBounds_toArray, List.set_cons_zero, List.set_cons_succ]
          refine wpR_take (i := 3) (v := ?_) (Upd.road _) (some 48) rfl (by kernel_rfl) (by kernel_rfl) (by kernel_rfl) (by kernel_rfl) (fun _ _ _ h => h) (by kernel_rfl) (fun w' hw' => ?_) ?_
          rotate_left
          · go_simp; with_reducible rfl
          simp only [Act.put, List.setIfInBounds_toArray, List.set_cons_zero, List.set_cons_succ]
          refine wpR_call (i := 4) (v := .slice A2 M c2) (Upd.road _) (some 49) rfl (by kernel_rfl) (by kernel_rfl) (by kernel_rfl) (by kernel_rfl) (fun _ _ _ h => h) (by kernel_rfl) (fun w' hw' => ?_) ?_
          · refine ⟨26, #[.slice A2 m c2], ?_, ?_⟩
            · go_simp
            · exact (hs.out _).mono fun _ _ ⟨h1, h2⟩ => ⟨h1, h2.symm⟩
          simp only [Act.put, List.setIfInBounds_toArray, List.set_cons_zero, List.set_cons_succ]
          refine wpR_one 2 rfl (by kernel_rfl) (by kernel_rfl) (fun K hK => ?_)
          go_simp
          refine hK _ _ (Upd.of_below ((Below.refl _ _).alloc (Nat.le_refl _) _)) ?_
          clear hK K
          have ho := Lib.hid (own_lit wr.drew wr.drew.heap.size (Nat.le_refl _) 56 #[.int .i64 x, .int .i64 y] 1 2 rfl (by decide))
          try simp only [Act.put, List.setIfInBounds_toArray, List.set_cons_zero, List.set_cons_succ]
          refine wpR_one 5 rfl (by kernel_rfl) (by kernel_rfl) (fun K hK => ?_)
          refine wp_append_any _ (.tmp 47) (.tmp 49) 47 rfl wr.drew.heap.size 56 i0 _ 2 16 Try.underlying47 hi hz0 hz1 hz2 rfl (by omega) (.slice (some ⟨wr.drew.heap.size, 0, none⟩) 1 1) 1 ([x, y].map vi) rfl ho.out wr.drew.heap.size A2 M c2 ((flat M 2 G).map vi) rfl ((hg.out.alloc (Nat.le_refl _) _).reads (by omega)) (vi_one _) (by unfold maxLen; omega) (by omega) (by simp) (fun v' w' hown hgr _ => ?_)
          refine hK _ _ (Upd.of_grown (S := (wr.heap.size ≤ ·)) (g := wr.drew.heap.size) hgr (Nat.le_refl _)) ?_
          clear hK K
          rw [← List.map_append] at hown
          obtain ⟨A3, c3, hv', hb3, hsz3⟩ : ∃ A3 c3, v' = .slice A3 (1 + M) c3 ∧ Below w.heap.size w w' ∧ w.heap.size < w'.heap.size := own_slice hown hbw.out hsz hgr
          subst hv'
          have hzs : ∀ z ∈ [x, y] ++ flat M 2 G, I64 z := fun z hz => by
            rcases List.mem_append.mp hz with hz | hz
            · rcases List.mem_cons.mp hz with rfl | hz
              · exact hx
              · rw [List.mem_singleton.mp hz]; exact hy
            · exact hg.out.range (by omega) z hz
          have ht3 := Lib.hid (Tab.of_own hzs hown)
          replace hr := Lib.hid (app_tab hr.out hgr)
          have hb4 := Lib.hid (app_below hgr)
          clear hown hgr ho
          try simp only [Act.put, List.setIfInBounds_toArray, List.set_cons_zero, List.set_cons_succ]
          refine wpR_one 6 rfl (by kernel_rfl) (by kernel_rfl) (fun K hK => ?_)
          go_simp
          refine (next_any _ k c F (by omega) A3 (1 + M) c3 (litF ([x, y] ++ flat M 2 G) 2) (by omega) 0 1 (by unfold I64; omega) (by unfold I64; omega) _ hr.out ht3.out).mono ?_
          rw [(hnx.out _ _).out]
          rintro e wb ⟨rfl, hbb⟩
          refine hK _ _ (Upd.of_below hbb) ?_
          clear hK K
          replace hb3 := Lib.hid (hb3.trans (hbb.mono hb3.size))
          replace hb4 := Lib.hid (hb4.out.trans (hbb.mono hb4.out.size))
          clear ht3
          try simp only [Act.put, List.setIfInBounds_toArray, List.set_cons_zero, List.set_cons_succ]
          refine wpR_take (i := 7) (v := ?_) (Upd.road _) (some 44) rfl (by kernel_rfl) (by kernel_rfl) (by kernel_rfl) (by kernel_rfl) (fun _ _ _ h => h) (by kernel_rfl) (fun w' hw' => ?_) ?_
          rotate_left
          · go_simp; with_reducible rfl
          simp only [Act.put, List.setIfInBounds_toArray, List.set_cons_zero, List.set_cons_succ]
          refine wpR_take (i := 8) (v := ?_) (Upd.road _) (some 52) rfl (by kernel_rfl) (by kernel_rfl) (by kernel_rfl) (by kernel_rfl) (fun _ _ _ h => h) (by kernel_rfl) (fun w' hw' => ?_) ?_
          rotate_left
          · go_simp; with_reducible rfl
          simp only [Act.put, List.setIfInBounds_toArray, List.set_cons_zero, List.set_cons_succ]
          refine wpR_take (i := 9) (v := ?_) (Upd.road _) (some 53) rfl (by kernel_rfl) (by kernel_rfl) (by kernel_rfl) (by kernel_rfl) (fun _ _ _ h => h) (by kernel_rfl) (fun w' hw' => ?_) ?_
          rotate_left
          · go_simp; with_reducible rfl
          simp only [Act.put, List.setIfInBounds_toArray, List.set_cons_zero, List.set_cons_succ]
          refine wpR_take (i := 10) (v := ?_) (Upd.road _) (some 10) rfl (by kernel_rfl) (by kernel_rfl) (by kernel_rfl) (by kernel_rfl) (fun _ _ _ h => h) (by kernel_rfl) (fun w' hw' => ?_) ?_
          rotate_left
          · go_simp; with_reducible rfl
          simp only [Act.put, List.setIfInBounds_toArray, List.set_cons_zero, List.set_cons_succ]
          refine wpR_take (i := 11) (v := ?_) (Upd.road _) (some 11) rfl (by kernel_rfl) (by kernel_rfl) (by kernel_rfl) (by kernel_rfl) (fun _ _ _ h => h) (by kernel_rfl) (fun w' hw' => ?_) ?_
          rotate_left
          · go_simp; with_reducible rfl
          simp only [Act.put, List.setIfInBounds_toArray, List.set_cons_zero, List.set_cons_succ]
          refine wpR_done (by kernel_rfl) ?_ _
          have hfk0 : decide ((f : Int) < 0) = false := decide_eq_false (by omega)
          have hfk1 : decide ((k : Int) ≤ (f : Int)) = false := decide_eq_false (by omega)
          have hfc2 : (F f 2 != x) = false := by rw [hfc.out]; simp
          obtain ⟨b, o, rfl, hb, hc⟩ := hr0.out.1 (by omega)
          have hcw := hc.below hb hb3.out
          have g2 := hcw.one (i := f) (j := 2) hfk (by omega)
          have g3 := hcw.one (i := f) (j := 3) hfk (by omega)
          have hhd2 := Lib.hid (show wb.cell? ⟨w.heap.size, 0, none⟩ = some (.int .i64 x) ∧ wb.cell? ⟨w.heap.size, 1, none⟩ = some (.int .i64 y) from ⟨(hb4.out.cell (p := ⟨w.heap.size, 0, none⟩) hsz).trans q0, (hb4.out.cell (p := ⟨w.heap.size, 1, none⟩) hsz).trans q1⟩)
          clear q0 q1 hhd hall hnx hf hs hbw hr
          obtain ⟨q0, q1⟩ := hhd2.out
          replace hc := Lib.hid hc
          replace hcw := Lib.hid hcw
          go_wp2_with fail
          go_quiet (fail)
          go_wp2
          clear g2 g3 q0 q1
          go_loopw [13] (fun i wx => ∃ j : Nat, j ≤ k ∧ i = .int .i64 j ∧ Hid (wx.cell? ⟨w.heap.size, 0, none⟩ = some (.int .i64 x) ∧ wx.cell? ⟨w.heap.size, 1, none⟩ = some (.int .i64 y)) ∧ Hid (Below w.heap.size w wx)) (fun i _ => k - (intOf i).toNat)
          case atStart => exact ⟨0, Nat.zero_le _, rfl, hhd2, Lib.hid (below_drewN hb3.out _)⟩
          case round =>
            obtain ⟨j, hj, rfl, hhd3, hbx⟩ := hrel
            obtain ⟨q0, q1⟩ := hhd3.out
            by_cases hjk : j < k
            · have hcx := hc.out.below hb hbx.out
              have h2 := hcx.one (i := j) (j := 2) hjk (by omega)
              have h3 := hcx.one (i := j) (j := 3) hjk (by omega)
              have hB : Hid (F j 2 = x → soon (F j 3) (F f 3) y = false) := Lib.hid (fun h => hbest.out j hjk h)
              replace hcx := Lib.hid hcx
              by_cases hjx : F j 2 = x
              · have hd : (F j 2 == x) = true := beq_iff_eq.mpr hjx
                have hs := hB.out hjx
                rw [Bool.eq_false_iff] at hs
                replace hs := fun h => hs ((soon_iff _ _ _).mpr h)
                have hjx' := Lib.hid hjx
                clear hjx
                by_cases h1 : y ≤ F f 3
                · have d1 : decide (y ≤ F f 3) = true := decide_eq_true h1
                  have d2 : decide (F f 3 < y) = false := decide_eq_false (by omega)
                  by_cases h4 : y ≤ F j 3
                  · have d3 : decide (y ≤ F j 3) = true := decide_eq_true h4
                    have d4 : decide (F j 3 < F f 3) = false := decide_eq_false (fun h => hs (by omega))
                    clear hs h1 h4
                    go_wp2_with fail
                    go_quiet (fail)
                    go_wp2
                    go_roundw
                    case rel => exact ⟨j + 1, by omega, by go_num, hhd3, Lib.hid (below_drewN hbx.out _)⟩
                    case measure => simp [intOf]; omega
                  · have d3 : decide (y ≤ F j 3) = false := decide_eq_false h4
                    clear hs h1 h4
                    go_wp2_with fail
                    go_quiet (fail)
                    go_wp2
                    go_roundw
                    case rel => exact ⟨j + 1, by omega, by go_num, hhd3, Lib.hid (below_drewN hbx.out _)⟩
                    case measure => simp [intOf]; omega
                · have d1 : decide (y ≤ F f 3) = false := decide_eq_false h1
                  have d2 : decide (F f 3 < y) = true := decide_eq_true (by omega)
                  have d3 : decide (y ≤ F j 3) = false := decide_eq_false (fun h => hs (by omega))
                  have d4 : decide (F j 3 < F f 3) = false := decide_eq_false (fun h => hs (by omega))
                  clear hs h1
                  go_wp2_with fail
                  go_quiet (fail)
                  go_wp2
                  go_roundw
                  case rel => exact ⟨j + 1, by omega, by go_num, hhd3, Lib.hid (below_drewN hbx.out _)⟩
                  case measure => simp [intOf]; omega
              · have hd : (F j 2 == x) = false := beq_eq_false_iff_ne.mpr hjx
                have hjx' := Lib.hid hjx
                clear hjx
                go_wp2_with fail
                go_quiet (fail)
                go_wp2
                go_roundw
                case rel => exact ⟨j + 1, by omega, by go_num, hhd3, Lib.hid (below_drewN hbx.out _)⟩
                case measure => simp [intOf]; omega
            · obtain rfl : j = k := by omega
              go_wp2_with fail
              refine (awake16_any _).mono ?_
              rintro e w3 ⟨rfl, hb2⟩
              go_wp2
              go_ret
              exact ⟨rfl, hbx.out.trans (hb2.mono hbx.out.size)⟩
end Go.Proofs.Ytppclmidnomkjab
