/- The laws of queue: QueueOwn. -/
import Derived.Test.YtppclmidnomkjabQueueLaw4
import Derived.Deep.MidRow
namespace Go.Proofs.Ytppclmidnomkjab
set_option linter.unusedVariables false
set_option linter.unusedSimpArgs false
open Go Go.RowKit
theorem Qu.setAt {w : World} {lo g most b o : Nat} {v : Value} {l : List AskR} (h : Qu w lo g v l most) (vs : List Value) {w' : World} (hu : Upd (· = b) w w') (hn : ¬ QS g v b) : Qu w' lo g v l most :=
  h.upd hu (fun k hk e => hn (e ▸ hk))
set_option maxHeartbeats 4000000 in
set_option maxRecDepth 10000 in
theorem queueOwn_any (A : Option Addr) (n c : Nat) (hnc : n ≤ c) (hcm : c ≤ maxLen) (F : Nat → Nat → Int) (z : Int) (hz : I64 z) (w : World) (ht : Tab w w.heap.size 6 A n F) :
    Calls Try.prog 6 #[.slice A n c, .int .i64 z] w fun e w' => e = .returned (.bool true) ∧ Below w.heap.size w w' := by
  replace ht := Lib.hid ht
  unfold maxLen at hcm
  go_enter Try.func6, Try.ntmps6
  go_upto_block 0 with (refine (qnew_any 60 (by unfold I64; decide) w).mono ?_; rw [qw60]; rintro e w1 ⟨rfl, h1, hb1⟩; replace h1 := Lib.hid h1; replace hb1 := Lib.hid hb1)
  obtain ⟨lo, hlo⟩ : ∃ lo, lo = w.heap.size := ⟨_, rfl⟩
  rw [← hlo] at h1 ⊢
  have hl : w.heap.size ≤ lo := by omega
  replace hlo := Lib.hid hlo
  obtain ⟨K, hK⟩ : ∃ K, K = min n 60 := ⟨_, rfl⟩
  have hKn : K ≤ n := by omega
  have hK60 : K ≤ 60 := by omega
  replace hK := Lib.hid hK
  go_cut [6] (fun u wx => ∃ v, Hid (Qu wx lo lo v ((asksOf F n).take K) 60) ∧ Hid (Below w.heap.size w wx))
  case first =>
    go_wp2_with fail
    go_loopw [6] (fun i wr => ∃ (k : Nat) (v : Value), i = .int .i64 k ∧ k ≤ K ∧ Hid (Qu wr lo lo v ((asksOf F n).take k) 60) ∧ Hid (Below w.heap.size w wr)) (fun i _ => K - (intOf i).toNat)
    case atStart => exact ⟨0, _, rfl, Nat.zero_le _, h1, hb1⟩
    case round =>
      obtain ⟨k, v, rfl, hk, h2, hb2⟩ := hrel
      clear h1 hb1
      by_cases hlt : k < K
      · have hkn : k < n := by omega
        have hk60 : k < 60 := by omega
        obtain ⟨b, o, rfl, -, c0, c1, c2, c3, c4, c5⟩ := ht.out.ask hb2.out hkn
        have hpu := qpush_ok lo lo v _ 60 (askOf F k) (ht.out.ok hkn) (by rw [take_len F n (by omega)]; exact hk60) wr h2.out
        rw [take_push F n hkn] at hpu
        unfold AskR.agg askOf at hpu
        replace hpu := Lib.hid hpu
        go_wp2_with fail
        refine hpu.out.mono ?_
        rintro e w3 ⟨rfl, v3, h3, -, hu⟩
        have hb3 := Lib.hid (h2.out.from_ hu hb2.out hl)
        replace h3 := Lib.hid h3
        clear hu h2 hb2 hpu c0 c1 c2 c3 c4 c5
        go_wp2_with fail
        go_roundw
        case rel => exact ⟨k + 1, v3, by go_num, by omega, h3, hb3⟩
        case measure => simp [intOf]; omega
      · obtain rfl : k = K := by omega
        by_cases h60 : n ≤ 60
        · have hkn : k = n := by have := hK.out; omega
          have hkn' : ¬ (k < n) := by omega
          replace hkn := Lib.hid hkn
          go_wp2_with fail
          go_meet
          exact ⟨v, h2, hb2⟩
        · have hkn : k = 60 := by have := hK.out; omega
          have hkn' : ¬ (k < 60) := by omega
          have hkn2 : k < n := by omega
          replace hkn := Lib.hid hkn
          go_wp2_with fail
          go_meet
          exact ⟨v, h2, hb2⟩
  case rest =>
    obtain ⟨v, h2, hb2⟩ := hcut
    clear h1 hb1 ht
    obtain ⟨L, hL⟩ : ∃ L, (asksOf F n).take K = L := ⟨_, rfl⟩
    have hLK : Hid (L.length = K) := Lib.hid (by rw [← hL]; exact take_len F n hKn)
    rw [hL] at h2
    replace hL := Lib.hid hL
    go_wp2_with fail
    refine (qall_any lo lo v L 60 wc h2.out).mono ?_
    rintro e w3 ⟨v3, rfl, hra, hbb⟩
    obtain ⟨Aa, ca, rfl, -, -⟩ := row_form hra
    have h3 := Lib.hid (h2.out.below hbb)
    have hb3 := Lib.hid (hb2.out.trans (hbb.mono hb2.out.size))
    obtain ⟨Ba, hBa⟩ : ∃ Ba, wc.heap.size = Ba := ⟨_, rfl⟩
    have hqs : Hid (∀ k, QS lo v k → k < Ba) := Lib.hid (fun k hk => by rw [← hBa]; exact (h2.out.qs k hk).2)
    have hBl : w.heap.size ≤ Ba := by rw [← hBa]; exact hb2.out.size
    have hlB : lo ≤ Ba := by rw [← hBa]; exact h2.out.lw
    have hs3 := hbb.size
    rw [hBa] at hra
    rw [hLK.out] at hra ⊢
    replace hra := Lib.hid hra
    replace hBa := Lib.hid hBa
    clear hbb h2 hb2
    go_wp2_with fail
    refine (qall_any lo lo v L 60 w3 h3.out).mono ?_
    rintro e w4 ⟨v4, rfl, hrb, hbb⟩
    obtain ⟨Ab, cb, rfl, -, -⟩ := row_form hrb
    have h4 := Lib.hid (h3.out.below hbb)
    have hb4 := Lib.hid (hb3.out.trans (hbb.mono hb3.out.size))
    have hra4 : Hid (ARow w4 Ba (.slice Aa K ca) L) := Lib.hid (row_below hra.out hbb)
    obtain ⟨Bb, hBb⟩ : ∃ Bb, w3.heap.size = Bb := ⟨_, rfl⟩
    have hab : Hid (∀ k, (Value.slice Aa K ca).ownBlock = some k → k < Bb) := Lib.hid (fun k hk => by rw [← hBb]; exact (hra.out.lt k hk).2)
    have hs4 := hbb.size
    rw [hBb] at hrb hs4
    rw [hLK.out] at hrb ⊢
    replace hrb := Lib.hid hrb
    have hBB : Ba ≤ Bb := by rw [← hBb]; have := hBa.out; omega
    replace hBb := Lib.hid hBb
    clear hbb h3 hb3 hra
    go_upto_block 2 with (fail)
    go_wp2_with fail
    go_loopw [9] (fun i wr => ∃ (k : Nat) (cur : List AskR), i = .int .i64 k ∧ k ≤ K ∧ Bb ≤ wr.heap.size ∧ Hid (cur.length = K) ∧ Hid (ARow wr Ba (.slice Aa K ca) cur) ∧ Hid (ARow wr Bb (.slice Ab K cb) L) ∧ Hid (Qu wr lo lo v L 60) ∧ Hid (Below w.heap.size w wr)) (fun i _ => K - (intOf i).toNat)
    case atStart => exact ⟨0, L, rfl, Nat.zero_le _, hs4, hLK, hra4, hrb, h4, hb4⟩
    case round =>
      obtain ⟨k, cur, rfl, hk, hBw, hcl, hra5, hrb5, h5, hb5⟩ := hrel
      clear hra4 hrb h4 hb4
      by_cases hlt : k < K
      · obtain ⟨ga, cx, he, -, -, hga, hgl, -, -, -, -⟩ := row_at hra5.out (by rw [hcl.out]; omega)
        have he' : Aa = some ⟨ga, 0, none⟩ := by injection he
        subst he'
        clear he
        obtain ⟨hput, hup, hth⟩ := ARow.putC hra5.out (m := k) (by rw [hcl.out]; exact hlt) ⟨z, 0, 0, 0, k, 0⟩
        have hnq : ¬ QS lo v ga := fun h => by have := hqs.out ga h; omega
        have hq6 := Lib.hid (h5.out.upd hup (fun x hx e => hnq (e ▸ hx)))
        have hrb6 : Hid (ARow (wr.setCells ga (k * 6) (AskR.cells ⟨z, 0, 0, 0, k, 0⟩)) Bb (.slice Ab K cb) L) := Lib.hid (row_upd hrb5.out hup (fun x hx e => by have := (hrb5.out.lt x hx).1; have := hab.out ga rfl; omega))
        have hb6 := Lib.hid (hb5.out.trans (Upd.to_below (Below.refl w.heap.size wr) hup hb5.out.size (fun x hx => by omega)))
        have hBw6 : Bb ≤ (wr.setCells ga (k * 6) (AskR.cells ⟨z, 0, 0, 0, k, 0⟩)).heap.size := Nat.le_trans hBw hup.size
        replace hput := Lib.hid hput
        replace hth := Lib.hid hth
        clear hup hnq hra5 hrb5 h5 hb5
        go_wp2_with (refine wpList_store_mid rfl 28 (.tmp 43) (.tmp 42) rfl ga (k * 6) #[.int .i64 z, .int .i64 0, .int .i64 0, .int .i64 0, .int .i64 k, .int .i64 0] rfl rfl hth.out ask_size (all_oneCell_toArray (AskR.one ⟨z, 0, 0, 0, k, 0⟩)) ?_; obtain ⟨w6, hw6⟩ : ∃ w6, wr.setCells ga (k * 6) (AskR.cells ⟨z, 0, 0, 0, k, 0⟩) = w6 := ⟨_, rfl⟩; rw [show (wr.setCells ga (k * 6) #[Value.int .i64 z, .int .i64 0, .int .i64 0, .int .i64 0, .int .i64 k, .int .i64 0].toList) = w6 from hw6]; rw [hw6] at hput hq6 hrb6 hb6 hBw6; replace hw6 := Lib.hid hw6)
        go_roundw
        case rel => exact ⟨k + 1, cur.set k ⟨z, 0, 0, 0, k, 0⟩, by go_num, by omega, hBw6, Lib.hid (by rw [List.length_set]; exact hcl.out), hput, hrb6, hq6, hb6⟩
        case measure => simp [intOf]; omega
      · obtain rfl : k = K := by omega
        rename World => wq
        have hsrc : Hid (Reads (wq.alloc (.cells #[.int .i64 z, .int .i64 0, .int .i64 0, .int .i64 0, .int .i64 0, .int .i64 0] 28)) (wq.heap.size + 1) 6 (some ⟨wq.heap.size, 0, none⟩) 1 (flatA [⟨z, 0, 0, 0, 0, 0⟩])) := Lib.hid (by rw [flatA_one]; exact Reads.lit6 wq ⟨z, 0, 0, 0, 0, 0⟩ 28 _ (Nat.lt_succ_self _))
        have hc1 : Hid ((cur ++ [(⟨z, 0, 0, 0, 0, 0⟩ : AskR)]).length = k + 1) := Lib.hid (by rw [List.length_append, hcl.out]; rfl)
        go_upto_region 12 with (at_builtin; refine wpl_append_asks rfl (.tmp 44) (.tmp 47) rfl Ba (.slice Aa k ca) cur rfl (hra5.out.alloc (.cells #[.int .i64 z, .int .i64 0, .int .i64 0, .int .i64 0, .int .i64 0, .int .i64 0] 28)) (wq.heap.size + 1) (some ⟨wq.heap.size, 0, none⟩) 1 1 [⟨z, 0, 0, 0, 0, 0⟩] rfl rfl hsrc.out (by rw [hcl.out]; omega) (by simp; omega) ?_; intro v6 w6 hr6 hg6 hv6; obtain ⟨A6, c6, rfl, -, -⟩ := row_form hr6; rw [hc1.out]; have hu6 := Upd.of_own hg6; have hal := (Below.refl wq.heap.size wq).alloc (Nat.le_refl _) (.cells #[.int .i64 z, .int .i64 0, .int .i64 0, .int .i64 0, .int .i64 0, .int .i64 0] 28); have hq6 := Lib.hid ((h5.out.below hal).upd hu6 (fun x hx e => by have h8 := hqs.out x hx; have h9 := (hra5.out.lt x e).1; omega)); have hrb6 : Hid (ARow w6 Bb (.slice Ab k cb) L) := Lib.hid (row_upd (row_below hrb5.out hal) hu6 (fun x hx e => by have h8 := hab.out x e; have h9 := (hrb5.out.lt x hx).1; omega)); have hb6 := Lib.hid ((hb5.out.trans (hal.mono hb5.out.size)).trans (Upd.to_below (Below.refl _ _) hu6 (by have := hb5.out.size; simp; omega) (fun x hx => Nat.le_trans hBl ((hra5.out.lt x hx).1)))); clear hr6 hg6 hv6 hu6 hal)
        clear hra5 hrb5 h5 hb5 hsrc
        go_wp2_with fail
        refine (qall_any lo lo v L 60 w6 hq6.out).mono ?_
        rintro e w7 ⟨v7, rfl, hrc, hbb⟩
        have hq7 := Lib.hid (hq6.out.below hbb)
        have hb7 := Lib.hid (hb6.out.trans (hbb.mono hb6.out.size))
        have hrb7 : Hid (ARow w7 Bb (.slice Ab k cb) L) := Lib.hid (row_below hrb6.out hbb)
        obtain ⟨Bc, hBc⟩ : ∃ Bc, w6.heap.size = Bc := ⟨_, rfl⟩
        have hqc : Hid (∀ x, QS lo v x → x < Bc) := Lib.hid (fun x hx => by rw [← hBc]; exact (hq6.out.qs x hx).2)
        rw [hBc] at hrc
        replace hBc := Lib.hid hBc
        clear hbb hq6 hb6 hrb6
        rcases Nat.eq_zero_or_pos k with h0 | h0
        · have hLn : L = [] := List.eq_nil_of_length_eq_zero (by rw [hLK.out]; exact h0)
          obtain ⟨CA0, cc, rfl, -, -⟩ := row_form hrc
          have hk0 : ((k : Int) == 0) = true := by rw [beq_iff_eq]; omega
          replace h0 := Lib.hid h0
          rw [hLK.out] at hrc ⊢
          replace hrc : Hid (ARow w7 Bc (.slice CA0 k cc) L) := Lib.hid hrc
          go_wp2_with fail
          refine (qtake_none lo lo v L 60 0 (.inr (by rw [hLn]; decide)) w7 hq7.out).mono ?_
          unfold AskR.agg ask0
          rintro e w9 ⟨rfl, hbb⟩
          have hb9 := Lib.hid (hb7.out.trans (hbb.mono hb7.out.size))
          have hq9 := Lib.hid (hq7.out.below hbb)
          have hrb9 : Hid (ARow w9 Bb (.slice Ab k cb) L) := Lib.hid (row_below hrb7.out hbb)
          have hrc9 : Hid (ARow w9 Bc (.slice CA0 k cc) L) := Lib.hid (row_below hrc.out hbb)
          have hwr : IntKind.i64.wrap ((k : Int) + 1) = (k : Int) + 1 := IntWalk.i64_in _ (by omega)
          replace hLn := Lib.hid hLn
          clear hbb hb7 hq7 hrb7 hrc
          go_wp2_with fail
          refine wpR_region (Upd (fun _ => False)) 9999 (by kernel_rfl) ?_
          refine wpR_one 0 rfl (by kernel_rfl) (by kernel_rfl) (fun K hK => ?_)
          go_simp
          refine (awake15_any _).mono ?_
          rintro e w10 ⟨rfl, hbb⟩
          refine hK _ _ (fun _ => Upd.of_below hbb) ?_
          clear hK K
          have hb10 := Lib.hid (hb9.out.drew.trans (hbb.mono hb9.out.size))
          have hq10 := Lib.hid ((hq9.out.drewN 1).below hbb)
          have hrb10 : Hid (ARow w10 Bb (.slice Ab k cb) L) := Lib.hid (row_below (w := w9.drew) hrb9.out hbb)
          have hrc10 : Hid (ARow w10 Bc (.slice CA0 k cc) L) := Lib.hid (row_below (w := w9.drew) hrc9.out hbb)
          clear hbb
          try simp only [Act.put, List.setIfInBounds_toArray, List.set_cons_zero, List.set_cons_succ]
          refine wpR_take (i := 1) (v := ?_) (Upd.road _) (some 54) rfl (by kernel_rfl) (by kernel_rfl) (by kernel_rfl) (by kernel_rfl) (by kernel_rfl) (fun _ _ _ h => h) (by kernel_rfl) (fun w' hw' => ?_) ?_
          rotate_left
          · go_simp; with_reducible rfl
          simp only [Act.put, List.setIfInBounds_toArray, List.set_cons_zero, List.set_cons_succ]
          refine wpR_take (i := 2) (v := ?_) (Upd.road _) (some 55) rfl (by kernel_rfl) (by kernel_rfl) (by kernel_rfl) (by kernel_rfl) (by kernel_rfl) (fun _ _ _ h => h) (by kernel_rfl) (fun w' hw' => ?_) ?_
          rotate_left
          · go_simp; with_reducible rfl
          simp only [Act.put, List.setIfInBounds_toArray, List.set_cons_zero, List.set_cons_succ]
          refine wpR_take (i := 3) (v := ?_) (Upd.road _) (some 56) rfl (by kernel_rfl) (by kernel_rfl) (by kernel_rfl) (by kernel_rfl) (by kernel_rfl) (fun _ _ _ h => h) (by kernel_rfl) (fun w' hw' => ?_) ?_
          rotate_left
          · go_simp; with_reducible rfl
          simp only [Act.put, List.setIfInBounds_toArray, List.set_cons_zero, List.set_cons_succ]
          refine wpR_take (i := 4) (v := ?_) (Upd.road _) (some 57) rfl (by kernel_rfl) (by kernel_rfl) (by kernel_rfl) (by kernel_rfl) (by kernel_rfl) (fun _ _ _ h => h) (by kernel_rfl) (fun w' hw' => ?_) ?_
          rotate_left
          · go_simp; with_reducible rfl
          simp only [Act.put, List.setIfInBounds_toArray, List.set_cons_zero, List.set_cons_succ]
          refine wpR_take (i := 5) (v := ?_) (Upd.road _) (some 58) rfl (by kernel_rfl) (by kernel_rfl) (by kernel_rfl) (by kernel_rfl) (by kernel_rfl) (fun _ _ _ h => h) (by kernel_rfl) (fun w' hw' => ?_) ?_
          rotate_left
          · go_simp; with_reducible rfl
          simp only [Act.put, List.setIfInBounds_toArray, List.set_cons_zero, List.set_cons_succ]
          refine wpR_take (i := 6) (v := ?_) (Upd.road _) (some 59) rfl (by kernel_rfl) (by kernel_rfl) (by kernel_rfl) (by kernel_rfl) (by kernel_rfl) (fun _ _ _ h => h) (by kernel_rfl) (fun w' hw' => ?_) ?_
          rotate_left
          · go_simp; with_reducible rfl
          simp only [Act.put, List.setIfInBounds_toArray, List.set_cons_zero, List.set_cons_succ]
          refine wpR_take (i := 7) (v := ?_) (Upd.road _) (some 60) rfl (by kernel_rfl) (by kernel_rfl) (by kernel_rfl) (by kernel_rfl) (by kernel_rfl) (fun _ _ _ h => h) (by kernel_rfl) (fun w' hw' => ?_) ?_
          rotate_left
          · go_simp; with_reducible rfl
          simp only [Act.put, List.setIfInBounds_toArray, List.set_cons_zero, List.set_cons_succ]
          refine wpR_take (i := 8) (v := ?_) (Upd.road _) (some 61) rfl (by kernel_rfl) (by kernel_rfl) (by kernel_rfl) (by kernel_rfl) (by kernel_rfl) (fun _ _ _ h => h) (by kernel_rfl) (fun w' hw' => ?_) ?_
          rotate_left
          · go_simp; with_reducible rfl
          simp only [Act.put, List.setIfInBounds_toArray, List.set_cons_zero, List.set_cons_succ]
          refine wpR_take (i := 9) (v := ?_) (Upd.road _) (some 62) rfl (by kernel_rfl) (by kernel_rfl) (by kernel_rfl) (by kernel_rfl) (by kernel_rfl) (fun _ _ _ h => h) (by kernel_rfl) (fun w' hw' => ?_) ?_
          rotate_left
          · go_simp; with_reducible rfl
          simp only [Act.put, List.setIfInBounds_toArray, List.set_cons_zero, List.set_cons_succ]
          refine wpR_take (i := 10) (v := ?_) (Upd.road _) (some 63) rfl (by kernel_rfl) (by kernel_rfl) (by kernel_rfl) (by kernel_rfl) (by kernel_rfl) (fun _ _ _ h => h) (by kernel_rfl) (fun w' hw' => ?_) ?_
          rotate_left
          · go_simp; with_reducible rfl
          simp only [Act.put, List.setIfInBounds_toArray, List.set_cons_zero, List.set_cons_succ]
          refine wpR_take (i := 11) (v := ?_) (Upd.road _) (some 64) rfl (by kernel_rfl) (by kernel_rfl) (by kernel_rfl) (by kernel_rfl) (by kernel_rfl) (fun _ _ _ h => h) (by kernel_rfl) (fun w' hw' => ?_) ?_
          rotate_left
          · go_simp; with_reducible rfl
          simp only [Act.put, List.setIfInBounds_toArray, List.set_cons_zero, List.set_cons_succ]
          refine wpR_one 12 rfl (by kernel_rfl) (by kernel_rfl) (fun K hK => ?_)
          go_simp
          refine (alike_any Ab CA0 k cb cc L hLK.out (by omega) _ hrb10.out.aat hrc10.out.aat).mono ?_
          rintro e w11 ⟨rfl, hbb⟩
          refine hK _ _ (fun _ => Upd.of_below hbb) ?_
          clear hK K
          have hb11 := Lib.hid (hb10.out.trans (hbb.mono hb10.out.size))
          have hq11 := Lib.hid (hq10.out.below hbb)
          have hrc11 : Hid (ARow w11 Bc (.slice CA0 k cc) L) := Lib.hid (row_below hrc10.out hbb)
          clear hbb
          try simp only [Act.put, List.setIfInBounds_toArray, List.set_cons_zero, List.set_cons_succ]
          refine wpR_take (i := 13) (v := ?_) (Upd.road _) (some 66) rfl (by kernel_rfl) (by kernel_rfl) (by kernel_rfl) (by kernel_rfl) (by kernel_rfl) (fun _ _ _ h => h) (by kernel_rfl) (fun w' hw' => ?_) ?_
          rotate_left
          · go_simp; with_reducible rfl
          simp only [Act.put, List.setIfInBounds_toArray, List.set_cons_zero, List.set_cons_succ]
          refine wpR_take (i := 14) (v := ?_) (Upd.road _) (some 67) rfl (by kernel_rfl) (by kernel_rfl) (by kernel_rfl) (by kernel_rfl) (by kernel_rfl) (fun _ _ _ h => h) (by kernel_rfl) (fun w' hw' => ?_) ?_
          rotate_left
          · go_simp; with_reducible rfl
          simp only [Act.put, List.setIfInBounds_toArray, List.set_cons_zero, List.set_cons_succ]
          refine wpR_take (i := 15) (v := ?_) (Upd.road _) (some 68) rfl (by kernel_rfl) (by kernel_rfl) (by kernel_rfl) (by kernel_rfl) (by kernel_rfl) (fun _ _ _ h => h) (by kernel_rfl) (fun w' hw' => ?_) ?_
          rotate_left
          · go_simp; with_reducible rfl
          simp only [Act.put, List.setIfInBounds_toArray, List.set_cons_zero, List.set_cons_succ]
          refine wpR_take (i := 16) (v := ?_) (Upd.road _) (some 69) rfl (by kernel_rfl) (by kernel_rfl) (by kernel_rfl) (by kernel_rfl) (by kernel_rfl) (fun _ _ _ h => h) (by kernel_rfl) (fun w' hw' => ?_) ?_
          rotate_left
          · go_simp; with_reducible rfl
          simp only [Act.put, List.setIfInBounds_toArray, List.set_cons_zero, List.set_cons_succ]
          refine wpR_take (i := 17) (v := ?_) (Upd.road _) (some 70) rfl (by kernel_rfl) (by kernel_rfl) (by kernel_rfl) (by kernel_rfl) (by kernel_rfl) (fun _ _ _ h => h) (by kernel_rfl) (fun w' hw' => ?_) ?_
          rotate_left
          · go_simp; with_reducible rfl
          simp only [Act.put, List.setIfInBounds_toArray, List.set_cons_zero, List.set_cons_succ]
          refine wpR_take (i := 18) (v := ?_) (Upd.road _) (some 71) rfl (by kernel_rfl) (by kernel_rfl) (by kernel_rfl) (by kernel_rfl) (by kernel_rfl) (fun _ _ _ h => h) (by kernel_rfl) (fun w' hw' => ?_) ?_
          rotate_left
          · go_simp; with_reducible rfl
          simp only [Act.put, List.setIfInBounds_toArray, List.set_cons_zero, List.set_cons_succ]
          refine wpR_skip (i := 19) (Upd.road _) (some 72) rfl (by kernel_rfl) (by kernel_rfl) (by kernel_rfl) (by kernel_rfl) (by kernel_rfl) (fun _ _ _ h => h) (by kernel_rfl) ?_
          simp only [Act.put, List.setIfInBounds_toArray, List.set_cons_zero, List.set_cons_succ]
          refine wpR_skip (i := 20) (Upd.road _) (some 73) rfl (by kernel_rfl) (by kernel_rfl) (by kernel_rfl) (by kernel_rfl) (by kernel_rfl) (fun _ _ _ h => h) (by kernel_rfl) ?_
          simp only [Act.put, List.setIfInBounds_toArray, List.set_cons_zero, List.set_cons_succ]
          refine wpR_skip (i := 21) (Upd.road _) (some 74) rfl (by kernel_rfl) (by kernel_rfl) (by kernel_rfl) (by kernel_rfl) (by kernel_rfl) (fun _ _ _ h => h) (by kernel_rfl) ?_
          simp only [Act.put, List.setIfInBounds_toArray, List.set_cons_zero, List.set_cons_succ]
          refine wpR_skip (i := 22) (Upd.road _) (some 75) rfl (by kernel_rfl) (by kernel_rfl) (by kernel_rfl) (by kernel_rfl) (by kernel_rfl) (fun _ _ _ h => h) (by kernel_rfl) ?_
          simp only [Act.put, List.setIfInBounds_toArray, List.set_cons_zero, List.set_cons_succ]
          refine wpR_skip (i := 23) (Upd.road _) (some 76) rfl (by kernel_rfl) (by kernel_rfl) (by kernel_rfl) (by kernel_rfl) (by kernel_rfl) (fun _ _ _ h => h) (by kernel_rfl) ?_
          simp only [Act.put, List.setIfInBounds_toArray, List.set_cons_zero, List.set_cons_succ]
          refine wpR_take (i := 24) (v := ?_) (Upd.road _) (some 77) rfl (by kernel_rfl) (by kernel_rfl) (by kernel_rfl) (by kernel_rfl) (by kernel_rfl) (fun _ _ _ h => h) (by kernel_rfl) (fun w' hw' => ?_) ?_
          rotate_left
          · go_simp; with_reducible rfl
          simp only [Act.put, List.setIfInBounds_toArray, List.set_cons_zero, List.set_cons_succ]
          refine wpR_take (i := 25) (v := ?_) (Upd.road _) (some 78) rfl (by kernel_rfl) (by kernel_rfl) (by kernel_rfl) (by kernel_rfl) (by kernel_rfl) (fun _ _ _ h => h) (by kernel_rfl) (fun w' hw' => ?_) ?_
          rotate_left
          · go_simp; with_reducible rfl
          simp only [Act.put, List.setIfInBounds_toArray, List.set_cons_zero, List.set_cons_succ]
          refine wpR_take (i := 26) (v := ?_) (Upd.road _) (some 4) rfl (by kernel_rfl) (by kernel_rfl) (by kernel_rfl) (by kernel_rfl) (by kernel_rfl) (fun _ _ _ h => h) (by kernel_rfl) (fun w' hw' => ?_) ?_
          rotate_left
          · go_simp; with_reducible rfl
          simp only [Act.put, List.setIfInBounds_toArray, List.set_cons_zero, List.set_cons_succ]
          refine wpR_done (by kernel_rfl) ?_ _
          go_wp2
          go_ret
          exact ⟨rfl, hb11.out⟩
        · obtain ⟨q, hq⟩ : ∃ q, L[0]? = some q := ⟨_, List.getElem?_eq_getElem (by rw [hLK.out]; exact h0)⟩
          obtain ⟨gc, cc, rfl, hcc1, hcc2, -⟩ := row_at hrc (by rw [hLK.out]; exact h0)
          rw [hLK.out] at hrc hcc1 ⊢
          unfold maxLen at hcc2
          replace hrc : Hid (ARow w7 Bc (.slice (some ⟨gc, 0, none⟩) k cc) L) := Lib.hid hrc
          have htk := qtake_some lo lo v L 60 0 q hq w7 hq7.out
          rw [show L.eraseIdx 0 = L.drop 1 from by rw [List.eraseIdx_zero, List.drop_one]] at htk
          unfold AskR.agg at htk
          replace htk := Lib.hid htk
          replace hq := Lib.hid hq
          go_wp2_with fail
          refine htk.out.mono ?_
          rintro e w9 ⟨rfl, v9, hq9, -, hu⟩
          have hb9 := Lib.hid (hq7.out.from_ hu hb7.out hl)
          have hrb9 : Hid (ARow w9 Bb (.slice Ab k cb) L) := Lib.hid (row_upd hrb7.out hu (fun x hx hq => by have h8 := hqs.out x hq; have h9 := (hrb7.out.lt x hx).1; omega))
          have hrc9 : Hid (ARow w9 Bc (.slice (some ⟨gc, 0, none⟩) k cc) L) := Lib.hid (row_upd hrc.out hu (fun x hx hq => by have h8 := hqc.out x hq; have h9 := (hrc.out.lt x hx).1; omega))
          have hk0 : ((k : Int) == 0) = false := beq_eq_false_iff_ne.mpr (by omega)
          have hwr : IntKind.i64.wrap ((k : Int) + 1) = (k : Int) + 1 := IntWalk.i64_in _ (by omega)
          have hLd : Hid ((L.drop 1).length = k - 1) := Lib.hid (by rw [List.length_drop, hLK.out])
          have h1k : 1 ≤ k := h0
          have hik : (1 : Int) ≤ (k : Int) := by omega
          have hkc : k ≤ cc := hcc1
          have h1c : 1 ≤ cc := by omega
          have htl : Hid (∀ W, ARow W Bc (.slice (some ⟨gc, 0, none⟩) k cc) L → AAt W (if cc = 1 then some ⟨gc, 0, none⟩ else some ⟨gc, 6, none⟩) (L.drop 1)) := Lib.hid (fun W hW => by
            split
            · rename_i h; exact fun hp => by rw [List.length_drop, hLK.out] at hp; omega
            · exact hW.tail)
          replace hq9 := Lib.hid hq9
          clear hu hb7 hq7 hrb7 hrc htk h0
          go_wp2_with fail
          refine wpR_region (Upd (fun _ => False)) 9999 (by kernel_rfl) ?_
          refine wpR_one 0 rfl (by kernel_rfl) (by kernel_rfl) (fun K hK => ?_)
          go_simp
          refine (awake15_any _).mono ?_
          rintro e w10 ⟨rfl, hbb⟩
          refine hK _ _ (fun _ => Upd.of_below hbb) ?_
          clear hK K
          have hb10 := Lib.hid (hb9.out.drew.trans (hbb.mono hb9.out.size))
          have hq10 := Lib.hid ((hq9.out.drewN 1).below hbb)
          have hrb10 : Hid (ARow w10 Bb (.slice Ab k cb) L) := Lib.hid (row_below (w := w9.drew) hrb9.out hbb)
          have hrc10 : Hid (ARow w10 Bc (.slice (some ⟨gc, 0, none⟩) k cc) L) := Lib.hid (row_below (w := w9.drew) hrc9.out hbb)
          clear hbb
          try simp only [Act.put, List.setIfInBounds_toArray, List.set_cons_zero, List.set_cons_succ]
          refine wpR_take (i := 1) (v := ?_) (Upd.road _) (some 54) rfl (by kernel_rfl) (by kernel_rfl) (by kernel_rfl) (by kernel_rfl) (by kernel_rfl) (fun _ _ _ h => h) (by kernel_rfl) (fun w' hw' => ?_) ?_
          rotate_left
          · go_simp; with_reducible rfl
          simp only [Act.put, List.setIfInBounds_toArray, List.set_cons_zero, List.set_cons_succ]
          refine wpR_take (i := 2) (v := ?_) (Upd.road _) (some 55) rfl (by kernel_rfl) (by kernel_rfl) (by kernel_rfl) (by kernel_rfl) (by kernel_rfl) (fun _ _ _ h => h) (by kernel_rfl) (fun w' hw' => ?_) ?_
          rotate_left
          · go_simp; with_reducible rfl
          simp only [Act.put, List.setIfInBounds_toArray, List.set_cons_zero, List.set_cons_succ]
          refine wpR_take (i := 3) (v := ?_) (Upd.road _) (some 56) rfl (by kernel_rfl) (by kernel_rfl) (by kernel_rfl) (by kernel_rfl) (by kernel_rfl) (fun _ _ _ h => h) (by kernel_rfl) (fun w' hw' => ?_) ?_
          rotate_left
          · go_simp; with_reducible rfl
          simp only [Act.put, List.setIfInBounds_toArray, List.set_cons_zero, List.set_cons_succ]
          refine wpR_take (i := 4) (v := ?_) (Upd.road _) (some 57) rfl (by kernel_rfl) (by kernel_rfl) (by kernel_rfl) (by kernel_rfl) (by kernel_rfl) (fun _ _ _ h => h) (by kernel_rfl) (fun w' hw' => ?_) ?_
          rotate_left
          · go_simp; with_reducible rfl
          simp only [Act.put, List.setIfInBounds_toArray, List.set_cons_zero, List.set_cons_succ]
          refine wpR_take (i := 5) (v := ?_) (Upd.road _) (some 58) rfl (by kernel_rfl) (by kernel_rfl) (by kernel_rfl) (by kernel_rfl) (by kernel_rfl) (fun _ _ _ h => h) (by kernel_rfl) (fun w' hw' => ?_) ?_
          rotate_left
          · go_simp; with_reducible rfl
          simp only [Act.put, List.setIfInBounds_toArray, List.set_cons_zero, List.set_cons_succ]
          refine wpR_take (i := 6) (v := ?_) (Upd.road _) (some 59) rfl (by kernel_rfl) (by kernel_rfl) (by kernel_rfl) (by kernel_rfl) (by kernel_rfl) (fun _ _ _ h => h) (by kernel_rfl) (fun w' hw' => ?_) ?_
          rotate_left
          · go_simp; with_reducible rfl
          simp only [Act.put, List.setIfInBounds_toArray, List.set_cons_zero, List.set_cons_succ]
          refine wpR_take (i := 7) (v := ?_) (Upd.road _) (some 60) rfl (by kernel_rfl) (by kernel_rfl) (by kernel_rfl) (by kernel_rfl) (by kernel_rfl) (fun _ _ _ h => h) (by kernel_rfl) (fun w' hw' => ?_) ?_
          rotate_left
          · go_simp; with_reducible rfl
          simp only [Act.put, List.setIfInBounds_toArray, List.set_cons_zero, List.set_cons_succ]
          refine wpR_take (i := 8) (v := ?_) (Upd.road _) (some 61) rfl (by kernel_rfl) (by kernel_rfl) (by kernel_rfl) (by kernel_rfl) (by kernel_rfl) (fun _ _ _ h => h) (by kernel_rfl) (fun w' hw' => ?_) ?_
          rotate_left
          · go_simp; with_reducible rfl
          simp only [Act.put, List.setIfInBounds_toArray, List.set_cons_zero, List.set_cons_succ]
          refine wpR_take (i := 9) (v := ?_) (Upd.road _) (some 62) rfl (by kernel_rfl) (by kernel_rfl) (by kernel_rfl) (by kernel_rfl) (by kernel_rfl) (fun _ _ _ h => h) (by kernel_rfl) (fun w' hw' => ?_) ?_
          rotate_left
          · go_simp; with_reducible rfl
          simp only [Act.put, List.setIfInBounds_toArray, List.set_cons_zero, List.set_cons_succ]
          refine wpR_take (i := 10) (v := ?_) (Upd.road _) (some 63) rfl (by kernel_rfl) (by kernel_rfl) (by kernel_rfl) (by kernel_rfl) (by kernel_rfl) (fun _ _ _ h => h) (by kernel_rfl) (fun w' hw' => ?_) ?_
          rotate_left
          · go_simp; with_reducible rfl
          simp only [Act.put, List.setIfInBounds_toArray, List.set_cons_zero, List.set_cons_succ]
          refine wpR_take (i := 11) (v := ?_) (Upd.road _) (some 64) rfl (by kernel_rfl) (by kernel_rfl) (by kernel_rfl) (by kernel_rfl) (by kernel_rfl) (fun _ _ _ h => h) (by kernel_rfl) (fun w' hw' => ?_) ?_
          rotate_left
          · go_simp; with_reducible rfl
          simp only [Act.put, List.setIfInBounds_toArray, List.set_cons_zero, List.set_cons_succ]
          refine wpR_one 12 rfl (by kernel_rfl) (by kernel_rfl) (fun K hK => ?_)
          go_simp
          refine (alike_any Ab (some ⟨gc, 0, none⟩) k cb cc L hLK.out (by omega) _ hrb10.out.aat hrc10.out.aat).mono ?_
          rintro e w11 ⟨rfl, hbb⟩
          refine hK _ _ (fun _ => Upd.of_below hbb) ?_
          clear hK K
          have hb11 := Lib.hid (hb10.out.trans (hbb.mono hb10.out.size))
          have hq11 := Lib.hid (hq10.out.below hbb)
          have hrc11 : Hid (ARow w11 Bc (.slice (some ⟨gc, 0, none⟩) k cc) L) := Lib.hid (row_below hrc10.out hbb)
          clear hbb
          try simp only [Act.put, List.setIfInBounds_toArray, List.set_cons_zero, List.set_cons_succ]
          refine wpR_take (i := 13) (v := ?_) (Upd.road _) (some 66) rfl (by kernel_rfl) (by kernel_rfl) (by kernel_rfl) (by kernel_rfl) (by kernel_rfl) (fun _ _ _ h => h) (by kernel_rfl) (fun w' hw' => ?_) ?_
          rotate_left
          · go_simp; with_reducible rfl
          simp only [Act.put, List.setIfInBounds_toArray, List.set_cons_zero, List.set_cons_succ]
          refine wpR_take (i := 14) (v := ?_) (Upd.road _) (some 67) rfl (by kernel_rfl) (by kernel_rfl) (by kernel_rfl) (by kernel_rfl) (by kernel_rfl) (fun _ _ _ h => h) (by kernel_rfl) (fun w' hw' => ?_) ?_
          rotate_left
          · go_simp; with_reducible rfl
          simp only [Act.put, List.setIfInBounds_toArray, List.set_cons_zero, List.set_cons_succ]
          refine wpR_take (i := 15) (v := ?_) (Upd.road _) (some 68) rfl (by kernel_rfl) (by kernel_rfl) (by kernel_rfl) (by kernel_rfl) (by kernel_rfl) (fun _ _ _ h => h) (by kernel_rfl) (fun w' hw' => ?_) ?_
          rotate_left
          · go_simp; with_reducible rfl
          simp only [Act.put, List.setIfInBounds_toArray, List.set_cons_zero, List.set_cons_succ]
          refine wpR_take (i := 16) (v := ?_) (Upd.road _) (some 69) rfl (by kernel_rfl) (by kernel_rfl) (by kernel_rfl) (by kernel_rfl) (by kernel_rfl) (fun _ _ _ h => h) (by kernel_rfl) (fun w' hw' => ?_) ?_
          rotate_left
          · go_simp; with_reducible rfl
          simp only [Act.put, List.setIfInBounds_toArray, List.set_cons_zero, List.set_cons_succ]
          refine wpR_take (i := 17) (v := ?_) (Upd.road _) (some 70) rfl (by kernel_rfl) (by kernel_rfl) (by kernel_rfl) (by kernel_rfl) (by kernel_rfl) (fun _ _ _ h => h) (by kernel_rfl) (fun w' hw' => ?_) ?_
          rotate_left
          · go_simp; with_reducible rfl
          simp only [Act.put, List.setIfInBounds_toArray, List.set_cons_zero, List.set_cons_succ]
          refine wpR_take (i := 18) (v := ?_) (Upd.road _) (some 71) rfl (by kernel_rfl) (by kernel_rfl) (by kernel_rfl) (by kernel_rfl) (by kernel_rfl) (fun _ _ _ h => h) (by kernel_rfl) (fun w' hw' => ?_) ?_
          rotate_left
          · go_simp; with_reducible rfl
          simp only [Act.put, List.setIfInBounds_toArray, List.set_cons_zero, List.set_cons_succ]
          refine wpR_take (i := 19) (v := ?_) (Upd.road _) (some 72) rfl (by kernel_rfl) (by kernel_rfl) (by kernel_rfl) (by kernel_rfl) (by kernel_rfl) (fun _ _ _ h => h) (by kernel_rfl) (fun w' hw' => ?_) ?_
          rotate_left
          · go_simp; with_reducible rfl
          simp only [Act.put, List.setIfInBounds_toArray, List.set_cons_zero, List.set_cons_succ]
          refine wpR_take (i := 21) (v := ?_) (Upd.road _) (some 74) rfl (by kernel_rfl) (by kernel_rfl) (by kernel_rfl) (by kernel_rfl) (by kernel_rfl) (fun _ _ _ h => h) (by kernel_rfl) (fun w' hw' => ?_) ?_
          rotate_left
          · go_simp; with_reducible rfl
          simp only [Act.put, List.setIfInBounds_toArray, List.set_cons_zero, List.set_cons_succ]
          refine wpR_take (i := 22) (v := ?_) (Upd.road _) (some 75) rfl (by kernel_rfl) (by kernel_rfl) (by kernel_rfl) (by kernel_rfl) (by kernel_rfl) (fun _ _ _ h => h) (by kernel_rfl) (fun w' hw' => ?_) ?_
          rotate_left
          · go_simp; with_reducible rfl
          simp only [Act.put, List.setIfInBounds_toArray, List.set_cons_zero, List.set_cons_succ]
          refine wpR_one 20 rfl (by kernel_rfl) (by kernel_rfl) (fun K hK => ?_)
          go_simp
          refine (qall_any lo lo v9 (L.drop 1) 60 _ hq11.out).mono ?_
          rintro e w12 ⟨v12, rfl, hr12, hbb⟩
          obtain ⟨A12, cc12, rfl, -, -⟩ := row_form hr12
          rw [hLd.out] at hr12
          refine hK _ _ (fun _ => Upd.of_below hbb) ?_
          clear hK K
          replace hr12 := Lib.hid hr12
          have hb12 := Lib.hid (hb11.out.trans (hbb.mono hb11.out.size))
          have hrc12 : Hid (AAt w12 (if cc = 1 then some ⟨gc, 0, none⟩ else some ⟨gc, 6, none⟩) (L.drop 1)) := Lib.hid (htl.out w12 (row_below hrc11.out hbb))
          clear hbb
          rw [hLd.out]
          try simp only [Act.put, List.setIfInBounds_toArray, List.set_cons_zero, List.set_cons_succ]
          refine wpR_one 23 rfl (by kernel_rfl) (by kernel_rfl) (fun K hK => ?_)
          go_simp
          refine (alike_any A12 _ (k - 1) cc12 (cc - 1) (L.drop 1) hLd.out (by omega) _ hr12.out.aat hrc12.out).mono ?_
          rintro e w13 ⟨rfl, hbb⟩
          refine hK _ _ (fun _ => Upd.of_below hbb) ?_
          clear hK K
          have hb13 := Lib.hid (hb12.out.trans (hbb.mono hb12.out.size))
          clear hbb
          try simp only [Act.put, List.setIfInBounds_toArray, List.set_cons_zero, List.set_cons_succ]
          refine wpR_take (i := 24) (v := ?_) (Upd.road _) (some 77) rfl (by kernel_rfl) (by kernel_rfl) (by kernel_rfl) (by kernel_rfl) (by kernel_rfl) (fun _ _ _ h => h) (by kernel_rfl) (fun w' hw' => ?_) ?_
          rotate_left
          · go_simp; with_reducible rfl
          simp only [Act.put, List.setIfInBounds_toArray, List.set_cons_zero, List.set_cons_succ]
          refine wpR_take (i := 25) (v := ?_) (Upd.road _) (some 78) rfl (by kernel_rfl) (by kernel_rfl) (by kernel_rfl) (by kernel_rfl) (by kernel_rfl) (fun _ _ _ h => h) (by kernel_rfl) (fun w' hw' => ?_) ?_
          rotate_left
          · go_simp; with_reducible rfl
          simp only [Act.put, List.setIfInBounds_toArray, List.set_cons_zero, List.set_cons_succ]
          refine wpR_take (i := 26) (v := ?_) (Upd.road _) (some 4) rfl (by kernel_rfl) (by kernel_rfl) (by kernel_rfl) (by kernel_rfl) (by kernel_rfl) (fun _ _ _ h => h) (by kernel_rfl) (fun w' hw' => ?_) ?_
          rotate_left
          · go_simp; with_reducible rfl
          simp only [Act.put, List.setIfInBounds_toArray, List.set_cons_zero, List.set_cons_succ]
          refine wpR_done (by kernel_rfl) ?_ _
          go_wp2
          all_goals (go_ret; exact ⟨rfl, hb13.out⟩)
end Go.Proofs.Ytppclmidnomkjab
