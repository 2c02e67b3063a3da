/- The laws of queue: QueueDrops. -/
import Derived.Test.YtppclmidnomkjabQueueLaw3
namespace Go.Proofs.Ytppclmidnomkjab
set_option linter.unusedVariables false
set_option linter.unusedSimpArgs false
open Go Go.RowKit
/-- a slice's block is none of the queue's -/
def Apart (u : Value) (g : Nat) (v : Value) : Prop := ∀ k, u.ownBlock = some k → ¬ QS g v k
theorem Apart.moved {u v v' : Value} {g n : Nat} (h : Apart u g v) (hm : Moved v v' n) (hu : ∀ k, u.ownBlock = some k → k < n) : Apart u g v' := fun k hk hq => by
  rcases hq with hq | hq
  · exact h k hk (.inl hq)
  · rcases hm with e | e
    · exact h k hk (.inr (e ▸ hq))
    · have := e k hq; have := hu k hk; omega
theorem fil_fil (job : Int) (l : List AskR) : fil job (fil job l) = fil job l := by unfold fil; rw [List.filter_filter]; simp
theorem fil_lit (job : Int) (q : AskR) (l : List AskR) (h : q.a ≠ job) : fil job (l ++ [q]) = fil job l ++ [q] := by unfold fil; rw [List.filter_append]; simp [h]
theorem fil_hit (job : Int) (q : AskR) (l : List AskR) (h : q.a = job) : fil job (l ++ [q]) = fil job l := by unfold fil; rw [List.filter_append]; simp [h]
set_option maxHeartbeats 4000000 in
set_option maxRecDepth 10000 in
theorem queueDrops_any (A : Option Addr) (n c : Nat) (hnc : n ≤ c) (hcm : c ≤ maxLen) (F : Nat → Nat → Int) (job : Int) (w : World) (ht : Tab w w.heap.size 6 A n F) :
    Calls Try.prog 5 #[.slice A n c, .int .i64 job] w fun e w' => e = .returned (.bool true) ∧ Below w.heap.size w w' := by
  replace ht := Lib.hid ht
  unfold maxLen at hcm
  go_enter Try.func5, Try.ntmps5
  go_wp2_with fail
  refine (qnew_any 60 (by unfold I64; decide) w).mono ?_
  rw [qw60]
  rintro e w1 ⟨rfl, h1, hb1⟩
  obtain ⟨lo, hlo⟩ : ∃ lo, lo = w.heap.size := ⟨_, rfl⟩
  rw [← hlo] at h1 ⊢
  have hl : w.heap.size ≤ lo := by omega
  replace hlo := Lib.hid hlo
  obtain ⟨K, hK⟩ : ∃ K, K = min n 60 := ⟨_, rfl⟩
  have hKn : K ≤ n := by omega
  have hK60 : K ≤ 60 := by omega
  replace hK := Lib.hid hK
  have hbal := (Below.refl w1.heap.size w1).alloc (Nat.le_refl _) (.cells #[] 28)
  have hw1l := h1.lw
  have hr1 : Hid (ARow (w1.alloc (.cells #[] 28)) lo (.slice (some ⟨w1.heap.size, 0, none⟩) 0 0) []) := Lib.hid (World.ownsRow_made w1 #[] 0 hw1l (by simp [maxLen]) rfl)
  have h1' := Lib.hid (h1.below hbal)
  have hb1' := Lib.hid (hb1.trans (hbal.mono hb1.size))
  have hap1 : Hid (Apart (.slice (some ⟨w1.heap.size, 0, none⟩) 0 0) lo (.slice none 0 0)) := Lib.hid (fun k hk hq => by
    injection hk with hk
    have hk : w1.heap.size = k := hk
    have := (h1.qs k hq).2
    omega)
  clear hbal h1 hb1
  go_upto_block 0 with (fail)
  go_cut [6, 7] (fun u nn wx => ∃ (v : Value) (A6 : Option Addr) (c6 : Nat), u = .slice A6 (fil job ((asksOf F n).take K)).length c6 ∧ nn = .int .i64 ((K : Int) - (fil job ((asksOf F n).take K)).length) ∧ Hid (ARow wx lo (.slice A6 (fil job ((asksOf F n).take K)).length c6) (fil job ((asksOf F n).take K))) ∧ Hid (Apart (.slice A6 (fil job ((asksOf F n).take K)).length c6) lo v) ∧ Hid (Qu wx lo lo v ((asksOf F n).take K) 60) ∧ Hid (Below w.heap.size w wx))
  case first =>
    go_wp2_with fail
    go_loopw [6, 7, 8] (fun u nn i wr => ∃ (k W : Nat) (v : Value) (A6 : Option Addr) (c6 : Nat), i = .int .i64 k ∧ u = .slice A6 W c6 ∧ nn = .int .i64 ((k : Int) - W) ∧ k ≤ K ∧ W ≤ k ∧ Hid ((fil job ((asksOf F n).take k)).length = W) ∧ Hid (ARow wr lo (.slice A6 W c6) (fil job ((asksOf F n).take k))) ∧ Hid (Apart (.slice A6 W c6) lo v) ∧ Hid (Qu wr lo lo v ((asksOf F n).take k) 60) ∧ Hid (Below w.heap.size w wr)) (fun _ _ i _ => K - (intOf i).toNat)
    case atStart => exact ⟨0, 0, _, _, _, rfl, rfl, rfl, Nat.zero_le _, Nat.le_refl _, Lib.hid rfl, hr1, hap1, h1', hb1'⟩
    case round =>
      obtain ⟨k, W, v, A6, c6, rfl, rfl, rfl, hk, hWk, hW, hr2, hap2, h2, hb2⟩ := hrel
      clear hr1 hap1 h1' hb1'
      by_cases hlt : k < K
      · have hkn : k < n := by omega
        have hk60 : k < 60 := by omega
        obtain ⟨b, o, rfl, hbw, c0, c1, c2, c3, c4, c5⟩ := ht.out.ask hb2.out hkn
        have hpu := qpush_ok lo lo v _ 60 (askOf F k) (ht.out.ok hkn) (by rw [take_len F n (by omega)]; exact hk60) wr h2.out
        rw [take_push F n hkn] at hpu
        unfold AskR.agg askOf at hpu
        replace hpu := Lib.hid hpu
        go_wp2_with fail
        refine hpu.out.mono ?_
        rintro e w3 ⟨rfl, v3, h3, hmv, hu⟩
        have hb3 := h2.out.from_ hu hb2.out hl
        have hr3 : Hid (ARow w3 lo (.slice A6 W c6) (fil job ((asksOf F n).take k))) := Lib.hid (row_upd hr2.out hu hap2.out)
        have hap3 := Lib.hid (hap2.out.moved hmv (fun k hk => (hr2.out.lt k hk).2))
        have hw3l := h3.lw
        replace h3 := Lib.hid h3
        clear hu h2 hb2 hpu c0 c1 c2 c3 c4 c5 hmv hr2 hap2
        obtain ⟨b', o', hA, -, c0, c1, c2, c3, c4, c5⟩ := ht.out.ask hb3 hkn
        injection hA with hA
        injection hA with e1 e2
        subst e1
        subst e2
        simp only [askOf] at c0 c1 c2 c3 c4 c5
        replace hb3 := Lib.hid hb3
        by_cases hj : F k 0 = job
        · have hf := Lib.hid (fil_hit job (askOf F k) ((asksOf F n).take k) hj)
          rw [take_push F n hkn] at hf
          rw [hj] at c0
          go_wp2_with fail
          go_roundw
          case rel => exact ⟨k + 1, W, v3, A6, c6, by go_num, rfl, by congr 1; push_cast; omega, by omega, by omega, by rw [hf.out]; exact hW, by rw [hf.out]; exact hr3, hap3, h3, hb3⟩
          case measure => simp [intOf]; omega
        · have hf := Lib.hid (fil_lit job (askOf F k) ((asksOf F n).take k) hj)
          rw [take_push F n hkn] at hf
          have hjb : (F k 0 == job) = false := beq_eq_false_iff_ne.mpr hj
          have hW1 : Hid ((fil job ((asksOf F n).take k) ++ [askOf F k]).length = W + 1) := Lib.hid (by rw [List.length_append, hW.out]; rfl)
          have hsrc : Hid (Reads (w3.alloc (.cells #[.int .i64 (F k 0), .int .i64 (F k 1), .int .i64 (F k 2), .int .i64 (F k 3), .int .i64 (F k 4), .int .i64 (F k 5)] 28)) (w3.heap.size + 1) 6 (some ⟨w3.heap.size, 0, none⟩) 1 (flatA [askOf F k])) := Lib.hid (by rw [flatA_one]; exact Reads.lit6 w3 (askOf F k) 28 _ (Nat.lt_succ_self _))
          replace hj := Lib.hid hj
          go_wp2_with (at_builtin; refine wpl_append_asks rfl (.tmp 36) (.tmp 41) rfl lo (.slice A6 W c6) (fil job ((asksOf F n).take k)) rfl (hr3.out.alloc (.cells #[.int .i64 (F k 0), .int .i64 (F k 1), .int .i64 (F k 2), .int .i64 (F k 3), .int .i64 (F k 4), .int .i64 (F k 5)] 28)) (w3.heap.size + 1) (some ⟨w3.heap.size, 0, none⟩) 1 1 [askOf F k] rfl rfl hsrc.out (by rw [hW.out]; omega) (by simp; omega) ?_; intro v5 w5 hr5 hg5 hv5; obtain ⟨A7, c7, rfl, -, -⟩ := row_form hr5; rw [hW1.out] at hr5 hv5 ⊢; rw [← hf.out] at hr5; have hu5 := Upd.of_own hg5; have h3a := h3.out.below ((Below.refl w3.heap.size w3).alloc (Nat.le_refl _) (.cells #[.int .i64 (F k 0), .int .i64 (F k 1), .int .i64 (F k 2), .int .i64 (F k 3), .int .i64 (F k 4), .int .i64 (F k 5)] 28)); have hap5 : Hid (Apart (.slice A7 (W + 1) c7) lo v3) := Lib.hid (fun x hx hq => by rcases hv5 with e | e; exact hap3.out x (e ▸ hx) hq; rw [hx] at e; injection e with e; have := (h3a.qs x hq).2; omega); have h5 := Lib.hid (h3a.upd hu5 (fun x hx e => hap3.out x e hx)); have hb5 := Lib.hid ((hb3.out.alloc hb3.out.size (.cells #[.int .i64 (F k 0), .int .i64 (F k 1), .int .i64 (F k 2), .int .i64 (F k 3), .int .i64 (F k 4), .int .i64 (F k 5)] 28)).trans (Upd.to_below (Below.refl _ _) hu5 (by have := hb3.out.size; simp; omega) (fun x hx => Nat.le_trans hl ((hr3.out.lt x hx).1)))); replace hr5 := Lib.hid hr5; clear hg5 hv5 hu5 h3a)
          go_roundw
          case rel => exact ⟨k + 1, W + 1, v3, A7, c7, by go_num, rfl, by congr 1; push_cast; omega, by omega, by omega, by rw [hf.out]; exact hW1, hr5, hap5, h5, hb5⟩
          case measure => simp [intOf]; omega
      · obtain rfl : k = K := by omega
        by_cases h60 : n ≤ 60
        · have hkn : k = n := by have := hK.out; omega
          have hkn' : ¬ (k < n) := by omega
          replace hkn := Lib.hid hkn
          go_wp2_with fail
          go_meet
          exact ⟨v, A6, c6, by rw [hW.out], by rw [hW.out], by rw [hW.out]; exact hr2, by rw [hW.out]; exact hap2, h2, hb2⟩
        · have hkn : k = 60 := by have := hK.out; omega
          have hkn' : ¬ (k < 60) := by omega
          have hkn2 : k < n := by omega
          replace hkn := Lib.hid hkn
          go_wp2_with fail
          go_meet
          exact ⟨v, A6, c6, by rw [hW.out], by rw [hW.out], by rw [hW.out]; exact hr2, by rw [hW.out]; exact hap2, h2, hb2⟩
  case rest =>
    obtain ⟨v, A6, c6, rfl, rfl, hr2, hap2, h2, hb2⟩ := hcut
    clear hr1 hap1 h1' hb1' ht
    have hfl : (fil job ((asksOf F n).take K)).length ≤ K := by
      have := fil_len job ((asksOf F n).take K)
      rw [take_len F n hKn] at this
      exact this
    obtain ⟨L, hL⟩ : ∃ L, (asksOf F n).take K = L := ⟨_, rfl⟩
    have hLK : Hid (L.length = K) := Lib.hid (by rw [← hL]; exact take_len F n hKn)
    rw [hL] at hr2 hap2 h2 hfl ⊢
    replace hL := Lib.hid hL
    obtain ⟨W, hW⟩ : ∃ W, (fil job L).length = W := ⟨_, rfl⟩
    rw [hW] at hr2 hap2 hfl ⊢
    replace hW := Lib.hid hW
    go_wp2_with fail
    refine (awake15_any wc).mono ?_
    rintro e w3 ⟨rfl, hbb⟩
    have hb3 := Lib.hid (hb2.out.trans (hbb.mono hb2.out.size))
    have h3 := Lib.hid (h2.out.below hbb)
    have hr3 : Hid (ARow w3 lo (.slice A6 W c6) (fil job L)) := Lib.hid (row_below hr2.out hbb)
    clear hbb hb2 h2 hr2
    go_wp2_with fail
    refine (qdrop_any lo lo job v L 60 w3 h3.out).mono ?_
    rw [hLK.out, hW.out]
    rintro e w4 ⟨rfl, v4, h4, hv4, hu⟩
    have hb4 := Lib.hid (h3.out.from_ hu hb3.out hl)
    have hr4 : Hid (ARow w4 lo (.slice A6 W c6) (fil job L)) := Lib.hid (row_upd hr3.out hu hap2.out)
    replace h4 := Lib.hid h4
    clear hu h3 hb3 hr3 hap2 hv4
    go_wp2_with fail
    refine (qall_any lo lo v4 (fil job L) 60 w4 h4.out).mono ?_
    rintro e w5 ⟨v5, rfl, hr5, hbb⟩
    have hb5 := Lib.hid (hb4.out.trans (hbb.mono hb4.out.size))
    have h5 := Lib.hid (h4.out.below hbb)
    have hr5' : Hid (ARow w5 lo (.slice A6 W c6) (fil job L)) := Lib.hid (row_below hr4.out hbb)
    obtain ⟨A5, c5, rfl, -, -⟩ := row_form hr5
    rw [hW.out] at hr5 ⊢
    replace hr5 := Lib.hid hr5
    clear hbb hb4 h4 hr4
    go_wp2_with fail
    refine (alike_any A5 A6 W c5 c6 (fil job L) hW.out (by omega) w5 hr5.out.aat hr5'.out.aat).mono ?_
    rintro e w6 ⟨rfl, hbb⟩
    have hb6 := Lib.hid (hb5.out.trans (hbb.mono hb5.out.size))
    have h6 := Lib.hid (h5.out.below hbb)
    clear hbb hb5 h5 hr5 hr5'
    go_wp2_with fail
    refine (qdrop_any lo lo job v4 (fil job L) 60 w6 h6.out).mono ?_
    rw [fil_fil, hW.out, Int.sub_self]
    rintro e w7 ⟨rfl, v7, h7, -, hu⟩
    have hb7 := Lib.hid (h6.out.from_ hu hb6.out hl)
    replace h7 := Lib.hid h7
    clear hu h6 hb6
    go_wp2_with fail
    refine (qlen_any lo lo v7 (fil job L) 60 w7 h7.out).mono ?_
    rw [hW.out]
    rintro e w8 ⟨rfl, rfl⟩
    go_wp2
    go_ret
    exact ⟨rfl, hb7.out⟩
end Go.Proofs.Ytppclmidnomkjab
