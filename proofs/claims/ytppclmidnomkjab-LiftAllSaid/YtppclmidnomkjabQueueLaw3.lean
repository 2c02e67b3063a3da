/- The laws of queue: lists of requests that are alike; QueueOrder. -/
import Derived.Test.YtppclmidnomkjabQueueLaw2
import Derived.IntWalk
namespace Go.Proofs.Ytppclmidnomkjab
set_option linter.unusedVariables false
set_option linter.unusedSimpArgs false
open Go Go.RowKit
/-- these requests lie behind A -/
def AAt (w : World) (A : Option Addr) (l : List AskR) : Prop := 0 < l.length → ∃ b o, A = some ⟨b, o, none⟩ ∧ b < w.heap.size ∧ ∀ i q, l[i]? = some q → w.cell? ⟨b, o + i * 6, none⟩ = some (.int .i64 q.a) ∧ w.cell? ⟨b, o + i * 6 + 1, none⟩ = some (.int .i64 q.b) ∧ w.cell? ⟨b, o + i * 6 + 2, none⟩ = some (.int .i64 q.c) ∧ w.cell? ⟨b, o + i * 6 + 3, none⟩ = some (.int .i64 q.d) ∧ w.cell? ⟨b, o + i * 6 + 4, none⟩ = some (.int .i64 q.e) ∧ w.cell? ⟨b, o + i * 6 + 5, none⟩ = some (.int .i64 q.f)
theorem AAt.below {w w' : World} {A : Option Addr} {l : List AskR} (h : AAt w A l) (hb : Below w.heap.size w w') : AAt w' A l := fun hl => by
  obtain ⟨b, o, e, hlt, hc⟩ := h hl
  refine ⟨b, o, e, Nat.lt_of_lt_of_le hlt hb.size, fun i q hq => ?_⟩
  obtain ⟨h0, h1, h2, h3, h4, h5⟩ := hc i q hq
  exact ⟨(hb.cell (p := ⟨b, o + i * 6, none⟩) hlt).trans h0, (hb.cell (p := ⟨b, o + i * 6 + 1, none⟩) hlt).trans h1, (hb.cell (p := ⟨b, o + i * 6 + 2, none⟩) hlt).trans h2, (hb.cell (p := ⟨b, o + i * 6 + 3, none⟩) hlt).trans h3, (hb.cell (p := ⟨b, o + i * 6 + 4, none⟩) hlt).trans h4, (hb.cell (p := ⟨b, o + i * 6 + 5, none⟩) hlt).trans h5⟩
theorem ARow.aat {w : World} {base n c : Nat} {A : Option Addr} {l : List AskR} (h : ARow w base (.slice A n c) l) : AAt w A l := fun hl => by
  obtain ⟨b, c', e, -, -, -, hb, -, -, hcell, -⟩ := row_at h hl
  have e' : A = some ⟨b, 0, none⟩ := by injection e
  refine ⟨b, 0, e', hb, fun i q hq => ?_⟩
  have ha := flatA_at l hq
  rw [Nat.zero_add]
  exact ⟨hcell _ _ (ha 0 (by omega)), hcell _ _ (ha 1 (by omega)), hcell _ _ (ha 2 (by omega)), hcell _ _ (ha 3 (by omega)), hcell _ _ (ha 4 (by omega)), hcell _ _ (ha 5 (by omega))⟩
/-- .. but the first -/
theorem ARow.tail {w : World} {base n c g : Nat} {l : List AskR} (h : ARow w base (.slice (some ⟨g, 0, none⟩) n c) l) : AAt w (some ⟨g, 6, none⟩) (l.drop 1) := fun hl => by
  rw [List.length_drop] at hl
  obtain ⟨b, c', e, -, -, -, hb, -, -, hcell, -⟩ := row_at h (by omega)
  have e' : b = g := by injection e with e _ _; injection e with e; injection e with e; exact e.symm
  subst e'
  refine ⟨b, 6, rfl, hb, fun i q hq => ?_⟩
  rw [List.getElem?_drop] at hq
  have ha := flatA_at l hq
  have e6 : 6 + i * 6 = (1 + i) * 6 := by omega
  rw [e6]
  exact ⟨hcell _ _ (ha 0 (by omega)), hcell _ _ (ha 1 (by omega)), hcell _ _ (ha 2 (by omega)), hcell _ _ (ha 3 (by omega)), hcell _ _ (ha 4 (by omega)), hcell _ _ (ha 5 (by omega))⟩
set_option maxHeartbeats 1000000 in
set_option maxRecDepth 10000 in
theorem alike_any (A A2 : Option Addr) (n c c2 : Nat) (l : List AskR) (hn : l.length = n) (hnm : n ≤ 1000000) (w : World) (h : AAt w A l) (h2 : AAt w A2 l) :
    Calls Try.prog 22 #[.slice A n c, .slice A2 n c2] w fun e w' => e = .returned (.bool true) ∧ Below w.heap.size w w' := by
  replace h := Lib.hid h
  replace h2 := Lib.hid h2
  replace hn := Lib.hid hn
  go_enter Try.func22, Try.ntmps22
  go_wp2_with fail
  go_loopw [5] (fun i wr => ∃ k : Nat, i = .int .i64 k ∧ k ≤ n ∧ Hid (Below w.heap.size w wr)) (fun i _ => n - (intOf i).toNat)
  case atStart => exact ⟨0, rfl, Nat.zero_le _, Lib.hid (Below.refl _ _)⟩
  case round =>
    obtain ⟨k, rfl, hk, hb⟩ := hrel
    by_cases hlt : k < n
    · obtain ⟨q, hq⟩ : ∃ q, l[k]? = some q := ⟨_, List.getElem?_eq_getElem (by rw [hn.out]; exact hlt)⟩
      obtain ⟨b, o, rfl, hbw0, hc⟩ := (h.out.below hb.out) (by rw [hn.out]; omega)
      obtain ⟨b2, o2, rfl, hb2w0, hc2⟩ := (h2.out.below hb.out) (by rw [hn.out]; omega)
      obtain ⟨x0, x1, x2, x3, x4, x5⟩ := hc k q hq
      obtain ⟨y0, y1, y2, y3, y4, y5⟩ := hc2 k q hq
      have hbw : b < wr.drew.heap.size := hbw0
      have hb2w : b2 < wr.drew.heap.size := hb2w0
      clear hc hc2 hq hbw0 hb2w0
      go_wp2_with fail
      refine wpR_region (Upd (fun _ => False)) 9999 (by kernel_rfl) ?_
      refine wpR_take (i := 0) (v := ?_) (Upd.road _) (some 17) rfl (by kernel_rfl) (by kernel_rfl) (by kernel_rfl) (by kernel_rfl) (by kernel_rfl) (fun _ _ _ h => h) (by kernel_rfl) (fun w' hw' => ?_) ?_
      rotate_left
      · go_simp; with_reducible rfl
      simp only [Act.put, List.setIfInBounds_toArray, List.set_cons_zero, List.set_cons_succ]
      refine wpR_take (i := 1) (v := ?_) (Upd.road _) (some 18) rfl (by kernel_rfl) (by kernel_rfl) (by kernel_rfl) (by kernel_rfl) (by kernel_rfl) (fun _ _ _ h => h) (by kernel_rfl) (fun w' hw' => ?_) ?_
      rotate_left
      · go_simp; with_reducible rfl
      simp only [Act.put, List.setIfInBounds_toArray, List.set_cons_zero, List.set_cons_succ]
      refine wpR_take (i := 2) (v := ?_) (Upd.road _) (some 19) rfl (by kernel_rfl) (by kernel_rfl) (by kernel_rfl) (by kernel_rfl) (by kernel_rfl) (fun _ _ _ h => h) (by kernel_rfl) (fun w' hw' => ?_) ?_
      rotate_left
      · go_simp; with_reducible rfl
      simp only [Act.put, List.setIfInBounds_toArray, List.set_cons_zero, List.set_cons_succ]
      refine wpR_take (i := 3) (v := ?_) (Upd.road _) (some 20) rfl (by kernel_rfl) (by kernel_rfl) (by kernel_rfl) (by kernel_rfl) (by kernel_rfl) (fun _ _ _ h => h) (by kernel_rfl) (fun w' hw' => ?_) ?_
      rotate_left
      · have xq0 := (hw'.cell (p := ⟨b, o + k * 6, none⟩) hbw (fun h => h)).trans x0; have xq1 := (hw'.cell (p := ⟨b, o + k * 6 + 1, none⟩) hbw (fun h => h)).trans x1; have xq2 := (hw'.cell (p := ⟨b, o + k * 6 + 2, none⟩) hbw (fun h => h)).trans x2; have xq3 := (hw'.cell (p := ⟨b, o + k * 6 + 3, none⟩) hbw (fun h => h)).trans x3; have xq4 := (hw'.cell (p := ⟨b, o + k * 6 + 4, none⟩) hbw (fun h => h)).trans x4; have xq5 := (hw'.cell (p := ⟨b, o + k * 6 + 5, none⟩) hbw (fun h => h)).trans x5; go_simp; with_reducible rfl
      simp only [Act.put, List.setIfInBounds_toArray, List.set_cons_zero, List.set_cons_succ]
      refine wpR_take (i := 4) (v := ?_) (Upd.road _) (some 21) rfl (by kernel_rfl) (by kernel_rfl) (by kernel_rfl) (by kernel_rfl) (by kernel_rfl) (fun _ _ _ h => h) (by kernel_rfl) (fun w' hw' => ?_) ?_
      rotate_left
      · go_simp; with_reducible rfl
      simp only [Act.put, List.setIfInBounds_toArray, List.set_cons_zero, List.set_cons_succ]
      refine wpR_take (i := 5) (v := ?_) (Upd.road _) (some 22) rfl (by kernel_rfl) (by kernel_rfl) (by kernel_rfl) (by kernel_rfl) (by kernel_rfl) (fun _ _ _ h => h) (by kernel_rfl) (fun w' hw' => ?_) ?_
      rotate_left
      · go_simp; with_reducible rfl
      simp only [Act.put, List.setIfInBounds_toArray, List.set_cons_zero, List.set_cons_succ]
      refine wpR_take (i := 6) (v := ?_) (Upd.road _) (some 23) rfl (by kernel_rfl) (by kernel_rfl) (by kernel_rfl) (by kernel_rfl) (by kernel_rfl) (fun _ _ _ h => h) (by kernel_rfl) (fun w' hw' => ?_) ?_
      rotate_left
      · go_simp; with_reducible rfl
      simp only [Act.put, List.setIfInBounds_toArray, List.set_cons_zero, List.set_cons_succ]
      refine wpR_take (i := 7) (v := ?_) (Upd.road _) (some 24) rfl (by kernel_rfl) (by kernel_rfl) (by kernel_rfl) (by kernel_rfl) (by kernel_rfl) (fun _ _ _ h => h) (by kernel_rfl) (fun w' hw' => ?_) ?_
      rotate_left
      · have yq0 := (hw'.cell (p := ⟨b2, o2 + k * 6, none⟩) hb2w (fun h => h)).trans y0; have yq1 := (hw'.cell (p := ⟨b2, o2 + k * 6 + 1, none⟩) hb2w (fun h => h)).trans y1; have yq2 := (hw'.cell (p := ⟨b2, o2 + k * 6 + 2, none⟩) hb2w (fun h => h)).trans y2; have yq3 := (hw'.cell (p := ⟨b2, o2 + k * 6 + 3, none⟩) hb2w (fun h => h)).trans y3; have yq4 := (hw'.cell (p := ⟨b2, o2 + k * 6 + 4, none⟩) hb2w (fun h => h)).trans y4; have yq5 := (hw'.cell (p := ⟨b2, o2 + k * 6 + 5, none⟩) hb2w (fun h => h)).trans y5; go_simp; with_reducible rfl
      simp only [Act.put, List.setIfInBounds_toArray, List.set_cons_zero, List.set_cons_succ]
      refine wpR_one 8 rfl (by kernel_rfl) (by kernel_rfl) (fun K hK => ?_)
      go_simp
      refine (same_self q _).mono ?_
      rintro e w3 ⟨rfl, hbb⟩
      refine hK _ _ (fun _ => Upd.of_below hbb) ?_
      clear hK K
      have hb3 := Lib.hid (hb.out.drew.trans (hbb.mono hb.out.size))
      clear hbb
      try simp only [Act.put, List.setIfInBounds_toArray, List.set_cons_zero, List.set_cons_succ]
      refine wpR_take (i := 9) (v := ?_) (Upd.road _) (some 26) rfl (by kernel_rfl) (by kernel_rfl) (by kernel_rfl) (by kernel_rfl) (by kernel_rfl) (fun _ _ _ h => h) (by kernel_rfl) (fun w' hw' => ?_) ?_
      rotate_left
      · go_simp; with_reducible rfl
      simp only [Act.put, List.setIfInBounds_toArray, List.set_cons_zero, List.set_cons_succ]
      refine wpR_done (by kernel_rfl) ?_ _
      go_wp2_with fail
      go_roundw
      case rel => exact ⟨k + 1, by go_num, by omega, hb3⟩
      case measure => simp [intOf]; omega
    · obtain rfl : k = n := by omega
      go_wp2_with fail
      go_ret
      exact ⟨rfl, hb.out⟩
/-- what came in, as requests -/
def askOf (F : Nat → Nat → Int) (i : Nat) : AskR := ⟨F i 0, F i 1, F i 2, F i 3, F i 4, F i 5⟩
def asksOf (F : Nat → Nat → Int) (n : Nat) : List AskR := (List.range n).map (askOf F)
theorem asksOf_len (F : Nat → Nat → Int) (n : Nat) : (asksOf F n).length = n := by simp [asksOf]
theorem asksOf_at (F : Nat → Nat → Int) {n i : Nat} (h : i < n) : (asksOf F n)[i]? = some (askOf F i) := by
  unfold asksOf
  rw [List.getElem?_map, List.getElem?_range h]; rfl
theorem Tab.ok {w : World} {B n i : Nat} {A : Option Addr} {F : Nat → Nat → Int} (h : Tab w B 6 A n F) (hi : i < n) : (askOf F i).Ok :=
  ⟨h.2 i 0 hi (by omega), h.2 i 1 hi (by omega), h.2 i 2 hi (by omega), h.2 i 3 hi (by omega), h.2 i 4 hi (by omega), h.2 i 5 hi (by omega)⟩
/-- a request that came in, in a later world -/
theorem Tab.ask {w w' : World} {n i : Nat} {A : Option Addr} {F : Nat → Nat → Int} (h : Tab w w.heap.size 6 A n F) (hb : Below w.heap.size w w') (hi : i < n) : ∃ b o, A = some ⟨b, o, none⟩ ∧ b < w.heap.size ∧
    w'.cell? ⟨b, o + i * 6, none⟩ = some (.int .i64 (askOf F i).a) ∧ w'.cell? ⟨b, o + i * 6 + 1, none⟩ = some (.int .i64 (askOf F i).b) ∧ w'.cell? ⟨b, o + i * 6 + 2, none⟩ = some (.int .i64 (askOf F i).c) ∧ w'.cell? ⟨b, o + i * 6 + 3, none⟩ = some (.int .i64 (askOf F i).d) ∧ w'.cell? ⟨b, o + i * 6 + 4, none⟩ = some (.int .i64 (askOf F i).e) ∧ w'.cell? ⟨b, o + i * 6 + 5, none⟩ = some (.int .i64 (askOf F i).f) := by
  obtain ⟨b, o, e, hlt, hc⟩ := h.1 (by omega)
  obtain ⟨h0, h1, h2, h3, h4, h5⟩ := (hc.below hlt hb).row6 hi
  exact ⟨b, o, e, hlt, h0, h1, h2, h3, h4, h5⟩
theorem take_push (F : Nat → Nat → Int) (n : Nat) {k : Nat} (hk : k < n) : (asksOf F n).take k ++ [askOf F k] = (asksOf F n).take (k + 1) := by
  rw [List.take_add_one, asksOf_at F hk]; rfl
theorem take_len (F : Nat → Nat → Int) (n : Nat) {k : Nat} (hk : k ≤ n) : ((asksOf F n).take k).length = k := by rw [List.length_take, asksOf_len]; omega
theorem qw60 : (min (max 60 0) 4096 : Int).toNat = 60 := rfl
set_option maxHeartbeats 4000000 in
set_option maxRecDepth 10000 in
theorem queueOrder_any (A : Option Addr) (n c : Nat) (hnc : n ≤ c) (hcm : c ≤ maxLen) (F : Nat → Nat → Int) (w : World) (ht : Tab w w.heap.size 6 A n F) :
    Calls Try.prog 4 #[.slice A n c] w fun e w' => e = .returned (.bool true) ∧ Below w.heap.size w w' := by
  replace ht := Lib.hid ht
  unfold maxLen at hcm
  go_enter Try.func4, Try.ntmps4
  go_upto_block 0 with (refine (qnew_any 60 (by unfold I64; decide) w).mono ?_; rw [qw60]; rintro e w1 ⟨rfl, h1, hb1⟩; replace h1 := Lib.hid h1; replace hb1 := Lib.hid hb1)
  obtain ⟨lo, hlo⟩ : ∃ lo, lo = w.heap.size := ⟨_, rfl⟩
  rw [← hlo] at h1 ⊢
  have hl : w.heap.size ≤ lo := by omega
  replace hlo := Lib.hid hlo
  obtain ⟨K, hK⟩ : ∃ K, K = min n 60 := ⟨_, rfl⟩
  have hKn : K ≤ n := by omega
  have hK60 : K ≤ 60 := by omega
  replace hK := Lib.hid hK
  go_cut [4] (fun u wx => ∃ v, u = .int .i64 K ∧ Hid (Qu wx lo lo v ((asksOf F n).take K) 60) ∧ Hid (Below w.heap.size w wx))
  case first =>
    go_wp2_with fail
    go_loopw [4] (fun i wr => ∃ (k : Nat) (v : Value), i = .int .i64 k ∧ k ≤ K ∧ Hid (Qu wr lo lo v ((asksOf F n).take k) 60) ∧ Hid (Below w.heap.size w wr)) (fun i _ => K - (intOf i).toNat)
    case atStart => exact ⟨0, _, rfl, Nat.zero_le _, h1, hb1⟩
    case round =>
      obtain ⟨k, v, rfl, hk, h2, hb2⟩ := hrel
      clear h1 hb1
      by_cases hlt : k < K
      · have hkn : k < n := by omega
        have hk60 : k < 60 := by omega
        obtain ⟨b, o, rfl, -, c0, c1, c2, c3, c4, c5⟩ := ht.out.ask hb2.out hkn
        have hpu := qpush_ok lo lo v _ 60 (askOf F k) (ht.out.ok hkn) (by rw [take_len F n (by omega)]; exact hk60) wr h2.out
        rw [take_push F n hkn] at hpu
        unfold AskR.agg askOf at hpu
        replace hpu := Lib.hid hpu
        go_wp2_with fail
        refine hpu.out.mono ?_
        rintro e w3 ⟨rfl, v3, h3, -, hu⟩
        have hb3 := Lib.hid (h2.out.from_ hu hb2.out hl)
        replace h3 := Lib.hid h3
        clear hu h2 hb2 hpu c0 c1 c2 c3 c4 c5
        go_wp2_with fail
        go_roundw
        case rel => exact ⟨k + 1, v3, by go_num, by omega, h3, hb3⟩
        case measure => simp [intOf]; omega
      · obtain rfl : k = K := by omega
        by_cases h60 : n ≤ 60
        · have hkn : k = n := by have := hK.out; omega
          have hkn' : ¬ (k < n) := by omega
          replace hkn := Lib.hid hkn
          go_wp2_with fail
          go_meet
          exact ⟨v, rfl, h2, hb2⟩
        · have hkn : k = 60 := by have := hK.out; omega
          have hkn' : ¬ (k < 60) := by omega
          have hkn2 : k < n := by omega
          replace hkn := Lib.hid hkn
          go_wp2_with fail
          go_meet
          exact ⟨v, rfl, h2, hb2⟩
  case rest =>
    obtain ⟨v, rfl, h2, hb2⟩ := hcut
    clear h1 hb1
    by_cases h60 : n ≤ 60
    · have h3 := h2
      have hb3 := hb2
      clear h2 hb2
      go_upto_block 2 with (fail)
      go_wp2_with fail
      go_loopw [5] (fun u wr => ∃ (i : Nat) (v4 : Value), u = .int .i64 i ∧ i ≤ K ∧ Hid (Qu wr lo lo v4 (((asksOf F n).take K).drop i) 60) ∧ Hid (Below w.heap.size w wr)) (fun u _ => K - (intOf u).toNat)
      case atStart => exact ⟨0, _, rfl, Nat.zero_le _, h3, hb3⟩
      case round =>
        obtain ⟨i, v3, rfl, hi, h4, hb4⟩ := hrel
        clear h3 hb3
        by_cases hlt : i < K
        · have hin : i < n := by omega
          obtain ⟨q, hq⟩ : ∃ q, askOf F i = q := ⟨_, rfl⟩
          have hq0 : (((asksOf F n).take K).drop i)[0]? = some q := by
            rw [List.getElem?_drop, List.getElem?_take, if_pos (by omega), Nat.add_zero, asksOf_at F hin, hq]
          have htk := qtake_some lo lo v3 _ 60 0 q hq0 wr h4.out
          rw [show ((((asksOf F n).take K).drop i).eraseIdx 0) = ((asksOf F n).take K).drop (i + 1) from by rw [List.eraseIdx_zero, List.tail_drop]] at htk
          have hlen : Hid ((((asksOf F n).take K).drop (i + 1)).length = K - 1 - i) := Lib.hid (by rw [List.length_drop, take_len F n hKn]; omega)
          have hwr1 : IntKind.i64.wrap ((K : Int) - 1) = (K : Int) - 1 := IntWalk.i64_in _ (by omega)
          have hwr2 : IntKind.i64.wrap ((K : Int) - 1 - i) = (K : Int) - 1 - i := IntWalk.i64_in _ (by omega)
          have hcast : (((K - 1 - i : Nat) : Int)) = (K : Int) - 1 - i := by omega
          unfold AskR.agg at htk
          replace htk := Lib.hid htk
          replace hq0 := Lib.hid hq0
          clear hwr1 hwr2 hcast
          go_wp2_with fail
          refine htk.out.mono ?_
          rintro e w4 ⟨rfl, v4, h4', -, hu⟩
          have hb4' := h4.out.from_ hu hb4.out hl
          have hbal := (Below.refl w4.heap.size w4).alloc (Nat.le_refl _) (.cells #[.int .i64 q.a, .int .i64 q.b, .int .i64 q.c, .int .i64 q.d, .int .i64 q.e, .int .i64 q.f] 28)
          have hn4 := heap_alloc_new w4 (.cells #[.int .i64 q.a, .int .i64 q.b, .int .i64 q.c, .int .i64 q.d, .int .i64 q.e, .int .i64 q.f] 28)
          have h5' := h4'.below hbal
          have hb5' := hb4'.trans (hbal.mono hb4'.size)
          have hN4w' : w4.heap.size < (w4.alloc (.cells #[.int .i64 q.a, .int .i64 q.b, .int .i64 q.c, .int .i64 q.d, .int .i64 q.e, .int .i64 q.f] 28)).heap.size := by simp
          clear hu h4 hb4 htk hbal
          replace hb4' := Lib.hid hb4'
          replace h4' := Lib.hid h4'
          replace h5' := Lib.hid h5'
          replace hb5' := Lib.hid hb5'
          replace hn4 := Lib.hid hn4
          replace hN4w' := Lib.hid hN4w'
          go_upto_region 13 with (fail)
          obtain ⟨w5, hw5⟩ : ∃ w5, w4.alloc (.cells #[.int .i64 q.a, .int .i64 q.b, .int .i64 q.c, .int .i64 q.d, .int .i64 q.e, .int .i64 q.f] 28) = w5 := ⟨_, rfl⟩
          rw [hw5] at h5' hb5' hn4 hN4w' ⊢
          obtain ⟨N4, hN4⟩ : ∃ N4, w4.heap.size = N4 := ⟨_, rfl⟩
          rw [hN4] at hn4 hN4w' ⊢
          replace hN4 := Lib.hid hN4
          replace hw5 := Lib.hid hw5
          obtain ⟨wd, hwd⟩ : ∃ wd, wd = w5.drew := ⟨_, rfl⟩
          have h5 : Hid (Qu wd lo lo v4 (((asksOf F n).take K).drop (i + 1)) 60) := Lib.hid (by rw [hwd]; exact h5'.out.drewN 1)
          have hb5 : Hid (Below w.heap.size w wd) := Lib.hid (by rw [hwd]; exact hb5'.out.drew)
          have hn5 : wd.heap[N4]? = some (.cells #[.int .i64 q.a, .int .i64 q.b, .int .i64 q.c, .int .i64 q.d, .int .i64 q.e, .int .i64 q.f] 28 (0, 0)) := by rw [hwd]; exact hn4.out
          have hN4w : N4 < wd.heap.size := by rw [hwd]; exact hN4w'.out
          have t0 := blk_cell (j := 0) hn5 rfl
          have t1 := blk_cell (j := 1) hn5 rfl
          have t2 := blk_cell (j := 2) hn5 rfl
          have t3 := blk_cell (j := 3) hn5 rfl
          have t4 := blk_cell (j := 4) hn5 rfl
          have t5 := blk_cell (j := 5) hn5 rfl
          obtain ⟨b, o, rfl, hbw0, c0, c1, c2, c3, c4, c5⟩ := ht.out.ask hb5.out hin
          rw [hq] at c0 c1 c2 c3 c4 c5
          have hbw : b < wd.heap.size := Nat.lt_of_lt_of_le hbw0 hb5.out.size
          have hwr1 : IntKind.i64.wrap ((K : Int) - 1) = (K : Int) - 1 := IntWalk.i64_in _ (by omega)
          have hwr2 : IntKind.i64.wrap ((K : Int) - 1 - i) = (K : Int) - 1 - i := IntWalk.i64_in _ (by omega)
          have hcast : (((K - 1 - i : Nat) : Int)) = (K : Int) - 1 - i := by omega
          clear hn5 h5' hb5' hn4 hN4w' hb4' h4'
          replace hq := Lib.hid hq
          refine wpR_region (Upd (fun _ => False)) 9999 (by kernel_rfl) ?_
          (rw [← hwd]; replace hwd := Lib.hid hwd)
          refine wpR_take (i := 0) (v := ?_) (Upd.road _) (some 48) rfl (by kernel_rfl) (by kernel_rfl) (by kernel_rfl) (by kernel_rfl) (by kernel_rfl) (fun _ _ _ h => h) (by kernel_rfl) (fun w' hw' => ?_) ?_
          rotate_left
          · go_simp; with_reducible rfl
          simp only [Act.put, List.setIfInBounds_toArray, List.set_cons_zero, List.set_cons_succ]
          refine wpR_take (i := 1) (v := ?_) (Upd.road _) (some 49) rfl (by kernel_rfl) (by kernel_rfl) (by kernel_rfl) (by kernel_rfl) (by kernel_rfl) (fun _ _ _ h => h) (by kernel_rfl) (fun w' hw' => ?_) ?_
          rotate_left
          · go_simp; with_reducible rfl
          simp only [Act.put, List.setIfInBounds_toArray, List.set_cons_zero, List.set_cons_succ]
          refine wpR_take (i := 2) (v := ?_) (Upd.road _) (some 50) rfl (by kernel_rfl) (by kernel_rfl) (by kernel_rfl) (by kernel_rfl) (by kernel_rfl) (fun _ _ _ h => h) (by kernel_rfl) (fun w' hw' => ?_) ?_
          rotate_left
          · go_simp; with_reducible rfl
          simp only [Act.put, List.setIfInBounds_toArray, List.set_cons_zero, List.set_cons_succ]
          refine wpR_take (i := 3) (v := ?_) (Upd.road _) (some 51) rfl (by kernel_rfl) (by kernel_rfl) (by kernel_rfl) (by kernel_rfl) (by kernel_rfl) (fun _ _ _ h => h) (by kernel_rfl) (fun w' hw' => ?_) ?_
          rotate_left
          · have tq0 := (hw'.cell (p := ⟨N4, 0, none⟩) hN4w (fun h => h)).trans t0; have tq1 := (hw'.cell (p := ⟨N4, 1, none⟩) hN4w (fun h => h)).trans t1; have tq2 := (hw'.cell (p := ⟨N4, 2, none⟩) hN4w (fun h => h)).trans t2; have tq3 := (hw'.cell (p := ⟨N4, 3, none⟩) hN4w (fun h => h)).trans t3; have tq4 := (hw'.cell (p := ⟨N4, 4, none⟩) hN4w (fun h => h)).trans t4; have tq5 := (hw'.cell (p := ⟨N4, 5, none⟩) hN4w (fun h => h)).trans t5; go_simp; with_reducible rfl
          simp only [Act.put, List.setIfInBounds_toArray, List.set_cons_zero, List.set_cons_succ]
          refine wpR_take (i := 4) (v := ?_) (Upd.road _) (some 52) rfl (by kernel_rfl) (by kernel_rfl) (by kernel_rfl) (by kernel_rfl) (by kernel_rfl) (fun _ _ _ h => h) (by kernel_rfl) (fun w' hw' => ?_) ?_
          rotate_left
          · go_simp; with_reducible rfl
          simp only [Act.put, List.setIfInBounds_toArray, List.set_cons_zero, List.set_cons_succ]
          refine wpR_take (i := 5) (v := ?_) (Upd.road _) (some 53) rfl (by kernel_rfl) (by kernel_rfl) (by kernel_rfl) (by kernel_rfl) (by kernel_rfl) (fun _ _ _ h => h) (by kernel_rfl) (fun w' hw' => ?_) ?_
          rotate_left
          · go_simp; with_reducible rfl
          simp only [Act.put, List.setIfInBounds_toArray, List.set_cons_zero, List.set_cons_succ]
          refine wpR_take (i := 6) (v := ?_) (Upd.road _) (some 54) rfl (by kernel_rfl) (by kernel_rfl) (by kernel_rfl) (by kernel_rfl) (by kernel_rfl) (fun _ _ _ h => h) (by kernel_rfl) (fun w' hw' => ?_) ?_
          rotate_left
          · go_simp; with_reducible rfl
          simp only [Act.put, List.setIfInBounds_toArray, List.set_cons_zero, List.set_cons_succ]
          refine wpR_take (i := 7) (v := ?_) (Upd.road _) (some 55) rfl (by kernel_rfl) (by kernel_rfl) (by kernel_rfl) (by kernel_rfl) (by kernel_rfl) (fun _ _ _ h => h) (by kernel_rfl) (fun w' hw' => ?_) ?_
          rotate_left
          · have cq0 := (hw'.cell (p := ⟨b, o + i * 6, none⟩) hbw (fun h => h)).trans c0; have cq1 := (hw'.cell (p := ⟨b, o + i * 6 + 1, none⟩) hbw (fun h => h)).trans c1; have cq2 := (hw'.cell (p := ⟨b, o + i * 6 + 2, none⟩) hbw (fun h => h)).trans c2; have cq3 := (hw'.cell (p := ⟨b, o + i * 6 + 3, none⟩) hbw (fun h => h)).trans c3; have cq4 := (hw'.cell (p := ⟨b, o + i * 6 + 4, none⟩) hbw (fun h => h)).trans c4; have cq5 := (hw'.cell (p := ⟨b, o + i * 6 + 5, none⟩) hbw (fun h => h)).trans c5; go_simp; with_reducible rfl
          simp only [Act.put, List.setIfInBounds_toArray, List.set_cons_zero, List.set_cons_succ]
          refine wpR_one 8 rfl (by kernel_rfl) (by kernel_rfl) (fun K hK => ?_)
          go_simp
          refine (same_self q _).mono ?_
          rintro e w6 ⟨rfl, hbb⟩
          refine hK _ _ (fun _ => Upd.of_below hbb) ?_
          clear hK K
          have hb6 := Lib.hid (hb5.out.trans (hbb.mono hb5.out.size))
          have h6 := Lib.hid (h5.out.below hbb)
          clear hbb
          try simp only [Act.put, List.setIfInBounds_toArray, List.set_cons_zero, List.set_cons_succ]
          refine wpR_take (i := 9) (v := ?_) (Upd.road _) (some 57) rfl (by kernel_rfl) (by kernel_rfl) (by kernel_rfl) (by kernel_rfl) (by kernel_rfl) (fun _ _ _ h => h) (by kernel_rfl) (fun w' hw' => ?_) ?_
          rotate_left
          · go_simp; with_reducible rfl
          simp only [Act.put, List.setIfInBounds_toArray, List.set_cons_zero, List.set_cons_succ]
          refine wpR_take (i := 10) (v := ?_) (Upd.road _) (some 58) rfl (by kernel_rfl) (by kernel_rfl) (by kernel_rfl) (by kernel_rfl) (by kernel_rfl) (fun _ _ _ h => h) (by kernel_rfl) (fun w' hw' => ?_) ?_
          rotate_left
          · go_simp; with_reducible rfl
          simp only [Act.put, List.setIfInBounds_toArray, List.set_cons_zero, List.set_cons_succ]
          refine wpR_take (i := 11) (v := ?_) (Upd.road _) (some 59) rfl (by kernel_rfl) (by kernel_rfl) (by kernel_rfl) (by kernel_rfl) (by kernel_rfl) (fun _ _ _ h => h) (by kernel_rfl) (fun w' hw' => ?_) ?_
          rotate_left
          · go_simp; with_reducible rfl
          simp only [Act.put, List.setIfInBounds_toArray, List.set_cons_zero, List.set_cons_succ]
          refine wpR_take (i := 12) (v := ?_) (Upd.road _) (some 60) rfl (by kernel_rfl) (by kernel_rfl) (by kernel_rfl) (by kernel_rfl) (by kernel_rfl) (fun _ _ _ h => h) (by kernel_rfl) (fun w' hw' => ?_) ?_
          rotate_left
          · go_simp; with_reducible rfl
          simp only [Act.put, List.setIfInBounds_toArray, List.set_cons_zero, List.set_cons_succ]
          refine wpR_take (i := 14) (v := ?_) (Upd.road _) (some 62) rfl (by kernel_rfl) (by kernel_rfl) (by kernel_rfl) (by kernel_rfl) (by kernel_rfl) (fun _ _ _ h => h) (by kernel_rfl) (fun w' hw' => ?_) ?_
          rotate_left
          · go_simp; with_reducible rfl
          simp only [Act.put, List.setIfInBounds_toArray, List.set_cons_zero, List.set_cons_succ]
          refine wpR_take (i := 15) (v := ?_) (Upd.road _) (some 63) rfl (by kernel_rfl) (by kernel_rfl) (by kernel_rfl) (by kernel_rfl) (by kernel_rfl) (fun _ _ _ h => h) (by kernel_rfl) (fun w' hw' => ?_) ?_
          rotate_left
          · go_simp; with_reducible rfl
          simp only [Act.put, List.setIfInBounds_toArray, List.set_cons_zero, List.set_cons_succ]
          refine wpR_take (i := 16) (v := ?_) (Upd.road _) (some 64) rfl (by kernel_rfl) (by kernel_rfl) (by kernel_rfl) (by kernel_rfl) (by kernel_rfl) (fun _ _ _ h => h) (by kernel_rfl) (fun w' hw' => ?_) ?_
          rotate_left
          · go_simp; with_reducible rfl
          simp only [Act.put, List.setIfInBounds_toArray, List.set_cons_zero, List.set_cons_succ]
          refine wpR_take (i := 17) (v := ?_) (Upd.road _) (some 65) rfl (by kernel_rfl) (by kernel_rfl) (by kernel_rfl) (by kernel_rfl) (by kernel_rfl) (fun _ _ _ h => h) (by kernel_rfl) (fun w' hw' => ?_) ?_
          rotate_left
          · go_simp; with_reducible rfl
          simp only [Act.put, List.setIfInBounds_toArray, List.set_cons_zero, List.set_cons_succ]
          refine wpR_one 13 rfl (by kernel_rfl) (by kernel_rfl) (fun K hK => ?_)
          go_simp
          refine (qlen_any lo lo v4 _ 60 _ h6.out).mono ?_
          rw [hlen.out]
          rintro e w7 ⟨rfl, rfl⟩
          refine hK _ _ (fun _ => Upd.refl _ _) ?_
          clear hK K
          try simp only [Act.put, List.setIfInBounds_toArray, List.set_cons_zero, List.set_cons_succ]
          refine wpR_take (i := 18) (v := ?_) (Upd.road _) (some 66) rfl (by kernel_rfl) (by kernel_rfl) (by kernel_rfl) (by kernel_rfl) (by kernel_rfl) (fun _ _ _ h => h) (by kernel_rfl) (fun w' hw' => ?_) ?_
          rotate_left
          · go_simp; with_reducible rfl
          simp only [Act.put, List.setIfInBounds_toArray, List.set_cons_zero, List.set_cons_succ]
          refine wpR_take (i := 19) (v := ?_) (Upd.road _) (some 67) rfl (by kernel_rfl) (by kernel_rfl) (by kernel_rfl) (by kernel_rfl) (by kernel_rfl) (fun _ _ _ h => h) (by kernel_rfl) (fun w' hw' => ?_) ?_
          rotate_left
          · go_simp; with_reducible rfl
          simp only [Act.put, List.setIfInBounds_toArray, List.set_cons_zero, List.set_cons_succ]
          refine wpR_done (by kernel_rfl) ?_ _
          clear hwr1 hwr2 hcast
          go_wp2_with fail
          go_roundw
          case rel => exact ⟨i + 1, v4, by go_num, by omega, h6, hb6⟩
          case measure => simp [intOf]; omega
        · obtain rfl : i = K := by omega
          have hnil : (((asksOf F n).take i).drop i) = [] := List.drop_eq_nil_of_le (by rw [take_len F n hKn]; exact Nat.le_refl _)
          rw [hnil] at h4
          replace hnil := Lib.hid hnil
          go_wp2_with fail
          refine (qtake_none lo lo v3 [] 60 0 (.inr (by decide)) wr h4.out).mono ?_
          unfold AskR.agg ask0
          rintro e w4 ⟨rfl, hbb⟩
          have hb5 := (hb4.out.trans (hbb.mono hb4.out.size))
          have h5 := h4.out.below hbb
          have hbal := (Below.refl w4.heap.size w4).alloc (Nat.le_refl _) (.cells #[.int .i64 0, .int .i64 0, .int .i64 0, .int .i64 0, .int .i64 0, .int .i64 0] 28)
          have hb6 := Lib.hid (hb5.trans (hbal.mono hb5.size))
          have h6 := Lib.hid (h5.below hbal)
          clear hbb hb5 h5 hbal h4 hb4
          go_wp2_with fail
          refine (awake15_any _).mono ?_
          rintro e w7 ⟨rfl, hbb⟩
          have hb7 := Lib.hid (hb6.out.trans (hbb.mono hb6.out.size))
          have h7 := Lib.hid (h6.out.below hbb)
          clear hbb hb6 h6
          go_wp2_with fail
          refine (qall_any lo lo v3 [] 60 _ h7.out).mono ?_
          rintro e w8 ⟨v8, rfl, hr8, hbb⟩
          have hb8 := Lib.hid (hb7.out.trans (hbb.mono hb7.out.size))
          obtain ⟨A8, c8, rfl, -, -⟩ := row_form hr8
          clear hbb hr8
          go_wp2
          go_ret
          exact ⟨rfl, hb8.out⟩
    · have hK' : K = 60 := by have := hK.out; omega
      have hn60 : 60 < n := by omega
      obtain ⟨b0, o0, hA0, -, c0, c1, c2, c3, c4, c5⟩ := ht.out.ask hb2.out hn60
      subst hA0
      have hpu := qpush_full lo lo v _ 60 (askOf F 60) (by rw [take_len F n hKn]; omega) wc h2.out
      unfold AskR.agg askOf at hpu
      replace hpu := Lib.hid hpu
      replace hK' := Lib.hid hK'
      go_upto_if 37 with (refine hpu.out.mono ?_; rintro e w3 ⟨rfl, hbb⟩; have h3 := Lib.hid (h2.out.below hbb); have hb3 := Lib.hid (hb2.out.trans (hbb.mono hb2.out.size)); clear hbb h2 hb2 hpu c0 c1 c2 c3 c4 c5)
      go_upto_block 2 with (fail)
      go_wp2_with fail
      go_loopw [5] (fun u wr => ∃ (i : Nat) (v4 : Value), u = .int .i64 i ∧ i ≤ K ∧ Hid (Qu wr lo lo v4 (((asksOf F n).take K).drop i) 60) ∧ Hid (Below w.heap.size w wr)) (fun u _ => K - (intOf u).toNat)
      case atStart => exact ⟨0, _, rfl, Nat.zero_le _, h3, hb3⟩
      case round =>
        obtain ⟨i, v3, rfl, hi, h4, hb4⟩ := hrel
        clear h3 hb3
        by_cases hlt : i < K
        · have hin : i < n := by omega
          obtain ⟨q, hq⟩ : ∃ q, askOf F i = q := ⟨_, rfl⟩
          have hq0 : (((asksOf F n).take K).drop i)[0]? = some q := by
            rw [List.getElem?_drop, List.getElem?_take, if_pos (by omega), Nat.add_zero, asksOf_at F hin, hq]
          have htk := qtake_some lo lo v3 _ 60 0 q hq0 wr h4.out
          rw [show ((((asksOf F n).take K).drop i).eraseIdx 0) = ((asksOf F n).take K).drop (i + 1) from by rw [List.eraseIdx_zero, List.tail_drop]] at htk
          have hlen : Hid ((((asksOf F n).take K).drop (i + 1)).length = K - 1 - i) := Lib.hid (by rw [List.length_drop, take_len F n hKn]; omega)
          have hwr1 : IntKind.i64.wrap ((K : Int) - 1) = (K : Int) - 1 := IntWalk.i64_in _ (by omega)
          have hwr2 : IntKind.i64.wrap ((K : Int) - 1 - i) = (K : Int) - 1 - i := IntWalk.i64_in _ (by omega)
          have hcast : (((K - 1 - i : Nat) : Int)) = (K : Int) - 1 - i := by omega
          unfold AskR.agg at htk
          replace htk := Lib.hid htk
          replace hq0 := Lib.hid hq0
          clear hwr1 hwr2 hcast
          go_wp2_with fail
          refine htk.out.mono ?_
          rintro e w4 ⟨rfl, v4, h4', -, hu⟩
          have hb4' := h4.out.from_ hu hb4.out hl
          have hbal := (Below.refl w4.heap.size w4).alloc (Nat.le_refl _) (.cells #[.int .i64 q.a, .int .i64 q.b, .int .i64 q.c, .int .i64 q.d, .int .i64 q.e, .int .i64 q.f] 28)
          have hn4 := heap_alloc_new w4 (.cells #[.int .i64 q.a, .int .i64 q.b, .int .i64 q.c, .int .i64 q.d, .int .i64 q.e, .int .i64 q.f] 28)
          have h5' := h4'.below hbal
          have hb5' := hb4'.trans (hbal.mono hb4'.size)
          have hN4w' : w4.heap.size < (w4.alloc (.cells #[.int .i64 q.a, .int .i64 q.b, .int .i64 q.c, .int .i64 q.d, .int .i64 q.e, .int .i64 q.f] 28)).heap.size := by simp
          clear hu h4 hb4 htk hbal
          replace hb4' := Lib.hid hb4'
          replace h4' := Lib.hid h4'
          replace h5' := Lib.hid h5'
          replace hb5' := Lib.hid hb5'
          replace hn4 := Lib.hid hn4
          replace hN4w' := Lib.hid hN4w'
          go_upto_region 13 with (fail)
          obtain ⟨w5, hw5⟩ : ∃ w5, w4.alloc (.cells #[.int .i64 q.a, .int .i64 q.b, .int .i64 q.c, .int .i64 q.d, .int .i64 q.e, .int .i64 q.f] 28) = w5 := ⟨_, rfl⟩
          rw [hw5] at h5' hb5' hn4 hN4w' ⊢
          obtain ⟨N4, hN4⟩ : ∃ N4, w4.heap.size = N4 := ⟨_, rfl⟩
          rw [hN4] at hn4 hN4w' ⊢
          replace hN4 := Lib.hid hN4
          replace hw5 := Lib.hid hw5
          obtain ⟨wd, hwd⟩ : ∃ wd, wd = w5.drew := ⟨_, rfl⟩
          have h5 : Hid (Qu wd lo lo v4 (((asksOf F n).take K).drop (i + 1)) 60) := Lib.hid (by rw [hwd]; exact h5'.out.drewN 1)
          have hb5 : Hid (Below w.heap.size w wd) := Lib.hid (by rw [hwd]; exact hb5'.out.drew)
          have hn5 : wd.heap[N4]? = some (.cells #[.int .i64 q.a, .int .i64 q.b, .int .i64 q.c, .int .i64 q.d, .int .i64 q.e, .int .i64 q.f] 28 (0, 0)) := by rw [hwd]; exact hn4.out
          have hN4w : N4 < wd.heap.size := by rw [hwd]; exact hN4w'.out
          have t0 := blk_cell (j := 0) hn5 rfl
          have t1 := blk_cell (j := 1) hn5 rfl
          have t2 := blk_cell (j := 2) hn5 rfl
          have t3 := blk_cell (j := 3) hn5 rfl
          have t4 := blk_cell (j := 4) hn5 rfl
          have t5 := blk_cell (j := 5) hn5 rfl
          obtain ⟨b, o, hA, hbw0, c0, c1, c2, c3, c4, c5⟩ := ht.out.ask hb5.out hin
          injection hA with hA
          injection hA with e1 e2
          replace e1 := e1.symm
          replace e2 := e2.symm
          subst e1
          subst e2
          rw [hq] at c0 c1 c2 c3 c4 c5
          have hbw : b < wd.heap.size := Nat.lt_of_lt_of_le hbw0 hb5.out.size
          have hwr1 : IntKind.i64.wrap ((K : Int) - 1) = (K : Int) - 1 := IntWalk.i64_in _ (by omega)
          have hwr2 : IntKind.i64.wrap ((K : Int) - 1 - i) = (K : Int) - 1 - i := IntWalk.i64_in _ (by omega)
          have hcast : (((K - 1 - i : Nat) : Int)) = (K : Int) - 1 - i := by omega
          clear hn5 h5' hb5' hn4 hN4w' hb4' h4'
          replace hq := Lib.hid hq
          refine wpR_region (Upd (fun _ => False)) 9999 (by kernel_rfl) ?_
          (rw [← hwd]; replace hwd := Lib.hid hwd)
          refine wpR_take (i := 0) (v := ?_) (Upd.road _) (some 48) rfl (by kernel_rfl) (by kernel_rfl) (by kernel_rfl) (by kernel_rfl) (by kernel_rfl) (fun _ _ _ h => h) (by kernel_rfl) (fun w' hw' => ?_) ?_
          rotate_left
          · go_simp; with_reducible rfl
          simp only [Act.put, List.setIfInBounds_toArray, List.set_cons_zero, List.set_cons_succ]
          refine wpR_take (i := 1) (v := ?_) (Upd.road _) (some 49) rfl (by kernel_rfl) (by kernel_rfl) (by kernel_rfl) (by kernel_rfl) (by kernel_rfl) (fun _ _ _ h => h) (by kernel_rfl) (fun w' hw' => ?_) ?_
          rotate_left
          · go_simp; with_reducible rfl
          simp only [Act.put, List.setIfInBounds_toArray, List.set_cons_zero, List.set_cons_succ]
          refine wpR_take (i := 2) (v := ?_) (Upd.road _) (some 50) rfl (by kernel_rfl) (by kernel_rfl) (by kernel_rfl) (by kernel_rfl) (by kernel_rfl) (fun _ _ _ h => h) (by kernel_rfl) (fun w' hw' => ?_) ?_
          rotate_left
          · go_simp; with_reducible rfl
          simp only [Act.put, List.setIfInBounds_toArray, List.set_cons_zero, List.set_cons_succ]
          refine wpR_take (i := 3) (v := ?_) (Upd.road _) (some 51) rfl (by kernel_rfl) (by kernel_rfl) (by kernel_rfl) (by kernel_rfl) (by kernel_rfl) (fun _ _ _ h => h) (by kernel_rfl) (fun w' hw' => ?_) ?_
          rotate_left
          · have tq0 := (hw'.cell (p := ⟨N4, 0, none⟩) hN4w (fun h => h)).trans t0; have tq1 := (hw'.cell (p := ⟨N4, 1, none⟩) hN4w (fun h => h)).trans t1; have tq2 := (hw'.cell (p := ⟨N4, 2, none⟩) hN4w (fun h => h)).trans t2; have tq3 := (hw'.cell (p := ⟨N4, 3, none⟩) hN4w (fun h => h)).trans t3; have tq4 := (hw'.cell (p := ⟨N4, 4, none⟩) hN4w (fun h => h)).trans t4; have tq5 := (hw'.cell (p := ⟨N4, 5, none⟩) hN4w (fun h => h)).trans t5; go_simp; with_reducible rfl
          simp only [Act.put, List.setIfInBounds_toArray, List.set_cons_zero, List.set_cons_succ]
          refine wpR_take (i := 4) (v := ?_) (Upd.road _) (some 52) rfl (by kernel_rfl) (by kernel_rfl) (by kernel_rfl) (by kernel_rfl) (by kernel_rfl) (fun _ _ _ h => h) (by kernel_rfl) (fun w' hw' => ?_) ?_
          rotate_left
          · go_simp; with_reducible rfl
          simp only [Act.put, List.setIfInBounds_toArray, List.set_cons_zero, List.set_cons_succ]
          refine wpR_take (i := 5) (v := ?_) (Upd.road _) (some 53) rfl (by kernel_rfl) (by kernel_rfl) (by kernel_rfl) (by kernel_rfl) (by kernel_rfl) (fun _ _ _ h => h) (by kernel_rfl) (fun w' hw' => ?_) ?_
          rotate_left
          · go_simp; with_reducible rfl
          simp only [Act.put, List.setIfInBounds_toArray, List.set_cons_zero, List.set_cons_succ]
          refine wpR_take (i := 6) (v := ?_) (Upd.road _) (some 54) rfl (by kernel_rfl) (by kernel_rfl) (by kernel_rfl) (by kernel_rfl) (by kernel_rfl) (fun _ _ _ h => h) (by kernel_rfl) (fun w' hw' => ?_) ?_
          rotate_left
          · go_simp; with_reducible rfl
          simp only [Act.put, List.setIfInBounds_toArray, List.set_cons_zero, List.set_cons_succ]
          refine wpR_take (i := 7) (v := ?_) (Upd.road _) (some 55) rfl (by kernel_rfl) (by kernel_rfl) (by kernel_rfl) (by kernel_rfl) (by kernel_rfl) (fun _ _ _ h => h) (by kernel_rfl) (fun w' hw' => ?_) ?_
          rotate_left
          · have cq0 := (hw'.cell (p := ⟨b, o + i * 6, none⟩) hbw (fun h => h)).trans c0; have cq1 := (hw'.cell (p := ⟨b, o + i * 6 + 1, none⟩) hbw (fun h => h)).trans c1; have cq2 := (hw'.cell (p := ⟨b, o + i * 6 + 2, none⟩) hbw (fun h => h)).trans c2; have cq3 := (hw'.cell (p := ⟨b, o + i * 6 + 3, none⟩) hbw (fun h => h)).trans c3; have cq4 := (hw'.cell (p := ⟨b, o + i * 6 + 4, none⟩) hbw (fun h => h)).trans c4; have cq5 := (hw'.cell (p := ⟨b, o + i * 6 + 5, none⟩) hbw (fun h => h)).trans c5; go_simp; with_reducible rfl
          simp only [Act.put, List.setIfInBounds_toArray, List.set_cons_zero, List.set_cons_succ]
          refine wpR_one 8 rfl (by kernel_rfl) (by kernel_rfl) (fun K hK => ?_)
          go_simp
          refine (same_self q _).mono ?_
          rintro e w6 ⟨rfl, hbb⟩
          refine hK _ _ (fun _ => Upd.of_below hbb) ?_
          clear hK K
          have hb6 := Lib.hid (hb5.out.trans (hbb.mono hb5.out.size))
          have h6 := Lib.hid (h5.out.below hbb)
          clear hbb
          try simp only [Act.put, List.setIfInBounds_toArray, List.set_cons_zero, List.set_cons_succ]
          refine wpR_take (i := 9) (v := ?_) (Upd.road _) (some 57) rfl (by kernel_rfl) (by kernel_rfl) (by kernel_rfl) (by kernel_rfl) (by kernel_rfl) (fun _ _ _ h => h) (by kernel_rfl) (fun w' hw' => ?_) ?_
          rotate_left
          · go_simp; with_reducible rfl
          simp only [Act.put, List.setIfInBounds_toArray, List.set_cons_zero, List.set_cons_succ]
          refine wpR_take (i := 10) (v := ?_) (Upd.road _) (some 58) rfl (by kernel_rfl) (by kernel_rfl) (by kernel_rfl) (by kernel_rfl) (by kernel_rfl) (fun _ _ _ h => h) (by kernel_rfl) (fun w' hw' => ?_) ?_
          rotate_left
          · go_simp; with_reducible rfl
          simp only [Act.put, List.setIfInBounds_toArray, List.set_cons_zero, List.set_cons_succ]
          refine wpR_take (i := 11) (v := ?_) (Upd.road _) (some 59) rfl (by kernel_rfl) (by kernel_rfl) (by kernel_rfl) (by kernel_rfl) (by kernel_rfl) (fun _ _ _ h => h) (by kernel_rfl) (fun w' hw' => ?_) ?_
          rotate_left
          · go_simp; with_reducible rfl
          simp only [Act.put, List.setIfInBounds_toArray, List.set_cons_zero, List.set_cons_succ]
          refine wpR_take (i := 12) (v := ?_) (Upd.road _) (some 60) rfl (by kernel_rfl) (by kernel_rfl) (by kernel_rfl) (by kernel_rfl) (by kernel_rfl) (fun _ _ _ h => h) (by kernel_rfl) (fun w' hw' => ?_) ?_
          rotate_left
          · go_simp; with_reducible rfl
          simp only [Act.put, List.setIfInBounds_toArray, List.set_cons_zero, List.set_cons_succ]
          refine wpR_take (i := 14) (v := ?_) (Upd.road _) (some 62) rfl (by kernel_rfl) (by kernel_rfl) (by kernel_rfl) (by kernel_rfl) (by kernel_rfl) (fun _ _ _ h => h) (by kernel_rfl) (fun w' hw' => ?_) ?_
          rotate_left
          · go_simp; with_reducible rfl
          simp only [Act.put, List.setIfInBounds_toArray, List.set_cons_zero, List.set_cons_succ]
          refine wpR_take (i := 15) (v := ?_) (Upd.road _) (some 63) rfl (by kernel_rfl) (by kernel_rfl) (by kernel_rfl) (by kernel_rfl) (by kernel_rfl) (fun _ _ _ h => h) (by kernel_rfl) (fun w' hw' => ?_) ?_
          rotate_left
          · go_simp; with_reducible rfl
          simp only [Act.put, List.setIfInBounds_toArray, List.set_cons_zero, List.set_cons_succ]
          refine wpR_take (i := 16) (v := ?_) (Upd.road _) (some 64) rfl (by kernel_rfl) (by kernel_rfl) (by kernel_rfl) (by kernel_rfl) (by kernel_rfl) (fun _ _ _ h => h) (by kernel_rfl) (fun w' hw' => ?_) ?_
          rotate_left
          · go_simp; with_reducible rfl
          simp only [Act.put, List.setIfInBounds_toArray, List.set_cons_zero, List.set_cons_succ]
          refine wpR_take (i := 17) (v := ?_) (Upd.road _) (some 65) rfl (by kernel_rfl) (by kernel_rfl) (by kernel_rfl) (by kernel_rfl) (by kernel_rfl) (fun _ _ _ h => h) (by kernel_rfl) (fun w' hw' => ?_) ?_
          rotate_left
          · go_simp; with_reducible rfl
          simp only [Act.put, List.setIfInBounds_toArray, List.set_cons_zero, List.set_cons_succ]
          refine wpR_one 13 rfl (by kernel_rfl) (by kernel_rfl) (fun K hK => ?_)
          go_simp
          refine (qlen_any lo lo v4 _ 60 _ h6.out).mono ?_
          rw [hlen.out]
          rintro e w7 ⟨rfl, rfl⟩
          refine hK _ _ (fun _ => Upd.refl _ _) ?_
          clear hK K
          try simp only [Act.put, List.setIfInBounds_toArray, List.set_cons_zero, List.set_cons_succ]
          refine wpR_take (i := 18) (v := ?_) (Upd.road _) (some 66) rfl (by kernel_rfl) (by kernel_rfl) (by kernel_rfl) (by kernel_rfl) (by kernel_rfl) (fun _ _ _ h => h) (by kernel_rfl) (fun w' hw' => ?_) ?_
          rotate_left
          · go_simp; with_reducible rfl
          simp only [Act.put, List.setIfInBounds_toArray, List.set_cons_zero, List.set_cons_succ]
          refine wpR_take (i := 19) (v := ?_) (Upd.road _) (some 67) rfl (by kernel_rfl) (by kernel_rfl) (by kernel_rfl) (by kernel_rfl) (by kernel_rfl) (fun _ _ _ h => h) (by kernel_rfl) (fun w' hw' => ?_) ?_
          rotate_left
          · go_simp; with_reducible rfl
          simp only [Act.put, List.setIfInBounds_toArray, List.set_cons_zero, List.set_cons_succ]
          refine wpR_done (by kernel_rfl) ?_ _
          clear hwr1 hwr2 hcast
          go_wp2_with fail
          go_roundw
          case rel => exact ⟨i + 1, v4, by go_num, by omega, h6, hb6⟩
          case measure => simp [intOf]; omega
        · obtain rfl : i = K := by omega
          have hnil : (((asksOf F n).take i).drop i) = [] := List.drop_eq_nil_of_le (by rw [take_len F n hKn]; exact Nat.le_refl _)
          rw [hnil] at h4
          replace hnil := Lib.hid hnil
          go_wp2_with fail
          refine (qtake_none lo lo v3 [] 60 0 (.inr (by decide)) wr h4.out).mono ?_
          unfold AskR.agg ask0
          rintro e w4 ⟨rfl, hbb⟩
          have hb5 := (hb4.out.trans (hbb.mono hb4.out.size))
          have h5 := h4.out.below hbb
          have hbal := (Below.refl w4.heap.size w4).alloc (Nat.le_refl _) (.cells #[.int .i64 0, .int .i64 0, .int .i64 0, .int .i64 0, .int .i64 0, .int .i64 0] 28)
          have hb6 := Lib.hid (hb5.trans (hbal.mono hb5.size))
          have h6 := Lib.hid (h5.below hbal)
          clear hbb hb5 h5 hbal h4 hb4
          go_wp2_with fail
          refine (awake15_any _).mono ?_
          rintro e w7 ⟨rfl, hbb⟩
          have hb7 := Lib.hid (hb6.out.trans (hbb.mono hb6.out.size))
          have h7 := Lib.hid (h6.out.below hbb)
          clear hbb hb6 h6
          go_wp2_with fail
          refine (qall_any lo lo v3 [] 60 _ h7.out).mono ?_
          rintro e w8 ⟨v8, rfl, hr8, hbb⟩
          have hb8 := Lib.hid (hb7.out.trans (hbb.mono hb7.out.size))
          obtain ⟨A8, c8, rfl, -, -⟩ := row_form hr8
          clear hbb hr8
          go_wp2
          go_ret
          exact ⟨rfl, hb8.out⟩
end Go.Proofs.Ytppclmidnomkjab
