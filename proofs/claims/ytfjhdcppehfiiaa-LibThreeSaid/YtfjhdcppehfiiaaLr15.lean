/- lib: LibThree. -/
import Derived.Test.YtfjhdcppehfiiaaLr14
namespace Go.Proofs.Ytfjhdcppehfiiaa
set_option linter.unusedVariables false
set_option linter.unusedSimpArgs false
open Go Go.RowKit
/-- where the moves stand: behind i of the two, b: one stood there -/
def Way (D : List Dr) (c p i : Nat) (b : Bool) : Prop := ∃ j d, HoldIs D c j d ∧ (b = true → d.pos = p) ∧ (b = false → i = 0 ∨ (i = 1 ∧ d.pos = p))
theorem Way.done {D : List Dr} {c p i : Nat} (h : Way D c p i false) : i < 2 := by
  obtain ⟨j, d, -, -, h⟩ := h
  rcases h rfl with h | ⟨h, -⟩ <;> omega
theorem way_go (lo g : Nat) (C : List Nat) (SS : List CS) (D : List Dr) (calls T : Nat) (w : World) (h : Hid (Li w lo g C SS D calls)) (hD : Hid (DOk C.length T D)) (hcl : calls ≤ 1000000) (c : Nat) (hc : c < C.length) (p : Nat) (hp : p ≤ 1024) (i : Nat) (hw : Way D c p i false) :
    Calls Try.prog 13 #[.pointer (some ⟨g, 0, none⟩), .int .i64 c, .int .i64 p] w fun e w' => ∃ b D', e = .returned (.tuple #[.bool b, .int .i64 0]) ∧ Hid (Li w' lo g C SS D' (calls + 1)) ∧ Hid (DOk C.length T D') ∧ Hid (TChg lo lts w w') ∧ Hid (Way D' c p (i + 1) b) := by
  obtain ⟨j, d, hj, -, h2⟩ := hw
  refine (go_more lo g C SS D calls T w h hD hcl c hc p hp j d hj).mono ?_
  rintro e w' ⟨D', d', rfl, h3, h4, h5, h6, h7⟩
  refine ⟨_, D', rfl, h3, h4, h5, Lib.hid ⟨j, d', h6, fun _ => h7, fun hf => ?_⟩⟩
  rcases h2 rfl with rfl | ⟨rfl, h9⟩
  · exact .inr ⟨rfl, h7⟩
  · rw [h9] at hf; simp at hf
theorem way_first (lo g : Nat) (C : List Nat) (SS : List CS) (D : List Dr) (calls T : Nat) (w : World) (h : Hid (Li w lo g C SS D calls)) (hD : Hid (DOk C.length T D)) (hcl : calls ≤ 1000000) (hw : workN D ≠ 0) (c : Nat) (hc : c < C.length) (p : Nat) (hp : p ≤ 1024) :
    Calls Try.prog 13 #[.pointer (some ⟨g, 0, none⟩), .int .i64 c, .int .i64 p] w fun e w' => ∃ b D', e = .returned (.tuple #[.bool b, .int .i64 0]) ∧ Hid (Li w' lo g C SS D' (calls + 1)) ∧ Hid (DOk C.length T D') ∧ Hid (TChg lo lts w w') ∧ Hid (Way D' c p 0 b) := by
  refine (go_step lo g C SS D calls T w h hD hcl hw c hc p hp).mono ?_
  rintro e w' ⟨b, D', j, d, rfl, h3, h4, h5, h6, h7⟩
  exact ⟨b, D', rfl, h3, h4, h5, Lib.hid ⟨j, d, h6, h7, fun _ => .inl rfl⟩⟩
theorem cart_li (lo g : Nat) (C : List Nat) (SS : List CS) (D : List Dr) (calls : Nat) (w : World) (h : Hid (Li w lo g C SS D calls)) (i b : Nat) (hb : C[i]? = some b) : Calls Try.prog 11 #[.pointer (some ⟨g, 0, none⟩), .int .i64 i] w fun e w' => e = .returned (.pointer (some ⟨b, 0, none⟩)) ∧ w' = w := by
  obtain ⟨vc, vd, hl⟩ := h.out.lb
  exact cart_yes lo g vc vd C D calls w (Lib.hid hl) i b hb
theorem clen_li (lo g : Nat) (C : List Nat) (SS : List CS) (D : List Dr) (calls : Nat) (w : World) (h : Hid (Li w lo g C SS D calls)) (i b : Nat) (hb : C[i]? = some b) (s : CS) (hs : SS[i]? = some s) : Calls Try.prog 12 #[.pointer (some ⟨b, 0, none⟩)] w fun e w' => e = .returned (.int .i64 s.recs.length) ∧ w' = w := by
  obtain ⟨l, hi, -, hct⟩ := h.out.ct i b s hb hs
  exact clen_any l hi b s w hct
theorem cread_li (lo g : Nat) (C : List Nat) (SS : List CS) (D : List Dr) (calls : Nat) (w : World) (h : Hid (Li w lo g C SS D calls)) (i b : Nat) (hb : C[i]? = some b) (s : CS) (hs : SS[i]? = some s) (p : Int) (hp : I64 p) : Calls Try.prog 14 #[.pointer (some ⟨b, 0, none⟩), .int .i64 p] w fun e w' => ∃ A c, e = .returned (.tuple #[.slice A (s.read p).1.length c, .int .i64 (s.read p).2]) ∧ Hid (OB w' w.heap.size (.slice A (s.read p).1.length c) (s.read p).1) ∧ Below w.heap.size w w' := by
  obtain ⟨l, hi, -, hct⟩ := h.out.ct i b s hb hs
  refine (cread_any l hi b s p hp w hct).mono ?_
  rintro e w' ⟨v, rfl, ho, hb'⟩
  obtain ⟨A, c, rfl, -⟩ := ho.form
  exact ⟨A, c, rfl, Lib.hid ho, hb'⟩
theorem work_li (lo g : Nat) (C : List Nat) (SS : List CS) (D : List Dr) (calls : Nat) (w : World) (h : Hid (Li w lo g C SS D calls)) : Calls Try.prog 9 #[.pointer (some ⟨g, 0, none⟩)] w fun e w' => e = .returned (.int .i64 (workN D)) ∧ w' = w := by
  obtain ⟨vc, vd, hl⟩ := h.out.lb
  exact working_any lo g vc vd C D calls w (Lib.hid hl)
theorem recs_li {lo g : Nat} {C : List Nat} {SS : List CS} {D : List Dr} {calls : Nat} {w : World} (h : Li w lo g C SS D calls) {i : Nat} (hi : i < C.length) : ∃ b s, C[i]? = some b ∧ SS[i]? = some s ∧ s.Ok := by
  obtain ⟨b, hb⟩ : ∃ b, C[i]? = some b := ⟨_, List.getElem?_eq_getElem hi⟩
  obtain ⟨s, hs⟩ : ∃ s, SS[i]? = some s := ⟨_, List.getElem?_eq_getElem (by rw [h.len]; exact hi)⟩
  obtain ⟨l, hi2, hl0, hct⟩ := h.ct i b s hb hs
  exact ⟨b, s, hb, hs, hct.ok⟩
theorem read_way (lo g : Nat) (C : List Nat) (SS : List CS) (D : List Dr) (calls T : Nat) (hT : T ≤ 900) (w : World) (h : Hid (Li w lo g C SS D calls)) (hD : Hid (DOk C.length T D)) (i : Nat) (s : CS) (hs : SS[i]? = some s) (p : Nat) (hp : p ≤ 1024) (q : Nat) (hw : Way D i p q true) :
    Calls Try.prog 15 #[.pointer (some ⟨g, 0, none⟩), .int .i64 i, .int .i64 p] w fun e w' => ∃ A c, e = .returned (.tuple #[.slice A (s.read p).1.length c, .int .i64 (s.read p).2]) ∧ Hid (Rd w' w'.heap.size A (s.read p).1) ∧ Hid (TChg lo lts w w') ∧ Hid (Calls Try.prog 15 #[.pointer (some ⟨g, 0, none⟩), .int .i64 i, .int .i64 p] w' fun e w2 => e = .returned (.tuple #[.slice none 0 0, .int .i64 8]) ∧ w2 = w') := by
  obtain ⟨j, d, hj, hdp, -⟩ := hw
  refine (read_step lo g C SS D calls T hT w h hD i s hs p hp j d hj (hdp rfl)).mono ?_
  rintro e w' ⟨v, D', d', rfl, ho, hl, hc, hj', hd'⟩
  obtain ⟨A, c, rfl, -, -, hr, -⟩ := ho.out.form
  exact ⟨A, c, rfl, Lib.hid hr, hc, Lib.hid (read_busy lo g C SS D' calls w' hl i (by rw [← h.out.len]; exact (List.getElem?_eq_some_iff.mp hs).1) p j d' hj' hd')⟩
set_option maxHeartbeats 8000000 in
set_option maxRecDepth 10000 in
theorem libThree_any (ca da : UInt8) (Q : List ActL) (v : Value) (xn xp : UInt8) (w : World) (hv : Hid (ActsL w.heap.size Q v w)) :
    Calls Try.prog 3 #[.int .u8 (U ca), .int .u8 (U da), v, .int .u8 (U xn), .int .u8 (U xp)] w fun e w' => e = .returned (.bool true) ∧ Below w.heap.size w w' := by
  have haft := Lib.hid (after_any ca da Q v w hv)
  obtain ⟨lo, hlo⟩ : ∃ lo, w.heap.size = lo := ⟨_, rfl⟩
  rw [hlo] at haft ⊢
  have haw : Hid (∀ x, Below lo w x → Calls Try.prog 10 #[] x fun e w' => e = .returned (.bool true) ∧ Below lo w w' ∧ Below x.heap.size x w') := Lib.hid (fun x hx => (awake08_any x).mono (fun e w' ⟨h1, h2⟩ => ⟨h1, hx.trans (h2.mono (by rw [← hlo]; exact hx.size)), h2⟩))
  have hlob : Hid (∀ x y, Below lo w x → Below x.heap.size x y → Below lo w y) := Lib.hid (fun x y h ht => h.trans (ht.mono (by rw [← hlo]; exact h.size)))
  have hloc : Hid (∀ x y, Below lo w x → TChg lo lts x y → Below lo w y) := Lib.hid (fun x y h ht => h.trans (ht.below (by rw [← hlo]; exact h.size)))
  replace hlo := Lib.hid hlo
  clear hv
  go_enter Try.func3, Try.ntmps3
  go_upto_region 2 with (go_at_call 7; go_must (refine haft.out.mono ?_); clear haft; rintro e w1 ⟨gl, gr, T, rfl, hT, hbt, hb1⟩)
  obtain ⟨C, SS, D, calls, C', SS', h1, h2, h3, -, -⟩ := hbt.out
  obtain ⟨hc32, hd4⟩ := lens_li h1
  obtain ⟨nC, hnC⟩ : ∃ n, C.length = n := ⟨_, rfl⟩
  obtain ⟨nW, hnW⟩ : ∃ n, workN D = n := ⟨_, rfl⟩
  have hD := Lib.hid h2
  have hl1 := Lib.hid h1
  have hgr1 := Lib.hid hb1
  have hca := Lib.hid (carts_li lo gl C SS D calls w1 hl1)
  have hwo := Lib.hid (work_li lo gl C SS D calls w1 hl1)
  rw [hnC] at hca hc32
  rw [hnW] at hwo
  have hw1 := Lib.hid (haw.out _ hgr1.out)
  replace hT := Lib.hid hT
  replace h3 := Lib.hid h3
  clear hbt h1 h2 hb1
  by_cases hz : nC = 0 ∨ nW = 0
  · have hzz : nC = 0 ∨ (nC ≠ 0 ∧ nW = 0) := by omega
    clear hz hnC hnW
    rcases hzz with rfl | ⟨hne, rfl⟩
    · go_wp2_with (first
        | (go_at_call 8; go_must (refine hca.out.mono ?_); rintro e w' ⟨rfl, hee⟩; rw [hee]; clear hee)
        | (go_at_call 10; go_must (refine hw1.out.mono ?_); clear hw1; rintro e w9 ⟨rfl, hb9, -⟩))
      go_ret
      exact ⟨rfl, hb9⟩
    · have hnb : ((nC : Int) == 0) = false := beq_false_of_ne (by omega)
      go_wp2_with (first
        | (go_at_call 8; go_must (refine hca.out.mono ?_); rintro e w' ⟨rfl, hee⟩; rw [hee]; clear hee)
        | (go_at_call 9; go_must (refine hwo.out.mono ?_); rintro e w' ⟨rfl, hee⟩; rw [hee]; clear hee)
        | (go_at_call 10; go_must (refine hw1.out.mono ?_); clear hw1; rintro e w9 ⟨rfl, hb9, -⟩))
      go_ret
      exact ⟨rfl, hb9⟩
  · have hnz : (nC : Int) ≠ 0 := by omega
    have hnb : ((nC : Int) == 0) = false := beq_false_of_ne (by omega)
    have hwb : ((nW : Int) == 0) = false := beq_false_of_ne (by omega)
    obtain ⟨c, hc⟩ : ∃ c, xn.toNat % nC = c := ⟨_, rfl⟩
    have hcn : c < nC := by rw [← hc]; exact Nat.mod_lt _ (by omega)
    have hmc : (U xn).tmod (nC : Int) = (c : Int) := by rw [← hc]; exact tmod_nat xn nC
    have hmw : IntKind.i64.wrap (c : Int) = (c : Int) := i64_wrap _ (by omega)
    have hwz : Hid (workN D ≠ 0) := Lib.hid (by rw [hnW]; omega)
    obtain ⟨b, s, hb, hs, hok⟩ := recs_li hl1.out (i := c) (by rw [hnC]; exact hcn)
    have hcC : Hid (c < C.length) := Lib.hid (by rw [hnC]; exact hcn)
    replace hnC := Lib.hid hnC
    replace hnW := Lib.hid hnW
    replace hc := Lib.hid hc
    obtain ⟨nR, hnR⟩ : ∃ n, s.recs.length = n := ⟨_, rfl⟩
    have hnR4 : nR ≤ 1024 := by rw [← hnR]; exact Nat.le_trans hok.recs hok.most
    obtain ⟨p, hp⟩ : ∃ p, xp.toNat % (nR + 1) = p := ⟨_, rfl⟩
    have hpn : p < nR + 1 := by rw [← hp]; exact Nat.mod_lt _ (by omega)
    have hmp : (U xp).tmod ((nR : Int) + 1) = (p : Int) := by rw [← hp]; exact tmod_nat xp (nR + 1)
    have hpw : IntKind.i64.wrap (p : Int) = (p : Int) := i64_wrap _ (by omega)
    have hp4 : p ≤ 1024 := by omega
    have hct := Lib.hid (cart_li lo gl C SS D calls w1 hl1 c b hb)
    have hln := Lib.hid (clen_li lo gl C SS D calls w1 hl1 c b hb s hs)
    rw [hnR] at hln
    have hgo := Lib.hid (way_first lo gl C SS D calls T w1 hl1 hD (by have := h3.out; have := hT.out; omega) hwz.out c hcC.out p hp4)
    have hr1 : (nR : Int) + 1 ≠ 0 := by omega
    replace hp := Lib.hid hp
    replace hnR := Lib.hid hnR
    replace hb := Lib.hid hb
    replace hs := Lib.hid hs
    clear hz
    go_upto_region 7 with (first
      | (go_at_call 8; go_must (refine hca.out.mono ?_); rintro e w' ⟨rfl, hee⟩; rw [hee]; clear hee)
      | (go_at_call 9; go_must (refine hwo.out.mono ?_); rintro e w' ⟨rfl, hee⟩; rw [hee]; clear hee)
      | (go_at_call 11; go_must (refine hct.out.mono ?_); rintro e w' ⟨rfl, hee⟩; rw [hee]; clear hee)
      | (go_at_call 12; go_must (refine hln.out.mono ?_); rintro e w' ⟨rfl, hee⟩; rw [hee]; clear hee)
      | (go_at_call 13; go_must (refine hgo.out.mono ?_); clear hgo; rintro e w2 ⟨b2, D2, rfl, hl2, hD2, t2, hy2⟩))
    have hgr2 := Lib.hid (hloc.out _ _ hgr1.out t2.out)
    clear hca hwo hct hln hw1 hmc hmw hmp hpw hl1 hgr1 t2 hD
    go_wp2_with fail
    go_loopw [14, 15, 16] (fun z1 z2 z3 wr => ∃ (bb : Bool) (i : Nat) (D2 : List Dr) (calls2 : Nat), i ≤ 2 ∧ z1 = .bool bb ∧ z2 = .int .i64 0 ∧ z3 = .int .i64 i ∧ Hid (calls2 ≤ 41 + i) ∧ Hid (Li wr lo gl C SS D2 calls2) ∧ Hid (DOk C.length T D2) ∧ Hid (Way D2 c p i bb) ∧ Hid (Below lo w wr)) (fun _ _ z _ => (2 - intOf z).toNat)
    case atStart => exact ⟨b2, 0, D2, calls + 1, Nat.zero_le _, rfl, rfl, rfl, Lib.hid (by have := h3.out; have := hT.out; omega), hl2, hD2, hy2, hgr2⟩
    case round =>
      clear hl2 hD2 hy2 hgr2 hwz
      obtain ⟨bb, i, D3, calls2, hi, rfl, rfl, rfl, hcl, hl, hD, hy, hgr⟩ := hrel
      by_cases hb0 : bb = false
      · subst hb0
        have hi2 := hy.out.done
        have ii : (i : Int) < 2 := by omega
        have hgo := Lib.hid (way_go lo gl C SS D3 calls2 T wr hl hD (by have := hcl.out; omega) c hcC.out p hp4 i hy.out)
        go_wp2_with (go_at_call 13; go_must (refine hgo.out.mono ?_); clear hgo; rintro e w3 ⟨b3, D4, rfl, hl3, hD3, t3, hy3⟩)
        go_roundw
        case rel => exact ⟨b3, i + 1, D4, calls2 + 1, by omega, rfl, rfl, by go_num, Lib.hid (by have := hcl.out; omega), hl3, hD3, hy3, Lib.hid (hloc.out _ _ hgr.out t3.out)⟩
        case measure => simp [intOf]; omega
      · obtain rfl : bb = true := by cases bb with | true => rfl | false => exact absurd rfl hb0
        clear hb0
        have hct := Lib.hid (cart_li lo gl C SS D3 calls2 wr hl c b hb.out)
        have hi64 : I64 (p : Int) := ⟨by omega, by omega⟩
        have hrd := Lib.hid (cread_li lo gl C SS D3 calls2 wr hl c b hb.out s hs.out p hi64)
        have hgo : Hid (∀ x, Below wr.heap.size wr x → Calls Try.prog 15 #[.pointer (some ⟨gl, 0, none⟩), .int .i64 c, .int .i64 p] x fun e w' => ∃ A k, e = .returned (.tuple #[.slice A (s.read p).1.length k, .int .i64 (s.read p).2]) ∧ Hid (Rd w' w'.heap.size A (s.read p).1) ∧ Hid (TChg lo lts x w') ∧ Hid (Calls Try.prog 15 #[.pointer (some ⟨gl, 0, none⟩), .int .i64 c, .int .i64 p] w' fun e w2 => e = .returned (.tuple #[.slice none 0 0, .int .i64 8]) ∧ w2 = w')) :=
          Lib.hid (fun x hx => read_way lo gl C SS D3 calls2 T (by have := hT.out; omega) x (Lib.hid (hl.out.gr hx)) hD c s hs.out p hp4 i hy.out)
        generalize s.read p = sr at hrd hgo
        obtain ⟨sb, se⟩ := sr
        simp only at hrd hgo
        obtain ⟨nb, hnb⟩ : ∃ n, sb.length = n := ⟨_, rfl⟩
        rw [hnb] at hrd hgo
        replace hnb := Lib.hid hnb
        clear hi64
        have hd2 : Hid (sb.length = nb) := hnb
        go_upto_region 8 with (fail)
        go_cut [61] (fun z wq => z = .bool false ∧ wr = wq)
        case first =>
          by_cases hi2 : i < 2
          · have ii : (i : Int) < 2 := by omega
            go_wp2_with fail
            go_meet
            exact ⟨by first | rfl | simp [*], rfl⟩
          · obtain rfl : i = 2 := by omega
            go_wp2_with fail
            go_meet
            exact ⟨by first | rfl | simp [*], rfl⟩
        case rest =>
          obtain ⟨rfl, rfl⟩ := hcut
          go_upto_region 14 with (first
            | (go_at_call 11; go_must (refine hct.out.mono ?_); rintro e w' ⟨rfl, hee⟩; rw [hee]; clear hee)
            | (go_at_call 14; go_must (refine hrd.out.mono ?_); clear hrd; rintro e w4 ⟨A4, c4, rfl, ho4, hb4⟩))
          have hg5 := Lib.hid (hgo.out _ hb4)
          clear hgo hct
          go_upto_region 15 with (go_at_call 15; go_must (refine hg5.out.mono ?_); clear hg5; rintro e w5 ⟨A5, c5, rfl, hr5, t5, hbusy⟩)
          have ho5 := Lib.hid (row_tchg ho4.out t5.out (by decide))
          have hgr5 := Lib.hid (hloc.out _ _ (hlob.out _ _ hgr.out hb4) t5.out)
          have haw5 := Lib.hid (haw.out _ hgr5.out)
          clear ho4 hb4 t5 hgr hl
          go_upto_region 16 with (go_at_call 15; go_must (refine hbusy.out.mono ?_); rintro e w' ⟨rfl, hee⟩; rw [hee]; clear hee hbusy)
          have hcv : Hid (∀ x, Below w5.heap.size w5 x → (convert 32 9 (.slice A4 nb c4)).run Try.prog x = .ok (.string (bs sb)) x ∧ (convert 32 9 (.slice A5 nb c5)).run Try.prog x = .ok (.string (bs sb)) x) := Lib.hid (fun x hx => by
            have ho' : OB w5 wr.heap.size (.slice A4 nb c4) sb := ho5.out
            obtain ⟨A', c', hv', -, -, hrB, -⟩ := ho'.form
            rw [hnb.out] at hv'
            injection hv' with e1 e2 e3
            subst e1 e3
            exact ⟨run_str_at c4 (hrB.up hx) hnb.out, run_str_at c5 (hr5.out.up hx) hnb.out⟩)
          go_wp2_with (go_at_call 10; go_must (refine haw5.out.mono ?_); clear haw5; rintro e w9 ⟨rfl, hb9, hb59⟩; obtain ⟨hc1, hc2⟩ := hcv.out _ hb59)
          go_ret
          exact ⟨rfl, hb9⟩
end Go.Proofs.Ytfjhdcppehfiiaa
