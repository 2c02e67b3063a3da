/- hold: HoldTrue. -/
import Derived.Test.YthhggojpmilmdaaHoT
namespace Go.Proofs.Ythhggojpmilmdaa
set_option linter.unusedVariables false
set_option linter.unusedSimpArgs false
open Go Go.RowKit
set_option maxHeartbeats 16000000 in
set_option maxRecDepth 10000 in
theorem holdTrue_any (qa : UInt8) (Q : List ActH) (v : Value) (w : World) (hv : Hid (ActsH Q v w)) :
    Calls Try.prog 4 #[.int .u8 (U qa), v] w fun e w' => e = .returned (.bool true) ∧ GrM w w' := by
  obtain ⟨Av, cv, rfl, -, -, -, -⟩ := hv.out
  obtain ⟨nq, hnq⟩ : ∃ nq, Q.length = nq := ⟨_, rfl⟩
  rw [hnq] at hv ⊢
  replace hnq := Lib.hid hnq
  obtain ⟨qn, hqn⟩ : ∃ qn, qa.toNat % 64 = qn := ⟨_, rfl⟩
  have hq64 : qn < 64 := by rw [← hqn]; exact Nat.mod_lt _ (by decide)
  have hmodq : (U qa).tmod 64 = (qn : Int) := by rw [← hqn]; exact tmod_nat qa 64
  replace hqn := Lib.hid hqn
  obtain ⟨lo, hlo⟩ : ∃ lo, w.heap.size = lo := ⟨_, rfl⟩
  have hnew := new17_any (qn : Int) w
  rw [hlo, show quotaOf (qn : Int) = qn from by unfold quotaOf; omega] at hnew
  replace hnew := Lib.hid hnew
  have hlog : Hid (∀ x, GrM w x → lo ≤ x.heap.size) := Lib.hid (fun x h => by rw [← hlo]; exact h.size)
  have hlob : Hid (∀ x y ts, GrM w x → TChg lo ts x y → GrM w y) := Lib.hid (fun x y ts h ht => fin17 h ht (Nat.le_of_eq hlo) (by rw [← hlo]; exact h.size))
  replace hlo := Lib.hid hlo
  have hw64 : IntKind.i64.wrap (qn : Int) = (qn : Int) := by rw [IntKind.wrap_i64]; omega
  go_enter Try.func4, Try.ntmps4
  go_upto_region 2 with (go_at_call 8; go_must (refine hnew.out.mono ?_); rintro e w1 ⟨g, r, rfl, hm1, hg1⟩)
  replace hg1 := Lib.hid hg1
  clear hnew
  go_wp2_with fail
  go_loopw [6] (fun z wr => ∃ (i : Nat) (L : List Nd), i ≤ 40 ∧ z = .int .i64 i ∧ Hid (L.length ≤ i) ∧ Hid (Fresh Q L i) ∧ Hid (Hd wr lo g r qn L) ∧ Hid (GrM w wr)) (fun z _ => (40 - intOf z).toNat)
  case atStart => exact ⟨0, [], Nat.zero_le _, rfl, Lib.hid (Nat.le_refl _), Lib.hid (fun e h => by cases h), hm1, hg1⟩
  case round =>
    obtain ⟨i, L, hi40, rfl, hLl, hfr, hm, hgr⟩ := hrel
    clear hm1 hg1
    obtain ⟨d0, hd0⟩ : ∃ d0, d0 = (decide (i < nq) && decide (i < 40)) := ⟨_, rfl⟩
    go_upto_region 3 with (fail)
    go_cut [26] (fun z wq => z = .bool d0 ∧ wr = wq)
    case first =>
      by_cases p1 : i < nq
      · have ip1 : (i : Int) < (nq : Int) := by omega
        by_cases p2 : i < 40
        · have ip2 : (i : Int) < 40 := by omega
          rw [decide_eq_true p1, decide_eq_true p2] at hd0
          subst hd0
          go_wp2_with fail
          go_meet
          exact ⟨by first | rfl | simp [*], rfl⟩
        · have ip2 : decide ((i : Int) < 40) = false := decide_eq_false (by omega)
          rw [decide_eq_true p1, decide_eq_false p2] at hd0
          subst hd0
          clear p2
          go_wp2_with fail
          go_meet
          exact ⟨by first | rfl | simp [*], rfl⟩
      · have ip1 : decide ((i : Int) < (nq : Int)) = false := decide_eq_false (by omega)
        have ip1n : decide (i < nq) = false := decide_eq_false p1
        rw [decide_eq_false p1, Bool.false_and] at hd0
        subst hd0
        clear p1
        go_wp2_with fail
        go_meet
        exact ⟨by first | rfl | simp [*], rfl⟩
    case rest =>
      obtain ⟨rfl, rfl⟩ := hcut
      cases d0 with
      | true =>
        have hkk : i < nq ∧ i < 40 := by
          have := hd0.symm
          simp only [Bool.and_eq_true, decide_eq_true_eq] at this
          exact this
        obtain ⟨p1, p2⟩ := hkk
        replace hd0 := Lib.hid hd0
        have ik : (i : Int) < (nq : Int) := by omega
        obtain ⟨A', c', e', -, -, h3, h4⟩ := hv.out
        rw [hnq.out] at e' h3
        injection e' with e1 _ e2
        subst e1 e2
        obtain ⟨ba, oa, rfl, hba, hca⟩ := h3 (by omega)
        have hact : Hid (∀ w' m q, GrM w w' → Q[m]? = some q → w'.cell? ⟨ba, oa + m * 3 + 1, none⟩ = some (.string (bs q.k)) ∧ w'.cell? ⟨ba, oa + m * 3 + 2, none⟩ = some (.slice q.A q.l.length q.c) ∧ Hid (BytH lo q.l q.A w')) := Lib.hid (fun w' m q hg hq => by
          obtain ⟨a0, a1, a2⟩ := hca m q hq
          have hr0 := (h4 q (List.mem_of_getElem? hq)).2.2
          refine ⟨(Below.cell hg (p := ⟨ba, oa + m * 3 + 1, none⟩) hba).trans a1, (Below.cell hg (p := ⟨ba, oa + m * 3 + 2, none⟩) hba).trans a2, Lib.hid ⟨(hr0.below hg).more hg.size, fun ad ha hn => .inl ?_⟩⟩
          obtain ⟨ad', ha', hb', -⟩ := hr0.2 hn
          rw [ha] at ha'
          injection ha' with ha'
          subst ha'
          rw [← hlo.out]
          exact hb')
        obtain ⟨q, hq⟩ : ∃ q, Q[i]? = some q := ⟨_, List.getElem?_eq_getElem (by rw [hnq.out]; exact p1)⟩
        have hqk := (h4 q (List.mem_of_getElem? hq)).1
        obtain ⟨c1, c2, -⟩ := hact.out wr i q hgr.out hq
        obtain ⟨mq, hmq⟩ : ∃ mq, q.l.length = mq := ⟨_, rfl⟩
        rw [hmq] at c2
        replace hmq := Lib.hid hmq
        replace hq := Lib.hid hq
        clear h3 h4 hca
        by_cases hbig : 1000 < mq
        · have ib : (1000 : Int) < (mq : Int) := by omega
          have haw := Lib.hid (awake17_any wr)
          clear hbig
          go_wp2_with (go_at_call 21; go_must (refine haw.out.mono ?_); rintro e w9 ⟨rfl, hg9⟩; replace hg9 := Lib.hid hg9)
          go_ret
          exact ⟨rfl, GrM.trans hgr.out hg9.out⟩
        · have ib : decide ((1000 : Int) < (mq : Int)) = false := decide_eq_false (by omega)
          have ibn : decide (1000 < mq) = false := decide_eq_false hbig
          have hm1000 : mq ≤ 1000 := by omega
          clear hbig
          go_upto_region 7 with (fail)
          clear ib ibn
          obtain ⟨okv, hokv⟩ : ∃ okv, okv = decide (mq ≤ qn) := ⟨_, rfl⟩
          go_cut [7] (fun z wq => ∃ L', z = .bool okv ∧ Hid (Hd wq lo g r qn L') ∧ Hid (GrM w wq) ∧ Hid (Fresh Q L' (i + 1)) ∧ Hid (L'.length ≤ i + 1) ∧ Hid (okv = true → ∃ L0 e, L' = L0 ++ [e] ∧ e.2.1 = q.k))
          case first =>
            obtain ⟨wd, hwd⟩ : ∃ wd, wd = wr.drew := ⟨_, rfl⟩
            have hgd : GrM wr wd := by rw [hwd]; exact (Below.refl _ _).drew
            have hgwd : Hid (GrM w wd) := Lib.hid (hgr.out.trans hgd)
            have hmd := Hd.gr hgd hm
            obtain ⟨y1, y2, hby⟩ := hact.out wd i q hgwd.out hq.out
            rw [hmq.out] at y2
            clear c1 c2 hgd
            by_cases hle : mq ≤ qn
            · have hput := Lib.hid (put17_yes lo g r qn L q.k q.l q.A mq q.c hmq hle wd (Lib.hid (hlog.out _ hgwd.out)) hmd hby)
              rw [decide_eq_true hle] at hokv
              subst hokv
              refine wpR_region (Eq) 11 (by kernel_rfl) ?_
              (rw [← hwd]; replace hwd := Lib.hid hwd)
              refine wpR_take (i := 0) (v := ?_) (⟨fun _ => rfl, Eq.trans⟩) (some 37) rfl (by kernel_rfl) (by kernel_rfl) (by kernel_rfl) (by kernel_rfl) (by kernel_rfl) (fun _ _ _ h => h) (by kernel_rfl) (fun w' hw' => ?_) ?_
              rotate_left
              · go_simp; with_reducible rfl
              simp only [Act.put, List.setIfInBounds_toArray, List.set_cons_zero, List.set_cons_succ]
              refine wpR_takeU (i := 1) (v := ?_) (⟨fun _ => rfl, Eq.trans⟩) (some 38) rfl (by kernel_rfl) (by kernel_rfl) (by kernel_rfl) (by kernel_rfl) (fun _ _ _ h => h) (by kernel_rfl) (fun w' => ?_) ?_
              rotate_left
              · go_simp; with_reducible rfl
              simp only [Act.put, List.setIfInBounds_toArray, List.set_cons_zero, List.set_cons_succ]
              refine wpR_takeU (i := 2) (v := ?_) (⟨fun _ => rfl, Eq.trans⟩) (some 39) rfl (by kernel_rfl) (by kernel_rfl) (by kernel_rfl) (by kernel_rfl) (fun _ _ _ h => h) (by kernel_rfl) (fun w' => ?_) ?_
              rotate_left
              · go_simp; with_reducible rfl
              simp only [Act.put, List.setIfInBounds_toArray, List.set_cons_zero, List.set_cons_succ]
              refine wpR_takeU (i := 3) (v := ?_) (⟨fun _ => rfl, Eq.trans⟩) (some 40) rfl (by kernel_rfl) (by kernel_rfl) (by kernel_rfl) (by kernel_rfl) (fun _ _ _ h => h) (by kernel_rfl) (fun w' => ?_) ?_
              rotate_left
              · go_simp; with_reducible rfl
              simp only [Act.put, List.setIfInBounds_toArray, List.set_cons_zero, List.set_cons_succ]
              refine wpR_takeU (i := 4) (v := ?_) (⟨fun _ => rfl, Eq.trans⟩) (some 41) rfl (by kernel_rfl) (by kernel_rfl) (by kernel_rfl) (by kernel_rfl) (fun _ _ _ h => h) (by kernel_rfl) (fun w' => ?_) ?_
              rotate_left
              · go_simp; with_reducible rfl
              simp only [Act.put, List.setIfInBounds_toArray, List.set_cons_zero, List.set_cons_succ]
              refine wpR_take (i := 5) (v := ?_) (⟨fun _ => rfl, Eq.trans⟩) (some 42) rfl (by kernel_rfl) (by kernel_rfl) (by kernel_rfl) (by kernel_rfl) (by kernel_rfl) (fun _ _ _ h => h) (by kernel_rfl) (fun w' hw' => ?_) ?_
              rotate_left
              · subst hw'; go_simp; with_reducible rfl
              simp only [Act.put, List.setIfInBounds_toArray, List.set_cons_zero, List.set_cons_succ]
              refine wpR_takeU (i := 6) (v := ?_) (⟨fun _ => rfl, Eq.trans⟩) (some 43) rfl (by kernel_rfl) (by kernel_rfl) (by kernel_rfl) (by kernel_rfl) (fun _ _ _ h => h) (by kernel_rfl) (fun w' => ?_) ?_
              rotate_left
              · go_simp; with_reducible rfl
              simp only [Act.put, List.setIfInBounds_toArray, List.set_cons_zero, List.set_cons_succ]
              refine wpR_takeU (i := 7) (v := ?_) (⟨fun _ => rfl, Eq.trans⟩) (some 44) rfl (by kernel_rfl) (by kernel_rfl) (by kernel_rfl) (by kernel_rfl) (fun _ _ _ h => h) (by kernel_rfl) (fun w' => ?_) ?_
              rotate_left
              · go_simp; with_reducible rfl
              simp only [Act.put, List.setIfInBounds_toArray, List.set_cons_zero, List.set_cons_succ]
              refine wpR_takeU (i := 8) (v := ?_) (⟨fun _ => rfl, Eq.trans⟩) (some 45) rfl (by kernel_rfl) (by kernel_rfl) (by kernel_rfl) (by kernel_rfl) (fun _ _ _ h => h) (by kernel_rfl) (fun w' => ?_) ?_
              rotate_left
              · go_simp; with_reducible rfl
              simp only [Act.put, List.setIfInBounds_toArray, List.set_cons_zero, List.set_cons_succ]
              refine wpR_takeU (i := 9) (v := ?_) (⟨fun _ => rfl, Eq.trans⟩) (some 46) rfl (by kernel_rfl) (by kernel_rfl) (by kernel_rfl) (by kernel_rfl) (fun _ _ _ h => h) (by kernel_rfl) (fun w' => ?_) ?_
              rotate_left
              · go_simp; with_reducible rfl
              simp only [Act.put, List.setIfInBounds_toArray, List.set_cons_zero, List.set_cons_succ]
              refine wpR_take (i := 10) (v := ?_) (⟨fun _ => rfl, Eq.trans⟩) (some 47) rfl (by kernel_rfl) (by kernel_rfl) (by kernel_rfl) (by kernel_rfl) (by kernel_rfl) (fun _ _ _ h => h) (by kernel_rfl) (fun w' hw' => ?_) ?_
              rotate_left
              · subst hw'; go_simp; with_reducible rfl
              simp only [Act.put, List.setIfInBounds_toArray, List.set_cons_zero, List.set_cons_succ]
              refine wpR_one 11 rfl (by kernel_rfl) (by kernel_rfl) (fun K hK => ?_)
              go_simp
              refine hput.out.mono ?_
              rintro en w5 ⟨rfl, ⟨p, vn, -, hm5, -⟩, ht5⟩
              refine hK _ _ (fun h => absurd h (by decide)) ?_
              clear hK K
              try simp only [Act.put, List.setIfInBounds_toArray, List.set_cons_zero, List.set_cons_succ]
              refine wpR_take (i := 12) (v := ?_) (⟨fun _ => rfl, Eq.trans⟩) (some 7) rfl (by kernel_rfl) (by kernel_rfl) (by kernel_rfl) (by kernel_rfl) (by kernel_rfl) (fun _ _ _ h => h) (by kernel_rfl) (fun w' hw' => ?_) ?_
              rotate_left
              · go_simp; with_reducible rfl
              simp only [Act.put, List.setIfInBounds_toArray, List.set_cons_zero, List.set_cons_succ]
              refine wpR_done (by kernel_rfl) ?_ _
              go_wp2_with fail
              go_meet
              refine ⟨_, by first | rfl | simp [*], hm5, Lib.hid (hlob.out _ _ _ hgwd.out ht5), Lib.hid (fresh_add (fresh_sub (fresh_drop hfr.out hq.out) (fun e he => (trim_suffix _ _ _).subset he)) hq.out p vn), Lib.hid ?_, Lib.hid (fun _ => ⟨_, _, rfl, rfl⟩)⟩
              rw [List.length_append]
              have h1 := trim_len qn mq (dropN L q.k)
              have h2 := drop_len L q.k
              have h3 := hLl.out
              simp
              omega
            · have hput := Lib.hid (put17_no lo g r qn L q.k q.l q.A mq q.c hmq.out (by omega) wd hmd)
              rw [decide_eq_false hle] at hokv
              subst hokv
              refine wpR_region (Eq) 11 (by kernel_rfl) ?_
              (rw [← hwd]; replace hwd := Lib.hid hwd)
              refine wpR_take (i := 0) (v := ?_) (⟨fun _ => rfl, Eq.trans⟩) (some 37) rfl (by kernel_rfl) (by kernel_rfl) (by kernel_rfl) (by kernel_rfl) (by kernel_rfl) (fun _ _ _ h => h) (by kernel_rfl) (fun w' hw' => ?_) ?_
              rotate_left
              · go_simp; with_reducible rfl
              simp only [Act.put, List.setIfInBounds_toArray, List.set_cons_zero, List.set_cons_succ]
              refine wpR_takeU (i := 1) (v := ?_) (⟨fun _ => rfl, Eq.trans⟩) (some 38) rfl (by kernel_rfl) (by kernel_rfl) (by kernel_rfl) (by kernel_rfl) (fun _ _ _ h => h) (by kernel_rfl) (fun w' => ?_) ?_
              rotate_left
              · go_simp; with_reducible rfl
              simp only [Act.put, List.setIfInBounds_toArray, List.set_cons_zero, List.set_cons_succ]
              refine wpR_takeU (i := 2) (v := ?_) (⟨fun _ => rfl, Eq.trans⟩) (some 39) rfl (by kernel_rfl) (by kernel_rfl) (by kernel_rfl) (by kernel_rfl) (fun _ _ _ h => h) (by kernel_rfl) (fun w' => ?_) ?_
              rotate_left
              · go_simp; with_reducible rfl
              simp only [Act.put, List.setIfInBounds_toArray, List.set_cons_zero, List.set_cons_succ]
              refine wpR_takeU (i := 3) (v := ?_) (⟨fun _ => rfl, Eq.trans⟩) (some 40) rfl (by kernel_rfl) (by kernel_rfl) (by kernel_rfl) (by kernel_rfl) (fun _ _ _ h => h) (by kernel_rfl) (fun w' => ?_) ?_
              rotate_left
              · go_simp; with_reducible rfl
              simp only [Act.put, List.setIfInBounds_toArray, List.set_cons_zero, List.set_cons_succ]
              refine wpR_takeU (i := 4) (v := ?_) (⟨fun _ => rfl, Eq.trans⟩) (some 41) rfl (by kernel_rfl) (by kernel_rfl) (by kernel_rfl) (by kernel_rfl) (fun _ _ _ h => h) (by kernel_rfl) (fun w' => ?_) ?_
              rotate_left
              · go_simp; with_reducible rfl
              simp only [Act.put, List.setIfInBounds_toArray, List.set_cons_zero, List.set_cons_succ]
              refine wpR_take (i := 5) (v := ?_) (⟨fun _ => rfl, Eq.trans⟩) (some 42) rfl (by kernel_rfl) (by kernel_rfl) (by kernel_rfl) (by kernel_rfl) (by kernel_rfl) (fun _ _ _ h => h) (by kernel_rfl) (fun w' hw' => ?_) ?_
              rotate_left
              · subst hw'; go_simp; with_reducible rfl
              simp only [Act.put, List.setIfInBounds_toArray, List.set_cons_zero, List.set_cons_succ]
              refine wpR_takeU (i := 6) (v := ?_) (⟨fun _ => rfl, Eq.trans⟩) (some 43) rfl (by kernel_rfl) (by kernel_rfl) (by kernel_rfl) (by kernel_rfl) (fun _ _ _ h => h) (by kernel_rfl) (fun w' => ?_) ?_
              rotate_left
              · go_simp; with_reducible rfl
              simp only [Act.put, List.setIfInBounds_toArray, List.set_cons_zero, List.set_cons_succ]
              refine wpR_takeU (i := 7) (v := ?_) (⟨fun _ => rfl, Eq.trans⟩) (some 44) rfl (by kernel_rfl) (by kernel_rfl) (by kernel_rfl) (by kernel_rfl) (fun _ _ _ h => h) (by kernel_rfl) (fun w' => ?_) ?_
              rotate_left
              · go_simp; with_reducible rfl
              simp only [Act.put, List.setIfInBounds_toArray, List.set_cons_zero, List.set_cons_succ]
              refine wpR_takeU (i := 8) (v := ?_) (⟨fun _ => rfl, Eq.trans⟩) (some 45) rfl (by kernel_rfl) (by kernel_rfl) (by kernel_rfl) (by kernel_rfl) (fun _ _ _ h => h) (by kernel_rfl) (fun w' => ?_) ?_
              rotate_left
              · go_simp; with_reducible rfl
              simp only [Act.put, List.setIfInBounds_toArray, List.set_cons_zero, List.set_cons_succ]
              refine wpR_takeU (i := 9) (v := ?_) (⟨fun _ => rfl, Eq.trans⟩) (some 46) rfl (by kernel_rfl) (by kernel_rfl) (by kernel_rfl) (by kernel_rfl) (fun _ _ _ h => h) (by kernel_rfl) (fun w' => ?_) ?_
              rotate_left
              · go_simp; with_reducible rfl
              simp only [Act.put, List.setIfInBounds_toArray, List.set_cons_zero, List.set_cons_succ]
              refine wpR_take (i := 10) (v := ?_) (⟨fun _ => rfl, Eq.trans⟩) (some 47) rfl (by kernel_rfl) (by kernel_rfl) (by kernel_rfl) (by kernel_rfl) (by kernel_rfl) (fun _ _ _ h => h) (by kernel_rfl) (fun w' hw' => ?_) ?_
              rotate_left
              · subst hw'; go_simp; with_reducible rfl
              simp only [Act.put, List.setIfInBounds_toArray, List.set_cons_zero, List.set_cons_succ]
              refine wpR_one 11 rfl (by kernel_rfl) (by kernel_rfl) (fun K hK => ?_)
              go_simp
              refine hput.out.mono ?_
              rintro en w5 ⟨rfl, hm5, ht5⟩
              refine hK _ _ (fun h => absurd h (by decide)) ?_
              clear hK K
              try simp only [Act.put, List.setIfInBounds_toArray, List.set_cons_zero, List.set_cons_succ]
              refine wpR_take (i := 12) (v := ?_) (⟨fun _ => rfl, Eq.trans⟩) (some 7) rfl (by kernel_rfl) (by kernel_rfl) (by kernel_rfl) (by kernel_rfl) (by kernel_rfl) (fun _ _ _ h => h) (by kernel_rfl) (fun w' hw' => ?_) ?_
              rotate_left
              · go_simp; with_reducible rfl
              simp only [Act.put, List.setIfInBounds_toArray, List.set_cons_zero, List.set_cons_succ]
              refine wpR_done (by kernel_rfl) ?_ _
              go_wp2_with fail
              go_meet
              refine ⟨_, by first | rfl | simp [*], hm5, Lib.hid (hlob.out _ _ _ hgwd.out ht5), Lib.hid (fresh_drop hfr.out hq.out), Lib.hid ?_, Lib.hid (fun h => by cases h)⟩
              have h2 := drop_len L q.k
              have h3 := hLl.out
              omega
          case rest =>
            obtain ⟨L', rfl, hm5, hg5, hfr5, hLl5, hok5⟩ := hcut
            clear hm hgr hfr hLl c1 c2
            obtain ⟨c1, c2, -⟩ := hact.out wc i q hg5.out hq.out
            rw [hmq.out] at c2
            have i8 : decide ((mq : Int) ≤ (qn : Int)) = okv := by rw [hokv]; exact decide_eq_decide.mpr (by omega)
            have i8n : decide (mq ≤ qn) = okv := hokv.symm
            have hbb : (okv != okv) = false := by simp
            replace hokv := Lib.hid hokv
            have hkeys := Lib.hid (keys17_any lo g r qn L' (by have := hLl5.out; omega) wc hm5)
            obtain ⟨n8, hn8⟩ : ∃ n8, (keysN L').length = n8 := ⟨_, rfl⟩
            have hn8' : n8 = L'.length := by rw [← hn8, keysN_len]
            replace hn8 := Lib.hid hn8
            replace hn8' := Lib.hid hn8'
            go_upto_region 11 with (go_at_call 19; go_must (refine hkeys.out.mono ?_); clear hkeys; rintro e w8 ⟨v8, rfl, ho8, hg8⟩; have ho8' : OS (keysN L') v8 _ w8 := ho8.out; obtain ⟨A8, c8, rfl, -, -⟩ := ho8'.form; clear ho8; have ho8 := ho8'; clear ho8'; rw [hn8.out] at ho8 ⊢; replace ho8 := Lib.hid ho8)
            clear c1 c2 i8 i8n hbb
            have hgw8 : Hid (GrM w w8) := Lib.hid (hg5.out.trans hg8)
            have hm8 := Hd.gr hg8 hm5
            have ho8l : Hid (OS (keysN L') (.slice A8 n8 c8) lo w8) := Lib.hid (row_more ho8.out (hlog.out _ hg5.out))
            clear hm5 hg5 hg8
            go_cut [82] (fun z wq => z = .bool false ∧ Hid (GrM w8 wq))
            case first =>
              obtain ⟨wd, hwd⟩ : ∃ wd, wd = w8.drew := ⟨_, rfl⟩
              have hgd : Hid (GrM w8 wd) := Lib.hid (by rw [hwd]; exact (Below.refl _ _).drew)
              cases okv with
              | true =>
                obtain ⟨L0, e0, hL0, he0⟩ := hok5.out rfl
                have hn80 : n8 = L0.length + 1 := by rw [hn8'.out, hL0]; simp
                generalize L0.length = l0 at *
                subst hn80
                obtain ⟨c1, -, -⟩ := hact.out wd i q (hgw8.out.trans hgd.out) hq.out
                obtain ⟨g8, rfl, -, -, hg8l, hc8⟩ := ho8.out.at_ (by rw [hn8.out]; omega)
                have ck := (Below.cell hgd.out (p := ⟨g8, l0, none⟩) hg8l).trans (hc8 l0 q.k (by
                  have hl0 : L0.length = l0 := by have h1 := hn8'.out; rw [hL0] at h1; simp at h1; omega
                  unfold keysN
                  rw [List.getElem?_map, hL0, ← hl0, List.getElem?_append_right (Nat.le_refl _), Nat.sub_self]
                  simp [he0]))
                clear hc8 hg8l
                have hl41 : l0 ≤ 41 := by have h1 := hn8'.out; have h2 := hLl5.out; omega
                have hwl : IntKind.i64.wrap (l0 : Int) = (l0 : Int) := by rw [IntKind.wrap_i64]; omega
                have hil : (0 : Int) ≤ (l0 : Int) := by omega
                have hil2 : (l0 : Int) < (l0 : Int) + 1 := by omega
                have hL0' := Lib.hid hL0
                clear hL0
                refine wpR_region (Eq) 9999 (by kernel_rfl) ?_
                (rw [← hwd]; replace hwd := Lib.hid hwd)
                refine wpR_take (i := 0) (v := ?_) (⟨fun _ => rfl, Eq.trans⟩) (some 63) rfl (by kernel_rfl) (by kernel_rfl) (by kernel_rfl) (by kernel_rfl) (by kernel_rfl) (fun _ _ _ h => h) (by kernel_rfl) (fun w' hw' => ?_) ?_
                rotate_left
                · go_simp; with_reducible rfl
                simp only [Act.put, List.setIfInBounds_toArray, List.set_cons_zero, List.set_cons_succ]
                refine wpR_take (i := 1) (v := ?_) (⟨fun _ => rfl, Eq.trans⟩) (some 64) rfl (by kernel_rfl) (by kernel_rfl) (by kernel_rfl) (by kernel_rfl) (by kernel_rfl) (fun _ _ _ h => h) (by kernel_rfl) (fun w' hw' => ?_) ?_
                rotate_left
                · go_simp; with_reducible rfl
                simp only [Act.put, List.setIfInBounds_toArray, List.set_cons_zero, List.set_cons_succ]
                refine wpR_take (i := 2) (v := ?_) (⟨fun _ => rfl, Eq.trans⟩) (some 65) rfl (by kernel_rfl) (by kernel_rfl) (by kernel_rfl) (by kernel_rfl) (by kernel_rfl) (fun _ _ _ h => h) (by kernel_rfl) (fun w' hw' => ?_) ?_
                rotate_left
                · go_simp; with_reducible rfl
                simp only [Act.put, List.setIfInBounds_toArray, List.set_cons_zero, List.set_cons_succ]
                refine wpR_take (i := 3) (v := ?_) (⟨fun _ => rfl, Eq.trans⟩) (some 66) rfl (by kernel_rfl) (by kernel_rfl) (by kernel_rfl) (by kernel_rfl) (by kernel_rfl) (fun _ _ _ h => h) (by kernel_rfl) (fun w' hw' => ?_) ?_
                rotate_left
                · go_simp; with_reducible rfl
                simp only [Act.put, List.setIfInBounds_toArray, List.set_cons_zero, List.set_cons_succ]
                refine wpR_take (i := 4) (v := ?_) (⟨fun _ => rfl, Eq.trans⟩) (some 67) rfl (by kernel_rfl) (by kernel_rfl) (by kernel_rfl) (by kernel_rfl) (by kernel_rfl) (fun _ _ _ h => h) (by kernel_rfl) (fun w' hw' => ?_) ?_
                rotate_left
                · go_simp; with_reducible rfl
                simp only [Act.put, List.setIfInBounds_toArray, List.set_cons_zero, List.set_cons_succ]
                refine wpR_take (i := 5) (v := ?_) (⟨fun _ => rfl, Eq.trans⟩) (some 68) rfl (by kernel_rfl) (by kernel_rfl) (by kernel_rfl) (by kernel_rfl) (by kernel_rfl) (fun _ _ _ h => h) (by kernel_rfl) (fun w' hw' => ?_) ?_
                rotate_left
                · go_simp; with_reducible rfl
                simp only [Act.put, List.setIfInBounds_toArray, List.set_cons_zero, List.set_cons_succ]
                refine wpR_take (i := 6) (v := ?_) (⟨fun _ => rfl, Eq.trans⟩) (some 69) rfl (by kernel_rfl) (by kernel_rfl) (by kernel_rfl) (by kernel_rfl) (by kernel_rfl) (fun _ _ _ h => h) (by kernel_rfl) (fun w' hw' => ?_) ?_
                rotate_left
                · go_simp; with_reducible rfl
                simp only [Act.put, List.setIfInBounds_toArray, List.set_cons_zero, List.set_cons_succ]
                refine wpR_take (i := 7) (v := ?_) (⟨fun _ => rfl, Eq.trans⟩) (some 70) rfl (by kernel_rfl) (by kernel_rfl) (by kernel_rfl) (by kernel_rfl) (by kernel_rfl) (fun _ _ _ h => h) (by kernel_rfl) (fun w' hw' => ?_) ?_
                rotate_left
                · go_simp; with_reducible rfl
                simp only [Act.put, List.setIfInBounds_toArray, List.set_cons_zero, List.set_cons_succ]
                refine wpR_take (i := 8) (v := ?_) (⟨fun _ => rfl, Eq.trans⟩) (some 71) rfl (by kernel_rfl) (by kernel_rfl) (by kernel_rfl) (by kernel_rfl) (by kernel_rfl) (fun _ _ _ h => h) (by kernel_rfl) (fun w' hw' => ?_) ?_
                rotate_left
                · go_simp; with_reducible rfl
                simp only [Act.put, List.setIfInBounds_toArray, List.set_cons_zero, List.set_cons_succ]
                refine wpR_take (i := 9) (v := ?_) (⟨fun _ => rfl, Eq.trans⟩) (some 72) rfl (by kernel_rfl) (by kernel_rfl) (by kernel_rfl) (by kernel_rfl) (by kernel_rfl) (fun _ _ _ h => h) (by kernel_rfl) (fun w' hw' => ?_) ?_
                rotate_left
                · go_simp; with_reducible rfl
                simp only [Act.put, List.setIfInBounds_toArray, List.set_cons_zero, List.set_cons_succ]
                refine wpR_take (i := 10) (v := ?_) (⟨fun _ => rfl, Eq.trans⟩) (some 73) rfl (by kernel_rfl) (by kernel_rfl) (by kernel_rfl) (by kernel_rfl) (by kernel_rfl) (fun _ _ _ h => h) (by kernel_rfl) (fun w' hw' => ?_) ?_
                rotate_left
                · go_simp; with_reducible rfl
                simp only [Act.put, List.setIfInBounds_toArray, List.set_cons_zero, List.set_cons_succ]
                refine wpR_take (i := 11) (v := ?_) (⟨fun _ => rfl, Eq.trans⟩) (some 74) rfl (by kernel_rfl) (by kernel_rfl) (by kernel_rfl) (by kernel_rfl) (by kernel_rfl) (fun _ _ _ h => h) (by kernel_rfl) (fun w' hw' => ?_) ?_
                rotate_left
                · subst hw'; go_simp; with_reducible rfl
                simp only [Act.put, List.setIfInBounds_toArray, List.set_cons_zero, List.set_cons_succ]
                refine wpR_take (i := 12) (v := ?_) (⟨fun _ => rfl, Eq.trans⟩) (some 75) rfl (by kernel_rfl) (by kernel_rfl) (by kernel_rfl) (by kernel_rfl) (by kernel_rfl) (fun _ _ _ h => h) (by kernel_rfl) (fun w' hw' => ?_) ?_
                rotate_left
                · go_simp; with_reducible rfl
                simp only [Act.put, List.setIfInBounds_toArray, List.set_cons_zero, List.set_cons_succ]
                refine wpR_take (i := 13) (v := ?_) (⟨fun _ => rfl, Eq.trans⟩) (some 76) rfl (by kernel_rfl) (by kernel_rfl) (by kernel_rfl) (by kernel_rfl) (by kernel_rfl) (fun _ _ _ h => h) (by kernel_rfl) (fun w' hw' => ?_) ?_
                rotate_left
                · go_simp; with_reducible rfl
                simp only [Act.put, List.setIfInBounds_toArray, List.set_cons_zero, List.set_cons_succ]
                refine wpR_take (i := 14) (v := ?_) (⟨fun _ => rfl, Eq.trans⟩) (some 77) rfl (by kernel_rfl) (by kernel_rfl) (by kernel_rfl) (by kernel_rfl) (by kernel_rfl) (fun _ _ _ h => h) (by kernel_rfl) (fun w' hw' => ?_) ?_
                rotate_left
                · go_simp; with_reducible rfl
                simp only [Act.put, List.setIfInBounds_toArray, List.set_cons_zero, List.set_cons_succ]
                refine wpR_take (i := 15) (v := ?_) (⟨fun _ => rfl, Eq.trans⟩) (some 78) rfl (by kernel_rfl) (by kernel_rfl) (by kernel_rfl) (by kernel_rfl) (by kernel_rfl) (fun _ _ _ h => h) (by kernel_rfl) (fun w' hw' => ?_) ?_
                rotate_left
                · go_simp; with_reducible rfl
                simp only [Act.put, List.setIfInBounds_toArray, List.set_cons_zero, List.set_cons_succ]
                refine wpR_take (i := 16) (v := ?_) (⟨fun _ => rfl, Eq.trans⟩) (some 79) rfl (by kernel_rfl) (by kernel_rfl) (by kernel_rfl) (by kernel_rfl) (by kernel_rfl) (fun _ _ _ h => h) (by kernel_rfl) (fun w' hw' => ?_) ?_
                rotate_left
                · subst hw'; go_simp; with_reducible rfl
                simp only [Act.put, List.setIfInBounds_toArray, List.set_cons_zero, List.set_cons_succ]
                refine wpR_take (i := 17) (v := ?_) (⟨fun _ => rfl, Eq.trans⟩) (some 80) rfl (by kernel_rfl) (by kernel_rfl) (by kernel_rfl) (by kernel_rfl) (by kernel_rfl) (fun _ _ _ h => h) (by kernel_rfl) (fun w' hw' => ?_) ?_
                rotate_left
                · go_simp; with_reducible rfl
                simp only [Act.put, List.setIfInBounds_toArray, List.set_cons_zero, List.set_cons_succ]
                refine wpR_take (i := 18) (v := ?_) (⟨fun _ => rfl, Eq.trans⟩) (some 81) rfl (by kernel_rfl) (by kernel_rfl) (by kernel_rfl) (by kernel_rfl) (by kernel_rfl) (fun _ _ _ h => h) (by kernel_rfl) (fun w' hw' => ?_) ?_
                rotate_left
                · go_simp; with_reducible rfl
                simp only [Act.put, List.setIfInBounds_toArray, List.set_cons_zero, List.set_cons_succ]
                refine wpR_take (i := 19) (v := ?_) (⟨fun _ => rfl, Eq.trans⟩) (some 82) rfl (by kernel_rfl) (by kernel_rfl) (by kernel_rfl) (by kernel_rfl) (by kernel_rfl) (fun _ _ _ h => h) (by kernel_rfl) (fun w' hw' => ?_) ?_
                rotate_left
                · go_simp; with_reducible rfl
                simp only [Act.put, List.setIfInBounds_toArray, List.set_cons_zero, List.set_cons_succ]
                refine wpR_done (by kernel_rfl) ?_ _
                go_wp2_with fail
                go_meet
                exact ⟨by first | rfl | simp [*], hgd⟩
              | false =>
                refine wpR_region (Eq) 9999 (by kernel_rfl) ?_
                (rw [← hwd]; replace hwd := Lib.hid hwd)
                refine wpR_take (i := 0) (v := ?_) (⟨fun _ => rfl, Eq.trans⟩) (some 63) rfl (by kernel_rfl) (by kernel_rfl) (by kernel_rfl) (by kernel_rfl) (by kernel_rfl) (fun _ _ _ h => h) (by kernel_rfl) (fun w' hw' => ?_) ?_
                rotate_left
                · go_simp; with_reducible rfl
                simp only [Act.put, List.setIfInBounds_toArray, List.set_cons_zero, List.set_cons_succ]
                refine wpR_take (i := 1) (v := ?_) (⟨fun _ => rfl, Eq.trans⟩) (some 64) rfl (by kernel_rfl) (by kernel_rfl) (by kernel_rfl) (by kernel_rfl) (by kernel_rfl) (fun _ _ _ h => h) (by kernel_rfl) (fun w' hw' => ?_) ?_
                rotate_left
                · go_simp; with_reducible rfl
                simp only [Act.put, List.setIfInBounds_toArray, List.set_cons_zero, List.set_cons_succ]
                refine wpR_skip (i := 2) (⟨fun _ => rfl, Eq.trans⟩) (some 65) rfl (by kernel_rfl) (by kernel_rfl) (by kernel_rfl) (by kernel_rfl) (by kernel_rfl) (fun _ _ _ h => h) (by kernel_rfl) ?_
                simp only [Act.put, List.setIfInBounds_toArray, List.set_cons_zero, List.set_cons_succ]
                refine wpR_skip (i := 3) (⟨fun _ => rfl, Eq.trans⟩) (some 66) rfl (by kernel_rfl) (by kernel_rfl) (by kernel_rfl) (by kernel_rfl) (by kernel_rfl) (fun _ _ _ h => h) (by kernel_rfl) ?_
                simp only [Act.put, List.setIfInBounds_toArray, List.set_cons_zero, List.set_cons_succ]
                refine wpR_skip (i := 4) (⟨fun _ => rfl, Eq.trans⟩) (some 67) rfl (by kernel_rfl) (by kernel_rfl) (by kernel_rfl) (by kernel_rfl) (by kernel_rfl) (fun _ _ _ h => h) (by kernel_rfl) ?_
                simp only [Act.put, List.setIfInBounds_toArray, List.set_cons_zero, List.set_cons_succ]
                refine wpR_skip (i := 5) (⟨fun _ => rfl, Eq.trans⟩) (some 68) rfl (by kernel_rfl) (by kernel_rfl) (by kernel_rfl) (by kernel_rfl) (by kernel_rfl) (fun _ _ _ h => h) (by kernel_rfl) ?_
                simp only [Act.put, List.setIfInBounds_toArray, List.set_cons_zero, List.set_cons_succ]
                refine wpR_skip (i := 6) (⟨fun _ => rfl, Eq.trans⟩) (some 69) rfl (by kernel_rfl) (by kernel_rfl) (by kernel_rfl) (by kernel_rfl) (by kernel_rfl) (fun _ _ _ h => h) (by kernel_rfl) ?_
                simp only [Act.put, List.setIfInBounds_toArray, List.set_cons_zero, List.set_cons_succ]
                refine wpR_skip (i := 7) (⟨fun _ => rfl, Eq.trans⟩) (some 70) rfl (by kernel_rfl) (by kernel_rfl) (by kernel_rfl) (by kernel_rfl) (by kernel_rfl) (fun _ _ _ h => h) (by kernel_rfl) ?_
                simp only [Act.put, List.setIfInBounds_toArray, List.set_cons_zero, List.set_cons_succ]
                refine wpR_skip (i := 8) (⟨fun _ => rfl, Eq.trans⟩) (some 71) rfl (by kernel_rfl) (by kernel_rfl) (by kernel_rfl) (by kernel_rfl) (by kernel_rfl) (fun _ _ _ h => h) (by kernel_rfl) ?_
                simp only [Act.put, List.setIfInBounds_toArray, List.set_cons_zero, List.set_cons_succ]
                refine wpR_skip (i := 9) (⟨fun _ => rfl, Eq.trans⟩) (some 72) rfl (by kernel_rfl) (by kernel_rfl) (by kernel_rfl) (by kernel_rfl) (by kernel_rfl) (fun _ _ _ h => h) (by kernel_rfl) ?_
                simp only [Act.put, List.setIfInBounds_toArray, List.set_cons_zero, List.set_cons_succ]
                refine wpR_skip (i := 10) (⟨fun _ => rfl, Eq.trans⟩) (some 73) rfl (by kernel_rfl) (by kernel_rfl) (by kernel_rfl) (by kernel_rfl) (by kernel_rfl) (fun _ _ _ h => h) (by kernel_rfl) ?_
                simp only [Act.put, List.setIfInBounds_toArray, List.set_cons_zero, List.set_cons_succ]
                refine wpR_skip (i := 11) (⟨fun _ => rfl, Eq.trans⟩) (some 74) rfl (by kernel_rfl) (by kernel_rfl) (by kernel_rfl) (by kernel_rfl) (by kernel_rfl) (fun _ _ _ h => h) (by kernel_rfl) ?_
                simp only [Act.put, List.setIfInBounds_toArray, List.set_cons_zero, List.set_cons_succ]
                refine wpR_skip (i := 12) (⟨fun _ => rfl, Eq.trans⟩) (some 75) rfl (by kernel_rfl) (by kernel_rfl) (by kernel_rfl) (by kernel_rfl) (by kernel_rfl) (fun _ _ _ h => h) (by kernel_rfl) ?_
                simp only [Act.put, List.setIfInBounds_toArray, List.set_cons_zero, List.set_cons_succ]
                refine wpR_skip (i := 13) (⟨fun _ => rfl, Eq.trans⟩) (some 76) rfl (by kernel_rfl) (by kernel_rfl) (by kernel_rfl) (by kernel_rfl) (by kernel_rfl) (fun _ _ _ h => h) (by kernel_rfl) ?_
                simp only [Act.put, List.setIfInBounds_toArray, List.set_cons_zero, List.set_cons_succ]
                refine wpR_skip (i := 14) (⟨fun _ => rfl, Eq.trans⟩) (some 77) rfl (by kernel_rfl) (by kernel_rfl) (by kernel_rfl) (by kernel_rfl) (by kernel_rfl) (fun _ _ _ h => h) (by kernel_rfl) ?_
                simp only [Act.put, List.setIfInBounds_toArray, List.set_cons_zero, List.set_cons_succ]
                refine wpR_skip (i := 15) (⟨fun _ => rfl, Eq.trans⟩) (some 78) rfl (by kernel_rfl) (by kernel_rfl) (by kernel_rfl) (by kernel_rfl) (by kernel_rfl) (fun _ _ _ h => h) (by kernel_rfl) ?_
                simp only [Act.put, List.setIfInBounds_toArray, List.set_cons_zero, List.set_cons_succ]
                refine wpR_skip (i := 16) (⟨fun _ => rfl, Eq.trans⟩) (some 79) rfl (by kernel_rfl) (by kernel_rfl) (by kernel_rfl) (by kernel_rfl) (by kernel_rfl) (fun _ _ _ h => h) (by kernel_rfl) ?_
                simp only [Act.put, List.setIfInBounds_toArray, List.set_cons_zero, List.set_cons_succ]
                refine wpR_skip (i := 17) (⟨fun _ => rfl, Eq.trans⟩) (some 80) rfl (by kernel_rfl) (by kernel_rfl) (by kernel_rfl) (by kernel_rfl) (by kernel_rfl) (fun _ _ _ h => h) (by kernel_rfl) ?_
                simp only [Act.put, List.setIfInBounds_toArray, List.set_cons_zero, List.set_cons_succ]
                refine wpR_skip (i := 18) (⟨fun _ => rfl, Eq.trans⟩) (some 81) rfl (by kernel_rfl) (by kernel_rfl) (by kernel_rfl) (by kernel_rfl) (by kernel_rfl) (fun _ _ _ h => h) (by kernel_rfl) ?_
                simp only [Act.put, List.setIfInBounds_toArray, List.set_cons_zero, List.set_cons_succ]
                refine wpR_take (i := 19) (v := ?_) (⟨fun _ => rfl, Eq.trans⟩) (some 82) rfl (by kernel_rfl) (by kernel_rfl) (by kernel_rfl) (by kernel_rfl) (by kernel_rfl) (fun _ _ _ h => h) (by kernel_rfl) (fun w' hw' => ?_) ?_
                rotate_left
                · go_simp; with_reducible rfl
                simp only [Act.put, List.setIfInBounds_toArray, List.set_cons_zero, List.set_cons_succ]
                refine wpR_done (by kernel_rfl) ?_ _
                go_wp2_with fail
                go_meet
                exact ⟨by first | rfl | simp [*], hgd⟩
            case rest =>
              obtain ⟨rfl, hgc⟩ := hcut
              rename World => w9
              have hgw9 : Hid (GrM w w9) := Lib.hid (hgw8.out.trans hgc.out)
              have hm9 := Hd.gr hgc.out hm8
              have ho9 : Hid (OS (keysN L') (.slice A8 n8 c8) lo w9) := Lib.hid (OS.below hgc.out ho8l.out)
              have h0 : Hid (Hd w9 lo g r qn (L'.drop 0 ++ L'.take 0)) := Lib.hid (by simpa using hm9.out)
              have hn41 : n8 ≤ 41 := by have := hn8'.out; have := hLl5.out; omega
              have hsm : sumD L' ≤ qn := hm9.out.le
              replace hsm := Lib.hid hsm
              clear hm8 ho8 ho8l hgw8 hgc hm9
              go_wp2_with fail
              go_loopw [9, 10] (fun nv z wt => ∃ j nn : Nat, nv = .int .i64 nn ∧ z = .int .i64 j ∧ j ≤ n8 ∧ nn ≤ 64 ∧ Hid (nn = sumD (L'.take j)) ∧ Hid (Hd wt lo g r qn (L'.drop j ++ L'.take j)) ∧ Hid (OS (keysN L') (.slice A8 n8 c8) lo wt) ∧ Hid (GrM w wt)) (fun _ z _ => (n8 - (intOf z).toNat))
              case atStart => exact ⟨0, 0, rfl, rfl, Nat.zero_le _, Nat.zero_le _, Lib.hid rfl, h0, ho9, hgw9⟩
              case round =>
                obtain ⟨j, nn, rfl, rfl, hj, hnn64, hnn, hmt, hot, hgt⟩ := hrel
                clear h0 ho9 hgw9
                rename World => wt
                by_cases hlt : j < n8
                · have ij : (j : Int) < (n8 : Int) := by omega
                  have hjL : j < L'.length := by rw [← hn8'.out]; exact hlt
                  obtain ⟨hr1, hr2⟩ := rot_step hjL
                  have hst := sum_take hjL
                  have hsl := sum_take_le L' (j + 1)
                  obtain ⟨f, hf⟩ : ∃ f, L'[j] = f := ⟨_, rfl⟩
                  have hfm : f ∈ L' := by rw [← hf]; exact List.getElem_mem hjL
                  have hkj : (keysN L')[j]? = some f.2.1 := by unfold keysN; rw [List.getElem?_map, List.getElem?_eq_getElem hjL, hf]; rfl
                  rw [hf] at hr1 hr2 hst
                  rw [hr1] at hmt
                  obtain ⟨g8, rfl, -, -, hg8l, hc8⟩ := hot.out.at_ (by rw [hn8.out]; omega)
                  have ck := hc8 j _ hkj
                  have hget := Lib.hid (get17_yes lo g r qn [] f (L'.drop (j + 1) ++ L'.take j) f.2.1 rfl wt hmt)
                  obtain ⟨md, hmd⟩ : ∃ md, f.2.2.2.length = md := ⟨_, rfl⟩
                  rw [hmd] at hst
                  have hsum : sumD (L'.take (j + 1)) = nn + md := by rw [hst, hnn.out]
                  have hle64 : nn + md ≤ 64 := by have := hsm.out; omega
                  replace hst := Lib.hid hst
                  replace hsl := Lib.hid hsl
                  replace hsum := Lib.hid hsum
                  replace hf := Lib.hid hf
                  replace hkj := Lib.hid hkj
                  replace hmd := Lib.hid hmd
                  replace hr2 := Lib.hid hr2
                  clear hr1
                  go_upto_region 18 with (go_at_call 10; go_must (refine hget.out.mono ?_); clear hget; rintro e w11 ⟨v11, rfl, ho11, hm11, ht11⟩)
                  obtain ⟨A11, c11, rfl, -, -, hR11, -⟩ := ho11.out.form
                  rw [hmd.out]
                  rw [hr2.out] at hm11
                  have hot11 : Hid (OS (keysN L') (.slice (some ⟨g8, 0, none⟩) n8 c8) lo w11) := Lib.hid (row_tchg hot.out ht11 (by decide))
                  have hgw11 : Hid (GrM w w11) := Lib.hid (hlob.out _ _ _ hgt.out ht11)
                  have hck11 : Hid (∀ wu, GrM w11 wu → wu.cell? ⟨g8, j, none⟩ = some (.string (bs f.2.1))) := Lib.hid (fun wu hu => by
                    obtain ⟨gz, hz1, -, -, hz3, hz4⟩ := hot11.out.at_ (by rw [hn8.out]; omega)
                    injection hz1 with hz1
                    injection hz1 with hz1
                    subst hz1
                    exact (Below.cell hu (p := ⟨g8, j, none⟩) hz3).trans (hz4 j _ hkj.out))
                  replace hR11 := Lib.hid hR11
                  clear ck hc8 hg8l hot hgt hmt ht11
                  go_wp2_with fail
                  go_loopw [13, 14] (fun lv z wu => ∃ m : Nat, z = .int .i64 m ∧ m ≤ i + 1 ∧ lv = .int .i64 (lastQ Q f.2.1 m) ∧ Hid (GrM w11 wu)) (fun _ z _ => (i + 1 - (intOf z).toNat))
                  case atStart => exact ⟨0, rfl, Nat.zero_le _, rfl, Lib.hid (GrM.refl _)⟩
                  case round =>
                    obtain ⟨m, rfl, hmi, rfl, hgu⟩ := hrel
                    rename World => wu
                    obtain ⟨wd, hwd⟩ : ∃ wd, wd = wu.drew := ⟨_, rfl⟩
                    have hgd : Hid (GrM w11 wd) := Lib.hid (by rw [hwd]; exact hgu.out.trans (Below.refl _ _).drew)
                    by_cases hlm : m ≤ i
                    · have im : (m : Int) ≤ (i : Int) := by omega
                      have imq : (m : Int) < (nq : Int) := by omega
                      obtain ⟨q2, hq2⟩ : ∃ q2, Q[m]? = some q2 := ⟨_, List.getElem?_eq_getElem (by rw [hnq.out]; omega)⟩
                      obtain ⟨a1, -, -⟩ := hact.out wd m q2 (hgw11.out.trans hgd.out) hq2
                      have a2 := hck11.out wd hgd.out
                      replace hq2 := Lib.hid hq2
                      generalize hlq : lastQ Q f.2.1 m = lq at *
                      replace hlq := Lib.hid hlq
                      cases hcmp : (q2.k == f.2.1) with
                      | true =>
                        go_upto_region 22 with (fail)
                        refine wpR_region (Eq) 9999 (by kernel_rfl) ?_
                        (rw [← hwd]; replace hwd := Lib.hid hwd)
                        refine wpR_take (i := 0) (v := ?_) (⟨fun _ => rfl, Eq.trans⟩) (some 103) rfl (by kernel_rfl) (by kernel_rfl) (by kernel_rfl) (by kernel_rfl) (by kernel_rfl) (fun _ _ _ h => h) (by kernel_rfl) (fun w' hw' => ?_) ?_
                        rotate_left
                        · go_simp; with_reducible rfl
                        simp only [Act.put, List.setIfInBounds_toArray, List.set_cons_zero, List.set_cons_succ]
                        refine wpR_take (i := 1) (v := ?_) (⟨fun _ => rfl, Eq.trans⟩) (some 104) rfl (by kernel_rfl) (by kernel_rfl) (by kernel_rfl) (by kernel_rfl) (by kernel_rfl) (fun _ _ _ h => h) (by kernel_rfl) (fun w' hw' => ?_) ?_
                        rotate_left
                        · go_simp; with_reducible rfl
                        simp only [Act.put, List.setIfInBounds_toArray, List.set_cons_zero, List.set_cons_succ]
                        refine wpR_take (i := 2) (v := ?_) (⟨fun _ => rfl, Eq.trans⟩) (some 105) rfl (by kernel_rfl) (by kernel_rfl) (by kernel_rfl) (by kernel_rfl) (by kernel_rfl) (fun _ _ _ h => h) (by kernel_rfl) (fun w' hw' => ?_) ?_
                        rotate_left
                        · go_simp; with_reducible rfl
                        simp only [Act.put, List.setIfInBounds_toArray, List.set_cons_zero, List.set_cons_succ]
                        refine wpR_take (i := 3) (v := ?_) (⟨fun _ => rfl, Eq.trans⟩) (some 106) rfl (by kernel_rfl) (by kernel_rfl) (by kernel_rfl) (by kernel_rfl) (by kernel_rfl) (fun _ _ _ h => h) (by kernel_rfl) (fun w' hw' => ?_) ?_
                        rotate_left
                        · go_simp; with_reducible rfl
                        simp only [Act.put, List.setIfInBounds_toArray, List.set_cons_zero, List.set_cons_succ]
                        refine wpR_take (i := 4) (v := ?_) (⟨fun _ => rfl, Eq.trans⟩) (some 107) rfl (by kernel_rfl) (by kernel_rfl) (by kernel_rfl) (by kernel_rfl) (by kernel_rfl) (fun _ _ _ h => h) (by kernel_rfl) (fun w' hw' => ?_) ?_
                        rotate_left
                        · subst hw'; go_simp; with_reducible rfl
                        simp only [Act.put, List.setIfInBounds_toArray, List.set_cons_zero, List.set_cons_succ]
                        refine wpR_take (i := 5) (v := ?_) (⟨fun _ => rfl, Eq.trans⟩) (some 108) rfl (by kernel_rfl) (by kernel_rfl) (by kernel_rfl) (by kernel_rfl) (by kernel_rfl) (fun _ _ _ h => h) (by kernel_rfl) (fun w' hw' => ?_) ?_
                        rotate_left
                        · go_simp; with_reducible rfl
                        simp only [Act.put, List.setIfInBounds_toArray, List.set_cons_zero, List.set_cons_succ]
                        refine wpR_take (i := 6) (v := ?_) (⟨fun _ => rfl, Eq.trans⟩) (some 109) rfl (by kernel_rfl) (by kernel_rfl) (by kernel_rfl) (by kernel_rfl) (by kernel_rfl) (fun _ _ _ h => h) (by kernel_rfl) (fun w' hw' => ?_) ?_
                        rotate_left
                        · go_simp; with_reducible rfl
                        simp only [Act.put, List.setIfInBounds_toArray, List.set_cons_zero, List.set_cons_succ]
                        refine wpR_take (i := 7) (v := ?_) (⟨fun _ => rfl, Eq.trans⟩) (some 110) rfl (by kernel_rfl) (by kernel_rfl) (by kernel_rfl) (by kernel_rfl) (by kernel_rfl) (fun _ _ _ h => h) (by kernel_rfl) (fun w' hw' => ?_) ?_
                        rotate_left
                        · go_simp; with_reducible rfl
                        simp only [Act.put, List.setIfInBounds_toArray, List.set_cons_zero, List.set_cons_succ]
                        refine wpR_take (i := 8) (v := ?_) (⟨fun _ => rfl, Eq.trans⟩) (some 111) rfl (by kernel_rfl) (by kernel_rfl) (by kernel_rfl) (by kernel_rfl) (by kernel_rfl) (fun _ _ _ h => h) (by kernel_rfl) (fun w' hw' => ?_) ?_
                        rotate_left
                        · subst hw'; go_simp; with_reducible rfl
                        simp only [Act.put, List.setIfInBounds_toArray, List.set_cons_zero, List.set_cons_succ]
                        refine wpR_take (i := 9) (v := ?_) (⟨fun _ => rfl, Eq.trans⟩) (some 112) rfl (by kernel_rfl) (by kernel_rfl) (by kernel_rfl) (by kernel_rfl) (by kernel_rfl) (fun _ _ _ h => h) (by kernel_rfl) (fun w' hw' => ?_) ?_
                        rotate_left
                        · go_simp; with_reducible rfl
                        simp only [Act.put, List.setIfInBounds_toArray, List.set_cons_zero, List.set_cons_succ]
                        refine wpR_done (by kernel_rfl) ?_ _
                        go_wp2_with fail
                        go_roundw
                        case rel => exact ⟨m + 1, by go_num, by omega, by rw [lastQ_yes hq2.out hcmp], hgd⟩
                        case measure => simp [intOf]; omega
                      | false =>
                        go_upto_region 22 with (fail)
                        refine wpR_region (Eq) 9999 (by kernel_rfl) ?_
                        (rw [← hwd]; replace hwd := Lib.hid hwd)
                        refine wpR_take (i := 0) (v := ?_) (⟨fun _ => rfl, Eq.trans⟩) (some 103) rfl (by kernel_rfl) (by kernel_rfl) (by kernel_rfl) (by kernel_rfl) (by kernel_rfl) (fun _ _ _ h => h) (by kernel_rfl) (fun w' hw' => ?_) ?_
                        rotate_left
                        · go_simp; with_reducible rfl
                        simp only [Act.put, List.setIfInBounds_toArray, List.set_cons_zero, List.set_cons_succ]
                        refine wpR_take (i := 1) (v := ?_) (⟨fun _ => rfl, Eq.trans⟩) (some 104) rfl (by kernel_rfl) (by kernel_rfl) (by kernel_rfl) (by kernel_rfl) (by kernel_rfl) (fun _ _ _ h => h) (by kernel_rfl) (fun w' hw' => ?_) ?_
                        rotate_left
                        · go_simp; with_reducible rfl
                        simp only [Act.put, List.setIfInBounds_toArray, List.set_cons_zero, List.set_cons_succ]
                        refine wpR_take (i := 2) (v := ?_) (⟨fun _ => rfl, Eq.trans⟩) (some 105) rfl (by kernel_rfl) (by kernel_rfl) (by kernel_rfl) (by kernel_rfl) (by kernel_rfl) (fun _ _ _ h => h) (by kernel_rfl) (fun w' hw' => ?_) ?_
                        rotate_left
                        · go_simp; with_reducible rfl
                        simp only [Act.put, List.setIfInBounds_toArray, List.set_cons_zero, List.set_cons_succ]
                        refine wpR_take (i := 3) (v := ?_) (⟨fun _ => rfl, Eq.trans⟩) (some 106) rfl (by kernel_rfl) (by kernel_rfl) (by kernel_rfl) (by kernel_rfl) (by kernel_rfl) (fun _ _ _ h => h) (by kernel_rfl) (fun w' hw' => ?_) ?_
                        rotate_left
                        · go_simp; with_reducible rfl
                        simp only [Act.put, List.setIfInBounds_toArray, List.set_cons_zero, List.set_cons_succ]
                        refine wpR_take (i := 4) (v := ?_) (⟨fun _ => rfl, Eq.trans⟩) (some 107) rfl (by kernel_rfl) (by kernel_rfl) (by kernel_rfl) (by kernel_rfl) (by kernel_rfl) (fun _ _ _ h => h) (by kernel_rfl) (fun w' hw' => ?_) ?_
                        rotate_left
                        · subst hw'; go_simp; with_reducible rfl
                        simp only [Act.put, List.setIfInBounds_toArray, List.set_cons_zero, List.set_cons_succ]
                        refine wpR_take (i := 5) (v := ?_) (⟨fun _ => rfl, Eq.trans⟩) (some 108) rfl (by kernel_rfl) (by kernel_rfl) (by kernel_rfl) (by kernel_rfl) (by kernel_rfl) (fun _ _ _ h => h) (by kernel_rfl) (fun w' hw' => ?_) ?_
                        rotate_left
                        · go_simp; with_reducible rfl
                        simp only [Act.put, List.setIfInBounds_toArray, List.set_cons_zero, List.set_cons_succ]
                        refine wpR_take (i := 6) (v := ?_) (⟨fun _ => rfl, Eq.trans⟩) (some 109) rfl (by kernel_rfl) (by kernel_rfl) (by kernel_rfl) (by kernel_rfl) (by kernel_rfl) (fun _ _ _ h => h) (by kernel_rfl) (fun w' hw' => ?_) ?_
                        rotate_left
                        · go_simp; with_reducible rfl
                        simp only [Act.put, List.setIfInBounds_toArray, List.set_cons_zero, List.set_cons_succ]
                        refine wpR_take (i := 7) (v := ?_) (⟨fun _ => rfl, Eq.trans⟩) (some 110) rfl (by kernel_rfl) (by kernel_rfl) (by kernel_rfl) (by kernel_rfl) (by kernel_rfl) (fun _ _ _ h => h) (by kernel_rfl) (fun w' hw' => ?_) ?_
                        rotate_left
                        · go_simp; with_reducible rfl
                        simp only [Act.put, List.setIfInBounds_toArray, List.set_cons_zero, List.set_cons_succ]
                        refine wpR_take (i := 8) (v := ?_) (⟨fun _ => rfl, Eq.trans⟩) (some 111) rfl (by kernel_rfl) (by kernel_rfl) (by kernel_rfl) (by kernel_rfl) (by kernel_rfl) (fun _ _ _ h => h) (by kernel_rfl) (fun w' hw' => ?_) ?_
                        rotate_left
                        · subst hw'; go_simp; with_reducible rfl
                        simp only [Act.put, List.setIfInBounds_toArray, List.set_cons_zero, List.set_cons_succ]
                        refine wpR_take (i := 9) (v := ?_) (⟨fun _ => rfl, Eq.trans⟩) (some 112) rfl (by kernel_rfl) (by kernel_rfl) (by kernel_rfl) (by kernel_rfl) (by kernel_rfl) (fun _ _ _ h => h) (by kernel_rfl) (fun w' hw' => ?_) ?_
                        rotate_left
                        · go_simp; with_reducible rfl
                        simp only [Act.put, List.setIfInBounds_toArray, List.set_cons_zero, List.set_cons_succ]
                        refine wpR_done (by kernel_rfl) ?_ _
                        go_wp2_with fail
                        go_roundw
                        case rel => exact ⟨m + 1, by go_num, by omega, by rw [lastQ_no hq2.out hcmp, hlq.out], hgd⟩
                        case measure => simp [intOf]; omega
                    · obtain rfl : m = i + 1 := by omega
                      have im : decide (((i + 1 : Nat) : Int) ≤ (i : Int)) = false := decide_eq_false (by omega)
                      have im' : decide ((i : Int) + 1 ≤ (i : Int)) = false := decide_eq_false (by omega)
                      obtain ⟨m0, q0, hm0, hq0, hk0, hd0', hlast⟩ := hfr5.out f hfm
                      rw [last_of hq0 hk0 (i + 1) hm0 hlast]
                      obtain ⟨-, b2, hby2⟩ := hact.out wd m0 q0 (hgw11.out.trans hgd.out) hq0
                      have hrd2 := hby2.out.1
                      rw [hd0'] at b2 hrd2
                      rw [hmd.out] at b2
                      have hcv1 := run_str_at (n := md) c11 (by have := hR11.out.below hgd.out; exact this.more (Below.size hgd.out)) hmd.out
                      have hcv2 := run_str_at (n := md) q0.c hrd2 hmd.out
                      have im0 : decide ((m0 : Int) < 0) = false := decide_eq_false (by omega)
                      have imq : (m0 : Int) < (nq : Int) := by omega
                      have im0p : (0 : Int) ≤ (m0 : Int) := by omega
                      replace hd0' := Lib.hid hd0'
                      replace hk0 := Lib.hid hk0
                      replace hq0 := Lib.hid hq0
                      clear hrd2 hby2 hlast hlm hR11
                      go_upto_region 24 with (fail)
                      refine wpR_region (Eq) 9999 (by kernel_rfl) ?_
                      (rw [← hwd]; replace hwd := Lib.hid hwd)
                      refine wpR_take (i := 0) (v := ?_) (⟨fun _ => rfl, Eq.trans⟩) (some 114) rfl (by kernel_rfl) (by kernel_rfl) (by kernel_rfl) (by kernel_rfl) (by kernel_rfl) (fun _ _ _ h => h) (by kernel_rfl) (fun w' hw' => ?_) ?_
                      rotate_left
                      · go_simp; with_reducible rfl
                      simp only [Act.put, List.setIfInBounds_toArray, List.set_cons_zero, List.set_cons_succ]
                      refine wpR_take (i := 1) (v := ?_) (⟨fun _ => rfl, Eq.trans⟩) (some 115) rfl (by kernel_rfl) (by kernel_rfl) (by kernel_rfl) (by kernel_rfl) (by kernel_rfl) (fun _ _ _ h => h) (by kernel_rfl) (fun w' hw' => ?_) ?_
                      rotate_left
                      · go_simp; with_reducible rfl
                      simp only [Act.put, List.setIfInBounds_toArray, List.set_cons_zero, List.set_cons_succ]
                      refine wpR_take (i := 2) (v := ?_) (⟨fun _ => rfl, Eq.trans⟩) (some 116) rfl (by kernel_rfl) (by kernel_rfl) (by kernel_rfl) (by kernel_rfl) (by kernel_rfl) (fun _ _ _ h => h) (by kernel_rfl) (fun w' hw' => ?_) ?_
                      rotate_left
                      · go_simp; with_reducible rfl
                      simp only [Act.put, List.setIfInBounds_toArray, List.set_cons_zero, List.set_cons_succ]
                      refine wpR_take (i := 3) (v := ?_) (⟨fun _ => rfl, Eq.trans⟩) (some 117) rfl (by kernel_rfl) (by kernel_rfl) (by kernel_rfl) (by kernel_rfl) (by kernel_rfl) (fun _ _ _ h => h) (by kernel_rfl) (fun w' hw' => ?_) ?_
                      rotate_left
                      · go_simp; with_reducible rfl
                      simp only [Act.put, List.setIfInBounds_toArray, List.set_cons_zero, List.set_cons_succ]
                      refine wpR_take (i := 4) (v := ?_) (⟨fun _ => rfl, Eq.trans⟩) (some 118) rfl (by kernel_rfl) (by kernel_rfl) (by kernel_rfl) (by kernel_rfl) (by kernel_rfl) (fun _ _ _ h => h) (by kernel_rfl) (fun w' hw' => ?_) ?_
                      rotate_left
                      · go_simp; with_reducible rfl
                      simp only [Act.put, List.setIfInBounds_toArray, List.set_cons_zero, List.set_cons_succ]
                      refine wpR_take (i := 5) (v := ?_) (⟨fun _ => rfl, Eq.trans⟩) (some 119) rfl (by kernel_rfl) (by kernel_rfl) (by kernel_rfl) (by kernel_rfl) (by kernel_rfl) (fun _ _ _ h => h) (by kernel_rfl) (fun w' hw' => ?_) ?_
                      rotate_left
                      · go_simp; with_reducible rfl
                      simp only [Act.put, List.setIfInBounds_toArray, List.set_cons_zero, List.set_cons_succ]
                      refine wpR_take (i := 6) (v := ?_) (⟨fun _ => rfl, Eq.trans⟩) (some 120) rfl (by kernel_rfl) (by kernel_rfl) (by kernel_rfl) (by kernel_rfl) (by kernel_rfl) (fun _ _ _ h => h) (by kernel_rfl) (fun w' hw' => ?_) ?_
                      rotate_left
                      · go_simp; with_reducible rfl
                      simp only [Act.put, List.setIfInBounds_toArray, List.set_cons_zero, List.set_cons_succ]
                      refine wpR_take (i := 7) (v := ?_) (⟨fun _ => rfl, Eq.trans⟩) (some 121) rfl (by kernel_rfl) (by kernel_rfl) (by kernel_rfl) (by kernel_rfl) (by kernel_rfl) (fun _ _ _ h => h) (by kernel_rfl) (fun w' hw' => ?_) ?_
                      rotate_left
                      · go_simp; with_reducible rfl
                      simp only [Act.put, List.setIfInBounds_toArray, List.set_cons_zero, List.set_cons_succ]
                      refine wpR_take (i := 8) (v := ?_) (⟨fun _ => rfl, Eq.trans⟩) (some 122) rfl (by kernel_rfl) (by kernel_rfl) (by kernel_rfl) (by kernel_rfl) (by kernel_rfl) (fun _ _ _ h => h) (by kernel_rfl) (fun w' hw' => ?_) ?_
                      rotate_left
                      · subst hw'; go_simp; with_reducible rfl
                      simp only [Act.put, List.setIfInBounds_toArray, List.set_cons_zero, List.set_cons_succ]
                      refine wpR_take (i := 9) (v := ?_) (⟨fun _ => rfl, Eq.trans⟩) (some 123) rfl (by kernel_rfl) (by kernel_rfl) (by kernel_rfl) (by kernel_rfl) (by kernel_rfl) (fun _ _ _ h => h) (by kernel_rfl) (fun w' hw' => ?_) ?_
                      rotate_left
                      · go_simp; with_reducible rfl
                      simp only [Act.put, List.setIfInBounds_toArray, List.set_cons_zero, List.set_cons_succ]
                      refine wpR_take (i := 10) (v := ?_) (⟨fun _ => rfl, Eq.trans⟩) (some 124) rfl (by kernel_rfl) (by kernel_rfl) (by kernel_rfl) (by kernel_rfl) (by kernel_rfl) (fun _ _ _ h => h) (by kernel_rfl) (fun w' hw' => ?_) ?_
                      rotate_left
                      · go_simp; with_reducible rfl
                      simp only [Act.put, List.setIfInBounds_toArray, List.set_cons_zero, List.set_cons_succ]
                      refine wpR_take (i := 11) (v := ?_) (⟨fun _ => rfl, Eq.trans⟩) (some 125) rfl (by kernel_rfl) (by kernel_rfl) (by kernel_rfl) (by kernel_rfl) (by kernel_rfl) (fun _ _ _ h => h) (by kernel_rfl) (fun w' hw' => ?_) ?_
                      rotate_left
                      · go_simp; with_reducible rfl
                      simp only [Act.put, List.setIfInBounds_toArray, List.set_cons_zero, List.set_cons_succ]
                      refine wpR_take (i := 12) (v := ?_) (⟨fun _ => rfl, Eq.trans⟩) (some 126) rfl (by kernel_rfl) (by kernel_rfl) (by kernel_rfl) (by kernel_rfl) (by kernel_rfl) (fun _ _ _ h => h) (by kernel_rfl) (fun w' hw' => ?_) ?_
                      rotate_left
                      · go_simp; with_reducible rfl
                      simp only [Act.put, List.setIfInBounds_toArray, List.set_cons_zero, List.set_cons_succ]
                      refine wpR_take (i := 13) (v := ?_) (⟨fun _ => rfl, Eq.trans⟩) (some 127) rfl (by kernel_rfl) (by kernel_rfl) (by kernel_rfl) (by kernel_rfl) (by kernel_rfl) (fun _ _ _ h => h) (by kernel_rfl) (fun w' hw' => ?_) ?_
                      rotate_left
                      · subst hw'; go_simp; with_reducible rfl
                      simp only [Act.put, List.setIfInBounds_toArray, List.set_cons_zero, List.set_cons_succ]
                      refine wpR_take (i := 14) (v := ?_) (⟨fun _ => rfl, Eq.trans⟩) (some 128) rfl (by kernel_rfl) (by kernel_rfl) (by kernel_rfl) (by kernel_rfl) (by kernel_rfl) (fun _ _ _ h => h) (by kernel_rfl) (fun w' hw' => ?_) ?_
                      rotate_left
                      · subst hw'; go_simp; with_reducible rfl
                      simp only [Act.put, List.setIfInBounds_toArray, List.set_cons_zero, List.set_cons_succ]
                      refine wpR_take (i := 15) (v := ?_) (⟨fun _ => rfl, Eq.trans⟩) (some 129) rfl (by kernel_rfl) (by kernel_rfl) (by kernel_rfl) (by kernel_rfl) (by kernel_rfl) (fun _ _ _ h => h) (by kernel_rfl) (fun w' hw' => ?_) ?_
                      rotate_left
                      · go_simp; with_reducible rfl
                      simp only [Act.put, List.setIfInBounds_toArray, List.set_cons_zero, List.set_cons_succ]
                      refine wpR_take (i := 16) (v := ?_) (⟨fun _ => rfl, Eq.trans⟩) (some 130) rfl (by kernel_rfl) (by kernel_rfl) (by kernel_rfl) (by kernel_rfl) (by kernel_rfl) (fun _ _ _ h => h) (by kernel_rfl) (fun w' hw' => ?_) ?_
                      rotate_left
                      · go_simp; with_reducible rfl
                      simp only [Act.put, List.setIfInBounds_toArray, List.set_cons_zero, List.set_cons_succ]
                      refine wpR_done (by kernel_rfl) ?_ _
                      have hwn : IntKind.i64.wrap ((nn : Int) + (md : Int)) = (nn : Int) + (md : Int) := by rw [IntKind.wrap_i64]; omega
                      go_wp2_with fail
                      go_roundw
                      case rel => exact ⟨j + 1, nn + md, by go_num, by go_num, by omega, hle64, Lib.hid hsum.out.symm, Hd.gr hgd.out hm11, Lib.hid (OS.below hgd.out hot11.out), Lib.hid (hgw11.out.trans hgd.out)⟩
                      case measure => simp [intOf]; omega
                · obtain rfl : j = n8 := by omega
                  have ij : decide ((j : Int) < (j : Int)) = false := decide_eq_false (by omega)
                  have hdt : L'.drop j ++ L'.take j = L' := by rw [hn8'.out, List.drop_length, List.take_length]; rfl
                  have htk : sumD (L'.take j) = sumD L' := by rw [hn8'.out, List.take_length]
                  rw [hdt] at hmt
                  rw [htk] at hnn
                  have i9 : decide ((qn : Int) < (nn : Int)) = false := decide_eq_false (by have := hnn.out; have := hsm.out; omega)
                  have i9n : decide (qn < nn) = false := decide_eq_false (by have := hnn.out; have := hsm.out; omega)
                  have hu := used_any lo g r qn L' wt hmt
                  rw [← hnn.out] at hu
                  replace hu := Lib.hid hu
                  have hkeys := Lib.hid (keys17_any lo g r qn L' (by have := hLl5.out; omega) wt hmt)
                  have hor5 := hot.out
                  replace hdt := Lib.hid hdt
                  replace htk := Lib.hid htk
                  go_wp2_with (first
                    | (go_at_call 16; go_must (refine hu.out.mono ?_); rintro e w' ⟨rfl, hee⟩; rw [hee]; clear hee)
                    | (go_at_call 19; go_must (refine hkeys.out.mono ?_); clear hkeys; rintro e w6 ⟨v6, rfl, ho6, hg6⟩; have ho6' : OS (keysN L') v6 _ w6 := ho6.out; obtain ⟨A6, c6, rfl, -, -⟩ := ho6'.form; clear ho6; have ho6 := ho6'; clear ho6'; rw [hn8.out] at ho6 ⊢; have hsame := Lib.hid (same_self A6 A8 j j c6 c8 hn8.out hn8.out (by omega) w6 (OS.rs ho6) (RS.below hg6 (OS.rs hor5))))
                    | (go_at_call 18; go_must (refine hsame.out.mono ?_); clear hsame; rintro e w7 ⟨rfl, hg7⟩))
                  go_roundw
                  case rel => exact ⟨i + 1, L', by omega, by go_num, hLl5, hfr5, Hd.gr hg7 (Hd.gr hg6 hmt), Lib.hid (GrM.trans (GrM.trans hgt.out hg6) hg7)⟩
                  case measure => simp [intOf]; omega
      | false =>
        have haw := Lib.hid (awake17_any wr)
        go_wp2_with (go_at_call 21; go_must (refine haw.out.mono ?_); rintro e w9 ⟨rfl, hg9⟩; replace hg9 := Lib.hid hg9)
        go_ret
        exact ⟨rfl, GrM.trans hgr.out hg9.out⟩
end Go.Proofs.Ythhggojpmilmdaa
