/- A cartridge: the walks of its methods. -/
import Derived.Test.YtfjhdcppehfiiaaCart
import Derived.Deep.QuietTactic
import Derived.BigQuiet
namespace Go.Proofs.Ytfjhdcppehfiiaa
set_option linter.unusedVariables false
set_option linter.unusedSimpArgs false
open Go Go.RowKit

theorem OB.more' {w : World} {base base' : Nat} {v : Value} {l : List UInt8} (h : OB w base v l) (hb : base' ≤ base) : OB w base' v l := row_more h hb
set_option maxHeartbeats 1000000 in
set_option maxRecDepth 10000 in
theorem cappend_any (lo hi g : Nat) (s : CS) (A : Option Addr) (n c : Nat) (b : List UInt8) (hn : b.length = n) (hnm : n ≤ maxLen) (w : World) (h : Ct w lo hi g s) (hrd : Rd w w.heap.size A b) :
    Calls Try.prog 33 #[.pointer (some ⟨g, 0, none⟩), .slice A n c] w fun e w' => e = .returned (.tuple #[.int .i64 (s.append b).1, .int .i64 (s.append b).2.1]) ∧ Ct w' lo w'.heap.size g (s.append b).2.2 ∧ TChg lo [64, 66] w w' := by
  obtain ⟨A0, c0, -, -, -, -, q0, q1, q2⟩ := h.open_
  have hm := Lib.hid (h.more h.bounds.2.2 (Nat.le_refl _))
  have hrl := h.ok.recs
  have hmo := h.ok.most
  have hgb := h.bounds
  have hlw : lo ≤ w.heap.size := by omega
  have hsz := Lib.hid (size_any lo hi g s w h)
  unfold maxLen at hnm
  replace h := Lib.hid h
  replace hrd := Lib.hid hrd
  replace hn := Lib.hid hn
  obtain ⟨r, hr⟩ : ∃ r, s.append b = r := ⟨_, rfl⟩
  rw [hr]
  unfold CS.append at hr
  rw [hn.out] at hr
  by_cases h1 : n < 1
  · rw [if_pos (.inl h1)] at hr
    subst hr
    obtain rfl : n = 0 := by omega
    go_enter Try.func33, Try.ntmps33
    go_wp2
    go_ret2
    exact ⟨rfl, hm.out, TChg.refl _ _ _⟩
  · by_cases h2 : 256 < n
    · rw [if_pos (.inr h2)] at hr
      subst hr
      go_enter Try.func33, Try.ntmps33
      go_wp2
      go_ret2
      exact ⟨rfl, hm.out, TChg.refl _ _ _⟩
    · rw [if_neg (by omega)] at hr
      cases hlo : s.lost with
      | true =>
        rw [if_pos hlo] at hr
        rw [hlo] at q2
        replace hlo := Lib.hid hlo
        subst hr
        go_enter Try.func33, Try.ntmps33
        go_wp2
        go_ret2
        exact ⟨rfl, hm.out, TChg.refl _ _ _⟩
      | false =>
        rw [if_neg (by rw [hlo]; decide)] at hr
        rw [hlo] at q2
        replace hlo := Lib.hid hlo
        by_cases h3 : s.most ≤ s.recs.length
        · rw [if_pos h3] at hr
          subst hr
          go_enter Try.func33, Try.ntmps33
          go_wp2_with fail
          go_quiet ((go_at_call 26; exact Calls.quiet_of_same (size_any lo hi g s _ (h.out.drewN _))))
          go_wp2
          go_ret2
          exact ⟨rfl, hm.out.drewN _, TChg.drewN _ _⟩
        · rw [if_neg h3] at hr
          replace hr := Lib.hid hr
          have hd := decide_eq_false (p := (s.most : Int) ≤ s.recs.length) (by omega)
          go_enter Try.func33, Try.ntmps33
          go_wp2_with fail
          go_quiet ((go_at_call 26; exact Calls.quiet_of_same (size_any lo hi g s _ (h.out.drewN _))))
          go_wp2_with fail
          replace hrd : Hid (Rd (w.drewN nq).drew (w.drewN nq).drew.heap.size A b) := Lib.hid hrd.out
          replace h : Hid (Ct (w.drewN nq).drew lo hi g s) := Lib.hid h.out
          refine wpR_region (TChg lo [64, 66]) 9999 (by kernel_rfl) ?_
          refine wpR_take (i := 0) (v := ?_) (TChg.road _ _) (some 34) rfl (by kernel_rfl) (by kernel_rfl) (by kernel_rfl) (by kernel_rfl) (by kernel_rfl) (fun _ _ _ h => h) (by kernel_rfl) (fun w' hw' => ?_) ?_
          rotate_left
          · go_simp; with_reducible rfl
          simp only [Act.put, List.setIfInBounds_toArray, List.set_cons_zero, List.set_cons_succ]
          refine wpR_take (i := 1) (v := ?_) (TChg.road _ _) (some 35) rfl (by kernel_rfl) (by kernel_rfl) (by kernel_rfl) (by kernel_rfl) (by kernel_rfl) (fun _ _ _ h => h) (by kernel_rfl) (fun w' hw' => ?_) ?_
          rotate_left
          · go_simp; with_reducible rfl
          simp only [Act.put, List.setIfInBounds_toArray, List.set_cons_zero, List.set_cons_succ]
          refine wpR_take (i := 2) (v := ?_) (TChg.road _ _) (some 36) rfl (by kernel_rfl) (by kernel_rfl) (by kernel_rfl) (by kernel_rfl) (by kernel_rfl) (fun _ _ _ h => h) (by kernel_rfl) (fun w' hw' => ?_) ?_
          rotate_left
          · go_simp; with_reducible rfl
          simp only [Act.put, List.setIfInBounds_toArray, List.set_cons_zero, List.set_cons_succ]
          refine wpR_take (i := 3) (v := ?_) (TChg.road _ _) (some 37) rfl (by kernel_rfl) (by kernel_rfl) (by kernel_rfl) (by kernel_rfl) (by kernel_rfl) (fun _ _ _ h => h) (by kernel_rfl) (fun w' hw' => ?_) ?_
          rotate_left
          · go_simp; with_reducible rfl
          simp only [Act.put, List.setIfInBounds_toArray, List.set_cons_zero, List.set_cons_succ]
          refine wpR_one 4 rfl (by kernel_rfl) (by kernel_rfl) (fun K hK => ?_)
          go_simp
          refine (clone_any A n c b hn.out (by omega) _ hrd.out).mono ?_
          rintro e w1 ⟨v, rfl, hv, hb⟩
          obtain ⟨A1, c1, rfl, -, -, -, -⟩ := hv.form
          refine hK _ _ (fun _ => TChg.of_below hb) ?_
          clear hK K
          have hct1 := Lib.hid (h.out.below hb)
          replace hv := Lib.hid hv
          replace hb := Lib.hid hb
          try simp only [Act.put, List.setIfInBounds_toArray, List.set_cons_zero, List.set_cons_succ]
          refine wpR_take (i := 5) (v := ?_) (TChg.road _ _) (some 39) rfl (by kernel_rfl) (by kernel_rfl) (by kernel_rfl) (by kernel_rfl) (by kernel_rfl) (fun _ _ _ h => h) (by kernel_rfl) (fun w' hw' => ?_) ?_
          rotate_left
          · go_simp; with_reducible rfl
          simp only [Act.put, List.setIfInBounds_toArray, List.set_cons_zero, List.set_cons_succ]
          refine wpR_one 6 rfl (by kernel_rfl) (by kernel_rfl) (fun K hK => ?_)
          go_simp
          refine ((add_any lo hi g s (.slice A1 b.length c1) b false w1 hct1.out (hv.out.more' hlw) (by rw [hn.out]; omega) (by omega))).mono ?_
          rintro e w2 ⟨rfl, hct2, hch⟩
          refine hK _ _ (fun _ => hch) ?_
          clear hK K
          replace hct2 := Lib.hid hct2
          replace hch := Lib.hid hch
          try simp only [Act.put, List.setIfInBounds_toArray, List.set_cons_zero, List.set_cons_succ]
          refine wpR_take (i := 7) (v := ?_) (TChg.road _ _) (some 4) rfl (by kernel_rfl) (by kernel_rfl) (by kernel_rfl) (by kernel_rfl) (by kernel_rfl) (fun _ _ _ h => h) (by kernel_rfl) (fun w' hw' => ?_) ?_
          rotate_left
          · go_simp; with_reducible rfl
          simp only [Act.put, List.setIfInBounds_toArray, List.set_cons_zero, List.set_cons_succ]
          refine wpR_take (i := 8) (v := ?_) (TChg.road _ _) (some 5) rfl (by kernel_rfl) (by kernel_rfl) (by kernel_rfl) (by kernel_rfl) (by kernel_rfl) (fun _ _ _ h => h) (by kernel_rfl) (fun w' hw' => ?_) ?_
          rotate_left
          · go_simp; with_reducible rfl
          simp only [Act.put, List.setIfInBounds_toArray, List.set_cons_zero, List.set_cons_succ]
          refine wpR_done (by kernel_rfl) ?_ _
          go_wp2
          go_ret2
          rw [← hr.out]
          exact ⟨rfl, hct2.out, (show TChg lo _ w w1 from TChg.of_below (w := (w.drewN nq).drew) hb.out).trans hch.out⟩
end Go.Proofs.Ytfjhdcppehfiiaa
