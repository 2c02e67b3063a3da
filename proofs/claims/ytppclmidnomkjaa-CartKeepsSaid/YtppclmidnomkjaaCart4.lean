/- A cartridge: the walks of its other methods. -/
import Derived.Test.YtppclmidnomkjaaCartRec
import Derived.Test.YtppclmidnomkjaaCart3
import Derived.IntWalk
namespace Go.Proofs.Ytppclmidnomkjaa
set_option linter.unusedVariables false
set_option linter.unusedSimpArgs false
open Go Go.RowKit
set_option maxHeartbeats 1000000 in
set_option maxRecDepth 10000 in
theorem ctear_any (lo hi g : Nat) (s : CS) (p : Int) (hp : I64 p) (w : World) (h : Ct w lo hi g s) :
    Calls Try.prog 26 #[.pointer (some ⟨g, 0, none⟩), .int .i64 p] w fun e w' => e = .returned (.bool (s.tear p).1) ∧ Ct w' lo hi g (s.tear p).2 ∧ TChg lo [75, 81] w w' := by
  obtain ⟨A0, c0, -, -, -, -, q0, q1, q2⟩ := h.open_
  have hrl := h.ok.recs
  have hmo := h.ok.most
  have hgb := h.bounds
  obtain ⟨x, hx⟩ : ∃ x, s.tear p = x := ⟨_, rfl⟩
  rw [hx]
  unfold CS.tear at hx
  cases hlo : s.lost with
  | true =>
    rw [if_pos (.inl hlo)] at hx
    rw [hlo] at q2
    replace hlo := Lib.hid hlo
    subst hx
    replace h := Lib.hid h
    go_enter Try.func26, Try.ntmps26
    go_wp2
    go_ret
    exact ⟨rfl, h.out, TChg.refl _ _ _⟩
  | false =>
    rw [hlo] at q2
    by_cases ho : s.recs.length = 0
    · rw [if_pos (.inr ho)] at hx
      have hI : I64 ((s.recs.length : Int) - 1) := by unfold I64; omega
      have hout : (s.recs.length : Int) - 1 < 0 ∨ (s.recs.length : Int) ≤ (s.recs.length : Int) - 1 := by omega
      replace hlo := Lib.hid hlo
      subst hx
      replace ho := Lib.hid ho
      replace hI := Lib.hid hI
      replace hout := Lib.hid hout
      have hsum : IntKind.i64.wrap ((s.recs.length : Int) - 1) = (s.recs.length : Int) - 1 := IntWalk.i64_in _ (by omega)
      replace h := Lib.hid h
      go_enter Try.func26, Try.ntmps26
      go_wp2_with fail
      go_quiet ((first | (go_at_call 50; exact Calls.quiet_of_same (size_any lo hi g s _ (h.out.drewN _))) | (go_at_call 47; exact Calls.quiet_of_same (at_none lo hi g s _ hI.out hout.out _ (h.out.drewN _)))))
      go_wp2
      go_ret
      exact ⟨rfl, h.out.drewN _, TChg.drewN _ _⟩
    · rw [if_neg (by rw [hlo]; simp; exact List.ne_nil_of_length_pos (Nat.pos_of_ne_zero ho))] at hx
      replace hlo := Lib.hid hlo
      obtain ⟨i, hi'⟩ : ∃ i : Nat, s.recs.length - 1 = i := ⟨_, rfl⟩
      have hil : i < s.recs.length := by omega
      obtain ⟨r, hr⟩ : ∃ r, s.recs[i]? = some r := ⟨_, List.getElem?_eq_getElem hil⟩
      rw [hi', getD_some hr] at hx
      obtain ⟨b, c, A, m, k0, hlb, -, ⟨cs, hcs⟩, hfr, k1, k2, k3, -, hset⟩ := h.rec_ hr
      have hf := hfr (i * 2)
      have hT : Hid (∀ u, TChg lo [75, 81] w (w.setCell ⟨b, i * 2, none⟩ u)) := Lib.hid (fun u => TChg.of_set hcs (by simp) hlb (i * 2) u)
      have hlen : r.1.length ≤ 256 := h.ok.len r (List.mem_of_getElem? hr)
      have hmc := (OB.rd k3).2
      have hcap : m ≤ maxLen := by obtain ⟨A', c', e, -, hm, -⟩ := k3.form; injection e with _ _ e; rw [e]; exact hm
      clear q0 hfr hcs
      replace k3 := Lib.hid k3
      have hsum : IntKind.i64.wrap ((s.recs.length : Int) - 1) = (i : Int) := by rw [IntWalk.i64_in _ (by omega)]; omega
      replace hr := Lib.hid hr
      replace hi' := Lib.hid hi'
      replace h := Lib.hid h
      replace hset := Lib.hid hset
      obtain ⟨bytes, rot⟩ := r
      try simp only at hx k1 k2 hset hlen hmc
      by_cases h1 : p < 0
      · rw [if_pos (.inl h1)] at hx
        subst hx
        go_enter Try.func26, Try.ntmps26
        go_wp2_with fail
        go_quiet ((first | (go_at_call 50; exact Calls.quiet_of_same (size_any lo hi g s _ (h.out.drewN _))) | (go_at_call 47; exact Calls.quiet_of_same (at_some lo hi g b c s _ i rfl hil _ (h.out.drewN _) k0))))
        go_wp2
        go_ret
        exact ⟨rfl, h.out.drewN _, TChg.drewN _ _⟩
      · by_cases h2 : (bytes.length : Int) ≤ p
        · rw [if_pos (.inr h2)] at hx
          subst hx
          go_enter Try.func26, Try.ntmps26
          go_wp2_with fail
          go_quiet ((first | (go_at_call 50; exact Calls.quiet_of_same (size_any lo hi g s _ (h.out.drewN _))) | (go_at_call 47; exact Calls.quiet_of_same (at_some lo hi g b c s _ i rfl hil _ (h.out.drewN _) k0))))
          go_wp2
          go_ret
          exact ⟨rfl, h.out.drewN _, TChg.drewN _ _⟩
        · rw [if_neg (by omega)] at hx
          obtain ⟨q, hq⟩ : ∃ q : Nat, p = q := ⟨p.toNat, by omega⟩
          subst hq
          rw [Int.toNat_natCast] at hx
          have hset2 := Lib.hid (hset.out q (by omega))
          subst hx
          go_enter Try.func26, Try.ntmps26
          go_wp2_with fail
          go_quiet ((first | (go_at_call 50; exact Calls.quiet_of_same (size_any lo hi g s _ (h.out.drewN _))) | (go_at_call 47; exact Calls.quiet_of_same (at_some lo hi g b c s _ i rfl hil _ (h.out.drewN _) k0))))
          go_wp2
          go_ret
          exact ⟨rfl, hset2.out.drewN _, (hT.out _).trans (TChg.drewN _ _)⟩
end Go.Proofs.Ytppclmidnomkjaa
