/- A cartridge: the walks of its other methods. -/
import Derived.Test.YtfjhdcppehfiiaaCartRec
import Derived.Test.YtfjhdcppehfiiaaCart2
namespace Go.Proofs.Ytfjhdcppehfiiaa
set_option linter.unusedVariables false
set_option linter.unusedSimpArgs false
open Go Go.RowKit
theorem getD_some {α : Type} {l : List α} {i : Nat} {d r : α} (h : l[i]? = some r) : l.getD i d = r := by rw [List.getD_eq_getElem?_getD, h]; rfl
set_option maxHeartbeats 1000000 in
set_option maxRecDepth 10000 in
theorem cread_any (lo hi g : Nat) (s : CS) (p : Int) (hp : I64 p) (w : World) (h : Ct w lo hi g s) :
    Calls Try.prog 14 #[.pointer (some ⟨g, 0, none⟩), .int .i64 p] w fun e w' => ∃ v, e = .returned (.tuple #[v, .int .i64 (s.read p).2]) ∧ OB w' w.heap.size v (s.read p).1 ∧ Below w.heap.size w w' := by
  obtain ⟨A0, c0, -, -, -, -, q0, q1, q2⟩ := h.open_
  have hrl := h.ok.recs
  have hmo := h.ok.most
  have hgb := h.bounds
  obtain ⟨x, hx⟩ : ∃ x, s.read p = x := ⟨_, rfl⟩
  rw [hx]
  unfold CS.read at hx
  cases hlo : s.lost with
  | true =>
    rw [if_pos hlo] at hx
    rw [hlo] at q2
    replace hlo := Lib.hid hlo
    subst hx
    replace h := Lib.hid h
    go_enter Try.func14, Try.ntmps14
    go_wp2
    go_ret2
    exact ⟨_, rfl, OB.nil_ _ _, Below.refl _ _⟩
  | false =>
    rw [if_neg (by rw [hlo]; decide)] at hx
    rw [hlo] at q2
    replace hlo := Lib.hid hlo
    by_cases ho : p < 0 ∨ (s.recs.length : Int) ≤ p
    · rw [if_pos ho] at hx
      subst hx
      replace ho := Lib.hid ho
      replace h := Lib.hid h
      go_enter Try.func14, Try.ntmps14
      go_wp2_with fail
      refine (at_none lo hi g s p hp ho.out w h.out).mono ?_
      rintro e w' ⟨rfl, rfl⟩
      go_wp2
      go_ret2
      exact ⟨_, rfl, OB.nil_ _ _, Below.refl _ _⟩
    · rw [if_neg ho] at hx
      obtain ⟨i, hi'⟩ : ∃ i : Nat, p = i := ⟨p.toNat, by omega⟩
      have hil : i < s.recs.length := by omega
      obtain ⟨r, hr⟩ : ∃ r, s.recs[i]? = some r := ⟨_, List.getElem?_eq_getElem hil⟩
      have hpi : p.toNat = i := by omega
      rw [hpi, getD_some hr] at hx
      obtain ⟨b, c, A, m, k0, -, -, -, -, k1, k2, k3, -⟩ := h.rec_ hr
      have hlen : r.1.length ≤ 256 := h.ok.len r (List.mem_of_getElem? hr)
      clear q0 ho
      replace hr := Lib.hid hr
      replace hpi := Lib.hid hpi
      replace hi' := Lib.hid hi'
      replace h := Lib.hid h
      obtain ⟨bytes, rot⟩ := r
      try simp only at hx k1 k2 k3 hlen
      cases rot with
      | true =>
        rw [if_pos rfl] at hx
        subst hx
        go_enter Try.func14, Try.ntmps14
        go_wp2_with fail
        refine (at_some lo hi g b c s p i hi'.out hil w h.out k0).mono ?_
        rintro e w' ⟨rfl, rfl⟩
        go_wp2
        go_ret2
        exact ⟨_, rfl, OB.nil_ _ _, Below.refl _ _⟩
      | false =>
        rw [if_neg (by decide)] at hx
        subst hx
        have hrd := Lib.hid (OB.rd k3).1
        replace k3 := Lib.hid k3
        go_enter Try.func14, Try.ntmps14
        go_wp2_with fail
        refine (at_some lo hi g b c s p i hi'.out hil w h.out k0).mono ?_
        rintro e w' ⟨rfl, rfl⟩
        go_wp2_with fail
        refine (clone_any A bytes.length m bytes rfl (by omega) _ hrd.out).mono ?_
        rintro e w1 ⟨v, rfl, hv, hb⟩
        replace hv := Lib.hid hv
        replace hb := Lib.hid hb
        go_wp2
        go_ret2
        exact ⟨_, rfl, hv.out, hb.out⟩
set_option maxHeartbeats 1000000 in
set_option maxRecDepth 10000 in
theorem crot_any (lo hi g : Nat) (s : CS) (p : Int) (hp : I64 p) (w : World) (h : Ct w lo hi g s) :
    Calls Try.prog 43 #[.pointer (some ⟨g, 0, none⟩), .int .i64 p] w fun e w' => e = .returned (.bool (s.rot p).1) ∧ Ct w' lo hi g (s.rot p).2 ∧ TChg lo [64, 66] w w' := by
  obtain ⟨A0, c0, -, -, -, -, q0, q1, q2⟩ := h.open_
  have hrl := h.ok.recs
  have hmo := h.ok.most
  have hgb := h.bounds
  obtain ⟨x, hx⟩ : ∃ x, s.rot p = x := ⟨_, rfl⟩
  rw [hx]
  unfold CS.rot at hx
  cases hlo : s.lost with
  | true =>
    rw [if_pos (.inl hlo)] at hx
    rw [hlo] at q2
    replace hlo := Lib.hid hlo
    subst hx
    replace h := Lib.hid h
    go_enter Try.func43, Try.ntmps43
    go_wp2
    go_ret
    exact ⟨rfl, h.out, TChg.refl _ _ _⟩
  | false =>
    rw [hlo] at q2
    by_cases ho : p < 0 ∨ (s.recs.length : Int) ≤ p
    · rw [if_pos (.inr ho)] at hx
      replace hlo := Lib.hid hlo
      subst hx
      replace ho := Lib.hid ho
      replace h := Lib.hid h
      go_enter Try.func43, Try.ntmps43
      go_wp2_with fail
      refine (at_none lo hi g s p hp ho.out w h.out).mono ?_
      rintro e w' ⟨rfl, rfl⟩
      go_wp2
      go_ret
      exact ⟨rfl, h.out, TChg.refl _ _ _⟩
    · rw [if_neg (by rw [hlo]; simp; simp at ho; exact ho)] at hx
      replace hlo := Lib.hid hlo
      obtain ⟨i, hi'⟩ : ∃ i : Nat, p = i := ⟨p.toNat, by omega⟩
      have hil : i < s.recs.length := by omega
      obtain ⟨r, hr⟩ : ∃ r, s.recs[i]? = some r := ⟨_, List.getElem?_eq_getElem hil⟩
      have hpi : p.toNat = i := by omega
      rw [hpi, getD_some hr] at hx
      obtain ⟨b, c, A, m, k0, hlb, -, ⟨cs, hcs⟩, hfr, k1, k2, k3, hset, -⟩ := h.rec_ hr
      have hf := hfr (i * 2 + 1)
      replace hset := Lib.hid (hset true)
      have hT := Lib.hid (TChg.of_set (ts := [64, 66]) hcs (by simp) hlb (i * 2 + 1) (.bool true))
      clear q0 ho hfr hcs k3
      replace hr := Lib.hid hr
      replace hpi := Lib.hid hpi
      replace hi' := Lib.hid hi'
      replace h := Lib.hid h
      obtain ⟨bytes, rot⟩ := r
      try simp only at hx k1 k2 hset
      cases rot with
      | true =>
        rw [if_pos rfl] at hx
        subst hx
        go_enter Try.func43, Try.ntmps43
        go_wp2_with fail
        refine (at_some lo hi g b c s p i hi'.out hil w h.out k0).mono ?_
        rintro e w' ⟨rfl, rfl⟩
        go_wp2
        go_ret
        exact ⟨rfl, h.out, TChg.refl _ _ _⟩
      | false =>
        rw [if_neg (by decide)] at hx
        subst hx
        go_enter Try.func43, Try.ntmps43
        go_wp2_with fail
        refine (at_some lo hi g b c s p i hi'.out hil w h.out k0).mono ?_
        rintro e w' ⟨rfl, rfl⟩
        go_wp2
        go_ret
        exact ⟨rfl, hset.out, hT.out⟩
set_option maxHeartbeats 1000000 in
set_option maxRecDepth 10000 in
theorem close_any (lo hi g : Nat) (s : CS) (w : World) (h : Ct w lo hi g s) :
    Calls Try.prog 41 #[.pointer (some ⟨g, 0, none⟩)] w fun e w' => e = .returned (.bool s.lose.1) ∧ Ct w' lo hi g s.lose.2 ∧ TChg lo [64, 66] w w' := by
  obtain ⟨A0, c0, -, -, -, hh, q0, q1, q2⟩ := h.open_
  have hgb := h.bounds.1
  have hf := h.free 2
  have hset := Lib.hid (h.set2 true)
  have hT := Lib.hid (TChg.of_set (ts := [64, 66]) hh (by simp) hgb 2 (.bool true))
  clear hh
  obtain ⟨x, hx⟩ : ∃ x, s.lose = x := ⟨_, rfl⟩
  rw [hx]
  unfold CS.lose at hx
  replace h := Lib.hid h
  cases hlo : s.lost with
  | true =>
    rw [if_pos hlo] at hx
    rw [hlo] at q2
    replace hlo := Lib.hid hlo
    subst hx
    go_enter Try.func41, Try.ntmps41
    go_wp2
    go_ret
    exact ⟨rfl, h.out, TChg.refl _ _ _⟩
  | false =>
    rw [if_neg (by rw [hlo]; decide)] at hx
    rw [hlo] at q2
    replace hlo := Lib.hid hlo
    subst hx
    go_enter Try.func41, Try.ntmps41
    go_wp2
    go_ret
    exact ⟨rfl, hset.out, hT.out⟩
set_option maxRecDepth 10000 in
set_option maxRecDepth 10000 in
theorem clen_any (lo hi g : Nat) (s : CS) (w : World) (h : Ct w lo hi g s) :
    Calls Try.prog 12 #[.pointer (some ⟨g, 0, none⟩)] w fun e w' => e = .returned (.int .i64 s.recs.length) ∧ w' = w := by
  replace h := Lib.hid h
  go_enter Try.func12, Try.ntmps12
  go_wp2_with fail
  refine (size_any lo hi g s w h.out).mono ?_
  rintro e w' ⟨rfl, rfl⟩
  go_wp2
  go_ret
  exact ⟨rfl, rfl⟩
end Go.Proofs.Ytfjhdcppehfiiaa
