/- lib: Append, and which old blocks it may turn. -/
import Derived.Test.YtfjhdcppehfiiaaLb9
import Derived.Test.YtfjhdcppehfiiaaCartO
namespace Go.Proofs.Ytfjhdcppehfiiaa
set_option linter.unusedVariables false
set_option linter.unusedSimpArgs false
open Go Go.RowKit
section
variable (lo g : Nat) (vc vd : Value) (C : List Nat) (D : List Dr) (calls : Nat) (w : World) (h : Hid (Lb w lo g vc vd C D calls))
include h
set_option maxHeartbeats 1000000 in
set_option maxRecDepth 10000 in
theorem lappend_yesO (i b : Nat) (hb : C[i]? = some b) (j : Nat) (d : Dr) (l hi : Nat) (s : CS) (hct : Hid (Ct w l hi b s)) (hj : HoldIs D i j d) (hp : d.pos = s.recs.length) (A : Option Addr) (n c : Nat) (x : List UInt8) (hx : x.length = n) (hnm : n ≤ maxLen) (hrd : Rd w w.heap.size A x) : Calls Try.prog 21 #[.pointer (some ⟨g, 0, none⟩), .int .i64 i, .slice A n c] w fun e w' => e = .returned (.tuple #[.int .i64 (s.append x).1, .int .i64 (s.append x).2.1]) ∧ Hid (Lb w' lo g vc vd C (if (s.append x).2.1 = 0 then D.set j ⟨d.broken, d.cart, d.pos + 1, d.named⟩ else D) calls) ∧ Hid (Ct w' l w'.heap.size b (s.append x).2.2) ∧ ∃ w5, Hid (TChg l [64, 66] w w5) ∧ Hid (CFr w w5 b) ∧ Hid (Ct w5 l w5.heap.size b (s.append x).2.2) ∧ Hid (Lb w5 lo g vc vd C D calls) ∧ Hid (TChg lo [59] w5 w') := by
  have hc := Lib.hid (cart_yes lo g vc vd C D calls w h i b hb)
  have hn := Lib.hid (clen_any l hi b s w hct.out)
  have hst := Lib.hid (stand_yes lo g vc vd C D calls w h i b hb _ j d hj hp)
  have hap := Lib.hid (cappend_anyO l hi b s A n c x hx hnm w hct.out hrd)
  obtain ⟨bd, cd, hv, -, -, a2, -⟩ := drive_at lo g vc vd C D calls w h j d hj.1
  obtain ⟨Ac, cc, Ad, cd', rfl, e2⟩ := h.out.form
  clear e2
  subst hv
  obtain ⟨bc, rfl, q0⟩ := h.out.cartAt hb
  have c0 := blk_cell (j := 0) h.out.blk rfl
  have hlen := hct.out.ok.recs
  have hmost := hct.out.ok.most
  have hin : (i : Int) < (C.length : Int) := by have := (List.getElem?_eq_some_iff.1 hb).1; omega
  have hin' : i < C.length := by omega
  have hdc : (encD d).set 2 (.int .i64 (d.pos + 1)) = encD ⟨d.broken, d.cart, d.pos + 1, d.named⟩ := rfl
  have haft : Hid (∀ w', TChg l [64, 66] w w' → Hid (Lb w' lo g (.slice (some ⟨bc, 0, none⟩) C.length cc) (.slice (some ⟨bd, 0, none⟩) D.length cd) C D calls) ∧ w'.cell? ⟨bd, j * 4 + 2, none⟩ = some (.int .i64 d.pos) ∧ w'.frozen? ⟨bd, j * 4 + 2, none⟩ = false ∧ Hid (Lb (w'.setCell ⟨bd, j * 4 + 2, none⟩ (.int .i64 (d.pos + 1))) lo g (.slice (some ⟨bc, 0, none⟩) C.length cc) (.slice (some ⟨bd, 0, none⟩) D.length cd) C (D.set j ⟨d.broken, d.cart, d.pos + 1, d.named⟩) calls) ∧ Hid (TChg lo [59] w' (w'.setCell ⟨bd, j * 4 + 2, none⟩ (.int .i64 (d.pos + 1))))) := Lib.hid (fun w' t => by
    have h1 := h.out.tchg t (by decide)
    obtain ⟨bd', cd', hv', -, -, a2', -⟩ := drive_at lo g _ _ C D calls w' (Lib.hid h1) j d hj.1
    injection hv' with hv' _ _
    injection hv' with hv'
    injection hv' with hv'
    subst hv'
    obtain ⟨h2, t2, f2⟩ := h1.setD hj.1 (k := 2) (by decide) hdc
    exact ⟨Lib.hid h1, a2', f2, Lib.hid h2, Lib.hid t2⟩)
  have hpw : d.pos = (s.recs.length : Int) := hp
  have hwr : IntKind.i64.wrap (d.pos + 1) = d.pos + 1 := by rw [IntKind.wrap_i64]; omega
  generalize hnC : C.length = nC at *
  generalize hpo : d.pos = po at *
  replace hpo := Lib.hid hpo
  replace hpw := Lib.hid hpw
  replace hp := Lib.hid hp
  replace hnC := Lib.hid hnC
  clear h hb hct hdc a2
  obtain ⟨r1, hr1⟩ : ∃ r1, (s.append x).1 = r1 := ⟨_, rfl⟩
  obtain ⟨r2, hr2⟩ : ∃ r2, (s.append x).2.1 = r2 := ⟨_, rfl⟩
  rw [hr1, hr2] at hap ⊢
  by_cases he : r2 = 0
  · subst he
    rw [if_pos rfl]
    replace hr1 := Lib.hid hr1
    replace hr2 := Lib.hid hr2
    go_enter Try.func21, Try.ntmps21
    go_wp2_with (first
    | (go_at_call 11; go_must (refine hc.out.mono ?_); rintro e w' ⟨rfl, hee⟩; rw [hee]; clear hee)
    | (go_at_call 12; go_must (refine hn.out.mono ?_); rintro e w' ⟨rfl, hee⟩; rw [hee]; clear hee)
    | (go_at_call 31; go_must (refine hst.out.mono ?_); rintro e w' ⟨⟨bd2, cd2, hq, rfl⟩, hee⟩; rw [hee]; clear hee; injection hq with hq _ _; injection hq with hq; injection hq with hq; subst hq)
    | (go_at_call 33; go_must (refine hap.out.mono ?_); rintro e w5 ⟨rfl, hct, t5, hcf⟩; obtain ⟨k1, k2, k3, k4, k5⟩ := haft.out w5 t5; replace hct := Lib.hid hct; replace t5 := Lib.hid t5; replace hcf := Lib.hid hcf))
    go_ret2
    exact ⟨rfl, k4, Lib.hid (by have := hct.out.tchg k5.out (by decide) (by decide) (by decide); exact this.more k5.out.size (Nat.le_refl _)), w5, t5, hcf, hct, k1, k5⟩
  · have hne : (r2 == 0) = false := beq_false_of_ne he
    rw [if_neg he]
    replace hr1 := Lib.hid hr1
    replace hr2 := Lib.hid hr2
    replace he := Lib.hid he
    go_enter Try.func21, Try.ntmps21
    go_wp2_with (first
    | (go_at_call 11; go_must (refine hc.out.mono ?_); rintro e w' ⟨rfl, hee⟩; rw [hee]; clear hee)
    | (go_at_call 12; go_must (refine hn.out.mono ?_); rintro e w' ⟨rfl, hee⟩; rw [hee]; clear hee)
    | (go_at_call 31; go_must (refine hst.out.mono ?_); rintro e w' ⟨⟨bd2, cd2, hq, rfl⟩, hee⟩; rw [hee]; clear hee; injection hq with hq _ _; injection hq with hq; injection hq with hq; subst hq)
    | (go_at_call 33; go_must (refine hap.out.mono ?_); rintro e w5 ⟨rfl, hct, t5, hcf⟩; obtain ⟨k1, k2, k3, k4, k5⟩ := haft.out w5 t5; replace hct := Lib.hid hct; replace t5 := Lib.hid t5; replace hcf := Lib.hid hcf))
    go_ret2
    exact ⟨rfl, k1, hct, w5, t5, hcf, hct, k1, Lib.hid (TChg.of_below (Below.refl _ _))⟩
end
end Go.Proofs.Ytfjhdcppehfiiaa
