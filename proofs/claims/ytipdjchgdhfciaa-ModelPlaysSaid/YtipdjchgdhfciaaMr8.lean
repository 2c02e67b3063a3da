/- model: both models side by side. -/
import Derived.Test.YtipdjchgdhfciaaMr7
import Derived.Test.YtipdjchgdhfciaaOpenAct22
namespace Go.Proofs.Ytipdjchgdhfciaa
set_option linter.unusedVariables false
set_option linter.unusedSimpArgs false
open Go Go.RowKit Go.Maps Go.Sort
theorem Md.refStep {w w' : World} {lo g b n lo2 g2 : Nat} {L : List En} {v : Value} {R : List Pr} (h : Hid (Md w lo g b n L)) (hr : Hid (Rm w lo2 g2 v R)) (hu : Upd (· = g2) w w') : Hid (Md w' lo g b n L) :=
  Lib.hid (h.out.upd (S := (· = g2)) hu (fun e => by
      have h1 := h.out.blk
      rw [e, hr.out.blk] at h1
      injection h1 with h1; injection h1 with _ h1 _; exact absurd h1 (by decide))
    (fun e => by
      obtain ⟨D, ⟨es, clock, hh, -⟩, -⟩ := h.out.own
      rw [e, hr.out.blk] at hh; cases hh)
    (fun e he k hk ek => row_ne (h.out.rows e he) hr.out.blk (by decide) (by rw [hk, ek])))
theorem Rm.mdStep {w w' : World} {lo g b n lo2 g2 : Nat} {L : List En} {v : Value} {R : List Pr} (hr : Hid (Rm w lo2 g2 v R)) (h : Hid (Md w lo g b n L)) (hu : Upd (· = b) w w') : Hid (Rm w' lo2 g2 v R) := by
  obtain ⟨D, hown, -⟩ := h.out.own
  have hne : g2 ≠ b := fun e => by
    obtain ⟨es, clock, hh, -⟩ := hown
    rw [← e, hr.out.blk] at hh; cases hh
  exact Lib.hid ⟨(hu.2.2.2.2 g2 (blk_lt hr.out.blk) hne).trans hr.out.blk, hr.out.gl, row_keep hr.out.row (fun k hk => hu.2.2.2.2 k (World.ownsRow.lt hr.out.row k hk).2 (fun e => row_notmap hr.out.row hown (e ▸ hk)))⟩
/-- both, of one content -/
def Both (w : World) (g b n g2 lo lo2 : Nat) (L : List En) : Prop := Hid (Md w lo g b n L) ∧ ∃ v, Hid (Rm w lo2 g2 v (pairsL L))
theorem Both.gr {w w' : World} {g b n g2 lo lo2 : Nat} {L : List En} (hg : GrM w w') (h : Hid (Both w g b n g2 lo lo2 L)) : Hid (Both w' g b n g2 lo lo2 L) := by
  obtain ⟨h1, v, h2⟩ := h.out
  exact Lib.hid ⟨Md.below hg h1, v, Rm.gr hg h2⟩
def S2 (b g2 : Nat) (k : Nat) : Prop := k = b ∨ k = g2
theorem Upd.s2b {b g2 : Nat} {w w' : World} (h : Upd (· = b) w w') : Upd (S2 b g2) w w' := ⟨h.1, h.2.1, h.2.2.1, h.2.2.2.1, fun k hk hn => h.2.2.2.2 k hk (fun e => hn (.inl e))⟩
theorem Upd.s2g {b g2 : Nat} {w w' : World} (h : Upd (· = g2) w w') : Upd (S2 b g2) w w' := ⟨h.1, h.2.1, h.2.2.1, h.2.2.2.1, fun k hk hn => h.2.2.2.2 k hk (fun e => hn (.inr e))⟩
def zD (L : List En) (k : List UInt8) : Int := if hasK L k = true then 0 else 5
def LD (L : List En) (k : List UInt8) : List En := if hasK L k = true then delK L k else L
/-- a delete of one, then of the other -/
theorem del_two (lo g b n lo2 g2 : Nat) (L : List En) (hL : L.length ≤ 1000) (k : List UInt8) (hk : k.length ≤ maxLen) (w : World) (h : Hid (Both w g b n g2 lo lo2 L)) :
    Calls Try.prog 9 #[.pointer (some ⟨g, 0, none⟩), .string (bs k)] w fun e w' => e = .returned (.int .i64 (zD L k)) ∧ Upd (S2 b g2) w w' ∧
      Calls Try.prog 10 #[.pointer (some ⟨g2, 0, none⟩), .string (bs k)] w' fun e w'' => e = .returned (.int .i64 (zD L k)) ∧ Upd (S2 b g2) w' w'' ∧ Hid (Both w'' g b n g2 lo lo2 (LD L k)) := by
  obtain ⟨hm, v, hr⟩ := h.out
  have hd := hm.out.dist
  have hri := rise_pairs hd
  have hany := any_pairs L k
  refine (del22_any lo g b n L k hk w hm).mono ?_
  rintro e w' (⟨h1, rfl, rfl⟩ | ⟨h1, rfl, hm', hu⟩)
  · have ez : zD L k = 5 := by unfold zD; rw [h1]; rfl
    have el : LD L k = L := by unfold LD; rw [h1]; rfl
    rw [ez, el]
    refine ⟨rfl, Upd.refl _ _, ?_⟩
    refine (rdel_no lo2 g2 v _ hri (by rw [pairsL_len]; exact hL) k w' hr (by rw [hany]; exact h1)).mono ?_
    rintro e w'' ⟨rfl, hr', hg⟩
    exact ⟨rfl, Upd.of_gr hg, Lib.hid ⟨Md.below hg hm, v, hr'⟩⟩
  · have ez : zD L k = 0 := by unfold zD; rw [h1]; rfl
    have el : LD L k = delK L k := by unfold LD; rw [h1]; rfl
    rw [ez, el]
    refine ⟨rfl, Upd.s2b hu, ?_⟩
    have hr1 := Rm.mdStep hr hm hu
    refine (rdel_yes lo2 g2 v _ hri (by rw [pairsL_len]; exact hL) k w' hr1 (by rw [hany]; exact h1)).mono ?_
    rintro e w'' ⟨rfl, v', hr', hu'⟩
    rw [← pairs_del hd h1 hm'.out.dist] at hr'
    exact ⟨rfl, Upd.s2g hu', Lib.hid ⟨Md.refStep hm' hr1 hu', v', hr'⟩⟩
/-- a put into one, then into the other -/
theorem put_two (lo g b n lo2 g2 : Nat) (L : List En) (hL : L.length ≤ 1000) (k d : List UInt8) (hk : k.length ≤ maxLen) (A : Option Addr) (m c : Nat) (hd : d.length = m) (hn : n ≤ 1000000) (w : World) (hlo : lo ≤ w.heap.size) (h : Hid (Both w g b n g2 lo lo2 L))
    (hrd : ∀ w', Upd (S2 b g2) w w' → Rd w' w'.heap.size A d) :
    Calls Try.prog 11 #[.pointer (some ⟨g, 0, none⟩), .string (bs k), .slice A m c] w fun e w' => e = .returned (.int .i64 (putE L k d)) ∧ Upd (S2 b g2) w w' ∧
      Calls Try.prog 12 #[.pointer (some ⟨g2, 0, none⟩), .string (bs k), .slice A m c] w' fun e w'' => e = .returned (.int .i64 (putE L k d)) ∧ Upd (S2 b g2) w' w'' ∧ ∃ L', L'.length ≤ L.length + 1 ∧ Hid (Both w'' g b (n + 1) g2 lo lo2 L') := by
  obtain ⟨hm, v, hr⟩ := h.out
  have hdd := hm.out.dist
  have hri := rise_pairs hdd
  have hany := any_pairs L k
  refine (put22_any lo g b n L k d A m c hk hd hn w hlo hm (hrd w (Upd.refl _ _))).mono ?_
  rintro e w' ⟨rfl, hp⟩
  rcases hp with ⟨h1, rfl⟩ | ⟨h1, v1, hm', hu⟩
  · refine ⟨rfl, Upd.refl _ _, ?_⟩
    refine (rput_all lo2 g2 v _ hri (by rw [pairsL_len]; exact hL) k d A m c hd w' hr (hrd w' (Upd.refl _ _)) L hany).mono ?_
    rintro e w'' ⟨rfl, (⟨-, hr', hg⟩ | ⟨h2, -⟩)⟩
    · obtain ⟨D, ho, hrel⟩ := (Md.below hg hm).out.own
      have hm2 := (Md.below hg hm).out
      exact ⟨rfl, Upd.of_gr hg, L, by omega, Lib.hid ⟨Lib.hid ⟨hm2.blk, hm2.gl, hm2.bl, ⟨D, ho.mono (by omega), hrel⟩, hm2.rows, hm2.ok⟩, v, hr'⟩⟩
    · exact absurd h2 h1
  · refine ⟨rfl, Upd.s2b hu, ?_⟩
    have hr1 := Rm.mdStep hr hm hu
    refine (rput_all lo2 g2 v _ hri (by rw [pairsL_len]; exact hL) k d A m c hd w' hr1 (hrd w' (Upd.s2b hu)) L hany).mono ?_
    rintro e w'' ⟨rfl, (⟨h2, -⟩ | ⟨-, v', hr', hu'⟩)⟩
    · exact absurd h1 h2
    · rw [← pairs_put hdd (putE_has h1) v1 d hm'.out.dist] at hr'
      exact ⟨rfl, Upd.s2g hu', _, by simp, Lib.hid ⟨Md.refStep hm' hr1 hu', v', hr'⟩⟩
end Go.Proofs.Ytipdjchgdhfciaa
