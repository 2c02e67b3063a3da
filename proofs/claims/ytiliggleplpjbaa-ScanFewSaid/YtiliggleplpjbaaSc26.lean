/- scan, plain: two copies of one key. -/
import Derived.Test.YtiliggleplpjbaaScZ
namespace Go.Proofs.Ytiliggleplpjbaa
set_option linter.unusedVariables false
set_option linter.unusedSimpArgs false
open Go Go.RowKit Go.Maps
theorem keptN_from {i : Nat} (hi : i < 3) : keptN (fun s => decide (i ≤ s)) 0 = 10 - i := by
  match i, hi with
  | 0, _ => decide
  | 1, _ => decide
  | 2, _ => decide
theorem range_from {i : Nat} (hi : i < 3) : (List.range 10).drop i = (List.range 10).filter (fun s => decide (i ≤ s)) := by
  match i, hi with
  | 0, _ => decide
  | 1, _ => decide
  | 2, _ => decide
theorem Kp.few10 {key sum data : By} {gen z frm : Int} (K : Kp key gen z sum data frm) (hs : nSlots ⟨key, gen, z, sum⟩ = 10) {i : Nat} (hi : i < 3) : fewestL (placesOf (keptL key gen z sum data frm (fun s => decide (i ≤ s)) 10) ⟨key, gen, z, sum⟩) = 10 - i := by
  have h := K.fewest (fun s => decide (i ≤ s))
  rw [hs] at h
  have h1 : ∀ k, k ≤ fewestL (placesOf (keptL key gen z sum data frm (fun s => decide (i ≤ s)) 10) ⟨key, gen, z, sum⟩) ↔ k ≤ 10 - i := fun k => by
    rw [h k]
    constructor
    · rintro ⟨-, h2⟩
      have := h2 0 (by omega)
      rwa [keptN_from hi] at this
    · intro h2
      refine ⟨by omega, fun g hg => ?_⟩
      obtain rfl : g = 0 := by omega
      rw [keptN_from hi]
      exact h2
  have a := (h1 (10 - i)).mpr (Nat.le_refl _)
  have b := (h1 (fewestL (placesOf (keptL key gen z sum data frm (fun s => decide (i ≤ s)) 10) ⟨key, gen, z, sum⟩))).mp (Nat.le_refl _)
  omega
/-- of two copies the one that is the better -/
theorem two_out {key sum data : By} {ga gb z fa fb : Int} (Ka : Kp key ga z sum data fa) (Kb : Kp key gb z sum data fb) (hs : ∀ g, nSlots ⟨key, g, z, sum⟩ = 10) (hlt : ga < gb) {i j : Nat} (hi : i < 3) (hj : j < 3)
    {C : List Fd} (hC : C = keptL key ga z sum data fa (fun s => decide (i ≤ s)) 10 ++ keptL key gb z sum data fb (fun s => decide (j ≤ s)) 10 ∨ C = keptL key gb z sum data fb (fun s => decide (j ≤ s)) 10 ++ keptL key ga z sum data fa (fun s => decide (i ≤ s)) 10) {out : List EnP} (h : IsOut C out) :
    (∃ e, out = [e] ∧ e.gen = if i < j then ga else gb) ∧ mostG C = gb := by
  obtain ⟨X, hX⟩ : ∃ X, keptL key ga z sum data fa (fun s => decide (i ≤ s)) 10 = X := ⟨_, rfl⟩
  obtain ⟨Y, hY⟩ : ∃ Y, keptL key gb z sum data fb (fun s => decide (j ≤ s)) 10 = Y := ⟨_, rfl⟩
  have hXv : ∀ f ∈ X, f.r.vr = ⟨key, ga, z, sum⟩ ∧ f.r.kind = 2 ∧ f.r.gen = ga := fun f hf => by rw [← hX] at hf; exact ⟨(kept_vr hf).2.1, (kept_vr hf).1, (kept_vr hf).2.2.1⟩
  have hYv : ∀ f ∈ Y, f.r.vr = ⟨key, gb, z, sum⟩ ∧ f.r.kind = 2 ∧ f.r.gen = gb := fun f hf => by rw [← hY] at hf; exact ⟨(kept_vr hf).2.1, (kept_vr hf).1, (kept_vr hf).2.2.1⟩
  have hne : (⟨key, ga, z, sum⟩ : Vr) ≠ ⟨key, gb, z, sum⟩ := fun e => by injection e with _ e _ _; omega
  have hfx : fewestL (placesOf X ⟨key, ga, z, sum⟩) = 10 - i := by rw [← hX]; exact Ka.few10 (hs ga) hi
  have hfy : fewestL (placesOf Y ⟨key, gb, z, sum⟩) = 10 - j := by rw [← hY]; exact Kb.few10 (hs gb) hj
  have hmx : (⟨key, ga, z, sum⟩ : Vr) ∈ vers X := by rw [← hX]; exact kept_in (s := 9) (by omega) (by simp; omega)
  have hmy : (⟨key, gb, z, sum⟩ : Vr) ∈ vers Y := by rw [← hY]; exact kept_in (s := 9) (by omega) (by simp; omega)
  have hpx : placesOf C ⟨key, ga, z, sum⟩ = placesOf X ⟨key, ga, z, sum⟩ := by
    rcases hC with rfl | rfl
    · rw [hX, hY]; unfold placesOf; exact List.map_congr_left (fun i _ => placeOf_app_l (fun f hf => by rw [(hYv f hf).1]; exact hne.symm) i)
    · rw [hX, hY]; unfold placesOf; exact List.map_congr_left (fun i _ => placeOf_app_r (fun f hf => by rw [(hYv f hf).1]; exact hne.symm) i)
  have hpy : placesOf C ⟨key, gb, z, sum⟩ = placesOf Y ⟨key, gb, z, sum⟩ := by
    rcases hC with rfl | rfl
    · rw [hX, hY]; unfold placesOf; exact List.map_congr_left (fun i _ => placeOf_app_r (fun f hf => by rw [(hXv f hf).1]; exact hne) i)
    · rw [hX, hY]; unfold placesOf; exact List.map_congr_left (fun i _ => placeOf_app_l (fun f hf => by rw [(hXv f hf).1]; exact hne) i)
  have hdd : ∀ v, deadB C v = false := fun v => by
    rcases hC with rfl | rfl
    · rw [deadB_app, kept_dead, kept_dead]; rfl
    · rw [deadB_app, kept_dead, kept_dead]; rfl
  have hmem : ∀ u, u ∈ vers C ↔ u ∈ vers X ∨ u ∈ vers Y := fun u => by
    rcases hC with rfl | rfl
    · rw [hX, hY, vers_app, List.mem_append]
    · rw [hX, hY, vers_app, List.mem_append, or_comm]
  have huu : ∀ u ∈ vers C, u = ⟨key, ga, z, sum⟩ ∨ u = ⟨key, gb, z, sum⟩ := fun u hu => by
    rcases (hmem u).mp hu with h1 | h1
    · rw [← hX] at h1; exact .inl (kept_vers h1)
    · rw [← hY] at h1; exact .inr (kept_vers h1)
  have hus : ∀ v, fewestL (placesOf C v) ≥ 8 → usable C v = true := fun v h8 => by unfold usable; rw [hdd, decide_eq_true h8]; rfl
  have hax : (entV C ⟨key, ga, z, sum⟩).places = placesOf X ⟨key, ga, z, sum⟩ := hpx
  have hay : (entV C ⟨key, gb, z, sum⟩).places = placesOf Y ⟨key, gb, z, sum⟩ := hpy
  refine ⟨?_, ?_⟩
  · by_cases hij : i < j
    · rw [if_pos hij]
      refine ⟨_, h.one (v := ⟨key, ga, z, sum⟩) ((hmem _).mpr (.inl hmx)) (hus _ (by rw [hpx, hfx]; omega)) (fun u hu _ => ?_), rfl⟩
      rcases huu u hu with rfl | rfl
      · exact .inl rfl
      · refine .inr ⟨rfl, ?_⟩
        unfold aheadB
        rw [hax, hay, hfx, hfy, if_pos (by omega)]
        exact decide_eq_true (by omega)
    · rw [if_neg hij]
      refine ⟨_, h.one (v := ⟨key, gb, z, sum⟩) ((hmem _).mpr (.inr hmy)) (hus _ (by rw [hpy, hfy]; omega)) (fun u hu _ => ?_), rfl⟩
      rcases huu u hu with rfl | rfl
      · refine .inr ⟨rfl, ?_⟩
        unfold aheadB
        rw [hax, hay, hfx, hfy]
        by_cases he : i = j
        · subst he
          rw [if_neg (by simp), if_pos (by show gb ≠ ga; omega)]
          exact decide_eq_true (show ga < gb from hlt)
        · rw [if_pos (by omega)]
          exact decide_eq_true (by omega)
      · exact .inl rfl
  · have hg0 := Kb.g0
    have h1 : mostG C ≤ gb := foldG_le _ 0 _ hg0 (fun f hf => by
      have hf : f ∈ X ∨ f ∈ Y := by
        rcases hC with rfl | rfl
        · rw [hX, hY] at hf; exact List.mem_append.mp hf
        · rw [hX, hY] at hf; exact (List.mem_append.mp hf).symm
      rcases hf with hf | hf
      · rw [(hXv f hf).2.2]; omega
      · rw [(hYv f hf).2.2]; exact Int.le_refl _)
    have h2 : gb ≤ mostG C := by
      obtain ⟨f, hf, -, -⟩ := mem_vers.mp hmy
      have := (hYv f hf).2.2
      rw [← this]
      refine mostG_ge ?_
      rcases hC with rfl | rfl
      · rw [hX, hY]; exact List.mem_append.mpr (.inr hf)
      · rw [hX, hY]; exact List.mem_append.mpr (.inl hf)
    omega
end Go.Proofs.Ytiliggleplpjbaa
