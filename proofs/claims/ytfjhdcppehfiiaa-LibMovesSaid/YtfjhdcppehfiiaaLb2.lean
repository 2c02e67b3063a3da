/- lib: Working, Drive, holder, nextToLoad. -/
import Derived.Test.YtfjhdcppehfiiaaLb1
namespace Go.Proofs.Ytfjhdcppehfiiaa
set_option linter.unusedVariables false
set_option linter.unusedSimpArgs false
open Go Go.RowKit
def workN (D : List Dr) : Nat := (D.filter (fun d => !d.broken)).length
theorem work_step {D : List Dr} {i : Nat} {d : Dr} (h : D[i]? = some d) : workN (D.take (i + 1)) = workN (D.take i) + (if d.broken = true then 0 else 1) := by
  unfold workN
  rw [List.take_add_one, h, List.filter_append, List.length_append]
  cases hb : d.broken <;> simp [hb]
section
variable (lo g : Nat) (vc vd : Value) (C : List Nat) (D : List Dr) (calls : Nat) (w : World) (h : Hid (Lb w lo g vc vd C D calls))
include h
set_option maxHeartbeats 1000000 in
set_option maxRecDepth 10000 in
theorem working_any : Calls Try.prog 9 #[.pointer (some ⟨g, 0, none⟩)] w fun e w' => e = .returned (.int .i64 (workN D)) ∧ w' = w := by
  have hdr := Lib.hid (drives_any lo g vc vd C D calls w h)
  obtain ⟨Ac, cc, Ad, cd, rfl, rfl⟩ := h.out.form
  have c1 := blk_cell (j := 1) h.out.blk rfl
  obtain ⟨n, hn⟩ : ∃ n, D.length = n := ⟨_, rfl⟩
  have hn4 : n ≤ 4 := by rw [← hn]; exact h.out.ld
  obtain ⟨res, hres⟩ : ∃ res, workN D = res := ⟨_, rfl⟩
  rw [hn] at c1 hdr
  have h' := h.out
  rw [hn] at h'
  rw [hres]
  replace h := Lib.hid h'
  replace hn := Lib.hid hn
  replace hres := Lib.hid hres
  clear h'
  go_enter Try.func9, Try.ntmps9
  go_wp2_with (go_at_call 16; go_must (refine hdr.out.mono ?_); rintro e w' ⟨rfl, hee⟩; rw [hee]; clear hee)
  go_loopw [3, 7] (fun s z wr => ∃ i t : Nat, s = .int .i64 t ∧ z = .int .i64 i ∧ i ≤ n ∧ t ≤ i ∧ Hid (t = workN (D.take i)) ∧ wr = w) (fun _ z _ => n - (intOf z).toNat)
  case atStart => exact ⟨0, 0, rfl, rfl, Nat.zero_le _, Nat.zero_le _, Lib.hid rfl, rfl⟩
  case round =>
    obtain ⟨i, t, rfl, rfl, hi, ht, hts, rfl⟩ := hrel
    by_cases hlt : i < n
    · have ii : (i : Int) < (n : Int) := by omega
      have iip : (0 : Int) ≤ (i : Int) := by omega
      obtain ⟨bd, rfl, -, -, hc⟩ := h.out.driveAt (by rw [hn.out]; omega)
      obtain ⟨d, hd⟩ : ∃ d, D[i]? = some d := ⟨_, List.getElem?_eq_getElem (by rw [hn.out]; exact hlt)⟩
      obtain ⟨a1, -, -, -⟩ := hc i d hd
      have hst := work_step hd
      rw [← hts.out] at hst
      replace hd := Lib.hid hd
      clear hc
      cases hb : d.broken with
      | true =>
        rw [hb] at a1 hst
        simp only [if_true, Nat.add_zero] at hst
        replace hst := Lib.hid hst
        go_wp2_with fail
        go_roundw
        case rel => exact ⟨i + 1, t, rfl, by go_num, by omega, by omega, Lib.hid hst.out.symm, by trivial⟩
        case measure => simp [intOf]; omega
      | false =>
        rw [hb] at a1 hst
        simp only [Bool.false_eq_true, if_false] at hst
        replace hst := Lib.hid hst
        go_wp2_with fail
        go_roundw
        case rel => exact ⟨i + 1, t + 1, by go_num, by go_num, by omega, by omega, Lib.hid hst.out.symm, by trivial⟩
        case measure => simp [intOf]; omega
    · obtain rfl : i = n := by omega
      have ii : decide ((i : Int) < (i : Int)) = false := decide_eq_false (by omega)
      have : t = res := by rw [hts.out, ← hres.out, List.take_of_length_le (by rw [hn.out]; exact Nat.le_refl _)]
      subst this
      go_wp2_with fail
      go_ret
      exact ⟨rfl, rfl⟩
set_option maxHeartbeats 1000000 in
set_option maxRecDepth 10000 in
theorem holder_any (z : Int) : Calls Try.prog 27 #[.pointer (some ⟨g, 0, none⟩), .int .i64 z] w fun e w' => ((e = .returned (.pointer none) ∧ ∀ d ∈ D, d.cart ≠ z) ∨ (∃ bd cd i d, vd = .slice (some ⟨bd, 0, none⟩) D.length cd ∧ e = .returned (.pointer (some ⟨bd, i * 4, none⟩)) ∧ D[i]? = some d ∧ d.cart = z ∧ ∀ (j : Nat) (d' : Dr), j < i → D[j]? = some d' → d'.cart ≠ z)) ∧ w' = w := by
  obtain ⟨Ac, cc, Ad, cd, rfl, rfl⟩ := h.out.form
  have c1 := blk_cell (j := 1) h.out.blk rfl
  obtain ⟨n, hn⟩ : ∃ n, D.length = n := ⟨_, rfl⟩
  have hn4 : n ≤ 4 := by rw [← hn]; exact h.out.ld
  rw [hn] at c1
  have h' := h.out
  rw [hn] at h' ⊢
  replace h := Lib.hid h'
  replace hn := Lib.hid hn
  clear h'
  go_enter Try.func27, Try.ntmps27
  go_wp2_with fail
  go_loopw [11] (fun q wr => ∃ i : Nat, q = .int .i64 i ∧ i ≤ n ∧ Hid (∀ (j : Nat) (d' : Dr), j < i → D[j]? = some d' → d'.cart ≠ z) ∧ wr = w) (fun q _ => n - (intOf q).toNat)
  case atStart => exact ⟨0, rfl, Nat.zero_le _, Lib.hid (fun j d' hj => by omega), rfl⟩
  case round =>
    obtain ⟨i, rfl, hi, hno, rfl⟩ := hrel
    by_cases hlt : i < n
    · have ii : (i : Int) < (n : Int) := by omega
      have iip : (0 : Int) ≤ (i : Int) := by omega
      obtain ⟨bd, rfl, -, -, hc⟩ := h.out.driveAt (by rw [hn.out]; omega)
      obtain ⟨d, hd⟩ : ∃ d, D[i]? = some d := ⟨_, List.getElem?_eq_getElem (by rw [hn.out]; exact hlt)⟩
      obtain ⟨-, a2, -, -⟩ := hc i d hd
      replace hd := Lib.hid hd
      clear hc
      by_cases hz : d.cart = z
      · have hzb : (d.cart == z) = true := by rw [hz]; simp
        have hz' := Lib.hid hz
        clear hz
        generalize hdc : d.cart = dc at *
        replace hdc := Lib.hid hdc
        go_wp2_with fail
        go_ret
        exact ⟨.inr ⟨bd, cd, i, d, rfl, rfl, hd.out, by rw [hdc.out]; exact hz'.out, hno.out⟩, rfl⟩
      · have hzb : (d.cart == z) = false := beq_false_of_ne hz
        have hz' := Lib.hid hz
        clear hz
        generalize hdc : d.cart = dc at *
        replace hdc := Lib.hid hdc
        go_wp2_with fail
        go_roundw
        case rel => exact ⟨i + 1, by go_num, by omega, Lib.hid (fun j d' hj hd' => by
          rcases Nat.lt_succ_iff_lt_or_eq.1 hj with hj | rfl
          · exact hno.out j d' hj hd'
          · rw [hd.out] at hd'
            injection hd' with hd'
            rw [← hd', hdc.out]
            exact hz'.out), by trivial⟩
        case measure => simp [intOf]; omega
    · obtain rfl : i = n := by omega
      have ii : decide ((i : Int) < (i : Int)) = false := decide_eq_false (by omega)
      go_wp2_with fail
      go_ret
      refine ⟨.inl ⟨rfl, fun d hd => ?_⟩, rfl⟩
      obtain ⟨j, hj⟩ := List.mem_iff_getElem?.1 hd
      exact hno.out j d (by rw [← hn.out]; exact (List.getElem?_eq_some_iff.1 hj).1) hj
end
end Go.Proofs.Ytfjhdcppehfiiaa
