/- Plain: the disk of the law on the last notes: its states while the fuse burns, behind a crash, behind Open. -/
import Derived.Test.YtgdbbjijneidaaaJr26
namespace Go.Proofs.Ytgdbbjijneidaaa
set_option linter.unusedVariables false
set_option linter.unusedSimpArgs false
open Go Go.RowKit
def PN (G : List Nt) (k : Nat) : Nat := (framesB (G.take k)).length
def lsS (G : List Nt) (F k : Nat) : DS := ⟨framesB (G.take k), PN G k, true, (F : Int) - 2 * (k : Int)⟩
theorem fr_step {G : List Nt} {k : Nat} {n : Nt} (h : G[k]? = some n) : framesB (G.take (k + 1)) = framesB (G.take k) ++ frameB (encN n) := by
  rw [List.take_add_one, h, framesB_app]
  simp only [Option.toList_some]
  rw [framesB_one]
theorem PN_le (G : List Nt) (k : Nat) : PN G k ≤ (framesB G).length := framesB_mono G k
theorem PN_lt {G : List Nt} {k : Nat} (h : k < G.length) : PN G k < PN G (k + 1) := by
  unfold PN
  rw [fr_step (List.getElem?_eq_getElem h), List.length_append, frameB_len]
  omega
theorem take_frames (G : List Nt) (k : Nat) : (framesB G).take (PN G k) = framesB (G.take k) := by
  have hsp : framesB G = framesB (G.take k) ++ framesB (G.drop k) := by rw [← framesB_app, List.take_append_drop]
  unfold PN
  rw [hsp]
  exact List.take_left
theorem op_t {c : List UInt8} {d : Nat} {l : Int} (h : ¬ l = 0) : (DS.mk c d true l).op = (true, DS.mk c d true (l - 1)) := by unfold DS.op; simp [h]
theorem op_f {c : List UInt8} {d : Nat} {l : Int} (h : l = 0) : (DS.mk c d true l).op = (false, DS.mk c d true l) := by unfold DS.op; simp [h]
theorem sync_t {c : List UInt8} {d : Nat} {l : Int} (h : ¬ l = 0) : (DS.mk c d true l).sync = (0, DS.mk c c.length true (l - 1)) := by unfold DS.sync; rw [op_t h]; rfl
theorem sync_f {c : List UInt8} {d : Nat} {l : Int} (h : l = 0) : (DS.mk c d true l).sync = (11, DS.mk c d true l) := by unfold DS.sync; rw [op_f h]; rfl
theorem ls_append {G : List Nt} {F k : Nat} {n : Nt} (hk : G[k]? = some n) (hl : (framesB G).length ≤ 262144) (hF : 2 * k + 1 ≤ F) :
    (lsS G F k).append (frameB (encN n)) = (0, ⟨framesB (G.take (k + 1)), PN G k, true, (F : Int) - 2 * (k : Int) - 1⟩) := by
  have h1 := PN_le G (k + 1)
  unfold PN at h1
  rw [fr_step hk, List.length_append] at h1
  unfold DS.append
  rw [if_neg (by show ¬ (262144 < (framesB (G.take k)).length + (frameB (encN n)).length); omega)]
  have h2 : ¬ ((F : Int) - 2 * (k : Int) = 0) := by omega
  have h3 : (lsS G F k).op = (true, ⟨framesB (G.take k), PN G k, true, (F : Int) - 2 * (k : Int) - 1⟩) := op_t h2
  rw [h3, if_pos rfl, fr_step hk]
  rfl
theorem ls_step {G : List Nt} {F k : Nat} {n : Nt} (hk : G[k]? = some n) (hl : (framesB G).length ≤ 262144) (hF : 2 * k + 2 ≤ F) :
    adS (lsS G F k) (frameB (encN n)) = (0, lsS G F (k + 1)) := by
  unfold adS
  rw [ls_append hk hl (by omega), if_pos rfl]
  have h2 : ¬ ((F : Int) - 2 * (k : Int) - 1 = 0) := by omega
  rw [sync_t h2]
  unfold lsS
  have h3 : (F : Int) - 2 * (k : Int) - 1 - 1 = (F : Int) - 2 * ((k + 1 : Nat) : Int) := by omega
  rw [h3]
  rfl
structure LsEnd (G : List Nt) (k : Nat) (s : DS) : Prop where
  dur : s.dur = PN G k
  c : ∃ m, m ≤ (framesB G).length ∧ s.c = (framesB G).take m ∧ PN G k ≤ m ∧ (m = PN G k ∨ (k < G.length ∧ m ≤ PN G (k + 1)))
theorem ls_all (G : List Nt) (F k : Nat) : LsEnd G k (lsS G F k) := ⟨rfl, PN G k, PN_le G k, (take_frames G k).symm, Nat.le_refl _, .inl rfl⟩
theorem ls_stop {G : List Nt} {F k : Nat} {n : Nt} (hk : G[k]? = some n) (hl : (framesB G).length ≤ 262144) (h1 : 2 * k ≤ F) (h2 : F < 2 * k + 2) :
    (adS (lsS G F k) (frameB (encN n))).1 = 11 ∧ LsEnd G k (adS (lsS G F k) (frameB (encN n))).2 := by
  have hlt : k < G.length := (List.getElem?_eq_some_iff.mp hk).1
  by_cases hF : F = 2 * k
  · have ha : (lsS G F k).append (frameB (encN n)) = (11, lsS G F k) := by
      have h1 := PN_le G (k + 1)
      unfold PN at h1
      rw [fr_step hk, List.length_append] at h1
      unfold DS.append
      rw [if_neg (by show ¬ (262144 < (framesB (G.take k)).length + (frameB (encN n)).length); omega)]
      have h2 : (F : Int) - 2 * (k : Int) = 0 := by omega
      have h3 : (lsS G F k).op = (false, lsS G F k) := op_f h2
      rw [h3]
      rfl
    unfold adS
    rw [ha, if_neg (show ¬ ((11 : Int) = 0) by decide)]
    exact ⟨rfl, ls_all G F k⟩
  · have h3 : (F : Int) - 2 * (k : Int) - 1 = 0 := by omega
    have ha : adS (lsS G F k) (frameB (encN n)) = (11, ⟨framesB (G.take (k + 1)), PN G k, true, (F : Int) - 2 * (k : Int) - 1⟩) := by
      unfold adS
      rw [ls_append hk hl (by omega), if_pos rfl]
      rw [sync_f h3]
    rw [ha]
    exact ⟨rfl, rfl, PN G (k + 1), PN_le _ _, (take_frames G (k + 1)).symm, Nat.le_of_lt (PN_lt hlt), .inr ⟨hlt, Nat.le_refl _⟩⟩
theorem scan_at {G : List Nt} (hG : ∀ n ∈ G, goodN n = true) {i : Nat} (hi : i ≤ G.length) : scanN ((framesB G).take (PN G i)) = (G.take i, PN G i) :=
  scan_cut hG (PN_le G i) hi (Nat.le_refl _) (fun h => PN_lt h)
theorem scan_end {G : List Nt} (hG : ∀ n ∈ G, goodN n = true) {m k : Nat} (hk : k ≤ G.length) (hm : m ≤ (framesB G).length) (h1 : PN G k ≤ m) (h2 : m = PN G k ∨ (k < G.length ∧ m ≤ PN G (k + 1))) :
    ∃ i, (i = k ∨ (i = k + 1 ∧ k < G.length)) ∧ i ≤ G.length ∧ scanN ((framesB G).take m) = (G.take i, PN G i) ∧ PN G i ≤ m := by
  by_cases h3 : k < G.length ∧ m = PN G (k + 1)
  · obtain ⟨h4, rfl⟩ := h3
    exact ⟨k + 1, .inr ⟨rfl, h4⟩, h4, scan_at hG h4, Nat.le_refl _⟩
  · refine ⟨k, .inl rfl, hk, scan_cut hG hm hk h1 (fun h => ?_), h1⟩
    have h5 := PN_lt h
    unfold PN at *
    rcases h2 with h2 | ⟨-, h2⟩
    · omega
    · have : m ≠ (framesB (G.take (k + 1))).length := fun e => h3 ⟨h, e⟩
      omega
/-- behind the crash, the first Open and the second -/
theorem ls_end {G : List Nt} (hG : ∀ n ∈ G, goodN n = true) (hl : (framesB G).length ≤ 262144) {k : Nat} (hk : k ≤ G.length) {s : DS} (hok : s.Ok) (h : LsEnd G k s) (keep : Int) :
    ∃ i, (i = k ∨ (i = k + 1 ∧ k < G.length)) ∧ i ≤ G.length ∧ scanN (s.crash keep).c = (G.take i, PN G i) ∧ (opS (s.crash keep)).1 = 0 ∧ scanN (opS (s.crash keep)).2.c = (G.take i, PN G i) ∧ opS (opS (s.crash keep)).2 = (0, (opS (s.crash keep)).2) := by
  obtain ⟨hd, m0, hm0, hc, h1, h2⟩ := h
  obtain ⟨-, hk1, hk2⟩ := s.kept_int hok keep
  have hcl : s.c.length = m0 := by rw [hc, List.length_take]; omega
  obtain ⟨m, hm⟩ : ∃ m, s.kept keep = m := ⟨_, rfl⟩
  rw [hm] at hk1 hk2
  have hcc : (s.crash keep).c = (framesB G).take m := by
    show s.c.take (s.kept keep) = _
    rw [hm, hc, List.take_take, Nat.min_eq_left (by omega)]
  have hfu : (s.crash keep).fused = false := rfl
  obtain ⟨t, ht⟩ : ∃ t, s.crash keep = t := ⟨_, rfl⟩
  rw [ht] at hcc hfu ⊢
  obtain ⟨i, hi, hil, hsc, hle⟩ := scan_end hG hk (m := m) (by omega) (by omega) (by
    rcases h2 with h2 | ⟨h3, h2⟩
    · left; omega
    · right; exact ⟨h3, by omega⟩)
  rw [← hcc] at hsc
  have htl : t.c.length = m := by rw [hcc, List.length_take]; omega
  have hsa := scan_at hG hil
  refine ⟨i, hi, hil, hsc, ?_⟩
  by_cases hw : PN G i < m
  · have ho : opS t = (0, { t with c := t.c.take (PN G i), dur := (t.c.take (PN G i)).length }) := by
      unfold opS
      rw [hsc, if_pos (by omega)]
      unfold DS.swap
      rw [if_neg (by rw [List.length_take]; omega), DS.op_free hfu]
      rfl
    have hc2 : t.c.take (PN G i) = (framesB G).take (PN G i) := by rw [hcc, List.take_take, Nat.min_eq_left (by omega)]
    rw [hc2] at ho
    rw [ho]
    refine ⟨rfl, hsa, ?_⟩
    unfold opS
    simp only
    rw [hsa, if_neg (by simp only; rw [List.length_take]; have := PN_le G i; omega)]
  · have ho : opS t = (0, t) := by unfold opS; rw [hsc, if_neg (by simp only; omega)]
    rw [ho]
    exact ⟨rfl, hsc, ho⟩
theorem ON.tchg {E : List Ne} {v : Value} {base lo : Nat} {w0 w w' : World} (h : Hid (ON E v base w)) (hold : ∀ x ∈ E, NeV x w0) (hg : Gr w0 w') (hc : TChg lo jts w w') : Hid (ON E v base w') :=
  Lib.hid ⟨row_tchg h.out.row hc (by decide), fun x hx => (hold x hx).gr hg, h.out.ap⟩
end Go.Proofs.Ytgdbbjijneidaaa
