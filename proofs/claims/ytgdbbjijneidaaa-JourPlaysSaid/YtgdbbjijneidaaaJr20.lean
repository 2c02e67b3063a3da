/- Frames: what a scan tells of frames and of what they are cut off to. Plain. -/
import Derived.Test.YtgdbbjijneidaaaJr17
import Derived.Test.YtgdbbjijneidaaaJr10
namespace Go.Proofs.Ytgdbbjijneidaaa
set_option linter.unusedVariables false
set_option linter.unusedSimpArgs false
open Go Go.RowKit
theorem framesB_nil : framesB [] = [] := rfl
theorem framesB_cons (n : Nt) (L : List Nt) : framesB (n :: L) = frameB (encN n) ++ framesB L := by unfold framesB; rw [List.flatMap_cons]
theorem scan_nil : scanN [] = ([], 0) := scanN_none rfl
theorem scan_frames {L : List Nt} (h : ∀ n ∈ L, goodN n = true) (t : List UInt8) : scanN (framesB L ++ t) = (L ++ (scanN t).1, (framesB L).length + (scanN t).2) := by
  induction L with
  | nil => simp [framesB]
  | cons n L ih =>
    rw [framesB_cons, List.append_assoc, scanN_some (lead_frame (h n (by simp)) _), List.drop_left' rfl, ih (fun m hm => h m (by simp [hm]))]
    simp [Nat.add_assoc]
theorem frameB_head (X : List UInt8) : ∃ t, frameB X = bytes4 (BitVec.ofNat 32 X.length) ++ t ∧ t.length = 4 + X.length := by
  refine ⟨_, rfl, ?_⟩
  rw [List.length_append]
  rfl
theorem le32_take {b : List UInt8} {m : Nat} (hm : 4 ≤ m) : le32 (b.take m) = le32 b := by
  unfold le32
  simp only [List.getD_eq_getElem?_getD, List.getElem?_take]
  rw [if_pos (by omega), if_pos (by omega), if_pos (by omega), if_pos (by omega)]
theorem lead_pre {n : Nt} (h : goodN n = true) (t : List UInt8) {m : Nat} (hm : m < (frameB (encN n)).length) : leadN ((frameB (encN n) ++ t).take m) = none := by
  have hlen := encN_len ((good_iff n).1 h)
  obtain ⟨X, hX⟩ : ∃ X, encN n = X := ⟨_, rfl⟩
  rw [hX] at hm hlen ⊢
  have hfl := frameB_len X
  have hbl : ((frameB X ++ t).take m).length = m := by rw [List.length_take, List.length_append]; omega
  unfold leadN
  rw [hbl]
  by_cases h8 : m < 8
  · rw [if_pos h8]
  · rw [if_neg h8, le32_take (by omega)]
    have hle : le32 (frameB X ++ t) = X.length := by
      unfold frameB
      rw [List.append_assoc, le32_bytes4, BitVec.toNat_ofNat, Nat.mod_eq_of_lt (by omega)]
    rw [hle, if_pos (by omega)]
/-- frames cut off: k of them are whole -/
theorem scan_cut {L : List Nt} (h : ∀ n ∈ L, goodN n = true) {m k : Nat} (hm : m ≤ (framesB L).length) (hk : k ≤ L.length) (h1 : (framesB (L.take k)).length ≤ m) (h2 : k < L.length → m < (framesB (L.take (k + 1))).length) :
    scanN ((framesB L).take m) = (L.take k, (framesB (L.take k)).length) := by
  have hsp : framesB L = framesB (L.take k) ++ framesB (L.drop k) := by rw [← framesB_app, List.take_append_drop]
  have htk : (framesB L).take m = framesB (L.take k) ++ (framesB (L.drop k)).take (m - (framesB (L.take k)).length) := by
    rw [hsp, List.take_append, List.take_of_length_le h1]
  rw [htk, scan_frames (fun n hn => h n (List.mem_of_mem_take hn))]
  have hz : scanN ((framesB (L.drop k)).take (m - (framesB (L.take k)).length)) = ([], 0) := by
    cases hd : L.drop k with
    | nil => rw [framesB_nil, List.take_nil]; exact scan_nil
    | cons n R =>
      have hkl : k < L.length := by
        have := congrArg List.length hd
        rw [List.length_drop, List.length_cons] at this
        omega
      have hn : L[k]? = some n := by
        rw [← List.head?_drop, hd]
        rfl
      have h3 := h2 hkl
      rw [List.take_add_one, hn, framesB_app] at h3
      simp only [Option.toList_some] at h3
      rw [framesB_one, List.length_append] at h3
      rw [framesB_cons]
      exact scanN_none (lead_pre (h n (List.mem_of_getElem? hn)) _ (by omega))
  rw [hz]
  simp
theorem framesB_mono (L : List Nt) (k : Nat) : (framesB (L.take k)).length ≤ (framesB L).length := by
  have hsp : framesB L = framesB (L.take k) ++ framesB (L.drop k) := by rw [← framesB_app, List.take_append_drop]
  rw [hsp, List.length_append]
  omega
theorem fr_step {G : List Nt} {k : Nat} {n : Nt} (h : G[k]? = some n) : framesB (G.take (k + 1)) = framesB (G.take k) ++ frameB (encN n) := by
  rw [List.take_add_one, h, framesB_app]
  simp only [Option.toList_some]
  rw [framesB_one]
theorem atL_get (L : List Nt) {i : Nat} (hi : i < L.length) : (atL L)[i]? = some ((framesB (L.take i)).length : Int) := by
  unfold atL
  rw [List.getElem?_map, List.getElem?_range hi]
  rfl
theorem NsV.cut {L : List Nt} {A : Option Addr} {n c : Nat} {w : World} (h : NsV L (.slice A n c) w) {k : Nat} (hk : k ≤ L.length) : NsV (L.take k) (.slice A k c) w := by
  obtain ⟨E, A', c', rfl, e, h1, h2, h3, h4⟩ := h
  injection e with e1 e2 e3
  subst e1
  subst e2
  subst e3
  rw [List.length_map] at hk
  have hl : (E.take k).length = k := by rw [List.length_take]; omega
  refine ⟨E.take k, _, _, by rw [List.map_take], by rw [hl], by omega, h2, fun hp => ?_, fun x hx => h4 x (List.mem_of_mem_take hx)⟩
  rw [hl] at hp
  obtain ⟨b, o, ea, hb, hc⟩ := h3 (by omega)
  refine ⟨b, o, ea, hb, fun i x hx j u hu => hc i x ?_ j u hu⟩
  rw [List.getElem?_take] at hx
  split at hx
  · exact hx
  · cases hx
end Go.Proofs.Ytgdbbjijneidaaa
