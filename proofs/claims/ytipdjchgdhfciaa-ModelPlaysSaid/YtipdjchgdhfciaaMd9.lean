/- model: the text tells the blobs. -/
import Derived.Test.YtipdjchgdhfciaaMd7
import Derived.Test.YtipdjchgdhfciaaWordGetM
namespace Go.Proofs.Ytipdjchgdhfciaa
set_option linter.unusedVariables false
set_option linter.unusedSimpArgs false
open Go Go.RowKit Go.Maps Go.Sort
theorem rtext_enc (m l : List UInt8) (most : Int) (h : (m.length : Int) ≤ most) (hm : m.length ≤ 9223372036854775807) : rtext (some (enc m.length ++ (m ++ l))) most = (m, some l) := by
  have h1 : rget (some (enc m.length ++ (m ++ l))) most = ((m.length : Int), some (m ++ l)) := by
    show (match lead (enc m.length ++ (m ++ l)) with | none => ((0 : Int), (none : RS)) | some (n, k) => if (n : Int) ≤ most then ((n : Int), some ((enc m.length ++ (m ++ l)).drop k)) else (0, none)) = _
    rw [lead_enc m.length hm (m ++ l)]
    show (if (m.length : Int) ≤ most then ((m.length : Int), some ((enc m.length ++ (m ++ l)).drop (enc m.length).length)) else (0, none)) = _
    rw [if_pos h, List.drop_left]
  unfold rtext
  rw [h1]
  simp
/-- keys with what is stored of them, one behind the other -/
def flatT : List (List UInt8 × List UInt8) → List UInt8
  | [] => []
  | p :: ps => enc p.1.length ++ (p.1 ++ (enc p.2.length ++ (p.2 ++ flatT ps)))
def Short (ps : List (List UInt8 × List UInt8)) : Prop := ∀ p ∈ ps, p.1.length ≤ 16 ∧ p.2.length ≤ 512
theorem read_flat {p : List UInt8 × List UInt8} {ps : List (List UInt8 × List UInt8)} (h : Short (p :: ps)) :
    rtext (some (flatT (p :: ps))) 16 = (p.1, some (enc p.2.length ++ (p.2 ++ flatT ps))) ∧ rtext (some (enc p.2.length ++ (p.2 ++ flatT ps))) 512 = (p.2, some (flatT ps)) := by
  obtain ⟨h1, h2⟩ := h p (by simp)
  exact ⟨rtext_enc _ _ _ (by omega) (by omega), rtext_enc _ _ _ (by omega) (by omega)⟩
theorem flatT_inj : ∀ {ps qs : List (List UInt8 × List UInt8)}, Short ps → Short qs → flatT ps = flatT qs → ps = qs
  | [], [], _, _, _ => rfl
  | [], q :: qs, _, hq, h => by
    have h2 := (enc_length q.1.length (by have := (hq q (by simp)).1; omega)).1
    have h1 := congrArg List.length h
    simp only [flatT, List.length_append, List.length_nil] at h1
    omega
  | p :: ps, [], hp, _, h => by
    have h2 := (enc_length p.1.length (by have := (hp p (by simp)).1; omega)).1
    have h1 := congrArg List.length h
    simp only [flatT, List.length_append, List.length_nil] at h1
    omega
  | p :: ps, q :: qs, hp, hq, h => by
    obtain ⟨a1, a2⟩ := read_flat hp
    obtain ⟨b1, b2⟩ := read_flat hq
    rw [h, b1] at a1
    injection a1 with e1 e2
    injection e2 with e2
    rw [← e2, b2] at a2
    injection a2 with e3 e4
    injection e4 with e4
    have := flatT_inj (fun x hx => hp x (by simp [hx])) (fun x hx => hq x (by simp [hx])) e4.symm
    rw [this, Prod.ext e1.symm e3.symm]
def pairsL (L : List En) : List (List UInt8 × List UInt8) := (keysL L).map (fun k => (k, dataOf L k))
theorem fold_flat (L : List En) (ks : List (List UInt8)) (acc : List UInt8) : ks.foldl (stepT L) acc = acc ++ flatT (ks.map (fun k => (k, dataOf L k))) := by
  induction ks generalizing acc with
  | nil => simp [flatT]
  | cons k ks ih =>
    rw [List.foldl_cons, ih, List.map_cons]
    unfold stepT addT
    simp [flatT, List.append_assoc]
theorem textL_flat (L : List En) : textL L = flatT (pairsL L) := by
  unfold textL pairsL
  rw [fold_flat]; rfl
theorem pairs_short {L : List En} (hok : ∀ e ∈ L, e.1.length ≤ 16 ∧ e.2.2.length ≤ 512) (hd : Dist L) : Short (pairsL L) := fun p hp => by
  obtain ⟨k, hk, rfl⟩ := List.mem_map.mp hp
  obtain ⟨e, he, rfl⟩ := keysL_mem.mp hk
  rw [dataOf_at hd he]
  exact hok e he
/-- unlike ones have unlike texts -/
theorem textL_eq {L M : List En} (hl : ∀ e ∈ L, e.1.length ≤ 16 ∧ e.2.2.length ≤ 512) (dl : Dist L) (hm : ∀ e ∈ M, e.1.length ≤ 16 ∧ e.2.2.length ≤ 512) (dm : Dist M) :
    (textL L == textL M) = ((keysL L == keysL M) && (keysL L).all (fun k => dataOf L k == dataOf M k)) := by
  rw [Bool.eq_iff_iff, beq_iff_eq, Bool.and_eq_true, beq_iff_eq, List.all_eq_true]
  constructor
  · intro h
    rw [textL_flat, textL_flat] at h
    have h2 := flatT_inj (pairs_short hl dl) (pairs_short hm dm) h
    have h3 : keysL L = keysL M := by
      have := congrArg (List.map Prod.fst) h2
      unfold pairsL at this
      simpa [List.map_map, Function.comp_def] using this
    refine ⟨h3, fun k hk => ?_⟩
    unfold pairsL at h2
    rw [← h3] at h2
    have := List.map_inj_left.mp h2 k hk
    injection this with _ this
    rw [this]; simp
  · rintro ⟨h1, h2⟩
    rw [textL_flat, textL_flat]
    congr 1
    unfold pairsL
    rw [← h1]
    exact List.map_congr_left fun k hk => by rw [eq_of_beq (h2 k hk)]
end Go.Proofs.Ytipdjchgdhfciaa
