/- place: cartridges in another order; a row of cartridges that is stored into. -/
import Derived.Test.YtfiaedhdgbnfiaaPk12
import Derived.Test.YtfiaedhdgbnfiaaPk8
import Derived.Test.YtfiaedhdgbnfiaaBlk
import Derived.Deep.MidRow
namespace Go.Proofs.Ytfiaedhdgbnfiaa
set_option linter.unusedVariables false
set_option linter.unusedSimpArgs false
open Go Go.RowKit
def lst (R : List Int) : List Fr := R.zipIdx.map (fun p => ((p.2 : Int), p.1))
theorem lst_len (R : List Int) : (lst R).length = R.length := by unfold lst; simp
theorem lst_snoc (R : List Int) (x : Int) : lst (R ++ [x]) = lst R ++ [((R.length : Int), x)] := by
  unfold lst; rw [List.zipIdx_append, List.map_append]; simp
theorem lst_lt (R : List Int) : ∀ y ∈ lst R, y.1 < R.length := fun y hy => by
  unfold lst at hy
  obtain ⟨p, hp, rfl⟩ := List.mem_map.mp hy
  have := List.snd_lt_of_mem_zipIdx hp
  simp at this ⊢
  omega
theorem lst_apart (R : List Int) : Apart (lst R) :=
  list_snoc_ind (p := fun R => Apart (lst R)) List.Pairwise.nil (fun R x ih => by
    rw [lst_snoc]
    unfold Apart
    rw [List.pairwise_append]
    refine ⟨ih, List.pairwise_singleton _ _, fun y hy z hz => ?_⟩
    rw [List.mem_singleton] at hz
    subst hz
    have := lst_lt R y hy
    simp only [ne_eq]; omega) R
theorem mayL_filter {l : List Fr} : Apart l → mayL [] l = l.filter (fun y => decide (0 < y.2)) :=
  list_snoc_ind (p := fun l => Apart l → mayL [] l = l.filter (fun y => decide (0 < y.2))) (fun _ => rfl) (fun l x ih hap => by
    unfold Apart at hap
    rw [List.pairwise_append] at hap
    obtain ⟨h1, -, h3⟩ := hap
    rw [mayL_snoc, List.filter_append, ← ih h1]
    have hc : hasC (mayL [] l) x.1 = false := by
      rw [← Bool.not_eq_true, hasC_iff]
      rintro ⟨y, hy, e⟩
      exact h3 y (mayL_sub [] l y hy).1 x (by simp) e
    unfold addM
    rw [hc]
    by_cases hx : 0 < x.2
    · simp [hx]
    · simp [hx]) l
theorem mayL_perm {l m : List Fr} (h : l.Perm m) (hl : Apart l) : (mayL [] l).Perm (mayL [] m) := by
  rw [mayL_filter hl, mayL_filter (apart_perm h hl)]; exact h.filter _
theorem pickOk_perm {l m : List Fr} (h : l.Perm m) (hl : Apart l) (k : Nat) : pickOk l k [] = pickOk m k [] := by
  rw [pickOk_nat, pickOk_nat, (mayL_perm h hl).length_eq]
theorem pickR_perm {l m : List Fr} (h : l.Perm m) (hl : Apart l) (k : Nat) : pickR l k [] = pickR m k [] := by
  unfold pickR pickL
  rw [pickOk_perm h hl, srt_eq (mayL_perm h hl)]
theorem swap_perm {m : List Fr} {p s : Nat} {x y : Fr} (hx : m[p]? = some x) (hy : m[s]? = some y) : ((m.set p y).set s x).Perm m := by
  obtain ⟨hp, e1⟩ := List.getElem?_eq_some_iff.mp hx
  obtain ⟨hs, e2⟩ := List.getElem?_eq_some_iff.mp hy
  rw [← e1, ← e2]
  exact List.set_set_perm hp hs
theorem flatF_set (l : List Fr) {k : Nat} (h : k < l.length) (q : Fr) : flatF (l.set k q) = ((flatF l).set (k * 2) (.int .i64 q.1)).set (k * 2 + 1) (.int .i64 q.2) := by
  induction l generalizing k with
  | nil => simp at h
  | cons p l ih =>
    cases k with
    | zero => simp [flatF, encF]
    | succ k =>
      have hm : k < l.length := by simpa using h
      have hk : ∀ (i : Nat) (x : Value) (ys : List Value), 2 ≤ i → (encF p ++ ys).set i x = encF p ++ ys.set (i - 2) x := fun i x ys hi => by
        rw [List.set_append_right _ _ (show (encF p).length ≤ i from hi)]; rfl
      show encF p ++ flatF (l.set k q) = ((encF p ++ flatF l).set _ _).set _ _
      rw [hk _ _ _ (by omega), hk _ _ _ (by omega), ih hm]
      rw [show (k + 1) * 2 - 2 = k * 2 by omega, show (k + 1) * 2 + 1 - 2 = k * 2 + 1 by omega]
theorem OF.put {w : World} {lo b n c k : Nat} {m : List Fr} (h : OF m (.slice (some ⟨b, 0, none⟩) n c) lo w) (hk : k < m.length) (q : Fr) (hq : I64 q.1 ∧ I64 q.2) :
    OF (m.set k q) (.slice (some ⟨b, 0, none⟩) n c) lo (w.setCells b (k * 2) [.int .i64 q.1, .int .i64 q.2]) ∧ Upd (· = b) w (w.setCells b (k * 2) [.int .i64 q.1, .int .i64 q.2]) ∧ w.there b (k * 2) 2 := by
  have st : ∀ {w : World} {xs : List Value} (h : w.ownsRow lo 32 2 (.slice (some ⟨b, 0, none⟩) n c) m.length xs) (j : Nat) (u : Value), (w.setCell ⟨b, j, none⟩ u).ownsRow lo 32 2 (.slice (some ⟨b, 0, none⟩) n c) m.length (xs.set j u) := fun {w} {xs} h j u => by
    obtain ⟨b', c', e, -, -, -, -, -, -, -, hst⟩ := row_at h (by omega)
    injection e with e _ _
    injection e with e
    injection e with e
    subst e
    exact hst j u
  have up : ∀ (w : World) (j : Nat) (u : Value), Upd (· = b) w (w.setCell ⟨b, j, none⟩ u) := fun w j u => Upd.of_grown (blk_grown w b j u) rfl
  refine ⟨⟨?_, ?_⟩, (up _ _ _).trans (up _ _ _), fun j hj => ?_⟩
  · rw [List.length_set, flatF_set m hk q]
    exact st (st h.1 _ _) _ _
  · intro x hx
    rcases List.mem_or_eq_of_mem_set hx with h1 | h1
    · exact h.2 x h1
    · rw [h1]; exact hq
  · obtain ⟨b', c', e, -, -, -, -, -, hfz, hcell, -⟩ := row_at h.1 (by omega)
    injection e with e _ _
    injection e with e
    injection e with e
    subst e
    have hl := flatF_len m
    have hlt : k * 2 + j < (flatF m).length := by omega
    rw [hcell _ _ (List.getElem?_eq_getElem hlt)]
    exact ⟨rfl, hfz _⟩
theorem free_size : (Try.prog.info? 32).map (·.size) = some 2 := by kernel_rfl
end Go.Proofs.Ytfiaedhdgbnfiaa
