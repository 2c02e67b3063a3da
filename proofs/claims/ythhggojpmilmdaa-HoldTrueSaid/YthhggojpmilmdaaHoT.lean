/- hold: what was put last, plainly. -/
import Derived.Test.YthhggojpmilmdaaHo12
namespace Go.Proofs.Ythhggojpmilmdaa
set_option linter.unusedVariables false
open Go Go.RowKit
/-- the last of the first n acts with this key; -1: there is none -/
def lastQ (Q : List ActH) (k : List UInt8) : Nat → Int
  | 0 => -1
  | n + 1 => match Q[n]? with
    | some q => if (q.k == k) = true then (n : Int) else lastQ Q k n
    | none => lastQ Q k n
theorem lastQ_yes {Q : List ActH} {k : List UInt8} {n : Nat} {q : ActH} (h : Q[n]? = some q) (hk : (q.k == k) = true) : lastQ Q k (n + 1) = n := by
  rw [lastQ, h]
  simp only [hk, if_true]
theorem lastQ_no {Q : List ActH} {k : List UInt8} {n : Nat} {q : ActH} (h : Q[n]? = some q) (hk : (q.k == k) = false) : lastQ Q k (n + 1) = lastQ Q k n := by
  rw [lastQ, h]
  simp only [hk, Bool.false_eq_true, if_false]
/-- every pair holds what was put of its key last, of the first n acts -/
def Fresh (Q : List ActH) (L : List Nd) (n : Nat) : Prop := ∀ e ∈ L, ∃ m q, m < n ∧ Q[m]? = some q ∧ q.k = e.2.1 ∧ q.l = e.2.2.2 ∧ ∀ m' q', m < m' → m' < n → Q[m']? = some q' → q'.k ≠ e.2.1
theorem last_of {Q : List ActH} {k : List UInt8} {m : Nat} {q : ActH} (hq : Q[m]? = some q) (hk : q.k = k) : ∀ n, m < n → (∀ m' q', m < m' → m' < n → Q[m']? = some q' → q'.k ≠ k) → lastQ Q k n = m
  | 0, h, _ => by omega
  | n + 1, h, hl => by
    by_cases hmn : m = n
    · subst hmn
      exact lastQ_yes hq (by simpa using hk)
    · have ih := last_of hq hk n (by omega) (fun m' q' h1 h2 h3 => hl m' q' h1 (by omega) h3)
      cases hqn : Q[n]? with
      | none => rw [lastQ, hqn]; exact ih
      | some q' =>
        rw [lastQ_no hqn (by simpa using hl n q' (by omega) (by omega) hqn)]
        exact ih
theorem fresh_drop {Q : List ActH} {L : List Nd} {n : Nat} {q : ActH} (h : Fresh Q L n) (hq : Q[n]? = some q) : Fresh Q (dropN L q.k) (n + 1) := fun e he => by
  have hne := drop_not e he
  have hm : e ∈ L := by unfold dropN at he; exact (List.mem_filter.1 he).1
  obtain ⟨m, q1, h1, h2, h3, h4, h5⟩ := h e hm
  refine ⟨m, q1, by omega, h2, h3, h4, fun m' q' a b c => ?_⟩
  by_cases hmn : m' = n
  · subst hmn
    rw [hq] at c
    injection c with c
    subst c
    exact fun e' => hne e'.symm
  · exact h5 m' q' a (by omega) c
theorem fresh_sub {Q : List ActH} {L L' : List Nd} {n : Nat} (h : Fresh Q L n) (hs : ∀ e ∈ L', e ∈ L) : Fresh Q L' n := fun e he => h e (hs e he)
theorem fresh_add {Q : List ActH} {L : List Nd} {n : Nat} {q : ActH} (h : Fresh Q L (n + 1)) (hq : Q[n]? = some q) (p : Nat) (v : Value) : Fresh Q (L ++ [(p, q.k, v, q.l)]) (n + 1) := fun e he => by
  rcases List.mem_append.1 he with he | he
  · exact h e he
  · rw [List.mem_singleton.1 he]
    exact ⟨n, q, by omega, hq, rfl, rfl, fun m' q' a b c => by omega⟩
theorem rot_step {L : List Nd} {j : Nat} (h : j < L.length) : L.drop j ++ L.take j = [] ++ L[j] :: (L.drop (j + 1) ++ L.take j) ∧ (([] : List Nd) ++ (L.drop (j + 1) ++ L.take j)) ++ [L[j]] = L.drop (j + 1) ++ L.take (j + 1) := by
  constructor
  · exact congrArg (· ++ L.take j) (List.drop_eq_getElem_cons h)
  · rw [List.take_add_one, List.getElem?_eq_getElem h]; simp
theorem sum_take {L : List Nd} {j : Nat} (h : j < L.length) : sumD (L.take (j + 1)) = sumD (L.take j) + (L[j]).2.2.2.length := by
  rw [List.take_add_one, List.getElem?_eq_getElem h]
  show sumD (L.take j ++ [L[j]]) = _
  rw [sumD_app, sumD_cons, sumD_nil]; omega
theorem sum_take_le (L : List Nd) (j : Nat) : sumD (L.take j) ≤ sumD L := by
  have h : sumD L = sumD (L.take j) + sumD (L.drop j) := by rw [← sumD_app, List.take_append_drop]
  omega
theorem trim_len (q m : Nat) (L : List Nd) : (trimN q m L).length ≤ L.length := (trim_suffix q m L).length_le
end Go.Proofs.Ythhggojpmilmdaa
