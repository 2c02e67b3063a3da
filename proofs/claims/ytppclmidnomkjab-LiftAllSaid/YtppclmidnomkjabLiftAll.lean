/- Requests of one cartridge at unlike places, served one by one: the plain side. -/
import Derived.Test.YtppclmidnomkjabLiftLaw
import Derived.Test.YtppclmidnomkjabQueueRef4
namespace Go.Proofs.Ytppclmidnomkjab
set_option linter.unusedVariables false
open Go Go.RowKit
def askI (q : AskR) : Nat → Int
  | 0 => q.a | 1 => q.b | 2 => q.c | 3 => q.d | 4 => q.e | _ => q.f
def askF (l : List AskR) : Nat → Nat → Int := fun i j => askI (l.getD i ask0) j
theorem askF_at {l : List AskR} {i : Nat} {q : AskR} (h : l[i]? = some q) (j : Nat) : askF l i j = askI q j := by
  unfold askF
  rw [List.getD_eq_getElem?_getD, h]; rfl
theorem ARow.tab {w : World} {base n c : Nat} {A : Option Addr} {l : List AskR} (h : ARow w base (.slice A n c) l) (hn : l.length = n) (hok : ∀ q ∈ l, q.Ok) : Tab w w.heap.size 6 A n (askF l) := by
  refine ⟨fun h0 => ?_, fun i j hi hj => ?_⟩
  · obtain ⟨b, o, e, hb, hc⟩ := h.aat (by omega)
    refine ⟨b, o, e, hb, fun i j hi hj => ?_⟩
    have hq : l[i]? = some (l[i]'(by omega)) := List.getElem?_eq_getElem (by omega)
    obtain ⟨h0, h1, h2, h3, h4, h5⟩ := hc i _ hq
    rw [askF_at hq]
    match j, hj with
    | 0, _ => exact h0
    | 1, _ => exact h1
    | 2, _ => exact h2
    | 3, _ => exact h3
    | 4, _ => exact h4
    | 5, _ => exact h5
  · have hq : l[i]? = some (l[i]'(by omega)) := List.getElem?_eq_getElem (by omega)
    obtain ⟨h0, h1, h2, h3, h4, h5⟩ := hok (l[i]'(by omega)) (List.getElem_mem _)
    rw [askF_at hq]
    match j, hj with
    | 0, _ => exact h0
    | 1, _ => exact h1
    | 2, _ => exact h2
    | 3, _ => exact h3
    | 4, _ => exact h4
    | 5, _ => exact h5
/-- requests of cartridge 3, born at 5, at unlike places of a byte -/
structure Row3 (l : List AskR) : Prop where
  all : ∀ q ∈ l, q.c = 3 ∧ q.f = 5 ∧ 0 ≤ q.d ∧ q.d ≤ 255 ∧ q.Ok
  un : ∀ (i j : Nat) (p q : AskR), l[i]? = some p → l[j]? = some q → i ≠ j → p.d ≠ q.d
theorem Row3.nil : Row3 [] := ⟨fun q h => (by cases h), fun i j p q h => (by cases h)⟩
theorem Row3.snoc {l : List AskR} {q : AskR} (h : Row3 l) (hq : q.c = 3 ∧ q.f = 5 ∧ 0 ≤ q.d ∧ q.d ≤ 255 ∧ q.Ok) (hn : ∀ p ∈ l, p.d ≠ q.d) : Row3 (l ++ [q]) := by
  have key : ∀ (i : Nat) (p : AskR), (l ++ [q])[i]? = some p → (i < l.length ∧ l[i]? = some p) ∨ (i = l.length ∧ p = q) := fun i p hp => by
    rw [List.getElem?_append] at hp
    split at hp
    · exact .inl ⟨by assumption, hp⟩
    · right
      have : i - l.length = 0 := by
        have := (List.getElem?_eq_some_iff.1 hp).1
        simp at this
        omega
      rw [this] at hp
      injection hp with hp
      exact ⟨by omega, hp.symm⟩
  refine ⟨fun p hp => ?_, fun i j p p' hi hj hne => ?_⟩
  · rcases List.mem_append.1 hp with hp | hp
    · exact h.all p hp
    · rcases List.mem_singleton.1 hp with rfl
      exact hq
  · rcases key i p hi with ⟨h1, h2⟩ | ⟨h1, rfl⟩ <;> rcases key j p' hj with ⟨h3, h4⟩ | ⟨h3, rfl⟩
    · exact h.un i j p p' h2 h4 hne
    · exact hn p (List.mem_of_getElem? h2)
    · exact fun e => hn p' (List.mem_of_getElem? h4) e.symm
    · omega
theorem Row3.erase {l : List AskR} (h : Row3 l) (f : Nat) : Row3 (l.eraseIdx f) := by
  refine ⟨fun p hp => h.all p (List.mem_of_mem_eraseIdx hp), fun i j p q hi hj hne => ?_⟩
  rw [List.getElem?_eraseIdx] at hi hj
  split at hi <;> split at hj
  · exact h.un _ _ p q hi hj hne
  · exact h.un _ _ p q hi hj (by omega)
  · exact h.un _ _ p q hi hj (by omega)
  · exact h.un _ _ p q hi hj (by omega)
theorem Row3.left {l : List AskR} (h : Row3 l) {f : Nat} {q : AskR} (hq : l[f]? = some q) : ∀ p ∈ l.eraseIdx f, p.d ≠ q.d ∧ p ∈ l := fun p hp => by
  refine ⟨?_, List.mem_of_mem_eraseIdx hp⟩
  obtain ⟨i, hi, he⟩ := List.mem_eraseIdx_iff_getElem?.1 hp
  exact h.un i f p q he hq hi
theorem litH (p : Int) : litF [3, p] 2 0 0 = 3 ∧ litF [3, p] 2 0 1 = p := ⟨rfl, rfl⟩
/-- which one is next -/
theorem lift_next {l : List AskR} (h : Row3 l) (hl : 0 < l.length) (hp : Int) : ∃ f q, nextOf (askF l) l.length (litF [3, hp] 2) 1 5 1 = (f, true) ∧ l[f]? = some q ∧ ∀ p ∈ l, soon p.d q.d hp = false := by
  have hat : ∀ i (hi : i < l.length), l[i]? = some (l[i]'hi) := fun i hi => List.getElem?_eq_getElem hi
  have h2 : ∀ i, i < l.length → askF l i 2 = 3 := fun i hi => by rw [askF_at (hat i hi)]; exact (h.all _ (List.getElem_mem _)).1
  have h5 : askF l (oldTo (askF l) l.length) 5 = 5 := by
    have := oldTo_lt (askF l) hl
    rw [askF_at (hat _ this)]; exact (h.all _ (List.getElem_mem _)).2.1
  have ho : overD (askF l (oldTo (askF l) l.length) 5) 5 1 = false := by rw [h5]; rfl
  unfold nextOf
  rw [if_neg (by omega), ho, if_neg (by decide)]
  have hpk : pickTo (askF l) l.length (litF [3, hp] 2) 1 = metTo (askF l) 3 hp l.length := rfl
  rw [hpk]
  cases hm : metTo (askF l) 3 hp l.length with
  | none => exact absurd (h2 0 hl) (metTo_none _ _ _ _ hm 0 hl)
  | some f =>
    have hf := (metTo_lt _ _ _ _ f hm).1
    refine ⟨f, l[f], rfl, hat f hf, fun p hpm => ?_⟩
    obtain ⟨i, hi, rfl⟩ := List.mem_iff_getElem.1 hpm
    have := metTo_best _ _ _ _ f hm i hi (h2 i hi)
    rw [askF_at (hat i hi), askF_at (hat f hf)] at this
    exact this
/-- between two services -/
structure Inv3 (l : List AskR) (fr hp last : Int) (low : Bool) : Prop where
  row : Row3 l
  lo : -1 ≤ last
  lt : last < hp
  h0 : 0 ≤ hp
  h1 : hp ≤ 256
  up : low = false → fr ≤ hp ∧ ∀ q ∈ l, fr ≤ q.d → hp ≤ q.d
  down : low = true → ∀ q ∈ l, hp ≤ q.d ∧ q.d < fr
theorem Inv3.stepUp {l : List AskR} {fr hp last : Int} (h : Inv3 l fr hp last false) {f : Nat} {q : AskR} (hq : l[f]? = some q) (hs : ∀ p ∈ l, soon p.d q.d hp = false) (hf : fr ≤ q.d) :
    last < q.d ∧ Inv3 (l.eraseIdx f) fr (q.d + 1) q.d false := by
  have hm := List.mem_of_getElem? hq
  obtain ⟨-, -, q0, q1, -⟩ := h.row.all q hm
  obtain ⟨u1, u2⟩ := h.up rfl
  have := u2 q hm hf
  have := h.lt
  refine ⟨by omega, h.row.erase f, by omega, by omega, by omega, by omega, fun _ => ⟨by omega, fun p hp hfp => ?_⟩, fun e => (by cases e)⟩
  obtain ⟨hne, hpm⟩ := h.row.left hq p hp
  have h1 := hs p hpm
  have h2 := u2 p hpm hfp
  rw [Bool.eq_false_iff] at h1
  by_cases hlt : p.d < q.d
  · exact absurd ((soon_iff _ _ _).2 (.inl ⟨h2, .inr hlt⟩)) h1
  · omega
theorem Inv3.turn {l : List AskR} {fr hp last : Int} (h : Inv3 l fr hp last false) {f : Nat} {q : AskR} (hq : l[f]? = some q) (hs : ∀ p ∈ l, soon p.d q.d hp = false) (hf : q.d < fr) :
    -1 < q.d ∧ Inv3 (l.eraseIdx f) fr (q.d + 1) q.d true := by
  have hm := List.mem_of_getElem? hq
  obtain ⟨-, -, q0, q1, -⟩ := h.row.all q hm
  obtain ⟨u1, u2⟩ := h.up rfl
  refine ⟨by omega, h.row.erase f, by omega, by omega, by omega, by omega, fun e => (by cases e), fun _ p hpe => ?_⟩
  obtain ⟨hne, hpm⟩ := h.row.left hq p hpe
  have h1 := hs p hpm
  rw [Bool.eq_false_iff] at h1
  have h3 : p.d < hp := by
    by_cases hlt : p.d < hp
    · exact hlt
    · exact absurd ((soon_iff _ _ _).2 (.inl ⟨by omega, .inl (by omega)⟩)) h1
  have h4 : p.d < fr := by
    by_cases hlt : fr ≤ p.d
    · have := u2 p hpm hlt; omega
    · omega
  refine ⟨?_, h4⟩
  by_cases hlt : p.d < q.d
  · exact absurd ((soon_iff _ _ _).2 (.inr ⟨h3, by omega, hlt⟩)) h1
  · omega
theorem Inv3.stepDown {l : List AskR} {fr hp last : Int} (h : Inv3 l fr hp last true) {f : Nat} {q : AskR} (hq : l[f]? = some q) (hs : ∀ p ∈ l, soon p.d q.d hp = false) :
    last < q.d ∧ q.d < fr ∧ Inv3 (l.eraseIdx f) fr (q.d + 1) q.d true := by
  have hm := List.mem_of_getElem? hq
  obtain ⟨-, -, q0, q1, -⟩ := h.row.all q hm
  have u := h.down rfl
  have hu := u q hm
  have := h.lt
  refine ⟨by omega, by omega, h.row.erase f, by omega, by omega, by omega, by omega, fun e => (by cases e), fun _ p hp => ?_⟩
  obtain ⟨hne, hpm⟩ := h.row.left hq p hp
  have h1 := hs p hpm
  have h2 := u p hpm
  rw [Bool.eq_false_iff] at h1
  refine ⟨?_, h2.2⟩
  by_cases hlt : p.d < q.d
  · exact absurd ((soon_iff _ _ _).2 (.inl ⟨h2.1, .inr hlt⟩)) h1
  · omega
theorem Inv3.start {l : List AskR} (h : Row3 l) (fr : Int) (h0 : 0 ≤ fr) (h1 : fr ≤ 255) : Inv3 l fr fr (-1) false :=
  ⟨h, by omega, by omega, h0, by omega, fun _ => ⟨Int.le_refl _, fun q _ h => h⟩, fun e => (by cases e)⟩
/-- is the place x among the first k? -/
def twB (l : List AskR) (x : Int) (k : Nat) : Bool := (l.take k).any (fun q => q.d == x)
theorem twB_succ {l : List AskR} {k : Nat} {q : AskR} (h : l[k]? = some q) (x : Int) : twB l x (k + 1) = (twB l x k || (q.d == x)) := by
  unfold twB
  rw [List.take_add_one, h]
  simp
theorem twB_no {l : List AskR} {x : Int} (h : twB l x l.length = false) : ∀ p ∈ l, p.d ≠ x := fun p hp e => by
  unfold twB at h
  rw [List.take_length, List.any_eq_false] at h
  exact h p hp (by simp [e])
end Go.Proofs.Ytppclmidnomkjab
