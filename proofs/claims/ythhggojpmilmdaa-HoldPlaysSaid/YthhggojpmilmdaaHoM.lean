/- hold: the ring of pairs, plainly: who stands behind whom; taking one out, linking one in as the last. -/
import Derived.Test.YthhggojpmilmdaaLib
namespace Go.Proofs.Ythhggojpmilmdaa
set_option linter.unusedVariables false
/-- a pair: its block, its key, the slice that it holds, the bytes there -/
abbrev Nd := Nat × List UInt8 × Value × List UInt8
def fupd (f : Nat → Nat) (a b : Nat) : Nat → Nat := fun x => if x = a then b else f x
theorem fupd_at (f : Nat → Nat) (a b : Nat) : fupd f a b a = b := by simp [fupd]
theorem fupd_ne (f : Nat → Nat) {a b x : Nat} (h : x ≠ a) : fupd f a b x = f x := by simp [fupd, h]
def Linked (nx bf : Nat → Nat) : List Nat → Prop
  | [] => True
  | [_] => True
  | a :: b :: l => nx a = b ∧ bf b = a ∧ Linked nx bf (b :: l)
theorem linked_app {nx bf : Nat → Nat} : ∀ {l m : List Nat} {a : Nat}, Linked nx bf (l ++ a :: m) ↔ Linked nx bf (l ++ [a]) ∧ Linked nx bf (a :: m)
  | [], m, a => by simp [Linked]
  | [x], m, a => by simp [Linked]; exact ⟨fun h => ⟨⟨h.1, h.2.1⟩, h.2.2⟩, fun h => ⟨h.1.1, h.1.2, h.2⟩⟩
  | x :: y :: l, m, a => by
    have ih := linked_app (nx := nx) (bf := bf) (l := y :: l) (m := m) (a := a)
    simp only [List.cons_append, Linked] at ih ⊢
    rw [ih]
    exact ⟨fun h => ⟨⟨h.1, h.2.1, h.2.2.1⟩, h.2.2.2⟩, fun h => ⟨h.1.1, h.1.2.1, h.1.2.2, h.2⟩⟩
theorem linked_congr {nx bf nx' bf' : Nat → Nat} : ∀ {l : List Nat}, Linked nx bf l → (∀ x ∈ l.dropLast, nx' x = nx x) → (∀ x ∈ l.tail, bf' x = bf x) → Linked nx' bf' l
  | [], _, _, _ => trivial
  | [_], _, _, _ => trivial
  | a :: b :: l, h, h1, h2 => by
    refine ⟨(h1 a (by simp)).trans h.1, (h2 b (by simp)).trans h.2.1, linked_congr h.2.2 (fun x hx => h1 x (by simp only [List.dropLast_cons_cons, List.mem_cons]; exact .inr hx)) (fun x hx => h2 x (by simp only [List.tail_cons, List.mem_cons] at hx ⊢; exact .inr hx))⟩
/-- who stands ahead, and behind -/
theorem snoc_of (r : Nat) (L : List Nat) : ∃ A0 a, r :: L = A0 ++ [a] := ⟨(r :: L).dropLast, (r :: L).getLast (by simp), (List.dropLast_concat_getLast (by simp)).symm⟩
theorem cons_of (L : List Nat) (r : Nat) : ∃ b B0, L ++ [r] = b :: B0 := by
  cases L with
  | nil => exact ⟨r, [], rfl⟩
  | cons x L => exact ⟨x, L ++ [r], rfl⟩
theorem ring_ends {nx bf : Nat → Nat} {r e : Nat} {L1 L2 : List Nat} (hl : Linked nx bf (r :: (L1 ++ e :: L2) ++ [r])) : ∃ A0 B0, r :: L1 = A0 ++ [bf e] ∧ L2 ++ [r] = nx e :: B0 := by
  obtain ⟨A0, a, ha⟩ := snoc_of r L1
  obtain ⟨b, B0, hb⟩ := cons_of L2 r
  have e1 : r :: (L1 ++ e :: L2) ++ [r] = A0 ++ a :: (e :: b :: B0) := by
    have : r :: (L1 ++ e :: L2) ++ [r] = (r :: L1) ++ e :: (L2 ++ [r]) := by simp
    rw [this, ha, hb]; simp
  rw [e1, linked_app] at hl
  refine ⟨A0, B0, ?_, ?_⟩
  · rw [ha, hl.2.2.1]
  · rw [hb, hl.2.2.2.1]
theorem ring_mem {nx bf : Nat → Nat} {r e : Nat} {L1 L2 : List Nat} (hl : Linked nx bf (r :: (L1 ++ e :: L2) ++ [r])) : bf e ∈ r :: L1 ∧ nx e ∈ L2 ++ [r] := by
  obtain ⟨A0, B0, h1, h2⟩ := ring_ends hl
  exact ⟨by rw [h1]; simp, by rw [h2]; simp⟩
theorem ring_del {nx bf : Nat → Nat} {r e : Nat} {L1 L2 : List Nat} (hl : Linked nx bf (r :: (L1 ++ e :: L2) ++ [r])) (hn : (r :: (L1 ++ e :: L2)).Nodup) :
    Linked (fupd nx (bf e) (nx e)) (fupd bf (nx e) (bf e)) (r :: (L1 ++ L2) ++ [r]) := by
  obtain ⟨A0, B0, ha, hb⟩ := ring_ends hl
  generalize hae : bf e = a at ha ⊢
  generalize hbe : nx e = b at hb ⊢
  have e1 : r :: (L1 ++ e :: L2) ++ [r] = A0 ++ a :: (e :: b :: B0) := by
    have : r :: (L1 ++ e :: L2) ++ [r] = (r :: L1) ++ e :: (L2 ++ [r]) := by simp
    rw [this, ha, hb]; simp
  have e2 : r :: (L1 ++ L2) ++ [r] = A0 ++ a :: (b :: B0) := by
    have : r :: (L1 ++ L2) ++ [r] = (r :: L1) ++ (L2 ++ [r]) := by simp
    rw [this, ha, hb]; simp
  have hn1 : (r :: L1).Nodup := by
    have : (r :: (L1 ++ e :: L2)) = (r :: L1) ++ e :: L2 := by simp
    rw [this] at hn
    exact (List.nodup_append.1 hn).1
  have hn2 : ∀ x ∈ r :: L1, ∀ y ∈ L2, x ≠ y := by
    have : (r :: (L1 ++ e :: L2)) = (r :: L1) ++ e :: L2 := by simp
    rw [this] at hn
    exact fun x hx y hy => (List.nodup_append.1 hn).2.2 x hx y (by simp [hy])
  have hn3 : (L2 ++ [r]).Nodup := by
    have : (r :: (L1 ++ e :: L2)) = (r :: L1) ++ e :: L2 := by simp
    rw [this] at hn
    have h2 := (List.nodup_cons.1 (List.nodup_append.1 hn).2.1).2
    refine List.nodup_append.2 ⟨h2, by simp, fun x hx y hy => ?_⟩
    simp only [List.mem_singleton] at hy
    subst hy
    exact fun h => hn2 y (by simp) x hx h.symm
  rw [e1, linked_app] at hl
  have hl1 := hl.1
  have hl2 : Linked nx bf (b :: B0) := hl.2.2.2.2.2
  rw [e2, linked_app]
  refine ⟨linked_congr hl1 (fun x hx => fupd_ne _ ?_) (fun x hx => fupd_ne _ ?_), fupd_at _ _ _, fupd_at _ _ _, linked_congr hl2 (fun x hx => fupd_ne _ ?_) (fun x hx => fupd_ne _ ?_)⟩
  · rw [List.dropLast_concat] at hx
    rw [ha] at hn1
    exact fun h => (List.nodup_append.1 hn1).2.2 x hx a (by simp) h
  · rw [← ha, List.tail_cons] at hx
    intro h
    subst h
    have hm : x ∈ L2 ++ [r] := by rw [hb]; simp
    rw [List.mem_append, List.mem_singleton] at hm
    rcases hm with hm | rfl
    · exact hn2 x (by simp [hx]) x hm rfl
    · exact (List.nodup_cons.1 hn1).1 hx
  · rw [← hb, List.dropLast_concat] at hx
    exact fun h => hn2 a (by rw [ha]; simp) x hx h.symm
  · rw [List.tail_cons] at hx
    rw [hb] at hn3
    exact fun h => (List.nodup_cons.1 hn3).1 (h ▸ hx)
theorem ring_add {nx bf : Nat → Nat} {r p : Nat} {L : List Nat} (hl : Linked nx bf (r :: L ++ [r])) (hn : (r :: L).Nodup) (hp : p ∉ r :: L) :
    Linked (fupd (fupd nx p r) (bf r) p) (fupd (fupd bf p (bf r)) r p) (r :: (L ++ [p]) ++ [r]) := by
  obtain ⟨A0, z, ha⟩ := snoc_of r L
  have hz : bf r = z := by rw [ha] at hl; rw [show A0 ++ [z] ++ [r] = A0 ++ z :: [r] from by simp, linked_app] at hl; exact hl.2.2.1
  rw [hz]
  have hzm : z ∈ r :: L := by rw [ha]; simp
  have hzp : z ≠ p := fun h => hp (h ▸ hzm)
  have hrp : r ≠ p := fun h => hp (by rw [← h]; simp)
  have e2 : r :: (L ++ [p]) ++ [r] = A0 ++ z :: [p, r] := by
    have : r :: (L ++ [p]) ++ [r] = (r :: L) ++ [p, r] := by simp
    rw [this, ha]; simp
  rw [e2, linked_app]
  have hl1 : Linked nx bf (A0 ++ [z]) := by
    rw [ha, show A0 ++ [z] ++ [r] = A0 ++ z :: [r] from by simp, linked_app] at hl
    exact hl.1
  refine ⟨linked_congr hl1 (fun x hx => ?_) (fun x hx => ?_), fupd_at _ _ _, ?_, ?_, fupd_at _ _ _, trivial⟩
  · rw [List.dropLast_concat] at hx
    have hx1 : x ∈ r :: L := by rw [ha]; simp [hx]
    rw [ha] at hn
    rw [fupd_ne _ (fun h : x = z => (List.nodup_append.1 hn).2.2 x hx z (by simp) h), fupd_ne _ (fun h : x = p => hp (h ▸ hx1))]
  · rw [← ha, List.tail_cons] at hx
    rw [fupd_ne _ (fun h : x = r => (List.nodup_cons.1 hn).1 (h ▸ hx)), fupd_ne _ (fun h : x = p => hp (by rw [← h]; simp [hx]))]
  · rw [fupd_ne _ (fun h => hrp h.symm), fupd_at]
  · rw [fupd_ne _ (fun h => hzp h.symm), fupd_at]
/-- the ring's way on: what stands behind the k-th -/
theorem ring_next {nx bf : Nat → Nat} {r : Nat} : ∀ {l : List Nat} {a : Nat} (k : Nat), Linked nx bf (a :: l ++ [r]) → (hk : k < (a :: l).length) → nx ((a :: l)[k]) = (l ++ [r])[k]'(by simp at hk ⊢; omega)
  | [], a, 0, h, _ => h.1
  | b :: l, a, 0, h, _ => h.1
  | [], a, k + 1, h, hk => by simp at hk
  | b :: l, a, k + 1, h, hk => ring_next (l := l) (a := b) k h.2.2 (by simpa using hk)
/-! the list of pairs -/
def sumD (L : List Nd) : Nat := (L.map (fun e => e.2.2.2.length)).sum
theorem sumD_app (L M : List Nd) : sumD (L ++ M) = sumD L + sumD M := by simp [sumD]
theorem sumD_cons (e : Nd) (L : List Nd) : sumD (e :: L) = e.2.2.2.length + sumD L := by simp [sumD]
theorem sumD_nil : sumD [] = 0 := rfl
def hasN (L : List Nd) (k : List UInt8) : Bool := L.any (fun e => e.2.1 == k)
def dropN (L : List Nd) (k : List UInt8) : List Nd := L.filter (fun e => e.2.1 != k)
def DistN (L : List Nd) : Prop := L.Pairwise (fun x y => x.2.1 ≠ y.2.1)
theorem drop_no {L : List Nd} {k : List UInt8} (h : ∀ y ∈ L, y.2.1 ≠ k) : dropN L k = L := by
  unfold dropN
  rw [List.filter_eq_self]
  intro e he
  simpa using h e he
theorem split_at {L : List Nd} {k : List UInt8} (hd : DistN L) (h : hasN L k = true) : ∃ L1 e L2, L = L1 ++ e :: L2 ∧ e.2.1 = k ∧ dropN L k = L1 ++ L2 := by
  unfold hasN at h
  rw [List.any_eq_true] at h
  obtain ⟨e, he, hk⟩ := h
  have hk : e.2.1 = k := by simpa using hk
  obtain ⟨L1, L2, rfl⟩ := List.append_of_mem he
  refine ⟨L1, e, L2, rfl, hk, ?_⟩
  unfold DistN at hd
  rw [List.pairwise_append, List.pairwise_cons] at hd
  have h1 : dropN L1 k = L1 := drop_no (fun y hy => by rw [← hk]; exact hd.2.2 y hy e (by simp))
  have h2 : dropN L2 k = L2 := drop_no (fun y hy => by rw [← hk]; exact (hd.2.1.1 y hy).symm)
  have : dropN (L1 ++ e :: L2) k = dropN L1 k ++ dropN L2 k := by
    unfold dropN
    rw [List.filter_append, List.filter_cons, if_neg (by simp [hk])]
  rw [this, h1, h2]
theorem drop_has_no {L : List Nd} {k : List UInt8} (h : hasN L k = false) : dropN L k = L := drop_no (fun y hy e => by
  unfold hasN at h
  rw [List.any_eq_false] at h
  exact h y hy (by simpa using e))
theorem drop_not {L : List Nd} {k : List UInt8} : ∀ y ∈ dropN L k, y.2.1 ≠ k := fun y hy => by
  unfold dropN at hy
  rw [List.mem_filter] at hy
  simpa using hy.2
/-- the oldest go until there is room -/
def trimN (q m : Nat) : List Nd → List Nd
  | [] => []
  | e :: L => if q < sumD (e :: L) + m then trimN q m L else e :: L
theorem trim_suffix (q m : Nat) : ∀ L : List Nd, trimN q m L <:+ L
  | [] => List.suffix_refl _
  | e :: L => by
    unfold trimN
    split
    · exact (trim_suffix q m L).trans (List.suffix_cons e L)
    · exact List.suffix_refl _
theorem trim_step {q m : Nat} {e : Nd} {L : List Nd} (h : q < sumD (e :: L) + m) : trimN q m (e :: L) = trimN q m L := by rw [trimN, if_pos h]
theorem trim_stop {q m : Nat} {L : List Nd} (h : ¬ q < sumD L + m) : trimN q m L = L := by
  cases L with
  | nil => rfl
  | cons e L => rw [trimN, if_neg h]
end Go.Proofs.Ythhggojpmilmdaa
