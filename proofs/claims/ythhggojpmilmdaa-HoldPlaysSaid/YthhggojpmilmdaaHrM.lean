/- hold: the cache's pairs and the reference's, plainly. -/
import Derived.Test.YthhggojpmilmdaaHoM
import Derived.Test.YthhggojpmilmdaaHr1
namespace Go.Proofs.Ythhggojpmilmdaa
set_option linter.unusedVariables false
def kdN (e : Nd) : List UInt8 × List UInt8 := (e.2.1, e.2.2.2)
/-- the reference's pairs are the cache's, in the order of their clocks -/
def Rel (L : List Nd) (R : List Rt) (now : Nat) : Prop := ∃ S : List Rt, S.Perm R ∧ S.map (·.1) = L.map kdN ∧ S.Pairwise (fun x y => x.2 < y.2) ∧ ∀ x ∈ S, 1 ≤ x.2 ∧ x.2 ≤ now
theorem Rel.nil_ : Rel [] [] 0 := ⟨[], List.Perm.refl _, rfl, List.Pairwise.nil, fun x h => by cases h⟩
theorem Rel.len {L : List Nd} {R : List Rt} {now : Nat} (h : Rel L R now) : R.length = L.length := by
  obtain ⟨S, hp, hm, -, -⟩ := h
  rw [← hp.length_eq]
  have := congrArg List.length hm
  simpa using this
theorem Rel.sum {L : List Nd} {R : List Rt} {now : Nat} (h : Rel L R now) : sumR R = sumD L := by
  obtain ⟨S, hp, hm, -, -⟩ := h
  have h1 : sumR R = sumR S := by unfold sumR; exact ((hp.map _).sum_nat).symm
  rw [h1]
  unfold sumR sumD
  have h2 : S.map (fun x => x.1.2.length) = (S.map (·.1)).map (fun y => y.2.length) := by rw [List.map_map]; rfl
  have h3 : L.map (fun e => e.2.2.2.length) = (L.map kdN).map (fun y => y.2.length) := by rw [List.map_map]; rfl
  rw [h2, h3, hm]
def hasR (R : List Rt) (k : List UInt8) : Bool := R.any (fun x => x.1.1 == k)
theorem has_any {L : List Nd} {k : List UInt8} : hasN L k = (L.map kdN).any (fun y => y.1 == k) := by unfold hasN; rw [List.any_map]; rfl
theorem Rel.has {L : List Nd} {R : List Rt} {now : Nat} (h : Rel L R now) (k : List UInt8) : hasR R k = hasN L k := by
  obtain ⟨S, hp, hm, -, -⟩ := h
  have h1 : hasR R k = hasR S k := by
    unfold hasR
    rw [Bool.eq_iff_iff, List.any_eq_true, List.any_eq_true]
    exact ⟨fun ⟨x, hx, e⟩ => ⟨x, hp.mem_iff.2 hx, e⟩, fun ⟨x, hx, e⟩ => ⟨x, hp.mem_iff.1 hx, e⟩⟩
  rw [h1, has_any, ← hm, List.any_map]
  rfl
theorem isK_no {R : List Rt} {k : List UInt8} (h : hasR R k = false) : isK R k = -1 := by
  unfold isK posK
  rw [if_neg]
  rw [List.findIdx_lt_length]
  unfold hasR at h
  rw [List.any_eq_false] at h
  rintro ⟨x, hx, e⟩
  exact h x hx e
theorem isK_yes {R : List Rt} {k : List UInt8} (h : hasR R k = true) : ∃ (m : Nat) (x : Rt), isK R k = (m : Int) ∧ R[m]? = some x ∧ x.1.1 = k := by
  unfold hasR at h
  rw [List.any_eq_true] at h
  have hl : R.findIdx (fun x => x.1.1 == k) < R.length := by
    rw [List.findIdx_lt_length]
    exact h
  refine ⟨R.findIdx (fun x => x.1.1 == k), _, ?_, List.getElem?_eq_getElem hl, ?_⟩
  · unfold isK posK
    rw [if_pos hl]
  · have := List.findIdx_getElem (p := fun x : Rt => x.1.1 == k) (xs := R) (w := hl)
    simpa using this
theorem perm_erase {R : List Rt} {m : Nat} {x : Rt} (h : R[m]? = some x) : R.Perm (x :: R.eraseIdx m) := by
  obtain ⟨hl, rfl⟩ := List.getElem?_eq_some_iff.1 h
  have h1 : R = R.take m ++ R[m] :: R.drop (m + 1) := by rw [← List.drop_eq_getElem_cons hl, List.take_append_drop]
  rw [List.eraseIdx_eq_take_drop_succ]
  have h2 : (R.take m ++ R[m] :: R.drop (m + 1)).Perm (R[m] :: (R.take m ++ R.drop (m + 1))) := List.perm_middle
  rw [← h1] at h2
  exact h2
/-- a pair of the cache, and the reference's of the same key -/
theorem Rel.split {L1 L2 : List Nd} {e : Nd} {R : List Rt} {now m : Nat} {x : Rt} (h : Rel (L1 ++ e :: L2) R now) (hd : DistN (L1 ++ e :: L2)) (hx : R[m]? = some x) (hk : x.1.1 = e.2.1) :
    ∃ S1 S2, (S1 ++ x :: S2).Perm R ∧ S1.map (·.1) = L1.map kdN ∧ S2.map (·.1) = L2.map kdN ∧ x.1 = kdN e ∧ (S1 ++ x :: S2).Pairwise (fun x y => x.2 < y.2) ∧ (∀ y ∈ S1 ++ x :: S2, 1 ≤ y.2 ∧ y.2 ≤ now) ∧ (S1 ++ S2).Perm (R.eraseIdx m) := by
  obtain ⟨S, hp, hm, hw, hb⟩ := h
  rw [List.map_append, List.map_cons] at hm
  obtain ⟨S1, S', rfl, h1, h2⟩ := List.map_eq_append_iff.1 hm
  obtain ⟨y, S2, rfl, h3, h4⟩ := List.map_eq_cons_iff.1 h2
  have hxm : x ∈ S1 ++ y :: S2 := hp.mem_iff.2 (List.mem_of_getElem? hx)
  have hxy : x = y := by
    unfold DistN at hd
    rw [List.pairwise_append, List.pairwise_cons] at hd
    rcases List.mem_append.1 hxm with hh | hh
    · have : x.1 ∈ S1.map (·.1) := List.mem_map.2 ⟨x, hh, rfl⟩
      rw [h1] at this
      obtain ⟨f, hf, hfe⟩ := List.mem_map.1 this
      exact absurd (show f.2.1 = e.2.1 by rw [← hk, ← hfe]; rfl) (hd.2.2 f hf e (by simp))
    · rcases List.mem_cons.1 hh with hh | hh
      · exact hh
      · have : x.1 ∈ S2.map (·.1) := List.mem_map.2 ⟨x, hh, rfl⟩
        rw [h4] at this
        obtain ⟨f, hf, hfe⟩ := List.mem_map.1 this
        exact absurd (show e.2.1 = f.2.1 by rw [← hk, ← hfe]; rfl) (hd.2.1.1 f hf)
  subst hxy
  refine ⟨S1, S2, hp, h1, h4, h3, hw, hb, ?_⟩
  have h5 : (x :: (S1 ++ S2)).Perm (x :: R.eraseIdx m) := (List.perm_middle.symm.trans hp).trans (perm_erase hx)
  exact List.Perm.cons_inv h5
theorem Rel.del {L1 L2 : List Nd} {e : Nd} {R : List Rt} {now m : Nat} {x : Rt} (h : Rel (L1 ++ e :: L2) R now) (hd : DistN (L1 ++ e :: L2)) (hx : R[m]? = some x) (hk : x.1.1 = e.2.1) : Rel (L1 ++ L2) (R.eraseIdx m) now := by
  obtain ⟨S1, S2, hp, h1, h2, h3, hw, hb, he⟩ := h.split hd hx hk
  refine ⟨S1 ++ S2, he, by rw [List.map_append, List.map_append, h1, h2], ?_, fun y hy => hb y ?_⟩
  · exact hw.sublist (List.Sublist.append (List.Sublist.refl _) (List.sublist_cons_self _ _))
  · rcases List.mem_append.1 hy with hy | hy
    · exact List.mem_append.2 (.inl hy)
    · exact List.mem_append.2 (.inr (List.mem_cons_of_mem _ hy))
theorem Rel.add {L : List Nd} {R : List Rt} {now : Nat} (h : Rel L R now) (p : Nat) (k d : List UInt8) (v : Value) : Rel (L ++ [(p, k, v, d)]) (R ++ [((k, d), now + 1)]) (now + 1) := by
  obtain ⟨S, hp, hm, hw, hb⟩ := h
  refine ⟨S ++ [((k, d), now + 1)], hp.append_right _, by rw [List.map_append, List.map_append, hm]; rfl, ?_, fun y hy => ?_⟩
  · rw [List.pairwise_append]
    refine ⟨hw, by simp, fun a ha b hb' => ?_⟩
    rw [List.mem_singleton.1 hb']
    have := (hb a ha).2
    show a.2 < now + 1
    omega
  · rcases List.mem_append.1 hy with hy | hy
    · have := hb y hy
      omega
    · rw [List.mem_singleton.1 hy]
      exact ⟨by show 1 ≤ now + 1; omega, Nat.le_refl _⟩
theorem Rel.use {L1 L2 : List Nd} {e : Nd} {R : List Rt} {now m : Nat} {x : Rt} (h : Rel (L1 ++ e :: L2) R now) (hd : DistN (L1 ++ e :: L2)) (hx : R[m]? = some x) (hk : x.1.1 = e.2.1) : Rel ((L1 ++ L2) ++ [e]) (R.set m (x.1, now + 1)) (now + 1) ∧ x.1.2 = e.2.2.2 := by
  obtain ⟨S1, S2, hp, h1, h2, h3, hw, hb, he⟩ := h.split hd hx hk
  obtain ⟨hl, hxe⟩ := List.getElem?_eq_some_iff.1 hx
  have hset : (R.set m (x.1, now + 1)).Perm ((x.1, now + 1) :: R.eraseIdx m) := by
    have h6 := perm_erase (R := R.set m (x.1, now + 1)) (m := m) (x := (x.1, now + 1)) (by rw [List.getElem?_set_self hl])
    rw [List.eraseIdx_set_eq] at h6
    exact h6
  refine ⟨⟨(S1 ++ S2) ++ [(x.1, now + 1)], ?_, ?_, ?_, fun y hy => ?_⟩, by rw [h3]; rfl⟩
  · exact ((he.append_right _).trans (List.perm_append_singleton _ _)).trans hset.symm
  · rw [List.map_append, List.map_append, List.map_append, List.map_append, h1, h2]
    simp [h3]
  · rw [List.pairwise_append]
    refine ⟨hw.sublist (List.Sublist.append (List.Sublist.refl _) (List.sublist_cons_self _ _)), by simp, fun a ha b hb' => ?_⟩
    rw [List.mem_singleton.1 hb']
    have : a ∈ S1 ++ x :: S2 := by
      rcases List.mem_append.1 ha with ha | ha
      · exact List.mem_append.2 (.inl ha)
      · exact List.mem_append.2 (.inr (List.mem_cons_of_mem _ ha))
    have := (hb a this).2
    show a.2 < now + 1
    omega
  · rcases List.mem_append.1 hy with hy | hy
    · have : y ∈ S1 ++ x :: S2 := by
        rcases List.mem_append.1 hy with ha | ha
        · exact List.mem_append.2 (.inl ha)
        · exact List.mem_append.2 (.inr (List.mem_cons_of_mem _ ha))
      have := hb y this
      omega
    · rw [List.mem_singleton.1 hy]
      exact ⟨by show 1 ≤ now + 1; omega, Nat.le_refl _⟩
/-- where the least clock stands, there is the cache's first pair -/
theorem Rel.least {e : Nd} {L : List Nd} {R : List Rt} {now m : Nat} {x : Rt} (h : Rel (e :: L) R now) (hx : R[m]? = some x) (hm : ∀ (j : Nat) (y : Rt), R[j]? = some y → x.2 ≤ y.2) : x.1.1 = e.2.1 := by
  obtain ⟨S, hp, hmp, hw, hb⟩ := h
  obtain ⟨s, S', rfl, h3, h4⟩ := List.map_eq_cons_iff.1 hmp
  have hxm : x ∈ s :: S' := hp.mem_iff.2 (List.mem_of_getElem? hx)
  have hs : x = s := by
    rcases List.mem_cons.1 hxm with hh | hh
    · exact hh
    · have h1 := (List.pairwise_cons.1 hw).1 x hh
      obtain ⟨j, hj⟩ := List.mem_iff_getElem?.1 (hp.mem_iff.1 (List.mem_cons_self : s ∈ s :: S'))
      have := hm j s hj
      omega
  rw [hs]
  show s.1.1 = _
  rw [h3]
  rfl
/-! the order of keys, by the clock -/
def ordR (R : List Rt) : Nat → List (List UInt8)
  | 0 => []
  | n + 1 => ordR R n ++ (R.filter (fun x => x.2 == n + 1)).map (fun x => x.1.1)
theorem pair_filter {S : List Rt} (hw : S.Pairwise (fun x y => x.2 < y.2)) (n : Nat) : S.filter (fun x => decide (x.2 ≤ n + 1)) = S.filter (fun x => decide (x.2 ≤ n)) ++ S.filter (fun x => x.2 == n + 1) := by
  induction S with
  | nil => rfl
  | cons s S ih =>
    rw [List.pairwise_cons] at hw
    have ih := ih hw.2
    rw [List.filter_cons, List.filter_cons, List.filter_cons]
    by_cases h1 : s.2 ≤ n
    · rw [if_pos (by simpa using Nat.le_succ_of_le h1), if_pos (by simpa using h1), if_neg (by simp; omega), ih]
      rfl
    · have hno : S.filter (fun x => decide (x.2 ≤ n)) = [] := by
        rw [List.filter_eq_nil_iff]
        intro y hy
        have := hw.1 y hy
        simp
        omega
      rw [hno, List.nil_append] at ih
      by_cases h2 : s.2 = n + 1
      · rw [if_pos (by simp; omega), if_neg (by simpa using h1), if_pos (by simpa using h2), ih, hno]
        rfl
      · rw [if_neg (by simp; omega), if_neg (by simpa using h1), if_neg (by simpa using h2), ih, hno]
        rfl
theorem perm_filter {S R : List Rt} (hp : S.Perm R) (hw : S.Pairwise (fun x y => x.2 < y.2)) (n : Nat) : R.filter (fun x => x.2 == n) = S.filter (fun x => x.2 == n) := by
  have h1 : (S.filter (fun x => x.2 == n)).Perm (R.filter (fun x => x.2 == n)) := hp.filter _
  have h2 : (S.filter (fun x => x.2 == n)).length ≤ 1 := by
    have hw2 := hw.filter (fun x => x.2 == n)
    match hS : S.filter (fun x => x.2 == n) with
    | [] => rw [hS]; simp
    | [_] => rw [hS]; simp
    | a :: b :: l =>
      rw [hS, List.pairwise_cons] at hw2
      have h3 := hw2.1 b (by simp)
      have ha : a ∈ S.filter (fun x => x.2 == n) := by rw [hS]; simp
      have hb : b ∈ S.filter (fun x => x.2 == n) := by rw [hS]; simp
      have ha := (List.mem_filter.1 ha).2
      have hb := (List.mem_filter.1 hb).2
      simp at ha hb
      omega
  match hS : S.filter (fun x => x.2 == n) with
  | [] => rw [hS] at h1; rw [hS]; exact List.nil_perm.1 h1
  | [a] => rw [hS] at h1; rw [hS]; exact (List.singleton_perm.1 h1).symm
  | a :: b :: l => rw [hS] at h2; simp at h2
theorem ord_filter {S R : List Rt} (hp : S.Perm R) (hw : S.Pairwise (fun x y => x.2 < y.2)) (hb : ∀ x ∈ S, 1 ≤ x.2) : ∀ n, ordR R n = (S.filter (fun x => decide (x.2 ≤ n))).map (fun x => x.1.1)
  | 0 => by
    have : S.filter (fun x => decide (x.2 ≤ 0)) = [] := by
      rw [List.filter_eq_nil_iff]
      intro y hy
      have := hb y hy
      simp
      omega
    rw [this]
    rfl
  | n + 1 => by rw [ordR, ord_filter hp hw hb n, pair_filter hw n, List.map_append, perm_filter hp hw]
theorem Rel.order {L : List Nd} {R : List Rt} {now : Nat} (h : Rel L R now) : ordR R now = L.map (fun e => e.2.1) := by
  obtain ⟨S, hp, hm, hw, hb⟩ := h
  rw [ord_filter hp hw (fun x hx => (hb x hx).1) now, List.filter_eq_self.2 (fun x hx => by simpa using (hb x hx).2)]
  have h1 : S.map (fun x => x.1.1) = (S.map (·.1)).map (fun y => y.1) := by rw [List.map_map]; rfl
  have h2 : L.map (fun e => e.2.1) = (L.map kdN).map (fun y => y.1) := by rw [List.map_map]; rfl
  rw [h1, h2, hm]
end Go.Proofs.Ythhggojpmilmdaa
