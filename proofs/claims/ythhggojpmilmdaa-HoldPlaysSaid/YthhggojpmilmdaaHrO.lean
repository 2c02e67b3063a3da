/- hold: rows of the call's own, apart from each other. -/
import Derived.Test.YthhggojpmilmdaaOs
import Derived.Test.YthhggojpmilmdaaReg2
namespace Go.Proofs.Ythhggojpmilmdaa
set_option linter.unusedVariables false
open Go Go.RowKit
abbrev Rw := TypeId × Value × List Value
/-- rows of the call's own, from block B on, no two in one block -/
def Own (B : Nat) (rs : List Rw) (w : World) : Prop :=
  (∀ (i : Nat) (x : Rw), rs[i]? = some x → w.ownsRow B x.1 1 x.2.1 x.2.2.length x.2.2) ∧ ∀ (i j : Nat) (x y : Rw), i ≠ j → rs[i]? = some x → rs[j]? = some y → ∀ b, x.2.1.ownBlock = some b → y.2.1.ownBlock ≠ some b
theorem Own.set {B i : Nat} {rs : List Rw} {r : Rw} {v' : Value} {l' : List Value} {w w' : World} (h : Own B rs w) (hi : rs[i]? = some r) (hg : w.grownBy w' r.2.1.ownBlock) (hn : w'.ownsRow B r.1 1 v' l'.length l')
    (hv : v'.ownBlock = r.2.1.ownBlock ∨ v'.ownBlock = some w.heap.size) : Own B (rs.set i (r.1, v', l')) w' := by
  have hlt : i < rs.length := (List.getElem?_eq_some_iff.1 hi).1
  have hold : ∀ (j : Nat) (y : Rw), j ≠ i → rs[j]? = some y → w'.ownsRow B y.1 1 y.2.1 y.2.2.length y.2.2 := fun j y hj hy =>
    row_keep (h.1 j y hy) (fun k hk => hg.block k (World.ownsRow.lt (h.1 j y hy) k hk).2 (fun e => h.2 j i y r hj hy hi k hk (e ▸ rfl)))
  have hapart : ∀ (j : Nat) (y : Rw), j ≠ i → rs[j]? = some y → ∀ b, y.2.1.ownBlock = some b → v'.ownBlock ≠ some b := fun j y hj hy b hb hb' => by
    rcases hv with hv | hv
    · exact h.2 j i y r hj hy hi b hb (by rw [← hv]; exact hb')
    · rw [hv] at hb'
      injection hb' with hb'
      have := (World.ownsRow.lt (h.1 j y hy) b hb).2
      omega
  refine ⟨fun j x hx => ?_, fun j k x y hjk hx hy b hb => ?_⟩
  · by_cases hj : j = i
    · subst hj
      rw [List.getElem?_set_self hlt] at hx
      injection hx with hx
      subst hx
      exact hn
    · rw [List.getElem?_set_ne (fun e => hj e.symm)] at hx
      exact hold j x hj hx
  · by_cases hj : j = i
    · subst hj
      rw [List.getElem?_set_self hlt] at hx
      injection hx with hx
      subst hx
      rw [List.getElem?_set_ne hjk] at hy
      exact fun hb2 => hapart k y (fun e => hjk e.symm) hy b hb2 hb
    · rw [List.getElem?_set_ne (fun e => hj e.symm)] at hx
      by_cases hk : k = i
      · subst hk
        rw [List.getElem?_set_self hlt] at hy
        injection hy with hy
        subst hy
        exact hapart j x hj hx b hb
      · rw [List.getElem?_set_ne (fun e => hk e.symm)] at hy
        exact h.2 j k x y hjk hx hy b hb
theorem Own.gr {B : Nat} {rs : List Rw} {w w' : World} (hb : Below w.heap.size w w') (h : Own B rs w) : Own B rs w' := ⟨fun i x hx => row_below (h.1 i x hx) hb, h.2⟩
theorem Own.tchg {B lo : Nat} {rs : List Rw} {ts : List TypeId} {w w' : World} (hc : TChg lo ts w w') (hn : ∀ (i : Nat) (x : Rw), rs[i]? = some x → x.1 ∉ ts) (h : Own B rs w) : Own B rs w' := ⟨fun i x hx => row_tchg (h.1 i x hx) hc (hn i x hx), h.2⟩
theorem Own.more {B B' : Nat} {rs : List Rw} {w : World} (h : Own B rs w) (hb : B' ≤ B) : Own B' rs w := ⟨fun i x hx => row_more (h.1 i x hx) hb, h.2⟩
/-- the first rows alone -/
theorem Own.take {B : Nat} {rs : List Rw} {w : World} (h : Own B rs w) (n : Nat) : Own B (rs.take n) w := by
  have key : ∀ (i : Nat) (x : Rw), (rs.take n)[i]? = some x → rs[i]? = some x := fun i x hx => by
    rw [List.getElem?_take] at hx
    split at hx
    · exact hx
    · cases hx
  exact ⟨fun i x hx => h.1 i x (key i x hx), fun i j x y hij hx hy => h.2 i j x y hij (key i x hx) (key j y hy)⟩
/-- rows that are nil may stand behind -/
theorem Own.nils {B : Nat} {rs : List Rw} {w : World} (h : Own B rs w) (T : TypeId) : Own B (rs ++ [(T, .slice none 0 0, [])]) w := by
  have key : ∀ (i : Nat) (x : Rw), (rs ++ [(T, Value.slice none 0 0, [])])[i]? = some x → rs[i]? = some x ∨ x = (T, .slice none 0 0, []) := fun i x hx => by
    rw [List.getElem?_append] at hx
    split at hx
    · exact .inl hx
    · right
      rw [List.getElem?_singleton] at hx
      split at hx
      · injection hx with hx; exact hx.symm
      · cases hx
  refine ⟨fun i x hx => ?_, fun i j x y hij hx hy b hb => ?_⟩
  · rcases key i x hx with hx | rfl
    · exact h.1 i x hx
    · exact World.ownsRow_nil w B _ 1
  · rcases key i x hx with hx | rfl
    · rcases key j y hy with hy | rfl
      · exact h.2 i j x y hij hx hy b hb
      · intro e; cases e
    · cases hb
theorem Own.lit {B i : Nat} {rs : List Rw} {T : TypeId} {x : Value} {w : World} (h : Own B rs w) (hi : rs[i]? = some (T, .slice none 0 0, [])) (hB : B ≤ w.heap.size) : Own B (rs.set i (T, .slice (some ⟨w.heap.size, 0, none⟩) 1 1, [x])) (w.alloc (.cells #[x] T)) :=
  h.set (r := (T, .slice none 0 0, [])) hi (World.grownBy_alloc w _ none) ⟨rfl, .inr ⟨w.heap.size, 1, _, rfl, hB, heap_alloc_new w _, by simp, by simp [maxLen], rfl, rfl⟩⟩ (.inr rfl)
theorem info_int : (Try.prog.info? 3).map (fun i => (i.zero, i.size, i.bytes)) = some (some (.int .i64 0), 1, 8) := by kernel_rfl
section
variable {w : World} {o : Oper} {a : Act} {Q : Exit → Act → World → Prop} {K : Act → World → Prop} {B : Nat} {rs : List Rw}
theorem wp_ownS (s x : Operand) (ho : o.op = .call { callee := .builtin .append, args := #[s, x], argTypes := #[39, 39] })
    (hS : Own B rs w) (i j : Nat) (v : Value) (l : List Value) (A : Option Addr) (y : Value) (hi : rs[i]? = some (9, v, l)) (hj : rs[j]? = some (9, .slice A 1 1, [y])) (hs : a.eval s = v) (hx : a.eval x = .slice A 1 1) (h1 : y.oneCell' = true) (hlen : l.length ≤ 1000000) (hB : B ≤ w.heap.size)
    (h : ∀ v' w', Own B (rs.set i (9, v', l ++ [y])) w' → w.grownBy w' v.ownBlock → K (a.put o.dst v') w') : Oper.wp Try.prog o a w K Q := by
  obtain ⟨i0, hinf, hz0, hz1, hz2⟩ := info_parts info_str
  have hown := hS.1 i _ hi
  refine wp_append_any w s x 39 ho B 9 i0 _ 1 16 Try.underlying39 hinf hz0 hz1 hz2 rfl (by omega) v l.length l hs hown w.heap.size A 1 1 [y] hx (Reads.of_own (hS.1 j _ hj)) (fun u hu => by rw [List.mem_singleton.1 hu]; exact h1)
    (by simp only [maxLen]; omega) (by omega) hB fun v' w' h2 h3 h4 => h v' w' ?_ h3
  exact hS.set hi h3 (by rw [List.length_append]; exact h2) h4
theorem wp_ownI (s x : Operand) (ho : o.op = .call { callee := .builtin .append, args := #[s, x], argTypes := #[53, 53] })
    (hS : Own B rs w) (i j : Nat) (v : Value) (l : List Value) (A : Option Addr) (y : Value) (hi : rs[i]? = some (3, v, l)) (hj : rs[j]? = some (3, .slice A 1 1, [y])) (hs : a.eval s = v) (hx : a.eval x = .slice A 1 1) (h1 : y.oneCell' = true) (hlen : l.length ≤ 1000000) (hB : B ≤ w.heap.size)
    (h : ∀ v' w', Own B (rs.set i (3, v', l ++ [y])) w' → w.grownBy w' v.ownBlock → K (a.put o.dst v') w') : Oper.wp Try.prog o a w K Q := by
  obtain ⟨i0, hinf, hz0, hz1, hz2⟩ := info_parts info_int
  have hown := hS.1 i _ hi
  refine wp_append_any w s x 53 ho B 3 i0 _ 1 8 Try.underlying53 hinf hz0 hz1 hz2 rfl (by omega) v l.length l hs hown w.heap.size A 1 1 [y] hx (Reads.of_own (hS.1 j _ hj)) (fun u hu => by rw [List.mem_singleton.1 hu]; exact h1)
    (by simp only [maxLen]; omega) (by omega) hB fun v' w' h2 h3 h4 => h v' w' ?_ h3
  exact hS.set hi h3 (by rw [List.length_append]; exact h2) h4
end
section
variable {P : Program} {ops : Array Oper} {Q : Exit → Act → World → Prop} {md : Region.Mode} {R : World → World → Prop} {L : Nat}
/-- three operations may come up: each way is walked -/
theorem wpR_three (i j k : Nat) {oi oj ok : Oper} {fuel : Nat} {listed : Array Bool} {a : Act} {w : World} (hi : ops[i]? = some oi) (hj : ops[j]? = some oj) (hk : ops[k]? = some ok) (hr : Region.ready md ops listed = [i, j, k]) (hwi : Region.wanted oi (yielded ops a.tmps) = true) (hwj : Region.wanted oj (yielded ops a.tmps) = true) (hwk : Region.wanted ok (yielded ops a.tmps) = true)
    (h1 : ∀ K : Act → World → Prop, (∀ a' w', (i < L → R w w') → wpR P md ops R L Q fuel (listed.setIfInBounds i true) a' w' → K a' w') → Oper.wp P oi a w K Q)
    (h2 : ∀ K : Act → World → Prop, (∀ a' w', (j < L → R w w') → wpR P md ops R L Q fuel (listed.setIfInBounds j true) a' w' → K a' w') → Oper.wp P oj a w K Q)
    (h3 : ∀ K : Act → World → Prop, (∀ a' w', (k < L → R w w') → wpR P md ops R L Q fuel (listed.setIfInBounds k true) a' w' → K a' w') → Oper.wp P ok a w K Q) : wpR P md ops R L Q (fuel + 1) listed a w := by
  refine ⟨fun h0 => absurd (hr ▸ h0) (by simp), fun m hm => ?_⟩
  rw [hr, List.mem_cons, List.mem_cons, List.mem_singleton] at hm
  rcases hm with rfl | rfl | rfl
  · have := h1 (fun a' w' => (m < L → R w w') ∧ wpR P md ops R L Q fuel (listed.setIfInBounds m true) a' w') (fun _ _ h1 h2 => ⟨h1, h2⟩)
    unfold wpOp
    rw [hi]
    show if Region.wanted oi (yielded ops a.tmps) = true then _ else _
    rw [if_pos hwi]
    exact .inl this
  · have := h2 (fun a' w' => (m < L → R w w') ∧ wpR P md ops R L Q fuel (listed.setIfInBounds m true) a' w') (fun _ _ h1 h2 => ⟨h1, h2⟩)
    unfold wpOp
    rw [hj]
    show if Region.wanted oj (yielded ops a.tmps) = true then _ else _
    rw [if_pos hwj]
    exact .inl this
  · have := h3 (fun a' w' => (m < L → R w w') ∧ wpR P md ops R L Q fuel (listed.setIfInBounds m true) a' w') (fun _ _ h1 h2 => ⟨h1, h2⟩)
    unfold wpOp
    rw [hk]
    show if Region.wanted ok (yielded ops a.tmps) = true then _ else _
    rw [if_pos hwk]
    exact .inl this
end
end Go.Proofs.Ythhggojpmilmdaa
