/- Regions that draw their order and hold calls: each step keeps a relation R of worlds; an operation that yields its value in every later world of R may come first. -/
import Derived.WalkKit
import Derived.RegionTactic
import Derived.Below
namespace Go.Proofs.Ytiliggleplpjbaa
set_option linter.unusedVariables false
open Go

section
variable {P : Program} {ops : Array Oper} {Q : Exit → Act → World → Prop} {md : Region.Mode} {R : World → World → Prop} {L : Nat}

/-- whatever order is picked from here on, each step leaves a world of R behind the one that it got -/
def wpR (P : Program) (md : Region.Mode) (ops : Array Oper) (R : World → World → Prop) (L : Nat) (Q : Exit → Act → World → Prop) : Nat → Array Bool → Act → World → Prop
  | 0, listed, a, w => Region.ready md ops listed = [] ∧ Q .normal a w
  | fuel + 1, listed, a, w =>
    (Region.ready md ops listed = [] → Q .normal a w) ∧
    ∀ i ∈ Region.ready md ops listed, wpOp P ops Q i (fun a' w' => (i < L → R w w') ∧ wpR P md ops R L Q fuel (listed.setIfInBounds i true) a' w') a w
/-- what is left of the operations from L on waits for i -/
def waits (md : Region.Mode) (ops : Array Oper) (L : Nat) (listed : Array Bool) (i : Nat) : Bool :=
  (List.range ops.size).all fun j => decide (j < L) || j == i || listed.getD j true || (match ops[j]? with
    | none => true
    | some o => o.after.any (fun e => Region.binds md e && e.on == i))
theorem waits_set {md : Region.Mode} {ops : Array Oper} {L i j : Nat} {listed : Array Bool} (h : waits md ops L listed i = true) : waits md ops L (listed.setIfInBounds j true) i = true := by
  unfold waits at h ⊢
  rw [List.all_eq_true] at h ⊢
  intro k hk
  have h2 := h k hk
  simp only [Bool.or_eq_true] at h2 ⊢
  rcases h2 with ((h2 | h2) | h2) | h2
  · exact .inl (.inl (.inl h2))
  · exact .inl (.inl (.inr h2))
  · refine .inl (.inr ?_)
    by_cases e : j = k
    · subst e
      rw [Array.getD_eq_getD_getElem?, Array.getElem?_setIfInBounds]
      simp only [if_true]
      split <;> rfl
    · rw [Array.getD_eq_getD_getElem?, Array.getElem?_setIfInBounds_ne e, ← Array.getD_eq_getD_getElem?]
      exact h2
  · exact .inr h2
theorem wpAny_of_R : ∀ (fuel : Nat) (listed : Array Bool) (a : Act) (w : World), wpR P md ops R L Q fuel listed a w → wpAny P md ops Q fuel listed a w
  | 0, _, _, _, h => h
  | fuel + 1, _, _, _, h => ⟨h.1, fun i hi => wpOp_mono (fun a' w' h' => wpAny_of_R fuel _ a' w' h'.2) (h.2 i hi)⟩
theorem wpR_region {id : Nat} {a : Act} {w : World} (R : World → World → Prop) (L : Nat) (hm : P.follows .mixedOrders = true) (h : wpR P .any ops R L Q ops.size (Array.replicate ops.size false) a w.drew) : (Code.region id ops true).wp P Q a w :=
  wp_region_any hm (wpAny_of_R _ _ _ _ h)

/-- it yields v and leaves the world alone; a call likewise -/
def Quietly (P : Program) (o : Oper) (a : Act) (w : World) (v : Value) : Prop :=
  (execOp a.eval o).run P w = .ok (.value v) w ∨ ∃ f args, (execOp a.eval o).run P w = .ok (.enter f args) w ∧ Calls P f args w (fun e w' => e = .returned v ∧ w' = w)
/-- in this frame, in every world behind w, the operation yields v and leaves the world alone; or it is passed over -/
def YieldsR (P : Program) (ops : Array Oper) (R : World → World → Prop) (o : Oper) (v : Value) (a : Act) (w : World) : Prop :=
  (Region.wanted o (yielded ops a.tmps) = true ∧ ∀ w', R w w' → Quietly P o a w' v) ∨ (Region.wanted o (yielded ops a.tmps) = false ∧ v = undef)
/-- two frames that an operation cannot tell apart -/
def SameAt (ops : Array Oper) (o : Oper) (a a' : Act) : Prop := execOp a'.eval o = execOp a.eval o ∧ Region.wanted o (yielded ops a'.tmps) = Region.wanted o (yielded ops a.tmps)
theorem YieldsR.later {o : Oper} {v : Value} {a a' : Act} {w w' : World} (htrans : ∀ {x y z}, R x y → R y z → R x z) (h : YieldsR P ops R o v a w) (hw : R w w') (hs : SameAt ops o a a') : YieldsR P ops R o v a' w' := by
  rcases h with ⟨h1, h2⟩ | ⟨h1, h2⟩
  · exact .inl ⟨hs.2.trans h1, fun x hx => by unfold Quietly; rw [hs.1]; exact h2 x (htrans hw hx)⟩
  · exact .inr ⟨hs.2.trans h1, h2⟩
theorem YieldsR.run {i : Nat} {o : Oper} {v : Value} {a : Act} {w : World} (hi : ops[i]? = some o) (hrefl : R w w) (hy : YieldsR P ops R o v a w) {K : Act → World → Prop} (h : K (a.put o.dst v) w) : wpOp P ops Q i (fun a' w' => (i < L → R w w') ∧ K a' w') a w := by
  unfold Go.wpOp
  rw [hi]
  rcases hy with ⟨hw, hv⟩ | ⟨hw, hv⟩
  · show if Region.wanted o (yielded ops a.tmps) = true then _ else _
    rw [if_pos hw]
    refine .inl ?_
    unfold Oper.wp
    rcases hv w hrefl with hv | ⟨f, args, hv, hc⟩
    · rw [hv]
      exact ⟨fun _ => hrefl, h⟩
    · rw [hv]
      exact Calls.mono hc fun e w'' ⟨he, hw''⟩ => by subst he; subst hw''; exact ⟨fun _ => hrefl, h⟩
  · show if Region.wanted o (yielded ops a.tmps) = true then _ else _
    rw [if_neg (by rw [hw]; decide), ← hv]
    exact ⟨fun _ => hrefl, h⟩
/-- what another operation does does not hang on the slot of one that is apart from it -/
theorem wpOp_past {j : Nat} {oi oj : Oper} {v : Value} (hj : ops[j]? = some oj) (hap : oi.apart ops oj = true) (hsi : ∀ cs b, oi.op ≠ .select cs b) (hsj : ∀ cs b, oj.op ≠ .select cs b)
    (hQ : ∀ c a w, Q (.panic c) (a.put oi.dst v) w → Q (.panic c) a w) {K : Act → World → Prop} {a : Act} {w : World} (h : wpOp P ops Q j K (a.put oi.dst v) w) :
    wpOp P ops Q j (fun a' w' => SameAt ops oi a a' ∧ K (a'.put oi.dst v) w') a w := by
  obtain ⟨h1, h2, h3⟩ := Oper.apart_spec hap
  have same : ∀ u, SameAt ops oi a (a.put oj.dst u) := fun u => ⟨execOp_put oi hsi a oj.dst u h3, wanted_put oi a oj.dst u h3⟩
  have back : ∀ u w', K ((a.put oi.dst v).put oj.dst u) w' → SameAt ops oi a (a.put oj.dst u) ∧ K ((a.put oj.dst u).put oi.dst v) w' := fun u w' hk => ⟨same u, (Act.put_comm a v u h2) ▸ hk⟩
  have hex := execOp_put (ops := ops) oj hsj a oi.dst v h1
  have hwd := wanted_put (ops := ops) oj a oi.dst v h1
  unfold wpOp at h ⊢
  rw [hj] at h ⊢
  simp only [hwd] at h
  by_cases hw : Region.wanted oj (yielded ops a.tmps) = true
  · simp only [if_pos hw] at h ⊢
    rcases h with h | ⟨ha, hl⟩
    · left
      unfold Oper.wp at h ⊢
      rw [hex] at h
      cases hr : (execOp a.eval oj).run P w with
      | halt x w' =>
        rw [hr] at h
        cases x <;> simp only [Oper.upon] at h ⊢
        exact hQ _ _ _ h
      | ok n w' =>
        rw [hr] at h
        cases n <;> simp only [Oper.upon] at h ⊢
        case value u => exact back _ _ h
        case skip => exact back _ _ h
        case defer d =>
          have e := Act.put_defers a oi.dst v d
          rw [e, Act.put_comm _ v undef h2] at h
          exact ⟨⟨execOp_put oi hsi { a with defers := d :: a.defers } oj.dst undef h3, wanted_put oi { a with defers := d :: a.defers } oj.dst undef h3⟩, h⟩
        case enter f args =>
          refine Calls.mono h fun e w'' he => ?_
          cases e with
          | returned u => exact back _ _ he
          | panicked c => exact hQ _ _ _ he
          | outgrown => exact he
        case row row args => exact Rows.mono h fun u w'' he => back _ _ he
    · exact .inr ⟨by unfold Oper.asks at ha ⊢; rwa [hex] at ha, hl⟩
  · simp only [if_neg hw] at h ⊢
    exact back _ _ h

theorem wpR_first {i : Nat} {oi : Oper} {v : Value} (hi : ops[i]? = some oi) (hsel : ∀ (j : Nat) (o : Oper) cs b, ops[j]? = some o → o.op ≠ .select cs b)
    (hQ : ∀ c a w, Q (.panic c) (a.put oi.dst v) w → Q (.panic c) a w) (hrefl : ∀ x, R x x) (htrans : ∀ {x y z}, R x y → R y z → R x z) :
    ∀ (fuel : Nat) (listed : Array Bool) (a : Act) (w : World), waits md ops L listed i = true →
      (∀ j oj, ops[j]? = some oj → j ≠ i → listed.getD j true = false → (∀ e ∈ oj.after, Region.binds md e = true → e.on ≠ i) → oi.apart ops oj = true) →
      i ∈ Region.ready md ops listed → YieldsR P ops R oi v a w →
      wpR P md ops R L Q fuel (listed.setIfInBounds i true) (a.put oi.dst v) w → wpR P md ops R L Q (fuel + 1) listed a w
  | 0, listed, a, w, hL, _, hr, hy, H => by
    refine ⟨fun h => absurd hr (by rw [h]; exact List.not_mem_nil), fun j hj => ?_⟩
    by_cases hji : j = i
    · subst hji; exact hy.run hi (hrefl _) H
    · have := ready_mono hj hji
      rw [H.1] at this
      cases this
  | fuel + 1, listed, a, w, hL, hfree, hr, hy, H => by
    refine ⟨fun h => absurd hr (by rw [h]; exact List.not_mem_nil), fun j hj => ?_⟩
    by_cases hji : j = i
    · subst hji; exact hy.run hi (hrefl _) H
    · obtain ⟨hjun, oj, hoj, hall⟩ := mem_ready.1 hj
      have hun : listed.getD i true = false := (mem_ready.1 hr).1
      have hnot : ∀ e ∈ oj.after, Region.binds md e = true → e.on ≠ i := fun e he hb heq => by
        have h1 := hall e he hb
        rw [heq] at h1
        by_cases hs : i < listed.size
        · rw [Array.getD_eq_getD_getElem?, Array.getElem?_eq_getElem hs, Option.getD_some] at hun h1
          rw [hun] at h1; cases h1
        · rw [Array.getD_eq_getD_getElem?, Array.getElem?_eq_none (Nat.le_of_not_lt hs)] at h1
          cases h1
      have hjL : j < L := Nat.lt_of_not_le (fun hle => by
        unfold waits at hL
        rw [List.all_eq_true] at hL
        have hjs : j < ops.size := (Array.getElem?_eq_some_iff.mp hoj).1
        have h2 := hL j (List.mem_range.mpr hjs)
        rw [hoj, hjun] at h2
        simp only [Bool.or_eq_true, decide_eq_true_eq, beq_iff_eq] at h2
        rcases h2 with ((h2 | h2) | h2) | h2
        · omega
        · exact hji h2
        · cases h2
        · obtain ⟨e, he, hb⟩ := Array.any_eq_true'.1 h2
          simp only [Bool.and_eq_true, beq_iff_eq] at hb
          exact hnot e he hb.1 hb.2)
      refine wpOp_mono (fun a' w' h3 => ⟨h3.2.1, wpR_first hi hsel hQ hrefl htrans fuel (listed.setIfInBounds j true) a' w' (waits_set hL) (fun k ok hk hki hku hno => hfree k ok hk hki ?_ hno) (ready_mono hr (Ne.symm hji)) (hy.later htrans (h3.2.1 hjL) h3.1) ?_⟩)
        (wpOp_past hoj (hfree j oj hoj hji hjun hnot) (fun cs b => hsel i oi cs b hi) (fun cs b => hsel j oj cs b hoj) hQ (H.2 j (ready_mono hj hji)))
      · by_cases hjk : j = k
        · subst hjk; exact hjun
        · rwa [getD_set_ne true hjk] at hku
      · rw [Array.setIfInBounds_comm _ _ hji]
        exact h3.2.2
theorem YieldsR.runU {i : Nat} {o : Oper} {v : Value} {a : Act} {w : World} (hi : ops[i]? = some o) (hrefl : R w w) (hy : YieldsR P ops (fun _ _ => True) o v a w) {K : Act → World → Prop} (h : K (a.put o.dst v) w) : wpOp P ops Q i (fun a' w' => (i < L → R w w') ∧ K a' w') a w := by
  have hy2 : YieldsR P ops R o v a w := by
    rcases hy with ⟨h1, h2⟩ | h1
    · exact .inl ⟨h1, fun w' _ => h2 w' trivial⟩
    · exact .inr h1
  exact hy2.run hi hrefl h
theorem wpR_firstU {i : Nat} {oi : Oper} {v : Value} (hi : ops[i]? = some oi) (hsel : ∀ (j : Nat) (o : Oper) cs b, ops[j]? = some o → o.op ≠ .select cs b)
    (hQ : ∀ c a w, Q (.panic c) (a.put oi.dst v) w → Q (.panic c) a w) (hrefl : ∀ x, R x x) :
    ∀ (fuel : Nat) (listed : Array Bool) (a : Act) (w : World),
      (∀ j oj, ops[j]? = some oj → j ≠ i → listed.getD j true = false → (∀ e ∈ oj.after, Region.binds md e = true → e.on ≠ i) → oi.apart ops oj = true) →
      i ∈ Region.ready md ops listed → YieldsR P ops (fun _ _ => True) oi v a w →
      wpR P md ops R L Q fuel (listed.setIfInBounds i true) (a.put oi.dst v) w → wpR P md ops R L Q (fuel + 1) listed a w
  | 0, listed, a, w, _, hr, hy, H => by
    refine ⟨fun h => absurd hr (by rw [h]; exact List.not_mem_nil), fun j hj => ?_⟩
    by_cases hji : j = i
    · subst hji; exact hy.runU hi (hrefl _) H
    · have := ready_mono hj hji
      rw [H.1] at this
      cases this
  | fuel + 1, listed, a, w, hfree, hr, hy, H => by
    refine ⟨fun h => absurd hr (by rw [h]; exact List.not_mem_nil), fun j hj => ?_⟩
    by_cases hji : j = i
    · subst hji; exact hy.runU hi (hrefl _) H
    · obtain ⟨hjun, oj, hoj, hall⟩ := mem_ready.1 hj
      have hun : listed.getD i true = false := (mem_ready.1 hr).1
      have hnot : ∀ e ∈ oj.after, Region.binds md e = true → e.on ≠ i := fun e he hb heq => by
        have h1 := hall e he hb
        rw [heq] at h1
        by_cases hs : i < listed.size
        · rw [Array.getD_eq_getD_getElem?, Array.getElem?_eq_getElem hs, Option.getD_some] at hun h1
          rw [hun] at h1; cases h1
        · rw [Array.getD_eq_getD_getElem?, Array.getElem?_eq_none (Nat.le_of_not_lt hs)] at h1
          cases h1
      refine wpOp_mono (fun a' w' h3 => ⟨h3.2.1, wpR_firstU hi hsel hQ hrefl fuel (listed.setIfInBounds j true) a' w' (fun k ok hk hki hku hno => hfree k ok hk hki ?_ hno) (ready_mono hr (Ne.symm hji)) (hy.later (fun _ _ => trivial) trivial h3.1) ?_⟩)
        (wpOp_past hoj (hfree j oj hoj hji hjun hnot) (fun cs b => hsel i oi cs b hi) (fun cs b => hsel j oj cs b hoj) hQ (H.2 j (ready_mono hj hji)))
      · by_cases hjk : j = k
        · subst hjk; exact hjun
        · rwa [getD_set_ne true hjk] at hku
      · rw [Array.setIfInBounds_comm _ _ hji]
        exact h3.2.2
/-- a relation of worlds that a region's steps keep -/
structure Road (R : World → World → Prop) : Prop where
  refl : ∀ x, R x x
  trans : ∀ {x y z}, R x y → R y z → R x z
theorem wpR_take {i : Nat} {oi : Oper} {v : Value} {fuel : Nat} {listed : Array Bool} {a : Act} {w : World} (hR : Road R) (d : Option Tmp) (hi : ops[i]? = some oi) (hd : oi.dst = d)
    (hL : waits md ops L listed i = true) (hs : Region.noSelect ops = true) (hf : Region.free md ops listed i = true) (hr : (Region.ready md ops listed).contains i = true)
    (hQ : ∀ c a w, Q (.panic c) (a.put oi.dst v) w → Q (.panic c) a w) (hw : Region.wanted oi (yielded ops a.tmps) = true) (hy : ∀ w', R w w' → (execOp a.eval oi).run P w' = .ok (.value v) w')
    (h : wpR P md ops R L Q fuel (listed.setIfInBounds i true) (a.put d v) w) : wpR P md ops R L Q (fuel + 1) listed a w :=
  wpR_first hi (Region.noSelect_spec hs) hQ hR.refl hR.trans fuel listed a w hL (Region.free_spec hi hf) (by simpa using hr) (.inl ⟨hw, fun w' hw' => .inl (hy w' hw')⟩) (hd ▸ h)
/-- what hangs on no world may come first, whatever else may -/
theorem wpR_takeU {i : Nat} {oi : Oper} {v : Value} {fuel : Nat} {listed : Array Bool} {a : Act} {w : World} (hR : Road R) (d : Option Tmp) (hi : ops[i]? = some oi) (hd : oi.dst = d)
    (hs : Region.noSelect ops = true) (hf : Region.free md ops listed i = true) (hr : (Region.ready md ops listed).contains i = true)
    (hQ : ∀ c a w, Q (.panic c) (a.put oi.dst v) w → Q (.panic c) a w) (hw : Region.wanted oi (yielded ops a.tmps) = true) (hy : ∀ w', (execOp a.eval oi).run P w' = .ok (.value v) w')
    (h : wpR P md ops R L Q fuel (listed.setIfInBounds i true) (a.put d v) w) : wpR P md ops R L Q (fuel + 1) listed a w :=
  wpR_firstU hi (Region.noSelect_spec hs) hQ hR.refl fuel listed a w (Region.free_spec hi hf) (by simpa using hr) (.inl ⟨hw, fun w' _ => .inl (hy w')⟩) (hd ▸ h)
/-- a call that leaves the world alone -/
theorem wpR_call {i : Nat} {oi : Oper} {v : Value} {fuel : Nat} {listed : Array Bool} {a : Act} {w : World} (hR : Road R) (d : Option Tmp) (hi : ops[i]? = some oi) (hd : oi.dst = d)
    (hL : waits md ops L listed i = true) (hs : Region.noSelect ops = true) (hf : Region.free md ops listed i = true) (hr : (Region.ready md ops listed).contains i = true)
    (hQ : ∀ c a w, Q (.panic c) (a.put oi.dst v) w → Q (.panic c) a w) (hw : Region.wanted oi (yielded ops a.tmps) = true) (hy : ∀ w', R w w' → ∃ f args, (execOp a.eval oi).run P w' = .ok (.enter f args) w' ∧ Calls P f args w' (fun e w'' => e = .returned v ∧ w'' = w'))
    (h : wpR P md ops R L Q fuel (listed.setIfInBounds i true) (a.put d v) w) : wpR P md ops R L Q (fuel + 1) listed a w :=
  wpR_first hi (Region.noSelect_spec hs) hQ hR.refl hR.trans fuel listed a w hL (Region.free_spec hi hf) (by simpa using hr) (.inl ⟨hw, fun w' hw' => .inr (hy w' hw')⟩) (hd ▸ h)
theorem wpR_skip {i : Nat} {oi : Oper} {fuel : Nat} {listed : Array Bool} {a : Act} {w : World} (hR : Road R) (d : Option Tmp) (hi : ops[i]? = some oi) (hd : oi.dst = d)
    (hL : waits md ops L listed i = true) (hs : Region.noSelect ops = true) (hf : Region.free md ops listed i = true) (hr : (Region.ready md ops listed).contains i = true)
    (hQ : ∀ c a w, Q (.panic c) (a.put oi.dst undef) w → Q (.panic c) a w) (hw : Region.wanted oi (yielded ops a.tmps) = false)
    (h : wpR P md ops R L Q fuel (listed.setIfInBounds i true) (a.put d undef) w) : wpR P md ops R L Q (fuel + 1) listed a w :=
  wpR_first hi (Region.noSelect_spec hs) hQ hR.refl hR.trans fuel listed a w hL (Region.free_spec hi hf) (by simpa using hr) (.inr ⟨hw, rfl⟩) (hd ▸ h)
/-- the one operation that may come up -/
theorem wpR_one (i : Nat) {oi : Oper} {fuel : Nat} {listed : Array Bool} {a : Act} {w : World} (hi : ops[i]? = some oi) (hr : Region.ready md ops listed = [i]) (hw : Region.wanted oi (yielded ops a.tmps) = true)
    (h : ∀ K : Act → World → Prop, (∀ a' w', (i < L → R w w') → wpR P md ops R L Q fuel (listed.setIfInBounds i true) a' w' → K a' w') → Oper.wp P oi a w K Q) : wpR P md ops R L Q (fuel + 1) listed a w := by
  refine ⟨fun h0 => absurd (hr ▸ h0) (by simp), fun j hj => ?_⟩
  rw [hr, List.mem_singleton] at hj
  subst hj
  have := h (fun a' w' => (j < L → R w w') ∧ wpR P md ops R L Q fuel (listed.setIfInBounds j true) a' w') (fun _ _ h1 h2 => ⟨h1, h2⟩)
  unfold wpOp
  rw [hi]
  show if Region.wanted oi (yielded ops a.tmps) = true then _ else _
  rw [if_pos hw]
  exact .inl this
theorem wpR_done {listed : Array Bool} {a : Act} {w : World} (hr : Region.ready md ops listed = []) (h : Q .normal a w) : ∀ fuel, wpR P md ops R L Q fuel listed a w
  | 0 => ⟨hr, h⟩
  | _ + 1 => ⟨fun _ => h, by rw [hr]; intro i hi; cases hi⟩
end
/-- below block B nothing turns, nor in any other old block but those of S -/
def Upd (S : Nat → Prop) (w w' : World) : Prop := w.os = w'.os ∧ w.tape = w'.tape ∧ w.output = w'.output ∧ w.heap.size ≤ w'.heap.size ∧ ∀ k, k < w.heap.size → ¬ S k → w'.heap[k]? = w.heap[k]?
theorem Upd.refl (S : Nat → Prop) (w : World) : Upd S w w := ⟨rfl, rfl, rfl, Nat.le_refl _, fun _ _ _ => rfl⟩
theorem Upd.trans {S : Nat → Prop} {x y z : World} (h1 : Upd S x y) (h2 : Upd S y z) : Upd S x z :=
  ⟨h1.1.trans h2.1, h1.2.1.trans h2.2.1, h1.2.2.1.trans h2.2.2.1, Nat.le_trans h1.2.2.2.1 h2.2.2.2.1, fun k hk hs => (h2.2.2.2.2 k (Nat.lt_of_lt_of_le hk h1.2.2.2.1) hs).trans (h1.2.2.2.2 k hk hs)⟩
theorem Upd.road (S : Nat → Prop) : Road (Upd S) := ⟨Upd.refl S, Upd.trans⟩
end Go.Proofs.Ytiliggleplpjbaa
