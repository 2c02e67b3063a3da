/- Regions that draw their order and hold calls: each step keeps a relation R of worlds; an operation that yields its value in every later world of R may come first. -/
import Derived.WalkKit
import Derived.RegionTactic
import Derived.Below
import Derived.Lib.Hide
import Derived.Laws.OwnMore
import Derived.Deep.AppendLies
import Derived.Deep.Draws
import Derived.Maps.AppendAt
import Derived.OwnWalk
import Derived.WideKeyArgs
import Derived.ProofKit
import Derived.OpenShut
import Derived.Deep.QuietTactic
import Derived.BigQuiet
import Derived.Deep.RegionWith
import Derived.Test.YtdgkcgiknfjpjaaChecked
import Derived.Laws.CopyOwn
import Derived.Lib.AppendStr
import Derived.WalkSpells
import Derived.Deep.DeepMust
namespace Go.Proofs.Ytdgkcgiknfjpjaa
set_option linter.unusedVariables false
open Go

section
variable {P : Program} {ops : Array Oper} {Q : Exit → Act → World → Prop} {md : Region.Mode} {R : World → World → Prop} {L : Nat}

/-- whatever order is picked from here on, each step leaves a world of R behind the one that it got -/
def wpR (P : Program) (md : Region.Mode) (ops : Array Oper) (R : World → World → Prop) (L : Nat) (Q : Exit → Act → World → Prop) : Nat → Array Bool → Act → World → Prop
  | 0, listed, a, w => Region.ready md ops listed = [] ∧ Q .normal a w
  | fuel + 1, listed, a, w =>
    (Region.ready md ops listed = [] → Q .normal a w) ∧
    ∀ i ∈ Region.ready md ops listed, wpOp P ops Q i (fun a' w' => (i < L → R w w') ∧ wpR P md ops R L Q fuel (listed.setIfInBounds i true) a' w') a w
/-- what is left of the operations from L on waits for i -/
def waits (md : Region.Mode) (ops : Array Oper) (L : Nat) (listed : Array Bool) (i : Nat) : Bool :=
  (List.range ops.size).all fun j => decide (j < L) || j == i || listed.getD j true || (match ops[j]? with
    | none => true
    | some o => o.after.any (fun e => Region.binds md e && e.on == i))
theorem waits_set {md : Region.Mode} {ops : Array Oper} {L i j : Nat} {listed : Array Bool} (h : waits md ops L listed i = true) : waits md ops L (listed.setIfInBounds j true) i = true := by
  unfold waits at h ⊢
  rw [List.all_eq_true] at h ⊢
  intro k hk
  have h2 := h k hk
  simp only [Bool.or_eq_true] at h2 ⊢
  rcases h2 with ((h2 | h2) | h2) | h2
  · exact .inl (.inl (.inl h2))
  · exact .inl (.inl (.inr h2))
  · refine .inl (.inr ?_)
    by_cases e : j = k
    · subst e
      rw [Array.getD_eq_getD_getElem?, Array.getElem?_setIfInBounds]
      simp only [if_true]
      split <;> rfl
    · rw [Array.getD_eq_getD_getElem?, Array.getElem?_setIfInBounds_ne e, ← Array.getD_eq_getD_getElem?]
      exact h2
  · exact .inr h2
theorem wpAny_of_R : ∀ (fuel : Nat) (listed : Array Bool) (a : Act) (w : World), wpR P md ops R L Q fuel listed a w → wpAny P md ops Q fuel listed a w
  | 0, _, _, _, h => h
  | fuel + 1, _, _, _, h => ⟨h.1, fun i hi => wpOp_mono (fun a' w' h' => wpAny_of_R fuel _ a' w' h'.2) (h.2 i hi)⟩
theorem wpR_region {id : Nat} {a : Act} {w : World} (R : World → World → Prop) (L : Nat) (hm : P.follows .mixedOrders = true) (h : wpR P .any ops R L Q ops.size (Array.replicate ops.size false) a w.drew) : (Code.region id ops true).wp P Q a w :=
  wp_region_any hm (wpAny_of_R _ _ _ _ h)

/-- it yields v and leaves the world alone; a call likewise -/
def Quietly (P : Program) (o : Oper) (a : Act) (w : World) (v : Value) : Prop :=
  (execOp a.eval o).run P w = .ok (.value v) w ∨ ∃ f args, (execOp a.eval o).run P w = .ok (.enter f args) w ∧ Calls P f args w (fun e w' => e = .returned v ∧ w' = w)
/-- in this frame, in every world behind w, the operation yields v and leaves the world alone; or it is passed over -/
def YieldsR (P : Program) (ops : Array Oper) (R : World → World → Prop) (o : Oper) (v : Value) (a : Act) (w : World) : Prop :=
  (Region.wanted o (yielded ops a.tmps) = true ∧ ∀ w', R w w' → Quietly P o a w' v) ∨ (Region.wanted o (yielded ops a.tmps) = false ∧ v = undef)
/-- two frames that an operation cannot tell apart -/
def SameAt (ops : Array Oper) (o : Oper) (a a' : Act) : Prop := execOp a'.eval o = execOp a.eval o ∧ Region.wanted o (yielded ops a'.tmps) = Region.wanted o (yielded ops a.tmps)
theorem YieldsR.later {o : Oper} {v : Value} {a a' : Act} {w w' : World} (htrans : ∀ {x y z}, R x y → R y z → R x z) (h : YieldsR P ops R o v a w) (hw : R w w') (hs : SameAt ops o a a') : YieldsR P ops R o v a' w' := by
  rcases h with ⟨h1, h2⟩ | ⟨h1, h2⟩
  · exact .inl ⟨hs.2.trans h1, fun x hx => by unfold Quietly; rw [hs.1]; exact h2 x (htrans hw hx)⟩
  · exact .inr ⟨hs.2.trans h1, h2⟩
theorem YieldsR.run {i : Nat} {o : Oper} {v : Value} {a : Act} {w : World} (hi : ops[i]? = some o) (hrefl : R w w) (hy : YieldsR P ops R o v a w) {K : Act → World → Prop} (h : K (a.put o.dst v) w) : wpOp P ops Q i (fun a' w' => (i < L → R w w') ∧ K a' w') a w := by
  unfold Go.wpOp
  rw [hi]
  rcases hy with ⟨hw, hv⟩ | ⟨hw, hv⟩
  · show if Region.wanted o (yielded ops a.tmps) = true then _ else _
    rw [if_pos hw]
    refine .inl ?_
    unfold Oper.wp
    rcases hv w hrefl with hv | ⟨f, args, hv, hc⟩
    · rw [hv]
      exact ⟨fun _ => hrefl, h⟩
    · rw [hv]
      exact Calls.mono hc fun e w'' ⟨he, hw''⟩ => by subst he; subst hw''; exact ⟨fun _ => hrefl, h⟩
  · show if Region.wanted o (yielded ops a.tmps) = true then _ else _
    rw [if_neg (by rw [hw]; decide), ← hv]
    exact ⟨fun _ => hrefl, h⟩
/-- what another operation does does not hang on the slot of one that is apart from it -/
theorem wpOp_past {j : Nat} {oi oj : Oper} {v : Value} (hj : ops[j]? = some oj) (hap : oi.apart ops oj = true) (hsi : ∀ cs b, oi.op ≠ .select cs b) (hsj : ∀ cs b, oj.op ≠ .select cs b)
    (hQ : ∀ c a w, Q (.panic c) (a.put oi.dst v) w → Q (.panic c) a w) {K : Act → World → Prop} {a : Act} {w : World} (h : wpOp P ops Q j K (a.put oi.dst v) w) :
    wpOp P ops Q j (fun a' w' => SameAt ops oi a a' ∧ K (a'.put oi.dst v) w') a w := by
  obtain ⟨h1, h2, h3⟩ := Oper.apart_spec hap
  have same : ∀ u, SameAt ops oi a (a.put oj.dst u) := fun u => ⟨execOp_put oi hsi a oj.dst u h3, wanted_put oi a oj.dst u h3⟩
  have back : ∀ u w', K ((a.put oi.dst v).put oj.dst u) w' → SameAt ops oi a (a.put oj.dst u) ∧ K ((a.put oj.dst u).put oi.dst v) w' := fun u w' hk => ⟨same u, (Act.put_comm a v u h2) ▸ hk⟩
  have hex := execOp_put (ops := ops) oj hsj a oi.dst v h1
  have hwd := wanted_put (ops := ops) oj a oi.dst v h1
  unfold wpOp at h ⊢
  rw [hj] at h ⊢
  simp only [hwd] at h
  by_cases hw : Region.wanted oj (yielded ops a.tmps) = true
  · simp only [if_pos hw] at h ⊢
    rcases h with h | ⟨ha, hl⟩
    · left
      unfold Oper.wp at h ⊢
      rw [hex] at h
      cases hr : (execOp a.eval oj).run P w with
      | halt x w' =>
        rw [hr] at h
        cases x <;> simp only [Oper.upon] at h ⊢
        exact hQ _ _ _ h
      | ok n w' =>
        rw [hr] at h
        cases n <;> simp only [Oper.upon] at h ⊢
        case value u => exact back _ _ h
        case skip => exact back _ _ h
        case defer d =>
          have e := Act.put_defers a oi.dst v d
          rw [e, Act.put_comm _ v undef h2] at h
          exact ⟨⟨execOp_put oi hsi { a with defers := d :: a.defers } oj.dst undef h3, wanted_put oi { a with defers := d :: a.defers } oj.dst undef h3⟩, h⟩
        case enter f args =>
          refine Calls.mono h fun e w'' he => ?_
          cases e with
          | returned u => exact back _ _ he
          | panicked c => exact hQ _ _ _ he
          | outgrown => exact he
        case row row args => exact Rows.mono h fun u w'' he => back _ _ he
    · exact .inr ⟨by unfold Oper.asks at ha ⊢; rwa [hex] at ha, hl⟩
  · simp only [if_neg hw] at h ⊢
    exact back _ _ h

theorem wpR_first {i : Nat} {oi : Oper} {v : Value} (hi : ops[i]? = some oi) (hsel : ∀ (j : Nat) (o : Oper) cs b, ops[j]? = some o → o.op ≠ .select cs b)
    (hQ : ∀ c a w, Q (.panic c) (a.put oi.dst v) w → Q (.panic c) a w) (hrefl : ∀ x, R x x) (htrans : ∀ {x y z}, R x y → R y z → R x z) :
    ∀ (fuel : Nat) (listed : Array Bool) (a : Act) (w : World), waits md ops L listed i = true →
      (∀ j oj, ops[j]? = some oj → j ≠ i → listed.getD j true = false → (∀ e ∈ oj.after, Region.binds md e = true → e.on ≠ i) → oi.apart ops oj = true) →
      i ∈ Region.ready md ops listed → YieldsR P ops R oi v a w →
      wpR P md ops R L Q fuel (listed.setIfInBounds i true) (a.put oi.dst v) w → wpR P md ops R L Q (fuel + 1) listed a w
  | 0, listed, a, w, hL, _, hr, hy, H => by
    refine ⟨fun h => absurd hr (by rw [h]; exact List.not_mem_nil), fun j hj => ?_⟩
    by_cases hji : j = i
    · subst hji; exact hy.run hi (hrefl _) H
    · have := ready_mono hj hji
      rw [H.1] at this
      cases this
  | fuel + 1, listed, a, w, hL, hfree, hr, hy, H => by
    refine ⟨fun h => absurd hr (by rw [h]; exact List.not_mem_nil), fun j hj => ?_⟩
    by_cases hji : j = i
    · subst hji; exact hy.run hi (hrefl _) H
    · obtain ⟨hjun, oj, hoj, hall⟩ := mem_ready.1 hj
      have hun : listed.getD i true = false := (mem_ready.1 hr).1
      have hnot : ∀ e ∈ oj.after, Region.binds md e = true → e.on ≠ i := fun e he hb heq => by
        have h1 := hall e he hb
        rw [heq] at h1
        by_cases hs : i < listed.size
        · rw [Array.getD_eq_getD_getElem?, Array.getElem?_eq_getElem hs, Option.getD_some] at hun h1
          rw [hun] at h1; cases h1
        · rw [Array.getD_eq_getD_getElem?, Array.getElem?_eq_none (Nat.le_of_not_lt hs)] at h1
          cases h1
      have hjL : j < L := Nat.lt_of_not_le (fun hle => by
        unfold waits at hL
        rw [List.all_eq_true] at hL
        have hjs : j < ops.size := (Array.getElem?_eq_some_iff.mp hoj).1
        have h2 := hL j (List.mem_range.mpr hjs)
        rw [hoj, hjun] at h2
        simp only [Bool.or_eq_true, decide_eq_true_eq, beq_iff_eq] at h2
        rcases h2 with ((h2 | h2) | h2) | h2
        · omega
        · exact hji h2
        · cases h2
        · obtain ⟨e, he, hb⟩ := Array.any_eq_true'.1 h2
          simp only [Bool.and_eq_true, beq_iff_eq] at hb
          exact hnot e he hb.1 hb.2)
      refine wpOp_mono (fun a' w' h3 => ⟨h3.2.1, wpR_first hi hsel hQ hrefl htrans fuel (listed.setIfInBounds j true) a' w' (waits_set hL) (fun k ok hk hki hku hno => hfree k ok hk hki ?_ hno) (ready_mono hr (Ne.symm hji)) (hy.later htrans (h3.2.1 hjL) h3.1) ?_⟩)
        (wpOp_past hoj (hfree j oj hoj hji hjun hnot) (fun cs b => hsel i oi cs b hi) (fun cs b => hsel j oj cs b hoj) hQ (H.2 j (ready_mono hj hji)))
      · by_cases hjk : j = k
        · subst hjk; exact hjun
        · rwa [getD_set_ne true hjk] at hku
      · rw [Array.setIfInBounds_comm _ _ hji]
        exact h3.2.2
theorem YieldsR.runU {i : Nat} {o : Oper} {v : Value} {a : Act} {w : World} (hi : ops[i]? = some o) (hrefl : R w w) (hy : YieldsR P ops (fun _ _ => True) o v a w) {K : Act → World → Prop} (h : K (a.put o.dst v) w) : wpOp P ops Q i (fun a' w' => (i < L → R w w') ∧ K a' w') a w := by
  have hy2 : YieldsR P ops R o v a w := by
    rcases hy with ⟨h1, h2⟩ | h1
    · exact .inl ⟨h1, fun w' _ => h2 w' trivial⟩
    · exact .inr h1
  exact hy2.run hi hrefl h
theorem wpR_firstU {i : Nat} {oi : Oper} {v : Value} (hi : ops[i]? = some oi) (hsel : ∀ (j : Nat) (o : Oper) cs b, ops[j]? = some o → o.op ≠ .select cs b)
    (hQ : ∀ c a w, Q (.panic c) (a.put oi.dst v) w → Q (.panic c) a w) (hrefl : ∀ x, R x x) :
    ∀ (fuel : Nat) (listed : Array Bool) (a : Act) (w : World),
      (∀ j oj, ops[j]? = some oj → j ≠ i → listed.getD j true = false → (∀ e ∈ oj.after, Region.binds md e = true → e.on ≠ i) → oi.apart ops oj = true) →
      i ∈ Region.ready md ops listed → YieldsR P ops (fun _ _ => True) oi v a w →
      wpR P md ops R L Q fuel (listed.setIfInBounds i true) (a.put oi.dst v) w → wpR P md ops R L Q (fuel + 1) listed a w
  | 0, listed, a, w, _, hr, hy, H => by
    refine ⟨fun h => absurd hr (by rw [h]; exact List.not_mem_nil), fun j hj => ?_⟩
    by_cases hji : j = i
    · subst hji; exact hy.runU hi (hrefl _) H
    · have := ready_mono hj hji
      rw [H.1] at this
      cases this
  | fuel + 1, listed, a, w, hfree, hr, hy, H => by
    refine ⟨fun h => absurd hr (by rw [h]; exact List.not_mem_nil), fun j hj => ?_⟩
    by_cases hji : j = i
    · subst hji; exact hy.runU hi (hrefl _) H
    · obtain ⟨hjun, oj, hoj, hall⟩ := mem_ready.1 hj
      have hun : listed.getD i true = false := (mem_ready.1 hr).1
      have hnot : ∀ e ∈ oj.after, Region.binds md e = true → e.on ≠ i := fun e he hb heq => by
        have h1 := hall e he hb
        rw [heq] at h1
        by_cases hs : i < listed.size
        · rw [Array.getD_eq_getD_getElem?, Array.getElem?_eq_getElem hs, Option.getD_some] at hun h1
          rw [hun] at h1; cases h1
        · rw [Array.getD_eq_getD_getElem?, Array.getElem?_eq_none (Nat.le_of_not_lt hs)] at h1
          cases h1
      refine wpOp_mono (fun a' w' h3 => ⟨h3.2.1, wpR_firstU hi hsel hQ hrefl fuel (listed.setIfInBounds j true) a' w' (fun k ok hk hki hku hno => hfree k ok hk hki ?_ hno) (ready_mono hr (Ne.symm hji)) (hy.later (fun _ _ => trivial) trivial h3.1) ?_⟩)
        (wpOp_past hoj (hfree j oj hoj hji hjun hnot) (fun cs b => hsel i oi cs b hi) (fun cs b => hsel j oj cs b hoj) hQ (H.2 j (ready_mono hj hji)))
      · by_cases hjk : j = k
        · subst hjk; exact hjun
        · rwa [getD_set_ne true hjk] at hku
      · rw [Array.setIfInBounds_comm _ _ hji]
        exact h3.2.2
/-- a relation of worlds that a region's steps keep -/
structure Road (R : World → World → Prop) : Prop where
  refl : ∀ x, R x x
  trans : ∀ {x y z}, R x y → R y z → R x z
theorem wpR_take {i : Nat} {oi : Oper} {v : Value} {fuel : Nat} {listed : Array Bool} {a : Act} {w : World} (hR : Road R) (d : Option Tmp) (hi : ops[i]? = some oi) (hd : oi.dst = d)
    (hL : waits md ops L listed i = true) (hs : Region.noSelect ops = true) (hf : Region.free md ops listed i = true) (hr : (Region.ready md ops listed).contains i = true)
    (hQ : ∀ c a w, Q (.panic c) (a.put oi.dst v) w → Q (.panic c) a w) (hw : Region.wanted oi (yielded ops a.tmps) = true) (hy : ∀ w', R w w' → (execOp a.eval oi).run P w' = .ok (.value v) w')
    (h : wpR P md ops R L Q fuel (listed.setIfInBounds i true) (a.put d v) w) : wpR P md ops R L Q (fuel + 1) listed a w :=
  wpR_first hi (Region.noSelect_spec hs) hQ hR.refl hR.trans fuel listed a w hL (Region.free_spec hi hf) (by simpa using hr) (.inl ⟨hw, fun w' hw' => .inl (hy w' hw')⟩) (hd ▸ h)
/-- what hangs on no world may come first, whatever else may -/
theorem wpR_takeU {i : Nat} {oi : Oper} {v : Value} {fuel : Nat} {listed : Array Bool} {a : Act} {w : World} (hR : Road R) (d : Option Tmp) (hi : ops[i]? = some oi) (hd : oi.dst = d)
    (hs : Region.noSelect ops = true) (hf : Region.free md ops listed i = true) (hr : (Region.ready md ops listed).contains i = true)
    (hQ : ∀ c a w, Q (.panic c) (a.put oi.dst v) w → Q (.panic c) a w) (hw : Region.wanted oi (yielded ops a.tmps) = true) (hy : ∀ w', (execOp a.eval oi).run P w' = .ok (.value v) w')
    (h : wpR P md ops R L Q fuel (listed.setIfInBounds i true) (a.put d v) w) : wpR P md ops R L Q (fuel + 1) listed a w :=
  wpR_firstU hi (Region.noSelect_spec hs) hQ hR.refl fuel listed a w (Region.free_spec hi hf) (by simpa using hr) (.inl ⟨hw, fun w' _ => .inl (hy w')⟩) (hd ▸ h)
/-- a call that leaves the world alone -/
theorem wpR_call {i : Nat} {oi : Oper} {v : Value} {fuel : Nat} {listed : Array Bool} {a : Act} {w : World} (hR : Road R) (d : Option Tmp) (hi : ops[i]? = some oi) (hd : oi.dst = d)
    (hL : waits md ops L listed i = true) (hs : Region.noSelect ops = true) (hf : Region.free md ops listed i = true) (hr : (Region.ready md ops listed).contains i = true)
    (hQ : ∀ c a w, Q (.panic c) (a.put oi.dst v) w → Q (.panic c) a w) (hw : Region.wanted oi (yielded ops a.tmps) = true) (hy : ∀ w', R w w' → ∃ f args, (execOp a.eval oi).run P w' = .ok (.enter f args) w' ∧ Calls P f args w' (fun e w'' => e = .returned v ∧ w'' = w'))
    (h : wpR P md ops R L Q fuel (listed.setIfInBounds i true) (a.put d v) w) : wpR P md ops R L Q (fuel + 1) listed a w :=
  wpR_first hi (Region.noSelect_spec hs) hQ hR.refl hR.trans fuel listed a w hL (Region.free_spec hi hf) (by simpa using hr) (.inl ⟨hw, fun w' hw' => .inr (hy w' hw')⟩) (hd ▸ h)
theorem wpR_skip {i : Nat} {oi : Oper} {fuel : Nat} {listed : Array Bool} {a : Act} {w : World} (hR : Road R) (d : Option Tmp) (hi : ops[i]? = some oi) (hd : oi.dst = d)
    (hL : waits md ops L listed i = true) (hs : Region.noSelect ops = true) (hf : Region.free md ops listed i = true) (hr : (Region.ready md ops listed).contains i = true)
    (hQ : ∀ c a w, Q (.panic c) (a.put oi.dst undef) w → Q (.panic c) a w) (hw : Region.wanted oi (yielded ops a.tmps) = false)
    (h : wpR P md ops R L Q fuel (listed.setIfInBounds i true) (a.put d undef) w) : wpR P md ops R L Q (fuel + 1) listed a w :=
  wpR_first hi (Region.noSelect_spec hs) hQ hR.refl hR.trans fuel listed a w hL (Region.free_spec hi hf) (by simpa using hr) (.inr ⟨hw, rfl⟩) (hd ▸ h)
/-- the one operation that may come up -/
theorem wpR_one (i : Nat) {oi : Oper} {fuel : Nat} {listed : Array Bool} {a : Act} {w : World} (hi : ops[i]? = some oi) (hr : Region.ready md ops listed = [i]) (hw : Region.wanted oi (yielded ops a.tmps) = true)
    (h : ∀ K : Act → World → Prop, (∀ a' w', (i < L → R w w') → wpR P md ops R L Q fuel (listed.setIfInBounds i true) a' w' → K a' w') → Oper.wp P oi a w K Q) : wpR P md ops R L Q (fuel + 1) listed a w := by
  refine ⟨fun h0 => absurd (hr ▸ h0) (by simp), fun j hj => ?_⟩
  rw [hr, List.mem_singleton] at hj
  subst hj
  have := h (fun a' w' => (j < L → R w w') ∧ wpR P md ops R L Q fuel (listed.setIfInBounds j true) a' w') (fun _ _ h1 h2 => ⟨h1, h2⟩)
  unfold wpOp
  rw [hi]
  show if Region.wanted oi (yielded ops a.tmps) = true then _ else _
  rw [if_pos hw]
  exact .inl this
theorem wpR_done {listed : Array Bool} {a : Act} {w : World} (hr : Region.ready md ops listed = []) (h : Q .normal a w) : ∀ fuel, wpR P md ops R L Q fuel listed a w
  | 0 => ⟨hr, h⟩
  | _ + 1 => ⟨fun _ => h, by rw [hr]; intro i hi; cases hi⟩
end
/-- below block B nothing turns, nor in any other old block but those of S -/
def Upd (S : Nat → Prop) (w w' : World) : Prop := w.os = w'.os ∧ w.tape = w'.tape ∧ w.output = w'.output ∧ w.heap.size ≤ w'.heap.size ∧ ∀ k, k < w.heap.size → ¬ S k → w'.heap[k]? = w.heap[k]?
theorem Upd.refl (S : Nat → Prop) (w : World) : Upd S w w := ⟨rfl, rfl, rfl, Nat.le_refl _, fun _ _ _ => rfl⟩
theorem Upd.trans {S : Nat → Prop} {x y z : World} (h1 : Upd S x y) (h2 : Upd S y z) : Upd S x z :=
  ⟨h1.1.trans h2.1, h1.2.1.trans h2.2.1, h1.2.2.1.trans h2.2.2.1, Nat.le_trans h1.2.2.2.1 h2.2.2.2.1, fun k hk hs => (h2.2.2.2.2 k (Nat.lt_of_lt_of_le hk h1.2.2.2.1) hs).trans (h1.2.2.2.2 k hk hs)⟩
theorem Upd.road (S : Nat → Prop) : Road (Upd S) := ⟨Upd.refl S, Upd.trans⟩
end Go.Proofs.Ytdgkcgiknfjpjaa
/- Regions that draw their order: a span of operations, in whatever order they come, told by facts about their values that later worlds keep. -/
namespace Go.Proofs.Ytdgkcgiknfjpjaa
set_option linter.unusedVariables false
open Go
/-- a fact about a value that later worlds keep -/
structure Pd (R : World → World → Prop) where
  p : Value → World → Prop
  st : ∀ {v : Value} {w w' : World}, R w w' → p v w → p v w'
def puts (V : Nat → Value) : List (Nat × Option Tmp) → Act → Act
  | [], a => a
  | x :: l, a => puts V l (a.put x.2 (V x.1))
def Facts {R : World → World → Prop} (Φ : Nat → Pd R) (V : Nat → Value) : List (Nat × Option Tmp) → World → Prop
  | [], _ => True
  | x :: l, w => (Φ x.1).p (V x.1) w ∧ Facts Φ V l w
def lays (listed : Array Bool) (V : Nat → Value) : List (Nat × Option Tmp) → Act → Act
  | [], a => a
  | x :: l, a => lays listed V l (if listed.getD x.1 true = true then a.put x.2 (V x.1) else a)
theorem lays_put {listed : Array Bool} {V : Nat → Value} {d : Option Tmp} {v : Value} : ∀ {l : List (Nat × Option Tmp)} {a : Act}, (∀ x, x ∈ l → ∀ t, d = some t → x.2 ≠ some t) → lays listed V l (a.put d v) = (lays listed V l a).put d v
  | [], a, _ => rfl
  | x :: l, a, h => by
    unfold lays
    by_cases hx : listed.getD x.1 true = true
    · rw [if_pos hx, if_pos hx, Act.put_comm a v (V x.1) (h x (by simp))]
      exact lays_put (fun y hy => h y (by simp [hy]))
    · rw [if_neg hx, if_neg hx]
      exact lays_put (fun y hy => h y (by simp [hy]))
theorem lays_congr {listed listed' : Array Bool} {V V' : Nat → Value} : ∀ {l : List (Nat × Option Tmp)} {a : Act}, (∀ x, x ∈ l → listed'.getD x.1 true = listed.getD x.1 true ∧ V' x.1 = V x.1) → lays listed' V' l a = lays listed V l a
  | [], a, _ => rfl
  | x :: l, a, h => by
    unfold lays
    rw [(h x (by simp)).1, (h x (by simp)).2]
    exact lays_congr (fun y hy => h y (by simp [hy]))
theorem lays_all {listed : Array Bool} {V : Nat → Value} : ∀ {l : List (Nat × Option Tmp)} {a : Act}, (∀ x, x ∈ l → listed.getD x.1 true = true) → lays listed V l a = puts V l a
  | [], a, _ => rfl
  | x :: l, a, h => by
    unfold lays puts
    rw [if_pos (h x (by simp))]
    exact lays_all (fun y hy => h y (by simp [hy]))
theorem lays_none {listed : Array Bool} {V : Nat → Value} : ∀ {l : List (Nat × Option Tmp)} {a : Act}, (∀ x, x ∈ l → listed.getD x.1 true = false) → lays listed V l a = a
  | [], a, _ => rfl
  | x :: l, a, h => by
    unfold lays
    rw [if_neg (by rw [h x (by simp)]; decide)]
    exact lays_none (fun y hy => h y (by simp [hy]))
theorem set_self {listed : Array Bool} {i : Nat} : (listed.setIfInBounds i true).getD i true = true := by
  rw [Array.getD_eq_getD_getElem?, Array.getElem?_setIfInBounds]
  simp only [if_true]
  split <;> rfl
def upd (V : Nat → Value) (i : Nat) (v : Value) : Nat → Value := fun j => if j = i then v else V j
theorem lays_new {listed : Array Bool} {V : Nat → Value} {i : Nat} {d : Option Tmp} {v : Value} (hi : listed.getD i true = false) :
    ∀ {l : List (Nat × Option Tmp)} {a : Act}, (i, d) ∈ l → (l.map (·.1)).Nodup → (∀ x, x ∈ l → x.1 ≠ i → ∀ t, d = some t → x.2 ≠ some t) → lays (listed.setIfInBounds i true) (upd V i v) l a = (lays listed V l a).put d v
  | [], a, h, _, _ => by cases h
  | x :: l, a, h, hn, hd => by
    have hn' := List.nodup_cons.mp hn
    by_cases e : x.1 = i
    · have hx : x = (i, d) := by
        rcases List.mem_cons.mp h with h | h
        · exact h.symm
        · exfalso
          refine hn'.1 ?_
          show x.1 ∈ l.map (·.1)
          rw [e]
          exact List.mem_map.mpr ⟨_, h, rfl⟩
      subst hx
      have hne : ∀ y, y ∈ l → y.1 ≠ i := fun y hy e2 => hn'.1 (by
        show i ∈ l.map (·.1)
        rw [← e2]
        exact List.mem_map.mpr ⟨_, hy, rfl⟩)
      unfold lays
      simp only [set_self, hi, if_true, Bool.false_eq_true, if_false]
      rw [show upd V i v i = v from if_pos rfl, lays_congr (listed := listed) (V := V) (fun y hy => ⟨getD_set_ne true (fun e => hne y hy e.symm), if_neg (hne y hy)⟩)]
      exact lays_put (fun y hy => hd y (by simp [hy]) (hne y hy))
    · have hm : (i, d) ∈ l := by
        rcases List.mem_cons.mp h with h | h
        · exact absurd (by rw [← h]) e
        · exact h
      unfold lays
      rw [getD_set_ne true (fun h => e h.symm), show upd V i v x.1 = V x.1 from if_neg e]
      exact lays_new hi hm hn'.2 (fun y hy => hd y (by simp [hy]))
section
variable {P : Program} {ops : Array Oper} {Q : Exit → Act → World → Prop} {md : Region.Mode} {R : World → World → Prop} {L : Nat}
/-- i waits for j -/
def dep (md : Region.Mode) (ops : Array Oper) (i j : Nat) : Bool := match ops[i]? with
  | some o => o.after.any (fun e => Region.binds md e && e.on == j)
  | none => false
theorem dep_of {i j : Nat} {o : Oper} (ho : ops[i]? = some o) : dep md ops i j = true ↔ ∃ e, e ∈ o.after ∧ Region.binds md e = true ∧ e.on = j := by
  unfold dep
  rw [ho]
  show o.after.any _ = true ↔ _
  rw [Array.any_eq_true']
  constructor
  · rintro ⟨e, he, hb⟩
    simp only [Bool.and_eq_true, beq_iff_eq] at hb
    exact ⟨e, he, hb.1, hb.2⟩
  · rintro ⟨e, he, h1, h2⟩
    exact ⟨e, he, by simp [h1, h2]⟩
theorem same_at {o : Oper} (hsel : ∀ cs b, o.op ≠ .select cs b) {V : Nat → Value} {listed : Array Bool} {p : Nat → Bool} : ∀ {l : List (Nat × Option Tmp)} {a : Act},
    (∀ x, x ∈ l → p x.1 = true → listed.getD x.1 true = true) → (∀ x, x ∈ l → p x.1 = false → listed.getD x.1 true = true → ∀ d, x.2 = some d → d ∉ o.looksAt ops) →
    (l.map (·.1)).Nodup → (∀ x y, x ∈ l → y ∈ l → x.1 ≠ y.1 → ∀ t, x.2 = some t → y.2 ≠ some t) → SameAt ops o (puts V (l.filter (fun x => p x.1)) a) (lays listed V l a)
  | [], a, _, _, _, _ => ⟨rfl, rfl⟩
  | x :: l, a, h1, h2, hn, hd => by
    have hn' := List.nodup_cons.mp hn
    have ih := fun a' => same_at hsel (V := V) (l := l) (a := a') (fun y hy => h1 y (by simp [hy])) (fun y hy => h2 y (by simp [hy])) hn'.2 (fun y z hy hz => hd y z (by simp [hy]) (by simp [hz]))
    unfold lays
    by_cases hp : p x.1 = true
    · rw [List.filter_cons, if_pos hp, if_pos (h1 x (by simp) hp)]
      exact ih _
    · rw [List.filter_cons, if_neg hp]
      by_cases hx : listed.getD x.1 true = true
      · rw [if_pos hx, lays_put (fun y hy => hd x y (by simp) (by simp [hy]) (fun e => hn'.1 (by show x.1 ∈ l.map (·.1); rw [e]; exact List.mem_map.mpr ⟨_, hy, rfl⟩)))]
        have hl := h2 x (by simp) (by simpa using hp) hx
        obtain ⟨i1, i2⟩ := ih a
        exact ⟨(execOp_put o hsel _ x.2 (V x.1) hl).trans i1, (wanted_put o _ x.2 (V x.1) hl).trans i2⟩
      · rw [if_neg hx]
        exact ih _
def OpOK (P : Program) (ops : Array Oper) {R : World → World → Prop} (Φ : Nat → Pd R) (i : Nat) (a : Act) (w : World) : Prop :=
  ∃ o, ops[i]? = some o ∧ ((Region.wanted o (yielded ops a.tmps) = true ∧ Oper.wp P o a w (fun b w' => ∃ v, b = a.put o.dst v ∧ R w w' ∧ (Φ i).p v w') (fun _ _ _ => False)) ∨ (Region.wanted o (yielded ops a.tmps) = false ∧ (Φ i).p undef w))
theorem defers_ne {a : Act} {d : Deferred} {x y : Option Tmp} {u v : Value} (h : ({ a with defers := d :: a.defers } : Act).put x u = a.put y v) : False := by
  have h2 := congrArg (fun b : Act => b.defers.length) h
  cases x <;> cases y <;> simp [Act.put] at h2
theorem put_inj {a : Act} {d : Tmp} {u v : Value} (hd : d < a.tmps.size) (h : a.put (some d) u = a.put (some d) v) : u = v := by
  have h2 := congrArg (fun b : Act => b.tmps[d]?) h
  simpa [Act.put, hd] using h2
theorem puts_size {V : Nat → Value} : ∀ {l : List (Nat × Option Tmp)} {a : Act}, (puts V l a).tmps.size = a.tmps.size
  | [], a => rfl
  | x :: l, a => by
    unfold puts
    rw [puts_size]
    cases x.2 <;> simp [Act.put]
theorem lets_no (h : LetsOut (fun _ _ _ => False)) : False := by
  obtain ⟨_, _, h⟩ := h
  exact h
theorem put_same {P : Program} {o : Oper} {a a' : Act} {w : World} {T : Value → World → Prop} {K : Act → World → Prop} (hex : execOp a'.eval o = execOp a.eval o) (hK : ∀ v w', T v w' → K (a'.put o.dst v) w')
    {d : Tmp} (hd : o.dst = some d) (hsz : d < a.tmps.size) (h : Oper.wp P o a w (fun b w' => ∃ v, b = a.put o.dst v ∧ T v w') (fun _ _ _ => False)) : Oper.wp P o a' w K Q := by
  have hT : ∀ u w', (∃ v, a.put o.dst u = a.put o.dst v ∧ T v w') → K (a'.put o.dst u) w' := fun u w' ⟨v, e, hv⟩ => by
    rw [hd] at e
    have := put_inj hsz e
    subst this
    exact hK _ _ hv
  unfold Oper.wp at h ⊢
  rw [hex]
  generalize (execOp a.eval o).run P w = r at h ⊢
  cases r with
  | halt x w' => cases x <;> simp only [Oper.upon] at h ⊢
  | ok n w' =>
    cases n <;> simp only [Oper.upon] at h ⊢
    case value u => exact hT _ _ h
    case skip => exact hT _ _ h
    case defer d => obtain ⟨v, e, hv⟩ := h; exact (defers_ne e).elim
    case enter f args =>
      refine Calls.mono h fun e w'' he => ?_
      cases e with
      | returned u => exact hT _ _ he
      | panicked c => exact he.elim
      | outgrown => exact (lets_no he).elim
    case row row args => exact Rows.mono h fun u w'' he => hT _ _ he
/-! ### the span -/
def cnt (listed : Array Bool) : List (Nat × Option Tmp) → Nat
  | [] => 0
  | x :: l => (if listed.getD x.1 true = true then 0 else 1) + cnt listed l
theorem cnt_congr {listed listed' : Array Bool} : ∀ {l : List (Nat × Option Tmp)}, (∀ x, x ∈ l → listed'.getD x.1 true = listed.getD x.1 true) → cnt listed' l = cnt listed l
  | [], _ => rfl
  | x :: l, h => by
    unfold cnt
    rw [h x (by simp), cnt_congr (fun y hy => h y (by simp [hy]))]
theorem cnt_new {listed : Array Bool} {i : Nat} (hi : listed.getD i true = false) : ∀ {l : List (Nat × Option Tmp)}, (∃ x, x ∈ l ∧ x.1 = i) → (l.map (·.1)).Nodup → cnt (listed.setIfInBounds i true) l + 1 = cnt listed l
  | [], ⟨_, h, _⟩, _ => by cases h
  | x :: l, hm, hn => by
    have hn' := List.nodup_cons.mp hn
    unfold cnt
    by_cases e : x.1 = i
    · have hne : ∀ y, y ∈ l → y.1 ≠ i := fun y hy e2 => hn'.1 (by
        show x.1 ∈ l.map (·.1)
        rw [e, ← e2]
        exact List.mem_map.mpr ⟨_, hy, rfl⟩)
      rw [e, set_self, hi, cnt_congr (listed := listed) (fun y hy => getD_set_ne true (fun e => hne y hy e.symm))]
      simp
      omega
    · have hm' : ∃ x, x ∈ l ∧ x.1 = i := by
        obtain ⟨y, hy, e2⟩ := hm
        rcases List.mem_cons.mp hy with h | h
        · subst h; exact absurd e2 e
        · exact ⟨y, h, e2⟩
      rw [getD_set_ne true (fun h => e h.symm)]
      have := cnt_new hi hm' hn'.2
      omega
theorem cnt_zero {listed : Array Bool} : ∀ {l : List (Nat × Option Tmp)}, cnt listed l = 0 → ∀ x, x ∈ l → listed.getD x.1 true = true
  | [], _, x, hx => by cases hx
  | y :: l, h, x, hx => by
    replace h : (if listed.getD y.1 true = true then 0 else 1) + cnt listed l = 0 := h
    by_cases hy : listed.getD y.1 true = true
    · rw [if_pos hy] at h
      rcases List.mem_cons.mp hx with e | e
      · subst e; exact hy
      · exact cnt_zero (listed := listed) (by omega) x e
    · rw [if_neg hy] at h
      omega
theorem cnt_pos {listed : Array Bool} : ∀ {l : List (Nat × Option Tmp)}, 0 < cnt listed l → ∃ x, x ∈ l ∧ listed.getD x.1 true = false
  | [], h => by simp [cnt] at h
  | y :: l, h => by
    replace h : 0 < (if listed.getD y.1 true = true then 0 else 1) + cnt listed l := h
    by_cases hy : listed.getD y.1 true = true
    · rw [if_pos hy] at h
      obtain ⟨x, hx, e⟩ := cnt_pos (listed := listed) (l := l) (by omega)
      exact ⟨x, by simp [hx], e⟩
    · exact ⟨y, by simp, by simpa using hy⟩
theorem cnt_full {listed : Array Bool} : ∀ {l : List (Nat × Option Tmp)}, (∀ x, x ∈ l → listed.getD x.1 true = false) → cnt listed l = l.length
  | [], _ => rfl
  | y :: l, h => by
    unfold cnt
    rw [if_neg (by rw [h y (by simp)]; decide), cnt_full (fun x hx => h x (by simp [hx])), List.length_cons]
    omega
/-- k waits for s, by way of S -/
def reach (md : Region.Mode) (ops : Array Oper) (S : List Nat) : Nat → Nat → Nat → Bool
  | 0, k, s => dep md ops k s
  | n + 1, k, s => dep md ops k s || S.any (fun j => dep md ops k j && reach md ops S n j s)
def AllOps (P : Program) (ops : Array Oper) {R : World → World → Prop} (Φ : Nat → Pd R) (a : Act) (w : World) : List (Nat × List (Nat × Option Tmp)) → Prop
  | [] => True
  | x :: l => (∀ V w', R w w' → Facts Φ V x.2 w' → OpOK P ops Φ x.1 (puts V x.2 a) w') ∧ AllOps P ops Φ a w l
theorem AllOps.at_ {Φ : Nat → Pd R} {a : Act} {w : World} : ∀ {T : List (Nat × List (Nat × Option Tmp))}, AllOps P ops Φ a w T → ∀ x, x ∈ T → ∀ V w', R w w' → Facts Φ V x.2 w' → OpOK P ops Φ x.1 (puts V x.2 a) w'
  | [], _, x, hx => by cases hx
  | y :: T, h, x, hx => by
    rcases List.mem_cons.mp hx with e | e
    · subst e; exact h.1
    · exact AllOps.at_ h.2 x e
theorem Facts.mk_ {Φ : Nat → Pd R} {V : Nat → Value} {w : World} : ∀ {l : List (Nat × Option Tmp)}, (∀ x, x ∈ l → (Φ x.1).p (V x.1) w) → Facts Φ V l w
  | [], _ => trivial
  | x :: l, h => ⟨h x (by simp), Facts.mk_ (fun y hy => h y (by simp [hy]))⟩
def dstOf (ops : Array Oper) (i : Nat) : Option Tmp := (ops[i]?).bind (·.dst)
def spanOK (md : Region.Mode) (ops : Array Oper) (listed : Array Bool) (n : Nat) (E : List (Nat × Option Tmp)) (T : List (Nat × List (Nat × Option Tmp))) : Bool :=
  Region.noSelect ops && (listed.size == ops.size) && decide ((E.map (·.1)).Nodup) &&
  T.all (fun x => E.contains (x.1, dstOf ops x.1) && (x.2 == E.filter (fun y => dep md ops x.1 y.1))) &&
  E.all (fun x => (T.map (·.1)).contains x.1 && (x.2 == dstOf ops x.1) && !(listed.getD x.1 true) && (match x.2 with | some d => decide (d < n) | none => false)) &&
  E.all (fun x => match ops[x.1]? with | none => false | some o => o.after.all (fun e => !Region.binds md e || listed.getD e.on false || ((E.map (·.1)).contains e.on && decide (e.on < x.1)))) &&
  E.all (fun x => E.all (fun y => x.1 == y.1 || x.2 != y.2)) &&
  E.all (fun x => E.all (fun y => x.1 == y.1 || dep md ops x.1 y.1 || dep md ops y.1 x.1 || (match ops[x.1]?, y.2 with | some o, some d => !((o.looksAt ops).contains d) | _, _ => true))) &&
  (List.range ops.size).all (fun k => (E.map (·.1)).contains k || listed.getD k true || E.all (fun s => reach md ops (E.map (·.1)) E.length k s.1))

structure SpanInv (md : Region.Mode) (ops : Array Oper) (Φ : Nat → Pd R) (E : List (Nat × Option Tmp)) (listed0 : Array Bool) (w0 : World) (listed : Array Bool) (V : Nat → Value) (w : World) : Prop where
  size : listed.size = ops.size
  old : ∀ k, (∀ x, x ∈ E → x.1 ≠ k) → listed.getD k true = listed0.getD k true
  low : ∀ k, listed0.getD k false = true → listed.getD k false = true
  down : ∀ x, x ∈ E → listed.getD x.1 true = true → ∀ j, dep md ops x.1 j = true → listed.getD j false = true
  road : R w0 w
  facts : ∀ x, x ∈ E → listed.getD x.1 true = true → (Φ x.1).p (V x.1) w
theorem getD_both {listed : Array Bool} {k : Nat} (hk : k < listed.size) (b c : Bool) : listed.getD k b = listed.getD k c := by
  rw [Array.getD_eq_getD_getElem?, Array.getD_eq_getD_getElem?, Array.getElem?_eq_getElem hk]; rfl
theorem reach_listed {listed : Array Bool} {E : List (Nat × Option Tmp)} (hdown : ∀ x, x ∈ E → listed.getD x.1 true = true → ∀ j, dep md ops x.1 j = true → listed.getD j false = true) :
    ∀ (n k s : Nat), (∀ j, dep md ops k j = true → listed.getD j false = true) → reach md ops (E.map (·.1)) n k s = true → listed.getD s false = true
  | 0, k, s, hk, h => hk s h
  | n + 1, k, s, hk, h => by
    unfold reach at h
    rw [Bool.or_eq_true] at h
    rcases h with h | h
    · exact hk s h
    · rw [List.any_eq_true] at h
      obtain ⟨j, hj, h⟩ := h
      rw [Bool.and_eq_true] at h
      obtain ⟨x, hx, rfl⟩ := List.mem_map.mp hj
      have h1 := hk x.1 h.1
      have h2 : listed.getD x.1 true = true := by
        by_cases hs : x.1 < listed.size
        · rw [getD_both hs true false]; exact h1
        · rw [Array.getD_eq_getD_getElem?, Array.getElem?_eq_none (by omega)]; rfl
      exact reach_listed hdown n x.1 s (hdown x hx h2) h.2
theorem least_ {p : Nat → Bool} {E : List (Nat × Option Tmp)} : ∀ (n : Nat), (∃ x, x ∈ E ∧ p x.1 = true ∧ x.1 < n) → ∃ x, x ∈ E ∧ p x.1 = true ∧ ∀ y, y ∈ E → y.1 < x.1 → p y.1 = false
  | 0, ⟨x, _, _, h⟩ => absurd h (by omega)
  | n + 1, ⟨x, hx, hp, hn⟩ => by
    by_cases h : ∃ y, y ∈ E ∧ p y.1 = true ∧ y.1 < n
    · exact least_ n h
    · refine ⟨x, hx, hp, fun y hy hlt => ?_⟩
      cases hh : p y.1 with
      | false => rfl
      | true => exact absurd ⟨y, hy, hh, by omega⟩ h
theorem wpR_span_ind {Φ : Nat → Pd R} {a : Act} {w0 : World} {listed0 : Array Bool} {E : List (Nat × Option Tmp)} {T : List (Nat × List (Nat × Option Tmp))} {fuel : Nat} (hR : Road R)
    (hok : spanOK md ops listed0 a.tmps.size E T = true) (hops : AllOps P ops Φ a w0 T)
    (hend : ∀ V w listed, listed.size = ops.size → (∀ k, listed.getD k true = (E.foldl (fun l x => l.setIfInBounds x.1 true) listed0).getD k true) → R w0 w → Facts Φ V E w → wpR P md ops R L Q fuel listed (puts V E a) w) :
    ∀ (m : Nat) (listed : Array Bool) (V : Nat → Value) (w : World), cnt listed E = m → SpanInv md ops Φ E listed0 w0 listed V w → wpR P md ops R L Q (fuel + m) listed (lays listed V E a) w := by
  unfold spanOK at hok
  simp only [Bool.and_eq_true] at hok
  obtain ⟨⟨⟨⟨⟨⟨⟨⟨c1, c2⟩, c3⟩, c4⟩, c5⟩, c6⟩, c7⟩, c8⟩, c9⟩ := hok
  have hnd : (E.map (·.1)).Nodup := of_decide_eq_true c3
  have hdist : ∀ x y, x ∈ E → y ∈ E → x.1 ≠ y.1 → ∀ t, x.2 = some t → y.2 ≠ some t := fun x y hx hy hne t ht h2 => by
    have h := List.all_eq_true.mp (List.all_eq_true.mp c7 x hx) y hy
    rw [ht, h2] at h
    simp [hne] at h
  have hfold : ∀ (l : List (Nat × Option Tmp)) (z : Array Bool) (k : Nat), (l.foldl (fun l x => l.setIfInBounds x.1 true) z).getD k true = if l.any (fun x => x.1 == k) then true else z.getD k true := by
    intro l
    induction l with
    | nil => intro z k; rfl
    | cons x l ih =>
      intro z k
      rw [List.foldl_cons, ih, List.any_cons]
      by_cases e : x.1 = k
      · subst e
        rw [set_self]; simp
      · rw [getD_set_ne true e, show (x.1 == k) = false from by simpa using e, Bool.false_or]
  intro m
  induction m with
  | zero =>
    intro listed V w hm hI
    have hall := cnt_zero hm
    rw [lays_all hall]
    refine hend V w listed hI.size (fun k => ?_) hI.road (Facts.mk_ (fun x hx => hI.facts x hx (hall x hx)))
    rw [hfold]
    by_cases hk : ∃ x, x ∈ E ∧ x.1 = k
    · obtain ⟨x, hx, rfl⟩ := hk
      rw [hall x hx, if_pos (List.any_eq_true.mpr ⟨x, hx, by simp⟩)]
    · rw [hI.old k (fun x hx e => hk ⟨x, hx, e⟩), if_neg (by
        intro h
        obtain ⟨x, hx, e⟩ := List.any_eq_true.mp h
        exact hk ⟨x, hx, by simpa using e⟩)]
  | succ m ih =>
    intro listed V w hm hI
    have hlt : ∀ x, x ∈ E → listed.getD x.1 true = false → x.1 < ops.size := fun x hx h => by
      rw [← hI.size]
      rcases Nat.lt_or_ge x.1 listed.size with h' | h'
      · exact h'
      · rw [Array.getD_eq_getD_getElem?, Array.getElem?_eq_none h'] at h; cases h
    refine ⟨fun hnone => ?_, fun i hi => ?_⟩
    · exfalso
      obtain ⟨x0, hx0, hu0⟩ := cnt_pos (listed := listed) (l := E) (by omega)
      obtain ⟨x, hx, hp, hmin⟩ := least_ (p := fun k => !(listed.getD k true)) (E := E) (x0.1 + 1) ⟨x0, hx0, by simp [hu0], by omega⟩
      have hu : listed.getD x.1 true = false := by simpa using hp
      have h6 := List.all_eq_true.mp c6 x hx
      have hxs := hlt x hx hu
      rw [Array.getElem?_eq_getElem hxs] at h6
      have hr : x.1 ∈ Region.ready md ops listed := mem_ready.2 ⟨hu, ops[x.1], Array.getElem?_eq_getElem hxs, fun e he hb => by
        have h7 := Array.all_eq_true_iff_forall_mem.1 h6 e he
        simp only [hb, Bool.not_true, Bool.false_or, Bool.or_eq_true, Bool.and_eq_true, decide_eq_true_eq] at h7
        rcases h7 with h7 | ⟨h7, h8⟩
        · exact hI.low _ h7
        · obtain ⟨y, hy, hye⟩ := List.mem_map.mp (by simpa using h7 : e.on ∈ E.map (·.1))
          have h9 := hmin y hy (by rw [hye]; exact h8)
          have h10 : listed.getD y.1 true = true := by simpa using h9
          rw [← hye, getD_both (by rw [hI.size]; omega) false true]
          exact h10⟩
      rw [hnone] at hr
      cases hr
    · obtain ⟨hun, oi, hoi, hall⟩ := mem_ready.1 hi
      have hdeps : ∀ j, dep md ops i j = true → listed.getD j false = true := fun j hj => by
        obtain ⟨e, he, hb, rfl⟩ := (dep_of hoi).mp hj
        exact hall e he hb
      have his : i < ops.size := (Array.getElem?_eq_some_iff.mp hoi).1
      -- i is in the span
      have hiE : ∃ x, x ∈ E ∧ x.1 = i := by
        have h9 := List.all_eq_true.mp c9 i (List.mem_range.mpr his)
        simp only [Bool.or_eq_true] at h9
        rcases h9 with (h9 | h9) | h9
        · obtain ⟨x, hx, e⟩ := List.mem_map.mp (by simpa using h9 : i ∈ E.map (·.1))
          exact ⟨x, hx, e⟩
        · by_cases hk : ∃ x, x ∈ E ∧ x.1 = i
          · exact hk
          · rw [hI.old i (fun x hx e => hk ⟨x, hx, e⟩), h9] at hun
            cases hun
        · exfalso
          obtain ⟨x0, hx0, hu0⟩ := cnt_pos (listed := listed) (l := E) (by omega)
          have h1 := reach_listed hI.down _ i x0.1 hdeps (List.all_eq_true.mp h9 x0 hx0)
          rw [getD_both (by rw [hI.size]; exact hlt x0 hx0 hu0) false true, hu0] at h1
          cases h1
      obtain ⟨x, hx, rfl⟩ := hiE
      have h5 := List.all_eq_true.mp c5 x hx
      simp only [Bool.and_eq_true] at h5
      obtain ⟨⟨⟨h51, h52⟩, h53⟩, h54⟩ := h5
      have hxd : x.2 = dstOf ops x.1 := by simpa using h52
      have hxd2 : x.2 = oi.dst := by rw [hxd]; unfold dstOf; rw [hoi]; rfl
      obtain ⟨y, hy, hye⟩ := List.mem_map.mp (by simpa using h51 : x.1 ∈ T.map (·.1))
      have h4 := List.all_eq_true.mp c4 y hy
      simp only [Bool.and_eq_true] at h4
      have hD : y.2 = E.filter (fun z => dep md ops x.1 z.1) := by rw [← hye]; simpa using h4.2
      have hlisted : ∀ z, z ∈ E → dep md ops x.1 z.1 = true → listed.getD z.1 true = true := fun z hz hd => by
        have h1 := hdeps z.1 hd
        by_cases hs : z.1 < listed.size
        · rw [getD_both hs true false]; exact h1
        · rw [Array.getD_eq_getD_getElem?, Array.getElem?_eq_none (by omega)]; rfl
      have hF : Facts Φ V y.2 w := by
        rw [hD]
        exact Facts.mk_ (fun z hz => by
          have hz' := List.mem_filter.mp hz
          exact hI.facts z hz'.1 (hlisted z hz'.1 hz'.2))
      obtain ⟨o, ho, hcase⟩ := hops.at_ y hy V w hI.road hF
      rw [hye, hoi] at ho
      injection ho with ho
      subst ho
      have hsame : SameAt ops oi (puts V y.2 a) (lays listed V E a) := by
        rw [hD]
        refine same_at (p := fun k => dep md ops x.1 k) (fun cs b => Region.noSelect_spec c1 x.1 oi cs b hoi) (fun z hz => hlisted z hz) (fun z hz hp hl d hd hmem => ?_) hnd hdist
        by_cases hxz : x.1 = z.1
        · rw [← hxz, hun] at hl; cases hl
        · have h8 := List.all_eq_true.mp (List.all_eq_true.mp c8 x hx) z hz
          simp only [Bool.or_eq_true, beq_iff_eq] at h8
          rcases h8 with ((h8 | h8) | h8) | h8
          · exact hxz h8
          · rw [h8] at hp; cases hp
          · have := hI.down z hz hl x.1 h8
            rw [getD_both (by rw [hI.size]; exact his) false true, hun] at this
            cases this
          · rw [hoi, hd] at h8
            simp at h8
            exact h8 hmem
      have hnew : ∀ v w', R w w' → (Φ x.1).p v w' → (x.1 < L → R w w') ∧ wpR P md ops R L Q (fuel + m) (listed.setIfInBounds x.1 true) ((lays listed V E a).put oi.dst v) w' := fun v w' hr hv => by
        refine ⟨fun _ => hr, ?_⟩
        rw [← lays_new (i := x.1) (d := oi.dst) (v := v) hun (by rw [← hxd2]; exact hx) hnd (fun z hz hne t ht => hdist x z hx hz (fun e => hne e.symm) t (by rw [hxd2]; exact ht))]
        refine ih _ _ w' ?_ ⟨by simpa using hI.size, fun k hk => ?_, fun k hk => getD_set_true (hI.low k hk), fun z hz hl j hj => ?_, hR.trans hI.road hr, fun z hz hl => ?_⟩
        · have := cnt_new (listed := listed) (i := x.1) hun (l := E) ⟨x, hx, rfl⟩ hnd
          omega
        · rw [getD_set_ne true (hk x hx)]
          exact hI.old k hk
        · by_cases e : x.1 = z.1
          · rw [← e] at hj
            exact getD_set_true (hdeps j hj)
          · rw [getD_set_ne true e] at hl
            exact getD_set_true (hI.down z hz hl j hj)
        · by_cases e : z.1 = x.1
          · unfold upd
            rw [if_pos e, e]
            exact hv
          · rw [getD_set_ne true (fun h => e h.symm)] at hl
            unfold upd
            rw [if_neg e]
            exact (Φ z.1).st hr (hI.facts z hz hl)
      unfold wpOp
      rw [hoi]
      show if Region.wanted oi (yielded ops (lays listed V E a).tmps) = true then _ else _
      rw [hsame.2]
      rcases hcase with ⟨hw, hwp⟩ | ⟨hw, hv⟩
      · rw [if_pos hw]
        refine .inl ?_
        obtain ⟨d, hd⟩ : ∃ d, x.2 = some d := by
          cases hh : x.2 with
          | none => rw [hh] at h54; cases h54
          | some d => exact ⟨d, rfl⟩
        rw [hd] at h54
        rw [hye] at hwp
        exact put_same (T := fun v w' => R w w' ∧ (Φ x.1).p v w') hsame.1 (fun v w' h => hnew v w' h.1 h.2) (by rw [← hxd2]; exact hd) (by rw [puts_size]; exact of_decide_eq_true h54) hwp
      · rw [if_neg (by rw [hw]; decide)]
        rw [hye] at hv
        exact hnew undef w (hR.refl w) hv
theorem arr_getD {x y : Array Bool} (hs : x.size = y.size) (h : ∀ k, x.getD k true = y.getD k true) : x = y := by
  refine Array.ext hs (fun i h1 h2 => ?_)
  have := h i
  rw [Array.getD_eq_getD_getElem?, Array.getD_eq_getD_getElem?, Array.getElem?_eq_getElem h1, Array.getElem?_eq_getElem h2] at this
  exact this
/-- the operations of E come in some order; each yields a value of which Φ tells, and later worlds keep that -/
theorem wpR_span {listed : Array Bool} {a : Act} {w : World} (Φ : Nat → Pd R) (E : List (Nat × Option Tmp)) (T : List (Nat × List (Nat × Option Tmp))) (listed2 : Array Bool) (fuel : Nat) {n0 : Nat} (hn0 : n0 = fuel + E.length) (hR : Road R)
    (hok : spanOK md ops listed a.tmps.size E T = true) (hl2 : E.foldl (fun l x => l.setIfInBounds x.1 true) listed = listed2) (hops : AllOps P ops Φ a w T)
    (hend : ∀ V w', R w w' → Facts Φ V E w' → wpR P md ops R L Q fuel listed2 (puts V E a) w') : wpR P md ops R L Q n0 listed a w := by
  have hok2 := hok
  unfold spanOK at hok2
  simp only [Bool.and_eq_true] at hok2
  obtain ⟨⟨⟨⟨⟨⟨⟨⟨c1, c2⟩, c3⟩, c4⟩, c5⟩, c6⟩, c7⟩, c8⟩, c9⟩ := hok2
  have hun : ∀ x, x ∈ E → listed.getD x.1 true = false := fun x hx => by
    have h5 := List.all_eq_true.mp c5 x hx
    simp only [Bool.and_eq_true] at h5
    simpa using h5.1.2
  have hsz : listed.size = ops.size := by simpa using c2
  have hfs : ∀ (l : List (Nat × Option Tmp)) (z : Array Bool), (l.foldl (fun l x => l.setIfInBounds x.1 true) z).size = z.size := by
    intro l
    induction l with
    | nil => intro z; rfl
    | cons x l ih => intro z; rw [List.foldl_cons, ih]; simp
  have h := wpR_span_ind (P := P) (Q := Q) (L := L) (fuel := fuel) (Φ := Φ) hR hok hops (fun V w' ls h1 h2 h3 h4 => by
    have e : ls = listed2 := by
      rw [← hl2]
      exact arr_getD (by rw [h1, hfs, hsz]) h2
    rw [e]
    exact hend V w' h3 h4) E.length listed (fun _ => undef) w (cnt_full hun) ⟨hsz, fun _ _ => rfl, fun _ h => h, fun x hx h => absurd h (by rw [hun x hx]; decide), hR.refl w, fun x hx h => absurd h (by rw [hun x hx]; decide)⟩
  rw [lays_none hun] at h
  rw [hn0]
  exact h
end
end Go.Proofs.Ytdgkcgiknfjpjaa
/- Small laws on bytes as UInt8: a byte value is '.int .u8 (U x)'. -/
namespace Go.Proofs.Ytdgkcgiknfjpjaa
open Go Go.RowKit

/-- a byte as the model holds it -/
def U (x : UInt8) : Int := (x.toNat : Int)
theorem U_bd (x : UInt8) : 0 ≤ U x ∧ U x ≤ 255 := by have := x.toNat_lt; unfold U; omega
theorem U_lo (x : UInt8) : 0 ≤ U x := (U_bd x).1
theorem U_hi (x : UInt8) : U x ≤ 255 := (U_bd x).2
theorem U_ofNat (n : Nat) (h : n < 256) : U (UInt8.ofNat n) = (n : Int) := by unfold U; rw [UInt8.toNat_ofNat']; omega
theorem U_inj {x y : UInt8} (h : U x = U y) : x = y := UInt8.toNat_inj.mp (by unfold U at h; omega)
theorem u8_wrap (n : Nat) (h : n < 256) : IntKind.u8.wrap (n : Int) = (n : Int) := by rw [IntKind.wrap_u8]; omega
theorem u8_bv (x : UInt8) : BitVec.ofInt IntKind.u8.bits (U x) = x.toBitVec := by
  apply BitVec.eq_of_toNat_eq
  have := x.toNat_lt
  simp [IntKind.bits, U]
theorem u8_bvl (n : Nat) : BitVec.ofInt IntKind.u8.bits (n : Int) = (UInt8.ofNat n).toBitVec := by
  apply BitVec.eq_of_toNat_eq
  simp [IntKind.bits]
theorem u8_back (b : BitVec IntKind.u8.bits) (y : UInt8) (h : b = y.toBitVec) : IntKind.u8.wrap (b.toNat : Int) = U y := by
  subst h; exact u8_wrap _ y.toNat_lt

@[go_sem] theorem bits_xor_u8 (x y : UInt8) : bits .xor .u8 (U x) (U y) = U (x ^^^ y) :=
  u8_back _ _ (by rw [u8_bv, u8_bv]; rfl)
@[go_sem] theorem bits_and_u8 (x y : UInt8) : bits .and .u8 (U x) (U y) = U (x &&& y) :=
  u8_back _ _ (by rw [u8_bv, u8_bv]; rfl)
@[go_sem] theorem bits_or_u8 (x y : UInt8) : bits .or .u8 (U x) (U y) = U (x ||| y) :=
  u8_back _ _ (by rw [u8_bv, u8_bv]; rfl)
@[go_sem] theorem bits_xor_u8l (x : UInt8) (n : Nat) : bits .xor .u8 (U x) (no_index (OfNat.ofNat n : Int)) = U (x ^^^ UInt8.ofNat n) :=
  u8_back _ _ (by rw [u8_bv]; exact congrArg (x.toBitVec ^^^ ·) (u8_bvl n))
@[go_sem] theorem bits_and_u8l (x : UInt8) (n : Nat) : bits .and .u8 (U x) (no_index (OfNat.ofNat n : Int)) = U (x &&& UInt8.ofNat n) :=
  u8_back _ _ (by rw [u8_bv]; exact congrArg (x.toBitVec &&& ·) (u8_bvl n))
@[go_sem] theorem bits_or_u8l (x : UInt8) (n : Nat) : bits .or .u8 (U x) (no_index (OfNat.ofNat n : Int)) = U (x ||| UInt8.ofNat n) :=
  u8_back _ _ (by rw [u8_bv]; exact congrArg (x.toBitVec ||| ·) (u8_bvl n))
theorem u8_shl (x : UInt8) (k : Nat) (h : k < 8) : (U x * 2 ^ k) % 256 = U (x <<< UInt8.ofNat k) := by
  have e : (x <<< UInt8.ofNat k).toNat = x.toNat * 2 ^ k % 256 := by
    rw [UInt8.toNat_shiftLeft]
    have : (UInt8.ofNat k).toNat % 8 = k := by rw [UInt8.toNat_ofNat']; omega
    rw [this, Nat.shiftLeft_eq]
  unfold U; rw [e]; simp only [Int.natCast_emod, Int.natCast_mul, Int.natCast_pow]; rfl
@[go_sem] theorem u8_shl1 (x : UInt8) : (U x * 2) % 256 = U (x <<< 1) := u8_shl x 1 (by decide)
@[go_sem] theorem u8_shl1w (x : UInt8) : IntKind.u8.wrap (U x * 2) = U (x <<< 1) := by rw [IntKind.wrap_u8]; exact u8_shl1 x
@[go_sem] theorem u8_addw (x y : UInt8) : IntKind.u8.wrap (U x + U y) = U (x + y) := by
  rw [IntKind.wrap_u8]; unfold U; rw [UInt8.toNat_add]; omega
theorem u8_shr (x : UInt8) (k : Nat) (h : k < 8) : U x / 2 ^ k = U (x >>> UInt8.ofNat k) := by
  have e : (x >>> UInt8.ofNat k).toNat = x.toNat / 2 ^ k := by
    rw [UInt8.toNat_shiftRight]
    have : (UInt8.ofNat k).toNat % 8 = k := by rw [UInt8.toNat_ofNat']; omega
    rw [this, Nat.shiftRight_eq_div_pow]
  unfold U; rw [e]; push_cast; rfl
@[go_sem] theorem u8_shr1 (x : UInt8) : U x / 2 = U (x >>> 1) := u8_shr x 1 (by decide)
@[go_sem] theorem u8_eq (x y : UInt8) : (U x == U y) = (x == y) := by
  rw [Bool.eq_iff_iff]; simp only [beq_iff_eq]; exact ⟨U_inj, fun h => by rw [h]⟩
@[go_sem] theorem u8_ne (x y : UInt8) : (U x != U y) = (x != y) := by
  simp only [bne, u8_eq]
@[go_sem] theorem u8_eql (x : UInt8) (n : Nat) (h : n < 256) : (U x == (no_index (OfNat.ofNat n : Int))) = (x == UInt8.ofNat n) := by
  have e : (no_index (OfNat.ofNat n : Int)) = U (UInt8.ofNat n) := (U_ofNat n h).symm
  rw [e]; exact u8_eq _ _
@[go_sem] theorem u8_nel (x : UInt8) (n : Nat) (h : n < 256) : (U x != (no_index (OfNat.ofNat n : Int))) = (x != UInt8.ofNat n) := by
  simp only [bne, u8_eql x n h]
theorem and1_bv (n : Int) : (BitVec.ofInt 64 n &&& BitVec.ofInt 64 1).toNat = (n % 2).toNat := by
  have e : BitVec.ofInt 64 1 = BitVec.ofNat 64 (2 ^ 1 - 1) := rfl
  rw [BitVec.toNat_and, e, BitVec.toNat_ofNat, BitVec.toNat_ofInt]
  have : (2 ^ 1 - 1) % 2 ^ 64 = 2 ^ 1 - 1 := by decide
  rw [this, Nat.and_two_pow_sub_one_eq_mod]
  omega
@[go_sem] theorem bits_and1_i64 (n : Int) : bits .and .i64 n 1 = n % 2 := by
  show IntKind.i64.wrap ((BitVec.ofInt 64 n &&& BitVec.ofInt 64 1).toNat : Int) = n % 2
  rw [and1_bv, IntKind.wrap_i64]
  omega
theorem and1_bv8 (n : Int) : (BitVec.ofInt 8 n &&& BitVec.ofInt 8 1).toNat = (n % 2).toNat := by
  have e : BitVec.ofInt 8 1 = BitVec.ofNat 8 (2 ^ 1 - 1) := rfl
  rw [BitVec.toNat_and, e, BitVec.toNat_ofNat, BitVec.toNat_ofInt]
  have : (2 ^ 1 - 1) % 2 ^ 8 = 2 ^ 1 - 1 := by decide
  rw [this, Nat.and_two_pow_sub_one_eq_mod]
  omega
@[go_sem low] theorem bits_and1_u8 (n : Int) : bits .and .u8 n 1 = n % 2 := by
  show IntKind.u8.wrap ((BitVec.ofInt 8 n &&& BitVec.ofInt 8 1).toNat : Int) = n % 2
  rw [and1_bv8, IntKind.wrap_u8]
  omega
/-- naturals below 2 to the 62 -/
theorem i64_wrap (n : Nat) (h : n < 2 ^ 62) : IntKind.i64.wrap (n : Int) = (n : Int) := by rw [IntKind.wrap_i64]; omega
theorem xor_i64 (a b : Nat) (ha : a < 2 ^ 62) (hb : b < 2 ^ 62) : bits .xor .i64 (a : Int) (b : Int) = ((a ^^^ b : Nat) : Int) := by
  show IntKind.i64.wrap ((BitVec.ofInt 64 (a : Int) ^^^ BitVec.ofInt 64 (b : Int)).toNat : Int) = _
  rw [BitVec.ofInt_natCast, BitVec.ofInt_natCast, BitVec.toNat_xor, BitVec.toNat_ofNat, BitVec.toNat_ofNat,
    Nat.mod_eq_of_lt (Nat.lt_trans ha (by decide)), Nat.mod_eq_of_lt (Nat.lt_trans hb (by decide))]
  exact i64_wrap _ (Nat.xor_lt_two_pow ha hb)
theorem u8_of {a : Int} (h : (Lit.int .u8 a).wf = true) : ∃ x : UInt8, a = U x := by
  simp only [Lit.wf, IntKind.min, IntKind.max, IntKind.signed, IntKind.bits, Bool.and_eq_true] at h
  refine ⟨UInt8.ofNat a.toNat, ?_⟩
  unfold U
  simp at h ⊢; omega
theorem ret_selfv {α : Type} [BEq α] [ReflBEq α] (b : α) : Ending.returned (Value.bool (b == b)) = Ending.returned (Value.bool true) := by rw [beq_self_eq_true]
theorem ret_self (b : Bool) : Ending.returned (Value.bool (b == b)) = Ending.returned (Value.bool true) := by cases b <;> rfl
theorem i64_of {a : Int} (h : (Lit.int .i64 a).wf = true) : -9223372036854775808 ≤ a ∧ a ≤ 9223372036854775807 := by
  simp only [Lit.wf, IntKind.min, IntKind.max, IntKind.signed, IntKind.bits, Bool.and_eq_true] at h
  simp at h; omega
theorem u16_of {a : Int} (h : (Lit.int .u16 a).wf = true) : ∃ n : Nat, a = (n : Int) ∧ n ≤ 65535 := by
  simp only [Lit.wf, IntKind.min, IntKind.max, IntKind.signed, IntKind.bits, Bool.and_eq_true] at h
  refine ⟨a.toNat, ?_⟩
  simp at h ⊢; omega
@[go_sem] theorem u8_wrapU (x : UInt8) : IntKind.u8.wrap (U x) = U x := by rw [IntKind.wrap_u8]; have := U_bd x; omega
@[go_sem] theorem i64_wrapU (x : UInt8) : IntKind.i64.wrap (U x) = U x := by rw [IntKind.wrap_i64]; have := U_bd x; omega
@[go_sem] theorem u8_wrapNat (n : Nat) : IntKind.u8.wrap (n : Int) = U (UInt8.ofNat n) := by
  rw [IntKind.wrap_u8]; unfold U; rw [UInt8.toNat_ofNat']; omega
end Go.Proofs.Ytdgkcgiknfjpjaa
/- Numbers of 32 and 64 bits without sign as BitVec: '.int .u32 (W x)', '.int .u64 (Q x)'. -/
namespace Go.Proofs.Ytdgkcgiknfjpjaa
open Go Go.RowKit

/-- wider and narrower, under names of their own -/
def zx32 (x : UInt8) : BitVec 32 := x.toBitVec.setWidth 32
def zx64b (x : UInt8) : BitVec 64 := x.toBitVec.setWidth 64
def zx64 (x : BitVec 32) : BitVec 64 := x.setWidth 64
def lo32 (x : BitVec 64) : BitVec 32 := x.setWidth 32
def lo8 (x : BitVec 32) : UInt8 := UInt8.ofBitVec (x.setWidth 8)
def lo8q (x : BitVec 64) : UInt8 := UInt8.ofBitVec (x.setWidth 8)
theorem bv_wrap (n : Nat) (k : IntKind) (hk : k.bits = n) (hs : k.signed = false) (m : Int) : k.wrap m = m % (2 ^ n : Int) := by
  unfold IntKind.wrap
  rw [hs, hk]; simp

/-- a number of 32 bits as the model holds it -/
def W (x : BitVec 32) : Int := (x.toNat : Int)
theorem W_bd (x : BitVec 32) : 0 ≤ W x ∧ W x ≤ 4294967295 := by have := x.isLt; unfold W; omega
theorem W_inj {x y : BitVec 32} (h : W x = W y) : x = y := BitVec.eq_of_toNat_eq (by unfold W at h; omega)
theorem W_ofNat (m : Nat) (h : m < 4294967296) : W (BitVec.ofNat 32 m) = (m : Int) := by unfold W; rw [BitVec.toNat_ofNat]; omega
theorem u32_bv (x : BitVec 32) : BitVec.ofInt IntKind.u32.bits (W x) = x := by
  apply BitVec.eq_of_toNat_eq
  have := x.isLt
  show (BitVec.ofInt 32 (x.toNat : Int)).toNat = x.toNat
  rw [BitVec.ofInt_natCast, BitVec.toNat_ofNat]; omega
theorem u32_bvl (m : Nat) : BitVec.ofInt IntKind.u32.bits (m : Int) = BitVec.ofNat 32 m := BitVec.ofInt_natCast ..
theorem u32_back (b : BitVec IntKind.u32.bits) (y : BitVec 32) (h : b = y) : IntKind.u32.wrap (b.toNat : Int) = W y := by
  subst h
  rw [bv_wrap 32 .u32 rfl rfl]
  have := b.isLt
  simp only [IntKind.bits] at this
  unfold W
  show (b.toNat : Int) % 2 ^ 32 = (BitVec.toNat (w := 32) b : Int)
  have e : BitVec.toNat (w := 32) b = b.toNat := rfl
  rw [e]; omega
theorem u32_mod (m : Int) (y : BitVec 32) (h : m % 4294967296 = W y) : IntKind.u32.wrap m = W y := by
  rw [bv_wrap 32 .u32 rfl rfl]; exact h
@[go_sem] theorem u32_wrapF (x : BitVec 32) : IntKind.u32.wrap (W x) = W x := u32_mod _ _ (by have := W_bd x; omega)
theorem u32_wrapNat (m : Nat) : IntKind.u32.wrap (m : Int) = W (BitVec.ofNat 32 m) := u32_mod _ _ (by unfold W; rw [BitVec.toNat_ofNat]; omega)
@[go_sem] theorem u32_wrapU (x : UInt8) : IntKind.u32.wrap (U x) = W (zx32 x) := u32_mod _ _ (by
  have := x.toNat_lt
  unfold W U zx32; rw [BitVec.toNat_setWidth]; simp; omega)
@[go_sem] theorem bits_xor_u32 (x y : BitVec 32) : bits .xor .u32 (W x) (W y) = W (x ^^^ y) :=
  u32_back _ _ (by rw [u32_bv, u32_bv]; rfl)
@[go_sem] theorem bits_xor_u32l (x : BitVec 32) (m : Nat) : bits .xor .u32 (W x) (no_index (OfNat.ofNat m : Int)) = W (x ^^^ BitVec.ofNat 32 m) :=
  u32_back _ _ (by rw [u32_bv]; exact congrArg (x ^^^ ·) (u32_bvl m))
@[go_sem] theorem bits_xor_u32r (x : BitVec 32) (m : Nat) : bits .xor .u32 (no_index (OfNat.ofNat m : Int)) (W x) = W (BitVec.ofNat 32 m ^^^ x) :=
  u32_back _ _ (by rw [u32_bv]; exact congrArg (· ^^^ x) (u32_bvl m))
@[go_sem] theorem bits_and_u32 (x y : BitVec 32) : bits .and .u32 (W x) (W y) = W (x &&& y) :=
  u32_back _ _ (by rw [u32_bv, u32_bv]; rfl)
@[go_sem] theorem bits_and_u32l (x : BitVec 32) (m : Nat) : bits .and .u32 (W x) (no_index (OfNat.ofNat m : Int)) = W (x &&& BitVec.ofNat 32 m) :=
  u32_back _ _ (by rw [u32_bv]; exact congrArg (x &&& ·) (u32_bvl m))
@[go_sem] theorem bits_and_u32r (x : BitVec 32) (m : Nat) : bits .and .u32 (no_index (OfNat.ofNat m : Int)) (W x) = W (BitVec.ofNat 32 m &&& x) :=
  u32_back _ _ (by rw [u32_bv]; exact congrArg (· &&& x) (u32_bvl m))
@[go_sem] theorem bits_or_u32 (x y : BitVec 32) : bits .or .u32 (W x) (W y) = W (x ||| y) :=
  u32_back _ _ (by rw [u32_bv, u32_bv]; rfl)
@[go_sem] theorem bits_or_u32l (x : BitVec 32) (m : Nat) : bits .or .u32 (W x) (no_index (OfNat.ofNat m : Int)) = W (x ||| BitVec.ofNat 32 m) :=
  u32_back _ _ (by rw [u32_bv]; exact congrArg (x ||| ·) (u32_bvl m))
@[go_sem] theorem bits_or_u32r (x : BitVec 32) (m : Nat) : bits .or .u32 (no_index (OfNat.ofNat m : Int)) (W x) = W (BitVec.ofNat 32 m ||| x) :=
  u32_back _ _ (by rw [u32_bv]; exact congrArg (· ||| x) (u32_bvl m))
@[go_sem] theorem u32_add (x y : BitVec 32) : IntKind.u32.wrap (W x + W y) = W (x + y) := u32_mod _ _ (by unfold W; rw [BitVec.toNat_add]; omega)
@[go_sem] theorem u32_addl (x : BitVec 32) (m : Nat) : IntKind.u32.wrap (W x + no_index (OfNat.ofNat m : Int)) = W (x + BitVec.ofNat 32 m) := u32_mod _ _ (by
  show (W x + (m : Int)) % 4294967296 = _
  unfold W; rw [BitVec.toNat_add, BitVec.toNat_ofNat]; omega)
@[go_sem] theorem u32_neg (x : BitVec 32) : IntKind.u32.wrap (- W x) = W (-x) := u32_mod _ _ (by unfold W; rw [BitVec.toNat_neg]; have := x.isLt; omega)
@[go_sem] theorem u32_neg0 (x : BitVec 32) : IntKind.u32.wrap (0 - W x) = W (-x) := by rw [Int.zero_sub]; exact u32_neg x
@[go_sem] theorem u32_shl (x : BitVec 32) (j : Nat) : IntKind.u32.wrap (W x * 2 ^ j) = W (x <<< j) := u32_mod _ _ (by
  unfold W; rw [BitVec.toNat_shiftLeft, Nat.shiftLeft_eq]
  rw [show ((2 : Int) ^ j) = ((2 ^ j : Nat) : Int) from by simp]
  generalize 2 ^ j = p
  rw [← Int.natCast_mul]; omega)
@[go_sem] theorem u32_shr (x : BitVec 32) (j : Nat) : W x / 2 ^ j = W (x >>> j) := by
  unfold W; rw [BitVec.toNat_ushiftRight, Nat.shiftRight_eq_div_pow]
  rw [show ((2 : Int) ^ j) = ((2 ^ j : Nat) : Int) from by simp]
  generalize 2 ^ j = p
  omega
@[go_sem] theorem u32_eq (x y : BitVec 32) : (W x == W y) = (x == y) := by
  rw [Bool.eq_iff_iff]; simp only [beq_iff_eq]; exact ⟨W_inj, fun h => by rw [h]⟩
@[go_sem] theorem u32_ne (x y : BitVec 32) : (W x != W y) = (x != y) := by simp only [bne, u32_eq]
@[go_sem] theorem u32_eql (x : BitVec 32) (m : Nat) (h : m < 4294967296) : (W x == (no_index (OfNat.ofNat m : Int))) = (x == BitVec.ofNat 32 m) := by
  have e : (no_index (OfNat.ofNat m : Int)) = W (BitVec.ofNat 32 m) := (W_ofNat m h).symm
  rw [e]; exact u32_eq _ _
@[go_sem] theorem u32_nel (x : BitVec 32) (m : Nat) (h : m < 4294967296) : (W x != (no_index (OfNat.ofNat m : Int))) = (x != BitVec.ofNat 32 m) := by
  simp only [bne, u32_eql x m h]
@[go_sem] theorem u32_shl1 (x : BitVec 32) : IntKind.u32.wrap (W x * (2 : Int)) = W (x <<< 1) := u32_shl x 1
@[go_sem] theorem u32_shr1 (x : BitVec 32) : W x / (2 : Int) = W (x >>> 1) := u32_shr x 1
@[go_sem] theorem u32_shl3 (x : BitVec 32) : IntKind.u32.wrap (W x * (8 : Int)) = W (x <<< 3) := u32_shl x 3
@[go_sem] theorem u32_shr3 (x : BitVec 32) : W x / (8 : Int) = W (x >>> 3) := u32_shr x 3
@[go_sem] theorem u32_shl6 (x : BitVec 32) : IntKind.u32.wrap (W x * (64 : Int)) = W (x <<< 6) := u32_shl x 6
@[go_sem] theorem u32_shr6 (x : BitVec 32) : W x / (64 : Int) = W (x >>> 6) := u32_shr x 6
@[go_sem] theorem u32_shl7 (x : BitVec 32) : IntKind.u32.wrap (W x * (128 : Int)) = W (x <<< 7) := u32_shl x 7
@[go_sem] theorem u32_shr7 (x : BitVec 32) : W x / (128 : Int) = W (x >>> 7) := u32_shr x 7
@[go_sem] theorem u32_shl8 (x : BitVec 32) : IntKind.u32.wrap (W x * (256 : Int)) = W (x <<< 8) := u32_shl x 8
@[go_sem] theorem u32_shr8 (x : BitVec 32) : W x / (256 : Int) = W (x >>> 8) := u32_shr x 8
@[go_sem] theorem u32_shl10 (x : BitVec 32) : IntKind.u32.wrap (W x * (1024 : Int)) = W (x <<< 10) := u32_shl x 10
@[go_sem] theorem u32_shr10 (x : BitVec 32) : W x / (1024 : Int) = W (x >>> 10) := u32_shr x 10
@[go_sem] theorem u32_shl16 (x : BitVec 32) : IntKind.u32.wrap (W x * (65536 : Int)) = W (x <<< 16) := u32_shl x 16
@[go_sem] theorem u32_shr16 (x : BitVec 32) : W x / (65536 : Int) = W (x >>> 16) := u32_shr x 16
@[go_sem] theorem u32_shl18 (x : BitVec 32) : IntKind.u32.wrap (W x * (262144 : Int)) = W (x <<< 18) := u32_shl x 18
@[go_sem] theorem u32_shr18 (x : BitVec 32) : W x / (262144 : Int) = W (x >>> 18) := u32_shr x 18
@[go_sem] theorem u32_shl22 (x : BitVec 32) : IntKind.u32.wrap (W x * (4194304 : Int)) = W (x <<< 22) := u32_shl x 22
@[go_sem] theorem u32_shr22 (x : BitVec 32) : W x / (4194304 : Int) = W (x >>> 22) := u32_shr x 22
@[go_sem] theorem u32_shl24 (x : BitVec 32) : IntKind.u32.wrap (W x * (16777216 : Int)) = W (x <<< 24) := u32_shl x 24
@[go_sem] theorem u32_shr24 (x : BitVec 32) : W x / (16777216 : Int) = W (x >>> 24) := u32_shr x 24
@[go_sem] theorem u32_shl25 (x : BitVec 32) : IntKind.u32.wrap (W x * (33554432 : Int)) = W (x <<< 25) := u32_shl x 25
@[go_sem] theorem u32_shr25 (x : BitVec 32) : W x / (33554432 : Int) = W (x >>> 25) := u32_shr x 25

/-- a number of 64 bits as the model holds it -/
def Q (x : BitVec 64) : Int := (x.toNat : Int)
theorem Q_bd (x : BitVec 64) : 0 ≤ Q x ∧ Q x ≤ 18446744073709551615 := by have := x.isLt; unfold Q; omega
theorem Q_inj {x y : BitVec 64} (h : Q x = Q y) : x = y := BitVec.eq_of_toNat_eq (by unfold Q at h; omega)
theorem Q_ofNat (m : Nat) (h : m < 18446744073709551616) : Q (BitVec.ofNat 64 m) = (m : Int) := by unfold Q; rw [BitVec.toNat_ofNat]; omega
theorem u64_bv (x : BitVec 64) : BitVec.ofInt IntKind.u64.bits (Q x) = x := by
  apply BitVec.eq_of_toNat_eq
  have := x.isLt
  show (BitVec.ofInt 64 (x.toNat : Int)).toNat = x.toNat
  rw [BitVec.ofInt_natCast, BitVec.toNat_ofNat]; omega
theorem u64_bvl (m : Nat) : BitVec.ofInt IntKind.u64.bits (m : Int) = BitVec.ofNat 64 m := BitVec.ofInt_natCast ..
theorem u64_back (b : BitVec IntKind.u64.bits) (y : BitVec 64) (h : b = y) : IntKind.u64.wrap (b.toNat : Int) = Q y := by
  subst h
  rw [bv_wrap 64 .u64 rfl rfl]
  have := b.isLt
  simp only [IntKind.bits] at this
  unfold Q
  show (b.toNat : Int) % 2 ^ 64 = (BitVec.toNat (w := 64) b : Int)
  have e : BitVec.toNat (w := 64) b = b.toNat := rfl
  rw [e]; omega
theorem u64_mod (m : Int) (y : BitVec 64) (h : m % 18446744073709551616 = Q y) : IntKind.u64.wrap m = Q y := by
  rw [bv_wrap 64 .u64 rfl rfl]; exact h
@[go_sem] theorem u64_wrapF (x : BitVec 64) : IntKind.u64.wrap (Q x) = Q x := u64_mod _ _ (by have := Q_bd x; omega)
theorem u64_wrapNat (m : Nat) : IntKind.u64.wrap (m : Int) = Q (BitVec.ofNat 64 m) := u64_mod _ _ (by unfold Q; rw [BitVec.toNat_ofNat]; omega)
@[go_sem] theorem u64_wrapU (x : UInt8) : IntKind.u64.wrap (U x) = Q (zx64b x) := u64_mod _ _ (by
  have := x.toNat_lt
  unfold Q U zx64b; rw [BitVec.toNat_setWidth]; simp; omega)
@[go_sem] theorem bits_xor_u64 (x y : BitVec 64) : bits .xor .u64 (Q x) (Q y) = Q (x ^^^ y) :=
  u64_back _ _ (by rw [u64_bv, u64_bv]; rfl)
@[go_sem] theorem bits_xor_u64l (x : BitVec 64) (m : Nat) : bits .xor .u64 (Q x) (no_index (OfNat.ofNat m : Int)) = Q (x ^^^ BitVec.ofNat 64 m) :=
  u64_back _ _ (by rw [u64_bv]; exact congrArg (x ^^^ ·) (u64_bvl m))
@[go_sem] theorem bits_xor_u64r (x : BitVec 64) (m : Nat) : bits .xor .u64 (no_index (OfNat.ofNat m : Int)) (Q x) = Q (BitVec.ofNat 64 m ^^^ x) :=
  u64_back _ _ (by rw [u64_bv]; exact congrArg (· ^^^ x) (u64_bvl m))
@[go_sem] theorem bits_and_u64 (x y : BitVec 64) : bits .and .u64 (Q x) (Q y) = Q (x &&& y) :=
  u64_back _ _ (by rw [u64_bv, u64_bv]; rfl)
@[go_sem] theorem bits_and_u64l (x : BitVec 64) (m : Nat) : bits .and .u64 (Q x) (no_index (OfNat.ofNat m : Int)) = Q (x &&& BitVec.ofNat 64 m) :=
  u64_back _ _ (by rw [u64_bv]; exact congrArg (x &&& ·) (u64_bvl m))
@[go_sem] theorem bits_and_u64r (x : BitVec 64) (m : Nat) : bits .and .u64 (no_index (OfNat.ofNat m : Int)) (Q x) = Q (BitVec.ofNat 64 m &&& x) :=
  u64_back _ _ (by rw [u64_bv]; exact congrArg (· &&& x) (u64_bvl m))
@[go_sem] theorem bits_or_u64 (x y : BitVec 64) : bits .or .u64 (Q x) (Q y) = Q (x ||| y) :=
  u64_back _ _ (by rw [u64_bv, u64_bv]; rfl)
@[go_sem] theorem bits_or_u64l (x : BitVec 64) (m : Nat) : bits .or .u64 (Q x) (no_index (OfNat.ofNat m : Int)) = Q (x ||| BitVec.ofNat 64 m) :=
  u64_back _ _ (by rw [u64_bv]; exact congrArg (x ||| ·) (u64_bvl m))
@[go_sem] theorem bits_or_u64r (x : BitVec 64) (m : Nat) : bits .or .u64 (no_index (OfNat.ofNat m : Int)) (Q x) = Q (BitVec.ofNat 64 m ||| x) :=
  u64_back _ _ (by rw [u64_bv]; exact congrArg (· ||| x) (u64_bvl m))
@[go_sem] theorem u64_add (x y : BitVec 64) : IntKind.u64.wrap (Q x + Q y) = Q (x + y) := u64_mod _ _ (by unfold Q; rw [BitVec.toNat_add]; omega)
@[go_sem] theorem u64_addl (x : BitVec 64) (m : Nat) : IntKind.u64.wrap (Q x + no_index (OfNat.ofNat m : Int)) = Q (x + BitVec.ofNat 64 m) := u64_mod _ _ (by
  show (Q x + (m : Int)) % 18446744073709551616 = _
  unfold Q; rw [BitVec.toNat_add, BitVec.toNat_ofNat]; omega)
@[go_sem] theorem u64_neg (x : BitVec 64) : IntKind.u64.wrap (- Q x) = Q (-x) := u64_mod _ _ (by unfold Q; rw [BitVec.toNat_neg]; have := x.isLt; omega)
@[go_sem] theorem u64_neg0 (x : BitVec 64) : IntKind.u64.wrap (0 - Q x) = Q (-x) := by rw [Int.zero_sub]; exact u64_neg x
@[go_sem] theorem u64_shl (x : BitVec 64) (j : Nat) : IntKind.u64.wrap (Q x * 2 ^ j) = Q (x <<< j) := u64_mod _ _ (by
  unfold Q; rw [BitVec.toNat_shiftLeft, Nat.shiftLeft_eq]
  rw [show ((2 : Int) ^ j) = ((2 ^ j : Nat) : Int) from by simp]
  generalize 2 ^ j = p
  rw [← Int.natCast_mul]; omega)
@[go_sem] theorem u64_shr (x : BitVec 64) (j : Nat) : Q x / 2 ^ j = Q (x >>> j) := by
  unfold Q; rw [BitVec.toNat_ushiftRight, Nat.shiftRight_eq_div_pow]
  rw [show ((2 : Int) ^ j) = ((2 ^ j : Nat) : Int) from by simp]
  generalize 2 ^ j = p
  omega
@[go_sem] theorem u64_eq (x y : BitVec 64) : (Q x == Q y) = (x == y) := by
  rw [Bool.eq_iff_iff]; simp only [beq_iff_eq]; exact ⟨Q_inj, fun h => by rw [h]⟩
@[go_sem] theorem u64_ne (x y : BitVec 64) : (Q x != Q y) = (x != y) := by simp only [bne, u64_eq]
@[go_sem] theorem u64_eql (x : BitVec 64) (m : Nat) (h : m < 18446744073709551616) : (Q x == (no_index (OfNat.ofNat m : Int))) = (x == BitVec.ofNat 64 m) := by
  have e : (no_index (OfNat.ofNat m : Int)) = Q (BitVec.ofNat 64 m) := (Q_ofNat m h).symm
  rw [e]; exact u64_eq _ _
@[go_sem] theorem u64_nel (x : BitVec 64) (m : Nat) (h : m < 18446744073709551616) : (Q x != (no_index (OfNat.ofNat m : Int))) = (x != BitVec.ofNat 64 m) := by
  simp only [bne, u64_eql x m h]
@[go_sem] theorem u64_shl1 (x : BitVec 64) : IntKind.u64.wrap (Q x * (2 : Int)) = Q (x <<< 1) := u64_shl x 1
@[go_sem] theorem u64_shr1 (x : BitVec 64) : Q x / (2 : Int) = Q (x >>> 1) := u64_shr x 1
@[go_sem] theorem u64_shl3 (x : BitVec 64) : IntKind.u64.wrap (Q x * (8 : Int)) = Q (x <<< 3) := u64_shl x 3
@[go_sem] theorem u64_shr3 (x : BitVec 64) : Q x / (8 : Int) = Q (x >>> 3) := u64_shr x 3
@[go_sem] theorem u64_shl6 (x : BitVec 64) : IntKind.u64.wrap (Q x * (64 : Int)) = Q (x <<< 6) := u64_shl x 6
@[go_sem] theorem u64_shr6 (x : BitVec 64) : Q x / (64 : Int) = Q (x >>> 6) := u64_shr x 6
@[go_sem] theorem u64_shl7 (x : BitVec 64) : IntKind.u64.wrap (Q x * (128 : Int)) = Q (x <<< 7) := u64_shl x 7
@[go_sem] theorem u64_shr7 (x : BitVec 64) : Q x / (128 : Int) = Q (x >>> 7) := u64_shr x 7
@[go_sem] theorem u64_shl8 (x : BitVec 64) : IntKind.u64.wrap (Q x * (256 : Int)) = Q (x <<< 8) := u64_shl x 8
@[go_sem] theorem u64_shr8 (x : BitVec 64) : Q x / (256 : Int) = Q (x >>> 8) := u64_shr x 8
@[go_sem] theorem u64_shl10 (x : BitVec 64) : IntKind.u64.wrap (Q x * (1024 : Int)) = Q (x <<< 10) := u64_shl x 10
@[go_sem] theorem u64_shr10 (x : BitVec 64) : Q x / (1024 : Int) = Q (x >>> 10) := u64_shr x 10
@[go_sem] theorem u64_shl16 (x : BitVec 64) : IntKind.u64.wrap (Q x * (65536 : Int)) = Q (x <<< 16) := u64_shl x 16
@[go_sem] theorem u64_shr16 (x : BitVec 64) : Q x / (65536 : Int) = Q (x >>> 16) := u64_shr x 16
@[go_sem] theorem u64_shl18 (x : BitVec 64) : IntKind.u64.wrap (Q x * (262144 : Int)) = Q (x <<< 18) := u64_shl x 18
@[go_sem] theorem u64_shr18 (x : BitVec 64) : Q x / (262144 : Int) = Q (x >>> 18) := u64_shr x 18
@[go_sem] theorem u64_shl22 (x : BitVec 64) : IntKind.u64.wrap (Q x * (4194304 : Int)) = Q (x <<< 22) := u64_shl x 22
@[go_sem] theorem u64_shr22 (x : BitVec 64) : Q x / (4194304 : Int) = Q (x >>> 22) := u64_shr x 22
@[go_sem] theorem u64_shl24 (x : BitVec 64) : IntKind.u64.wrap (Q x * (16777216 : Int)) = Q (x <<< 24) := u64_shl x 24
@[go_sem] theorem u64_shr24 (x : BitVec 64) : Q x / (16777216 : Int) = Q (x >>> 24) := u64_shr x 24
@[go_sem] theorem u64_shl25 (x : BitVec 64) : IntKind.u64.wrap (Q x * (33554432 : Int)) = Q (x <<< 25) := u64_shl x 25
@[go_sem] theorem u64_shr25 (x : BitVec 64) : Q x / (33554432 : Int) = Q (x >>> 25) := u64_shr x 25
@[go_sem] theorem u64_shl32 (x : BitVec 64) : IntKind.u64.wrap (Q x * (4294967296 : Int)) = Q (x <<< 32) := u64_shl x 32
@[go_sem] theorem u64_shr32 (x : BitVec 64) : Q x / (4294967296 : Int) = Q (x >>> 32) := u64_shr x 32

@[go_sem] theorem u32_compl (x : BitVec 32) : bits .xor .u32 IntKind.u32.max (W x) = W (~~~x) := by
  rw [show IntKind.u32.max = ((4294967295 : Nat) : Int) from by decide]
  exact u32_back _ _ (by rw [u32_bv, u32_bvl]; show BitVec.allOnes 32 ^^^ x = ~~~x; exact BitVec.allOnes_xor)
@[go_sem] theorem u64_compl (x : BitVec 64) : bits .xor .u64 IntKind.u64.max (Q x) = Q (~~~x) := by
  rw [show IntKind.u64.max = ((18446744073709551615 : Nat) : Int) from by decide]
  exact u64_back _ _ (by rw [u64_bv, u64_bvl]; show BitVec.allOnes 64 ^^^ x = ~~~x; exact BitVec.allOnes_xor)
/-- a byte shifted right by any count -/
def shr8 (x : UInt8) (k : Nat) : UInt8 := UInt8.ofNat (x.toNat >>> k)
theorem u8_shrv (x : UInt8) (k : Nat) : U x / 2 ^ k = U (shr8 x k) := by
  unfold U shr8
  have h : x.toNat >>> k < 256 := by
    rw [Nat.shiftRight_eq_div_pow]; exact Nat.lt_of_le_of_lt (Nat.div_le_self _ _) x.toNat_lt
  rw [UInt8.toNat_ofNat', Nat.mod_eq_of_lt h, Nat.shiftRight_eq_div_pow]
  rw [show ((2 : Int) ^ k) = ((2 ^ k : Nat) : Int) from by simp]
  generalize 2 ^ k = p
  omega
@[go_sem] theorem u32_signed : IntKind.u32.signed = false := rfl
@[go_sem] theorem u64_signed : IntKind.u64.signed = false := rfl
@[go_sem] theorem u64_wrapW (x : BitVec 32) : IntKind.u64.wrap (W x) = Q (zx64 x) := u64_mod _ _ (by
  have := x.isLt
  unfold W Q zx64; rw [BitVec.toNat_setWidth]; simp)
@[go_sem] theorem u32_wrapQ (x : BitVec 64) : IntKind.u32.wrap (Q x) = W (lo32 x) := u32_mod _ _ (by
  unfold W Q lo32; rw [BitVec.toNat_setWidth]; simp)
@[go_sem] theorem u8_wrapW (x : BitVec 32) : IntKind.u8.wrap (W x) = U (lo8 x) := by
  rw [IntKind.wrap_u8]
  unfold W U lo8
  have e : (UInt8.ofBitVec (x.setWidth 8)).toNat = x.toNat % 2 ^ 8 := BitVec.toNat_setWidth ..
  rw [e]; omega
@[go_sem] theorem u8_wrapQ (x : BitVec 64) : IntKind.u8.wrap (Q x) = U (lo8q x) := by
  rw [IntKind.wrap_u8]
  unfold Q U lo8q
  have e : (UInt8.ofBitVec (x.setWidth 8)).toNat = x.toNat % 2 ^ 8 := BitVec.toNat_setWidth ..
  rw [e]; omega
end Go.Proofs.Ytdgkcgiknfjpjaa
/- Memory: a slice that reads as a list; a list of bytes. -/
namespace Go.Proofs.Ytdgkcgiknfjpjaa
open Go Go.RowKit Go.ChangeShapes Go.WideShapes Go.ChangeAt

theorem block_of_add (a : Addr) (n : Nat) : (a.add n).block = a.block := by unfold Addr.add; split <;> rfl
theorem add_of_add (a : Addr) (i j : Nat) : (a.add i).add j = a.add (i + j) := by
  unfold Addr.add
  by_cases hi : i = 0 <;> by_cases hj : j = 0 <;> simp [hi, hj, Nat.add_assoc]

/-- the slice at A of n elements (size cells each) holds the cells xs, below block B -/
def Reads (w : World) (B size : Nat) (A : Option Addr) (n : Nat) (xs : List Value) : Prop :=
  xs.length = n * size ∧ (0 < n → ∃ ad, A = some ad ∧ ad.block < B ∧ ∀ j u, xs[j]? = some u → w.cell? (ad.add j) = some u)

section
variable {w w' : World} {B B' size n : Nat} {A : Option Addr} {xs : List Value}
theorem Reads.none_ : Reads w B size A 0 [] := ⟨by simp, fun h => absurd h (by omega)⟩
theorem Reads.at_ {k : Nat} (h : Reads w B 1 A n xs) (hk : k < n) : ∃ ad u, A = some ad ∧ ad.block < B ∧ xs[k]? = some u ∧ w.cell? (ad.add k) = some u := by
  obtain ⟨ad, e, hb, hc⟩ := h.2 (by omega)
  have hl : k < xs.length := by have := h.1; omega
  exact ⟨ad, xs[k], e, hb, List.getElem?_eq_getElem hl, hc k _ (List.getElem?_eq_getElem hl)⟩
theorem Reads.keep (h : Reads w B size A n xs) (hk : ∀ p : Addr, p.block < B → w'.cell? p = w.cell? p) : Reads w' B size A n xs :=
  ⟨h.1, fun hn => by
    obtain ⟨ad, e, hb, hc⟩ := h.2 hn
    exact ⟨ad, e, hb, fun j u hu => (hk _ (by rw [block_of_add]; exact hb)).trans (hc j u hu)⟩⟩
theorem Reads.more (h : Reads w B size A n xs) (hB : B ≤ B') : Reads w B' size A n xs :=
  ⟨h.1, fun hn => by
    obtain ⟨ad, e, hb, hc⟩ := h.2 hn
    exact ⟨ad, e, by omega, hc⟩⟩
theorem Reads.below (h : Reads w B size A n xs) (hb : Below B w w') : Reads w' B size A n xs := h.keep fun _ hp => hb.cell hp
theorem Reads.drew (h : Reads w B size A n xs) : Reads w.drew B size A n xs := h
theorem Reads.drewN (h : Reads w B size A n xs) (k : Nat) : Reads (w.drewN k) B size A n xs := h
theorem Reads.alloc (h : Reads w B size A n xs) (hB : B ≤ w.heap.size) (o : Obj) : Reads (w.alloc o) B size A n xs := h.keep fun p hp => World.cell?_alloc_lt w o p (by omega)
theorem Reads.setCell (h : Reads w B size A n xs) {p : Addr} (hB : B ≤ p.block) (u : Value) : Reads (w.setCell p u) B size A n xs :=
  h.keep fun q hq => World.cell?_setCell_other w p q u (fun e => by subst e; omega)
theorem Reads.grown (h : Reads w B size A n xs) {row : Option Nat} (hg : w.grownBy w' row) (hB : B ≤ w.heap.size) (hr : ∀ g, row = some g → B ≤ g) : Reads w' B size A n xs :=
  h.keep fun p hp => World.cell?_of_block (hg.block p.block (by omega) (fun e => by have := hr _ e.symm; omega))
theorem Reads.cut (h : Reads w B size A n xs) {k cap : Nat} (hk : k ≤ n) (hc : n ≤ cap) :
    Reads w B size (if cap = k then A else A.map (·.add (k * size))) (n - k) (xs.drop (k * size)) := by
  refine ⟨by rw [List.length_drop, h.1, Nat.sub_mul], fun hn => ?_⟩
  obtain ⟨ad, rfl, hb, hcell⟩ := h.2 (by omega)
  rw [if_neg (by omega)]
  refine ⟨ad.add (k * size), rfl, by rw [block_of_add]; exact hb, fun j u hu => ?_⟩
  rw [add_of_add]
  exact hcell _ u (by rw [← hu, List.getElem?_drop])
theorem Reads.take (h : Reads w B size A n xs) {k : Nat} (hk : k ≤ n) : Reads w B size A k (xs.take (k * size)) := by
  refine ⟨by rw [List.length_take, h.1]; exact Nat.min_eq_left (Nat.mul_le_mul_right _ hk), fun hn => ?_⟩
  obtain ⟨ad, e, hb, hcell⟩ := h.2 (by omega)
  exact ⟨ad, e, hb, fun j u hu => hcell j u (by
    rw [List.getElem?_take] at hu
    split at hu
    · exact hu
    · cases hu)⟩
theorem Reads.of_own {base : Nat} {e : TypeId} {c : Nat} (h : w.ownsRow base e size (.slice A n c) n xs) : Reads w w.heap.size size A n xs := by
  refine ⟨h.1, fun hn => ?_⟩
  obtain ⟨g, cap, hv, _, hlt⟩ := h.form hn
  have hA : A = some ⟨g, 0, none⟩ := by injection hv
  subst hA
  exact ⟨_, rfl, hlt, h.cells (g := g) rfl⟩
end

/-! ### a slice of bytes -/
def vb (x : UInt8) : Value := .int .u8 (U x)
def Rd (w : World) (B : Nat) (A : Option Addr) (l : List UInt8) : Prop := Reads w B 1 A l.length (l.map vb)
section
variable {w w' : World} {B B' : Nat} {A : Option Addr} {l : List UInt8}
theorem Rd.at_ (h : Rd w B A l) {k : Nat} (hk : k < l.length) : ∃ ad, A = some ad ∧ ad.block < B ∧ w.cell? (ad.add k) = some (.int .u8 (U l[k])) := by
  obtain ⟨ad, u, e, hb, hu, hc⟩ := Reads.at_ h hk
  refine ⟨ad, e, hb, ?_⟩
  rw [List.getElem?_map, List.getElem?_eq_getElem hk] at hu
  injection hu with hu
  rw [hc, ← hu]; rfl
theorem Rd.get (h : Rd w B A l) {k : Nat} {x : UInt8} (hk : l[k]? = some x) : ∃ ad, A = some ad ∧ ad.block < B ∧ w.cell? (ad.add k) = some (.int .u8 (U x)) := by
  obtain ⟨hlt, rfl⟩ := List.getElem?_eq_some_iff.mp hk
  exact h.at_ hlt
theorem Rd.nil_ : Rd w B A [] := Reads.none_
theorem Rd.below (h : Rd w B A l) (hb : Below B w w') : Rd w' B A l := Reads.below h hb
theorem Rd.more (h : Rd w B A l) (hB : B ≤ B') : Rd w B' A l := Reads.more h hB
theorem Rd.alloc (h : Rd w B A l) (hB : B ≤ w.heap.size) (o : Obj) : Rd (w.alloc o) B A l := Reads.alloc h hB o
theorem Rd.drewN (h : Rd w B A l) (k : Nat) : Rd (w.drewN k) B A l := Reads.drewN h k
theorem Rd.keep (h : Rd w B A l) (hk : ∀ p : Addr, p.block < B → w'.cell? p = w.cell? p) : Rd w' B A l := Reads.keep h hk
theorem Rd.take (h : Rd w B A l) (k : Nat) (hk : k ≤ l.length) : Rd w B A (l.take k) := by
  have := Reads.take h hk
  unfold Rd
  rw [List.length_take, Nat.min_eq_left hk, List.map_take]
  simpa using this
end
theorem vb_one (l : List UInt8) : ∀ u ∈ l.map vb, u.oneCell' = true := by
  intro u hu
  obtain ⟨x, _, rfl⟩ := List.mem_map.mp hu
  rfl

theorem Rd.lit (w : World) (cs : Array Value) (t : TypeId) (l : List UInt8) (h : cs.toList = l.map vb) (B : Nat) (hB : w.heap.size < B) : Rd (w.alloc (.cells cs t)) B (some ⟨w.heap.size, 0, none⟩) l :=
  ⟨by simp, fun _ => ⟨_, rfl, hB, World.news_of_block (heap_alloc_new w _) |> fun hh j u hu => hh j u (by rw [h]; exact hu)⟩⟩

/-! ### append onto a row of the call's own, the source nil, empty or not -/
section
variable {P : Program} (w : World)
theorem run_append_of_nil (base : Nat) (t ty e : TypeId) (i : TypeInfo) (size : Nat) (ht : P.underlying t = some (.slice e)) (hi : P.info? e = some i)
    (v : Value) (n : Nat) (xs : List Value) (hown : w.ownsRow base e size v n xs) (c : Nat) : (Builtin.append_ #[t, t] ty #[v, .slice none 0 c]).run P w = .ok v w := by
  rcases hown.2 with ⟨rfl, rfl⟩ | ⟨g, cap, cur, rfl, _, _, hnc, _⟩
  · simp [Builtin.append_, run_underlying ht, sizeOf, typeInfo, hi, Builtin.lenOf, Builtin.firstCells]
  · simp [Builtin.append_, run_underlying ht, sizeOf, typeInfo, hi, Builtin.lenOf, Builtin.firstCells, hnc, storeCells]

theorem run_append_any (base : Nat) (t ty e : TypeId) (i : TypeInfo) (z : Value) (size bytes : Nat) (ht : P.underlying t = some (.slice e)) (hi : P.info? e = some i) (hz : i.zero = some z)
    (hsize : i.size = size) (hby : i.bytes = bytes) (hzs : z.cells.size = size) (hsz : 0 < size)
    (v : Value) (n : Nat) (xs : List Value) (hown : w.ownsRow base e size v n xs)
    (B : Nat) (A : Option Addr) (m c : Nat) (news : List Value) (hr : Reads w B size A m news) (h1 : ∀ u ∈ news, u.oneCell' = true)
    (h63 : n + m ≤ maxLen) (hbytes : (n + m) * bytes ≤ 140737488355328) (hbase : base ≤ w.heap.size) :
    ∃ v' w', (Builtin.append_ #[t, t] ty #[v, .slice A m c]).run P w = .ok v' w' ∧ w'.ownsRow base e size v' (n + m) (xs ++ news) ∧ w.grownBy w' v.ownBlock ∧
      (v'.ownBlock = v.ownBlock ∨ v'.ownBlock = some w.heap.size) := by
  rcases A with _ | ad
  · have hm : m = 0 := by
      rcases Nat.eq_zero_or_pos m with h0 | h0
      · exact h0
      · obtain ⟨ad, h, _⟩ := hr.2 h0
        cases h
    subst hm
    have hn : news = [] := List.eq_nil_of_length_eq_zero (by simpa using hr.1)
    subst hn
    exact ⟨v, w, run_append_of_nil w base t ty e i size ht hi v n xs hown c, by simpa using hown, World.grownBy.refl w _, .inl rfl⟩
  · have hcells : ∀ j u, news[j]? = some u → w.cell? (ad.add j) = some u := by
      intro j u hu
      rcases Nat.eq_zero_or_pos m with h0 | h0
      · subst h0
        have hn : news = [] := List.eq_nil_of_length_eq_zero (by simpa using hr.1)
        subst hn
        simp at hu
      · obtain ⟨ad', h, _, hc⟩ := hr.2 h0
        injection h with h
        subst h
        exact hc j u hu
    obtain ⟨v', w', hrun, h2, h3, _, h5⟩ := run_append_own_at (P := P) w base t ty e i z size bytes ht hi hz hsize hby hzs hsz v n xs hown ad m c news hr.1 hcells h1 h63 hbytes hbase
    exact ⟨v', w', hrun, h2, h3, h5⟩

theorem wp_append_any {o : Oper} {a : Act} {K : Act → World → Prop} {Q : Exit → Act → World → Prop} (s x : Operand) (t : TypeId)
    (ho : o.op = .call { callee := .builtin .append, args := #[s, x], argTypes := #[t, t] })
    (base : Nat) (e : TypeId) (i : TypeInfo) (z : Value) (size bytes : Nat) (ht : P.underlying t = some (.slice e)) (hi : P.info? e = some i) (hz : i.zero = some z)
    (hsize : i.size = size) (hby : i.bytes = bytes) (hzs : z.cells.size = size) (hsz : 0 < size)
    (v : Value) (n : Nat) (xs : List Value) (hs : a.eval s = v) (hown : w.ownsRow base e size v n xs)
    (B : Nat) (A : Option Addr) (m c : Nat) (news : List Value) (hx : a.eval x = .slice A m c) (hr : Reads w B size A m news) (h1 : ∀ u ∈ news, u.oneCell' = true)
    (h63 : n + m ≤ maxLen) (hbytes : (n + m) * bytes ≤ 140737488355328) (hbase : base ≤ w.heap.size)
    (h : ∀ v' w', w'.ownsRow base e size v' (n + m) (xs ++ news) → w.grownBy w' v.ownBlock → (v'.ownBlock = v.ownBlock ∨ v'.ownBlock = some w.heap.size) → K (a.put o.dst v') w') : o.wp P a w K Q := by
  obtain ⟨v', w', hrun, h2, h3, h4⟩ := run_append_any (P := P) w base t o.type e i z size bytes ht hi hz hsize hby hzs hsz v n xs hown B A m c news hr h1 h63 hbytes hbase
  unfold Oper.wp execOp
  simp only [ho, resolve, invoke, builtin, Sem.run_bind, Sem.run_pure, Result.andThen_ok, List.map_toArray, List.map_cons, List.map_nil, hs, hx, hrun]
  exact h v' w' h2 h3 h4
end

/-! ### the arguments read behind the call as they did before -/
theorem trodAll_stays {H : Type} {enc : TypeId × Value → H} {P : Program} (hl : laidOutB P = true) {W W' : World} (hb : Below W.heap.size W W') (sp : Nat → Bool) :
    ∀ {ts : List TypeId} {vs : List Value} {ds : List (DataW H)} {ps : List MemPlace}, (∀ t ∈ ts, P.readableRec t = true ∧ t < P.types.size) → (∀ x ∈ ps, x.block < W.heap.size) → (∀ x ∈ ps, sp x.block = true) →
      DataW.TrodAll enc P W 0 (fun _ => true) true ts vs ds ps → DataW.TrodAll enc P W' 0 sp true ts vs ds ps
  | [], _, _, _, _, _, _, h => by
    obtain ⟨rfl, rfl, rfl⟩ := trodAll_nil h
    exact trodAll_mk0
  | t :: ts, vs, ds, ps, ht, hlt, hsp, h => by
    obtain ⟨v, vs', d, ds', p, q, rfl, rfl, rfl, hd, hr⟩ := trodAll_cons h
    have h1 := ht t (by simp)
    refine trodAll_cons_mk (WideElems.Trod_stays hl h1.1 h1.2 hd (fun x hx => hb.same (hlt x (by simp [hx]))) (fun x hx => hsp x (by simp [hx]))) ?_
    exact trodAll_stays hl hb sp (fun t h => ht t (by simp [h])) (fun x hx => hlt x (by simp [hx])) (fun x hx => hsp x (by simp [hx])) hr

section
variable {H : Type} {enc : TypeId × Value → H} {P : Program}
theorem post_of_below {f : Func} {s : ChangeSpec} {apart fresh handsOn again : Bool} {W W' : World} {args : Array Value} {v : Value} {ds gs : List (DataW H)} {before pa pv : List MemPlace}
    (hW : DataW.Whole enc P f.params.toList s.vars apart W args.toList ds gs before)
    (hres : ∀ (b : Nat) (sp : Nat → Bool) (hd : Bool), DataW.TrodAll enc P W' b sp hd f.resultTypes.toList (v.resultList f.resultTypes.size) (s.fn H (ds ++ gs)).results [])
    (hargs : ∀ sp : Nat → Bool, (∀ p ∈ before, sp p.block = true) → DataW.TrodAll enc P W' 0 sp true f.params.toList args.toList (s.fn H (ds ++ gs)).args pa)
    (hvars : ∀ sp : Nat → Bool, (∀ p ∈ before, sp p.block = true) → DataW.TrodVars enc P W' sp s.vars (s.fn H (ds ++ gs)).vars pv)
    (hps : before = pa ++ pv) (hb : Below W.heap.size W W')
    (hok : ∀ (j : Nat) (t : TypeId) (r : Value), f.resultTypes[j]? = some t → (v.resultList f.resultTypes.size)[j]? = some r → Value.okWide P W' .any 0 t r) :
    s.post enc P f apart fresh handsOn again W args v W' := by
  have hlt : ∀ p ∈ before, p.block < W.heap.size := fun p hp => hW.lt p hp
  have hold : ∀ p ∈ before, (fun b => decide (b < W.heap.size)) p.block = true := fun p hp => by simpa using hlt p hp
  refine ⟨ds, gs, before, [], pa, pv, hW, hres _ _ _, hargs _ hold, hvars _ hold, World.keptBut_mono (fun p hp => ⟨hp, ?_⟩) (hb.frame (· ∈ before)), fun _ => ?_⟩
  · rw [hps, List.mem_append] at hp
    exact Or.inr hp
  · obtain ⟨_, _, _, _, _, hz, hn⟩ := hW
    refine ⟨hok, _, _, ([] ++ pa) ++ pv, ⟨[] ++ pa, pv, trodAll_append (hargs _ (fun _ _ => rfl)) (hres _ _ _), hvars _ (fun _ _ => rfl), rfl, ?_, ?_⟩, ?_⟩
    · intro b off hp
      have hin : MemPlace.cell b off ∈ before := by rw [hps]; simpa using hp
      rw [hb.frozen (hlt _ hin)]
      exact hz b off hin
    · intro ha
      have := hn ha
      rw [hps] at this
      simpa using this
    · intro p hp _
      rw [hps]
      simpa using hp
end
end Go.Proofs.Ytdgkcgiknfjpjaa
/- Regions that draw their order, whose operations read what is old and whose callees make new memory alone: one walk of the lexical order. -/
namespace Go.Proofs.Ytdgkcgiknfjpjaa
open Go Go.RowKit

/-- a world that has grown above block B -/
structure Sub (B : Nat) (w : World) where
  val : World
  ok : Below B w val
instance (B : Nat) (w : World) : Nonempty (Sub B w) := ⟨⟨w, Below.refl B w⟩⟩
abbrev Cls (B : Nat) (w : World) : World → Prop := fun w' => ∃ x : Sub B w, w' = x.1
theorem cls_drew (B : Nat) (w : World) : Cls B w { w with drawn := w.drawn + 1 } := ⟨⟨w.drew, (Below.refl B w).drew⟩, rfl⟩
@[go_sem] theorem sub_cell {B : Nat} {w : World} (x : Sub B w) (a : Addr) (h : a.block < B) : x.1.cell? a = w.cell? a := x.2.cell h
theorem Sub.trans {B : Nat} {w : World} (x : Sub B w) {w' : World} (h : Below x.1.heap.size x.1 w') (hB : B ≤ w.heap.size) : Below B w w' :=
  x.2.trans (h.mono (Nat.le_trans hB x.2.size))
theorem cls_of_below {P : Program} {f : FuncId} {args : Array Value} {B : Nat} {w : World} (hB : B ≤ w.heap.size) {x : Sub B w} {v : Value}
    (h : Calls P f args x.1 fun e w' => e = .returned v ∧ Below x.1.heap.size x.1 w') : Calls P f args x.1 fun e w'' => e = .returned v ∧ ∃ y : Sub B w, w'' = y.1 :=
  h.mono fun _ w'' ⟨he, hb⟩ => ⟨he, ⟨w'', x.trans hb hB⟩, rfl⟩
theorem cls_of_same {P : Program} {f : FuncId} {args : Array Value} {B : Nat} {w : World} {x : Sub B w} {v : Value}
    (h : Calls P f args x.1 fun e w' => e = .returned v ∧ x.1 = w') : Calls P f args x.1 fun e w'' => e = .returned v ∧ ∃ y : Sub B w, w'' = y.1 :=
  h.mono fun _ _ ⟨he, hb⟩ => ⟨he, x, hb.symm⟩
theorem Rd.sub {B : Nat} {w : World} (x : Sub B w) {A : Option Addr} {l : List UInt8} (h : Rd w B A l) : Rd x.1 x.1.heap.size A l ∨ w.heap.size < B := by
  by_cases hB : B ≤ w.heap.size
  · exact .inl ((h.below x.2).more (Nat.le_trans hB x.2.size))
  · exact .inr (by omega)
theorem Rd.sub' {B : Nat} {w : World} (x : Sub B w) {A : Option Addr} {l : List UInt8} (h : Rd w B A l) (hB : B ≤ w.heap.size) : Rd x.1 x.1.heap.size A l :=
  (h.below x.2).more (Nat.le_trans hB x.2.size)
theorem Rd.up {w w' : World} {A : Option Addr} {l : List UInt8} (h : Rd w w.heap.size A l) (hb : Below w.heap.size w w') : Rd w' w'.heap.size A l :=
  (h.below hb).more hb.size
theorem wp_region_cls {P : Program} {id : Nat} {Q : Exit → Act → World → Prop} {a : Act} {w : World} {l : List Oper} (B : Nat) (hm : P.follows .mixedOrders = true) (hB : Region.lexB .any l.toArray = true)
    (h : wpQuiet P l.toArray (Cls B w) (fun a' => ∀ w', Cls B w w' → Q .normal a' w') l a) : (Code.region id l.toArray true).wp P Q a w :=
  wp_region_quiet (C := Cls B w) hm hB (cls_drew B w) (by simpa using h)
end Go.Proofs.Ytdgkcgiknfjpjaa
/- Slices of bytes of the call's own, over this program. -/
namespace Go.Proofs.Ytdgkcgiknfjpjaa
open Go Go.RowKit

theorem info_u8 : (Try.prog.info? 5).map (fun i => (i.zero, i.size, i.bytes)) = some (some (.int .u8 0), 1, 1) := by kernel_rfl
/-- v is a slice of bytes of the call's own (from block base on) that holds l -/
def OB (w : World) (base : Nat) (v : Value) (l : List UInt8) : Prop := w.ownsRow base 5 1 v l.length (l.map vb)
section
variable {w w' : World} {base : Nat} {v : Value} {l : List UInt8}
theorem OB.form (h : OB w base v l) : ∃ A c, v = .slice A l.length c ∧ l.length ≤ c ∧ c ≤ maxLen ∧ Rd w w.heap.size A l ∧ (∀ ad, A = some ad → base ≤ ad.block) := by
  rcases h.2 with ⟨rfl, hn⟩ | ⟨g, cap, cur, rfl, hb, hh, hnc, hcm, _⟩
  · have hl : l = [] := List.eq_nil_of_length_eq_zero hn
    subst hl
    exact ⟨none, 0, rfl, Nat.zero_le _, Nat.zero_le _, Rd.nil_, fun _ h => by cases h⟩
  · exact ⟨_, cap, rfl, hnc, hcm, Reads.of_own h, fun ad h => by injection h with h; subst h; exact hb⟩
theorem OB.empty (w : World) (base : Nat) (hb : base ≤ w.heap.size) : OB (w.alloc (.cells #[] 5)) base (.slice (some ⟨w.heap.size, 0, none⟩) 0 0) [] :=
  World.ownsRow_made w #[] 0 hb (by simp [maxLen]) rfl
theorem OB.nil_ (w : World) (base : Nat) : OB w base (.slice none 0 0) [] := World.ownsRow_nil w base _ 1
theorem OB.alloc (h : OB w base v l) (o : Obj) : OB (w.alloc o) base v l := World.ownsRow.alloc h o
theorem OB.drew (h : OB w base v l) : OB w.drew base v l := World.ownsRow.drew h
theorem OB.below (h : OB w base v l) (hb : Below w.heap.size w w') : OB w' base v l :=
  h.kept (row := none) ⟨hb.os, hb.tape, hb.output, hb.size, fun k hk _ => hb.block k hk⟩ (by cases hv : v.ownBlock <;> simp)
theorem OB.lt (h : OB w base v l) : ∀ k, v.ownBlock = some k → base ≤ k ∧ k < w.heap.size := World.ownsRow.lt h
theorem OB.up (h : OB w base v l) : ∀ k, v.ownBlock = some k → base ≤ k := fun k hk => (h.lt k hk).1
theorem OB.more {base' : Nat} (h : OB w base v l) (hb : base' ≤ base) : OB w base' v l := by
  refine ⟨h.1, ?_⟩
  rcases h.2 with hn | ⟨g, cap, cur, e, hg, r⟩
  · exact .inl hn
  · exact .inr ⟨g, cap, cur, e, by omega, r⟩
/-- behind an append: what was new is new -/
theorem below_app {w0 : World} (h : OB w base v l) (hb : Below base w0 w) (hbase : base ≤ w.heap.size) (hg : w.grownBy w' v.ownBlock) : Below base w0 w' :=
  hb.grown hg hbase h.up
end
theorem wpl_append {w : World} {ops : Array Oper} {rest : List Oper} {o : Oper} {a : Act} {Q : Exit → Act → World → Prop} (hgd : o.guard = none) (s x : Operand)
    (ho : o.op = .call { callee := .builtin .append, args := #[s, x], argTypes := #[22, 22] })
    (base : Nat) (v : Value) (l : List UInt8) (hs : a.eval s = v) (hown : OB w base v l)
    (B : Nat) (A : Option Addr) (c : Nat) (news : List UInt8) (hx : a.eval x = .slice A news.length c) (hr : Rd w B A news)
    (hlen : l.length + news.length ≤ 140737488355328) (hbase : base ≤ w.heap.size)
    (h : ∀ v' w', OB w' base v' (l ++ news) → w.grownBy w' v.ownBlock → (v'.ownBlock = v.ownBlock ∨ v'.ownBlock = some w.heap.size) → wpList Try.prog ops Q rest (a.put o.dst v') w') : wpList Try.prog ops Q (o :: rest) a w := by
  obtain ⟨i0, hi, hz0, hz1, hz2⟩ := info_parts info_u8
  refine wpList_plain hgd fun _ hK => wp_append_any w s x 22 ho base 5 i0 _ 1 1 Try.underlying22 hi hz0 hz1 hz2 rfl (by omega) v l.length (l.map vb) hs hown B A news.length c (news.map vb) hx hr (vb_one news)
    (by simp only [maxLen]; omega) (by omega) hbase fun v' w' h2 h3 h4 => hK _ _ (h v' w' ?_ h3 h4)
  unfold OB
  rw [List.length_append, List.map_append]
  exact h2

/-- .. at a step of a region that draws its order -/
theorem step_append {w : World} {ops : Array Oper} {o : Oper} {a : Act} {K : Act → World → Prop} {Q : Exit → Act → World → Prop} {E : Prop} (hgd : o.guard = none) (s x : Operand)
    (ho : o.op = .call { callee := .builtin .append, args := #[s, x], argTypes := #[22, 22] })
    (base : Nat) (v : Value) (l : List UInt8) (hs : a.eval s = v) (hown : OB w base v l)
    (B : Nat) (A : Option Addr) (c : Nat) (news : List UInt8) (hx : a.eval x = .slice A news.length c) (hr : Rd w B A news)
    (hlen : l.length + news.length ≤ 140737488355328) (hbase : base ≤ w.heap.size)
    (h : ∀ v' w', OB w' base v' (l ++ news) → w.grownBy w' v.ownBlock → (v'.ownBlock = v.ownBlock ∨ v'.ownBlock = some w.heap.size) → K (a.put o.dst v') w') :
    if Region.wanted o (yielded ops a.tmps) = true then Oper.wp Try.prog o a w K Q else E := by
  have hw : Region.wanted o (yielded ops a.tmps) = true := by simp [Region.wanted, hgd]
  rw [if_pos hw]
  obtain ⟨i0, hi, hz0, hz1, hz2⟩ := info_parts info_u8
  refine wp_append_any w s x 22 ho base 5 i0 _ 1 1 Try.underlying22 hi hz0 hz1 hz2 rfl (by omega) v l.length (l.map vb) hs hown B A news.length c (news.map vb) hx hr (vb_one news)
    (by simp only [maxLen]; omega) (by omega) hbase fun v' w' h2 h3 h4 => h v' w' ?_ h3 h4
  unfold OB
  rw [List.length_append, List.map_append]
  exact h2
/-- the string of these bytes -/
def bs (l : List UInt8) : ByteArray := ⟨l.toArray⟩
theorem bs_inj {l m : List UInt8} (h : bs l = bs m) : l = m := by
  unfold bs at h
  injection h with h
  simpa using congrArg Array.toList h
@[go_sem] theorem bs_toList (l : List UInt8) : (bs l).toList = l := by rw [ByteArray.toList_eq]; simp [bs]
theorem run_str {w : World} {B : Nat} {A : Option Addr} {l : List UInt8} (c : Nat) (h : Rd w B A l) :
    (convert 22 9 (.slice A l.length c)).run Try.prog w = .ok (.string (bs l)) w := by
  rcases A with _ | ad
  · have hl : l = [] := by
      rcases l with _ | ⟨x, l⟩
      · rfl
      · obtain ⟨_, h, _⟩ := h.at_ (k := 0) (by simp)
        cases h
    subst hl
    rw [run_convert_bytes_string w _ 9 5 none _ c Try.underlying22 Try.underlying5 Try.underlying9]
    rfl
  · exact run_convert_bytes_back w _ _ _ ad c l Try.underlying22 Try.underlying5 Try.underlying9 (fun j hj => by
      obtain ⟨ad', e, _, hc⟩ := h.at_ hj
      injection e with e
      subst e
      exact hc)
theorem run_str_at {w : World} {B n : Nat} {A : Option Addr} {l : List UInt8} (c : Nat) (h : Rd w B A l) (hn : l.length = n) :
    (convert 22 9 (.slice A n c)).run Try.prog w = .ok (.string (bs l)) w := by
  subst hn; exact run_str c h
/-- a store into a slice of the call's own -/
theorem OB.store {w : World} {base n : Nat} {A : Option Addr} {c : Nat} {l : List UInt8} (h : OB w base (.slice A n c) l) {k : Nat} (hk : k < l.length) :
    ∃ g, A = some ⟨g, 0, none⟩ ∧ base ≤ g ∧ g < w.heap.size ∧ w.cell? ⟨g, k, none⟩ = some (.int .u8 (U l[k])) ∧ w.frozen? ⟨g, k, none⟩ = false ∧
      ∀ u, OB (w.setCell ⟨g, k, none⟩ (.int .u8 (U u))) base (.slice A n c) (l.set k u) := by
  rcases h.2 with ⟨hv, hn⟩ | ⟨g, cap, cur, hv, hb, hg, hnc, hcm, hcs, ht⟩
  · exact absurd hn (by omega)
  · injection hv with h1 h2 h3
    subst h1
    subst h2
    subst h3
    have ho : w.ownsRow base 5 1 (.slice (some ⟨g, 0, none⟩) l.length c) l.length (l.map vb) := h
    refine ⟨g, rfl, hb, (Array.getElem?_eq_some_iff.1 hg).1, ?_, ho.frozenAt k, fun u => ?_⟩
    · rw [ho.cellAt k (by omega), List.getElem?_map, List.getElem?_eq_getElem hk]; rfl
    · have := (ho.stored k (.int .u8 (U u))).1
      unfold OB
      rw [List.length_set, List.map_set]
      exact this
theorem OB.rd {w : World} {base n : Nat} {A : Option Addr} {c : Nat} {l : List UInt8} (h : OB w base (.slice A n c) l) : Rd w w.heap.size A l ∧ l.length ≤ c := by
  obtain ⟨A', c', hv, hc, _, hr, _⟩ := h.form
  injection hv with h1 h2 h3
  subst h1
  subst h3
  exact ⟨hr, hc⟩
end Go.Proofs.Ytdgkcgiknfjpjaa
/- Slices of bytes, more: make and copy, strings. -/
namespace Go.Proofs.Ytdgkcgiknfjpjaa
open Go Go.RowKit

theorem wpl_make {w : World} {ops : Array Oper} {rest : List Oper} {o : Oper} {a : Act} {Q : Exit → Act → World → Prop} (hgd : o.guard = none) (x y : Operand)
    (ho : o.op = .makeSlice 22 x y) (base : Nat) (n : Nat) (hx : a.eval x = .int .i64 n) (hy : a.eval y = .int .i64 n) (hn : n ≤ 140737488355328) (hbase : base ≤ w.heap.size)
    (h : ∀ w', OB w' base (.slice (some ⟨w.heap.size, 0, none⟩) n n) (List.replicate n 0) → Below w.heap.size w w' → wpList Try.prog ops Q rest (a.put o.dst (.slice (some ⟨w.heap.size, 0, none⟩) n n)) w') : wpList Try.prog ops Q (o :: rest) a w := by
  obtain ⟨i0, hi, hz0, hz1, hz2⟩ := info_parts info_u8
  refine wpList_make_full w hgd x y 22 ho base 5 i0 _ 1 Try.underlying22 hi hz0 hz1 .i64 .i64 n n n hx hy rfl rfl (by rw [hz2]; omega) (by simp only [maxLen]; omega) hbase fun w' h1 h2 => h w' ?_ ((Below.refl _ _).grown h2 (Nat.le_refl _) (fun _ hk => by cases hk))
  unfold OB
  rw [List.length_replicate, List.map_replicate]
  have e : (madeCells (Value.int .u8 0).cells (n * 1)).toList = List.replicate n (vb 0) := by
    rw [Nat.mul_one]; exact toList_madeCells_one _ n
  rw [e] at h1
  exact h1
theorem info8s : (Try.prog.info? 5).map (·.size) = some 1 := by kernel_rfl
theorem wpl_copy_full {w : World} {ops : Array Oper} {rest : List Oper} {o : Oper} {a : Act} {Q : Exit → Act → World → Prop} (hgd : o.guard = none) (d s : Operand)
    (ho : o.op = .call { callee := .builtin .copy, args := #[d, s], argTypes := #[22, 22] })
    (base g n : Nat) (zs : List UInt8) (hown : OB w base (.slice (some ⟨g, 0, none⟩) n n) zs) (B : Nat) (A : Option Addr) (c : Nat) (l : List UInt8) (hn : l.length = n)
    (hd : a.eval d = .slice (some ⟨g, 0, none⟩) n n) (hs : a.eval s = .slice A n c) (hr : Rd w B A l)
    (h : ∀ w', OB w' base (.slice (some ⟨g, 0, none⟩) n n) l → Below base w w' → wpList Try.prog ops Q rest (a.put o.dst (goInt n)) w') : wpList Try.prog ops Q (o :: rest) a w := by
  rcases hown.2 with ⟨hv, hz⟩ | ⟨g', cap, cur, hv, hb, hh, hnc, hcm, hcs, ht⟩
  · injection hv with h1; cases h1
  · injection hv with h1 h2 h3
    injection h1 with h1
    injection h1 with h1
    subst h1
    subst h3
    have hlen : (l.map vb).length = n := by simp [hn]
    refine wpList_copy_splice hgd d s 22 22 ho 5 Try.underlying22 info8s (some ⟨g, 0, none⟩) A n n n c hd hs g 0 cur.toList 5 (by simpa using hh) (l.map vb) (by rw [hlen]; exact (Nat.min_self n).symm)
      (fun hp => ?_) (by rw [hlen]; simp; omega) (vb_one l) base w (Below.refl _ _) hb (fun w' hw hb' => ?_)
    · rw [hlen] at hp
      obtain ⟨ad, e, _, hc⟩ := hr.2 (by omega)
      exact ⟨rfl, ad, e, hc⟩
    · rw [hlen]
      refine h w' ?_ hb'
      have hsp : splice cur.toList 0 (l.map vb) = l.map vb := by
        unfold splice
        rw [List.take_zero, List.nil_append, Nat.zero_add, List.drop_eq_nil_of_le (by rw [hlen]; simp; omega), List.append_nil]
      have hw := hw.out
      rw [hsp] at hw
      exact ⟨by simp, .inr ⟨g, n, (l.map vb).toArray, by rw [hn], hb, hw, by omega, hcm, by simp [hn], by rw [List.take_of_length_le (by simp)]⟩⟩
@[go_sem] theorem bs_size (l : List UInt8) : (bs l).size = l.length := by show l.toArray.size = l.length; simp
theorem bs_of (s : ByteArray) : ∃ l, s = bs l ∧ l.length = s.size := ⟨s.data.toList, by unfold bs; simp, by rw [Array.length_toList]; rfl⟩
theorem strCells_bs (l : List UInt8) : Lib.strCells (bs l) = l.map vb := by
  unfold Lib.strCells bs
  rfl
theorem wpl_append_str {w : World} {ops : Array Oper} {rest : List Oper} {o : Oper} {a : Act} {Q : Exit → Act → World → Prop} (hgd : o.guard = none) (s x : Operand)
    (ho : o.op = .call { callee := .builtin .append, args := #[s, x], argTypes := #[22, 9] })
    (base : Nat) (v : Value) (l : List UInt8) (hs : a.eval s = v) (hown : OB w base v l) (m : List UInt8) (hx : a.eval x = .string (bs m))
    (hlen : l.length + m.length ≤ 140737488355328) (hbase : base ≤ w.heap.size)
    (h : ∀ v' w', OB w' base v' (l ++ m) → w.grownBy w' v.ownBlock → wpList Try.prog ops Q rest (a.put o.dst v') w') : wpList Try.prog ops Q (o :: rest) a w := by
  obtain ⟨i0, hi, hz0, hz1, hz2⟩ := info_parts info_u8
  have hsz := bs_size m
  refine Lib.wpList_append_own_string w hgd s x 22 9 ho base 5 i0 Try.underlying22 Try.underlying9 hi hz0 hz1 hz2 v l.length (l.map vb) hs hown (bs m) hx
    (by simp only [maxLen]; omega) (by omega) hbase fun v' w' h1 h2 _ => h v' w' ?_ h2
  unfold OB
  rw [List.length_append, List.map_append]
  rw [hsz, strCells_bs] at h1
  exact h1
end Go.Proofs.Ytdgkcgiknfjpjaa
/- Reads beside regions that draw. -/
namespace Go.Proofs.Ytdgkcgiknfjpjaa
set_option linter.unusedVariables false
open Go Go.RowKit
section
variable {S : Nat → Prop} {w0 w w' : World} {B g : Nat} {A : Option Addr} {l : List UInt8}
theorem Upd.of_below (hb : Below w.heap.size w w') : Upd S w w' := ⟨hb.os.symm, hb.tape.symm, hb.output.symm, hb.size, fun k hk _ => hb.block k hk⟩
theorem Upd.of_grown (hg : w.grownBy w' (some g)) (hS : S g) : Upd S w w' := by
  obtain ⟨h1, h2, h3, h4, hk⟩ := hg
  exact ⟨h1.symm, h2.symm, h3.symm, h4, fun k hlt hn => hk k hlt (fun e => hn (by injection e with e; exact e ▸ hS))⟩
theorem Upd.size (h : Upd S w w') : w.heap.size ≤ w'.heap.size := h.2.2.2.1
theorem Upd.cell (h : Upd S w w') {p : Addr} (hp : p.block < w.heap.size) (hn : ¬ S p.block) : w'.cell? p = w.cell? p := World.cell?_of_block (h.2.2.2.2 _ hp hn)
theorem Upd.to_below (h0 : Below B w0 w) (h : Upd S w w') (hB : B ≤ w.heap.size) (hS : ∀ k, S k → B ≤ k) : Below B w0 w' :=
  h0.trans ⟨h.1.symm, h.2.1.symm, h.2.2.1.symm, h.size, fun k hk => h.2.2.2.2 k (by omega) (fun hs => by have := hS k hs; omega)⟩
theorem Rd.upd (h : Rd w w.heap.size A l) (hA : ∀ ad, A = some ad → 0 < l.length → ¬ S ad.block) (hu : Upd S w w') : Rd w' w'.heap.size A l := by
  refine ⟨h.1, fun hn => ?_⟩
  obtain ⟨ad, rfl, hb, hc⟩ := h.2 hn
  refine ⟨ad, rfl, Nat.lt_of_lt_of_le hb hu.size, fun j u hj => ?_⟩
  rw [hu.cell (by rw [block_of_add]; exact hb) (by rw [block_of_add]; exact hA ad rfl hn)]
  exact hc j u hj
end
end Go.Proofs.Ytdgkcgiknfjpjaa
/- A block that is a struct: its cells, one of them stored anew. -/
namespace Go.Proofs.Ytdgkcgiknfjpjaa
set_option linter.unusedVariables false
open Go Go.RowKit
section
variable {w w' : World} {g : Nat} {cs : Array Value} {T : TypeId}
theorem blk_cell (hh : w.heap[g]? = some (.cells cs T (0, 0))) {j : Nat} {v : Value} (hj : cs[j]? = some v) : w.cell? ⟨g, j, none⟩ = some v := by
  unfold World.cell?
  rw [hh]
  exact hj
theorem blk_free (hh : w.heap[g]? = some (.cells cs T (0, 0))) (j : Nat) : w.frozen? ⟨g, j, none⟩ = false := by
  simp [World.frozen?, hh]
theorem blk_lt (hh : w.heap[g]? = some (.cells cs T (0, 0))) : g < w.heap.size := (Array.getElem?_eq_some_iff.1 hh).1
theorem blk_set (hh : w.heap[g]? = some (.cells cs T (0, 0))) (j : Nat) (u : Value) : (w.setCell ⟨g, j, none⟩ u).heap[g]? = some (.cells (cs.setIfInBounds j u) T (0, 0)) := by
  simp [World.setCell, Array.getElem?_modify, hh]
theorem blk_other {k : Nat} (hk : k ≠ g) (j : Nat) (u : Value) : (w.setCell ⟨g, j, none⟩ u).heap[k]? = w.heap[k]? := Below.heap_setCell _ _ _ _ (fun e => hk e)
theorem blk_grown (w : World) (g j : Nat) (u : Value) : w.grownBy (w.setCell ⟨g, j, none⟩ u) (some g) :=
  ⟨rfl, rfl, rfl, by simp [World.setCell], fun k _ hk => Below.heap_setCell _ _ _ _ (fun e => hk (congrArg some e))⟩
end
end Go.Proofs.Ytdgkcgiknfjpjaa
/- Frames by the types of blocks: what may turn is told by the type of its cells. -/
namespace Go.Proofs.Ytdgkcgiknfjpjaa
set_option linter.unusedVariables false
open Go Go.RowKit

/-- w' is w but for new blocks, and for blocks from lo on whose cells are of one of these types -/
def TChg (lo : Nat) (ts : List TypeId) (w w' : World) : Prop := Upd (fun k => lo ≤ k ∧ ∃ cs T, w.heap[k]? = some (.cells cs T (0, 0)) ∧ T ∈ ts) w w'
section
variable {w w' : World} {lo lo' g k : Nat} {ts ts' : List TypeId} {cs : Array Value} {T : TypeId} {v : Value}
theorem TChg.refl (lo : Nat) (ts : List TypeId) (w : World) : TChg lo ts w w := Upd.refl _ _
theorem TChg.trans {x y z : World} (h1 : TChg lo ts x y) (h2 : TChg lo ts y z) : TChg lo ts x z := by
  refine ⟨h1.1.trans h2.1, h1.2.1.trans h2.2.1, h1.2.2.1.trans h2.2.2.1, Nat.le_trans h1.2.2.2.1 h2.2.2.2.1, fun k hk hs => ?_⟩
  have e := h1.2.2.2.2 k hk hs
  refine (h2.2.2.2.2 k (Nat.lt_of_lt_of_le hk h1.2.2.2.1) (fun hs2 => hs ⟨hs2.1, ?_⟩)).trans e
  obtain ⟨_, cs, T, h, hT⟩ := hs2
  exact ⟨cs, T, e ▸ h, hT⟩
theorem TChg.mono (h : TChg lo ts w w') (hl : lo' ≤ lo) (ht : ∀ t ∈ ts, t ∈ ts') : TChg lo' ts' w w' :=
  ⟨h.1, h.2.1, h.2.2.1, h.2.2.2.1, fun k hk hs => h.2.2.2.2 k hk (fun ⟨h1, cs, T, h2, h3⟩ => hs ⟨Nat.le_trans hl h1, cs, T, h2, ht T h3⟩)⟩
theorem TChg.size (h : TChg lo ts w w') : w.heap.size ≤ w'.heap.size := h.2.2.2.1
theorem TChg.below (h : TChg lo ts w w') (hl : lo ≤ w.heap.size) : Below lo w w' := Upd.to_below (Below.refl lo w) h hl (fun k hk => hk.1)
theorem TChg.block (h : TChg lo ts w w') (hh : w.heap[k]? = some (.cells cs T (0, 0))) (hT : T ∉ ts) : w'.heap[k]? = some (.cells cs T (0, 0)) := by
  rw [← hh]
  refine h.2.2.2.2 k (blk_lt hh) (fun hs => ?_)
  obtain ⟨_, cs', T', e, hT'⟩ := hs
  rw [hh] at e
  injection e with e
  injection e with _ e _
  exact hT (e ▸ hT')
theorem TChg.of_below (h : Below w.heap.size w w') : TChg lo ts w w' := Upd.of_below h
theorem TChg.drewN (w : World) (n : Nat) : TChg lo ts w (w.drewN n) := TChg.refl _ _ _
theorem TChg.of_alloc (w : World) (o : Obj) : TChg lo ts w (w.alloc o) := TChg.of_below ((Below.refl _ w).alloc (Nat.le_refl _) o)
theorem TChg.of_set (hh : w.heap[g]? = some (.cells cs T (0, 0))) (hT : T ∈ ts) (hl : lo ≤ g) (j : Nat) (u : Value) : TChg lo ts w (w.setCell ⟨g, j, none⟩ u) :=
  Upd.of_grown (blk_grown w g j u) ⟨hl, cs, T, hh, hT⟩
theorem TChg.of_row {e : TypeId} {size n : Nat} {xs : List Value} (ho : w.ownsRow lo e size v n xs) (hg : w.grownBy w' v.ownBlock) (hT : e ∈ ts) : TChg lo ts w w' := by
  obtain ⟨h1, h2, h3, h4, hk⟩ := hg
  refine ⟨h1.symm, h2.symm, h3.symm, h4, fun k hlt hn => hk k hlt (fun e' => hn ?_)⟩
  rcases ho.2 with ⟨rfl, -⟩ | ⟨g', cap, cur, rfl, hb, hh, -⟩
  · cases e'
  · injection e' with e'
    subst e'
    exact ⟨hb, cur, e, hh, hT⟩
theorem TChg.road (lo : Nat) (ts : List TypeId) : Road (TChg lo ts) := ⟨TChg.refl lo ts, TChg.trans⟩
theorem TChg.from_ {w0 : World} (h : TChg lo ts w w') (hb : Below lo' w0 w) (hl : lo' ≤ lo) (hw : lo ≤ w.heap.size) : Below lo' w0 w' := hb.trans ((h.below hw).mono hl)
end
section
variable {w w' : World} {base e size n lo : Nat} {v : Value} {xs : List Value} {ts : List TypeId}
theorem row_tchg (h : w.ownsRow base e size v n xs) (hc : TChg lo ts w w') (he : e ∉ ts) : w'.ownsRow base e size v n xs := by
  refine ⟨h.1, ?_⟩
  rcases h.2 with hn | ⟨g, cap, cur, rfl, hb, hh, hr⟩
  · exact .inl hn
  · exact .inr ⟨g, cap, cur, rfl, hb, hc.block hh he, hr⟩
theorem row_below (h : w.ownsRow base e size v n xs) (hb : Below w.heap.size w w') : w'.ownsRow base e size v n xs :=
  h.kept (row := none) ⟨hb.os, hb.tape, hb.output, hb.size, fun k hk _ => hb.block k hk⟩ (by cases hv : v.ownBlock <;> simp)
theorem row_keep (h : w.ownsRow base e size v n xs) (hk : ∀ k, v.ownBlock = some k → w'.heap[k]? = w.heap[k]?) : w'.ownsRow base e size v n xs := by
  refine ⟨h.1, ?_⟩
  rcases h.2 with hn | ⟨g, cap, cur, rfl, hb, hh, hr⟩
  · exact .inl hn
  · exact .inr ⟨g, cap, cur, rfl, hb, (hk g rfl).trans hh, hr⟩
theorem row_set_other (h : w.ownsRow base e size v n xs) (g j : Nat) (u : Value) (hn : v.ownBlock ≠ some g) : (w.setCell ⟨g, j, none⟩ u).ownsRow base e size v n xs :=
  row_keep h (fun k hk => blk_other (fun e => hn (by rw [← e]; exact hk)) j u)
theorem row_ne (h : w.ownsRow base e size v n xs) {g : Nat} {cs : Array Value} {T : TypeId} (hh : w.heap[g]? = some (.cells cs T (0, 0))) (hT : T ≠ e) : v.ownBlock ≠ some g := by
  rcases h.2 with ⟨rfl, -⟩ | ⟨k, cap, cur, rfl, hb, hk, -⟩
  · intro e; cases e
  · intro e'
    injection e' with e'
    have e' : k = g := e'
    subst e'
    rw [hh] at hk
    injection hk with hk
    injection hk with _ e' _
    exact hT e'
theorem row_ne2 {base2 e2 size2 n2 : Nat} {v2 : Value} {xs2 : List Value} (h : w.ownsRow base e size v n xs) (h2 : w.ownsRow base2 e2 size2 v2 n2 xs2) (hT : e2 ≠ e) : ∀ k, v2.ownBlock = some k → v.ownBlock ≠ some k := fun k hk => by
  rcases h2.2 with ⟨rfl, -⟩ | ⟨g, cap, cur, rfl, hb, hg, -⟩
  · cases hk
  · injection hk with hk
    subst hk
    exact row_ne h hg hT
theorem row_form (h : w.ownsRow base e size v n xs) : ∃ A c, v = .slice A n c ∧ n ≤ c ∧ c ≤ maxLen := by
  rcases h.2 with ⟨rfl, rfl⟩ | ⟨g, cap, cur, rfl, hb, hh, hnc, hcm, _⟩
  · exact ⟨none, 0, rfl, Nat.le_refl _, Nat.zero_le _⟩
  · exact ⟨_, cap, rfl, hnc, hcm⟩
/-- a row that is not empty: its block, its cells -/
theorem row_at (h : w.ownsRow base e size v n xs) (hn : 0 < n) : ∃ g c, v = .slice (some ⟨g, 0, none⟩) n c ∧ n ≤ c ∧ c ≤ maxLen ∧ base ≤ g ∧ g < w.heap.size ∧ (∃ cs, w.heap[g]? = some (.cells cs e (0, 0))) ∧
    (∀ j, w.frozen? ⟨g, j, none⟩ = false) ∧ (∀ j u, xs[j]? = some u → w.cell? ⟨g, j, none⟩ = some u) ∧ ∀ j u, (w.setCell ⟨g, j, none⟩ u).ownsRow base e size v n (xs.set j u) := by
  rcases h.2 with ⟨-, h0⟩ | ⟨g, cap, cur, rfl, hb, hh, hnc, hcm, hcs, ht⟩
  · omega
  · refine ⟨g, cap, rfl, hnc, hcm, hb, (Array.getElem?_eq_some_iff.1 hh).1, ⟨cur, hh⟩, fun j => h.frozenAt j, fun j u hu => ?_, fun j u => (h.stored j u).1⟩
    have hj : j < n * size := by rw [← h.1]; exact (List.getElem?_eq_some_iff.1 hu).1
    rw [h.cellAt j hj, hu]
theorem row_more {base' : Nat} (h : w.ownsRow base e size v n xs) (hb : base' ≤ base) : w.ownsRow base' e size v n xs := by
  refine ⟨h.1, ?_⟩
  rcases h.2 with hn | ⟨g, cap, cur, e, hg, r⟩
  · exact .inl hn
  · exact .inr ⟨g, cap, cur, e, by omega, r⟩
end
theorem Upd.of_own {w w' : World} {v : Value} (hg : w.grownBy w' v.ownBlock) : Upd (fun k => v.ownBlock = some k) w w' := by
  obtain ⟨h1, h2, h3, h4, hk⟩ := hg
  exact ⟨h1.symm, h2.symm, h3.symm, h4, fun k hlt hn => hk k hlt (fun e => hn e.symm)⟩
theorem blk_grow {w w' : World} {g : Nat} {ob : Option Nat} {cs : Array Value} {T : TypeId} (hh : w.heap[g]? = some (.cells cs T (0, 0))) (hg : w.grownBy w' ob) (hne : ob ≠ some g) : w'.heap[g]? = some (.cells cs T (0, 0)) := by
  obtain ⟨_, _, _, _, hk⟩ := hg
  exact (hk g (blk_lt hh) (fun e => hne e.symm)).trans hh
theorem blk_alloc {w : World} {g : Nat} {cs : Array Value} {T : TypeId} (hh : w.heap[g]? = some (.cells cs T (0, 0))) (o : Obj) : (w.alloc o).heap[g]? = some (.cells cs T (0, 0)) := (Below.heap_alloc w o g (blk_lt hh)).trans hh
theorem blk_below {w w' : World} {g : Nat} {cs : Array Value} {T : TypeId} (hh : w.heap[g]? = some (.cells cs T (0, 0))) (hb : Below w.heap.size w w') : w'.heap[g]? = some (.cells cs T (0, 0)) := (hb.block g (blk_lt hh)).trans hh
end Go.Proofs.Ytdgkcgiknfjpjaa
/- slices.Clone of bytes. -/
namespace Go.Proofs.Ytdgkcgiknfjpjaa
set_option linter.unusedVariables false
open Go Go.RowKit

set_option maxRecDepth 10000 in
theorem clone_any (A : Option Addr) (n c : Nat) (l : List UInt8) (hn : l.length = n) (hl : n ≤ 140737488355328) (w : World) (hr : Rd w w.heap.size A l) :
    Calls Try.prog 42 #[.slice A n c] w fun e w' => ∃ v, e = .returned v ∧ OB w' w.heap.size v l ∧ Below w.heap.size w w' := by
  rcases A with _ | ad
  · have hl0 : l = [] := by
      rcases l with _ | ⟨x, l⟩
      · rfl
      · obtain ⟨_, h, _⟩ := hr.at_ (k := 0) (by simp)
        cases h
    subst hl0
    obtain rfl : n = 0 := hn.symm
    have hnil := fun w => Lib.run_eql_slice_nil (P := Try.prog) w 22 5 none 0 c 0 0 Try.underlying22
    go_enter Try.func42, Try.ntmps42
    go_wp2
    go_ret
    exact ⟨_, rfl, OB.nil_ _ _, Below.refl _ _⟩
  · have ho := Lib.hid (OB.empty w w.heap.size (Nat.le_refl _))
    have hrw := Lib.hid (hr.alloc (Nat.le_refl _) (.cells #[] 5))
    clear hr
    replace hn := Lib.hid hn
    have hnil := fun w => Lib.run_eql_slice_nil (P := Try.prog) w 22 5 (some ad) n c 0 0 Try.underlying22
    go_enter Try.func42, Try.ntmps42
    go_wp2_with (at_builtin; go_must (refine wpl_append rfl (.tmp 5) (.tmp 6) rfl w.heap.size (.slice (some ⟨w.heap.size, 0, none⟩) 0 0) [] rfl ho.out w.heap.size (some ad) c l (by rw [hn.out]; rfl) hrw.out (by simp; rw [hn.out]; omega) (by simp) ?_); intro v1 w1 hown1 hg1 _)
    go_ret
    exact ⟨v1, rfl, by simpa using hown1, below_app ho.out ((Below.refl _ _).alloc (Nat.le_refl _) _) (by simp) hg1⟩

end Go.Proofs.Ytdgkcgiknfjpjaa
/- Regions that draw their order: a fork of two operations. -/
namespace Go.Proofs.Ytdgkcgiknfjpjaa
set_option linter.unusedVariables false
open Go
section
variable {P : Program} {ops : Array Oper} {Q : Exit → Act → World → Prop} {md : Region.Mode} {R : World → World → Prop} {L : Nat}
/-- two operations may come up: each way is walked -/
theorem wpR_two (i j : Nat) {oi oj : Oper} {fuel : Nat} {listed : Array Bool} {a : Act} {w : World} (hi : ops[i]? = some oi) (hj : ops[j]? = some oj) (hr : Region.ready md ops listed = [i, j]) (hwi : Region.wanted oi (yielded ops a.tmps) = true) (hwj : Region.wanted oj (yielded ops a.tmps) = true)
    (h1 : ∀ K : Act → World → Prop, (∀ a' w', (i < L → R w w') → wpR P md ops R L Q fuel (listed.setIfInBounds i true) a' w' → K a' w') → Oper.wp P oi a w K Q)
    (h2 : ∀ K : Act → World → Prop, (∀ a' w', (j < L → R w w') → wpR P md ops R L Q fuel (listed.setIfInBounds j true) a' w' → K a' w') → Oper.wp P oj a w K Q) : wpR P md ops R L Q (fuel + 1) listed a w := by
  refine ⟨fun h0 => absurd (hr ▸ h0) (by simp), fun k hk => ?_⟩
  rw [hr, List.mem_cons, List.mem_singleton] at hk
  rcases hk with rfl | rfl
  · have := h1 (fun a' w' => (k < L → R w w') ∧ wpR P md ops R L Q fuel (listed.setIfInBounds k true) a' w') (fun _ _ h1 h2 => ⟨h1, h2⟩)
    unfold wpOp
    rw [hi]
    show if Region.wanted oi (yielded ops a.tmps) = true then _ else _
    rw [if_pos hwi]
    exact .inl this
  · have := h2 (fun a' w' => (k < L → R w w') ∧ wpR P md ops R L Q fuel (listed.setIfInBounds k true) a' w') (fun _ _ h1 h2 => ⟨h1, h2⟩)
    unfold wpOp
    rw [hj]
    show if Region.wanted oj (yielded ops a.tmps) = true then _ else _
    rw [if_pos hwj]
    exact .inl this
/-- from here on a narrower relation -/
theorem wpR_sub {R' : World → World → Prop} (hR : ∀ x y, R' x y → R x y) : ∀ (fuel : Nat) (listed : Array Bool) (a : Act) (w : World), wpR P md ops R' L Q fuel listed a w → wpR P md ops R L Q fuel listed a w
  | 0, _, _, _, h => h
  | fuel + 1, _, _, _, h => ⟨h.1, fun i hi => wpOp_mono (fun a' w' h' => ⟨fun hL => hR _ _ (h'.1 hL), wpR_sub hR fuel _ a' w' h'.2⟩) (h.2 i hi)⟩
end
end Go.Proofs.Ytdgkcgiknfjpjaa
