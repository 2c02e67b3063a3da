/- Regions that draw their order: a span of operations, in whatever order they come, told by facts about their values that later worlds keep. -/
import Derived.Test.YtpeilgeloaogfaaReg
namespace Go.Proofs.Ytpeilgeloaogfaa
set_option linter.unusedVariables false
open Go
/-- a fact about a value that later worlds keep -/
structure Pd (R : World → World → Prop) where
  p : Value → World → Prop
  st : ∀ {v : Value} {w w' : World}, R w w' → p v w → p v w'
def puts (V : Nat → Value) : List (Nat × Option Tmp) → Act → Act
  | [], a => a
  | x :: l, a => puts V l (a.put x.2 (V x.1))
def Facts {R : World → World → Prop} (Φ : Nat → Pd R) (V : Nat → Value) : List (Nat × Option Tmp) → World → Prop
  | [], _ => True
  | x :: l, w => (Φ x.1).p (V x.1) w ∧ Facts Φ V l w
def lays (listed : Array Bool) (V : Nat → Value) : List (Nat × Option Tmp) → Act → Act
  | [], a => a
  | x :: l, a => lays listed V l (if listed.getD x.1 true = true then a.put x.2 (V x.1) else a)
theorem lays_put {listed : Array Bool} {V : Nat → Value} {d : Option Tmp} {v : Value} : ∀ {l : List (Nat × Option Tmp)} {a : Act}, (∀ x, x ∈ l → ∀ t, d = some t → x.2 ≠ some t) → lays listed V l (a.put d v) = (lays listed V l a).put d v
  | [], a, _ => rfl
  | x :: l, a, h => by
    unfold lays
    by_cases hx : listed.getD x.1 true = true
    · rw [if_pos hx, if_pos hx, Act.put_comm a v (V x.1) (h x (by simp))]
      exact lays_put (fun y hy => h y (by simp [hy]))
    · rw [if_neg hx, if_neg hx]
      exact lays_put (fun y hy => h y (by simp [hy]))
theorem lays_congr {listed listed' : Array Bool} {V V' : Nat → Value} : ∀ {l : List (Nat × Option Tmp)} {a : Act}, (∀ x, x ∈ l → listed'.getD x.1 true = listed.getD x.1 true ∧ V' x.1 = V x.1) → lays listed' V' l a = lays listed V l a
  | [], a, _ => rfl
  | x :: l, a, h => by
    unfold lays
    rw [(h x (by simp)).1, (h x (by simp)).2]
    exact lays_congr (fun y hy => h y (by simp [hy]))
theorem lays_all {listed : Array Bool} {V : Nat → Value} : ∀ {l : List (Nat × Option Tmp)} {a : Act}, (∀ x, x ∈ l → listed.getD x.1 true = true) → lays listed V l a = puts V l a
  | [], a, _ => rfl
  | x :: l, a, h => by
    unfold lays puts
    rw [if_pos (h x (by simp))]
    exact lays_all (fun y hy => h y (by simp [hy]))
theorem lays_none {listed : Array Bool} {V : Nat → Value} : ∀ {l : List (Nat × Option Tmp)} {a : Act}, (∀ x, x ∈ l → listed.getD x.1 true = false) → lays listed V l a = a
  | [], a, _ => rfl
  | x :: l, a, h => by
    unfold lays
    rw [if_neg (by rw [h x (by simp)]; decide)]
    exact lays_none (fun y hy => h y (by simp [hy]))
theorem set_self {listed : Array Bool} {i : Nat} : (listed.setIfInBounds i true).getD i true = true := by
  rw [Array.getD_eq_getD_getElem?, Array.getElem?_setIfInBounds]
  simp only [if_true]
  split <;> rfl
def upd (V : Nat → Value) (i : Nat) (v : Value) : Nat → Value := fun j => if j = i then v else V j
theorem lays_new {listed : Array Bool} {V : Nat → Value} {i : Nat} {d : Option Tmp} {v : Value} (hi : listed.getD i true = false) :
    ∀ {l : List (Nat × Option Tmp)} {a : Act}, (i, d) ∈ l → (l.map (·.1)).Nodup → (∀ x, x ∈ l → x.1 ≠ i → ∀ t, d = some t → x.2 ≠ some t) → lays (listed.setIfInBounds i true) (upd V i v) l a = (lays listed V l a).put d v
  | [], a, h, _, _ => by cases h
  | x :: l, a, h, hn, hd => by
    have hn' := List.nodup_cons.mp hn
    by_cases e : x.1 = i
    · have hx : x = (i, d) := by
        rcases List.mem_cons.mp h with h | h
        · exact h.symm
        · exfalso
          refine hn'.1 ?_
          show x.1 ∈ l.map (·.1)
          rw [e]
          exact List.mem_map.mpr ⟨_, h, rfl⟩
      subst hx
      have hne : ∀ y, y ∈ l → y.1 ≠ i := fun y hy e2 => hn'.1 (by
        show i ∈ l.map (·.1)
        rw [← e2]
        exact List.mem_map.mpr ⟨_, hy, rfl⟩)
      unfold lays
      simp only [set_self, hi, if_true, Bool.false_eq_true, if_false]
      rw [show upd V i v i = v from if_pos rfl, lays_congr (listed := listed) (V := V) (fun y hy => ⟨getD_set_ne true (fun e => hne y hy e.symm), if_neg (hne y hy)⟩)]
      exact lays_put (fun y hy => hd y (by simp [hy]) (hne y hy))
    · have hm : (i, d) ∈ l := by
        rcases List.mem_cons.mp h with h | h
        · exact absurd (by rw [← h]) e
        · exact h
      unfold lays
      rw [getD_set_ne true (fun h => e h.symm), show upd V i v x.1 = V x.1 from if_neg e]
      exact lays_new hi hm hn'.2 (fun y hy => hd y (by simp [hy]))
section
variable {P : Program} {ops : Array Oper} {Q : Exit → Act → World → Prop} {md : Region.Mode} {R : World → World → Prop} {L : Nat}
/-- i waits for j -/
def dep (md : Region.Mode) (ops : Array Oper) (i j : Nat) : Bool := match ops[i]? with
  | some o => o.after.any (fun e => Region.binds md e && e.on == j)
  | none => false
theorem dep_of {i j : Nat} {o : Oper} (ho : ops[i]? = some o) : dep md ops i j = true ↔ ∃ e, e ∈ o.after ∧ Region.binds md e = true ∧ e.on = j := by
  unfold dep
  rw [ho]
  show o.after.any _ = true ↔ _
  rw [Array.any_eq_true']
  constructor
  · rintro ⟨e, he, hb⟩
    simp only [Bool.and_eq_true, beq_iff_eq] at hb
    exact ⟨e, he, hb.1, hb.2⟩
  · rintro ⟨e, he, h1, h2⟩
    exact ⟨e, he, by simp [h1, h2]⟩
theorem same_at {o : Oper} (hsel : ∀ cs b, o.op ≠ .select cs b) {V : Nat → Value} {listed : Array Bool} {p : Nat → Bool} : ∀ {l : List (Nat × Option Tmp)} {a : Act},
    (∀ x, x ∈ l → p x.1 = true → listed.getD x.1 true = true) → (∀ x, x ∈ l → p x.1 = false → listed.getD x.1 true = true → ∀ d, x.2 = some d → d ∉ o.looksAt ops) →
    (l.map (·.1)).Nodup → (∀ x y, x ∈ l → y ∈ l → x.1 ≠ y.1 → ∀ t, x.2 = some t → y.2 ≠ some t) → SameAt ops o (puts V (l.filter (fun x => p x.1)) a) (lays listed V l a)
  | [], a, _, _, _, _ => ⟨rfl, rfl⟩
  | x :: l, a, h1, h2, hn, hd => by
    have hn' := List.nodup_cons.mp hn
    have ih := fun a' => same_at hsel (V := V) (l := l) (a := a') (fun y hy => h1 y (by simp [hy])) (fun y hy => h2 y (by simp [hy])) hn'.2 (fun y z hy hz => hd y z (by simp [hy]) (by simp [hz]))
    unfold lays
    by_cases hp : p x.1 = true
    · rw [List.filter_cons, if_pos hp, if_pos (h1 x (by simp) hp)]
      exact ih _
    · rw [List.filter_cons, if_neg hp]
      by_cases hx : listed.getD x.1 true = true
      · rw [if_pos hx, lays_put (fun y hy => hd x y (by simp) (by simp [hy]) (fun e => hn'.1 (by show x.1 ∈ l.map (·.1); rw [e]; exact List.mem_map.mpr ⟨_, hy, rfl⟩)))]
        have hl := h2 x (by simp) (by simpa using hp) hx
        obtain ⟨i1, i2⟩ := ih a
        exact ⟨(execOp_put o hsel _ x.2 (V x.1) hl).trans i1, (wanted_put o _ x.2 (V x.1) hl).trans i2⟩
      · rw [if_neg hx]
        exact ih _
def OpOK (P : Program) (ops : Array Oper) {R : World → World → Prop} (Φ : Nat → Pd R) (i : Nat) (a : Act) (w : World) : Prop :=
  ∃ o, ops[i]? = some o ∧ ((Region.wanted o (yielded ops a.tmps) = true ∧ Oper.wp P o a w (fun b w' => ∃ v, b = a.put o.dst v ∧ R w w' ∧ (Φ i).p v w') (fun _ _ _ => False)) ∨ (Region.wanted o (yielded ops a.tmps) = false ∧ (Φ i).p undef w))
theorem defers_ne {a : Act} {d : Deferred} {x y : Option Tmp} {u v : Value} (h : ({ a with defers := d :: a.defers } : Act).put x u = a.put y v) : False := by
  have h2 := congrArg (fun b : Act => b.defers.length) h
  cases x <;> cases y <;> simp [Act.put] at h2
theorem put_inj {a : Act} {d : Tmp} {u v : Value} (hd : d < a.tmps.size) (h : a.put (some d) u = a.put (some d) v) : u = v := by
  have h2 := congrArg (fun b : Act => b.tmps[d]?) h
  simpa [Act.put, hd] using h2
theorem puts_size {V : Nat → Value} : ∀ {l : List (Nat × Option Tmp)} {a : Act}, (puts V l a).tmps.size = a.tmps.size
  | [], a => rfl
  | x :: l, a => by
    unfold puts
    rw [puts_size]
    cases x.2 <;> simp [Act.put]
theorem lets_no (h : LetsOut (fun _ _ _ => False)) : False := by
  obtain ⟨_, _, h⟩ := h
  exact h
theorem put_same {P : Program} {o : Oper} {a a' : Act} {w : World} {T : Value → World → Prop} {K : Act → World → Prop} (hex : execOp a'.eval o = execOp a.eval o) (hK : ∀ v w', T v w' → K (a'.put o.dst v) w')
    {d : Tmp} (hd : o.dst = some d) (hsz : d < a.tmps.size) (h : Oper.wp P o a w (fun b w' => ∃ v, b = a.put o.dst v ∧ T v w') (fun _ _ _ => False)) : Oper.wp P o a' w K Q := by
  have hT : ∀ u w', (∃ v, a.put o.dst u = a.put o.dst v ∧ T v w') → K (a'.put o.dst u) w' := fun u w' ⟨v, e, hv⟩ => by
    rw [hd] at e
    have := put_inj hsz e
    subst this
    exact hK _ _ hv
  unfold Oper.wp at h ⊢
  rw [hex]
  generalize (execOp a.eval o).run P w = r at h ⊢
  cases r with
  | halt x w' => cases x <;> simp only [Oper.upon] at h ⊢
  | ok n w' =>
    cases n <;> simp only [Oper.upon] at h ⊢
    case value u => exact hT _ _ h
    case skip => exact hT _ _ h
    case defer d => obtain ⟨v, e, hv⟩ := h; exact (defers_ne e).elim
    case enter f args =>
      refine Calls.mono h fun e w'' he => ?_
      cases e with
      | returned u => exact hT _ _ he
      | panicked c => exact he.elim
      | outgrown => exact (lets_no he).elim
    case row row args => exact Rows.mono h fun u w'' he => hT _ _ he
/-! ### the span -/
def cnt (listed : Array Bool) : List (Nat × Option Tmp) → Nat
  | [] => 0
  | x :: l => (if listed.getD x.1 true = true then 0 else 1) + cnt listed l
theorem cnt_congr {listed listed' : Array Bool} : ∀ {l : List (Nat × Option Tmp)}, (∀ x, x ∈ l → listed'.getD x.1 true = listed.getD x.1 true) → cnt listed' l = cnt listed l
  | [], _ => rfl
  | x :: l, h => by
    unfold cnt
    rw [h x (by simp), cnt_congr (fun y hy => h y (by simp [hy]))]
theorem cnt_new {listed : Array Bool} {i : Nat} (hi : listed.getD i true = false) : ∀ {l : List (Nat × Option Tmp)}, (∃ x, x ∈ l ∧ x.1 = i) → (l.map (·.1)).Nodup → cnt (listed.setIfInBounds i true) l + 1 = cnt listed l
  | [], ⟨_, h, _⟩, _ => by cases h
  | x :: l, hm, hn => by
    have hn' := List.nodup_cons.mp hn
    unfold cnt
    by_cases e : x.1 = i
    · have hne : ∀ y, y ∈ l → y.1 ≠ i := fun y hy e2 => hn'.1 (by
        show x.1 ∈ l.map (·.1)
        rw [e, ← e2]
        exact List.mem_map.mpr ⟨_, hy, rfl⟩)
      rw [e, set_self, hi, cnt_congr (listed := listed) (fun y hy => getD_set_ne true (fun e => hne y hy e.symm))]
      simp
      omega
    · have hm' : ∃ x, x ∈ l ∧ x.1 = i := by
        obtain ⟨y, hy, e2⟩ := hm
        rcases List.mem_cons.mp hy with h | h
        · subst h; exact absurd e2 e
        · exact ⟨y, h, e2⟩
      rw [getD_set_ne true (fun h => e h.symm)]
      have := cnt_new hi hm' hn'.2
      omega
theorem cnt_zero {listed : Array Bool} : ∀ {l : List (Nat × Option Tmp)}, cnt listed l = 0 → ∀ x, x ∈ l → listed.getD x.1 true = true
  | [], _, x, hx => by cases hx
  | y :: l, h, x, hx => by
    replace h : (if listed.getD y.1 true = true then 0 else 1) + cnt listed l = 0 := h
    by_cases hy : listed.getD y.1 true = true
    · rw [if_pos hy] at h
      rcases List.mem_cons.mp hx with e | e
      · subst e; exact hy
      · exact cnt_zero (listed := listed) (by omega) x e
    · rw [if_neg hy] at h
      omega
theorem cnt_pos {listed : Array Bool} : ∀ {l : List (Nat × Option Tmp)}, 0 < cnt listed l → ∃ x, x ∈ l ∧ listed.getD x.1 true = false
  | [], h => by simp [cnt] at h
  | y :: l, h => by
    replace h : 0 < (if listed.getD y.1 true = true then 0 else 1) + cnt listed l := h
    by_cases hy : listed.getD y.1 true = true
    · rw [if_pos hy] at h
      obtain ⟨x, hx, e⟩ := cnt_pos (listed := listed) (l := l) (by omega)
      exact ⟨x, by simp [hx], e⟩
    · exact ⟨y, by simp, by simpa using hy⟩
theorem cnt_full {listed : Array Bool} : ∀ {l : List (Nat × Option Tmp)}, (∀ x, x ∈ l → listed.getD x.1 true = false) → cnt listed l = l.length
  | [], _ => rfl
  | y :: l, h => by
    unfold cnt
    rw [if_neg (by rw [h y (by simp)]; decide), cnt_full (fun x hx => h x (by simp [hx])), List.length_cons]
    omega
/-- k waits for s, by way of S -/
def reach (md : Region.Mode) (ops : Array Oper) (S : List Nat) : Nat → Nat → Nat → Bool
  | 0, k, s => dep md ops k s
  | n + 1, k, s => dep md ops k s || S.any (fun j => dep md ops k j && reach md ops S n j s)
def AllOps (P : Program) (ops : Array Oper) {R : World → World → Prop} (Φ : Nat → Pd R) (a : Act) (w : World) : List (Nat × List (Nat × Option Tmp)) → Prop
  | [] => True
  | x :: l => (∀ V w', R w w' → Facts Φ V x.2 w' → OpOK P ops Φ x.1 (puts V x.2 a) w') ∧ AllOps P ops Φ a w l
theorem AllOps.at_ {Φ : Nat → Pd R} {a : Act} {w : World} : ∀ {T : List (Nat × List (Nat × Option Tmp))}, AllOps P ops Φ a w T → ∀ x, x ∈ T → ∀ V w', R w w' → Facts Φ V x.2 w' → OpOK P ops Φ x.1 (puts V x.2 a) w'
  | [], _, x, hx => by cases hx
  | y :: T, h, x, hx => by
    rcases List.mem_cons.mp hx with e | e
    · subst e; exact h.1
    · exact AllOps.at_ h.2 x e
theorem Facts.mk_ {Φ : Nat → Pd R} {V : Nat → Value} {w : World} : ∀ {l : List (Nat × Option Tmp)}, (∀ x, x ∈ l → (Φ x.1).p (V x.1) w) → Facts Φ V l w
  | [], _ => trivial
  | x :: l, h => ⟨h x (by simp), Facts.mk_ (fun y hy => h y (by simp [hy]))⟩
def dstOf (ops : Array Oper) (i : Nat) : Option Tmp := (ops[i]?).bind (·.dst)
def spanOK (md : Region.Mode) (ops : Array Oper) (listed : Array Bool) (n : Nat) (E : List (Nat × Option Tmp)) (T : List (Nat × List (Nat × Option Tmp))) : Bool :=
  Region.noSelect ops && (listed.size == ops.size) && decide ((E.map (·.1)).Nodup) &&
  T.all (fun x => E.contains (x.1, dstOf ops x.1) && (x.2 == E.filter (fun y => dep md ops x.1 y.1))) &&
  E.all (fun x => (T.map (·.1)).contains x.1 && (x.2 == dstOf ops x.1) && !(listed.getD x.1 true) && (match x.2 with | some d => decide (d < n) | none => false)) &&
  E.all (fun x => match ops[x.1]? with | none => false | some o => o.after.all (fun e => !Region.binds md e || listed.getD e.on false || ((E.map (·.1)).contains e.on && decide (e.on < x.1)))) &&
  E.all (fun x => E.all (fun y => x.1 == y.1 || x.2 != y.2)) &&
  E.all (fun x => E.all (fun y => x.1 == y.1 || dep md ops x.1 y.1 || dep md ops y.1 x.1 || (match ops[x.1]?, y.2 with | some o, some d => !((o.looksAt ops).contains d) | _, _ => true))) &&
  (List.range ops.size).all (fun k => (E.map (·.1)).contains k || listed.getD k true || E.all (fun s => reach md ops (E.map (·.1)) E.length k s.1))

structure SpanInv (md : Region.Mode) (ops : Array Oper) (Φ : Nat → Pd R) (E : List (Nat × Option Tmp)) (listed0 : Array Bool) (w0 : World) (listed : Array Bool) (V : Nat → Value) (w : World) : Prop where
  size : listed.size = ops.size
  old : ∀ k, (∀ x, x ∈ E → x.1 ≠ k) → listed.getD k true = listed0.getD k true
  low : ∀ k, listed0.getD k false = true → listed.getD k false = true
  down : ∀ x, x ∈ E → listed.getD x.1 true = true → ∀ j, dep md ops x.1 j = true → listed.getD j false = true
  road : R w0 w
  facts : ∀ x, x ∈ E → listed.getD x.1 true = true → (Φ x.1).p (V x.1) w
theorem getD_both {listed : Array Bool} {k : Nat} (hk : k < listed.size) (b c : Bool) : listed.getD k b = listed.getD k c := by
  rw [Array.getD_eq_getD_getElem?, Array.getD_eq_getD_getElem?, Array.getElem?_eq_getElem hk]; rfl
theorem reach_listed {listed : Array Bool} {E : List (Nat × Option Tmp)} (hdown : ∀ x, x ∈ E → listed.getD x.1 true = true → ∀ j, dep md ops x.1 j = true → listed.getD j false = true) :
    ∀ (n k s : Nat), (∀ j, dep md ops k j = true → listed.getD j false = true) → reach md ops (E.map (·.1)) n k s = true → listed.getD s false = true
  | 0, k, s, hk, h => hk s h
  | n + 1, k, s, hk, h => by
    unfold reach at h
    rw [Bool.or_eq_true] at h
    rcases h with h | h
    · exact hk s h
    · rw [List.any_eq_true] at h
      obtain ⟨j, hj, h⟩ := h
      rw [Bool.and_eq_true] at h
      obtain ⟨x, hx, rfl⟩ := List.mem_map.mp hj
      have h1 := hk x.1 h.1
      have h2 : listed.getD x.1 true = true := by
        by_cases hs : x.1 < listed.size
        · rw [getD_both hs true false]; exact h1
        · rw [Array.getD_eq_getD_getElem?, Array.getElem?_eq_none (by omega)]; rfl
      exact reach_listed hdown n x.1 s (hdown x hx h2) h.2
theorem least_ {p : Nat → Bool} {E : List (Nat × Option Tmp)} : ∀ (n : Nat), (∃ x, x ∈ E ∧ p x.1 = true ∧ x.1 < n) → ∃ x, x ∈ E ∧ p x.1 = true ∧ ∀ y, y ∈ E → y.1 < x.1 → p y.1 = false
  | 0, ⟨x, _, _, h⟩ => absurd h (by omega)
  | n + 1, ⟨x, hx, hp, hn⟩ => by
    by_cases h : ∃ y, y ∈ E ∧ p y.1 = true ∧ y.1 < n
    · exact least_ n h
    · refine ⟨x, hx, hp, fun y hy hlt => ?_⟩
      cases hh : p y.1 with
      | false => rfl
      | true => exact absurd ⟨y, hy, hh, by omega⟩ h
theorem wpR_span_ind {Φ : Nat → Pd R} {a : Act} {w0 : World} {listed0 : Array Bool} {E : List (Nat × Option Tmp)} {T : List (Nat × List (Nat × Option Tmp))} {fuel : Nat} (hR : Road R)
    (hok : spanOK md ops listed0 a.tmps.size E T = true) (hops : AllOps P ops Φ a w0 T)
    (hend : ∀ V w listed, listed.size = ops.size → (∀ k, listed.getD k true = (E.foldl (fun l x => l.setIfInBounds x.1 true) listed0).getD k true) → R w0 w → Facts Φ V E w → wpR P md ops R L Q fuel listed (puts V E a) w) :
    ∀ (m : Nat) (listed : Array Bool) (V : Nat → Value) (w : World), cnt listed E = m → SpanInv md ops Φ E listed0 w0 listed V w → wpR P md ops R L Q (fuel + m) listed (lays listed V E a) w := by
  unfold spanOK at hok
  simp only [Bool.and_eq_true] at hok
  obtain ⟨⟨⟨⟨⟨⟨⟨⟨c1, c2⟩, c3⟩, c4⟩, c5⟩, c6⟩, c7⟩, c8⟩, c9⟩ := hok
  have hnd : (E.map (·.1)).Nodup := of_decide_eq_true c3
  have hdist : ∀ x y, x ∈ E → y ∈ E → x.1 ≠ y.1 → ∀ t, x.2 = some t → y.2 ≠ some t := fun x y hx hy hne t ht h2 => by
    have h := List.all_eq_true.mp (List.all_eq_true.mp c7 x hx) y hy
    rw [ht, h2] at h
    simp [hne] at h
  have hfold : ∀ (l : List (Nat × Option Tmp)) (z : Array Bool) (k : Nat), (l.foldl (fun l x => l.setIfInBounds x.1 true) z).getD k true = if l.any (fun x => x.1 == k) then true else z.getD k true := by
    intro l
    induction l with
    | nil => intro z k; rfl
    | cons x l ih =>
      intro z k
      rw [List.foldl_cons, ih, List.any_cons]
      by_cases e : x.1 = k
      · subst e
        rw [set_self]; simp
      · rw [getD_set_ne true e, show (x.1 == k) = false from by simpa using e, Bool.false_or]
  intro m
  induction m with
  | zero =>
    intro listed V w hm hI
    have hall := cnt_zero hm
    rw [lays_all hall]
    refine hend V w listed hI.size (fun k => ?_) hI.road (Facts.mk_ (fun x hx => hI.facts x hx (hall x hx)))
    rw [hfold]
    by_cases hk : ∃ x, x ∈ E ∧ x.1 = k
    · obtain ⟨x, hx, rfl⟩ := hk
      rw [hall x hx, if_pos (List.any_eq_true.mpr ⟨x, hx, by simp⟩)]
    · rw [hI.old k (fun x hx e => hk ⟨x, hx, e⟩), if_neg (by
        intro h
        obtain ⟨x, hx, e⟩ := List.any_eq_true.mp h
        exact hk ⟨x, hx, by simpa using e⟩)]
  | succ m ih =>
    intro listed V w hm hI
    have hlt : ∀ x, x ∈ E → listed.getD x.1 true = false → x.1 < ops.size := fun x hx h => by
      rw [← hI.size]
      rcases Nat.lt_or_ge x.1 listed.size with h' | h'
      · exact h'
      · rw [Array.getD_eq_getD_getElem?, Array.getElem?_eq_none h'] at h; cases h
    refine ⟨fun hnone => ?_, fun i hi => ?_⟩
    · exfalso
      obtain ⟨x0, hx0, hu0⟩ := cnt_pos (listed := listed) (l := E) (by omega)
      obtain ⟨x, hx, hp, hmin⟩ := least_ (p := fun k => !(listed.getD k true)) (E := E) (x0.1 + 1) ⟨x0, hx0, by simp [hu0], by omega⟩
      have hu : listed.getD x.1 true = false := by simpa using hp
      have h6 := List.all_eq_true.mp c6 x hx
      have hxs := hlt x hx hu
      rw [Array.getElem?_eq_getElem hxs] at h6
      have hr : x.1 ∈ Region.ready md ops listed := mem_ready.2 ⟨hu, ops[x.1], Array.getElem?_eq_getElem hxs, fun e he hb => by
        have h7 := Array.all_eq_true_iff_forall_mem.1 h6 e he
        simp only [hb, Bool.not_true, Bool.false_or, Bool.or_eq_true, Bool.and_eq_true, decide_eq_true_eq] at h7
        rcases h7 with h7 | ⟨h7, h8⟩
        · exact hI.low _ h7
        · obtain ⟨y, hy, hye⟩ := List.mem_map.mp (by simpa using h7 : e.on ∈ E.map (·.1))
          have h9 := hmin y hy (by rw [hye]; exact h8)
          have h10 : listed.getD y.1 true = true := by simpa using h9
          rw [← hye, getD_both (by rw [hI.size]; omega) false true]
          exact h10⟩
      rw [hnone] at hr
      cases hr
    · obtain ⟨hun, oi, hoi, hall⟩ := mem_ready.1 hi
      have hdeps : ∀ j, dep md ops i j = true → listed.getD j false = true := fun j hj => by
        obtain ⟨e, he, hb, rfl⟩ := (dep_of hoi).mp hj
        exact hall e he hb
      have his : i < ops.size := (Array.getElem?_eq_some_iff.mp hoi).1
      -- i is in the span
      have hiE : ∃ x, x ∈ E ∧ x.1 = i := by
        have h9 := List.all_eq_true.mp c9 i (List.mem_range.mpr his)
        simp only [Bool.or_eq_true] at h9
        rcases h9 with (h9 | h9) | h9
        · obtain ⟨x, hx, e⟩ := List.mem_map.mp (by simpa using h9 : i ∈ E.map (·.1))
          exact ⟨x, hx, e⟩
        · by_cases hk : ∃ x, x ∈ E ∧ x.1 = i
          · exact hk
          · rw [hI.old i (fun x hx e => hk ⟨x, hx, e⟩), h9] at hun
            cases hun
        · exfalso
          obtain ⟨x0, hx0, hu0⟩ := cnt_pos (listed := listed) (l := E) (by omega)
          have h1 := reach_listed hI.down _ i x0.1 hdeps (List.all_eq_true.mp h9 x0 hx0)
          rw [getD_both (by rw [hI.size]; exact hlt x0 hx0 hu0) false true, hu0] at h1
          cases h1
      obtain ⟨x, hx, rfl⟩ := hiE
      have h5 := List.all_eq_true.mp c5 x hx
      simp only [Bool.and_eq_true] at h5
      obtain ⟨⟨⟨h51, h52⟩, h53⟩, h54⟩ := h5
      have hxd : x.2 = dstOf ops x.1 := by simpa using h52
      have hxd2 : x.2 = oi.dst := by rw [hxd]; unfold dstOf; rw [hoi]; rfl
      obtain ⟨y, hy, hye⟩ := List.mem_map.mp (by simpa using h51 : x.1 ∈ T.map (·.1))
      have h4 := List.all_eq_true.mp c4 y hy
      simp only [Bool.and_eq_true] at h4
      have hD : y.2 = E.filter (fun z => dep md ops x.1 z.1) := by rw [← hye]; simpa using h4.2
      have hlisted : ∀ z, z ∈ E → dep md ops x.1 z.1 = true → listed.getD z.1 true = true := fun z hz hd => by
        have h1 := hdeps z.1 hd
        by_cases hs : z.1 < listed.size
        · rw [getD_both hs true false]; exact h1
        · rw [Array.getD_eq_getD_getElem?, Array.getElem?_eq_none (by omega)]; rfl
      have hF : Facts Φ V y.2 w := by
        rw [hD]
        exact Facts.mk_ (fun z hz => by
          have hz' := List.mem_filter.mp hz
          exact hI.facts z hz'.1 (hlisted z hz'.1 hz'.2))
      obtain ⟨o, ho, hcase⟩ := hops.at_ y hy V w hI.road hF
      rw [hye, hoi] at ho
      injection ho with ho
      subst ho
      have hsame : SameAt ops oi (puts V y.2 a) (lays listed V E a) := by
        rw [hD]
        refine same_at (p := fun k => dep md ops x.1 k) (fun cs b => Region.noSelect_spec c1 x.1 oi cs b hoi) (fun z hz => hlisted z hz) (fun z hz hp hl d hd hmem => ?_) hnd hdist
        by_cases hxz : x.1 = z.1
        · rw [← hxz, hun] at hl; cases hl
        · have h8 := List.all_eq_true.mp (List.all_eq_true.mp c8 x hx) z hz
          simp only [Bool.or_eq_true, beq_iff_eq] at h8
          rcases h8 with ((h8 | h8) | h8) | h8
          · exact hxz h8
          · rw [h8] at hp; cases hp
          · have := hI.down z hz hl x.1 h8
            rw [getD_both (by rw [hI.size]; exact his) false true, hun] at this
            cases this
          · rw [hoi, hd] at h8
            simp at h8
            exact h8 hmem
      have hnew : ∀ v w', R w w' → (Φ x.1).p v w' → (x.1 < L → R w w') ∧ wpR P md ops R L Q (fuel + m) (listed.setIfInBounds x.1 true) ((lays listed V E a).put oi.dst v) w' := fun v w' hr hv => by
        refine ⟨fun _ => hr, ?_⟩
        rw [← lays_new (i := x.1) (d := oi.dst) (v := v) hun (by rw [← hxd2]; exact hx) hnd (fun z hz hne t ht => hdist x z hx hz (fun e => hne e.symm) t (by rw [hxd2]; exact ht))]
        refine ih _ _ w' ?_ ⟨by simpa using hI.size, fun k hk => ?_, fun k hk => getD_set_true (hI.low k hk), fun z hz hl j hj => ?_, hR.trans hI.road hr, fun z hz hl => ?_⟩
        · have := cnt_new (listed := listed) (i := x.1) hun (l := E) ⟨x, hx, rfl⟩ hnd
          omega
        · rw [getD_set_ne true (hk x hx)]
          exact hI.old k hk
        · by_cases e : x.1 = z.1
          · rw [← e] at hj
            exact getD_set_true (hdeps j hj)
          · rw [getD_set_ne true e] at hl
            exact getD_set_true (hI.down z hz hl j hj)
        · by_cases e : z.1 = x.1
          · unfold upd
            rw [if_pos e, e]
            exact hv
          · rw [getD_set_ne true (fun h => e h.symm)] at hl
            unfold upd
            rw [if_neg e]
            exact (Φ z.1).st hr (hI.facts z hz hl)
      unfold wpOp
      rw [hoi]
      show if Region.wanted oi (yielded ops (lays listed V E a).tmps) = true then _ else _
      rw [hsame.2]
      rcases hcase with ⟨hw, hwp⟩ | ⟨hw, hv⟩
      · rw [if_pos hw]
        refine .inl ?_
        obtain ⟨d, hd⟩ : ∃ d, x.2 = some d := by
          cases hh : x.2 with
          | none => rw [hh] at h54; cases h54
          | some d => exact ⟨d, rfl⟩
        rw [hd] at h54
        rw [hye] at hwp
        exact put_same (T := fun v w' => R w w' ∧ (Φ x.1).p v w') hsame.1 (fun v w' h => hnew v w' h.1 h.2) (by rw [← hxd2]; exact hd) (by rw [puts_size]; exact of_decide_eq_true h54) hwp
      · rw [if_neg (by rw [hw]; decide)]
        rw [hye] at hv
        exact hnew undef w (hR.refl w) hv
theorem arr_getD {x y : Array Bool} (hs : x.size = y.size) (h : ∀ k, x.getD k true = y.getD k true) : x = y := by
  refine Array.ext hs (fun i h1 h2 => ?_)
  have := h i
  rw [Array.getD_eq_getD_getElem?, Array.getD_eq_getD_getElem?, Array.getElem?_eq_getElem h1, Array.getElem?_eq_getElem h2] at this
  exact this
/-- the operations of E come in some order; each yields a value of which Φ tells, and later worlds keep that -/
theorem wpR_span {listed : Array Bool} {a : Act} {w : World} (Φ : Nat → Pd R) (E : List (Nat × Option Tmp)) (T : List (Nat × List (Nat × Option Tmp))) (listed2 : Array Bool) (fuel : Nat) {n0 : Nat} (hn0 : n0 = fuel + E.length) (hR : Road R)
    (hok : spanOK md ops listed a.tmps.size E T = true) (hl2 : E.foldl (fun l x => l.setIfInBounds x.1 true) listed = listed2) (hops : AllOps P ops Φ a w T)
    (hend : ∀ V w', R w w' → Facts Φ V E w' → wpR P md ops R L Q fuel listed2 (puts V E a) w') : wpR P md ops R L Q n0 listed a w := by
  have hok2 := hok
  unfold spanOK at hok2
  simp only [Bool.and_eq_true] at hok2
  obtain ⟨⟨⟨⟨⟨⟨⟨⟨c1, c2⟩, c3⟩, c4⟩, c5⟩, c6⟩, c7⟩, c8⟩, c9⟩ := hok2
  have hun : ∀ x, x ∈ E → listed.getD x.1 true = false := fun x hx => by
    have h5 := List.all_eq_true.mp c5 x hx
    simp only [Bool.and_eq_true] at h5
    simpa using h5.1.2
  have hsz : listed.size = ops.size := by simpa using c2
  have hfs : ∀ (l : List (Nat × Option Tmp)) (z : Array Bool), (l.foldl (fun l x => l.setIfInBounds x.1 true) z).size = z.size := by
    intro l
    induction l with
    | nil => intro z; rfl
    | cons x l ih => intro z; rw [List.foldl_cons, ih]; simp
  have h := wpR_span_ind (P := P) (Q := Q) (L := L) (fuel := fuel) (Φ := Φ) hR hok hops (fun V w' ls h1 h2 h3 h4 => by
    have e : ls = listed2 := by
      rw [← hl2]
      exact arr_getD (by rw [h1, hfs, hsz]) h2
    rw [e]
    exact hend V w' h3 h4) E.length listed (fun _ => undef) w (cnt_full hun) ⟨hsz, fun _ _ => rfl, fun _ h => h, fun x hx h => absurd h (by rw [hun x hx]; decide), hR.refl w, fun x hx h => absurd h (by rw [hun x hx]; decide)⟩
  rw [lays_none hun] at h
  rw [hn0]
  exact h
end
end Go.Proofs.Ytpeilgeloaogfaa
