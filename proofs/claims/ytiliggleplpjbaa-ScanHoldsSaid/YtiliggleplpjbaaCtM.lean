/- cat: what a catalog holds, plain. -/
import Derived.Test.YtiliggleplpjbaaJrM
import Derived.Test.YtiliggleplpjbaaMpR
namespace Go.Proofs.Ytiliggleplpjbaa
set_option linter.unusedVariables false
set_option linter.unusedSimpArgs false
open Go Go.RowKit Go.Maps
abbrev By := List UInt8
structure EnP where
  key : By
  gen : Int
  size : Int
  sum : By
  places : List (Int × Int)
deriving DecidableEq
structure CtP where
  W : List (By × By)
  E : List (By × EnP)
  B : List (By × Int)
  T : List (By × Int)
  R : List Int
  G : Int
deriving DecidableEq
def CtP.none_ : CtP := ⟨[], [], [], [], [], 0⟩
def keyOk (k : By) : Bool := decide (1 ≤ k.length) && decide (k.length ≤ 16)
theorem keyOk_iff (k : By) : keyOk k = true ↔ 1 ≤ k.length ∧ k.length ≤ 16 := by unfold keyOk; simp
/-- how many groups a size takes; 0: it may not be -/
def grp (z : Int) : Nat := if z < 0 ∨ 512 < z then 0 else max 1 ((z.toNat + 127) / 128)
theorem grp_le (z : Int) : grp z ≤ 4 := by unfold grp; split <;> omega
def CtP.has (c : CtP) (k : By) : Bool := hasP c.E k || hasP c.W k
def CtP.named (c : CtP) (k : By) (g : Int) : Bool := keyOk k && (decide (1 ≤ g) && decide (g ≤ c.G))
def CtP.later (c : CtP) (g : Int) : Bool := decide (c.G < g) && decide (g ≤ 1099511627776)
/-- put in where it belongs -/
def insP {V : Type} (L : List (By × V)) (k : By) (v : V) : List (By × V) := L.takeWhile (fun e => decide (e.1 < k)) ++ ((k, v) :: L.dropWhile (fun e => decide (e.1 < k)))
def CtP.put (c : CtP) (n : Nt) : Int × CtP :=
  if keyOk n.key = false ∨ 512 < n.data.length then (12, c) else if c.has n.key = true then (4, c) else (0, { c with W := c.W ++ [(n.key, n.data)] })
def CtP.placed (c : CtP) (n : Nt) : Int × CtP :=
  if c.named n.key n.gen = false ∨ grp n.size = 0 ∨ n.places.length ≠ 10 * grp n.size then (12, c)
  else (0, { c with W := delP c.W n.key, E := insP (delP c.E n.key) n.key ⟨n.key, n.gen, n.size, n.sum, n.places⟩ })
def CtP.gone (c : CtP) (n : Nt) : Int × CtP :=
  if c.has n.key = false then (5, c) else if c.later n.gen = false then (12, c)
  else (0, { c with W := delP c.W n.key, E := delP c.E n.key, B := delP c.B n.key, T := if hasP c.E n.key = true ∨ hasP c.B n.key = true then c.T ++ [(n.key, n.gen)] else c.T, G := n.gen })
def CtP.begin_ (c : CtP) (n : Nt) : Int × CtP :=
  if c.later n.gen = false then (12, c) else if n.key ≠ [] ∧ c.has n.key = false then (5, c)
  else (0, { c with G := n.gen, B := if n.key = [] then c.B else delP c.B n.key ++ [(n.key, n.gen)] })
def CtP.retire (c : CtP) (n : Nt) : Int × CtP :=
  if n.cart < 0 ∨ 31 < n.cart then (12, c) else (0, { c with R := if c.R.contains n.cart = true then c.R else c.R ++ [n.cart] })
def CtP.turnT (c : CtP) (n : Nt) : Int × CtP :=
  if n.size = 1 ∧ (n.key, n.gen) ∉ c.T ∧ c.named n.key n.gen = true then (0, { c with T := c.T ++ [(n.key, n.gen)] })
  else if n.size = 0 ∧ (n.key, n.gen) ∈ c.T then (0, { c with T := c.T.erase (n.key, n.gen) }) else (12, c)
def CtP.apply (c : CtP) (n : Nt) : Int × CtP :=
  if n.kind = 1 then c.put n else if n.kind = 2 then c.placed n else if n.kind = 3 then c.gone n else if n.kind = 4 then c.begin_ n
  else if n.kind = 5 then c.retire n else if n.kind = 6 then c.turnT n else (12, c)
section
variable {V : Type}
def RiseP (L : List (By × V)) : Prop := L.Pairwise (fun x y => x.1 < y.1)
theorem bl_irrefl (x : By) : ¬ x < x := List.lt_irrefl x
theorem bl_trans {x y z : By} (h1 : x < y) (h2 : y < z) : x < z := List.lt_trans h1 h2
theorem bl_le {x y : By} (h : ¬ x < y) : y ≤ x := List.not_lt.mp h
theorem bl_ne {x y : By} (h : ¬ x < y) (hn : x ≠ y) : y < x := Classical.byContradiction fun hc => hn (List.le_antisymm (bl_le hc) (bl_le h))
theorem RiseP.dist {L : List (By × V)} (h : RiseP L) : DistP L := by
  unfold RiseP at h
  unfold DistP
  exact List.Pairwise.imp (fun {a b} (h : a.1 < b.1) (e : a.1 = b.1) => bl_irrefl b.1 (by rw [e] at h; exact h)) h
theorem RiseP.del {L : List (By × V)} (h : RiseP L) (k : By) : RiseP (delP L k) := List.Pairwise.filter _ h
theorem insP_perm (L : List (By × V)) (k : By) (v : V) : (insP L k v).Perm (L ++ [(k, v)]) := by
  unfold insP
  conv => rhs; rw [← List.takeWhile_append_dropWhile (p := fun e : By × V => decide (e.1 < k)) (l := L)]
  rw [List.append_assoc]
  refine List.Perm.append_left _ ?_
  rw [← List.singleton_append]
  exact List.perm_append_comm
theorem drop_not {L : List (By × V)} (h : RiseP L) (k : By) : ∀ e ∈ L.dropWhile (fun e => decide (e.1 < k)), ¬ e.1 < k := by
  induction L with
  | nil => intro e he; cases he
  | cons x L ih =>
    obtain ⟨h1, h2⟩ := List.pairwise_cons.mp h
    intro e he
    by_cases hx : x.1 < k
    · rw [List.dropWhile_cons_of_pos (by simpa using hx)] at he
      exact ih h2 e he
    · rw [List.dropWhile_cons_of_neg (by simpa using hx)] at he
      rcases List.mem_cons.mp he with rfl | he
      · exact hx
      · exact fun h3 => hx (bl_trans (h1 e he) h3)
theorem RiseP.ins {L : List (By × V)} (h : RiseP L) {k : By} (hk : hasP L k = false) (v : V) : RiseP (insP L k v) := by
  have hne : ∀ e ∈ L, e.1 ≠ k := fun e he e2 => by
    have := (hasP_iff L k).mpr ⟨e, he, e2⟩
    rw [hk] at this; cases this
  have hdl : ∀ e ∈ L.dropWhile (fun e => decide (e.1 < k)), k < e.1 := fun e he => bl_ne (drop_not h k e he) (hne e ((List.dropWhile_sublist _).subset he))
  have htl : ∀ e ∈ L.takeWhile (fun e => decide (e.1 < k)), e.1 < k := fun e he => by
    have := List.all_eq_true.mp (List.all_takeWhile (p := fun p : By × V => decide (p.1 < k)) (l := L)) e he
    simpa using this
  unfold RiseP insP
  rw [List.pairwise_append, List.pairwise_cons]
  refine ⟨List.Pairwise.sublist (List.takeWhile_sublist _) h, ⟨hdl, List.Pairwise.sublist (List.dropWhile_sublist _) h⟩, fun x hx y hy => ?_⟩
  rcases List.mem_cons.mp hy with rfl | hy
  · exact htl x hx
  · exact bl_trans (htl x hx) (hdl y hy)
end
/-- what holds of a catalog behind notes -/
structure CtP.Ok (c : CtP) : Prop where
  dW : DistP c.W
  rE : RiseP c.E
  ap : ∀ k, hasP c.W k = true → hasP c.E k = false
  okW : ∀ e ∈ c.W, keyOk e.1 = true ∧ e.2.length ≤ 512
  okE : ∀ e ∈ c.E, e.2.key = e.1 ∧ keyOk e.1 = true ∧ 1 ≤ e.2.gen ∧ e.2.gen ≤ c.G ∧ grp e.2.size ≠ 0 ∧ e.2.places.length = 10 * grp e.2.size
  dB : DistP c.B
  rB : c.B.Pairwise (fun x y => x.2 < y.2)
  okB : ∀ e ∈ c.B, 1 ≤ e.2 ∧ e.2 ≤ c.G ∧ keyOk e.1 = true ∧ c.has e.1 = true
  dT : c.T.Nodup
  okT : ∀ e ∈ c.T, 1 ≤ e.2 ∧ e.2 ≤ c.G ∧ keyOk e.1 = true
  dR : c.R.Nodup
  okR : ∀ z ∈ c.R, 0 ≤ z ∧ z ≤ 31
  g0 : 0 ≤ c.G
  g1 : c.G ≤ 1099511627776
theorem CtP.none_ok : CtP.none_.Ok := by
  refine ⟨List.Pairwise.nil, List.Pairwise.nil, ?_, ?_, ?_, List.Pairwise.nil, List.Pairwise.nil, ?_, List.Pairwise.nil, ?_, List.Pairwise.nil, ?_, by decide, by decide⟩
  all_goals intro k h; cases h
theorem hasP_snoc {V : Type} (L : List (By × V)) (k k' : By) (v : V) : hasP (L ++ [(k, v)]) k' = (hasP L k' || k == k') := by
  unfold hasP; rw [List.any_append, List.any_cons, List.any_nil, Bool.or_false]
theorem hasP_perm {V : Type} {L L' : List (By × V)} (h : L.Perm L') (k : By) : hasP L k = hasP L' k := by
  rw [Bool.eq_iff_iff, hasP_iff, hasP_iff]
  exact ⟨fun ⟨e, he, hk⟩ => ⟨e, h.mem_iff.mp he, hk⟩, fun ⟨e, he, hk⟩ => ⟨e, h.mem_iff.mpr he, hk⟩⟩
theorem hasP_ins {V : Type} (L : List (By × V)) (k k' : By) (v : V) : hasP (insP L k v) k' = (hasP L k' || k == k') := by
  rw [hasP_perm (insP_perm L k v), hasP_snoc]
theorem later_iff (c : CtP) (g : Int) : c.later g = true ↔ c.G < g ∧ g ≤ 1099511627776 := by unfold CtP.later; simp
theorem named_iff (c : CtP) (k : By) (g : Int) : c.named k g = true ↔ keyOk k = true ∧ 1 ≤ g ∧ g ≤ c.G := by unfold CtP.named; simp
theorem mem_delP {V : Type} {L : List (By × V)} {k : By} {e : By × V} : e ∈ delP L k ↔ e ∈ L ∧ e.1 ≠ k := by unfold delP; rw [List.mem_filter]; simp
theorem has_key {c : CtP} (h : c.Ok) {k : By} (hk : c.has k = true) : keyOk k = true := by
  unfold CtP.has at hk
  rw [Bool.or_eq_true, hasP_iff, hasP_iff] at hk
  rcases hk with ⟨e, he, rfl⟩ | ⟨e, he, rfl⟩
  · exact (h.okE e he).2.1
  · exact (h.okW e he).1
theorem CtP.put_ok {c : CtP} (h : c.Ok) (n : Nt) : (c.put n).2.Ok := by
  unfold CtP.put
  split
  · exact h
  · rename_i h1
    have hk1 : keyOk n.key = true := by cases hh : keyOk n.key with | true => rfl | false => exact absurd (.inl hh) h1
    split
    · exact h
    · rename_i h2
      have h2 : c.has n.key = false := by simpa using h2
      unfold CtP.has at h2
      rw [Bool.or_eq_false_iff] at h2
      refine ⟨h.dW.snoc h2.2 _, h.rE, fun k hk => ?_, fun e he => ?_, h.okE, h.dB, h.rB, fun e he => ?_, h.dT, h.okT, h.dR, h.okR, h.g0, h.g1⟩
      · rw [hasP_snoc, Bool.or_eq_true] at hk
        rcases hk with hk | hk
        · exact h.ap k hk
        · rw [← eq_of_beq hk]; exact h2.1
      · rcases List.mem_append.mp he with he | he
        · exact h.okW e he
        · rw [List.mem_singleton] at he
          subst he
          exact ⟨hk1, by show n.data.length ≤ 512; omega⟩
      · obtain ⟨a, b, d, f⟩ := h.okB e he
        refine ⟨a, b, d, ?_⟩
        unfold CtP.has at f ⊢
        show (hasP c.E e.1 || hasP (c.W ++ [(n.key, n.data)]) e.1) = true
        rw [hasP_snoc]
        rw [Bool.or_eq_true] at f
        rcases f with f | f
        · rw [f]; simp
        · rw [f]; simp
theorem CtP.placed_ok {c : CtP} (h : c.Ok) (n : Nt) : (c.placed n).2.Ok := by
  unfold CtP.placed
  split
  · exact h
  · rename_i h1
    have hn : c.named n.key n.gen = true := by cases hh : c.named n.key n.gen with | true => rfl | false => exact absurd (.inl hh) h1
    obtain ⟨n1, n2, n3⟩ := (named_iff c n.key n.gen).mp hn
    have hno : hasP (delP c.E n.key) n.key = false := by rw [hasP_del]; simp
    refine ⟨h.dW.del _, (h.rE.del _).ins hno _, fun k hk => ?_, fun e he => h.okW e (mem_delP.mp he).1, fun e he => ?_, h.dB, h.rB, fun e he => ?_, h.dT, h.okT, h.dR, h.okR, h.g0, h.g1⟩
    · show hasP (insP (delP c.E n.key) n.key _) k = false
      have hk : hasP (delP c.W n.key) k = true := hk
      rw [hasP_del, Bool.and_eq_true, bne_iff_ne] at hk
      rw [hasP_ins, hasP_del, h.ap k hk.1, Bool.false_and, Bool.false_or]
      exact beq_eq_false_iff_ne.mpr (Ne.symm hk.2)
    · have he := (insP_perm _ _ _).mem_iff.mp he
      rcases List.mem_append.mp he with he | he
      · exact h.okE e (mem_delP.mp he).1
      · rw [List.mem_singleton] at he
        subst he
        exact ⟨rfl, n1, n2, n3, fun h3 => h1 (.inr (.inl h3)), Classical.byContradiction fun h3 => h1 (.inr (.inr h3))⟩
    · obtain ⟨a, b, d, f⟩ := h.okB e he
      refine ⟨a, b, d, ?_⟩
      unfold CtP.has at f ⊢
      show (hasP (insP (delP c.E n.key) n.key _) e.1 || hasP (delP c.W n.key) e.1) = true
      rw [hasP_ins, hasP_del, hasP_del]
      by_cases e1 : n.key = e.1
      · rw [e1]; simp
      · have : (e.1 != n.key) = true := bne_iff_ne.mpr (Ne.symm e1)
        rw [this, Bool.and_true, Bool.and_true, Bool.or_eq_true]
        rw [Bool.or_eq_true] at f
        rcases f with f | f
        · exact .inl (by rw [f]; rfl)
        · exact .inr f
theorem CtP.gone_ok {c : CtP} (h : c.Ok) (n : Nt) : (c.gone n).2.Ok := by
  unfold CtP.gone
  split
  · exact h
  · rename_i h1
    have h1 : c.has n.key = true := by simpa using h1
    split
    · exact h
    · rename_i h2
      have h2 : c.later n.gen = true := by simpa using h2
      obtain ⟨l1, l2⟩ := (later_iff c n.gen).mp h2
      have hg0 := h.g0
      refine ⟨h.dW.del _, h.rE.del _, fun k hk => ?_, fun e he => h.okW e (mem_delP.mp he).1, fun e he => ?_, h.dB.del _, List.Pairwise.filter _ h.rB, fun e he => ?_, ?_, fun e he => ?_, h.dR, h.okR, ?_, l2⟩
      · have hk : hasP (delP c.W n.key) k = true := hk
        show hasP (delP c.E n.key) k = false
        rw [hasP_del, Bool.and_eq_true] at hk
        rw [hasP_del, h.ap k hk.1, Bool.false_and]
      · obtain ⟨a, b, d, f, g, i⟩ := h.okE e (mem_delP.mp he).1
        exact ⟨a, b, d, by show e.2.gen ≤ n.gen; omega, g, i⟩
      · have he2 := mem_delP.mp he
        obtain ⟨a, b, d, f⟩ := h.okB e he2.1
        refine ⟨a, by show e.2 ≤ n.gen; omega, d, ?_⟩
        unfold CtP.has at f ⊢
        show (hasP (delP c.E n.key) e.1 || hasP (delP c.W n.key) e.1) = true
        rw [hasP_del, hasP_del, bne_iff_ne.mpr he2.2, Bool.and_true, Bool.and_true]
        exact f
      · show (if _ then _ else _ : List (By × Int)).Nodup
        split
        · rw [List.nodup_append]
          refine ⟨h.dT, by simp, fun a ha b hb => ?_⟩
          rw [List.mem_singleton] at hb
          subst hb
          intro e
          subst e
          have := (h.okT _ ha).2.1
          simp only at this
          omega
        · exact h.dT
      · have he : e ∈ (if _ then _ else _ : List (By × Int)) := he
        split at he
        · rcases List.mem_append.mp he with he | he
          · obtain ⟨a, b, d⟩ := h.okT e he
            exact ⟨a, by show e.2 ≤ n.gen; omega, d⟩
          · rw [List.mem_singleton] at he
            subst he
            exact ⟨by show 1 ≤ n.gen; omega, Int.le_refl _, has_key h h1⟩
        · obtain ⟨a, b, d⟩ := h.okT e he
          exact ⟨a, by show e.2 ≤ n.gen; omega, d⟩
      · show 0 ≤ n.gen; omega
theorem CtP.begin_ok {c : CtP} (h : c.Ok) (n : Nt) : (c.begin_ n).2.Ok := by
  unfold CtP.begin_
  split
  · exact h
  · rename_i h2
    have h2 : c.later n.gen = true := by simpa using h2
    obtain ⟨l1, l2⟩ := (later_iff c n.gen).mp h2
    have hg0 := h.g0
    split
    · exact h
    · rename_i h3
      have keepE : ∀ e ∈ c.E, e.2.key = e.1 ∧ keyOk e.1 = true ∧ 1 ≤ e.2.gen ∧ e.2.gen ≤ n.gen ∧ grp e.2.size ≠ 0 ∧ e.2.places.length = 10 * grp e.2.size := fun e he => by
        obtain ⟨a, b, d, f, g, i⟩ := h.okE e he
        exact ⟨a, b, d, by omega, g, i⟩
      have keepT : ∀ e ∈ c.T, 1 ≤ e.2 ∧ e.2 ≤ n.gen ∧ keyOk e.1 = true := fun e he => by
        obtain ⟨a, b, d⟩ := h.okT e he
        exact ⟨a, by omega, d⟩
      have keepB : ∀ e ∈ c.B, 1 ≤ e.2 ∧ e.2 ≤ n.gen ∧ keyOk e.1 = true ∧ c.has e.1 = true := fun e he => by
        obtain ⟨a, b, d, f⟩ := h.okB e he
        exact ⟨a, by omega, d, f⟩
      by_cases hk : n.key = []
      · rw [if_pos hk]
        exact ⟨h.dW, h.rE, h.ap, h.okW, keepE, h.dB, h.rB, keepB, h.dT, keepT, h.dR, h.okR, by show 0 ≤ n.gen; omega, l2⟩
      · rw [if_neg hk]
        have hh : c.has n.key = true := by
          cases hq : c.has n.key with
          | true => rfl
          | false => exact absurd ⟨hk, hq⟩ h3
        refine ⟨h.dW, h.rE, h.ap, h.okW, keepE, (h.dB.del _).snoc (by rw [hasP_del]; simp) _, ?_, fun e he => ?_, h.dT, keepT, h.dR, h.okR, by show 0 ≤ n.gen; omega, l2⟩
        · show (delP c.B n.key ++ [(n.key, n.gen)]).Pairwise _
          rw [List.pairwise_append]
          refine ⟨List.Pairwise.filter _ h.rB, List.pairwise_singleton _ _, fun x hx y hy => ?_⟩
          rw [List.mem_singleton] at hy
          subst hy
          have := (h.okB x (mem_delP.mp hx).1).2.1
          show x.2 < n.gen
          omega
        · rcases List.mem_append.mp he with he | he
          · exact keepB e (mem_delP.mp he).1
          · rw [List.mem_singleton] at he
            subst he
            exact ⟨by show 1 ≤ n.gen; omega, Int.le_refl _, has_key h hh, hh⟩
theorem CtP.retire_ok {c : CtP} (h : c.Ok) (n : Nt) : (c.retire n).2.Ok := by
  unfold CtP.retire
  split
  · exact h
  · rename_i h1
    refine ⟨h.dW, h.rE, h.ap, h.okW, h.okE, h.dB, h.rB, h.okB, h.dT, h.okT, ?_, fun z hz => ?_, h.g0, h.g1⟩
    · show (if _ then _ else _ : List Int).Nodup
      split
      · exact h.dR
      · rename_i h2
        rw [List.nodup_append]
        refine ⟨h.dR, by simp, fun a ha b hb => ?_⟩
        rw [List.mem_singleton] at hb
        subst hb
        intro e
        subst e
        exact h2 (by simpa using ha)
    · have hz : z ∈ (if _ then _ else _ : List Int) := hz
      split at hz
      · exact h.okR z hz
      · rcases List.mem_append.mp hz with hz | hz
        · exact h.okR z hz
        · rw [List.mem_singleton] at hz
          subst hz
          omega
theorem CtP.turnT_ok {c : CtP} (h : c.Ok) (n : Nt) : (c.turnT n).2.Ok := by
  unfold CtP.turnT
  split
  · rename_i h1
    obtain ⟨n1, n2, n3⟩ := (named_iff c n.key n.gen).mp h1.2.2
    refine ⟨h.dW, h.rE, h.ap, h.okW, h.okE, h.dB, h.rB, h.okB, ?_, fun e he => ?_, h.dR, h.okR, h.g0, h.g1⟩
    · show (c.T ++ [(n.key, n.gen)]).Nodup
      rw [List.nodup_append]
      refine ⟨h.dT, by simp, fun a ha b hb => ?_⟩
      rw [List.mem_singleton] at hb
      subst hb
      intro e
      subst e
      exact h1.2.1 ha
    · rcases List.mem_append.mp he with he | he
      · exact h.okT e he
      · rw [List.mem_singleton] at he
        subst he
        exact ⟨n2, n3, n1⟩
  · split
    · exact ⟨h.dW, h.rE, h.ap, h.okW, h.okE, h.dB, h.rB, h.okB, h.dT.erase _, fun e he => h.okT e (List.mem_of_mem_erase he), h.dR, h.okR, h.g0, h.g1⟩
    · exact h
theorem CtP.apply_ok {c : CtP} (h : c.Ok) (n : Nt) : (c.apply n).2.Ok := by
  unfold CtP.apply
  split
  · exact CtP.put_ok h n
  · split
    · exact CtP.placed_ok h n
    · split
      · exact CtP.gone_ok h n
      · split
        · exact CtP.begin_ok h n
        · split
          · exact CtP.retire_ok h n
          · split
            · exact CtP.turnT_ok h n
            · exact h
/-- not more of anything than notes came -/
def CtP.Few (c : CtP) (t : Nat) : Prop := c.W.length ≤ t ∧ c.E.length ≤ t ∧ c.B.length ≤ t ∧ c.T.length ≤ t ∧ c.R.length ≤ t
theorem delP_le {V : Type} (L : List (By × V)) (k : By) : (delP L k).length ≤ L.length := List.length_filter_le _ _
theorem insP_len {V : Type} (L : List (By × V)) (k : By) (v : V) : (insP L k v).length = L.length + 1 := by rw [(insP_perm L k v).length_eq]; simp
theorem CtP.apply_few {c : CtP} {t : Nat} (h : c.Few t) (n : Nt) : (c.apply n).2.Few (t + 1) := by
  obtain ⟨h1, h2, h3, h4, h5⟩ := h
  have h0 : c.Few (t + 1) := ⟨by omega, by omega, by omega, by omega, by omega⟩
  have d1 := delP_le c.W n.key
  have d2 := delP_le c.E n.key
  have d3 := delP_le c.B n.key
  unfold CtP.apply
  split
  · unfold CtP.put
    split
    · exact h0
    · split
      · exact h0
      · exact ⟨by show (c.W ++ [_]).length ≤ _; simp; omega, by show c.E.length ≤ _; omega, by show c.B.length ≤ _; omega, by show c.T.length ≤ _; omega, by show c.R.length ≤ _; omega⟩
  · split
    · unfold CtP.placed
      split
      · exact h0
      · exact ⟨by show (delP c.W n.key).length ≤ _; omega, by show (insP _ _ _).length ≤ _; rw [insP_len]; omega, by show c.B.length ≤ _; omega, by show c.T.length ≤ _; omega, by show c.R.length ≤ _; omega⟩
    · split
      · unfold CtP.gone
        split
        · exact h0
        · split
          · exact h0
          · refine ⟨by show (delP c.W n.key).length ≤ _; omega, by show (delP c.E n.key).length ≤ _; omega, by show (delP c.B n.key).length ≤ _; omega, ?_, by show c.R.length ≤ _; omega⟩
            show (if _ then _ else _ : List (By × Int)).length ≤ _
            split
            · simp; omega
            · omega
      · split
        · unfold CtP.begin_
          split
          · exact h0
          · split
            · exact h0
            · refine ⟨by show c.W.length ≤ _; omega, by show c.E.length ≤ _; omega, ?_, by show c.T.length ≤ _; omega, by show c.R.length ≤ _; omega⟩
              show (if _ then _ else _ : List (By × Int)).length ≤ _
              split
              · omega
              · simp; omega
        · split
          · unfold CtP.retire
            split
            · exact h0
            · refine ⟨by show c.W.length ≤ _; omega, by show c.E.length ≤ _; omega, by show c.B.length ≤ _; omega, by show c.T.length ≤ _; omega, ?_⟩
              show (if _ then _ else _ : List Int).length ≤ _
              split
              · omega
              · simp; omega
          · split
            · unfold CtP.turnT
              split
              · exact ⟨by show c.W.length ≤ _; omega, by show c.E.length ≤ _; omega, by show c.B.length ≤ _; omega, by show (c.T ++ [_]).length ≤ _; simp; omega, by show c.R.length ≤ _; omega⟩
              · split
                · exact ⟨by show c.W.length ≤ _; omega, by show c.E.length ≤ _; omega, by show c.B.length ≤ _; omega, by show (c.T.erase _).length ≤ _; have := List.length_erase_le (l := c.T) (a := (n.key, n.gen)); omega, by show c.R.length ≤ _; omega⟩
                · exact h0
            · exact h0
end Go.Proofs.Ytiliggleplpjbaa
