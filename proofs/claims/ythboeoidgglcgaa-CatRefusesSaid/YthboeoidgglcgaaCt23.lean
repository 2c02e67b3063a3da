/- cat: appending notes whose bytes and places are the call's own. -/
import Derived.Test.YthboeoidgglcgaaCt22
namespace Go.Proofs.Ythboeoidgglcgaa
set_option linter.unusedVariables false
set_option linter.unusedSimpArgs false
open Go Go.RowKit Go.Maps Go.Sort Go.Shelf Go.Proofs
theorem row_on {w w' : World} {m T s n b : Nat} {u v : Value} {xs : List Value} {E : List Ne} (hr : w.ownsRow m T s u n xs) (hT : T ≠ 32) (ho : ON E v b w) (hg : w.grownBy w' v.ownBlock) : w'.ownsRow m T s u n xs :=
  World.ownsRow.kept hr hg (by
    cases hu : u.ownBlock with
    | none => exact .inl rfl
    | some k => exact .inr (fun e => row_ne2 hr ho.row hT.symm k e.symm hu))
theorem OE.own {w w' : World} {base b : Nat} {v v2 : Value} {E : List Et} {E2 : List Ne} (h : OE E v base w) (ho : ON E2 v2 b w) (hg : w.grownBy w' v2.ownBlock) : OE E v base w' :=
  ⟨row_on h.1 (by decide) ho hg, fun x hx => ⟨row_on (h.2 x hx).1 (by decide) ho hg, (h.2 x hx).2⟩⟩
/-- a row of notes of the call's own, their bytes and places its own too -/
def OND (E : List Ne) (v : Value) (base : Nat) (w : World) : Prop := ON E v base w ∧ ND E base w
theorem OND.nil_ (w : World) (base : Nat) : OND [] (.slice none 0 0) base w := ⟨ON.nil_ w base, fun x hx => by cases hx⟩
theorem OND.gr {E : List Ne} {v : Value} {base : Nat} {w w' : World} (h : OND E v base w) (hg : Gr w w') : OND E v base w' := ⟨(ON.gr hg (Lib.hid h.1)).out, h.2.gr hg⟩
theorem OND.form {E : List Ne} {v : Value} {base : Nat} {w : World} (h : OND E v base w) : ∃ A c, v = .slice A E.length c ∧ E.length ≤ c ∧ c ≤ maxLen := h.1.form
theorem ND.lower {E : List Ne} {b b' : Nat} {w : World} (h : ND E b w) (hb : b' ≤ b) : ND E b' w := fun x hx => ⟨row_more (h x hx).1 hb, row_more (h x hx).2.1 hb, (h x hx).2.2⟩
theorem ON.lower {E : List Ne} {v : Value} {b b' : Nat} {w : World} (h : ON E v b w) (hb : b' ≤ b) : ON E v b' w := ⟨row_more h.row hb, h.vs, h.ap⟩
theorem ND.apt {E E2 : List Ne} {b b2 : Nat} {v : Value} {w : World} (h : ND E2 b2 w) (ho : ON E v b w) : ∀ q ∈ E2, Apt q v.ownBlock := fun q hq => by
  obtain ⟨h1, h2, -⟩ := h q hq
  refine ⟨fun hn ad ea e => ?_, fun hn ad ea e => ?_⟩
  · obtain ⟨g, c, e1, -⟩ := row_at h1 hn
    injection e1 with e1 _ _
    rw [ea] at e1
    injection e1 with e1
    subst e1
    refine row_ne2 h1 ho.row (by decide) g e ?_
    rw [ea]; rfl
  · obtain ⟨g, c, e1, -⟩ := row_at h2 hn
    injection e1 with e1 _ _
    rw [ea] at e1
    injection e1 with e1
    subst e1
    refine row_ne2 h2 ho.row (by decide) g e ?_
    rw [ea]; rfl
theorem wp_aNN {w : World} {o : Oper} {a : Act} {Q : Exit → Act → World → Prop} {K : Act → World → Prop} (s x : Operand)
    (ho : o.op = .call { callee := .builtin .append, args := #[s, x], argTypes := #[22, 22] })
    (base : Nat) (v : Value) (E E2 : List Ne) (hs : a.eval s = v) (hown : OND E v base w) (B : Nat) (A : Option Addr) (n c : Nat) (hn : E2.length = n) (hx : a.eval x = .slice A n c) (hr : Reads w B 8 A n (flatN E2))
    (hq : ND E2 base w) (hlen : E.length + n ≤ 1000000000) (hbase : base ≤ w.heap.size)
    (h : ∀ v' w', OND (E ++ E2) v' base w' → w.grownBy w' v.ownBlock → Below base w w' → K (a.put o.dst v') w') : Oper.wp Try.prog o a w K Q := by
  obtain ⟨i0, hi, hz0, hz1, hz2⟩ := info_parts info_note
  have hap := hq.apt hown.1
  have hnv := hq.ntv
  refine wp_append_any w s x 22 ho base 32 i0 _ 8 112 Try.underlying22 hi hz0 hz1 hz2 rfl (by omega) v E.length (flatN E) hs hown.1.row B A n c (flatN E2) hx hr (flatN_one E2)
    (by simp only [maxLen]; omega) (by omega) hbase fun v' w' h2 h3 h4 => h v' w' ⟨⟨?_, ?_, ?_⟩, ?_⟩ h3 ((Below.refl base w).grown h3 hbase (fun k hk => (World.ownsRow.lt hown.1.row k hk).1))
  · rw [List.length_append, flatN_app, hn]
    exact h2
  · intro y hy
    rcases List.mem_append.mp hy with hy | hy
    · exact (hown.1.vs y hy).own (hown.1.ap y hy) h3
    · exact (hnv y hy).own (hap y hy) h3
  · intro y hy
    have hyv : NeV y w ∧ Apt y v.ownBlock := by
      rcases List.mem_append.mp hy with hy | hy
      · exact ⟨hown.1.vs y hy, hown.1.ap y hy⟩
      · exact ⟨hnv y hy, hap y hy⟩
    rcases h4 with h4 | h4
    · rw [h4]; exact hyv.2
    · rw [h4]; exact hyv.1.fresh (Nat.le_refl _)
  · intro y hy
    rcases List.mem_append.mp hy with hy | hy
    · exact (hown.2.own hown.1 h3) y hy
    · exact (hq.own hown.1 h3) y hy
theorem wpl_aNN {w : World} {ops : Array Oper} {rest : List Oper} {o : Oper} {a : Act} {Q : Exit → Act → World → Prop} (hgd : o.guard = none) (s x : Operand)
    (ho : o.op = .call { callee := .builtin .append, args := #[s, x], argTypes := #[22, 22] })
    (base : Nat) (v : Value) (E E2 : List Ne) (hs : a.eval s = v) (hown : OND E v base w) (B : Nat) (A : Option Addr) (n c : Nat) (hn : E2.length = n) (hx : a.eval x = .slice A n c) (hr : Reads w B 8 A n (flatN E2))
    (hq : ND E2 base w) (hlen : E.length + n ≤ 1000000000) (hbase : base ≤ w.heap.size)
    (h : ∀ v' w', OND (E ++ E2) v' base w' → w.grownBy w' v.ownBlock → Below base w w' → wpList Try.prog ops Q rest (a.put o.dst v') w') : wpList Try.prog ops Q (o :: rest) a w :=
  wpList_plain hgd fun _ hK => wp_aNN s x ho base v E E2 hs hown B A n c hn hx hr hq hlen hbase fun v' w' h1 h2 h3 => hK _ _ (h v' w' h1 h2 h3)
theorem Reads.note1 (w : World) (q : Ne) (cs : Array Value) (hcs : cs = q.cells.toArray) : Reads (w.alloc (.cells cs 32)) (w.alloc (.cells cs 32)).heap.size 8 (some ⟨w.heap.size, 0, none⟩) 1 (flatN [q]) := by
  subst hcs
  have := Reads.noteLit w q
  have e : flatN [q] = q.cells := by unfold flatN; rw [List.flatMap_cons, List.flatMap_nil, List.append_nil]
  rw [e]
  exact this
theorem O4.ond {L : List (By × Int)} {v : Value} {base : Nat} {w : World} (h : O4 L v base w) : OND (L.map e4) v base w := ⟨h.on, fun x hx => by
  obtain ⟨e, -, rfl⟩ := List.mem_map.mp hx
  exact ⟨OB.nil_ _ _, OP.nil_ _ _⟩⟩
def n1 (e : By × By) : Nt := ⟨1, e.1, 0, 0, e.2, [], 0, []⟩
def n2 (e : EnP) : Nt := ⟨2, e.key, e.gen, 0, [], e.sum, e.size, e.places⟩
def n5 (z : Int) : Nt := ⟨5, [], 0, z, [], [], 0, []⟩
/-- a catalog's notes -/
def notesP (c : CtP) : List Nt := c.W.map n1 ++ (genP c).map n4 ++ (c.E.map Prod.snd).map n2 ++ tombsN c.T ++ (sortZ c.R).map n5
end Go.Proofs.Ythboeoidgglcgaa
