/- Rows of notes in memory; Scan. -/
import Derived.Test.YthboeoidgglcgaaGreatNt1
namespace Go.Proofs.YthboeoidgglcgaaGreat
set_option linter.unusedVariables false
set_option linter.unusedSimpArgs false
open Go Go.RowKit
/-- a note as it lies in a row -/
structure Ne where
  n : Nt
  A : Option Addr
  c : Nat
  A2 : Option Addr
  c2 : Nat
def Ne.cells (x : Ne) : List Value := [.int .i64 x.n.kind, .string (bs x.n.key), .int .i64 x.n.gen, .int .i64 x.n.cart, .slice x.A x.n.data.length x.c, .string (bs x.n.sum), .int .i64 x.n.size, .slice x.A2 x.n.places.length x.c2]
def Ne.agg (x : Ne) : Value := x.n.agg x.A x.c x.A2 x.c2
def flatN (E : List Ne) : List Value := E.flatMap Ne.cells
theorem flatN_len (E : List Ne) : (flatN E).length = E.length * 8 := by
  induction E with
  | nil => rfl
  | cons q l ih => simp [flatN, Ne.cells] at *; omega
theorem flatN_app (l m : List Ne) : flatN (l ++ m) = flatN l ++ flatN m := by simp [flatN]
theorem flatN_at {l : List Ne} {i : Nat} {x : Ne} (h : l[i]? = some x) (j : Nat) (hj : j < 8) : (flatN l)[i * 8 + j]? = x.cells[j]? := by
  induction l generalizing i with
  | nil => simp at h
  | cons p l ih =>
    have hp : p.cells.length = 8 := rfl
    show (p.cells ++ flatN l)[_]? = _
    cases i with
    | zero =>
      simp at h; subst h
      rw [List.getElem?_append_left (by omega)]
      congr 1; omega
    | succ i =>
      have h' : l[i]? = some x := by simpa using h
      rw [List.getElem?_append_right (by omega), hp, show (i + 1) * 8 + j - 8 = i * 8 + j from by omega]
      exact ih h'
theorem flatN_one (l : List Ne) : ∀ v ∈ flatN l, v.oneCell' = true := fun v hv => by
  unfold flatN at hv
  obtain ⟨x, -, h⟩ := List.mem_flatMap.mp hv
  simp [Ne.cells] at h
  rcases h with rfl | rfl | rfl | rfl | rfl | rfl | rfl | rfl <;> rfl
def NeV (x : Ne) (w : World) : Prop := Byt x.n.data (.slice x.A x.n.data.length x.c) w ∧ Pls x.n.places (.slice x.A2 x.n.places.length x.c2) w
theorem NeV.gr {x : Ne} {w w' : World} (hr : Gr w w') (h : NeV x w) : NeV x w' := ⟨(Byt.gr hr (Lib.hid h.1)).out, (Pls.gr hr (Lib.hid h.2)).out⟩
theorem NeV.ntv {x : Ne} {w : World} (h : NeV x w) : NtV x.n x.agg w := ⟨_, _, _, _, rfl, h.1, h.2⟩
/-- its bytes and places lie in no row block v -/
def Apt (x : Ne) (ob : Option Nat) : Prop := (0 < x.n.data.length → ∀ ad, x.A = some ad → ob ≠ some ad.block) ∧ (0 < x.n.places.length → ∀ ad, x.A2 = some ad → ob ≠ some ad.block)
theorem NeV.own {x : Ne} {w w' : World} {ob : Option Nat} (h : NeV x w) (ha : Apt x ob) (hg : w.grownBy w' ob) : NeV x w' := by
  obtain ⟨⟨A', c', e1, h1, h2, h3⟩, ⟨B', d', e2, g1, g2, g3, g4⟩⟩ := h
  injection e1 with e1 _ e3
  subst e1
  subst e3
  injection e2 with e2 _ e4
  subst e2
  subst e4
  refine ⟨⟨_, _, rfl, h1, h2, h3.1, fun hn => ?_⟩, ⟨_, _, rfl, g1, g2, fun hn => ?_, g4⟩⟩
  · obtain ⟨ad, ea, hb, hcell⟩ := h3.2 hn
    have hne := ha.1 hn ad ea
    refine ⟨ad, ea, Nat.lt_of_lt_of_le hb hg.size, fun j u hu => ?_⟩
    rw [← hcell j u hu]
    exact World.cell?_of_block (by rw [block_of_add]; exact hg.block _ hb (fun e => hne e.symm))
  · obtain ⟨b, o, ea, hb, hcell⟩ := g3 hn
    have hne := ha.2 hn _ ea
    refine ⟨b, o, ea, Nat.lt_of_lt_of_le hb hg.size, fun i x hx => ?_⟩
    obtain ⟨q0, q1⟩ := hcell i x hx
    have hbk := hg.block b hb (fun e => hne e.symm)
    exact ⟨(World.cell?_of_block (a := ⟨b, o + i * 2, none⟩) hbk).trans q0, (World.cell?_of_block (a := ⟨b, o + i * 2 + 1, none⟩) hbk).trans q1⟩
theorem NeV.fresh {x : Ne} {w : World} (h : NeV x w) {k : Nat} (hk : w.heap.size ≤ k) : Apt x (some k) := by
  obtain ⟨⟨A', c', e1, h1, h2, h3⟩, ⟨B', d', e2, g1, g2, g3, g4⟩⟩ := h
  injection e1 with e1 _ e3
  subst e1
  injection e2 with e2 _ e4
  subst e2
  refine ⟨fun hn ad ea => ?_, fun hn ad ea => ?_⟩
  · obtain ⟨ad', ea', hb, -⟩ := h3.2 hn
    rw [ea] at ea'
    injection ea' with ea'
    subst ea'
    intro e
    injection e with e
    omega
  · obtain ⟨b, o, ea', hb, -⟩ := g3 hn
    rw [ea] at ea'
    injection ea' with ea'
    subst ea'
    intro e
    injection e with e
    simp only at e
    omega
/-- a row of notes of the call's own -/
structure ON (E : List Ne) (v : Value) (base : Nat) (w : World) : Prop where
  row : w.ownsRow base 37 8 v E.length (flatN E)
  vs : ∀ x ∈ E, NeV x w
  ap : ∀ x ∈ E, Apt x v.ownBlock
theorem ON.nil_ (w : World) (base : Nat) : ON [] (.slice none 0 0) base w := ⟨World.ownsRow_nil w base _ 8, fun x h => (by cases h), fun x h => (by cases h)⟩
theorem ON.gr {E : List Ne} {v : Value} {base : Nat} {w w' : World} (hr : Gr w w') (h : Hid (ON E v base w)) : Hid (ON E v base w') :=
  Lib.hid ⟨row_below h.out.row hr, fun x hx => (h.out.vs x hx).gr hr, h.out.ap⟩
theorem ON.form {E : List Ne} {v : Value} {base : Nat} {w : World} (h : ON E v base w) : ∃ A c, v = .slice A E.length c ∧ E.length ≤ c ∧ c ≤ maxLen := row_form h.row
/-- a slice of notes that reads as L -/
def NsV (L : List Nt) (v : Value) (w : World) : Prop := ∃ (E : List Ne) (A : Option Addr) (c : Nat), E.map (·.n) = L ∧ v = .slice A E.length c ∧ E.length ≤ c ∧ c ≤ maxLen ∧
  (0 < E.length → ∃ b o, A = some ⟨b, o, none⟩ ∧ b < w.heap.size ∧ ∀ i x, E[i]? = some x → ∀ j u, x.cells[j]? = some u → w.cell? ⟨b, o + i * 8 + j, none⟩ = some u) ∧ ∀ x ∈ E, NeV x w
theorem NsV.gr {L : List Nt} {v : Value} {w w' : World} (hr : Gr w w') (h : Hid (NsV L v w)) : Hid (NsV L v w') := Lib.hid (by
  obtain ⟨E, A, c, e1, e2, h1, h2, h3, h4⟩ := h.out
  refine ⟨E, A, c, e1, e2, h1, h2, fun hp => ?_, fun x hx => (h4 x hx).gr hr⟩
  obtain ⟨b, o, e, hb, hc⟩ := h3 hp
  exact ⟨b, o, e, Nat.lt_of_lt_of_le hb (Below.size hr), fun i x hx j u hu => (cellGr hr (a := ⟨b, o + i * 8 + j, none⟩) hb).trans (hc i x hx j u hu)⟩)
theorem ON.ns {E : List Ne} {v : Value} {base : Nat} {w : World} (h : ON E v base w) : NsV (E.map (·.n)) v w := by
  obtain ⟨A, c, rfl, h1, h2⟩ := h.form
  refine ⟨E, A, c, rfl, rfl, h1, h2, fun hp => ?_, h.vs⟩
  have hr := Reads.of_own h.row
  obtain ⟨g, cap, hv, _, hlt⟩ := World.ownsRow.form h.row hp
  have hA : A = some ⟨g, 0, none⟩ := by injection hv
  subst hA
  obtain ⟨ad, e, hb, hc⟩ := hr.2 hp
  injection e with e
  subst e
  refine ⟨g, 0, rfl, hb, fun i x hx j u hu => ?_⟩
  have hj : j < 8 := (List.getElem?_eq_some_iff.mp hu).1
  have a := hc _ u ((flatN_at hx j hj).trans hu)
  rw [addr0] at a
  rw [show 0 + i * 8 + j = i * 8 + j from by omega]
  exact a
theorem info_note : (Tryz.prog.info? 37).map (fun i => (i.zero, i.size, i.bytes)) = some (some (.agg #[.int .i64 0, .string ⟨#[]⟩, .int .i64 0, .int .i64 0, .slice none 0 0, .string ⟨#[]⟩, .int .i64 0, .slice none 0 0]), 8, 112) := by kernel_rfl
theorem wpl_appN {w : World} {ops : Array Oper} {rest : List Oper} {o : Oper} {a : Act} {Q : Exit → Act → World → Prop} (hgd : o.guard = none) (s x : Operand)
    (ho : o.op = .call { callee := .builtin .append, args := #[s, x], argTypes := #[22, 22] })
    (base : Nat) (v : Value) (E : List Ne) (q : Ne) (hs : a.eval s = v) (hown : ON E v base w) (A : Option Addr) (c : Nat) (hx : a.eval x = .slice A 1 c) (hr : Reads w w.heap.size 8 A 1 q.cells)
    (hq : NeV q w) (hap : Apt q v.ownBlock) (hlen : E.length ≤ 1000000000000) (hbase : base ≤ w.heap.size)
    (h : ∀ v' w', ON (E ++ [q]) v' base w' → w.grownBy w' v.ownBlock → Below base w w' → wpList Tryz.prog ops Q rest (a.put o.dst v') w') : wpList Tryz.prog ops Q (o :: rest) a w := by
  obtain ⟨i0, hi, hz0, hz1, hz2⟩ := info_parts info_note
  refine wpList_plain hgd fun _ hK => wp_append_any w s x 22 ho base 37 i0 _ 8 112 Tryz.underlying22 hi hz0 hz1 hz2 rfl (by omega) v E.length (flatN E) hs hown.row w.heap.size A 1 c q.cells hx hr (by have := flatN_one [q]; simpa [flatN] using this)
    (by simp only [maxLen]; omega) (by omega) hbase fun v' w' h2 h3 h4 => hK _ _ (h v' w' ⟨?_, ?_, ?_⟩ h3 ((Below.refl base w).grown h3 hbase (fun k hk => (World.ownsRow.lt hown.row k hk).1)))
  · rw [List.length_append, flatN_app]
    simpa [flatN] using h2
  · intro y hy
    rcases List.mem_append.mp hy with hy | hy
    · exact (hown.vs y hy).own (hown.ap y hy) h3
    · simp only [List.mem_singleton] at hy
      subst hy
      exact hq.own hap h3
  · intro y hy
    have hyv : NeV y w ∧ Apt y v.ownBlock := by
      rcases List.mem_append.mp hy with hy | hy
      · exact ⟨hown.vs y hy, hown.ap y hy⟩
      · simp only [List.mem_singleton] at hy
        subst hy
        exact ⟨hq, hap⟩
    rcases h4 with h4 | h4
    · rw [h4]; exact hyv.2
    · rw [h4]; exact hyv.1.fresh (Nat.le_refl _)
theorem Reads.noteLit (w : World) (q : Ne) : Reads (w.alloc (.cells q.cells.toArray 37)) (w.alloc (.cells q.cells.toArray 37)).heap.size 8 (some ⟨w.heap.size, 0, none⟩) 1 q.cells :=
  ⟨rfl, fun _ => ⟨_, rfl, by simp, fun j u hu => by
    rw [addr0]
    exact cell_new w _ _ (by simpa using hu)⟩⟩
theorem Apt.none_ (q : Ne) : Apt q none := ⟨fun _ _ _ => by simp, fun _ _ _ => by simp⟩
end Go.Proofs.YthboeoidgglcgaaGreat
