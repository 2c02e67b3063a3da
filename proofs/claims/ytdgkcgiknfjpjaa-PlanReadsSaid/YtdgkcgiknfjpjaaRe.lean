/- Rows of records in memory. -/
import Derived.Test.YtdgkcgiknfjpjaaRcA
import Derived.Test.YtdgkcgiknfjpjaaBaseB
namespace Go.Proofs.Ytdgkcgiknfjpjaa
set_option linter.unusedVariables false
set_option linter.unusedSimpArgs false
open Go Go.RowKit
/-- a record as it lies in a row -/
structure Re where
  r : Rc
  A : Option Addr
  c : Nat
def Re.cells (x : Re) : List Value := [.int .i64 x.r.kind, .int .i64 x.r.cart, .string (bs x.r.key), .int .i64 x.r.gen, .int .i64 x.r.group, .int .i64 x.r.groups, .int .i64 x.r.index, .int .i64 x.r.size, .string (bs x.r.sum), .slice x.A x.r.data.length x.c]
def flatRe (E : List Re) : List Value := E.flatMap Re.cells
theorem flatRe_len (E : List Re) : (flatRe E).length = E.length * 10 := by
  induction E with
  | nil => rfl
  | cons q l ih => simp [flatRe, Re.cells] at *; omega
theorem flatRe_app (l m : List Re) : flatRe (l ++ m) = flatRe l ++ flatRe m := by simp [flatRe]
theorem flatRe_at {l : List Re} {i : Nat} {x : Re} (h : l[i]? = some x) (j : Nat) (hj : j < 10) : (flatRe l)[i * 10 + j]? = x.cells[j]? := by
  induction l generalizing i with
  | nil => simp at h
  | cons p l ih =>
    have hp : p.cells.length = 10 := rfl
    show (p.cells ++ flatRe l)[_]? = _
    cases i with
    | zero =>
      simp at h; subst h
      rw [List.getElem?_append_left (by omega)]
      congr 1; omega
    | succ i =>
      have h' : l[i]? = some x := by simpa using h
      rw [List.getElem?_append_right (by omega), hp, show (i + 1) * 10 + j - 10 = i * 10 + j from by omega]
      exact ih h'
theorem flatRe_one (l : List Re) : ∀ v ∈ flatRe l, v.oneCell' = true := fun v hv => by
  unfold flatRe at hv
  obtain ⟨x, -, h⟩ := List.mem_flatMap.mp hv
  simp [Re.cells] at h
  rcases h with rfl | rfl | rfl | rfl | rfl | rfl | rfl | rfl | rfl | rfl <;> rfl
def ReV (x : Re) (w : World) : Prop := x.r.data.length ≤ x.c ∧ x.c ≤ maxLen ∧ Rd w w.heap.size x.A x.r.data
theorem ReV.gr {x : Re} {w w' : World} (hr : Gr w w') (h : ReV x w) : ReV x w' := ⟨h.1, h.2.1, h.2.2.up hr⟩
/-- its bytes lie in no row block v -/
def Apr (x : Re) (ob : Option Nat) : Prop := 0 < x.r.data.length → ∀ ad, x.A = some ad → ob ≠ some ad.block
theorem ReV.own {x : Re} {w w' : World} {ob : Option Nat} (h : ReV x w) (ha : Apr x ob) (hg : w.grownBy w' ob) : ReV x w' := by
  obtain ⟨h1, h2, h3⟩ := h
  refine ⟨h1, h2, h3.1, fun hn => ?_⟩
  obtain ⟨ad, ea, hb, hcell⟩ := h3.2 hn
  have hne := ha hn ad ea
  refine ⟨ad, ea, Nat.lt_of_lt_of_le hb hg.size, fun j u hu => ?_⟩
  rw [← hcell j u hu]
  exact World.cell?_of_block (by rw [block_of_add]; exact hg.block _ hb (fun e => hne e.symm))
theorem ReV.fresh {x : Re} {w : World} (h : ReV x w) {k : Nat} (hk : w.heap.size ≤ k) : Apr x (some k) := fun hn ad ea => by
  obtain ⟨ad', ea', hb, -⟩ := h.2.2.2 hn
  rw [ea] at ea'
  injection ea' with ea'
  subst ea'
  intro e
  injection e with e
  omega
/-- a row of records of the call's own -/
structure OR (E : List Re) (v : Value) (base : Nat) (w : World) : Prop where
  row : w.ownsRow base 41 10 v E.length (flatRe E)
  vs : ∀ x ∈ E, ReV x w
  ap : ∀ x ∈ E, Apr x v.ownBlock
theorem OR.nil_ (w : World) (base : Nat) : OR [] (.slice none 0 0) base w := ⟨World.ownsRow_nil w base _ 10, fun x h => (by cases h), fun x h => (by cases h)⟩
theorem OR.gr {E : List Re} {v : Value} {base : Nat} {w w' : World} (hr : Gr w w') (h : Hid (OR E v base w)) : Hid (OR E v base w') :=
  Lib.hid ⟨row_below h.out.row hr, fun x hx => (h.out.vs x hx).gr hr, h.out.ap⟩
theorem OR.form {E : List Re} {v : Value} {base : Nat} {w : World} (h : OR E v base w) : ∃ A c, v = .slice A E.length c ∧ E.length ≤ c ∧ c ≤ maxLen := row_form h.row
theorem info_rec10 : (Try.prog.info? 41).map (fun i => (i.zero, i.size, i.bytes)) = some (some (.agg #[.int .i64 0, .int .i64 0, .string ⟨#[]⟩, .int .i64 0, .int .i64 0, .int .i64 0, .int .i64 0, .int .i64 0, .string ⟨#[]⟩, .slice none 0 0]), 10, 112) := by kernel_rfl
theorem addr0R (b j : Nat) : (⟨b, 0, none⟩ : Addr).add j = ⟨b, j, none⟩ := by unfold Addr.add; split <;> simp_all
theorem cell_newR (w : World) (cs : Array Value) (t : TypeId) {j : Nat} {v : Value} (hj : cs[j]? = some v) : (w.alloc (.cells cs t)).cell? ⟨w.heap.size, j, none⟩ = some v := by
  unfold World.cell?
  rw [heap_alloc_new]
  exact hj
theorem Reads.recLit (w : World) (q : Re) : Reads (w.alloc (.cells q.cells.toArray 41)) (w.alloc (.cells q.cells.toArray 41)).heap.size 10 (some ⟨w.heap.size, 0, none⟩) 1 q.cells :=
  ⟨rfl, fun _ => ⟨_, rfl, by simp, fun j u hu => by
    rw [addr0R]
    exact cell_newR w _ _ (by simpa using hu)⟩⟩
theorem Apr.none_ (q : Re) : Apr q none := fun _ _ _ => by simp
/-- what a row becomes by one record more -/
theorem OR.snoc {E : List Re} {v v' : Value} {base : Nat} {w w' : World} (h : OR E v base w) (q : Re) (hq : ReV q w) (hap : Apr q v.ownBlock) (h2 : w'.ownsRow base 41 10 v' (E.length + 1) (flatRe E ++ q.cells)) (h3 : w.grownBy w' v.ownBlock) (h4 : v'.ownBlock = v.ownBlock ∨ v'.ownBlock = some w.heap.size) : OR (E ++ [q]) v' base w' := by
  refine ⟨?_, ?_, ?_⟩
  · rw [List.length_append, flatRe_app]
    simpa [flatRe] using h2
  · intro y hy
    rcases List.mem_append.mp hy with hy | hy
    · exact (h.vs y hy).own (h.ap y hy) h3
    · simp only [List.mem_singleton] at hy
      subst hy
      exact hq.own hap h3
  · intro y hy
    have hyv : ReV y w ∧ Apr y v.ownBlock := by
      rcases List.mem_append.mp hy with hy | hy
      · exact ⟨h.vs y hy, h.ap y hy⟩
      · simp only [List.mem_singleton] at hy
        subst hy
        exact ⟨hq, hap⟩
    rcases h4 with h4 | h4
    · rw [h4]; exact hyv.2
    · rw [h4]; exact hyv.1.fresh (Nat.le_refl _)
end Go.Proofs.Ytdgkcgiknfjpjaa
