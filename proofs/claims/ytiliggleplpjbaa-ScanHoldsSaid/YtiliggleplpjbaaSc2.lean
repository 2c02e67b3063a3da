/- scan: what was found, in memory; counts; a slice of what was found. -/
import Derived.Test.YtiliggleplpjbaaSc1
import Derived.Test.YtiliggleplpjbaaSl3
import Derived.Test.YtiliggleplpjbaaNt1
namespace Go.Proofs.Ytiliggleplpjbaa
set_option linter.unusedVariables false
set_option linter.unusedSimpArgs false
open Go Go.RowKit Go.Maps
/-- a find as it lies in a row -/
structure Fe where
  f : Fd
  A : Option Addr
  c : Nat
def Fe.cells (x : Fe) : List Value := [.int .i64 x.f.cart, .int .i64 x.f.pos, .int .i64 x.f.r.kind, .int .i64 x.f.r.cart, .string (bs x.f.r.key), .int .i64 x.f.r.gen, .int .i64 x.f.r.group, .int .i64 x.f.r.groups, .int .i64 x.f.r.index, .int .i64 x.f.r.size, .string (bs x.f.r.sum), .slice x.A x.f.r.data.length x.c]
def Fe.agg (x : Fe) : Value := .agg #[.int .i64 x.f.cart, .int .i64 x.f.pos, .int .i64 x.f.r.kind, .int .i64 x.f.r.cart, .string (bs x.f.r.key), .int .i64 x.f.r.gen, .int .i64 x.f.r.group, .int .i64 x.f.r.groups, .int .i64 x.f.r.index, .int .i64 x.f.r.size, .string (bs x.f.r.sum), .slice x.A x.f.r.data.length x.c]
def flatF (E : List Fe) : List Value := E.flatMap Fe.cells
theorem flatF_len (E : List Fe) : (flatF E).length = E.length * 12 := by
  induction E with
  | nil => rfl
  | cons q l ih => simp [flatF, Fe.cells] at *; omega
theorem flatF_app (l m : List Fe) : flatF (l ++ m) = flatF l ++ flatF m := by simp [flatF]
theorem flatF_at {l : List Fe} {i : Nat} {x : Fe} (h : l[i]? = some x) (j : Nat) (hj : j < 12) : (flatF l)[i * 12 + j]? = x.cells[j]? := by
  induction l generalizing i with
  | nil => simp at h
  | cons p l ih =>
    have hp : p.cells.length = 12 := rfl
    show (p.cells ++ flatF l)[_]? = _
    cases i with
    | zero =>
      simp at h; subst h
      rw [List.getElem?_append_left (by omega)]
      congr 1; omega
    | succ i =>
      have h' : l[i]? = some x := by simpa using h
      rw [List.getElem?_append_right (by omega), hp, show (i + 1) * 12 + j - 12 = i * 12 + j from by omega]
      exact ih h'
theorem flatF_one (l : List Fe) : ∀ v ∈ flatF l, v.oneCell' = true := fun v hv => by
  unfold flatF at hv
  obtain ⟨x, -, h⟩ := List.mem_flatMap.mp hv
  simp [Fe.cells] at h
  rcases h with rfl | rfl | rfl | rfl | rfl | rfl | rfl | rfl | rfl | rfl | rfl | rfl <;> rfl
def FeV (x : Fe) (w : World) : Prop := Byt x.f.r.data (.slice x.A x.f.r.data.length x.c) w
theorem FeV.gr {x : Fe} {w w' : World} (hr : Gr w w') (h : FeV x w) : FeV x w' := (Byt.gr hr (Lib.hid h)).out
theorem FeV.rd {x : Fe} {w : World} (h : FeV x w) : Rd w w.heap.size x.A x.f.r.data := by
  obtain ⟨A', c', e, -, -, h3⟩ := h
  injection e with e1 _ _
  subst e1
  exact h3
/-- what the program may do with it -/
structure FOk (f : Fd) : Prop where
  cart : R64 f.cart
  pos : R64 f.pos
  r : f.r.Ok
/-- a slice of finds that reads as E -/
def FsV (E : List Fe) (v : Value) (w : World) : Prop := ∃ (A : Option Addr) (c : Nat), v = .slice A E.length c ∧ E.length ≤ c ∧ c ≤ maxLen ∧
  (0 < E.length → ∃ b o, A = some ⟨b, o, none⟩ ∧ b < w.heap.size ∧ ∀ i x, E[i]? = some x → ∀ j u, x.cells[j]? = some u → w.cell? ⟨b, o + i * 12 + j, none⟩ = some u) ∧ ∀ x ∈ E, FeV x w
theorem FsV.gr {E : List Fe} {v : Value} {w w' : World} (hr : Gr w w') (h : Hid (FsV E v w)) : Hid (FsV E v w') := Lib.hid (by
  obtain ⟨A, c, e2, h1, h2, h3, h4⟩ := h.out
  refine ⟨A, c, e2, h1, h2, fun hp => ?_, fun x hx => (h4 x hx).gr hr⟩
  obtain ⟨b, o, e, hb, hc⟩ := h3 hp
  exact ⟨b, o, e, Nat.lt_of_lt_of_le hb (Below.size hr), fun i x hx j u hu => (cellGr hr (a := ⟨b, o + i * 12 + j, none⟩) hb).trans (hc i x hx j u hu)⟩)
/-- its find at i, in any later world -/
theorem FsV.get {E : List Fe} {A : Option Addr} {m c : Nat} {w : World} (h : FsV E (.slice A m c) w) {i : Nat} {x : Fe} (hx : E[i]? = some x) : ∃ b o, A = some ⟨b, o, none⟩ ∧ b < w.heap.size ∧ FeV x w ∧ ∀ q, Gr w q →
    q.cell? ⟨b, o + i * 12, none⟩ = some (.int .i64 x.f.cart) ∧ q.cell? ⟨b, o + i * 12 + 1, none⟩ = some (.int .i64 x.f.pos) ∧ q.cell? ⟨b, o + i * 12 + 2, none⟩ = some (.int .i64 x.f.r.kind) ∧ q.cell? ⟨b, o + i * 12 + 3, none⟩ = some (.int .i64 x.f.r.cart) ∧ q.cell? ⟨b, o + i * 12 + 4, none⟩ = some (.string (bs x.f.r.key)) ∧ q.cell? ⟨b, o + i * 12 + 5, none⟩ = some (.int .i64 x.f.r.gen) ∧ q.cell? ⟨b, o + i * 12 + 6, none⟩ = some (.int .i64 x.f.r.group) ∧ q.cell? ⟨b, o + i * 12 + 7, none⟩ = some (.int .i64 x.f.r.groups) ∧ q.cell? ⟨b, o + i * 12 + 8, none⟩ = some (.int .i64 x.f.r.index) ∧ q.cell? ⟨b, o + i * 12 + 9, none⟩ = some (.int .i64 x.f.r.size) ∧ q.cell? ⟨b, o + i * 12 + 10, none⟩ = some (.string (bs x.f.r.sum)) ∧ q.cell? ⟨b, o + i * 12 + 11, none⟩ = some (.slice x.A x.f.r.data.length x.c) := by
  obtain ⟨A', c', e, h1, h2, h3, h4⟩ := h
  injection e with e1 _ _
  subst e1
  have hi := (List.getElem?_eq_some_iff.mp hx).1
  obtain ⟨b, o, e, hb, hc⟩ := h3 (by omega)
  refine ⟨b, o, e, hb, h4 x (List.mem_of_getElem? hx), fun q hq => ⟨?_, ?_, ?_, ?_, ?_, ?_, ?_, ?_, ?_, ?_, ?_, ?_⟩⟩
  · exact (cellGr hq (a := ⟨b, o + i * 12, none⟩) hb).trans (hc i x hx 0 _ rfl)
  all_goals first
    | exact (cellGr hq (a := ⟨b, o + i * 12 + 1, none⟩) hb).trans (hc i x hx 1 _ rfl)
    | exact (cellGr hq (a := ⟨b, o + i * 12 + 2, none⟩) hb).trans (hc i x hx 2 _ rfl)
    | exact (cellGr hq (a := ⟨b, o + i * 12 + 3, none⟩) hb).trans (hc i x hx 3 _ rfl)
    | exact (cellGr hq (a := ⟨b, o + i * 12 + 4, none⟩) hb).trans (hc i x hx 4 _ rfl)
    | exact (cellGr hq (a := ⟨b, o + i * 12 + 5, none⟩) hb).trans (hc i x hx 5 _ rfl)
    | exact (cellGr hq (a := ⟨b, o + i * 12 + 6, none⟩) hb).trans (hc i x hx 6 _ rfl)
    | exact (cellGr hq (a := ⟨b, o + i * 12 + 7, none⟩) hb).trans (hc i x hx 7 _ rfl)
    | exact (cellGr hq (a := ⟨b, o + i * 12 + 8, none⟩) hb).trans (hc i x hx 8 _ rfl)
    | exact (cellGr hq (a := ⟨b, o + i * 12 + 9, none⟩) hb).trans (hc i x hx 9 _ rfl)
    | exact (cellGr hq (a := ⟨b, o + i * 12 + 10, none⟩) hb).trans (hc i x hx 10 _ rfl)
    | exact (cellGr hq (a := ⟨b, o + i * 12 + 11, none⟩) hb).trans (hc i x hx 11 _ rfl)
theorem FsV.len {E : List Fe} {A : Option Addr} {m c : Nat} {w : World} (h : FsV E (.slice A m c) w) : E.length = m ∧ m ≤ c ∧ c ≤ maxLen := by
  obtain ⟨A', c', e, h1, h2, -⟩ := h
  injection e with _ e2 e3
  subst e2 e3
  exact ⟨rfl, h1, h2⟩
set_option maxRecDepth 10000 in
set_option maxHeartbeats 4000000 in
theorem counts_any (x : Fe) (hok : x.f.r.Ok) (w : World) (h : FeV x w) : Calls Try.prog 55 #[x.agg] w fun e w' => e = .returned (.bool (cnt x.f)) ∧ Gr w w' := by
  have hg1 : Gr w (w.alloc (.cells x.cells.toArray 39)) := Gr.alloc _ _
  have hb1 : (w.alloc (.cells x.cells.toArray 39)).heap[w.heap.size]? = some (.cells x.cells.toArray 39 (0, 0)) := heap_alloc_new w _
  have hgood := good_any x.f.r x.A x.c hok _ (FeV.rd (h.gr hg1))
  obtain ⟨⟨ct, ps, r⟩, A, c⟩ := x
  unfold Fe.agg cnt
  unfold Fe.cells at hb1 hgood hg1
  unfold Rc.agg at hgood
  simp only at hb1 hgood hg1 ⊢
  obtain ⟨w1, hw1⟩ : ∃ W, w.alloc (.cells #[.int .i64 ct, .int .i64 ps, .int .i64 r.kind, .int .i64 r.cart, .string (bs r.key), .int .i64 r.gen, .int .i64 r.group, .int .i64 r.groups, .int .i64 r.index, .int .i64 r.size, .string (bs r.sum), .slice A r.data.length c] 39) = W := ⟨_, rfl⟩
  rw [hw1] at hb1 hgood hg1
  obtain ⟨ld, hld⟩ : ∃ n, r.data.length = n := ⟨_, rfl⟩
  rw [hld] at hb1 hgood hw1 ⊢
  replace hld := Lib.hid hld
  replace hgood := Lib.hid hgood
  replace hg1 := Lib.hid hg1
  obtain ⟨b1, hbe⟩ : ∃ b, w.heap.size = b := ⟨_, rfl⟩
  rw [hbe] at hb1
  have hbe' := hbe
  replace hb1 := Lib.hid hb1
  have z0 := blk_cell (j := 0) hb1.out rfl
  have z1 := blk_cell (j := 1) hb1.out rfl
  have z2 := blk_cell (j := 2) hb1.out rfl
  have z3 := blk_cell (j := 3) hb1.out rfl
  have z4 := blk_cell (j := 4) hb1.out rfl
  have z5 := blk_cell (j := 5) hb1.out rfl
  have z6 := blk_cell (j := 6) hb1.out rfl
  have z7 := blk_cell (j := 7) hb1.out rfl
  have z8 := blk_cell (j := 8) hb1.out rfl
  have z9 := blk_cell (j := 9) hb1.out rfl
  have z10 := blk_cell (j := 10) hb1.out rfl
  have z11 := blk_cell (j := 11) hb1.out rfl
  have i1 := Lib.hid (fun q => in_any ct 0 31 q)
  have i2 := Lib.hid (fun q => in_any ps 0 1023 q)
  obtain ⟨g1, hg1e⟩ : ∃ b, inB ct 0 31 = b := ⟨_, rfl⟩
  obtain ⟨g2, hg2e⟩ : ∃ b, inB ps 0 1023 = b := ⟨_, rfl⟩
  obtain ⟨g3, hg3e⟩ : ∃ b, goodB r = b := ⟨_, rfl⟩
  rw [hg1e] at i1 ⊢
  rw [hg2e] at i2 ⊢
  rw [hg3e] at hgood ⊢
  replace hg1e := Lib.hid hg1e
  replace hg2e := Lib.hid hg2e
  replace hg3e := Lib.hid hg3e
  clear h hok
  cases g1 with
  | false =>
    go_enter Try.func55, Try.ntmps55
    go_wp2_with (first
      | (go_at_call 34; go_must (refine (i1.out _).mono ?_); clear i1; rintro e w' ⟨rfl, hww⟩; rw [hww]; clear hww w'))
    go_ret
    exact ⟨rfl, hg1.out⟩
  | true =>
    cases g2 with
    | false =>
      go_enter Try.func55, Try.ntmps55
      go_wp2_with (go_at_call 34; first
        | (refine (i1.out _).mono ?_; clear i1; rintro e w' ⟨rfl, hww⟩; rw [hww]; clear hww w')
        | (refine (i2.out _).mono ?_; clear i2; rintro e w' ⟨rfl, hww⟩; rw [hww]; clear hww w'))
      go_ret
      exact ⟨rfl, hg1.out⟩
    | true =>
      go_enter Try.func55, Try.ntmps55
      go_wp2_with (first
        | (go_at_call 34; first
          | (refine (i1.out _).mono ?_; clear i1; rintro e w' ⟨rfl, hww⟩; rw [hww]; clear hww w')
          | (refine (i2.out _).mono ?_; clear i2; rintro e w' ⟨rfl, hww⟩; rw [hww]; clear hww w'))
        | (go_at_call 14; go_must (refine hgood.out.mono ?_); clear hgood; rintro e w2 ⟨rfl, hg2⟩))
      go_ret
      exact ⟨rfl, hg1.out.trans hg2⟩
end Go.Proofs.Ytiliggleplpjbaa
