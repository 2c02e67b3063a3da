/- Rows of notes in memory; Scan. -/
import Derived.Test.YtgdbbjijneidaaaJr7
namespace Go.Proofs.Ytgdbbjijneidaaa
set_option linter.unusedVariables false
set_option linter.unusedSimpArgs false
open Go Go.RowKit
/-- a note as it lies in a row -/
structure Ne where
  n : Nt
  A : Option Addr
  c : Nat
  A2 : Option Addr
  c2 : Nat
def Ne.cells (x : Ne) : List Value := [.int .i64 x.n.kind, .string (bs x.n.key), .int .i64 x.n.gen, .int .i64 x.n.cart, .slice x.A x.n.data.length x.c, .string (bs x.n.sum), .int .i64 x.n.size, .slice x.A2 x.n.places.length x.c2]
def Ne.agg (x : Ne) : Value := x.n.agg x.A x.c x.A2 x.c2
def flatN (E : List Ne) : List Value := E.flatMap Ne.cells
theorem flatN_len (E : List Ne) : (flatN E).length = E.length * 8 := by
  induction E with
  | nil => rfl
  | cons q l ih => simp [flatN, Ne.cells] at *; omega
theorem flatN_app (l m : List Ne) : flatN (l ++ m) = flatN l ++ flatN m := by simp [flatN]
theorem flatN_at {l : List Ne} {i : Nat} {x : Ne} (h : l[i]? = some x) (j : Nat) (hj : j < 8) : (flatN l)[i * 8 + j]? = x.cells[j]? := by
  induction l generalizing i with
  | nil => simp at h
  | cons p l ih =>
    have hp : p.cells.length = 8 := rfl
    show (p.cells ++ flatN l)[_]? = _
    cases i with
    | zero =>
      simp at h; subst h
      rw [List.getElem?_append_left (by omega)]
      congr 1; omega
    | succ i =>
      have h' : l[i]? = some x := by simpa using h
      rw [List.getElem?_append_right (by omega), hp, show (i + 1) * 8 + j - 8 = i * 8 + j from by omega]
      exact ih h'
theorem flatN_one (l : List Ne) : ∀ v ∈ flatN l, v.oneCell' = true := fun v hv => by
  unfold flatN at hv
  obtain ⟨x, -, h⟩ := List.mem_flatMap.mp hv
  simp [Ne.cells] at h
  rcases h with rfl | rfl | rfl | rfl | rfl | rfl | rfl | rfl <;> rfl
def NeV (x : Ne) (w : World) : Prop := Byt x.n.data (.slice x.A x.n.data.length x.c) w ∧ Pls x.n.places (.slice x.A2 x.n.places.length x.c2) w
theorem NeV.gr {x : Ne} {w w' : World} (hr : Gr w w') (h : NeV x w) : NeV x w' := ⟨(Byt.gr hr (Lib.hid h.1)).out, (Pls.gr hr (Lib.hid h.2)).out⟩
theorem NeV.ntv {x : Ne} {w : World} (h : NeV x w) : NtV x.n x.agg w := ⟨_, _, _, _, rfl, h.1, h.2⟩
/-- its bytes and places lie in no row block v -/
def Apt (x : Ne) (ob : Option Nat) : Prop := (0 < x.n.data.length → ∀ ad, x.A = some ad → ob ≠ some ad.block) ∧ (0 < x.n.places.length → ∀ ad, x.A2 = some ad → ob ≠ some ad.block)
theorem NeV.own {x : Ne} {w w' : World} {ob : Option Nat} (h : NeV x w) (ha : Apt x ob) (hg : w.grownBy w' ob) : NeV x w' := by
  obtain ⟨⟨A', c', e1, h1, h2, h3⟩, ⟨B', d', e2, g1, g2, g3, g4⟩⟩ := h
  injection e1 with e1 _ e3
  subst e1
  subst e3
  injection e2 with e2 _ e4
  subst e2
  subst e4
  refine ⟨⟨_, _, rfl, h1, h2, h3.1, fun hn => ?_⟩, ⟨_, _, rfl, g1, g2, fun hn => ?_, g4⟩⟩
  · obtain ⟨ad, ea, hb, hcell⟩ := h3.2 hn
    have hne := ha.1 hn ad ea
    refine ⟨ad, ea, Nat.lt_of_lt_of_le hb hg.size, fun j u hu => ?_⟩
    rw [← hcell j u hu]
    exact World.cell?_of_block (by rw [block_of_add]; exact hg.block _ hb (fun e => hne e.symm))
  · obtain ⟨b, o, ea, hb, hcell⟩ := g3 hn
    have hne := ha.2 hn _ ea
    refine ⟨b, o, ea, Nat.lt_of_lt_of_le hb hg.size, fun i x hx => ?_⟩
    obtain ⟨q0, q1⟩ := hcell i x hx
    have hbk := hg.block b hb (fun e => hne e.symm)
    exact ⟨(World.cell?_of_block (a := ⟨b, o + i * 2, none⟩) hbk).trans q0, (World.cell?_of_block (a := ⟨b, o + i * 2 + 1, none⟩) hbk).trans q1⟩
theorem NeV.fresh {x : Ne} {w : World} (h : NeV x w) {k : Nat} (hk : w.heap.size ≤ k) : Apt x (some k) := by
  obtain ⟨⟨A', c', e1, h1, h2, h3⟩, ⟨B', d', e2, g1, g2, g3, g4⟩⟩ := h
  injection e1 with e1 _ e3
  subst e1
  injection e2 with e2 _ e4
  subst e2
  refine ⟨fun hn ad ea => ?_, fun hn ad ea => ?_⟩
  · obtain ⟨ad', ea', hb, -⟩ := h3.2 hn
    rw [ea] at ea'
    injection ea' with ea'
    subst ea'
    intro e
    injection e with e
    omega
  · obtain ⟨b, o, ea', hb, -⟩ := g3 hn
    rw [ea] at ea'
    injection ea' with ea'
    subst ea'
    intro e
    injection e with e
    simp only at e
    omega
/-- a row of notes of the call's own -/
structure ON (E : List Ne) (v : Value) (base : Nat) (w : World) : Prop where
  row : w.ownsRow base 25 8 v E.length (flatN E)
  vs : ∀ x ∈ E, NeV x w
  ap : ∀ x ∈ E, Apt x v.ownBlock
theorem ON.nil_ (w : World) (base : Nat) : ON [] (.slice none 0 0) base w := ⟨World.ownsRow_nil w base _ 8, fun x h => (by cases h), fun x h => (by cases h)⟩
theorem ON.gr {E : List Ne} {v : Value} {base : Nat} {w w' : World} (hr : Gr w w') (h : Hid (ON E v base w)) : Hid (ON E v base w') :=
  Lib.hid ⟨row_below h.out.row hr, fun x hx => (h.out.vs x hx).gr hr, h.out.ap⟩
theorem ON.form {E : List Ne} {v : Value} {base : Nat} {w : World} (h : ON E v base w) : ∃ A c, v = .slice A E.length c ∧ E.length ≤ c ∧ c ≤ maxLen := row_form h.row
/-- a slice of notes that reads as L -/
def NsV (L : List Nt) (v : Value) (w : World) : Prop := ∃ (E : List Ne) (A : Option Addr) (c : Nat), E.map (·.n) = L ∧ v = .slice A E.length c ∧ E.length ≤ c ∧ c ≤ maxLen ∧
  (0 < E.length → ∃ b o, A = some ⟨b, o, none⟩ ∧ b < w.heap.size ∧ ∀ i x, E[i]? = some x → ∀ j u, x.cells[j]? = some u → w.cell? ⟨b, o + i * 8 + j, none⟩ = some u) ∧ ∀ x ∈ E, NeV x w
theorem NsV.gr {L : List Nt} {v : Value} {w w' : World} (hr : Gr w w') (h : Hid (NsV L v w)) : Hid (NsV L v w') := Lib.hid (by
  obtain ⟨E, A, c, e1, e2, h1, h2, h3, h4⟩ := h.out
  refine ⟨E, A, c, e1, e2, h1, h2, fun hp => ?_, fun x hx => (h4 x hx).gr hr⟩
  obtain ⟨b, o, e, hb, hc⟩ := h3 hp
  exact ⟨b, o, e, Nat.lt_of_lt_of_le hb (Below.size hr), fun i x hx j u hu => (cellGr hr (a := ⟨b, o + i * 8 + j, none⟩) hb).trans (hc i x hx j u hu)⟩)
theorem ON.ns {E : List Ne} {v : Value} {base : Nat} {w : World} (h : ON E v base w) : NsV (E.map (·.n)) v w := by
  obtain ⟨A, c, rfl, h1, h2⟩ := h.form
  refine ⟨E, A, c, rfl, rfl, h1, h2, fun hp => ?_, h.vs⟩
  have hr := Reads.of_own h.row
  obtain ⟨g, cap, hv, _, hlt⟩ := World.ownsRow.form h.row hp
  have hA : A = some ⟨g, 0, none⟩ := by injection hv
  subst hA
  obtain ⟨ad, e, hb, hc⟩ := hr.2 hp
  injection e with e
  subst e
  refine ⟨g, 0, rfl, hb, fun i x hx j u hu => ?_⟩
  have hj : j < 8 := (List.getElem?_eq_some_iff.mp hu).1
  have a := hc _ u ((flatN_at hx j hj).trans hu)
  rw [addr0] at a
  rw [show 0 + i * 8 + j = i * 8 + j from by omega]
  exact a
theorem info_note : (Try.prog.info? 25).map (fun i => (i.zero, i.size, i.bytes)) = some (some (.agg #[.int .i64 0, .string ⟨#[]⟩, .int .i64 0, .int .i64 0, .slice none 0 0, .string ⟨#[]⟩, .int .i64 0, .slice none 0 0]), 8, 112) := by kernel_rfl
theorem wpl_appN {w : World} {ops : Array Oper} {rest : List Oper} {o : Oper} {a : Act} {Q : Exit → Act → World → Prop} (hgd : o.guard = none) (s x : Operand)
    (ho : o.op = .call { callee := .builtin .append, args := #[s, x], argTypes := #[40, 40] })
    (base : Nat) (v : Value) (E : List Ne) (q : Ne) (hs : a.eval s = v) (hown : ON E v base w) (A : Option Addr) (c : Nat) (hx : a.eval x = .slice A 1 c) (hr : Reads w w.heap.size 8 A 1 q.cells)
    (hq : NeV q w) (hap : Apt q v.ownBlock) (hlen : E.length ≤ 1000000000000) (hbase : base ≤ w.heap.size)
    (h : ∀ v' w', ON (E ++ [q]) v' base w' → w.grownBy w' v.ownBlock → Below base w w' → wpList Try.prog ops Q rest (a.put o.dst v') w') : wpList Try.prog ops Q (o :: rest) a w := by
  obtain ⟨i0, hi, hz0, hz1, hz2⟩ := info_parts info_note
  refine wpList_plain hgd fun _ hK => wp_append_any w s x 40 ho base 25 i0 _ 8 112 Try.underlying40 hi hz0 hz1 hz2 rfl (by omega) v E.length (flatN E) hs hown.row w.heap.size A 1 c q.cells hx hr (by have := flatN_one [q]; simpa [flatN] using this)
    (by simp only [maxLen]; omega) (by omega) hbase fun v' w' h2 h3 h4 => hK _ _ (h v' w' ⟨?_, ?_, ?_⟩ h3 ((Below.refl base w).grown h3 hbase (fun k hk => (World.ownsRow.lt hown.row k hk).1)))
  · rw [List.length_append, flatN_app]
    simpa [flatN] using h2
  · intro y hy
    rcases List.mem_append.mp hy with hy | hy
    · exact (hown.vs y hy).own (hown.ap y hy) h3
    · simp only [List.mem_singleton] at hy
      subst hy
      exact hq.own hap h3
  · intro y hy
    have hyv : NeV y w ∧ Apt y v.ownBlock := by
      rcases List.mem_append.mp hy with hy | hy
      · exact ⟨hown.vs y hy, hown.ap y hy⟩
      · simp only [List.mem_singleton] at hy
        subst hy
        exact ⟨hq, hap⟩
    rcases h4 with h4 | h4
    · rw [h4]; exact hyv.2
    · rw [h4]; exact hyv.1.fresh (Nat.le_refl _)
theorem Reads.noteLit (w : World) (q : Ne) : Reads (w.alloc (.cells q.cells.toArray 25)) (w.alloc (.cells q.cells.toArray 25)).heap.size 8 (some ⟨w.heap.size, 0, none⟩) 1 q.cells :=
  ⟨rfl, fun _ => ⟨_, rfl, by simp, fun j u hu => by
    rw [addr0]
    exact cell_new w _ _ (by simpa using hu)⟩⟩
theorem NtB.ne {base : Nat} {n : Nt} {v : Value} {w : World} (h : NtB base n v w) : ∃ q : Ne, v = q.agg ∧ q.n = n ∧ NeV q w ∧ ∀ k, k < base → Apt q (some k) := by
  obtain ⟨A, c, A2, c2, e, h1, h2, h3, h4⟩ := h
  refine ⟨⟨n, A, c, A2, c2⟩, e, rfl, ⟨h1, h2⟩, fun k hk => ⟨fun _ ad ea => ?_, fun _ ad ea => ?_⟩⟩
  · have := h3 ad ea
    intro e
    injection e with e
    omega
  · have := h4 ad ea
    intro e
    injection e with e
    omega
theorem Apt.none_ (q : Ne) : Apt q none := ⟨fun _ _ _ => by simp, fun _ _ _ => by simp⟩
set_option maxHeartbeats 4000000 in
set_option maxRecDepth 20000 in
theorem scan_any (b : List UInt8) (v : Value) (base : Nat) (hl : b.length ≤ 1000000000000) (w : World) (h : OB w base v b) :
    Calls Try.prog 23 #[v] w fun e w' => ∃ u E, e = .returned (.tuple #[u, .int .i64 (scanN b).2]) ∧ E.map (·.n) = (scanN b).1 ∧ ON E u w.heap.size w' ∧ Gr w w' := by
  have hy0 := Byt.ob h
  obtain ⟨N, hN⟩ : ∃ N, w.heap.size = N := ⟨_, rfl⟩
  rw [hN]
  rcases h.2 with ⟨rfl, hz⟩ | ⟨g, c, cur, rfl, -, -, hnc, hcm, -, -⟩
  · obtain rfl : b = [] := by apply List.eq_nil_of_length_eq_zero; simpa using hz
    have hs : scanN [] = ([], 0) := scanN_none rfl
    rw [hs]
    have hla := Lib.hid (lead_any [] (.slice none 0 0) (by decide) w (Byt.nil_ w))
    have hlN : leadN [] = none := rfl
    rw [hlN] at hla
    replace hlN := Lib.hid hlN
    clear hy0 hz hl h
    go_enter Try.func23, Try.ntmps23
    go_wp2_with fail
    go_loopw [4, 5] (fun nv i wr => nv = .slice none 0 0 ∧ i = .int .i64 0 ∧ wr = w) (fun _ _ _ => 0)
    case atStart => exact ⟨rfl, rfl, rfl⟩
    case round =>
      obtain ⟨rfl, rfl, rfl⟩ := hrel
      go_wp2_with fail
      refine hla.out.mono ?_
      rintro e w5 ⟨hans, hg5⟩
      replace hans : e = _ := hans
      subst hans
      have hg6 := Lib.hid (hg5.trans (Gr.alloc w5 (.cells #[.int .i64 0, .string ⟨#[]⟩, .int .i64 0, .int .i64 0, .slice none 0 0, .string ⟨#[]⟩, .int .i64 0, .slice none 0 0] 25)))
      clear hg5
      go_wp2_with fail
      go_ret2
      exact ⟨_, [], rfl, rfl, ON.nil_ _ _, hg6.out⟩
  · obtain ⟨nb, hnb⟩ : ∃ nb, b.length = nb := ⟨_, rfl⟩
    rw [hnb] at hl hy0 hnc ⊢
    obtain ⟨SR, hSR⟩ : ∃ SR, scanN b = SR := ⟨_, rfl⟩
    rw [hSR]
    have hy := Lib.hid hy0
    have hsc0 : Hid (SR = (([] : List Ne).map (·.n) ++ (scanN (b.drop 0)).1, 0 + (scanN (b.drop 0)).2)) := Lib.hid (by rw [← hSR]; simp)
    replace hnb := Lib.hid hnb
    replace hN := Lib.hid hN
    clear hy0 h hSR
    go_enter Try.func23, Try.ntmps23
    go_wp2_with fail
    go_loopw [4, 5] (fun nv i wr => ∃ (at_ : Nat) (E : List Ne) (A1 : Option Addr) (m1 c1 : Nat), nv = .slice A1 m1 c1 ∧ i = .int .i64 at_ ∧ at_ ≤ nb ∧ E.length ≤ at_ ∧ Hid (SR = (E.map (·.n) ++ (scanN (b.drop at_)).1, at_ + (scanN (b.drop at_)).2)) ∧ Hid (ON E (.slice A1 m1 c1) N wr) ∧ Hid (Gr w wr)) (fun _ i _ => nb - (intOf i).toNat)
    case atStart => exact ⟨0, [], none, 0, 0, rfl, rfl, Nat.zero_le _, Nat.zero_le _, hsc0, Lib.hid (ON.nil_ _ _), Lib.hid (Gr.refl _)⟩
    case round =>
      clear hsc0
      obtain ⟨p, E, A1, m1, c1, rfl, rfl, hp, hEp, hsc, ho, hgr⟩ := hrel
      have hyr := (Byt.gr hgr.out hy).out
      have hcut := Byt.cutR hyr p (nb - p) (by omega)
      have htk : (b.drop p).take (nb - p) = b.drop p := List.take_of_length_le (by rw [List.length_drop, hnb.out]; exact Nat.le_refl _)
      rw [htk] at hcut
      clear htk hyr
      have hNr : N ≤ wr.heap.size := by have := hgr.out.size; rw [hN.out] at this; exact this
      by_cases hcp : c = p
      · obtain rfl : nb = p := by omega
        subst hcp
        have hdn : b.drop c = [] := List.drop_eq_nil_of_le (by rw [hnb.out]; exact Nat.le_refl _)
        rw [hdn] at hsc
        have hsn : scanN [] = ([], 0) := scanN_none rfl
        rw [hsn] at hsc
        have hla := Lib.hid (lead_any [] (.slice (some ⟨g, 0, none⟩) 0 0) (by decide) wr ⟨_, _, rfl, Nat.le_refl _, Nat.zero_le _, Rd.nil_⟩)
        have hlN : leadN [] = none := rfl
        rw [hlN] at hla
        clear hlN hsn hcut hdn
        go_wp2_with fail
        refine hla.out.mono ?_
        rintro e w5 ⟨hans, hg5⟩
        replace hans : e = _ := hans
        subst hans
        have hg6 := hg5.trans (Gr.alloc w5 (.cells #[.int .i64 0, .string ⟨#[]⟩, .int .i64 0, .int .i64 0, .slice none 0 0, .string ⟨#[]⟩, .int .i64 0, .slice none 0 0] 25))
        replace ho := ON.gr hg6 ho
        replace hgr := Lib.hid (hgr.out.trans hg6)
        clear hg5 hg6
        go_wp2_with fail
        go_ret2
        exact ⟨_, E, by rw [hsc.out]; simp, by rw [hsc.out]; simp, ho.out, hgr.out⟩
      · have hcp' : p < c := by omega
        have hcut' : Hid (Byt (b.drop p) (.slice (some ⟨g, p, none⟩) (nb - p) (c - p)) wr) := Lib.hid (by simpa [hcp, add_of] using hcut)
        have hla := lead_any (b.drop p) (.slice (some ⟨g, p, none⟩) (nb - p) (c - p)) (by rw [List.length_drop, hnb.out]; omega) wr hcut'.out
        clear hcut hcut'
        have k1 : (p : Int) ≤ (nb : Int) := by omega
        have k2 : (nb : Int) ≤ (c : Int) := by omega
        cases hL : leadN (b.drop p) with
        | none =>
          rw [hL] at hla
          rw [scanN_none hL] at hsc
          replace hla := Lib.hid hla
          replace hL := Lib.hid hL
          go_wp2_with fail
          refine hla.out.mono ?_
          rintro e w5 ⟨hans, hg5⟩
          replace hans : e = _ := hans
          subst hans
          have hg6 := hg5.trans (Gr.alloc w5 (.cells #[.int .i64 0, .string ⟨#[]⟩, .int .i64 0, .int .i64 0, .slice none 0 0, .string ⟨#[]⟩, .int .i64 0, .slice none 0 0] 25))
          replace ho := ON.gr hg6 ho
          replace hgr := Lib.hid (hgr.out.trans hg6)
          clear hg5 hg6
          go_wp2_with fail
          go_ret2
          exact ⟨_, E, by rw [hsc.out]; simp, by rw [hsc.out]; simp, ho.out, hgr.out⟩
        | some nk =>
          obtain ⟨n, k⟩ := nk
          rw [hL] at hla
          rw [scanN_some hL] at hsc
          have hk := leadN_le hL
          rw [List.length_drop, hnb.out] at hk
          rw [List.drop_drop] at hsc
          replace hla := Lib.hid hla
          replace hL := Lib.hid hL
          go_wp2_with fail
          refine hla.out.mono ?_
          rintro e w5 ⟨⟨u, rfl, hnv⟩, hg5⟩
          obtain ⟨⟨qn, qA, qc, qA2, qc2⟩, rfl, rfl, hqv, hqa⟩ := hnv.ne
          simp only at hnv hsc
          have hap0 : Apt ⟨qn, qA, qc, qA2, qc2⟩ (Value.slice A1 m1 c1).ownBlock := by
            cases hob : (Value.slice A1 m1 c1).ownBlock with
            | none => exact Apt.none_ _
            | some kk => exact hqa kk (World.ownsRow.lt ho.out.row kk hob).2
          replace ho := ON.gr hg5 ho
          replace hgr := Lib.hid (hgr.out.trans hg5)
          have hga := Gr.alloc w5 (.cells #[.int .i64 qn.kind, .string (bs qn.key), .int .i64 qn.gen, .int .i64 qn.cart, .slice qA qn.data.length qc, .string (bs qn.sum), .int .i64 qn.size, .slice qA2 qn.places.length qc2] 25)
          have hm := heap_alloc_new w5 (.cells #[.int .i64 qn.kind, .string (bs qn.key), .int .i64 qn.gen, .int .i64 qn.cart, .slice qA qn.data.length qc, .string (bs qn.sum), .int .i64 qn.size, .slice qA2 qn.places.length qc2] 25)
          obtain ⟨M, hM⟩ : ∃ M, w5.heap.size = M := ⟨_, rfl⟩
          rw [hM] at hm
          replace ho := ON.gr hga ho
          replace hgr := Lib.hid (hgr.out.trans hga)
          replace hqv := (hqv.gr hga)
          obtain ⟨w6, hw6⟩ : ∃ w6, w5.alloc (.cells #[.int .i64 qn.kind, .string (bs qn.key), .int .i64 qn.gen, .int .i64 qn.cart, .slice qA qn.data.length qc, .string (bs qn.sum), .int .i64 qn.size, .slice qA2 qn.places.length qc2] 25) = w6 := ⟨_, rfl⟩
          rw [hw6] at hm ho hgr hqv
          replace hap0 := Lib.hid hap0
          replace hM := Lib.hid hM
          replace hw6 := Lib.hid hw6
          have hgb := Gr.alloc w6 (.cells #[.int .i64 qn.kind, .string (bs qn.key), .int .i64 qn.gen, .int .i64 qn.cart, .slice qA qn.data.length qc, .string (bs qn.sum), .int .i64 qn.size, .slice qA2 qn.places.length qc2] 25)
          replace ho := ON.gr hgb ho
          replace hgr := Lib.hid (hgr.out.trans hgb)
          replace hqv := Lib.hid (hqv.gr hgb)
          have hlit : Hid (Reads (w6.alloc (.cells #[.int .i64 qn.kind, .string (bs qn.key), .int .i64 qn.gen, .int .i64 qn.cart, .slice qA qn.data.length qc, .string (bs qn.sum), .int .i64 qn.size, .slice qA2 qn.places.length qc2] 25)) (w6.alloc (.cells #[.int .i64 qn.kind, .string (bs qn.key), .int .i64 qn.gen, .int .i64 qn.cart, .slice qA qn.data.length qc, .string (bs qn.sum), .int .i64 qn.size, .slice qA2 qn.places.length qc2] 25)).heap.size 8 (some ⟨w6.heap.size, 0, none⟩) 1 (Ne.mk qn qA qc qA2 qc2).cells) := Lib.hid (Reads.noteLit w6 ⟨qn, qA, qc, qA2, qc2⟩)
          have hEl : E.length ≤ 1000000000000 := by omega
          have hNs : N ≤ (w6.alloc (.cells #[.int .i64 qn.kind, .string (bs qn.key), .int .i64 qn.gen, .int .i64 qn.cart, .slice qA qn.data.length qc, .string (bs qn.sum), .int .i64 qn.size, .slice qA2 qn.places.length qc2] 25)).heap.size := by have := hgr.out.size; rw [hN.out] at this; exact this
          have d0 : decide ((k : Int) = 0) = false := decide_eq_false (by omega)
          have d1 : ((k : Int) == 0) = false := beq_eq_false_iff_ne.mpr (by omega)
          clear hga hgb hg5 hqa hnv
          unfold Ne.agg Nt.agg
          go_upto_region 6 with (fail)
          (try simp only)
          rw [hw6.out, hM.out]
          have y0 := blk_cell (j := 0) (v := .int .i64 qn.kind) hm rfl
          have y1 := blk_cell (j := 1) (v := .string (bs qn.key)) hm rfl
          have y2 := blk_cell (j := 2) (v := .int .i64 qn.gen) hm rfl
          have y3 := blk_cell (j := 3) (v := .int .i64 qn.cart) hm rfl
          have y4 := blk_cell (j := 4) (v := .slice qA qn.data.length qc) hm rfl
          have y5 := blk_cell (j := 5) (v := .string (bs qn.sum)) hm rfl
          have y6 := blk_cell (j := 6) (v := .int .i64 qn.size) hm rfl
          have y7 := blk_cell (j := 7) (v := .slice qA2 qn.places.length qc2) hm rfl
          go_wp2_with (at_builtin; go_must (refine wpl_appN rfl (.tmp 19) (.tmp 21) rfl N _ E ⟨qn, qA, qc, qA2, qc2⟩ rfl ho.out _ _ rfl hlit.out hqv.out hap0.out hEl hNs ?_); intro v9 w9 ho9 hg9 hr9; have hgr9 : Hid (Gr w w9) := Lib.hid (by have h := hgr.out; unfold Gr at *; rw [hN.out] at *; exact h.trans hr9); replace ho9 := Lib.hid ho9; obtain ⟨A9, m9, c9, rfl⟩ : ∃ A m c, v9 = .slice A m c := (by obtain ⟨A, c, e, -⟩ := ho9.out.form; exact ⟨A, _, c, e⟩); clear hg9 hr9)
          go_roundw
          case rel => exact ⟨p + k, E ++ [⟨qn, qA, qc, qA2, qc2⟩], A9, m9, c9, rfl, by go_num, by omega, by rw [List.length_append, List.length_singleton]; omega, Lib.hid (by rw [hsc.out]; simp [Nat.add_assoc]), ho9, hgr9⟩
          case measure => simp [intOf]; omega
end Go.Proofs.Ytgdbbjijneidaaa
