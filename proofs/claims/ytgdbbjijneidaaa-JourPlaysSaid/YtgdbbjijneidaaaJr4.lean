/- Decode of a note. -/
import Derived.Test.YtgdbbjijneidaaaJr2
import Derived.Test.YtgdbbjijneidaaaWordOth
namespace Go.Proofs.Ytgdbbjijneidaaa
set_option linter.unusedVariables false
set_option linter.unusedSimpArgs false
open Go Go.RowKit
theorem flat_of {w : World} {a : Addr} {v : Value} (h : w.cell? (a.add 0) = some v) : a = ⟨a.block, a.off, none⟩ := by
  obtain ⟨b, o, s⟩ := a
  cases s with
  | none => rfl
  | some s =>
    exfalso
    have e : (⟨b, o, some s⟩ : Addr).add 0 = ⟨b, o, some s⟩ := by unfold Addr.add; rw [if_pos rfl]
    rw [e] at h
    unfold World.cell? at h
    simp only [Option.isSome_some, if_true] at h
    split at h <;> cases h
theorem add_of (b o k : Nat) : (⟨b, o, none⟩ : Addr).add k = ⟨b, o + k, none⟩ := by
  unfold Addr.add
  split
  · rename_i h; subst h; rfl
  · rfl
/-- no cell is a byte -/
def noU8 (cs : List Value) : Bool := cs.all (fun v => match v with | .int .u8 _ => false | _ => true)
theorem noU8_get {cs : Array Value} (h : noU8 cs.toList = true) {j : Nat} {x : Int} : cs[j]? ≠ some (.int .u8 x) := by
  intro e
  have hm : (Value.int .u8 x) ∈ cs.toList := by
    have e' : cs.toList[j]? = some (.int .u8 x) := by simpa using e
    exact List.mem_of_getElem? e'
  unfold noU8 at h
  rw [List.all_eq_true] at h
  have := h _ hm
  simp at this
theorem Rd.recSet {w : World} {B m : Nat} {A : Option Addr} {l : List UInt8} {cs : Array Value} {T : TypeId} (h : Rd w B A l) (hh : w.heap[m]? = some (.cells cs T (0, 0))) (hno : noU8 cs.toList = true) (j : Nat) (u : Value) : Rd (w.setCell ⟨m, j, none⟩ u) B A l := by
  refine ⟨h.1, fun hn => ?_⟩
  obtain ⟨ad, rfl, hb, hc⟩ := h.2 hn
  refine ⟨ad, rfl, hb, fun i v hv => ?_⟩
  have hne : ad.block ≠ m := by
    intro e
    obtain ⟨x, hx⟩ : ∃ x, l[0]? = some x := ⟨l[0], List.getElem?_eq_getElem hn⟩
    obtain ⟨ad', e1, -, hc1⟩ := h.get hx
    injection e1 with e1
    subst e1
    have hf := flat_of hc1
    rw [hf, add_of] at hc1
    simp only [Nat.add_zero] at hc1
    rw [e] at hc1
    unfold World.cell? at hc1
    rw [hh] at hc1
    exact noU8_get hno hc1
  rw [World.cell?_setCell_other w _ _ _ (fun e => by have := congrArg Addr.block e; rw [block_of_add] at this; exact hne this.symm)]
  exact hc i v hv
def RL (st : RS) : Prop := ∀ l', st = some l' → l'.length ≤ 140737488355328
theorem RL.get {st : RS} (h : RL st) (most : Int) : RL (rget st most).2 := by
  intro l' e
  unfold rget at e
  split at e
  · cases e
  · rename_i l
    split at e
    · cases e
    · split at e
      · injection e with e
        subst e
        have := h l rfl
        simp only [List.length_drop]
        omega
      · cases e
theorem RL.text {st : RS} (h : RL st) (most : Int) : RL (rtext st most).2 := by
  intro l' e
  unfold rtext at e
  split at e
  · cases e
  · rename_i n l hq
    have hl : l.length ≤ 140737488355328 := h.get most l (by rw [hq])
    split at e
    · injection e with e
      subst e
      simp only [List.length_drop]
      omega
    · cases e
set_option maxRecDepth 4000 in
theorem tob_any (w : World) (m : List UInt8) (hm : m.length ≤ 1000000) : ∃ c w', (convert 9 22 (.string (bs m))).run Try.prog w = .ok (.slice (some ⟨w.heap.size, 0, none⟩) m.length c) w' ∧
    Byt m (.slice (some ⟨w.heap.size, 0, none⟩) m.length c) w' ∧ Gr w w' ∧ ∃ cs fr, w'.heap[w.heap.size]? = some (.cells cs 5 fr) := by
  have h := run_bytes_of_string (P := Try.prog) w 9 22 5 (bs m) Try.underlying9 Try.underlying22 Try.underlying5
  rw [bs_size] at h
  refine ⟨_, _, h, ⟨_, _, rfl, grownCap_ge _ _ _ _, grownCap_le_maxLen _ _ _ _ (by simp only [maxLen]; omega), by simp, fun _ => ⟨_, rfl, by simp, fun j u hu => ?_⟩⟩, (Below.refl w.heap.size w).drew.alloc (Nat.le_refl _) _, _, _, heap_alloc_new w.drew _⟩
  have hj : j < m.length := by
    have := (List.getElem?_eq_some_iff.mp hu).1
    simpa using this
  rw [List.getElem?_map, List.getElem?_eq_getElem hj] at hu
  injection hu with hu
  have hadd : (⟨w.heap.size, 0, none⟩ : Addr).add j = ⟨w.heap.size, j, none⟩ := by unfold Addr.add; split <;> simp_all
  have hblk : ∀ o : Obj, (w.drew.alloc o).heap[w.heap.size]? = some o := fun o => heap_alloc_new w.drew o
  rw [hadd, cell_of_row _ _ j _ _ _ (hblk _), bytesRow_at (bs m) _ j (by simpa [bs] using hj), ← hu]
  simp [bs, vb, U]
theorem rget_le (st : RS) (m : Int) (hm : 0 ≤ m) : 0 ≤ (rget st m).1 ∧ (rget st m).1 ≤ m := by
  refine ⟨rget_nonneg _ _, ?_⟩
  unfold rget
  split
  · exact hm
  · split
    · exact hm
    · split
      · assumption
      · exact hm
theorem rtext_le (st : RS) (m : Int) (hm : 0 ≤ m) : ((rtext st m).1.length : Int) ≤ m := by
  have h := rget_le st m hm
  unfold rtext
  split
  · exact hm
  · rename_i n l e
    rw [e] at h
    split
    · rename_i hle
      simp only [List.length_take] at *
      omega
    · exact hm
theorem Byt.other {w w' : World} {g : Nat} {st : RS} {l : List UInt8} {v : Value} (h : Rdr w g st) (hy : Hid (Byt l v w)) (hg : w.grownBy w' (some g)) : Hid (Byt l v w') := Lib.hid (by
  obtain ⟨A, c, e, h1, h2, h3⟩ := hy.out
  exact ⟨A, c, e, h1, h2, (h3.other h (Nat.le_refl _) hg).more (grown_size hg)⟩)
/-- what a decode holds: its answer's block N, its reader g -/
structure DW (w0 : World) (N g : Nat) (st : RS) (w : World) : Prop where
  b : Below N w0 w
  lt : N < g
  z : w.heap[N]? = some (.cells #[.int .i64 0, .string ⟨#[]⟩, .int .i64 0, .int .i64 0, .slice none 0 0, .string ⟨#[]⟩, .int .i64 0, .slice none 0 0] 25 (0, 0))
  r : Rdr w g st
  l : RL st
theorem DW.got {w0 w w' : World} {N g : Nat} {st s : RS} (h : Hid (DW w0 N g st w)) (hr : Rdr w' g s) (hl : RL s) (hg : w.grownBy w' (some g)) : Hid (DW w0 N g s w') := Lib.hid (by
  have h := h.out
  have hlt := h.r.lt
  exact ⟨h.b.grown hg (by have := h.lt; omega) (fun k hk => by injection hk with hk; have := h.lt; omega), h.lt, blk_grow h.z hg (fun e => by injection e with e; have := h.lt; omega), hr, hl⟩)
theorem DW.gr {w0 w w' : World} {N g : Nat} {st : RS} (h : Hid (DW w0 N g st w)) (hg : Gr w w') : Hid (DW w0 N g st w') := Lib.hid (by
  have h := h.out
  have hlt := h.r.lt
  have hln := h.lt
  exact ⟨h.b.trans (Below.mono hg (by omega)), h.lt, blk_below h.z hg, h.r.below' hg, h.l⟩)
theorem DW.above {w0 w w' : World} {N g M : Nat} {st : RS} (h : Hid (DW w0 N g st w)) (hg : Below M w w') (hM : g < M) : Hid (DW w0 N g st w') := Lib.hid (by
  have h := h.out
  have hln := h.lt
  exact ⟨h.b.trans (Below.mono hg (by omega)), h.lt, (hg.block N (by omega)).trans h.z, h.r.below hg hM, h.l⟩)
theorem get_r {w0 : World} {N g : Nat} {st : RS} (most : Int) (h0 : 0 ≤ most) (h1 : most ≤ 9223372036854775807) (x : Int) (s : RS) (hx : rget st most = (x, s)) (w : World) (h : Hid (DW w0 N g st w)) :
    Calls Try.prog 50 #[.pointer (some ⟨g, 0, none⟩), .int .i64 most] w fun e w' => e = .returned (.int .i64 x) ∧ Hid (DW w0 N g s w') ∧ w.grownBy w' (some g) ∧ 0 ≤ x ∧ x ≤ most := by
  have hl := RL.get h.out.l most
  have hb := rget_le st most h0
  rw [hx] at hl hb
  refine (get_any g st most (by omega) h1 w h.out.r h.out.l).mono ?_
  rw [hx]
  rintro e w' ⟨rfl, hr, hg⟩
  exact ⟨rfl, DW.got h hr hl hg, hg, hb⟩
theorem text_r {w0 : World} {N g : Nat} {st : RS} (most : Int) (h0 : 0 ≤ most) (h1 : most ≤ 9223372036854775807) (x : List UInt8) (s : RS) (hx : rtext st most = (x, s)) (w : World) (h : Hid (DW w0 N g st w)) :
    Calls Try.prog 51 #[.pointer (some ⟨g, 0, none⟩), .int .i64 most] w fun e w' => e = .returned (.string (bs x)) ∧ Hid (DW w0 N g s w') ∧ w.grownBy w' (some g) ∧ (x.length : Int) ≤ most := by
  have hl := RL.text h.out.l most
  have hb := rtext_le st most h0
  rw [hx] at hl hb
  refine (rtext_any g st most (by omega) h1 w h.out.r h.out.l).mono ?_
  rw [hx]
  rintro e w' ⟨rfl, hr, hg⟩
  exact ⟨rfl, DW.got h hr hl hg, hg, hb⟩
theorem wp_appPl {w : World} {o : Oper} {a : Act} {K : Act → World → Prop} {Q : Exit → Act → World → Prop} (s x : Operand)
    (ho : o.op = .call { callee := .builtin .append, args := #[s, x], argTypes := #[23, 23] })
    (base : Nat) (v u : Value) (l news : List (Int × Int)) (hs : a.eval s = v) (hown : OP l v base w) (hx : a.eval x = u) (hr : Pls news u w)
    (hlen : l.length + news.length ≤ 100000000) (hbase : base ≤ w.heap.size)
    (h : ∀ v' w', OP (l ++ news) v' base w' → w.grownBy w' v.ownBlock → Below base w w' → K (a.put o.dst v') w') : Oper.wp Try.prog o a w K Q := by
  obtain ⟨i0, hi, hz0, hz1, hz2⟩ := info_parts info_place
  obtain ⟨A, c, rfl, hrd⟩ := hr.reads
  refine wp_append_any w s x 23 ho base 85 i0 _ 2 16 Try.underlying23 hi hz0 hz1 hz2 rfl (by omega) v l.length (flatPl l) hs hown.1 w.heap.size A news.length c (flatPl news) hx hrd (flatPl_one news)
    (by simp only [maxLen]; omega) (by omega) hbase fun v' w' h2 h3 h4 => h v' w' ⟨?_, ?_⟩ h3 ((Below.refl base w).grown h3 hbase hown.up)
  · rw [List.length_append, flatPl_app]; exact h2
  · intro y hy
    obtain ⟨_, _, _, _, _, _, h9⟩ := hr
    rcases List.mem_append.mp hy with h | h
    · exact hown.2 y h
    · exact h9 y h
theorem OP.got {w w' : World} {g base : Nat} {l : List (Int × Int)} {v : Value} (h : Hid (OP l v base w)) (hg : w.grownBy w' (some g)) (hb : g < base) : Hid (OP l v base w') := Lib.hid ⟨World.ownsRow.kept h.out.1 hg (.inr (fun e => by have := h.out.up g e; omega)), h.out.2⟩
theorem DW.tchg {w0 w w' : World} {N g : Nat} {st : RS} (h : Hid (DW w0 N g st w)) (hg : w.grownBy w' (some g)) : TChg g [107] w w' := by
  obtain ⟨A, n, c, b, hh⟩ := h.out.r.heapAt
  exact Upd.of_grown hg ⟨Nat.le_refl _, _, _, hh, by simp⟩
/-- bytes of the call's own, in block D -/
structure DB (D dl dc : Nat) (l : List UInt8) (w : World) : Prop where
  c : ∃ cs fr, w.heap[D]? = some (.cells cs 5 fr)
  y : Byt l (.slice (some ⟨D, 0, none⟩) dl dc) w
theorem DB.lt {D dl dc : Nat} {l : List UInt8} {w : World} (h : Hid (DB D dl dc l w)) : D < w.heap.size := by
  obtain ⟨cs, fr, h⟩ := h.out.c
  exact (Array.getElem?_eq_some_iff.1 h).1
theorem DB.keep {D dl dc : Nat} {l : List UInt8} {w w' : World} (h : Hid (DB D dl dc l w)) (hD : w'.heap[D]? = w.heap[D]?) (hs : w.heap.size ≤ w'.heap.size) : Hid (DB D dl dc l w') := Lib.hid (by
  obtain ⟨⟨cs, fr, hc⟩, A, c, e, h1, h2, h3⟩ := h.out
  injection e with e1 e2 e3
  subst e1
  subst e2
  subst e3
  refine ⟨⟨cs, fr, hD.trans hc⟩, _, _, rfl, h1, h2, h3.1, fun hn => ?_⟩
  obtain ⟨ad, e, hb, hcell⟩ := h3.2 hn
  injection e with e
  subst e
  refine ⟨_, rfl, Nat.lt_of_lt_of_le hb hs, fun j u hu => ?_⟩
  rw [← hcell j u hu]
  exact World.cell?_of_block (by rw [block_of_add]; exact hD))
theorem DB.got {D dl dc g : Nat} {l : List UInt8} {w w' : World} (h : Hid (DB D dl dc l w)) (hg : w.grownBy w' (some g)) (hn : g < D) : Hid (DB D dl dc l w') :=
  DB.keep h (hg.block D (DB.lt h) (fun e => by injection e with e; omega)) hg.size
theorem DB.gr {D dl dc : Nat} {l : List UInt8} {w w' : World} (hr : Gr w w') (h : Hid (DB D dl dc l w)) : Hid (DB D dl dc l w') :=
  DB.keep h (Below.block hr D (DB.lt h)) (Below.size hr)
theorem DB.own {D dl dc base : Nat} {l : List UInt8} {m : List (Int × Int)} {v : Value} {w w' : World} (h : Hid (DB D dl dc l w)) (ho : OP m v base w) (hg : w.grownBy w' v.ownBlock) : Hid (DB D dl dc l w') := by
  obtain ⟨cs, fr, hc⟩ := h.out.c
  refine DB.keep h (hg.block D (DB.lt h) (fun e => ?_)) hg.size
  rcases ho.1.2 with ⟨hv, -⟩ | ⟨k, cap, cur, hv, -, hh, -⟩
  · rw [hv] at e; cases e
  · rw [hv] at e
    injection e with e
    subst e
    rw [hc] at hh
    injection hh with hh
    injection hh with _ hT _
    revert hT
    decide
theorem DB.set {D dl dc M : Nat} {l : List UInt8} {w : World} (h : Hid (DB D dl dc l w)) (hM : D ≠ M) (j : Nat) (u : Value) : Hid (DB D dl dc l (w.setCell ⟨M, j, none⟩ u)) :=
  DB.keep h (blk_other hM j u) (Nat.le_of_eq (by simp [World.setCell]))
theorem set8 {w : World} {N : Nat} {T : TypeId} {c0 c1 c2 c3 c4 c5 c6 c7 : Value} (hh : w.heap[N]? = some (.cells #[c0, c1, c2, c3, c4, c5, c6, c7] T (0, 0))) (v0 v1 v2 v3 v4 v5 v6 v7 : Value) :
    ((((((((w.setCell ⟨N, 0, none⟩ v0).setCell ⟨N, 1, none⟩ v1).setCell ⟨N, 2, none⟩ v2).setCell ⟨N, 3, none⟩ v3).setCell ⟨N, 4, none⟩ v4).setCell ⟨N, 5, none⟩ v5).setCell ⟨N, 6, none⟩ v6).setCell ⟨N, 7, none⟩ v7).heap[N]? = some (.cells #[v0, v1, v2, v3, v4, v5, v6, v7] T (0, 0)) ∧ Below N w ((((((((w.setCell ⟨N, 0, none⟩ v0).setCell ⟨N, 1, none⟩ v1).setCell ⟨N, 2, none⟩ v2).setCell ⟨N, 3, none⟩ v3).setCell ⟨N, 4, none⟩ v4).setCell ⟨N, 5, none⟩ v5).setCell ⟨N, 6, none⟩ v6).setCell ⟨N, 7, none⟩ v7) ∧ (∀ k, k ≠ N → ((((((((w.setCell ⟨N, 0, none⟩ v0).setCell ⟨N, 1, none⟩ v1).setCell ⟨N, 2, none⟩ v2).setCell ⟨N, 3, none⟩ v3).setCell ⟨N, 4, none⟩ v4).setCell ⟨N, 5, none⟩ v5).setCell ⟨N, 6, none⟩ v6).setCell ⟨N, 7, none⟩ v7).heap[k]? = w.heap[k]?) ∧ ((((((((w.setCell ⟨N, 0, none⟩ v0).setCell ⟨N, 1, none⟩ v1).setCell ⟨N, 2, none⟩ v2).setCell ⟨N, 3, none⟩ v3).setCell ⟨N, 4, none⟩ v4).setCell ⟨N, 5, none⟩ v5).setCell ⟨N, 6, none⟩ v6).setCell ⟨N, 7, none⟩ v7).heap.size = w.heap.size := by
  have s0 := blk_set hh 0 v0
  have s1 := blk_set s0 1 v1
  have s2 := blk_set s1 2 v2
  have s3 := blk_set s2 3 v3
  have s4 := blk_set s3 4 v4
  have s5 := blk_set s4 5 v5
  have s6 := blk_set s5 6 v6
  have s7 := blk_set s6 7 v7
  refine ⟨by simpa using s7, ?_, fun k hk => ?_, by simp [World.setCell]⟩
  · exact ((((((((Below.refl N w).setCell (p := ⟨N, 0, none⟩) (Nat.le_refl _) _).setCell (p := ⟨N, 1, none⟩) (Nat.le_refl _) _).setCell (p := ⟨N, 2, none⟩) (Nat.le_refl _) _).setCell (p := ⟨N, 3, none⟩) (Nat.le_refl _) _).setCell (p := ⟨N, 4, none⟩) (Nat.le_refl _) _).setCell (p := ⟨N, 5, none⟩) (Nat.le_refl _) _).setCell (p := ⟨N, 6, none⟩) (Nat.le_refl _) _).setCell (p := ⟨N, 7, none⟩) (Nat.le_refl _) _
  · rw [blk_other hk, blk_other hk, blk_other hk, blk_other hk, blk_other hk, blk_other hk, blk_other hk, blk_other hk]
/-- a note's value, whose bytes and places lie from base on -/
def NtB (base : Nat) (n : Nt) (v : Value) (w : World) : Prop := ∃ A c A2 c2, v = n.agg A c A2 c2 ∧ Byt n.data (.slice A n.data.length c) w ∧ Pls n.places (.slice A2 n.places.length c2) w ∧ (∀ ad, A = some ad → base ≤ ad.block) ∧ (∀ ad, A2 = some ad → base ≤ ad.block)
theorem NtB.v {base : Nat} {n : Nt} {v : Value} {w : World} (h : NtB base n v w) : NtV n v w := by
  obtain ⟨A, c, A2, c2, e, h1, h2, -, -⟩ := h
  exact ⟨A, c, A2, c2, e, h1, h2⟩
theorem NtB.gr {base : Nat} {n : Nt} {v : Value} {w w' : World} (hr : Gr w w') (h : Hid (NtB base n v w)) : Hid (NtB base n v w') := Lib.hid (by
  obtain ⟨A, c, A2, c2, e, h1, h2, h3, h4⟩ := h.out
  exact ⟨A, c, A2, c2, e, (Byt.gr hr (Lib.hid h1)).out, (Pls.gr hr (Lib.hid h2)).out, h3, h4⟩)
theorem NtB.lo {base base' : Nat} {n : Nt} {v : Value} {w : World} (h : NtB base n v w) (hb : base' ≤ base) : NtB base' n v w := by
  obtain ⟨A, c, A2, c2, e, h1, h2, h3, h4⟩ := h
  exact ⟨A, c, A2, c2, e, h1, h2, fun ad he => Nat.le_trans hb (h3 ad he), fun ad he => Nat.le_trans hb (h4 ad he)⟩
/-- only block N has changed, below base -/
theorem NtB.but {base N : Nat} {n : Nt} {v : Value} {w w' : World} (h : NtB base n v w) (hN : N < base) (hk : ∀ k, k ≠ N → w'.heap[k]? = w.heap[k]?) (hs : w.heap.size ≤ w'.heap.size) : NtB base n v w' := by
  obtain ⟨A, c, A2, c2, e, ⟨A', c', e1, h1, h2, h3⟩, ⟨B', d', e2, g1, g2, g3, g4⟩, h5, h6⟩ := h
  injection e1 with e1 _ e3
  subst e1
  subst e3
  injection e2 with e2 _ e4
  subst e2
  subst e4
  refine ⟨_, _, _, _, e, ⟨_, _, rfl, h1, h2, h3.1, fun hn => ?_⟩, ⟨_, _, rfl, g1, g2, fun hn => ?_, g4⟩, h5, h6⟩
  · obtain ⟨ad, ea, hb, hcell⟩ := h3.2 hn
    have hb2 := h5 ad ea
    refine ⟨ad, ea, Nat.lt_of_lt_of_le hb hs, fun j u hu => ?_⟩
    rw [← hcell j u hu]
    exact World.cell?_of_block (by rw [block_of_add]; exact hk _ (by omega))
  · obtain ⟨b, o, ea, hb, hcell⟩ := g3 hn
    have hb2 := h6 _ ea
    simp only at hb2
    refine ⟨b, o, ea, Nat.lt_of_lt_of_le hb hs, fun i x hx => ?_⟩
    obtain ⟨q0, q1⟩ := hcell i x hx
    exact ⟨(World.cell?_of_block (hk _ (by simp only; omega))).trans q0, (World.cell?_of_block (hk _ (by simp only; omega))).trans q1⟩
def DecAns (base : Nat) (o : Option Nt) (e : Ending) (w' : World) : Prop := match o with
  | none => e = .returned (.tuple #[.agg #[.int .i64 0, .string ⟨#[]⟩, .int .i64 0, .int .i64 0, .slice none 0 0, .string ⟨#[]⟩, .int .i64 0, .slice none 0 0], .int .i64 12])
  | some n => ∃ u, e = .returned (.tuple #[u, .int .i64 0]) ∧ NtB base n u w'
set_option maxHeartbeats 8000000 in
set_option maxRecDepth 20000 in
theorem decode_any (b : List UInt8) (v : Value) (hl : b.length ≤ 140737488355328) (w : World) (h : Byt b v w) :
    Calls Try.prog 17 #[v] w fun e w' => DecAns w.heap.size (decN b) e w' ∧ Gr w w' := by
  obtain ⟨A, c, rfl, -, -, hR⟩ := h
  obtain ⟨nb, hnb⟩ : ∃ nb, b.length = nb := ⟨_, rfl⟩
  rw [hnb] at hl ⊢
  obtain ⟨k1, s1, e1⟩ : ∃ x s, rget (some b) 6 = (x, s) := ⟨_, _, rfl⟩
  obtain ⟨k2, s2, e2⟩ : ∃ x s, rtext s1 16 = (x, s) := ⟨_, _, rfl⟩
  obtain ⟨k3, s3, e3⟩ : ∃ x s, rget s2 1099511627776 = (x, s) := ⟨_, _, rfl⟩
  obtain ⟨k4, s4, e4⟩ : ∃ x s, rget s3 31 = (x, s) := ⟨_, _, rfl⟩
  obtain ⟨k5, s5, e5⟩ : ∃ x s, rtext s4 512 = (x, s) := ⟨_, _, rfl⟩
  obtain ⟨k6, s6, e6⟩ : ∃ x s, rtext s5 32 = (x, s) := ⟨_, _, rfl⟩
  obtain ⟨k7, s7, e7⟩ : ∃ x s, rget s6 512 = (x, s) := ⟨_, _, rfl⟩
  obtain ⟨k8, s8, e8⟩ : ∃ x s, rget s7 40 = (x, s) := ⟨_, _, rfl⟩
  have hk8 := rget_le s7 40 (by decide)
  rw [e8] at hk8
  obtain ⟨q, rfl⟩ : ∃ q : Nat, k8 = (q : Int) := ⟨k8.toNat, by have := hk8.1; omega⟩
  have hq40 : q ≤ 40 := by have := hk8.2; omega
  clear hk8
  have hdec : Hid (decN b = if (rend (plS 31 1024 q s8).2 && goodN ⟨k1, k2, k3, k4, k5, k6, k7, (plS 31 1024 q s8).1⟩) = true then some ⟨k1, k2, k3, k4, k5, k6, k7, (plS 31 1024 q s8).1⟩ else none) := Lib.hid (by
    have f1 : d1 limC b = (k1, s1) := e1
    have f2 : d2 limC b = (k2, s2) := by unfold d2; rw [f1]; exact e2
    have f3 : d3 limC b = (k3, s3) := by unfold d3; rw [f2]; exact e3
    have f4 : d4 limC b = (k4, s4) := by unfold d4; rw [f3]; exact e4
    have f5 : d5 limC b = (k5, s5) := by unfold d5; rw [f4]; exact e5
    have f6 : d6 limC b = (k6, s6) := by unfold d6; rw [f5]; exact e6
    have f7 : d7 limC b = (k7, s7) := by unfold d7; rw [f6]; exact e7
    have f8 : d8 limC b = ((q : Int), s8) := by unfold d8; rw [f7]; exact e8
    have f9 : d9 limC b = plS 31 1024 q s8 := by unfold d9; rw [f8]; rfl
    unfold decN decL decR
    rw [f1, f2, f3, f4, f5, f6, f7, f9])
  obtain ⟨N, hN⟩ : ∃ N, w.heap.size = N := ⟨_, rfl⟩
  have hz := Lib.hid (heap_alloc_new w (.cells #[.int .i64 0, .string ⟨#[]⟩, .int .i64 0, .int .i64 0, .slice none 0 0, .string ⟨#[]⟩, .int .i64 0, .slice none 0 0] 25))
  have hb0 : Hid (Below N w (w.alloc (.cells #[.int .i64 0, .string ⟨#[]⟩, .int .i64 0, .int .i64 0, .slice none 0 0, .string ⟨#[]⟩, .int .i64 0, .slice none 0 0] 25))) := Lib.hid (by rw [← hN]; exact Gr.alloc _ _)
  have hsz : (w.alloc (.cells #[.int .i64 0, .string ⟨#[]⟩, .int .i64 0, .int .i64 0, .slice none 0 0, .string ⟨#[]⟩, .int .i64 0, .slice none 0 0] 25)).heap.size = N + 1 := by rw [← hN]; simp
  rw [hN] at hz
  have hnew := Lib.hid (new_any A nb c b hnb hl _ (hR.up (Gr.alloc w (.cells #[.int .i64 0, .string ⟨#[]⟩, .int .i64 0, .int .i64 0, .slice none 0 0, .string ⟨#[]⟩, .int .i64 0, .slice none 0 0] 25))))
  rw [hsz] at hnew
  have hRLb : RL (some b) := fun l e => by injection e with e; rw [← e]; omega
  replace hRLb := Lib.hid hRLb
  clear hR
  replace e1 := Lib.hid e1
  replace e2 := Lib.hid e2
  replace e3 := Lib.hid e3
  replace e4 := Lib.hid e4
  replace e5 := Lib.hid e5
  replace e6 := Lib.hid e6
  replace e7 := Lib.hid e7
  replace e8 := Lib.hid e8
  replace hnb := Lib.hid hnb
  replace hN := Lib.hid hN
  go_enter Try.func17, Try.ntmps17
  go_wp2_with fail
  rw [hN.out]
  refine hnew.out.mono ?_
  rintro e w1 ⟨g, rfl, hNg, hr1, hbb⟩
  have hd : Hid (DW w N g (some b) w1) := Lib.hid ⟨hb0.out.trans (hbb.mono (by omega)), by omega, (hbb.block N (by omega)).trans hz.out, hr1, hRLb.out⟩
  replace hNg : N < g := by omega
  clear hnew hbb hr1 hb0 hz hsz hRLb
  go_wp2_with fail
  refine (get_r 6 (by decide) (by decide) k1 s1 e1.out _ hd).mono ?_
  clear hd
  rintro e w2 ⟨rfl, hd, -, b1, b1'⟩
  go_wp2_with fail
  refine (text_r 16 (by decide) (by decide) k2 s2 e2.out _ hd).mono ?_
  clear hd
  rintro e w3 ⟨rfl, hd, -, b2⟩
  go_wp2_with fail
  refine (get_r 1099511627776 (by decide) (by decide) k3 s3 e3.out _ hd).mono ?_
  clear hd
  rintro e w4 ⟨rfl, hd, -, b3, b3'⟩
  go_wp2_with fail
  refine (get_r 31 (by decide) (by decide) k4 s4 e4.out _ hd).mono ?_
  clear hd
  rintro e w5 ⟨rfl, hd, -, b4, b4'⟩
  obtain ⟨M, hM⟩ : ∃ M, w5.heap.size = M := ⟨_, rfl⟩
  have hgM : g < M := by rw [← hM]; exact hd.out.r.lt
  have hm := heap_alloc_new w5 (.cells #[.int .i64 k1, .string (bs k2), .int .i64 k3, .int .i64 k4, .slice none 0 0, .string ⟨#[]⟩, .int .i64 0, .slice none 0 0] 25)
  rw [hM] at hm
  replace hd := DW.gr hd (Gr.alloc w5 (.cells #[.int .i64 k1, .string (bs k2), .int .i64 k3, .int .i64 k4, .slice none 0 0, .string ⟨#[]⟩, .int .i64 0, .slice none 0 0] 25))
  obtain ⟨w6, hw6⟩ : ∃ w6, w5.alloc (.cells #[.int .i64 k1, .string (bs k2), .int .i64 k3, .int .i64 k4, .slice none 0 0, .string ⟨#[]⟩, .int .i64 0, .slice none 0 0] 25) = w6 := ⟨_, rfl⟩
  rw [hw6] at hm hd
  replace hm := Lib.hid hm
  replace hw6 := Lib.hid hw6
  replace hM := Lib.hid hM
  go_wp2_with fail
  rw [hw6.out, hM.out]
  refine (text_r 512 (by decide) (by decide) k5 s5 e5.out _ hd).mono ?_
  clear hw6 hM
  rintro e w7 ⟨rfl, hd7, hg7, b5⟩
  replace hm := Lib.hid (blk_grow hm.out hg7 (fun e => by injection e with e; omega))
  clear hd hg7
  obtain ⟨dc, w8, hconv, hD, hg8, hDc⟩ := tob_any w7 k5 (by omega)
  have hMD : M < w7.heap.size := blk_lt hm.out
  obtain ⟨dl, hdl⟩ : ∃ dl, k5.length = dl := ⟨_, rfl⟩
  rw [hdl] at hconv hD b5
  go_wp2_with fail
  have hd := DW.gr hd7 hg8
  replace hm := Lib.hid (blk_below hm.out hg8)
  clear hconv hd7 hg8
  obtain ⟨D, hdA⟩ : ∃ D, w7.heap.size = D := ⟨_, rfl⟩
  rw [hdA] at hD hDc hMD ⊢
  have hgD : g < D := by omega
  have hD' : Hid (DB D dl dc k5 w8) := Lib.hid ⟨hDc, hD⟩
  clear hdA hD hDc
  have hD := hD'
  clear hD'
  replace hdl := Lib.hid hdl
  refine (text_r 32 (by decide) (by decide) k6 s6 e6.out _ hd).mono ?_
  rintro e w9 ⟨rfl, hd9, hg9, b6⟩
  replace hm := Lib.hid (blk_grow hm.out hg9 (fun e => by injection e with e; omega))
  replace hD := DB.got hD hg9 hgD
  clear hd hg9
  go_wp2_with fail
  refine (get_r 512 (by decide) (by decide) k7 s7 e7.out _ hd9).mono ?_
  rintro e w10 ⟨rfl, hd, hg10, b7, b7'⟩
  replace hm := Lib.hid (blk_grow hm.out hg10 (fun e => by injection e with e; omega))
  replace hD := DB.got hD hg10 hgD
  clear hd9 hg10
  have c4 := blk_cell (j := 4) (v := .slice none 0 0) hm.out rfl
  have c5 := blk_cell (j := 5) (v := .string ⟨#[]⟩) hm.out rfl
  have c6 := blk_cell (j := 6) (v := .int .i64 0) hm.out rfl
  have f4 := blk_free hm.out 4
  have f5 := blk_free hm.out 5
  have f6 := blk_free hm.out 6
  have hm1 := blk_set hm.out 4 (.slice (some ⟨D, 0, none⟩) dl dc)
  have hm2 := blk_set hm1 5 (.string (bs k6))
  have hm3 := blk_set hm2 6 (.int .i64 k7)
  have hbM : Below M w10 (((w10.setCell ⟨M, 4, none⟩ (.slice (some ⟨D, 0, none⟩) dl dc)).setCell ⟨M, 5, none⟩ (.string (bs k6))).setCell ⟨M, 6, none⟩ (.int .i64 k7)) := (((Below.refl M w10).setCell (p := ⟨M, 4, none⟩) (Nat.le_refl _) _).setCell (p := ⟨M, 5, none⟩) (Nat.le_refl _) _).setCell (p := ⟨M, 6, none⟩) (Nat.le_refl _) _
  obtain ⟨w11, hw11⟩ : ∃ w11, ((w10.setCell ⟨M, 4, none⟩ (.slice (some ⟨D, 0, none⟩) dl dc)).setCell ⟨M, 5, none⟩ (.string (bs k6))).setCell ⟨M, 6, none⟩ (.int .i64 k7) = w11 := ⟨_, rfl⟩
  have hDn : Hid (DB D dl dc k5 w11) := by
    rw [← hw11]
    exact DB.set (DB.set (DB.set hD (by omega) _ _) (by omega) _ _) (by omega) _ _
  replace hm3 : w11.heap[M]? = some (.cells #[.int .i64 k1, .string (bs k2), .int .i64 k3, .int .i64 k4, .slice (some ⟨D, 0, none⟩) dl dc, .string (bs k6), .int .i64 k7, .slice none 0 0] 25 (0, 0)) := by rw [← hw11]; simpa using hm3
  rw [hw11] at hbM
  have hd11 := DW.above hd hbM hgM
  replace hm3 := Lib.hid hm3
  replace hw11 := Lib.hid hw11
  clear hm1 hm2 hbM hD
  go_wp2_with fail
  rw [hw11.out]
  clear hd hm c4 c5 c6 f4 f5 f6 hw11
  refine (get_r 40 (by decide) (by decide) q s8 e8.out _ hd11).mono ?_
  rintro e w12 ⟨rfl, hd, hg12, -, -⟩
  have hm := Lib.hid (blk_grow hm3.out hg12 (fun e => by injection e with e; omega))
  have hD := DB.got hDn hg12 hgD
  clear hd11 hm3 hDn hg12
  go_wp2_with fail
  have hpl0 : plS 31 1024 0 s8 = ([], s8) := rfl
  go_loopw [29] (fun i wr => ∃ (j : Nat) (L : List (Int × Int)) (st : RS) (pv : Value), i = .int .i64 j ∧ j ≤ q ∧ Hid (plS 31 1024 j s8 = (L, st)) ∧ Hid (DW w N g st wr) ∧ Hid (wr.heap[M]? = some (.cells #[.int .i64 k1, .string (bs k2), .int .i64 k3, .int .i64 k4, .slice (some ⟨D, 0, none⟩) dl dc, .string (bs k6), .int .i64 k7, pv] 25 (0, 0))) ∧ Hid (DB D dl dc k5 wr) ∧ Hid (OP L pv (g + 1) wr)) (fun i _ => q - (intOf i).toNat)
  case atStart => exact ⟨0, [], s8, .slice none 0 0, rfl, Nat.zero_le _, Lib.hid hpl0, hd, hm, hD, Lib.hid (OP.nil_ _ _)⟩
  case round =>
    clear hd hm hD hpl0
    obtain ⟨j, L, st, pv, rfl, hj, hps, hd, hm, hD, hP⟩ := hrel
    by_cases hlt : j < q
    · obtain ⟨x1, t1, ex1⟩ : ∃ x s, rget st 31 = (x, s) := ⟨_, _, rfl⟩
      obtain ⟨x2, t2, ex2⟩ : ∃ x s, rget t1 1024 = (x, s) := ⟨_, _, rfl⟩
      have hps2 : Hid (plS 31 1024 (j + 1) s8 = (L ++ [(x1, x2)], t2)) := Lib.hid (by unfold plS; rw [hps.out]; simp only [ex1, ex2])
      have hLl : L.length = j := by have := plS_length 31 1024 j s8; rw [hps.out] at this; exact this
      replace ex1 := Lib.hid ex1
      replace ex2 := Lib.hid ex2
      go_upto_region 6 with (fail)
      obtain ⟨wd, hwd⟩ : ∃ wd, wd = wr.drew := ⟨_, rfl⟩
      replace hd : Hid (DW w N g st wd) := DW.gr hd (by rw [hwd]; exact (Below.refl _ _).drew)
      replace hm : Hid (wd.heap[M]? = some (.cells #[.int .i64 k1, .string (bs k2), .int .i64 k3, .int .i64 k4, .slice (some ⟨D, 0, none⟩) dl dc, .string (bs k6), .int .i64 k7, pv] 25 (0, 0))) := Lib.hid (by rw [hwd]; exact hm.out)
      replace hD : Hid (DB D dl dc k5 wd) := DB.gr (w := wr) (by rw [hwd]; exact (Below.refl _ _).drew) hD
      replace hP : Hid (OP L pv (g + 1) wd) := OP.gr (w := wr) (by rw [hwd]; exact (Below.refl _ _).drew) hP
      have hgs := hd.out.r.lt
      refine wpR_region (TChg g [107]) 8 (by kernel_rfl) ?_
      (rw [← hwd]; replace hwd := Lib.hid hwd)
      refine wpR_takeU (i := 0) (v := ?_) (TChg.road _ _) (some 31) rfl (by kernel_rfl) (by kernel_rfl) (by kernel_rfl) (by kernel_rfl) (fun _ _ _ h => h) (by kernel_rfl) (fun w' => ?_) ?_
      rotate_left
      · go_simp; with_reducible rfl
      simp only [Act.put, List.setIfInBounds_toArray, List.set_cons_zero, List.set_cons_succ]
      refine wpR_take (i := 1) (v := ?_) (TChg.road _ _) (some 32) rfl (by kernel_rfl) (by kernel_rfl) (by kernel_rfl) (by kernel_rfl) (by kernel_rfl) (fun _ _ _ h => h) (by kernel_rfl) (fun w' hw' => ?_) ?_
      rotate_left
      · have q7 := blk_cell (j := 7) (v := pv) (hw'.block hm.out (by decide)) rfl; go_simp; with_reducible rfl
      simp only [Act.put, List.setIfInBounds_toArray, List.set_cons_zero, List.set_cons_succ]
      refine wpR_takeU (i := 2) (v := ?_) (TChg.road _ _) (some 33) rfl (by kernel_rfl) (by kernel_rfl) (by kernel_rfl) (by kernel_rfl) (fun _ _ _ h => h) (by kernel_rfl) (fun w' => ?_) ?_
      rotate_left
      · go_simp; with_reducible rfl
      simp only [Act.put, List.setIfInBounds_toArray, List.set_cons_zero, List.set_cons_succ]
      refine wpR_takeU (i := 4) (v := ?_) (TChg.road _ _) (some 35) rfl (by kernel_rfl) (by kernel_rfl) (by kernel_rfl) (by kernel_rfl) (fun _ _ _ h => h) (by kernel_rfl) (fun w' => ?_) ?_
      rotate_left
      · go_simp; with_reducible rfl
      simp only [Act.put, List.setIfInBounds_toArray, List.set_cons_zero, List.set_cons_succ]
      refine wpR_one 3 rfl (by kernel_rfl) (by kernel_rfl) (fun K hK => ?_)
      go_simp
      refine (get_r 31 (by decide) (by decide) x1 t1 ex1.out _ hd).mono ?_
      rintro e w5 ⟨rfl, hd5, hg5, p1, p1'⟩
      refine hK _ _ (fun _ => DW.tchg hd hg5) ?_
      clear hK K
      replace hm := Lib.hid (blk_grow hm.out hg5 (fun e => by injection e with e; omega))
      replace hD := DB.got hD hg5 hgD
      replace hP := OP.got hP hg5 (Nat.lt_succ_self g)
      replace hd := hd5
      clear hg5 hd5
      try simp only [Act.put, List.setIfInBounds_toArray, List.set_cons_zero, List.set_cons_succ]
      refine wpR_one 5 rfl (by kernel_rfl) (by kernel_rfl) (fun K hK => ?_)
      go_simp
      refine (get_r 1024 (by decide) (by decide) x2 t2 ex2.out _ hd).mono ?_
      rintro e w6 ⟨rfl, hd6, hg6, p2, p2'⟩
      refine hK _ _ (fun _ => DW.tchg hd hg6) ?_
      clear hK K
      replace hm := Lib.hid (blk_grow hm.out hg6 (fun e => by injection e with e; omega))
      replace hD := DB.got hD hg6 hgD
      replace hP := OP.got hP hg6 (Nat.lt_succ_self g)
      replace hd := hd6
      clear hg6 hd6
      try simp only [Act.put, List.setIfInBounds_toArray, List.set_cons_zero, List.set_cons_succ]
      refine wpR_takeU (i := 6) (v := ?_) (TChg.road _ _) (some 37) rfl (by kernel_rfl) (by kernel_rfl) (by kernel_rfl) (by kernel_rfl) (fun _ _ _ h => h) (by kernel_rfl) (fun w' => ?_) ?_
      rotate_left
      · go_simp; with_reducible rfl
      simp only [Act.put, List.setIfInBounds_toArray, List.set_cons_zero, List.set_cons_succ]
      refine wpR_one 7 rfl (by kernel_rfl) (by kernel_rfl) (fun K hK => ?_)
      go_simp
      obtain ⟨G, hG⟩ : ∃ G, w6.heap.size = G := ⟨_, rfl⟩
      obtain ⟨w7', hw7⟩ : ∃ W, W = w6.alloc (.cells #[.int .i64 x1, .int .i64 x2] 85) := ⟨_, rfl⟩
      rw [← hw7, hG]
      have hr7 : Gr w6 w7' := by rw [hw7]; exact Gr.alloc _ _
      have hlt7 : Hid (Pls [(x1, x2)] (.slice (some ⟨G, 0, none⟩) 1 1) w7') := Lib.hid (by rw [hw7, ← hG]; exact Pls.one w6 (x1, x2) ⟨⟨by simp only; omega, by simp only; omega⟩, ⟨by simp only; omega, by simp only; omega⟩⟩ _)
      refine hK _ _ (fun _ => TChg.of_below hr7) ?_
      clear hK K
      replace hm := Lib.hid (blk_below hm.out hr7)
      replace hD := DB.gr hr7 hD
      replace hP := OP.gr hr7 hP
      replace hd := DW.gr hd hr7
      have hgs7 := hd.out.r.lt
      replace hw7 := Lib.hid hw7
      clear hr7
      try simp only [Act.put, List.setIfInBounds_toArray, List.set_cons_zero, List.set_cons_succ]
      refine wpR_one 8 rfl (by kernel_rfl) (by kernel_rfl) (fun K hK => ?_)
      refine wp_appPl (.tmp 32) (.tmp 38) rfl (g + 1) pv _ L [(x1, x2)] rfl hP.out rfl hlt7.out (by rw [hLl]; simp; omega) hgs7 ?_
      intro pv9 w9 hP9 hg9 hr9
      refine hK _ _ (fun h => absurd h (by decide)) ?_
      clear hK K
      have hne9 : pv.ownBlock ≠ some M := row_ne hP.out.1 hm.out (by decide)
      have hm9 := Lib.hid (blk_grow hm.out hg9 hne9)
      have hD9 := DB.own hD hP.out hg9
      replace hd := DW.above hd hr9 (Nat.lt_succ_self g)
      obtain ⟨pA9, pm9, pc9, rfl⟩ : ∃ A m c, pv9 = .slice A m c := by obtain ⟨A, c, e, -⟩ := hP9.form; exact ⟨A, _, c, e⟩
      have c7 := blk_cell (j := 7) (v := pv) hm9.out rfl
      have f7 := blk_free hm9.out 7
      try simp only [Act.put, List.setIfInBounds_toArray, List.set_cons_zero, List.set_cons_succ]
      refine wpR_take (i := 9) (v := ?_) (TChg.road _ _) (some 40) rfl (by kernel_rfl) (by kernel_rfl) (by kernel_rfl) (by kernel_rfl) (by kernel_rfl) (fun _ _ _ h => h) (by kernel_rfl) (fun w' hw' => ?_) ?_
      rotate_left
      · go_simp; with_reducible rfl
      simp only [Act.put, List.setIfInBounds_toArray, List.set_cons_zero, List.set_cons_succ]
      refine wpR_one 10 rfl (by kernel_rfl) (by kernel_rfl) (fun K hK => ?_)
      go_simp
      refine hK _ _ (fun h => absurd h (by decide)) ?_
      clear hK K
      have hm10 := blk_set hm9.out 7 (.slice pA9 pm9 pc9)
      have hd10 := DW.above hd ((Below.refl M w9).setCell (p := ⟨M, 7, none⟩) (Nat.le_refl _) (.slice pA9 pm9 pc9)) hgM
      have hD10 := DB.set (M := M) hD9 (by omega) 7 (.slice pA9 pm9 pc9)
      have hP10 : Hid (OP (L ++ [(x1, x2)]) (.slice pA9 pm9 pc9) (g + 1) (w9.setCell ⟨M, 7, none⟩ (.slice pA9 pm9 pc9))) := Lib.hid ⟨row_set_other hP9.1 M 7 _ (row_ne hP9.1 hm9.out (by decide)), hP9.2⟩
      replace hm10 : Hid ((w9.setCell ⟨M, 7, none⟩ (.slice pA9 pm9 pc9)).heap[M]? = some (.cells #[.int .i64 k1, .string (bs k2), .int .i64 k3, .int .i64 k4, .slice (some ⟨D, 0, none⟩) dl dc, .string (bs k6), .int .i64 k7, (.slice pA9 pm9 pc9)] 25 (0, 0))) := Lib.hid (by simpa using hm10)
      clear c7 f7 hm9 hD9 hd
      try simp only [Act.put, List.setIfInBounds_toArray, List.set_cons_zero, List.set_cons_succ]
      refine wpR_done (by kernel_rfl) ?_ _
      go_wp2_with fail
      go_roundw
      case rel => exact ⟨j + 1, _, t2, _, by go_num, by omega, hps2, hd10, hm10, hD10, hP10⟩
      case measure => simp [intOf]; omega
    · obtain rfl : j = q := by omega
      clear hlt
      replace hdec := hdec.out
      rw [hps.out] at hdec
      simp only at hdec
      have hz := Lib.hid hd.out.z
      have hb := Lib.hid hd.out.b
      obtain ⟨pA, pc, rfl, hp1, hp2⟩ := hP.out.form
      obtain ⟨np, hnp⟩ : ∃ np, L.length = np := ⟨_, rfl⟩
      rw [hnp] at hm hP
      replace hnp := Lib.hid hnp
      have hNg' := hd.out.lt
      cases hE : rend st with
      | false =>
        rw [hE] at hdec
        simp only [Bool.false_and, Bool.false_eq_true, if_false] at hdec
        replace hdec := Lib.hid hdec
        have hen := end_any g st wr hd.out.r
        rw [hE] at hen
        replace hen := Lib.hid hen
        go_wp2_with fail
        refine hen.out.mono ?_
        rintro e w' ⟨rfl, rfl⟩
        clear hen
        have z0 := blk_cell (j := 0) (v := .int .i64 0) hz.out rfl
        have zf0 := blk_free hz.out 0
        have z1 := blk_cell (j := 1) (v := .string ⟨#[]⟩) hz.out rfl
        have zf1 := blk_free hz.out 1
        have z2 := blk_cell (j := 2) (v := .int .i64 0) hz.out rfl
        have zf2 := blk_free hz.out 2
        have z3 := blk_cell (j := 3) (v := .int .i64 0) hz.out rfl
        have zf3 := blk_free hz.out 3
        have z4 := blk_cell (j := 4) (v := .slice none 0 0) hz.out rfl
        have zf4 := blk_free hz.out 4
        have z5 := blk_cell (j := 5) (v := .string ⟨#[]⟩) hz.out rfl
        have zf5 := blk_free hz.out 5
        have z6 := blk_cell (j := 6) (v := .int .i64 0) hz.out rfl
        have zf6 := blk_free hz.out 6
        have z7 := blk_cell (j := 7) (v := .slice none 0 0) hz.out rfl
        have zf7 := blk_free hz.out 7
        go_wp2_with fail
        obtain ⟨hs, hbs, hot, hss⟩ := set8 hz.out (.int .i64 0) (.string ⟨#[]⟩) (.int .i64 0) (.int .i64 0) (.slice none 0 0) (.string ⟨#[]⟩) (.int .i64 0) (.slice none 0 0)
        obtain ⟨wf, hwf⟩ : ∃ wf, ((((((((wr.setCell ⟨N, 0, none⟩ (.int .i64 0)).setCell ⟨N, 1, none⟩ (.string ⟨#[]⟩)).setCell ⟨N, 2, none⟩ (.int .i64 0)).setCell ⟨N, 3, none⟩ (.int .i64 0)).setCell ⟨N, 4, none⟩ (.slice none 0 0)).setCell ⟨N, 5, none⟩ (.string ⟨#[]⟩)).setCell ⟨N, 6, none⟩ (.int .i64 0)).setCell ⟨N, 7, none⟩ (.slice none 0 0)) = wf := ⟨_, rfl⟩
        rw [hwf] at hs hbs hot hss ⊢
        have r0 := blk_cell (j := 0) (v := .int .i64 0) hs rfl
        have r1 := blk_cell (j := 1) (v := .string ⟨#[]⟩) hs rfl
        have r2 := blk_cell (j := 2) (v := .int .i64 0) hs rfl
        have r3 := blk_cell (j := 3) (v := .int .i64 0) hs rfl
        have r4 := blk_cell (j := 4) (v := .slice none 0 0) hs rfl
        have r5 := blk_cell (j := 5) (v := .string ⟨#[]⟩) hs rfl
        have r6 := blk_cell (j := 6) (v := .int .i64 0) hs rfl
        have r7 := blk_cell (j := 7) (v := .slice none 0 0) hs rfl
        exact bodyPost_ret (v := .tuple #[.agg #[.int .i64 0, .string ⟨#[]⟩, .int .i64 0, .int .i64 0, .slice none 0 0, .string ⟨#[]⟩, .int .i64 0, .slice none 0 0], .int .i64 12]) (by simp [results, Try.results17, go_sem, r0, r1, r2, r3, r4, r5, r6, r7]) rfl ⟨by rw [hdec.out]; rfl, by unfold Gr; rw [hN.out]; exact hb.out.trans hbs⟩
      | true =>
        rw [hE] at hdec
        simp only [Bool.true_and] at hdec
        have hen := end_any g st wr hd.out.r
        rw [hE] at hen
        replace hen := Lib.hid hen
        have hnv : NtV ⟨k1, k2, k3, k4, k5, k6, k7, L⟩ (.agg #[.int .i64 k1, .string (bs k2), .int .i64 k3, .int .i64 k4, .slice (some ⟨D, 0, none⟩) dl dc, .string (bs k6), .int .i64 k7, .slice pA np pc]) wr := ⟨some ⟨D, 0, none⟩, dc, pA, pc, by unfold Nt.agg; simp only; rw [hdl.out, hnp.out], by simp only; rw [hdl.out]; exact hD.out.y, by simp only; rw [hnp.out]; exact hP.out.pls⟩
        have hva := valid_any _ _ wr hnv
        clear hnv
        have y0 := blk_cell (j := 0) (v := .int .i64 k1) hm.out rfl
        have y1 := blk_cell (j := 1) (v := .string (bs k2)) hm.out rfl
        have y2 := blk_cell (j := 2) (v := .int .i64 k3) hm.out rfl
        have y3 := blk_cell (j := 3) (v := .int .i64 k4) hm.out rfl
        have y4 := blk_cell (j := 4) (v := .slice (some ⟨D, 0, none⟩) dl dc) hm.out rfl
        have y5 := blk_cell (j := 5) (v := .string (bs k6)) hm.out rfl
        have y6 := blk_cell (j := 6) (v := .int .i64 k7) hm.out rfl
        have y7 := blk_cell (j := 7) (v := .slice pA np pc) hm.out rfl
        cases hG : goodN ⟨k1, k2, k3, k4, k5, k6, k7, L⟩ with
        | false =>
          rw [hG] at hva hdec
          simp only [Bool.false_eq_true, if_false] at hdec
          replace hdec := Lib.hid hdec
          replace hva := Lib.hid hva
          go_wp2_with fail
          refine hen.out.mono ?_
          rintro e w' ⟨rfl, rfl⟩
          clear hen
          go_wp2_with fail
          refine hva.out.mono ?_
          rintro e w' ⟨rfl, hgv⟩
          replace hz := Lib.hid (blk_below hz.out hgv)
          replace hb := Lib.hid (hb.out.trans (Below.mono hgv (by have := hb.out.size; rw [hN.out] at this; omega)))
          clear hva y0 y1 y2 y3 y4 y5 y6 y7 hgv
          have z0 := blk_cell (j := 0) (v := .int .i64 0) hz.out rfl
          have zf0 := blk_free hz.out 0
          have z1 := blk_cell (j := 1) (v := .string ⟨#[]⟩) hz.out rfl
          have zf1 := blk_free hz.out 1
          have z2 := blk_cell (j := 2) (v := .int .i64 0) hz.out rfl
          have zf2 := blk_free hz.out 2
          have z3 := blk_cell (j := 3) (v := .int .i64 0) hz.out rfl
          have zf3 := blk_free hz.out 3
          have z4 := blk_cell (j := 4) (v := .slice none 0 0) hz.out rfl
          have zf4 := blk_free hz.out 4
          have z5 := blk_cell (j := 5) (v := .string ⟨#[]⟩) hz.out rfl
          have zf5 := blk_free hz.out 5
          have z6 := blk_cell (j := 6) (v := .int .i64 0) hz.out rfl
          have zf6 := blk_free hz.out 6
          have z7 := blk_cell (j := 7) (v := .slice none 0 0) hz.out rfl
          have zf7 := blk_free hz.out 7
          go_wp2_with fail
          obtain ⟨hs, hbs, hot, hss⟩ := set8 hz.out (.int .i64 0) (.string ⟨#[]⟩) (.int .i64 0) (.int .i64 0) (.slice none 0 0) (.string ⟨#[]⟩) (.int .i64 0) (.slice none 0 0)
          obtain ⟨wf, hwf⟩ : ∃ wf, ((((((((w'.setCell ⟨N, 0, none⟩ (.int .i64 0)).setCell ⟨N, 1, none⟩ (.string ⟨#[]⟩)).setCell ⟨N, 2, none⟩ (.int .i64 0)).setCell ⟨N, 3, none⟩ (.int .i64 0)).setCell ⟨N, 4, none⟩ (.slice none 0 0)).setCell ⟨N, 5, none⟩ (.string ⟨#[]⟩)).setCell ⟨N, 6, none⟩ (.int .i64 0)).setCell ⟨N, 7, none⟩ (.slice none 0 0)) = wf := ⟨_, rfl⟩
          rw [hwf] at hs hbs hot hss ⊢
          have r0 := blk_cell (j := 0) (v := .int .i64 0) hs rfl
          have r1 := blk_cell (j := 1) (v := .string ⟨#[]⟩) hs rfl
          have r2 := blk_cell (j := 2) (v := .int .i64 0) hs rfl
          have r3 := blk_cell (j := 3) (v := .int .i64 0) hs rfl
          have r4 := blk_cell (j := 4) (v := .slice none 0 0) hs rfl
          have r5 := blk_cell (j := 5) (v := .string ⟨#[]⟩) hs rfl
          have r6 := blk_cell (j := 6) (v := .int .i64 0) hs rfl
          have r7 := blk_cell (j := 7) (v := .slice none 0 0) hs rfl
          exact bodyPost_ret (v := .tuple #[.agg #[.int .i64 0, .string ⟨#[]⟩, .int .i64 0, .int .i64 0, .slice none 0 0, .string ⟨#[]⟩, .int .i64 0, .slice none 0 0], .int .i64 12]) (by simp [results, Try.results17, go_sem, r0, r1, r2, r3, r4, r5, r6, r7]) rfl ⟨by rw [hdec.out]; rfl, by unfold Gr; rw [hN.out]; exact hb.out.trans hbs⟩
        | true =>
          rw [hG] at hva hdec
          simp only [if_true] at hdec
          replace hdec := Lib.hid hdec
          replace hva := Lib.hid hva
          go_wp2_with fail
          refine hen.out.mono ?_
          rintro e w' ⟨rfl, rfl⟩
          clear hen
          go_wp2_with fail
          refine hva.out.mono ?_
          rintro e w' ⟨rfl, hgv⟩
          replace hz := Lib.hid (blk_below hz.out hgv)
          replace hb := Lib.hid (hb.out.trans (Below.mono hgv (by have := hb.out.size; rw [hN.out] at this; omega)))
          replace hm := Lib.hid (blk_below hm.out hgv)
          replace hD := DB.gr hgv hD
          replace hP := Lib.hid (show World.ownsRow _ _ _ _ _ _ _ ∧ _ from ⟨row_below hP.out.1 hgv, hP.out.2⟩)
          clear hva y0 y1 y2 y3 y4 y5 y6 y7 hgv
          have y0 := blk_cell (j := 0) (v := .int .i64 k1) hm.out rfl
          have y1 := blk_cell (j := 1) (v := .string (bs k2)) hm.out rfl
          have y2 := blk_cell (j := 2) (v := .int .i64 k3) hm.out rfl
          have y3 := blk_cell (j := 3) (v := .int .i64 k4) hm.out rfl
          have y4 := blk_cell (j := 4) (v := .slice (some ⟨D, 0, none⟩) dl dc) hm.out rfl
          have y5 := blk_cell (j := 5) (v := .string (bs k6)) hm.out rfl
          have y6 := blk_cell (j := 6) (v := .int .i64 k7) hm.out rfl
          have y7 := blk_cell (j := 7) (v := .slice pA np pc) hm.out rfl
          have z0 := blk_cell (j := 0) (v := .int .i64 0) hz.out rfl
          have zf0 := blk_free hz.out 0
          have z1 := blk_cell (j := 1) (v := .string ⟨#[]⟩) hz.out rfl
          have zf1 := blk_free hz.out 1
          have z2 := blk_cell (j := 2) (v := .int .i64 0) hz.out rfl
          have zf2 := blk_free hz.out 2
          have z3 := blk_cell (j := 3) (v := .int .i64 0) hz.out rfl
          have zf3 := blk_free hz.out 3
          have z4 := blk_cell (j := 4) (v := .slice none 0 0) hz.out rfl
          have zf4 := blk_free hz.out 4
          have z5 := blk_cell (j := 5) (v := .string ⟨#[]⟩) hz.out rfl
          have zf5 := blk_free hz.out 5
          have z6 := blk_cell (j := 6) (v := .int .i64 0) hz.out rfl
          have zf6 := blk_free hz.out 6
          have z7 := blk_cell (j := 7) (v := .slice none 0 0) hz.out rfl
          have zf7 := blk_free hz.out 7
          go_wp2_with fail
          obtain ⟨hs, hbs, hot, hss⟩ := set8 hz.out (.int .i64 k1) (.string (bs k2)) (.int .i64 k3) (.int .i64 k4) (.slice (some ⟨D, 0, none⟩) dl dc) (.string (bs k6)) (.int .i64 k7) (.slice pA np pc)
          obtain ⟨wf, hwf⟩ : ∃ wf, ((((((((w'.setCell ⟨N, 0, none⟩ (.int .i64 k1)).setCell ⟨N, 1, none⟩ (.string (bs k2))).setCell ⟨N, 2, none⟩ (.int .i64 k3)).setCell ⟨N, 3, none⟩ (.int .i64 k4)).setCell ⟨N, 4, none⟩ (.slice (some ⟨D, 0, none⟩) dl dc)).setCell ⟨N, 5, none⟩ (.string (bs k6))).setCell ⟨N, 6, none⟩ (.int .i64 k7)).setCell ⟨N, 7, none⟩ (.slice pA np pc)) = wf := ⟨_, rfl⟩
          rw [hwf] at hs hbs hot hss ⊢
          have r0 := blk_cell (j := 0) (v := .int .i64 k1) hs rfl
          have r1 := blk_cell (j := 1) (v := .string (bs k2)) hs rfl
          have r2 := blk_cell (j := 2) (v := .int .i64 k3) hs rfl
          have r3 := blk_cell (j := 3) (v := .int .i64 k4) hs rfl
          have r4 := blk_cell (j := 4) (v := .slice (some ⟨D, 0, none⟩) dl dc) hs rfl
          have r5 := blk_cell (j := 5) (v := .string (bs k6)) hs rfl
          have r6 := blk_cell (j := 6) (v := .int .i64 k7) hs rfl
          have r7 := blk_cell (j := 7) (v := .slice pA np pc) hs rfl
          have hfb : Byt k5 (.slice (some ⟨D, 0, none⟩) dl dc) wf := (DB.keep hD (hot D (by omega)) (by rw [hss]; exact Nat.le_refl _)).out.y
          have hfp : Pls L (.slice pA np pc) wf := OP.pls (base := g + 1) ⟨row_keep hP.out.1 (fun k hk => hot k (by have := (World.ownsRow.lt hP.out.1 k hk).1; omega)), hP.out.2⟩
          exact bodyPost_ret (v := .tuple #[.agg #[.int .i64 k1, .string (bs k2), .int .i64 k3, .int .i64 k4, .slice (some ⟨D, 0, none⟩) dl dc, .string (bs k6), .int .i64 k7, .slice pA np pc], .int .i64 0]) (by simp [results, Try.results17, go_sem, r0, r1, r2, r3, r4, r5, r6, r7]) rfl ⟨by rw [hdec.out]; exact ⟨_, rfl, _, _, _, _, by unfold Nt.agg; simp only; rw [hdl.out, hnp.out], by simp only; rw [hdl.out]; exact hfb, by simp only; rw [hnp.out]; exact hfp, fun ad e => by injection e with e; rw [← e, hN.out]; show N ≤ D; omega, fun ad e => by rw [e] at hP; have := (World.ownsRow.lt hP.out.1 ad.block rfl).1; rw [hN.out]; omega⟩, by unfold Gr; rw [hN.out]; exact hb.out.trans hbs⟩
end Go.Proofs.Ytgdbbjijneidaaa
