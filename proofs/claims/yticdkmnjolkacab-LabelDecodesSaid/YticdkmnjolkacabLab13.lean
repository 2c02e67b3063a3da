/- Records of label: guess of a shard. -/
import Derived.Test.YticdkmnjolkacabLab12
import Derived.Test.YticdkmnjolkacabReg2
namespace Go.Proofs.Yticdkmnjolkacab
set_option linter.unusedVariables false
set_option linter.unusedSimpArgs false
open Go Go.RowKit
/-- no cell is a byte -/
def noU8 (cs : List Value) : Bool := cs.all (fun v => match v with | .int .u8 _ => false | _ => true)
theorem noU8_get {cs : Array Value} (h : noU8 cs.toList = true) {j : Nat} {x : Int} : cs[j]? ≠ some (.int .u8 x) := by
  intro e
  have hm : (Value.int .u8 x) ∈ cs.toList := by
    have e' : cs.toList[j]? = some (.int .u8 x) := by simpa using e
    exact List.mem_of_getElem? e'
  unfold noU8 at h
  rw [List.all_eq_true] at h
  have := h _ hm
  simp at this
theorem Rd.recSet {w : World} {B m : Nat} {A : Option Addr} {l : List UInt8} {cs : Array Value} {T : TypeId} (h : Rd w B A l) (hh : w.heap[m]? = some (.cells cs T (0, 0))) (hno : noU8 cs.toList = true) (j : Nat) (u : Value) : Rd (w.setCell ⟨m, j, none⟩ u) B A l := by
  refine ⟨h.1, fun hn => ?_⟩
  obtain ⟨ad, rfl, hb, hc⟩ := h.2 hn
  refine ⟨ad, rfl, hb, fun i v hv => ?_⟩
  have hne : ad.block ≠ m := by
    intro e
    obtain ⟨x, hx⟩ : ∃ x, l[0]? = some x := ⟨l[0], List.getElem?_eq_getElem hn⟩
    obtain ⟨ad', e1, -, hc1⟩ := h.get hx
    injection e1 with e1
    subst e1
    have hf := flat_of hc1
    rw [hf, add_of] at hc1
    simp only [Nat.add_zero] at hc1
    rw [e] at hc1
    unfold World.cell? at hc1
    rw [hh] at hc1
    exact noU8_get hno hc1
  rw [World.cell?_setCell_other w _ _ _ (fun e => by have := congrArg Addr.block e; rw [block_of_add] at this; exact hne this.symm)]
  exact hc i v hv
theorem Rdr.recSet {w : World} {g m : Nat} {st : RS} {cs : Array Value} {T : TypeId} (h : Rdr w g st) (hh : w.heap[m]? = some (.cells cs T (0, 0))) (hno : noU8 cs.toList = true) (hm : g ≠ m) (j : Nat) (u : Value) : Rdr (w.setCell ⟨m, j, none⟩ u) g st := by
  cases st with
  | none => exact (blk_other hm j u).trans h
  | some l =>
    obtain ⟨A, c, h1, h2, h3, h4⟩ := h
    exact ⟨A, c, (blk_other hm j u).trans h1, h2, h3, h4.recSet hh hno j u⟩
/-- bytes below block L -/
theorem Rd.grownHi {w w' : World} {L g : Nat} {A : Option Addr} {l : List UInt8} (h : Rd w L A l) (hg : w.grownBy w' (some g)) (hl : L ≤ w.heap.size ∧ L ≤ g) : Rd w' L A l :=
  Reads.grown h hg hl.1 (fun k hk => by injection hk with hk; omega)
theorem Rd.setHi {w : World} {L g : Nat} {A : Option Addr} {l : List UInt8} (h : Rd w L A l) (hg : L ≤ g) (j : Nat) (u : Value) : Rd (w.setCell ⟨g, j, none⟩ u) L A l :=
  Reads.setCell (p := ⟨g, j, none⟩) h hg u
def RL (st : RS) : Prop := ∀ l', st = some l' → l'.length ≤ 140737488355328
theorem RL.get {st : RS} (h : RL st) (most : Int) : RL (rget st most).2 := by
  intro l' e
  unfold rget at e
  split at e
  · cases e
  · rename_i l
    split at e
    · cases e
    · split at e
      · injection e with e
        subst e
        have := h l rfl
        simp only [List.length_drop]
        omega
      · cases e
theorem RL.text {st : RS} (h : RL st) (most : Int) : RL (rtext st most).2 := by
  intro l' e
  unfold rtext at e
  split at e
  · cases e
  · rename_i n l hq
    have hl : l.length ≤ 140737488355328 := h.get most l (by rw [hq])
    split at e
    · injection e with e
      subst e
      simp only [List.length_drop]
      omega
    · cases e
theorem Rd.recSet10 {w : World} {B m : Nat} {A : Option Addr} {l : List UInt8} {T : TypeId} {z0 z1 z2 z3 z4 z5 z6 z7 z8 z9 : Value} (h : Rd w B A l) (hh : w.heap[m]? = some (.cells #[z0, z1, z2, z3, z4, z5, z6, z7, z8, z9] T (0, 0))) (hno : noU8 [z0, z1, z2, z3, z4, z5, z6, z7, z8, z9] = true)
    (a0 a1 a2 a3 a4 a5 a6 a7 a8 a9 : Value) : Rd ((((((((((w.setCell ⟨m, 0, none⟩ a0).setCell ⟨m, 1, none⟩ a1).setCell ⟨m, 2, none⟩ a2).setCell ⟨m, 3, none⟩ a3).setCell ⟨m, 4, none⟩ a4).setCell ⟨m, 5, none⟩ a5).setCell ⟨m, 6, none⟩ a6).setCell ⟨m, 7, none⟩ a7).setCell ⟨m, 8, none⟩ a8).setCell ⟨m, 9, none⟩ a9) B A l := by
  refine ⟨h.1, fun hn => ?_⟩
  obtain ⟨ad, rfl, hb, hc⟩ := h.2 hn
  refine ⟨ad, rfl, hb, fun i v hv => ?_⟩
  have hne : ad.block ≠ m := by
    intro e
    obtain ⟨x, hx⟩ : ∃ x, l[0]? = some x := ⟨l[0], List.getElem?_eq_getElem hn⟩
    obtain ⟨ad', e1, -, hc1⟩ := h.get hx
    injection e1 with e1
    subst e1
    have hf := flat_of hc1
    rw [hf, add_of] at hc1
    simp only [Nat.add_zero] at hc1
    rw [e] at hc1
    unfold World.cell? at hc1
    rw [hh] at hc1
    exact noU8_get hno hc1
  have hk : ∀ (W : World) (j : Nat) (u : Value), (W.setCell ⟨m, j, none⟩ u).cell? (ad.add i) = W.cell? (ad.add i) := fun W j u => World.cell?_setCell_other W _ _ _ (fun e => by have := congrArg Addr.block e; rw [block_of_add] at this; exact hne this.symm)
  rw [hk, hk, hk, hk, hk, hk, hk, hk, hk, hk]
  exact hc i v hv
theorem bclone_any (A : Option Addr) (n c : Nat) (l : List UInt8) (hn : l.length = n) (hl : n ≤ 140737488355328) (w : World) (hr : Rd w w.heap.size A l) :
    Calls Try.prog 51 #[.slice A n c] w fun e w' => ∃ v, e = .returned v ∧ OB w' w.heap.size v l ∧ Below w.heap.size w w' := by
  rcases A with _ | ad
  · have hl0 : l = [] := by
      rcases l with _ | ⟨x, l⟩
      · rfl
      · obtain ⟨_, h, _⟩ := hr.at_ (k := 0) (by simp)
        cases h
    subst hl0
    obtain rfl : n = 0 := hn.symm
    have hnil := fun w => Lib.run_eql_slice_nil (P := Try.prog) w 24 5 none 0 c 0 0 Try.underlying24
    go_enter Try.func51, Try.ntmps51
    go_wp2
    go_ret
    exact ⟨_, rfl, OB.nil_ _ _, Below.refl _ _⟩
  · have ho := Lib.hid (OB.empty w w.heap.size (Nat.le_refl _))
    have hrw := Lib.hid (hr.alloc (Nat.le_refl _) (.cells #[] 5))
    clear hr
    replace hn := Lib.hid hn
    have hnil := fun w => Lib.run_eql_slice_nil (P := Try.prog) w 24 5 (some ad) n c 0 0 Try.underlying24
    go_enter Try.func51, Try.ntmps51
    go_wp2_with (at_builtin; go_must (refine wpl_append rfl (.tmp 5) (.tmp 6) rfl w.heap.size (.slice (some ⟨w.heap.size, 0, none⟩) 0 0) [] rfl ho.out w.heap.size (some ad) c l (by rw [hn.out]; rfl) hrw.out (by simp; rw [hn.out]; omega) (by simp) ?_); intro v1 w1 hown1 hg1 _)
    go_ret
    exact ⟨v1, rfl, by simpa using hown1, below_app ho.out ((Below.refl _ _).alloc (Nat.le_refl _) _) (by simp) hg1⟩
/-- the reads of a shard's fields, one by one -/
def gs2 (l : List UInt8) (t s : Nat) : Rc :=
  ⟨2, 0, (rtext (some (l.take t)) 16).1, (rget (rtext (some (l.take t)) 16).2 1099511627776).1, (rget (rget (rtext (some (l.take t)) 16).2 1099511627776).2 4).1,
    (rget (rget (rget (rtext (some (l.take t)) 16).2 1099511627776).2 4).2 4).1, (rget (rget (rget (rget (rtext (some (l.take t)) 16).2 1099511627776).2 4).2 4).2 10).1,
    (rget (rget (rget (rget (rget (rtext (some (l.take t)) 16).2 1099511627776).2 4).2 4).2 10).2 512).1, (l.drop t).take (s - t), l.drop s⟩
def guess2 (l : List UInt8) : Rc := gs2 l (l.length - 48) (min l.length (l.length - 48 + 32))
set_option maxHeartbeats 8000000 in
set_option maxRecDepth 20000 in
theorem guess2_at (ab ao n c t s : Nat) (l : List UInt8) (hn : l.length = n) (hl : n ≤ 140737488355328) (hnc : n + 4 ≤ c) (hcm : c ≤ 9223372036854775807) (ht : t = n - 48) (hs : s = min n (t + 32)) (w : World) (hab : ab < w.heap.size) (hr : Rd w w.heap.size (some ⟨ab, ao, none⟩) l) :
    Calls Try.prog 43 #[.int .i64 2, .slice (some ⟨ab, ao, none⟩) n c] w fun e w' => ∃ A9 c9, e = .returned ((gs2 l t s).agg A9 c9) ∧ Rd w' w'.heap.size A9 (gs2 l t s).data ∧ Below w.heap.size w w' := by
  obtain ⟨tx, s1, e1⟩ : ∃ tx s1, rtext (some (l.take t)) 16 = (tx, s1) := ⟨_, _, rfl⟩
  obtain ⟨gn, s2, e2⟩ : ∃ tx sx, rget s1 1099511627776 = (tx, sx) := ⟨_, _, rfl⟩
  obtain ⟨gr, s3, e3⟩ : ∃ tx sx, rget s2 4 = (tx, sx) := ⟨_, _, rfl⟩
  obtain ⟨gs, s4, e4⟩ : ∃ tx sx, rget s3 4 = (tx, sx) := ⟨_, _, rfl⟩
  obtain ⟨ix, s5, e5⟩ : ∃ tx sx, rget s4 10 = (tx, sx) := ⟨_, _, rfl⟩
  obtain ⟨sz, s6, e6⟩ : ∃ tx sx, rget s5 512 = (tx, sx) := ⟨_, _, rfl⟩
  obtain ⟨sm, hsm⟩ : ∃ sm, (l.drop t).take (s - t) = sm := ⟨_, rfl⟩
  have hl0 : RL (some (l.take t)) := fun l' e => by injection e with e; subst e; rw [List.length_take]; omega
  have hl1 : RL s1 := by have := hl0.text 16; rwa [e1] at this
  have hl2 : RL s2 := by have := hl1.get 1099511627776; rwa [e2] at this
  have hl3 : RL s3 := by have := hl2.get 4; rwa [e3] at this
  have hl4 : RL s4 := by have := hl3.get 4; rwa [e4] at this
  have hl5 : RL s5 := by have := hl4.get 10; rwa [e5] at this
  have hgs : gs2 l t s = ⟨2, 0, tx, gn, gr, gs, ix, sz, sm, l.drop s⟩ := by
    unfold gs2
    simp only [e1, e2, e3, e4, e5, e6, hsm]
  rw [hgs]
  replace e1 := Lib.hid e1
  replace e2 := Lib.hid e2
  replace e3 := Lib.hid e3
  replace e4 := Lib.hid e4
  replace e5 := Lib.hid e5
  replace e6 := Lib.hid e6
  replace hl0 := Lib.hid hl0
  replace hl1 := Lib.hid hl1
  replace hl2 := Lib.hid hl2
  replace hl3 := Lib.hid hl3
  replace hl4 := Lib.hid hl4
  replace hl5 := Lib.hid hl5
  replace hsm := Lib.hid hsm
  have hdl : (l.drop s).length = n - s := by rw [List.length_drop, hn]
  unfold Rc.agg
  rw [hdl]
  replace hdl := Lib.hid hdl
  have hb1 := (Below.refl w.heap.size w).alloc (Nat.le_refl _) (.cells #[.int .i64 0, .int .i64 0, .string .empty, .int .i64 0, .int .i64 0, .int .i64 0, .int .i64 0, .int .i64 0, .string .empty, .slice none 0 0] 34)
  have hb := Lib.hid (hb1.alloc hb1.size (.cells #[.int .i64 2, .int .i64 0, .string .empty, .int .i64 0, .int .i64 0, .int .i64 0, .int .i64 0, .int .i64 0, .string .empty, .slice none 0 0] 34))
  have h4 := Lib.hid (blk_alloc (heap_alloc_new w (.cells #[.int .i64 0, .int .i64 0, .string .empty, .int .i64 0, .int .i64 0, .int .i64 0, .int .i64 0, .int .i64 0, .string .empty, .slice none 0 0] 34)) (.cells #[.int .i64 2, .int .i64 0, .string .empty, .int .i64 0, .int .i64 0, .int .i64 0, .int .i64 0, .int .i64 0, .string .empty, .slice none 0 0] 34))
  have h5 := heap_alloc_new (w.alloc (.cells #[.int .i64 0, .int .i64 0, .string .empty, .int .i64 0, .int .i64 0, .int .i64 0, .int .i64 0, .int .i64 0, .string .empty, .slice none 0 0] 34)) (.cells #[.int .i64 2, .int .i64 0, .string .empty, .int .i64 0, .int .i64 0, .int .i64 0, .int .i64 0, .int .i64 0, .string .empty, .slice none 0 0] 34)
  have hsz : (w.alloc (.cells #[.int .i64 0, .int .i64 0, .string .empty, .int .i64 0, .int .i64 0, .int .i64 0, .int .i64 0, .int .i64 0, .string .empty, .slice none 0 0] 34)).heap.size = w.heap.size + 1 := by simp
  rw [hsz] at h5
  have hR0 : Rd ((w.alloc (.cells #[.int .i64 0, .int .i64 0, .string .empty, .int .i64 0, .int .i64 0, .int .i64 0, .int .i64 0, .int .i64 0, .string .empty, .slice none 0 0] 34)).alloc (.cells #[.int .i64 2, .int .i64 0, .string .empty, .int .i64 0, .int .i64 0, .int .i64 0, .int .i64 0, .int .i64 0, .string .empty, .slice none 0 0] 34)) w.heap.size (some ⟨ab, ao, none⟩) l := (hr.alloc (Nat.le_refl _) _).alloc (by simp) _
  obtain ⟨N, hN⟩ : ∃ N, w.heap.size = N := ⟨_, rfl⟩
  rw [hN] at h4 h5 hb hR0 hab ⊢
  have hlt1 : N + 2 = ((w.alloc (.cells #[.int .i64 0, .int .i64 0, .string .empty, .int .i64 0, .int .i64 0, .int .i64 0, .int .i64 0, .int .i64 0, .string .empty, .slice none 0 0] 34)).alloc (.cells #[.int .i64 2, .int .i64 0, .string .empty, .int .i64 0, .int .i64 0, .int .i64 0, .int .i64 0, .int .i64 0, .string .empty, .slice none 0 0] 34)).heap.size := by simp; omega
  have hR := Lib.hid hR0
  have hRt := Lib.hid ((hR0.more (B' := ((w.alloc (.cells #[.int .i64 0, .int .i64 0, .string .empty, .int .i64 0, .int .i64 0, .int .i64 0, .int .i64 0, .int .i64 0, .string .empty, .slice none 0 0] 34)).alloc (.cells #[.int .i64 2, .int .i64 0, .string .empty, .int .i64 0, .int .i64 0, .int .i64 0, .int .i64 0, .int .i64 0, .string .empty, .slice none 0 0] 34)).heap.size) (by omega)).take t (by omega))
  replace h5 := Lib.hid h5
  replace hN := Lib.hid hN
  replace hlt1 := Lib.hid hlt1
  have hlt : (l.take t).length = t := by rw [List.length_take]; omega
  replace hlt := Lib.hid hlt
  replace hn := Lib.hid hn
  have hwN : N ≤ N + 1 := by omega
  have htn : t ≤ n := by omega
  have hts : t ≤ s := by omega
  have hsn : s ≤ n := by omega
  have hmax : (if (16 : Int) < (n : Int) - 32 then (n : Int) - 32 - 16 else 0) = (t : Int) := by split <;> omega
  have hmin : (if (t : Int) + 32 < (n : Int) then (t : Int) + 32 else (n : Int)) = (s : Int) := by split <;> omega
  have hw32 : IntKind.i64.wrap ((n : Int) - 32) = (n : Int) - 32 := IntWalk.i64_in _ (by omega)
  have hw16 : IntKind.i64.wrap ((n : Int) - 32 - 16) = (n : Int) - 32 - 16 := IntWalk.i64_in _ (by omega)
  have hsc : s ≤ c := by omega
  have hct : ¬ (c = t) := by omega
  have hcs : ¬ (c = s) := by omega
  replace ht := Lib.hid ht
  replace hs := Lib.hid hs
  clear hb1 hsz hr hR0 hgs
  go_enter Try.func43, Try.ntmps43
  go_wp2_with fail
  rw [hN.out]
  refine (new_any (some ⟨ab, ao, none⟩) t c _ hlt.out (by omega) _ hRt.out).mono ?_
  rintro e w3 ⟨g, rfl, hgg, hrd, hbb⟩
  rw [← hlt1.out] at hgg
  replace hb := Lib.hid (hb.out.trans (hbb.mono (by rw [← hlt1.out]; omega)))
  replace h4 := Lib.hid (blk_below h4.out hbb)
  replace h5 := Lib.hid (blk_below h5.out hbb)
  replace hR := Lib.hid (hR.out.keep (fun p hp => hbb.cell (by rw [← hlt1.out]; omega)))
  replace hrd := Lib.hid hrd
  clear hbb hRt
  have hlo : N ≤ w3.heap.size ∧ N ≤ g := ⟨by have := hb.out.size; have := hN.out; omega, by omega⟩
  go_wp2_with fail
  refine (rtext_any g _ 16 (by decide) (by decide) _ hrd.out hl0.out).mono ?_
  rw [e1.out]
  rintro e w4 ⟨rfl, hs1, hgr⟩
  have h4' := (hgr.block N (blk_lt h4.out) (fun e => by injection e with e; omega)).trans h4.out
  have h5' := (hgr.block (N + 1) (blk_lt h5.out) (fun e => by injection e with e; omega)).trans h5.out
  have hb0 := hb
  replace hb := Lib.hid (hb.out.grown hgr (by rw [← hN.out]; exact hb.out.size) (fun k hk => by injection hk with hk; omega))
  replace hR := Lib.hid (hR.out.grownHi hgr ⟨by have := hb0.out.size; have := hN.out; omega, by omega⟩)
  replace h4 := Lib.hid h4'
  replace h5 := Lib.hid h5'
  replace hrd := Lib.hid hs1
  clear hgr hs1 h4' h5' hb0
  go_wp2_with fail
  refine (get_any g _ 1099511627776 (by decide) (by decide) _ hrd.out hl1.out).mono ?_
  rw [e2.out]
  rintro e w5 ⟨rfl, hs1, hgr⟩
  have h4' := (hgr.block N (blk_lt h4.out) (fun e => by injection e with e; omega)).trans h4.out
  have h5' := (hgr.block (N + 1) (blk_lt h5.out) (fun e => by injection e with e; omega)).trans h5.out
  have hb0 := hb
  replace hb := Lib.hid (hb.out.grown hgr (by rw [← hN.out]; exact hb.out.size) (fun k hk => by injection hk with hk; omega))
  replace hR := Lib.hid (hR.out.grownHi hgr ⟨by have := hb0.out.size; have := hN.out; omega, by omega⟩)
  replace h4 := Lib.hid h4'
  replace h5 := Lib.hid h5'
  replace hrd := Lib.hid hs1
  clear hgr hs1 h4' h5' hb0
  have p2 := blk_cell (j := 2) (v := .string .empty) h5.out rfl
  have p3 := blk_cell (j := 3) (v := .int .i64 0) h5.out rfl
  have q2 := blk_free h5.out 2
  have q3 := blk_free h5.out 3
  have hset := blk_set (blk_set h5.out 2 (.string (bs tx))) 3 (.int .i64 gn)
  have h4s := (blk_other (g := N + 1) (k := N) (by omega) 3 (.int .i64 gn)).trans ((blk_other (w := w5) (g := N + 1) (k := N) (by omega) 2 (.string (bs tx))).trans h4.out)
  have hbs := setLo (setLo hb.out (g := N + 1) (j := 2) hwN (.string (bs tx))) (g := N + 1) (j := 3) hwN (.int .i64 gn)
  have hrs := (hrd.out.recSet h5.out (by rfl) (by omega) 2 (.string (bs tx))).recSet (blk_set h5.out 2 (.string (bs tx))) (by rfl) (by omega) 3 (.int .i64 gn)
  have hRs := (hR.out.setHi (g := N + 1) (by omega) 2 (.string (bs tx))).setHi (g := N + 1) (by omega) 3 (.int .i64 gn)
  obtain ⟨w6, hw6⟩ : ∃ w6, (w5.setCell ⟨N + 1, 2, none⟩ (.string (bs tx))).setCell ⟨N + 1, 3, none⟩ (.int .i64 gn) = w6 := ⟨_, rfl⟩
  rw [hw6] at hset h4s hbs hrs hRs
  replace h5 : Hid (w6.heap[N + 1]? = some (.cells #[.int .i64 2, .int .i64 0, .string (bs tx), .int .i64 gn, .int .i64 0, .int .i64 0, .int .i64 0, .int .i64 0, .string .empty, .slice none 0 0] 34 (0, 0))) := Lib.hid hset
  replace h4 := Lib.hid h4s
  replace hb := Lib.hid hbs
  replace hrd := Lib.hid hrs
  replace hR := Lib.hid hRs
  clear hset h4s hbs hrs hRs
  go_wp2_with fail
  clear p2 p3 q2 q3
  replace hw6 := Lib.hid hw6
  refine (get_any g _ 4 (by decide) (by decide) _ hrd.out hl2.out).mono ?_
  rw [e3.out]
  rintro e w7 ⟨rfl, hs1, hgr⟩
  have h4' := (hgr.block N (blk_lt h4.out) (fun e => by injection e with e; omega)).trans h4.out
  have h5' := (hgr.block (N + 1) (blk_lt h5.out) (fun e => by injection e with e; omega)).trans h5.out
  have hb0 := hb
  replace hb := Lib.hid (hb.out.grown hgr (by rw [← hN.out]; exact hb.out.size) (fun k hk => by injection hk with hk; omega))
  replace hR := Lib.hid (hR.out.grownHi hgr ⟨by have := hb0.out.size; have := hN.out; omega, by omega⟩)
  replace h4 := Lib.hid h4'
  replace h5 := Lib.hid h5'
  replace hrd := Lib.hid hs1
  clear hgr hs1 h4' h5' hb0
  go_wp2_with fail
  refine (get_any g _ 4 (by decide) (by decide) _ hrd.out hl3.out).mono ?_
  rw [e4.out]
  rintro e w8 ⟨rfl, hs1, hgr⟩
  have h4' := (hgr.block N (blk_lt h4.out) (fun e => by injection e with e; omega)).trans h4.out
  have h5' := (hgr.block (N + 1) (blk_lt h5.out) (fun e => by injection e with e; omega)).trans h5.out
  have hb0 := hb
  replace hb := Lib.hid (hb.out.grown hgr (by rw [← hN.out]; exact hb.out.size) (fun k hk => by injection hk with hk; omega))
  replace hR := Lib.hid (hR.out.grownHi hgr ⟨by have := hb0.out.size; have := hN.out; omega, by omega⟩)
  replace h4 := Lib.hid h4'
  replace h5 := Lib.hid h5'
  replace hrd := Lib.hid hs1
  clear hgr hs1 h4' h5' hb0
  have p2 := blk_cell (j := 4) (v := .int .i64 0) h5.out rfl
  have p3 := blk_cell (j := 5) (v := .int .i64 0) h5.out rfl
  have q2 := blk_free h5.out 4
  have q3 := blk_free h5.out 5
  have hset := blk_set (blk_set h5.out 4 (.int .i64 gr)) 5 (.int .i64 gs)
  have h4s := (blk_other (g := N + 1) (k := N) (by omega) 5 (.int .i64 gs)).trans ((blk_other (w := w8) (g := N + 1) (k := N) (by omega) 4 (.int .i64 gr)).trans h4.out)
  have hbs := setLo (setLo hb.out (g := N + 1) (j := 4) hwN (.int .i64 gr)) (g := N + 1) (j := 5) hwN (.int .i64 gs)
  have hrs := (hrd.out.recSet h5.out (by rfl) (by omega) 4 (.int .i64 gr)).recSet (blk_set h5.out 4 (.int .i64 gr)) (by rfl) (by omega) 5 (.int .i64 gs)
  have hRs := (hR.out.setHi (g := N + 1) (by omega) 4 (.int .i64 gr)).setHi (g := N + 1) (by omega) 5 (.int .i64 gs)
  obtain ⟨w9, hw6⟩ : ∃ w6, (w8.setCell ⟨N + 1, 4, none⟩ (.int .i64 gr)).setCell ⟨N + 1, 5, none⟩ (.int .i64 gs) = w6 := ⟨_, rfl⟩
  rw [hw6] at hset h4s hbs hrs hRs
  replace h5 : Hid (w9.heap[N + 1]? = some (.cells #[.int .i64 2, .int .i64 0, .string (bs tx), .int .i64 gn, .int .i64 gr, .int .i64 gs, .int .i64 0, .int .i64 0, .string .empty, .slice none 0 0] 34 (0, 0))) := Lib.hid hset
  replace h4 := Lib.hid h4s
  replace hb := Lib.hid hbs
  replace hrd := Lib.hid hrs
  replace hR := Lib.hid hRs
  clear hset h4s hbs hrs hRs
  go_wp2_with fail
  clear p2 p3 q2 q3
  replace hw6 := Lib.hid hw6
  refine (get_any g _ 10 (by decide) (by decide) _ hrd.out hl4.out).mono ?_
  rw [e5.out]
  rintro e w10 ⟨rfl, hs1, hgr⟩
  have h4' := (hgr.block N (blk_lt h4.out) (fun e => by injection e with e; omega)).trans h4.out
  have h5' := (hgr.block (N + 1) (blk_lt h5.out) (fun e => by injection e with e; omega)).trans h5.out
  have hb0 := hb
  replace hb := Lib.hid (hb.out.grown hgr (by rw [← hN.out]; exact hb.out.size) (fun k hk => by injection hk with hk; omega))
  replace hR := Lib.hid (hR.out.grownHi hgr ⟨by have := hb0.out.size; have := hN.out; omega, by omega⟩)
  replace h4 := Lib.hid h4'
  replace h5 := Lib.hid h5'
  replace hrd := Lib.hid hs1
  clear hgr hs1 h4' h5' hb0
  go_wp2_with fail
  refine (get_any g _ 512 (by decide) (by decide) _ hrd.out hl5.out).mono ?_
  rw [e6.out]
  rintro e w11 ⟨rfl, hs1, hgr⟩
  have h4' := (hgr.block N (blk_lt h4.out) (fun e => by injection e with e; omega)).trans h4.out
  have h5' := (hgr.block (N + 1) (blk_lt h5.out) (fun e => by injection e with e; omega)).trans h5.out
  have hb0 := hb
  replace hb := Lib.hid (hb.out.grown hgr (by rw [← hN.out]; exact hb.out.size) (fun k hk => by injection hk with hk; omega))
  replace hR := Lib.hid (hR.out.grownHi hgr ⟨by have := hb0.out.size; have := hN.out; omega, by omega⟩)
  replace h4 := Lib.hid h4'
  replace h5 := Lib.hid h5'
  replace hrd := Lib.hid hs1
  clear hgr hs1 h4' h5' hb0
  have p2 := blk_cell (j := 6) (v := .int .i64 0) h5.out rfl
  have p3 := blk_cell (j := 7) (v := .int .i64 0) h5.out rfl
  have q2 := blk_free h5.out 6
  have q3 := blk_free h5.out 7
  have hset := blk_set (blk_set h5.out 6 (.int .i64 ix)) 7 (.int .i64 sz)
  have h4s := (blk_other (g := N + 1) (k := N) (by omega) 7 (.int .i64 sz)).trans ((blk_other (w := w11) (g := N + 1) (k := N) (by omega) 6 (.int .i64 ix)).trans h4.out)
  have hbs := setLo (setLo hb.out (g := N + 1) (j := 6) hwN (.int .i64 ix)) (g := N + 1) (j := 7) hwN (.int .i64 sz)
  have hrs := (hrd.out.recSet h5.out (by rfl) (by omega) 6 (.int .i64 ix)).recSet (blk_set h5.out 6 (.int .i64 ix)) (by rfl) (by omega) 7 (.int .i64 sz)
  have hRs := (hR.out.setHi (g := N + 1) (by omega) 6 (.int .i64 ix)).setHi (g := N + 1) (by omega) 7 (.int .i64 sz)
  obtain ⟨w12, hw6⟩ : ∃ w6, (w11.setCell ⟨N + 1, 6, none⟩ (.int .i64 ix)).setCell ⟨N + 1, 7, none⟩ (.int .i64 sz) = w6 := ⟨_, rfl⟩
  rw [hw6] at hset h4s hbs hrs hRs
  replace h5 : Hid (w12.heap[N + 1]? = some (.cells #[.int .i64 2, .int .i64 0, .string (bs tx), .int .i64 gn, .int .i64 gr, .int .i64 gs, .int .i64 ix, .int .i64 sz, .string .empty, .slice none 0 0] 34 (0, 0))) := Lib.hid hset
  replace h4 := Lib.hid h4s
  replace hb := Lib.hid hbs
  replace hrd := Lib.hid hrs
  replace hR := Lib.hid hRs
  clear hset h4s hbs hrs hRs
  go_wp2_with fail
  obtain ⟨wd, hwd⟩ : ∃ wd, wd = w12.drew := ⟨_, rfl⟩
  replace h4 : Hid (wd.heap[N]? = some (.cells #[.int .i64 0, .int .i64 0, .string .empty, .int .i64 0, .int .i64 0, .int .i64 0, .int .i64 0, .int .i64 0, .string .empty, .slice none 0 0] 34 (0, 0))) := Lib.hid (by rw [hwd]; exact h4.out)
  replace h5 : Hid (wd.heap[N + 1]? = some (.cells #[.int .i64 2, .int .i64 0, .string (bs tx), .int .i64 gn, .int .i64 gr, .int .i64 gs, .int .i64 ix, .int .i64 sz, .string .empty, .slice none 0 0] 34 (0, 0))) := Lib.hid (by rw [hwd]; exact h5.out)
  replace hb : Hid (Below N w wd) := Lib.hid (by rw [hwd]; exact hb.out.drew)
  have hR0 : Rd wd N (some ⟨ab, ao, none⟩) l := by rw [hwd]; exact hR.out.drewN 1
  have hRm0 := hR0.mid (i := t) (m := s - t) (by have := hn.out; omega)
  rw [add_of, hsm.out] at hRm0
  have hRm := Lib.hid hRm0
  have hRd0 := hR0.cutAt (k := s) (by have := hn.out; omega)
  rw [Option.map_some, add_of] at hRd0
  have hRd := Lib.hid hRd0
  have hsl : Hid (sm.length = s - t) := Lib.hid (by rw [← hsm.out, List.length_take, List.length_drop, hn.out]; omega)
  clear hR0 hRm0 hRd0 hR hrd p2 p3 q2 q3 hw6
  refine wpR_region (Upd (fun k => k = N + 1)) 12 (by kernel_rfl) ?_
  (rw [← hwd]; replace hwd := Lib.hid hwd)
  refine wpR_take (i := 0) (v := ?_) (Upd.road _) (some 63) rfl (by kernel_rfl) (by kernel_rfl) (by kernel_rfl) (by kernel_rfl) (by kernel_rfl) (fun _ _ _ h => h) (by kernel_rfl) (fun w' hw' => ?_) ?_
  rotate_left
  · go_simp; with_reducible rfl
  simp only [Act.put, List.setIfInBounds_toArray, List.set_cons_zero, List.set_cons_succ]
  refine wpR_take (i := 1) (v := ?_) (Upd.road _) (some 64) rfl (by kernel_rfl) (by kernel_rfl) (by kernel_rfl) (by kernel_rfl) (by kernel_rfl) (fun _ _ _ h => h) (by kernel_rfl) (fun w' hw' => ?_) ?_
  rotate_left
  · go_simp; with_reducible rfl
  simp only [Act.put, List.setIfInBounds_toArray, List.set_cons_zero, List.set_cons_succ]
  refine wpR_take (i := 2) (v := ?_) (Upd.road _) (some 65) rfl (by kernel_rfl) (by kernel_rfl) (by kernel_rfl) (by kernel_rfl) (by kernel_rfl) (fun _ _ _ h => h) (by kernel_rfl) (fun w' hw' => ?_) ?_
  rotate_left
  · go_simp; with_reducible rfl
  simp only [Act.put, List.setIfInBounds_toArray, List.set_cons_zero, List.set_cons_succ]
  refine wpR_take (i := 3) (v := ?_) (Upd.road _) (some 66) rfl (by kernel_rfl) (by kernel_rfl) (by kernel_rfl) (by kernel_rfl) (by kernel_rfl) (fun _ _ _ h => h) (by kernel_rfl) (fun w' hw' => ?_) ?_
  rotate_left
  · go_simp; with_reducible rfl
  simp only [Act.put, List.setIfInBounds_toArray, List.set_cons_zero, List.set_cons_succ]
  refine wpR_take (i := 4) (v := ?_) (Upd.road _) (some 67) rfl (by kernel_rfl) (by kernel_rfl) (by kernel_rfl) (by kernel_rfl) (by kernel_rfl) (fun _ _ _ h => h) (by kernel_rfl) (fun w' hw' => ?_) ?_
  rotate_left
  · have q := run_str_at (w := w') (c - t) (hRm.out.keep (fun p hp => hw'.cell (by have := blk_lt h5.out; omega) (by omega))) hsl.out; go_simp; with_reducible rfl
  simp only [Act.put, List.setIfInBounds_toArray, List.set_cons_zero, List.set_cons_succ]
  refine wpR_take (i := 5) (v := ?_) (Upd.road _) (some 68) rfl (by kernel_rfl) (by kernel_rfl) (by kernel_rfl) (by kernel_rfl) (by kernel_rfl) (fun _ _ _ h => h) (by kernel_rfl) (fun w' hw' => ?_) ?_
  rotate_left
  · go_simp; with_reducible rfl
  simp only [Act.put, List.setIfInBounds_toArray, List.set_cons_zero, List.set_cons_succ]
  refine wpR_take (i := 6) (v := ?_) (Upd.road _) (some 69) rfl (by kernel_rfl) (by kernel_rfl) (by kernel_rfl) (by kernel_rfl) (by kernel_rfl) (fun _ _ _ h => h) (by kernel_rfl) (fun w' hw' => ?_) ?_
  rotate_left
  · go_simp; with_reducible rfl
  simp only [Act.put, List.setIfInBounds_toArray, List.set_cons_zero, List.set_cons_succ]
  refine wpR_take (i := 7) (v := ?_) (Upd.road _) (some 70) rfl (by kernel_rfl) (by kernel_rfl) (by kernel_rfl) (by kernel_rfl) (by kernel_rfl) (fun _ _ _ h => h) (by kernel_rfl) (fun w' hw' => ?_) ?_
  rotate_left
  · go_simp; with_reducible rfl
  simp only [Act.put, List.setIfInBounds_toArray, List.set_cons_zero, List.set_cons_succ]
  refine wpR_take (i := 9) (v := ?_) (Upd.road _) (some 72) rfl (by kernel_rfl) (by kernel_rfl) (by kernel_rfl) (by kernel_rfl) (by kernel_rfl) (fun _ _ _ h => h) (by kernel_rfl) (fun w' hw' => ?_) ?_
  rotate_left
  · go_simp; with_reducible rfl
  simp only [Act.put, List.setIfInBounds_toArray, List.set_cons_zero, List.set_cons_succ]
  refine wpR_one 8 rfl (by kernel_rfl) (by kernel_rfl) (fun K hK => ?_)
  go_simp
  refine (bclone_any (some ⟨ab, ao + s, none⟩) (n - s) (c - s) (l.drop s) hdl.out (by omega) _ (hRd.out.more (by have := hb.out.size; have := hN.out; omega))).mono ?_
  rintro e w13 ⟨v9, rfl, ho9, hbb⟩
  refine hK _ _ (fun _ => Upd.of_below hbb) ?_
  clear hK K
  have h4' := blk_below h4.out hbb
  have h5' := blk_below h5.out hbb
  replace hb := hb.out.trans (hbb.mono (by have := hb.out.size; have := hN.out; omega))
  obtain ⟨A9, c9, rfl, -, -, hR9, -⟩ := ho9.form
  rw [hdl.out]
  replace h4 := Lib.hid h4'
  replace h5 := Lib.hid h5'
  replace hb := Lib.hid hb
  replace hR9 := Lib.hid hR9
  clear hbb ho9 h4' h5'
  have p8 := blk_cell (j := 8) (v := .string .empty) h5.out rfl
  have q8 := blk_free h5.out 8
  try simp only [Act.put, List.setIfInBounds_toArray, List.set_cons_zero, List.set_cons_succ]
  refine wpR_one 10 rfl (by kernel_rfl) (by kernel_rfl) (fun K hK => ?_)
  go_simp
  refine hK _ _ (fun _ => Upd.of_grown (blk_grown _ _ _ _) rfl) ?_
  clear hK K
  clear p8 q8
  have hset := blk_set h5.out 8 (.string (bs sm))
  have h4s := (blk_other (w := w13) (g := N + 1) (k := N) (by omega) 8 (.string (bs sm))).trans h4.out
  have hbs := setLo hb.out (g := N + 1) (j := 8) hwN (.string (bs sm))
  have hrs := hR9.out.recSet h5.out (by rfl) 8 (.string (bs sm))
  obtain ⟨w14, hw14⟩ : ∃ w14, w13.setCell ⟨N + 1, 8, none⟩ (.string (bs sm)) = w14 := ⟨_, rfl⟩
  rw [hw14] at hset h4s hbs hrs ⊢
  replace hw14 := Lib.hid hw14
  replace h5 : Hid (w14.heap[N + 1]? = some (.cells #[.int .i64 2, .int .i64 0, .string (bs tx), .int .i64 gn, .int .i64 gr, .int .i64 gs, .int .i64 ix, .int .i64 sz, .string (bs sm), .slice none 0 0] 34 (0, 0))) := Lib.hid hset
  replace h4 := Lib.hid h4s
  replace hb := Lib.hid hbs
  replace hR9 := Lib.hid hrs
  clear hset h4s hbs hrs
  have p9 := blk_cell (j := 9) (v := .slice none 0 0) h5.out rfl
  have q9 := blk_free h5.out 9
  try simp only [Act.put, List.setIfInBounds_toArray, List.set_cons_zero, List.set_cons_succ]
  refine wpR_take (i := 11) (v := ?_) (Upd.road _) (some 73) rfl (by kernel_rfl) (by kernel_rfl) (by kernel_rfl) (by kernel_rfl) (by kernel_rfl) (fun _ _ _ h => h) (by kernel_rfl) (fun w' hw' => ?_) ?_
  rotate_left
  · go_simp; with_reducible rfl
  simp only [Act.put, List.setIfInBounds_toArray, List.set_cons_zero, List.set_cons_succ]
  refine wpR_one 12 rfl (by kernel_rfl) (by kernel_rfl) (fun K hK => ?_)
  go_simp
  refine hK _ _ (fun h => absurd rfl h) ?_
  clear hK K
  clear p9 q9
  have hset := blk_set h5.out 9 (.slice A9 (n - s) c9)
  have h4s := (blk_other (w := w14) (g := N + 1) (k := N) (by omega) 9 (.slice A9 (n - s) c9)).trans h4.out
  have hbs := setLo hb.out (g := N + 1) (j := 9) hwN (.slice A9 (n - s) c9)
  have hrs := hR9.out.recSet h5.out (by rfl) 9 (.slice A9 (n - s) c9)
  obtain ⟨w15, hw15⟩ : ∃ w15, w14.setCell ⟨N + 1, 9, none⟩ (.slice A9 (n - s) c9) = w15 := ⟨_, rfl⟩
  rw [hw15] at hset h4s hbs hrs ⊢
  replace hw15 := Lib.hid hw15
  replace h5 : Hid (w15.heap[N + 1]? = some (.cells #[.int .i64 2, .int .i64 0, .string (bs tx), .int .i64 gn, .int .i64 gr, .int .i64 gs, .int .i64 ix, .int .i64 sz, .string (bs sm), .slice A9 (n - s) c9] 34 (0, 0))) := Lib.hid hset
  replace h4 := Lib.hid h4s
  replace hb := Lib.hid hbs
  replace hR9 := Lib.hid hrs
  clear hset h4s hbs hrs
  try simp only [Act.put, List.setIfInBounds_toArray, List.set_cons_zero, List.set_cons_succ]
  refine wpR_done (by kernel_rfl) ?_ _
  have y0 := blk_cell (j := 0) (v := .int .i64 2) h5.out rfl
  have y1 := blk_cell (j := 1) (v := .int .i64 0) h5.out rfl
  have y2 := blk_cell (j := 2) (v := .string (bs tx)) h5.out rfl
  have y3 := blk_cell (j := 3) (v := .int .i64 gn) h5.out rfl
  have y4 := blk_cell (j := 4) (v := .int .i64 gr) h5.out rfl
  have y5 := blk_cell (j := 5) (v := .int .i64 gs) h5.out rfl
  have y6 := blk_cell (j := 6) (v := .int .i64 ix) h5.out rfl
  have y7 := blk_cell (j := 7) (v := .int .i64 sz) h5.out rfl
  have y8 := blk_cell (j := 8) (v := .string (bs sm)) h5.out rfl
  have y9 := blk_cell (j := 9) (v := .slice A9 (n - s) c9) h5.out rfl
  have z0 := blk_cell (j := 0) (v := .int .i64 0) h4.out rfl
  have f0 := blk_free h4.out 0
  have z1 := blk_cell (j := 1) (v := .int .i64 0) h4.out rfl
  have f1 := blk_free h4.out 1
  have z2 := blk_cell (j := 2) (v := .string .empty) h4.out rfl
  have f2 := blk_free h4.out 2
  have z3 := blk_cell (j := 3) (v := .int .i64 0) h4.out rfl
  have f3 := blk_free h4.out 3
  have z4 := blk_cell (j := 4) (v := .int .i64 0) h4.out rfl
  have f4 := blk_free h4.out 4
  have z5 := blk_cell (j := 5) (v := .int .i64 0) h4.out rfl
  have f5 := blk_free h4.out 5
  have z6 := blk_cell (j := 6) (v := .int .i64 0) h4.out rfl
  have f6 := blk_free h4.out 6
  have z7 := blk_cell (j := 7) (v := .int .i64 0) h4.out rfl
  have f7 := blk_free h4.out 7
  have z8 := blk_cell (j := 8) (v := .string .empty) h4.out rfl
  have f8 := blk_free h4.out 8
  have z9 := blk_cell (j := 9) (v := .slice none 0 0) h4.out rfl
  have f9 := blk_free h4.out 9
  go_wp2_with fail
  have hz := blk_set10 h4.out (.int .i64 2) (.int .i64 0) (.string (bs tx)) (.int .i64 gn) (.int .i64 gr) (.int .i64 gs) (.int .i64 ix) (.int .i64 sz) (.string (bs sm)) (.slice A9 (n - s) c9)
  have hbz := setLo10 hb.out (Nat.le_refl N) (.int .i64 2) (.int .i64 0) (.string (bs tx)) (.int .i64 gn) (.int .i64 gr) (.int .i64 gs) (.int .i64 ix) (.int .i64 sz) (.string (bs sm)) (.slice A9 (n - s) c9)
  have hrz := hR9.out.recSet10 h4.out (by rfl) (.int .i64 2) (.int .i64 0) (.string (bs tx)) (.int .i64 gn) (.int .i64 gr) (.int .i64 gs) (.int .i64 ix) (.int .i64 sz) (.string (bs sm)) (.slice A9 (n - s) c9)
  obtain ⟨w16, hw16'⟩ : ∃ w16, ((((((((((w15.setCell ⟨N, 0, none⟩ (.int .i64 2)).setCell ⟨N, 1, none⟩ (.int .i64 0)).setCell ⟨N, 2, none⟩ (.string (bs tx))).setCell ⟨N, 3, none⟩ (.int .i64 gn)).setCell ⟨N, 4, none⟩ (.int .i64 gr)).setCell ⟨N, 5, none⟩ (.int .i64 gs)).setCell ⟨N, 6, none⟩ (.int .i64 ix)).setCell ⟨N, 7, none⟩ (.int .i64 sz)).setCell ⟨N, 8, none⟩ (.string (bs sm))).setCell ⟨N, 9, none⟩ (.slice A9 (n - s) c9)) = w16 := ⟨_, rfl⟩
  rw [hw16'] at hz hbz hrz ⊢
  have r0 := blk_cell (j := 0) (v := .int .i64 2) hz (by rfl)
  have r1 := blk_cell (j := 1) (v := .int .i64 0) hz (by rfl)
  have r2 := blk_cell (j := 2) (v := .string (bs tx)) hz (by rfl)
  have r3 := blk_cell (j := 3) (v := .int .i64 gn) hz (by rfl)
  have r4 := blk_cell (j := 4) (v := .int .i64 gr) hz (by rfl)
  have r5 := blk_cell (j := 5) (v := .int .i64 gs) hz (by rfl)
  have r6 := blk_cell (j := 6) (v := .int .i64 ix) hz (by rfl)
  have r7 := blk_cell (j := 7) (v := .int .i64 sz) hz (by rfl)
  have r8 := blk_cell (j := 8) (v := .string (bs sm)) hz (by rfl)
  have r9 := blk_cell (j := 9) (v := .slice A9 (n - s) c9) hz (by rfl)
  exact bodyPost_ret (v := (.agg #[.int .i64 2, .int .i64 0, .string (bs tx), .int .i64 gn, .int .i64 gr, .int .i64 gs, .int .i64 ix, .int .i64 sz, .string (bs sm), .slice A9 (n - s) c9])) (by simp [results, Try.results43, go_sem, r0, r1, r2, r3, r4, r5, r6, r7, r8, r9]) rfl ⟨A9, c9, rfl, hrz.more (by have := hrz; exact Nat.le_of_eq (by rw [← hw16']; simp; rw [← hw15.out, ← hw14.out]; simp)), hbz⟩
theorem gs1_ok (n : Int) (h : R64 n) (k : Int) (hk : R64 k) : (Rc.mk k n [] 0 0 0 0 0 [] []).Ok := by
  have z0 : R64 0 := by unfold R64; decide
  exact ⟨hk, h, z0, z0, z0, z0, z0, Nat.zero_le _, Nat.zero_le _⟩
theorem gs2_ok (l : List UInt8) (t s : Nat) (hl : l.length ≤ 140737488355328) : (gs2 l t s).Ok := by
  have hl0 : RL (some (l.take t)) := fun l' e => by injection e with e; subst e; rw [List.length_take]; omega
  have hlo : ∀ st most, 0 ≤ most → most ≤ 1099511627776 → R64 (rget st most).1 := fun st most h0 h1 => by
    have h2 := rget_nonneg st most
    have h3 : (rget st most).1 ≤ most := by
      unfold rget
      split
      · exact h0
      · split
        · exact h0
        · split
          · assumption
          · exact h0
    unfold R64
    omega
  have htx : ∀ (st : RS) most, RL st → (rtext st most).1.length ≤ 140737488355328 := fun st most h => by
    unfold rtext
    split
    · simp
    · rename_i n l hq
      have h2 : l.length ≤ 140737488355328 := h.get most l (by rw [hq])
      split
      · simp only [List.length_take]; omega
      · simp
  unfold gs2
  have z2 : R64 2 := by unfold R64; decide
  have z0 : R64 0 := by unfold R64; decide
  refine ⟨z2, z0, hlo _ _ (by decide) (by decide), hlo _ _ (by decide) (by decide), hlo _ _ (by decide) (by decide), hlo _ _ (by decide) (by decide), hlo _ _ (by decide) (by decide), ?_, ?_⟩
  · exact Nat.le_trans (htx (some (l.take t)) 16 hl0) (by decide)
  · refine Nat.le_trans (show ((l.drop t).take (s - t)).length ≤ 140737488355328 from ?_) (by decide)
    simp only [List.length_take, List.length_drop]
    omega
/-- what guess answers -/
def guessR (k : Int) (l : List UInt8) : Rc := if k = 1 then guess1 l else if k = 3 then guess3 l else if k = 2 then guess2 l else guess0 k
theorem rget_R64 (st : RS) (most : Int) (h0 : 0 ≤ most) (h1 : most ≤ 1099511627776) : R64 (rget st most).1 := by
  have h2 := rget_nonneg st most
  have h3 : (rget st most).1 ≤ most := by
    unfold rget
    split
    · exact h0
    · split
      · exact h0
      · split
        · assumption
        · exact h0
  unfold R64
  omega
theorem rtext_len (st : RS) (most : Int) (h : RL st) : (rtext st most).1.length ≤ 140737488355328 := by
  unfold rtext
  split
  · simp
  · rename_i n l hq
    have h2 : l.length ≤ 140737488355328 := h.get most l (by rw [hq])
    split
    · simp only [List.length_take]; omega
    · simp
theorem guessR_ok (k : Int) (hk : R64 k) (l : List UInt8) (hl : l.length ≤ 140737488355328) : (guessR k l).Ok := by
  have z0 : R64 0 := by unfold R64; decide
  have z1 : R64 1 := by unfold R64; decide
  have z3 : R64 3 := by unfold R64; decide
  unfold guessR
  split
  · exact gs1_ok _ (rget_R64 _ _ (by decide) (by decide)) 1 z1
  · split
    · have hl0 : RL (some l) := fun l' e => by injection e with e; subst e; exact hl
      exact ⟨z3, z0, rget_R64 _ _ (by decide) (by decide), z0, z0, z0, z0, Nat.le_trans (rtext_len _ _ hl0) (by decide), Nat.zero_le _⟩
    · split
      · exact gs2_ok l _ _ hl
      · exact gs1_ok 0 z0 k hk
theorem guess_any (k : Int) (ab ao n c : Nat) (l : List UInt8) (hn : l.length = n) (hl : n ≤ 140737488355328) (hnc : n + 4 ≤ c) (hcm : c ≤ 9223372036854775807) (w : World) (hab : ab < w.heap.size) (hr : Rd w w.heap.size (some ⟨ab, ao, none⟩) l) :
    Calls Try.prog 43 #[.int .i64 k, .slice (some ⟨ab, ao, none⟩) n c] w fun e w' => ∃ A9 c9, e = .returned ((guessR k l).agg A9 c9) ∧ Rd w' w'.heap.size A9 (guessR k l).data ∧ Below w.heap.size w w' := by
  unfold guessR
  by_cases h1 : k = 1
  · rw [if_pos h1, h1]
    exact (guess1_any _ n c l hn hl w hr).mono fun e w' ⟨he, hb⟩ => ⟨none, 0, he, Rd.nil_, hb⟩
  · rw [if_neg h1]
    by_cases h3 : k = 3
    · rw [if_pos h3, h3]
      exact (guess3_any _ n c l hn hl w hr).mono fun e w' ⟨he, hb⟩ => ⟨none, 0, he, Rd.nil_, hb⟩
    · rw [if_neg h3]
      by_cases h2 : k = 2
      · rw [if_pos h2, h2]
        exact guess2_at ab ao n c _ _ l hn hl hnc hcm (by rw [hn]) (by rw [hn]) w hab hr
      · rw [if_neg h2]
        exact (guess0_any k h1 h2 h3 _ n c w).mono fun e w' ⟨he, hb⟩ => ⟨none, 0, he, Rd.nil_, hb⟩
end Go.Proofs.Yticdkmnjolkacab
