/- Records of label: a tombstone out of its bytes. -/
import Derived.Test.YtdgkcgiknfjpjaaLbA
import Derived.Test.YtdgkcgiknfjpjaaBaseA
namespace Go.Proofs.Ytdgkcgiknfjpjaa
set_option linter.unusedVariables false
set_option linter.unusedSimpArgs false
open Go Go.RowKit
def gs3 (l : List UInt8) : List UInt8 × Int := ((rtext (some l) 16).1, (rget (rtext (some l) 16).2 1099511627776).1)
def guess3 (l : List UInt8) : Rc := ⟨3, 0, (gs3 l).1, (gs3 l).2, 0, 0, 0, 0, [], []⟩
theorem blk_set10 {w : World} {g : Nat} {T : TypeId} {z0 z1 z2 z3 z4 z5 z6 z7 z8 z9 : Value} (h : w.heap[g]? = some (.cells #[z0, z1, z2, z3, z4, z5, z6, z7, z8, z9] T (0, 0))) (a0 a1 a2 a3 a4 a5 a6 a7 a8 a9 : Value) : ((((((((((w.setCell ⟨g, 0, none⟩ a0).setCell ⟨g, 1, none⟩ a1).setCell ⟨g, 2, none⟩ a2).setCell ⟨g, 3, none⟩ a3).setCell ⟨g, 4, none⟩ a4).setCell ⟨g, 5, none⟩ a5).setCell ⟨g, 6, none⟩ a6).setCell ⟨g, 7, none⟩ a7).setCell ⟨g, 8, none⟩ a8).setCell ⟨g, 9, none⟩ a9).heap[g]? = some (.cells #[a0, a1, a2, a3, a4, a5, a6, a7, a8, a9] T (0, 0)) := by
  have h10 := (blk_set (blk_set (blk_set (blk_set (blk_set (blk_set (blk_set (blk_set (blk_set (blk_set h 0 a0) 1 a1) 2 a2) 3 a3) 4 a4) 5 a5) 6 a6) 7 a7) 8 a8) 9 a9)
  simpa using h10
theorem setLo {lo : Nat} {w0 w : World} (hb : Below lo w0 w) {g j : Nat} (hg : lo ≤ g) (u : Value) : Below lo w0 (w.setCell ⟨g, j, none⟩ u) := hb.setCell (p := ⟨g, j, none⟩) hg u
theorem setLo10 {lo : Nat} {w0 w : World} (h : Below lo w0 w) {g : Nat} (hg : lo ≤ g) (a0 a1 a2 a3 a4 a5 a6 a7 a8 a9 : Value) : Below lo w0 ((((((((((w.setCell ⟨g, 0, none⟩ a0).setCell ⟨g, 1, none⟩ a1).setCell ⟨g, 2, none⟩ a2).setCell ⟨g, 3, none⟩ a3).setCell ⟨g, 4, none⟩ a4).setCell ⟨g, 5, none⟩ a5).setCell ⟨g, 6, none⟩ a6).setCell ⟨g, 7, none⟩ a7).setCell ⟨g, 8, none⟩ a8).setCell ⟨g, 9, none⟩ a9) := (setLo (setLo (setLo (setLo (setLo (setLo (setLo (setLo (setLo (setLo h (g := g) (j := 0) hg a0) (g := g) (j := 1) hg a1) (g := g) (j := 2) hg a2) (g := g) (j := 3) hg a3) (g := g) (j := 4) hg a4) (g := g) (j := 5) hg a5) (g := g) (j := 6) hg a6) (g := g) (j := 7) hg a7) (g := g) (j := 8) hg a8) (g := g) (j := 9) hg a9)
set_option maxHeartbeats 8000000 in
set_option maxRecDepth 20000 in
theorem guess3_any (A : Option Addr) (n c : Nat) (l : List UInt8) (hn : l.length = n) (hl : n ≤ 140737488355328) (w : World) (hr : Rd w w.heap.size A l) :
    Calls Try.prog 50 #[.int .i64 3, .slice A n c] w fun e w' => e = .returned ((guess3 l).agg none 0) ∧ Below w.heap.size w w' := by
  obtain ⟨tx, htx⟩ : ∃ tx, (rtext (some l) 16).1 = tx := ⟨_, rfl⟩
  obtain ⟨gn, hgn⟩ : ∃ gn, (rget (rtext (some l) 16).2 1099511627776).1 = gn := ⟨_, rfl⟩
  have hres : Hid ((guess3 l).agg none 0 = (.agg #[.int .i64 3, .int .i64 0, .string (bs tx), .int .i64 gn, .int .i64 0, .int .i64 0, .int .i64 0, .int .i64 0, .string .empty, .slice none 0 0])) := Lib.hid (by unfold guess3 gs3 Rc.agg; rw [htx, hgn]; rfl)
  rw [hres.out]
  have hb1 := (Below.refl w.heap.size w).alloc (Nat.le_refl _) (.cells #[.int .i64 0, .int .i64 0, .string .empty, .int .i64 0, .int .i64 0, .int .i64 0, .int .i64 0, .int .i64 0, .string .empty, .slice none 0 0] 41)
  have hb2 := Lib.hid (hb1.alloc hb1.size (.cells #[.int .i64 3, .int .i64 0, .string .empty, .int .i64 0, .int .i64 0, .int .i64 0, .int .i64 0, .int .i64 0, .string .empty, .slice none 0 0] 41))
  have h4 := Lib.hid (blk_alloc (heap_alloc_new w (.cells #[.int .i64 0, .int .i64 0, .string .empty, .int .i64 0, .int .i64 0, .int .i64 0, .int .i64 0, .int .i64 0, .string .empty, .slice none 0 0] 41)) (.cells #[.int .i64 3, .int .i64 0, .string .empty, .int .i64 0, .int .i64 0, .int .i64 0, .int .i64 0, .int .i64 0, .string .empty, .slice none 0 0] 41))
  have h5 := heap_alloc_new (w.alloc (.cells #[.int .i64 0, .int .i64 0, .string .empty, .int .i64 0, .int .i64 0, .int .i64 0, .int .i64 0, .int .i64 0, .string .empty, .slice none 0 0] 41)) (.cells #[.int .i64 3, .int .i64 0, .string .empty, .int .i64 0, .int .i64 0, .int .i64 0, .int .i64 0, .int .i64 0, .string .empty, .slice none 0 0] 41)
  have hsz : (w.alloc (.cells #[.int .i64 0, .int .i64 0, .string .empty, .int .i64 0, .int .i64 0, .int .i64 0, .int .i64 0, .int .i64 0, .string .empty, .slice none 0 0] 41)).heap.size = w.heap.size + 1 := by simp
  rw [hsz] at h5
  have hR := Lib.hid (hr.up hb2.out)
  obtain ⟨N, hN⟩ : ∃ N, w.heap.size = N := ⟨_, rfl⟩
  rw [hN] at h4 h5 hb2 ⊢
  have hlt1 : N + 2 = ((w.alloc (.cells #[.int .i64 0, .int .i64 0, .string .empty, .int .i64 0, .int .i64 0, .int .i64 0, .int .i64 0, .int .i64 0, .string .empty, .slice none 0 0] 41)).alloc (.cells #[.int .i64 3, .int .i64 0, .string .empty, .int .i64 0, .int .i64 0, .int .i64 0, .int .i64 0, .int .i64 0, .string .empty, .slice none 0 0] 41)).heap.size := by simp; omega
  replace h5 := Lib.hid h5
  replace hN := Lib.hid hN
  replace hlt1 := Lib.hid hlt1
  replace hn := Lib.hid hn
  replace htx := Lib.hid htx
  replace hgn := Lib.hid hgn
  clear hb1 hsz hr
  go_enter Try.func50, Try.ntmps50
  go_wp2_with fail
  rw [hN.out]
  refine (new_any A n c l hn.out hl _ hR.out).mono ?_
  rintro e w3 ⟨g, rfl, hgg, hrd, hbb⟩
  rw [← hlt1.out] at hgg
  have hb3 := Lib.hid (hb2.out.trans (hbb.mono (by rw [← hlt1.out]; omega)))
  replace h4 := Lib.hid (blk_below h4.out hbb)
  replace h5 := Lib.hid (blk_below h5.out hbb)
  replace hrd := Lib.hid hrd
  clear hbb hR
  go_wp2_with fail
  refine (rtext_any g _ 16 (by decide) (by decide) _ hrd.out (fun l' e => by injection e with e; subst e; rw [hn.out]; exact hl)).mono ?_
  rw [htx.out]
  obtain ⟨st, hst⟩ : ∃ st, (rtext (some l) 16).2 = st := ⟨_, rfl⟩
  rw [hst] at hgn ⊢
  have hsl : Hid (∀ l', st = some l' → l'.length ≤ 140737488355328) := Lib.hid (fun l' e => by
    rw [← hst] at e
    unfold rtext at e
    split at e
    · cases e
    · rename_i m l2 hq
      obtain ⟨n', l3, -, -, e3, h3⟩ := rget_some (st := some l) (most := 16) (l' := l2) (by rw [hq])
      injection e3 with e3
      subst e3
      split at e
      · injection e with e
        subst e
        simp only [List.length_drop]
        have := hn.out
        omega
      · cases e)
  rintro e w4 ⟨rfl, hs1, hgr⟩
  have hgN : N + 2 ≤ g := hgg
  have h4' := (hgr.block N (blk_lt h4.out) (fun e => by injection e with e; omega)).trans h4.out
  have h5' := (hgr.block (N + 1) (blk_lt h5.out) (fun e => by injection e with e; omega)).trans h5.out
  have hb4 := Lib.hid (hb3.out.grown hgr (by rw [← hN.out]; exact hb3.out.size) (fun k hk => by injection hk with hk; omega))
  replace h4 := Lib.hid h4'
  replace h5 := Lib.hid h5'
  replace hrd := Lib.hid hs1
  replace hst := Lib.hid hst
  clear hgr hs1 hb3 h4' h5'
  go_wp2_with fail
  refine (get_any g _ 1099511627776 (by decide) (by decide) _ hrd.out hsl.out).mono ?_
  rw [hgn.out]
  rintro e w5 ⟨rfl, hs1, hgr⟩
  have h4' := (hgr.block N (blk_lt h4.out) (fun e => by injection e with e; omega)).trans h4.out
  have h5' := (hgr.block (N + 1) (blk_lt h5.out) (fun e => by injection e with e; omega)).trans h5.out
  have hb5 := hb4.out.grown hgr (by rw [← hN.out]; exact hb4.out.size) (fun k hk => by injection hk with hk; omega)
  have p2 := blk_cell (j := 2) (v := .string .empty) h5' rfl
  have p3 := blk_cell (j := 3) (v := .int .i64 0) h5' rfl
  have q2 := blk_free h5' 2
  have q3 := blk_free h5' 3
  have hset := blk_set (blk_set h5' 2 (.string (bs tx))) 3 (.int .i64 gn)
  have h4s := (blk_other (g := N + 1) (k := N) (by omega) 3 (.int .i64 gn)).trans ((blk_other (w := w5) (g := N + 1) (k := N) (by omega) 2 (.string (bs tx))).trans h4')
  have hwN : N ≤ N + 1 := by omega
  have hb6 := setLo (setLo hb5 (g := N + 1) (j := 2) hwN (.string (bs tx))) (g := N + 1) (j := 3) hwN (.int .i64 gn)
  obtain ⟨w6, hw6⟩ : ∃ w6, (w5.setCell ⟨N + 1, 2, none⟩ (.string (bs tx))).setCell ⟨N + 1, 3, none⟩ (.int .i64 gn) = w6 := ⟨_, rfl⟩
  rw [hw6] at hset h4s hb6
  have h5 : Hid (w6.heap[N + 1]? = some (.cells #[.int .i64 3, .int .i64 0, .string (bs tx), .int .i64 gn, .int .i64 0, .int .i64 0, .int .i64 0, .int .i64 0, .string .empty, .slice none 0 0] 41 (0, 0))) := Lib.hid hset
  replace h4 := Lib.hid h4s
  replace hb6 := Lib.hid hb6
  clear hset h4s hgr hs1 hb4 hb5 h4' h5' hrd
  have y0 := blk_cell (j := 0) (v := .int .i64 3) h5.out rfl
  have y1 := blk_cell (j := 1) (v := .int .i64 0) h5.out rfl
  have y2 := blk_cell (j := 2) (v := .string (bs tx)) h5.out rfl
  have y3 := blk_cell (j := 3) (v := .int .i64 gn) h5.out rfl
  have y4 := blk_cell (j := 4) (v := .int .i64 0) h5.out rfl
  have y5 := blk_cell (j := 5) (v := .int .i64 0) h5.out rfl
  have y6 := blk_cell (j := 6) (v := .int .i64 0) h5.out rfl
  have y7 := blk_cell (j := 7) (v := .int .i64 0) h5.out rfl
  have y8 := blk_cell (j := 8) (v := .string .empty) h5.out rfl
  have y9 := blk_cell (j := 9) (v := .slice none 0 0) h5.out rfl
  have z0 := blk_cell (j := 0) (v := .int .i64 0) h4.out rfl
  have f0 := blk_free h4.out 0
  have z1 := blk_cell (j := 1) (v := .int .i64 0) h4.out rfl
  have f1 := blk_free h4.out 1
  have z2 := blk_cell (j := 2) (v := .string .empty) h4.out rfl
  have f2 := blk_free h4.out 2
  have z3 := blk_cell (j := 3) (v := .int .i64 0) h4.out rfl
  have f3 := blk_free h4.out 3
  have z4 := blk_cell (j := 4) (v := .int .i64 0) h4.out rfl
  have f4 := blk_free h4.out 4
  have z5 := blk_cell (j := 5) (v := .int .i64 0) h4.out rfl
  have f5 := blk_free h4.out 5
  have z6 := blk_cell (j := 6) (v := .int .i64 0) h4.out rfl
  have f6 := blk_free h4.out 6
  have z7 := blk_cell (j := 7) (v := .int .i64 0) h4.out rfl
  have f7 := blk_free h4.out 7
  have z8 := blk_cell (j := 8) (v := .string .empty) h4.out rfl
  have f8 := blk_free h4.out 8
  have z9 := blk_cell (j := 9) (v := .slice none 0 0) h4.out rfl
  have f9 := blk_free h4.out 9
  go_wp2_with fail
  have hz := blk_set10 h4.out (.int .i64 3) (.int .i64 0) (.string (bs tx)) (.int .i64 gn) (.int .i64 0) (.int .i64 0) (.int .i64 0) (.int .i64 0) (.string .empty) (.slice none 0 0)
  have hbz := setLo10 hb6.out (Nat.le_refl N) (.int .i64 3) (.int .i64 0) (.string (bs tx)) (.int .i64 gn) (.int .i64 0) (.int .i64 0) (.int .i64 0) (.int .i64 0) (.string .empty) (.slice none 0 0)
  obtain ⟨w7, hw7⟩ : ∃ w7, ((((((((((w6.setCell ⟨N, 0, none⟩ (.int .i64 3)).setCell ⟨N, 1, none⟩ (.int .i64 0)).setCell ⟨N, 2, none⟩ (.string (bs tx))).setCell ⟨N, 3, none⟩ (.int .i64 gn)).setCell ⟨N, 4, none⟩ (.int .i64 0)).setCell ⟨N, 5, none⟩ (.int .i64 0)).setCell ⟨N, 6, none⟩ (.int .i64 0)).setCell ⟨N, 7, none⟩ (.int .i64 0)).setCell ⟨N, 8, none⟩ (.string .empty)).setCell ⟨N, 9, none⟩ (.slice none 0 0)) = w7 := ⟨_, rfl⟩
  rw [hw7] at hz hbz ⊢
  have r0 := blk_cell (j := 0) (v := .int .i64 3) hz (by rfl)
  have r1 := blk_cell (j := 1) (v := .int .i64 0) hz (by rfl)
  have r2 := blk_cell (j := 2) (v := .string (bs tx)) hz (by rfl)
  have r3 := blk_cell (j := 3) (v := .int .i64 gn) hz (by rfl)
  have r4 := blk_cell (j := 4) (v := .int .i64 0) hz (by rfl)
  have r5 := blk_cell (j := 5) (v := .int .i64 0) hz (by rfl)
  have r6 := blk_cell (j := 6) (v := .int .i64 0) hz (by rfl)
  have r7 := blk_cell (j := 7) (v := .int .i64 0) hz (by rfl)
  have r8 := blk_cell (j := 8) (v := .string .empty) hz (by rfl)
  have r9 := blk_cell (j := 9) (v := .slice none 0 0) hz (by rfl)
  exact bodyPost_ret (v := (.agg #[.int .i64 3, .int .i64 0, .string (bs tx), .int .i64 gn, .int .i64 0, .int .i64 0, .int .i64 0, .int .i64 0, .string .empty, .slice none 0 0])) (by simp [results, Try.results50, go_sem, r0, r1, r2, r3, r4, r5, r6, r7, r8, r9]) rfl ⟨rfl, hbz⟩
end Go.Proofs.Ytdgkcgiknfjpjaa
/- Records of label: Decode of a tombstone. -/
namespace Go.Proofs.Ytdgkcgiknfjpjaa
set_option linter.unusedVariables false
set_option linter.unusedSimpArgs false
open Go Go.RowKit
theorem set10_other {w : World} {X g : Nat} {o : Obj} (hne : g ≠ X) (h : w.heap[g]? = some o) (a0 a1 a2 a3 a4 a5 a6 a7 a8 a9 : Value) : ((((((((((w.setCell ⟨X, 0, none⟩ a0).setCell ⟨X, 1, none⟩ a1).setCell ⟨X, 2, none⟩ a2).setCell ⟨X, 3, none⟩ a3).setCell ⟨X, 4, none⟩ a4).setCell ⟨X, 5, none⟩ a5).setCell ⟨X, 6, none⟩ a6).setCell ⟨X, 7, none⟩ a7).setCell ⟨X, 8, none⟩ a8).setCell ⟨X, 9, none⟩ a9).heap[g]? = some o := by
  rw [blk_other hne 9 a9, blk_other hne 8 a8, blk_other hne 7 a7, blk_other hne 6 a6, blk_other hne 5 a5, blk_other hne 4 a4, blk_other hne 3 a3, blk_other hne 2 a2, blk_other hne 1 a1, blk_other hne 0 a0]
  exact h
theorem flat_of {w : World} {a : Addr} {v : Value} (h : w.cell? (a.add 0) = some v) : a = ⟨a.block, a.off, none⟩ := by
  obtain ⟨b, o, s⟩ := a
  cases s with
  | none => rfl
  | some s =>
    exfalso
    have e : (⟨b, o, some s⟩ : Addr).add 0 = ⟨b, o, some s⟩ := by unfold Addr.add; rw [if_pos rfl]
    rw [e] at h
    unfold World.cell? at h
    simp only [Option.isSome_some, if_true] at h
    split at h <;> cases h
theorem add_of (b o k : Nat) : (⟨b, o, none⟩ : Addr).add k = ⟨b, o + k, none⟩ := by
  unfold Addr.add
  split
  · rename_i h; subst h; rfl
  · rfl
theorem Rd.mid {w : World} {B : Nat} {ad : Addr} {l : List UInt8} (h : Rd w B (some ad) l) {i m : Nat} (hi : i + m ≤ l.length) : Rd w B (some (ad.add i)) ((l.drop i).take m) := by
  have h1 : Rd w B (some (ad.add i)) (l.drop i) := h.cutAt (by omega)
  exact h1.take m (by rw [List.length_drop]; omega)
set_option maxHeartbeats 8000000 in
set_option maxRecDepth 20000 in
theorem decode3_any (A : Option Addr) (m c : Nat) (b : List UInt8) (hn : b.length = m + 6) (hnc : m + 6 ≤ c) (hcm : c ≤ 9223372036854775807) (hm : m ≤ 1000000) (tx : List UInt8) (gn : Int) (h1 : b[1]? = some 3)
    (hg3 : guess3 ((b.drop 2).take m) = (Rc.mk 3 0 tx gn 0 0 0 0 [] [])) (hok : ((Rc.mk 3 0 tx gn 0 0 0 0 [] [])).Ok) (hg : goodB (Rc.mk 3 0 tx gn 0 0 0 0 [] []) = true) (he : encB (Rc.mk 3 0 tx gn 0 0 0 0 [] []) = b) (w : World) (hr : Rd w w.heap.size A b) :
    Calls Try.prog 25 #[.slice A (m + 6) c] w fun e w' => e = .returned (.tuple #[(.agg #[.int .i64 3, .int .i64 0, .string (bs tx), .int .i64 gn, .int .i64 0, .int .i64 0, .int .i64 0, .int .i64 0, .string .empty, .slice none 0 0]), .int .i64 0]) ∧ Below w.heap.size w w' := by
  obtain ⟨ad0, rfl, hadb0, hc0⟩ := hr.at_ (k := 0) (by omega)
  have hfl := flat_of hc0
  obtain ⟨ab, hab⟩ : ∃ ab, ad0.block = ab := ⟨_, rfl⟩
  obtain ⟨ao, hao⟩ : ∃ ao, ad0.off = ao := ⟨_, rfl⟩
  rw [hab, hao] at hfl
  subst hfl
  clear hc0 hab hao
  have hadb : ab < w.heap.size := hadb0
  have hgs : Hid (∀ W : World, Rd W W.heap.size (some ⟨ab, ao + 2, none⟩) ((b.drop 2).take m) → Calls Try.prog 50 #[.int .i64 3, .slice (some ⟨ab, ao + 2, none⟩) m (c - 2)] W fun e w' => e = .returned (.agg #[.int .i64 3, .int .i64 0, .string (bs tx), .int .i64 gn, .int .i64 0, .int .i64 0, .int .i64 0, .int .i64 0, .string .empty, .slice none 0 0]) ∧ Below W.heap.size W w') := Lib.hid (fun W hW => by
    have := guess3_any (some ⟨ab, ao + 2, none⟩) m (c - 2) _ (by rw [List.length_take, List.length_drop]; omega) (by omega) W hW
    rw [hg3] at this
    exact this)
  have hN1 := heap_alloc_new w (.cells #[.int .i64 0, .int .i64 0, .string ⟨#[]⟩, .int .i64 0, .int .i64 0, .int .i64 0, .int .i64 0, .int .i64 0, .string ⟨#[]⟩, .slice none 0 0] 41)
  have hb1 := (Below.refl w.heap.size w).alloc (Nat.le_refl _) (.cells #[.int .i64 0, .int .i64 0, .string ⟨#[]⟩, .int .i64 0, .int .i64 0, .int .i64 0, .int .i64 0, .int .i64 0, .string ⟨#[]⟩, .slice none 0 0] 41)
  have hmid : Rd w w.heap.size (some ⟨ab, ao + 2, none⟩) ((b.drop 2).take m) := by have := hr.mid (i := 2) (m := m) (by omega); rwa [add_of] at this
  have hR1 := hr.up hb1
  have hU : U 3 = 3 := rfl
  have hw1 : IntKind.i64.wrap ((m : Int) + 6 - 4) = (m : Int) + 2 := by rw [IntWalk.i64_in _ (by omega)]; omega
  have hc2 : ¬ (c = 2) := by omega
  have hi1 : (1 : Int) < (m : Int) + 6 := by omega
  have hs1 : (2 : Int) ≤ (m : Int) + 2 := by omega
  have hs2 : (m : Int) + 2 ≤ (c : Int) := by omega
  have hs3 : 0 ≤ (m : Int) + 2 := by omega
  have hd6 : decide ((m : Int) + 6 < 6) = false := decide_eq_false (by omega)
  replace hn := Lib.hid hn
  replace hg := Lib.hid hg
  replace he := Lib.hid he
  replace hok := Lib.hid hok
  have hr0 := Lib.hid hr
  go_enter Try.func25, Try.ntmps25
  go_wp2_with fail
  obtain ⟨wd, hwd⟩ : ∃ wd, wd = (w.alloc (.cells #[.int .i64 0, .int .i64 0, .string ⟨#[]⟩, .int .i64 0, .int .i64 0, .int .i64 0, .int .i64 0, .int .i64 0, .string ⟨#[]⟩, .slice none 0 0] 41)).drew := ⟨_, rfl⟩
  have hbd : Hid (Below w.heap.size w wd) := Lib.hid (by rw [hwd]; exact hb1.drew)
  have hNd : Hid (wd.heap[w.heap.size]? = some (.cells #[.int .i64 0, .int .i64 0, .string ⟨#[]⟩, .int .i64 0, .int .i64 0, .int .i64 0, .int .i64 0, .int .i64 0, .string ⟨#[]⟩, .slice none 0 0] 41 (0, 0))) := Lib.hid (by rw [hwd]; exact hN1)
  have hsld : Hid (Rd wd wd.heap.size (some ⟨ab, ao + 2, none⟩) ((b.drop 2).take m)) := Lib.hid (by rw [hwd]; exact (hmid.up hb1).drewN 1)
  obtain ⟨ad', ead, -, c1⟩ := (show Rd wd wd.heap.size (some ⟨ab, ao, none⟩) b by rw [hwd]; exact hR1.drewN 1).get h1
  injection ead with ead
  subst ead
  rw [add_of, hU] at c1
  have hadd : ab < wd.heap.size := Nat.lt_of_lt_of_le hadb hbd.out.size
  clear hg3 hmid hR1 hN1 hb1 hr h1
  have hr := hr0
  clear hr0
  refine wpR_region (Upd (fun _ => False)) 11 (by kernel_rfl) ?_
  (rw [← hwd]; replace hwd := Lib.hid hwd)
  refine wpR_take (i := 0) (v := ?_) (Upd.road _) (some 11) rfl (by kernel_rfl) (by kernel_rfl) (by kernel_rfl) (by kernel_rfl) (by kernel_rfl) (fun _ _ _ h => h) (by kernel_rfl) (fun w' hw' => ?_) ?_
  rotate_left
  · go_simp; with_reducible rfl
  simp only [Act.put, List.setIfInBounds_toArray, List.set_cons_zero, List.set_cons_succ]
  refine wpR_take (i := 1) (v := ?_) (Upd.road _) (some 12) rfl (by kernel_rfl) (by kernel_rfl) (by kernel_rfl) (by kernel_rfl) (by kernel_rfl) (fun _ _ _ h => h) (by kernel_rfl) (fun w' hw' => ?_) ?_
  rotate_left
  · go_simp; with_reducible rfl
  simp only [Act.put, List.setIfInBounds_toArray, List.set_cons_zero, List.set_cons_succ]
  refine wpR_take (i := 2) (v := ?_) (Upd.road _) (some 13) rfl (by kernel_rfl) (by kernel_rfl) (by kernel_rfl) (by kernel_rfl) (by kernel_rfl) (fun _ _ _ h => h) (by kernel_rfl) (fun w' hw' => ?_) ?_
  rotate_left
  · have q := (hw'.cell (p := ⟨ab, ao + 1, none⟩) hadd (fun h => h)).trans c1; go_simp; with_reducible rfl
  simp only [Act.put, List.setIfInBounds_toArray, List.set_cons_zero, List.set_cons_succ]
  refine wpR_take (i := 3) (v := ?_) (Upd.road _) (some 14) rfl (by kernel_rfl) (by kernel_rfl) (by kernel_rfl) (by kernel_rfl) (by kernel_rfl) (fun _ _ _ h => h) (by kernel_rfl) (fun w' hw' => ?_) ?_
  rotate_left
  · go_simp; with_reducible rfl
  simp only [Act.put, List.setIfInBounds_toArray, List.set_cons_zero, List.set_cons_succ]
  refine wpR_take (i := 4) (v := ?_) (Upd.road _) (some 15) rfl (by kernel_rfl) (by kernel_rfl) (by kernel_rfl) (by kernel_rfl) (by kernel_rfl) (fun _ _ _ h => h) (by kernel_rfl) (fun w' hw' => ?_) ?_
  rotate_left
  · go_simp; with_reducible rfl
  simp only [Act.put, List.setIfInBounds_toArray, List.set_cons_zero, List.set_cons_succ]
  refine wpR_take (i := 5) (v := ?_) (Upd.road _) (some 16) rfl (by kernel_rfl) (by kernel_rfl) (by kernel_rfl) (by kernel_rfl) (by kernel_rfl) (fun _ _ _ h => h) (by kernel_rfl) (fun w' hw' => ?_) ?_
  rotate_left
  · go_simp; with_reducible rfl
  simp only [Act.put, List.setIfInBounds_toArray, List.set_cons_zero, List.set_cons_succ]
  refine wpR_take (i := 6) (v := ?_) (Upd.road _) (some 17) rfl (by kernel_rfl) (by kernel_rfl) (by kernel_rfl) (by kernel_rfl) (by kernel_rfl) (fun _ _ _ h => h) (by kernel_rfl) (fun w' hw' => ?_) ?_
  rotate_left
  · go_simp; with_reducible rfl
  simp only [Act.put, List.setIfInBounds_toArray, List.set_cons_zero, List.set_cons_succ]
  refine wpR_take (i := 7) (v := ?_) (Upd.road _) (some 18) rfl (by kernel_rfl) (by kernel_rfl) (by kernel_rfl) (by kernel_rfl) (by kernel_rfl) (fun _ _ _ h => h) (by kernel_rfl) (fun w' hw' => ?_) ?_
  rotate_left
  · go_simp; with_reducible rfl
  simp only [Act.put, List.setIfInBounds_toArray, List.set_cons_zero, List.set_cons_succ]
  refine wpR_take (i := 8) (v := ?_) (Upd.road _) (some 19) rfl (by kernel_rfl) (by kernel_rfl) (by kernel_rfl) (by kernel_rfl) (by kernel_rfl) (fun _ _ _ h => h) (by kernel_rfl) (fun w' hw' => ?_) ?_
  rotate_left
  · go_simp; with_reducible rfl
  simp only [Act.put, List.setIfInBounds_toArray, List.set_cons_zero, List.set_cons_succ]
  refine wpR_two 9 10 rfl rfl (by kernel_rfl) (by kernel_rfl) (by kernel_rfl) (fun K hK => ?_) (fun K hK => ?_)
  · go_simp
    refine hgs.out _ hsld.out |>.mono ?_
    rintro e w3 ⟨rfl, hbb⟩
    refine hK _ _ (fun _ => Upd.of_below hbb) ?_
    clear hK K
    have hN3 := Lib.hid (blk_below hNd.out hbb)
    have hb3 := Lib.hid (hbd.out.trans (hbb.mono hbd.out.size))
    clear hbb
    try simp only [Act.put, List.setIfInBounds_toArray, List.set_cons_zero, List.set_cons_succ]
    refine wpR_one 10 rfl (by kernel_rfl) (by kernel_rfl) (fun K hK => ?_)
    go_simp
    refine hK _ _ (fun _ => Upd.of_below ((Below.refl _ _).alloc (Nat.le_refl _) _)) ?_
    clear hK K
    have hX5 := heap_alloc_new w3 (.cells #[.int .i64 0, .int .i64 0, .string ⟨#[]⟩, .int .i64 0, .int .i64 0, .int .i64 0, .int .i64 0, .int .i64 0, .string ⟨#[]⟩, .slice none 0 0] 41)
    have hN5 := Lib.hid (blk_alloc hN3.out (.cells #[.int .i64 0, .int .i64 0, .string ⟨#[]⟩, .int .i64 0, .int .i64 0, .int .i64 0, .int .i64 0, .int .i64 0, .string ⟨#[]⟩, .slice none 0 0] 41))
    have hb5 := Lib.hid (hb3.out.alloc hb3.out.size (.cells #[.int .i64 0, .int .i64 0, .string ⟨#[]⟩, .int .i64 0, .int .i64 0, .int .i64 0, .int .i64 0, .int .i64 0, .string ⟨#[]⟩, .slice none 0 0] 41))
    obtain ⟨X, hX⟩ : ∃ X, w3.heap.size = X := ⟨_, rfl⟩
    have hXN : w.heap.size < X := by have := blk_lt hN3.out; omega
    rw [hX] at hX5 ⊢
    obtain ⟨w5, hw5⟩ : ∃ w5, w3.alloc (.cells #[.int .i64 0, .int .i64 0, .string ⟨#[]⟩, .int .i64 0, .int .i64 0, .int .i64 0, .int .i64 0, .int .i64 0, .string ⟨#[]⟩, .slice none 0 0] 41) = w5 := ⟨_, rfl⟩
    rw [hw5] at hX5 hN5 hb5 ⊢
    have z0 := blk_cell (j := 0) (v := .int .i64 0) hX5 rfl
    have f0 := blk_free hX5 0
    have z1 := blk_cell (j := 1) (v := .int .i64 0) hX5 rfl
    have f1 := blk_free hX5 1
    have z2 := blk_cell (j := 2) (v := .string ⟨#[]⟩) hX5 rfl
    have f2 := blk_free hX5 2
    have z3 := blk_cell (j := 3) (v := .int .i64 0) hX5 rfl
    have f3 := blk_free hX5 3
    have z4 := blk_cell (j := 4) (v := .int .i64 0) hX5 rfl
    have f4 := blk_free hX5 4
    have z5 := blk_cell (j := 5) (v := .int .i64 0) hX5 rfl
    have f5 := blk_free hX5 5
    have z6 := blk_cell (j := 6) (v := .int .i64 0) hX5 rfl
    have f6 := blk_free hX5 6
    have z7 := blk_cell (j := 7) (v := .int .i64 0) hX5 rfl
    have f7 := blk_free hX5 7
    have z8 := blk_cell (j := 8) (v := .string ⟨#[]⟩) hX5 rfl
    have f8 := blk_free hX5 8
    have z9 := blk_cell (j := 9) (v := .slice none 0 0) hX5 rfl
    have f9 := blk_free hX5 9
    replace hX5 := Lib.hid hX5
    replace hw5 := Lib.hid hw5
    replace hX := Lib.hid hX
    try simp only [Act.put, List.setIfInBounds_toArray, List.set_cons_zero, List.set_cons_succ]
    refine wpR_one 11 rfl (by kernel_rfl) (by kernel_rfl) (fun K hK => ?_)
    go_simp
    refine hK _ _ (fun h => absurd h (by decide)) ?_
    clear hK K
    clear z0 f0 z1 f1 z2 f2 z3 f3 z4 f4 z5 f5 z6 f6 z7 f7 z8 f8 z9 f9
    have hX6 := blk_set10 hX5.out (.int .i64 3) (.int .i64 0) (.string (bs tx)) (.int .i64 gn) (.int .i64 0) (.int .i64 0) (.int .i64 0) (.int .i64 0) (.string .empty) (.slice none 0 0)
    have hN6 := set10_other (X := X) (g := w.heap.size) (by omega) hN5.out (.int .i64 3) (.int .i64 0) (.string (bs tx)) (.int .i64 gn) (.int .i64 0) (.int .i64 0) (.int .i64 0) (.int .i64 0) (.string .empty) (.slice none 0 0)
    have hb6 := setLo10 hb5.out (g := X) (Nat.le_of_lt hXN) (.int .i64 3) (.int .i64 0) (.string (bs tx)) (.int .i64 gn) (.int .i64 0) (.int .i64 0) (.int .i64 0) (.int .i64 0) (.string .empty) (.slice none 0 0)
    obtain ⟨w6, hw6⟩ : ∃ w6, ((((((((((w5.setCell ⟨X, 0, none⟩ (.int .i64 3)).setCell ⟨X, 1, none⟩ (.int .i64 0)).setCell ⟨X, 2, none⟩ (.string (bs tx))).setCell ⟨X, 3, none⟩ (.int .i64 gn)).setCell ⟨X, 4, none⟩ (.int .i64 0)).setCell ⟨X, 5, none⟩ (.int .i64 0)).setCell ⟨X, 6, none⟩ (.int .i64 0)).setCell ⟨X, 7, none⟩ (.int .i64 0)).setCell ⟨X, 8, none⟩ (.string .empty)).setCell ⟨X, 9, none⟩ (.slice none 0 0)) = w6 := ⟨_, rfl⟩
    rw [hw6] at hX6 hN6 hb6 ⊢
    replace hX6 := Lib.hid hX6
    replace hN6 := Lib.hid hN6
    replace hb6 := Lib.hid hb6
    replace hw6 := Lib.hid hw6
    clear hX5 hN5 hb5
    try simp only [Act.put, List.setIfInBounds_toArray, List.set_cons_zero, List.set_cons_succ]
    refine wpR_done (by kernel_rfl) ?_ _
    have y0 := blk_cell (j := 0) (v := .int .i64 3) hX6.out rfl
    have y1 := blk_cell (j := 1) (v := .int .i64 0) hX6.out rfl
    have y2 := blk_cell (j := 2) (v := .string (bs tx)) hX6.out rfl
    have y3 := blk_cell (j := 3) (v := .int .i64 gn) hX6.out rfl
    have y4 := blk_cell (j := 4) (v := .int .i64 0) hX6.out rfl
    have y5 := blk_cell (j := 5) (v := .int .i64 0) hX6.out rfl
    have y6 := blk_cell (j := 6) (v := .int .i64 0) hX6.out rfl
    have y7 := blk_cell (j := 7) (v := .int .i64 0) hX6.out rfl
    have y8 := blk_cell (j := 8) (v := .string .empty) hX6.out rfl
    have y9 := blk_cell (j := 9) (v := .slice none 0 0) hX6.out rfl
    have hen := Lib.hid (encode_ok (Rc.mk 3 0 tx gn 0 0 0 0 [] []) none 0 hok.out hg.out w6 Rd.nil_)
    unfold Rc.agg at hen
    go_wp2_with fail
    clear y0 y1 y2 y3 y4 y5 y6 y7 y8 y9
    refine hen.out.mono ?_
    rintro e w8 ⟨v8, rfl, ho8, hbb⟩
    rw [he.out] at ho8
    obtain ⟨A8, c8, rfl, -, -, hR8, -⟩ := ho8.form
    rw [hn.out] at ho8 ⊢
    have hX9 := Lib.hid (blk_below hX6.out hbb)
    have hN9 := Lib.hid (blk_below hN6.out hbb)
    have hb9 := Lib.hid (hb6.out.trans (hbb.mono hb6.out.size))
    have hRb := Lib.hid ((hr.out.up hb9.out))
    replace hR8 := Lib.hid hR8
    clear ho8 hbb hen
    go_wp2_with fail
    refine (equal_any A8 (some ⟨ab, ao, none⟩) (m + 6) c8 (m + 6) c _ _ b b hn.out hn.out _ hR8.out hRb.out).mono ?_
    rw [beq_self_eq_true]
    rintro e w9 ⟨rfl, rfl⟩
    have y0 := blk_cell (j := 0) (v := .int .i64 3) hX9.out rfl
    have y1 := blk_cell (j := 1) (v := .int .i64 0) hX9.out rfl
    have y2 := blk_cell (j := 2) (v := .string (bs tx)) hX9.out rfl
    have y3 := blk_cell (j := 3) (v := .int .i64 gn) hX9.out rfl
    have y4 := blk_cell (j := 4) (v := .int .i64 0) hX9.out rfl
    have y5 := blk_cell (j := 5) (v := .int .i64 0) hX9.out rfl
    have y6 := blk_cell (j := 6) (v := .int .i64 0) hX9.out rfl
    have y7 := blk_cell (j := 7) (v := .int .i64 0) hX9.out rfl
    have y8 := blk_cell (j := 8) (v := .string .empty) hX9.out rfl
    have y9 := blk_cell (j := 9) (v := .slice none 0 0) hX9.out rfl
    have z0 := blk_cell (j := 0) (v := .int .i64 0) hN9.out rfl
    have f0 := blk_free hN9.out 0
    have z1 := blk_cell (j := 1) (v := .int .i64 0) hN9.out rfl
    have f1 := blk_free hN9.out 1
    have z2 := blk_cell (j := 2) (v := .string ⟨#[]⟩) hN9.out rfl
    have f2 := blk_free hN9.out 2
    have z3 := blk_cell (j := 3) (v := .int .i64 0) hN9.out rfl
    have f3 := blk_free hN9.out 3
    have z4 := blk_cell (j := 4) (v := .int .i64 0) hN9.out rfl
    have f4 := blk_free hN9.out 4
    have z5 := blk_cell (j := 5) (v := .int .i64 0) hN9.out rfl
    have f5 := blk_free hN9.out 5
    have z6 := blk_cell (j := 6) (v := .int .i64 0) hN9.out rfl
    have f6 := blk_free hN9.out 6
    have z7 := blk_cell (j := 7) (v := .int .i64 0) hN9.out rfl
    have f7 := blk_free hN9.out 7
    have z8 := blk_cell (j := 8) (v := .string ⟨#[]⟩) hN9.out rfl
    have f8 := blk_free hN9.out 8
    have z9 := blk_cell (j := 9) (v := .slice none 0 0) hN9.out rfl
    have f9 := blk_free hN9.out 9
    go_wp2_with fail
    have hz := blk_set10 hN9.out (.int .i64 3) (.int .i64 0) (.string (bs tx)) (.int .i64 gn) (.int .i64 0) (.int .i64 0) (.int .i64 0) (.int .i64 0) (.string .empty) (.slice none 0 0)
    have hbz := setLo10 hb9.out (Nat.le_refl w.heap.size) (.int .i64 3) (.int .i64 0) (.string (bs tx)) (.int .i64 gn) (.int .i64 0) (.int .i64 0) (.int .i64 0) (.int .i64 0) (.string .empty) (.slice none 0 0)
    obtain ⟨w10, hw10⟩ : ∃ w10, ((((((((((w9.setCell ⟨w.heap.size, 0, none⟩ (.int .i64 3)).setCell ⟨w.heap.size, 1, none⟩ (.int .i64 0)).setCell ⟨w.heap.size, 2, none⟩ (.string (bs tx))).setCell ⟨w.heap.size, 3, none⟩ (.int .i64 gn)).setCell ⟨w.heap.size, 4, none⟩ (.int .i64 0)).setCell ⟨w.heap.size, 5, none⟩ (.int .i64 0)).setCell ⟨w.heap.size, 6, none⟩ (.int .i64 0)).setCell ⟨w.heap.size, 7, none⟩ (.int .i64 0)).setCell ⟨w.heap.size, 8, none⟩ (.string .empty)).setCell ⟨w.heap.size, 9, none⟩ (.slice none 0 0)) = w10 := ⟨_, rfl⟩
    rw [hw10] at hz hbz ⊢
    have r0 := blk_cell (j := 0) (v := .int .i64 3) hz rfl
    have r1 := blk_cell (j := 1) (v := .int .i64 0) hz rfl
    have r2 := blk_cell (j := 2) (v := .string (bs tx)) hz rfl
    have r3 := blk_cell (j := 3) (v := .int .i64 gn) hz rfl
    have r4 := blk_cell (j := 4) (v := .int .i64 0) hz rfl
    have r5 := blk_cell (j := 5) (v := .int .i64 0) hz rfl
    have r6 := blk_cell (j := 6) (v := .int .i64 0) hz rfl
    have r7 := blk_cell (j := 7) (v := .int .i64 0) hz rfl
    have r8 := blk_cell (j := 8) (v := .string .empty) hz rfl
    have r9 := blk_cell (j := 9) (v := .slice none 0 0) hz rfl
    exact bodyPost_ret (v := .tuple #[(.agg #[.int .i64 3, .int .i64 0, .string (bs tx), .int .i64 gn, .int .i64 0, .int .i64 0, .int .i64 0, .int .i64 0, .string .empty, .slice none 0 0]), .int .i64 0]) (by simp [results, Try.results25, go_sem, r0, r1, r2, r3, r4, r5, r6, r7, r8, r9]) rfl ⟨rfl, hbz⟩
  · go_simp
    refine hK _ _ (fun _ => Upd.of_below ((Below.refl _ _).alloc (Nat.le_refl _) _)) ?_
    clear hK K
    have hX3 := Lib.hid (heap_alloc_new wd (.cells #[.int .i64 0, .int .i64 0, .string ⟨#[]⟩, .int .i64 0, .int .i64 0, .int .i64 0, .int .i64 0, .int .i64 0, .string ⟨#[]⟩, .slice none 0 0] 41))
    have hN3 := Lib.hid (blk_alloc hNd.out (.cells #[.int .i64 0, .int .i64 0, .string ⟨#[]⟩, .int .i64 0, .int .i64 0, .int .i64 0, .int .i64 0, .int .i64 0, .string ⟨#[]⟩, .slice none 0 0] 41))
    have hb3 := Lib.hid (hbd.out.alloc hbd.out.size (.cells #[.int .i64 0, .int .i64 0, .string ⟨#[]⟩, .int .i64 0, .int .i64 0, .int .i64 0, .int .i64 0, .int .i64 0, .string ⟨#[]⟩, .slice none 0 0] 41))
    have hsl3 := Lib.hid (hsld.out.up ((Below.refl wd.heap.size wd).alloc (Nat.le_refl _) (.cells #[.int .i64 0, .int .i64 0, .string ⟨#[]⟩, .int .i64 0, .int .i64 0, .int .i64 0, .int .i64 0, .int .i64 0, .string ⟨#[]⟩, .slice none 0 0] 41)))
    obtain ⟨X, hX⟩ : ∃ X, wd.heap.size = X := ⟨_, rfl⟩
    have hXN : w.heap.size < X := by have := blk_lt hNd.out; omega
    rw [hX] at hX3 ⊢
    obtain ⟨w3, hw3⟩ : ∃ w3, wd.alloc (.cells #[.int .i64 0, .int .i64 0, .string ⟨#[]⟩, .int .i64 0, .int .i64 0, .int .i64 0, .int .i64 0, .int .i64 0, .string ⟨#[]⟩, .slice none 0 0] 41) = w3 := ⟨_, rfl⟩
    rw [hw3] at hX3 hN3 hb3 hsl3 ⊢
    replace hw3 := Lib.hid hw3
    replace hX := Lib.hid hX
    try simp only [Act.put, List.setIfInBounds_toArray, List.set_cons_zero, List.set_cons_succ]
    refine wpR_one 9 rfl (by kernel_rfl) (by kernel_rfl) (fun K hK => ?_)
    go_simp
    refine hgs.out _ hsl3.out |>.mono ?_
    rintro e w5 ⟨rfl, hbb⟩
    refine hK _ _ (fun _ => Upd.of_below hbb) ?_
    clear hK K
    have hX5 := blk_below hX3.out hbb
    have hN5 := blk_below hN3.out hbb
    have hb5 := Lib.hid (hb3.out.trans (hbb.mono hb3.out.size))
    clear hbb
    have z0 := blk_cell (j := 0) (v := .int .i64 0) hX5 rfl
    have f0 := blk_free hX5 0
    have z1 := blk_cell (j := 1) (v := .int .i64 0) hX5 rfl
    have f1 := blk_free hX5 1
    have z2 := blk_cell (j := 2) (v := .string ⟨#[]⟩) hX5 rfl
    have f2 := blk_free hX5 2
    have z3 := blk_cell (j := 3) (v := .int .i64 0) hX5 rfl
    have f3 := blk_free hX5 3
    have z4 := blk_cell (j := 4) (v := .int .i64 0) hX5 rfl
    have f4 := blk_free hX5 4
    have z5 := blk_cell (j := 5) (v := .int .i64 0) hX5 rfl
    have f5 := blk_free hX5 5
    have z6 := blk_cell (j := 6) (v := .int .i64 0) hX5 rfl
    have f6 := blk_free hX5 6
    have z7 := blk_cell (j := 7) (v := .int .i64 0) hX5 rfl
    have f7 := blk_free hX5 7
    have z8 := blk_cell (j := 8) (v := .string ⟨#[]⟩) hX5 rfl
    have f8 := blk_free hX5 8
    have z9 := blk_cell (j := 9) (v := .slice none 0 0) hX5 rfl
    have f9 := blk_free hX5 9
    replace hX5 := Lib.hid hX5
    replace hN5 := Lib.hid hN5
    try simp only [Act.put, List.setIfInBounds_toArray, List.set_cons_zero, List.set_cons_succ]
    refine wpR_one 11 rfl (by kernel_rfl) (by kernel_rfl) (fun K hK => ?_)
    go_simp
    refine hK _ _ (fun h => absurd h (by decide)) ?_
    clear hK K
    clear z0 f0 z1 f1 z2 f2 z3 f3 z4 f4 z5 f5 z6 f6 z7 f7 z8 f8 z9 f9
    have hX6 := blk_set10 hX5.out (.int .i64 3) (.int .i64 0) (.string (bs tx)) (.int .i64 gn) (.int .i64 0) (.int .i64 0) (.int .i64 0) (.int .i64 0) (.string .empty) (.slice none 0 0)
    have hN6 := set10_other (X := X) (g := w.heap.size) (by omega) hN5.out (.int .i64 3) (.int .i64 0) (.string (bs tx)) (.int .i64 gn) (.int .i64 0) (.int .i64 0) (.int .i64 0) (.int .i64 0) (.string .empty) (.slice none 0 0)
    have hb6 := setLo10 hb5.out (g := X) (Nat.le_of_lt hXN) (.int .i64 3) (.int .i64 0) (.string (bs tx)) (.int .i64 gn) (.int .i64 0) (.int .i64 0) (.int .i64 0) (.int .i64 0) (.string .empty) (.slice none 0 0)
    obtain ⟨w6, hw6⟩ : ∃ w6, ((((((((((w5.setCell ⟨X, 0, none⟩ (.int .i64 3)).setCell ⟨X, 1, none⟩ (.int .i64 0)).setCell ⟨X, 2, none⟩ (.string (bs tx))).setCell ⟨X, 3, none⟩ (.int .i64 gn)).setCell ⟨X, 4, none⟩ (.int .i64 0)).setCell ⟨X, 5, none⟩ (.int .i64 0)).setCell ⟨X, 6, none⟩ (.int .i64 0)).setCell ⟨X, 7, none⟩ (.int .i64 0)).setCell ⟨X, 8, none⟩ (.string .empty)).setCell ⟨X, 9, none⟩ (.slice none 0 0)) = w6 := ⟨_, rfl⟩
    rw [hw6] at hX6 hN6 hb6 ⊢
    replace hX6 := Lib.hid hX6
    replace hN6 := Lib.hid hN6
    replace hb6 := Lib.hid hb6
    replace hw6 := Lib.hid hw6
    clear hX5 hN5 hb5
    try simp only [Act.put, List.setIfInBounds_toArray, List.set_cons_zero, List.set_cons_succ]
    refine wpR_done (by kernel_rfl) ?_ _
    have y0 := blk_cell (j := 0) (v := .int .i64 3) hX6.out rfl
    have y1 := blk_cell (j := 1) (v := .int .i64 0) hX6.out rfl
    have y2 := blk_cell (j := 2) (v := .string (bs tx)) hX6.out rfl
    have y3 := blk_cell (j := 3) (v := .int .i64 gn) hX6.out rfl
    have y4 := blk_cell (j := 4) (v := .int .i64 0) hX6.out rfl
    have y5 := blk_cell (j := 5) (v := .int .i64 0) hX6.out rfl
    have y6 := blk_cell (j := 6) (v := .int .i64 0) hX6.out rfl
    have y7 := blk_cell (j := 7) (v := .int .i64 0) hX6.out rfl
    have y8 := blk_cell (j := 8) (v := .string .empty) hX6.out rfl
    have y9 := blk_cell (j := 9) (v := .slice none 0 0) hX6.out rfl
    have hen := Lib.hid (encode_ok (Rc.mk 3 0 tx gn 0 0 0 0 [] []) none 0 hok.out hg.out w6 Rd.nil_)
    unfold Rc.agg at hen
    go_wp2_with fail
    clear y0 y1 y2 y3 y4 y5 y6 y7 y8 y9
    refine hen.out.mono ?_
    rintro e w8 ⟨v8, rfl, ho8, hbb⟩
    rw [he.out] at ho8
    obtain ⟨A8, c8, rfl, -, -, hR8, -⟩ := ho8.form
    rw [hn.out] at ho8 ⊢
    have hX9 := Lib.hid (blk_below hX6.out hbb)
    have hN9 := Lib.hid (blk_below hN6.out hbb)
    have hb9 := Lib.hid (hb6.out.trans (hbb.mono hb6.out.size))
    have hRb := Lib.hid ((hr.out.up hb9.out))
    replace hR8 := Lib.hid hR8
    clear ho8 hbb hen
    go_wp2_with fail
    refine (equal_any A8 (some ⟨ab, ao, none⟩) (m + 6) c8 (m + 6) c _ _ b b hn.out hn.out _ hR8.out hRb.out).mono ?_
    rw [beq_self_eq_true]
    rintro e w9 ⟨rfl, rfl⟩
    have y0 := blk_cell (j := 0) (v := .int .i64 3) hX9.out rfl
    have y1 := blk_cell (j := 1) (v := .int .i64 0) hX9.out rfl
    have y2 := blk_cell (j := 2) (v := .string (bs tx)) hX9.out rfl
    have y3 := blk_cell (j := 3) (v := .int .i64 gn) hX9.out rfl
    have y4 := blk_cell (j := 4) (v := .int .i64 0) hX9.out rfl
    have y5 := blk_cell (j := 5) (v := .int .i64 0) hX9.out rfl
    have y6 := blk_cell (j := 6) (v := .int .i64 0) hX9.out rfl
    have y7 := blk_cell (j := 7) (v := .int .i64 0) hX9.out rfl
    have y8 := blk_cell (j := 8) (v := .string .empty) hX9.out rfl
    have y9 := blk_cell (j := 9) (v := .slice none 0 0) hX9.out rfl
    have z0 := blk_cell (j := 0) (v := .int .i64 0) hN9.out rfl
    have f0 := blk_free hN9.out 0
    have z1 := blk_cell (j := 1) (v := .int .i64 0) hN9.out rfl
    have f1 := blk_free hN9.out 1
    have z2 := blk_cell (j := 2) (v := .string ⟨#[]⟩) hN9.out rfl
    have f2 := blk_free hN9.out 2
    have z3 := blk_cell (j := 3) (v := .int .i64 0) hN9.out rfl
    have f3 := blk_free hN9.out 3
    have z4 := blk_cell (j := 4) (v := .int .i64 0) hN9.out rfl
    have f4 := blk_free hN9.out 4
    have z5 := blk_cell (j := 5) (v := .int .i64 0) hN9.out rfl
    have f5 := blk_free hN9.out 5
    have z6 := blk_cell (j := 6) (v := .int .i64 0) hN9.out rfl
    have f6 := blk_free hN9.out 6
    have z7 := blk_cell (j := 7) (v := .int .i64 0) hN9.out rfl
    have f7 := blk_free hN9.out 7
    have z8 := blk_cell (j := 8) (v := .string ⟨#[]⟩) hN9.out rfl
    have f8 := blk_free hN9.out 8
    have z9 := blk_cell (j := 9) (v := .slice none 0 0) hN9.out rfl
    have f9 := blk_free hN9.out 9
    go_wp2_with fail
    have hz := blk_set10 hN9.out (.int .i64 3) (.int .i64 0) (.string (bs tx)) (.int .i64 gn) (.int .i64 0) (.int .i64 0) (.int .i64 0) (.int .i64 0) (.string .empty) (.slice none 0 0)
    have hbz := setLo10 hb9.out (Nat.le_refl w.heap.size) (.int .i64 3) (.int .i64 0) (.string (bs tx)) (.int .i64 gn) (.int .i64 0) (.int .i64 0) (.int .i64 0) (.int .i64 0) (.string .empty) (.slice none 0 0)
    obtain ⟨w10, hw10⟩ : ∃ w10, ((((((((((w9.setCell ⟨w.heap.size, 0, none⟩ (.int .i64 3)).setCell ⟨w.heap.size, 1, none⟩ (.int .i64 0)).setCell ⟨w.heap.size, 2, none⟩ (.string (bs tx))).setCell ⟨w.heap.size, 3, none⟩ (.int .i64 gn)).setCell ⟨w.heap.size, 4, none⟩ (.int .i64 0)).setCell ⟨w.heap.size, 5, none⟩ (.int .i64 0)).setCell ⟨w.heap.size, 6, none⟩ (.int .i64 0)).setCell ⟨w.heap.size, 7, none⟩ (.int .i64 0)).setCell ⟨w.heap.size, 8, none⟩ (.string .empty)).setCell ⟨w.heap.size, 9, none⟩ (.slice none 0 0)) = w10 := ⟨_, rfl⟩
    rw [hw10] at hz hbz ⊢
    have r0 := blk_cell (j := 0) (v := .int .i64 3) hz rfl
    have r1 := blk_cell (j := 1) (v := .int .i64 0) hz rfl
    have r2 := blk_cell (j := 2) (v := .string (bs tx)) hz rfl
    have r3 := blk_cell (j := 3) (v := .int .i64 gn) hz rfl
    have r4 := blk_cell (j := 4) (v := .int .i64 0) hz rfl
    have r5 := blk_cell (j := 5) (v := .int .i64 0) hz rfl
    have r6 := blk_cell (j := 6) (v := .int .i64 0) hz rfl
    have r7 := blk_cell (j := 7) (v := .int .i64 0) hz rfl
    have r8 := blk_cell (j := 8) (v := .string .empty) hz rfl
    have r9 := blk_cell (j := 9) (v := .slice none 0 0) hz rfl
    exact bodyPost_ret (v := .tuple #[(.agg #[.int .i64 3, .int .i64 0, .string (bs tx), .int .i64 gn, .int .i64 0, .int .i64 0, .int .i64 0, .int .i64 0, .string .empty, .slice none 0 0]), .int .i64 0]) (by simp [results, Try.results25, go_sem, r0, r1, r2, r3, r4, r5, r6, r7, r8, r9]) rfl ⟨rfl, hbz⟩

end Go.Proofs.Ytdgkcgiknfjpjaa
/- Records of label: a label, and what is none, out of its bytes. -/
namespace Go.Proofs.Ytdgkcgiknfjpjaa
set_option linter.unusedVariables false
set_option linter.unusedSimpArgs false
open Go Go.RowKit
def guess1 (l : List UInt8) : Rc := ⟨1, (rget (some l) 31).1, [], 0, 0, 0, 0, 0, [], []⟩
def guess0 (k : Int) : Rc := ⟨k, 0, [], 0, 0, 0, 0, 0, [], []⟩
set_option maxHeartbeats 8000000 in
set_option maxRecDepth 20000 in
theorem guess1_any (A : Option Addr) (n c : Nat) (l : List UInt8) (hn : l.length = n) (hl : n ≤ 140737488355328) (w : World) (hr : Rd w w.heap.size A l) :
    Calls Try.prog 50 #[.int .i64 1, .slice A n c] w fun e w' => e = .returned ((guess1 l).agg none 0) ∧ Below w.heap.size w w' := by
  obtain ⟨cn, hcn⟩ : ∃ cn, (rget (some l) 31).1 = cn := ⟨_, rfl⟩
  have hres : Hid ((guess1 l).agg none 0 = (.agg #[.int .i64 1, .int .i64 cn, .string .empty, .int .i64 0, .int .i64 0, .int .i64 0, .int .i64 0, .int .i64 0, .string .empty, .slice none 0 0])) := Lib.hid (by unfold guess1 Rc.agg; rw [hcn]; rfl)
  rw [hres.out]
  have hb1 := (Below.refl w.heap.size w).alloc (Nat.le_refl _) (.cells #[.int .i64 0, .int .i64 0, .string .empty, .int .i64 0, .int .i64 0, .int .i64 0, .int .i64 0, .int .i64 0, .string .empty, .slice none 0 0] 41)
  have hb2 := Lib.hid (hb1.alloc hb1.size (.cells #[.int .i64 1, .int .i64 0, .string .empty, .int .i64 0, .int .i64 0, .int .i64 0, .int .i64 0, .int .i64 0, .string .empty, .slice none 0 0] 41))
  have h4 := Lib.hid (blk_alloc (heap_alloc_new w (.cells #[.int .i64 0, .int .i64 0, .string .empty, .int .i64 0, .int .i64 0, .int .i64 0, .int .i64 0, .int .i64 0, .string .empty, .slice none 0 0] 41)) (.cells #[.int .i64 1, .int .i64 0, .string .empty, .int .i64 0, .int .i64 0, .int .i64 0, .int .i64 0, .int .i64 0, .string .empty, .slice none 0 0] 41))
  have h5 := heap_alloc_new (w.alloc (.cells #[.int .i64 0, .int .i64 0, .string .empty, .int .i64 0, .int .i64 0, .int .i64 0, .int .i64 0, .int .i64 0, .string .empty, .slice none 0 0] 41)) (.cells #[.int .i64 1, .int .i64 0, .string .empty, .int .i64 0, .int .i64 0, .int .i64 0, .int .i64 0, .int .i64 0, .string .empty, .slice none 0 0] 41)
  have hsz : (w.alloc (.cells #[.int .i64 0, .int .i64 0, .string .empty, .int .i64 0, .int .i64 0, .int .i64 0, .int .i64 0, .int .i64 0, .string .empty, .slice none 0 0] 41)).heap.size = w.heap.size + 1 := by simp
  rw [hsz] at h5
  have hR := Lib.hid (hr.up hb2.out)
  obtain ⟨N, hN⟩ : ∃ N, w.heap.size = N := ⟨_, rfl⟩
  rw [hN] at h4 h5 hb2 ⊢
  have hlt1 : N + 2 = ((w.alloc (.cells #[.int .i64 0, .int .i64 0, .string .empty, .int .i64 0, .int .i64 0, .int .i64 0, .int .i64 0, .int .i64 0, .string .empty, .slice none 0 0] 41)).alloc (.cells #[.int .i64 1, .int .i64 0, .string .empty, .int .i64 0, .int .i64 0, .int .i64 0, .int .i64 0, .int .i64 0, .string .empty, .slice none 0 0] 41)).heap.size := by simp; omega
  replace h5 := Lib.hid h5
  replace hN := Lib.hid hN
  replace hlt1 := Lib.hid hlt1
  replace hn := Lib.hid hn
  replace hcn := Lib.hid hcn
  clear hb1 hsz hr
  go_enter Try.func50, Try.ntmps50
  go_wp2_with fail
  rw [hN.out]
  refine (new_any A n c l hn.out hl _ hR.out).mono ?_
  rintro e w3 ⟨g, rfl, hgg, hrd, hbb⟩
  rw [← hlt1.out] at hgg
  have hb3 := Lib.hid (hb2.out.trans (hbb.mono (by rw [← hlt1.out]; omega)))
  replace h4 := Lib.hid (blk_below h4.out hbb)
  replace h5 := Lib.hid (blk_below h5.out hbb)
  replace hrd := Lib.hid hrd
  clear hbb hR
  go_wp2_with fail
  refine (get_any g _ 31 (by decide) (by decide) _ hrd.out (fun l' e => by injection e with e; subst e; rw [hn.out]; exact hl)).mono ?_
  rw [hcn.out]
  rintro e w5 ⟨rfl, hs1, hgr⟩
  have h4' := (hgr.block N (blk_lt h4.out) (fun e => by injection e with e; omega)).trans h4.out
  have h5' := (hgr.block (N + 1) (blk_lt h5.out) (fun e => by injection e with e; omega)).trans h5.out
  have hb5 := hb3.out.grown hgr (by rw [← hN.out]; exact hb3.out.size) (fun k hk => by injection hk with hk; omega)
  have p1 := blk_cell (j := 1) (v := .int .i64 0) h5' rfl
  have q1 := blk_free h5' 1
  have hset := blk_set h5' 1 (.int .i64 cn)
  have h4s := (blk_other (w := w5) (g := N + 1) (k := N) (by omega) 1 (.int .i64 cn)).trans h4'
  have hwN : N ≤ N + 1 := by omega
  have hb6 := setLo hb5 (g := N + 1) (j := 1) hwN (.int .i64 cn)
  obtain ⟨w6, hw6⟩ : ∃ w6, w5.setCell ⟨N + 1, 1, none⟩ (.int .i64 cn) = w6 := ⟨_, rfl⟩
  rw [hw6] at hset h4s hb6
  have h5 : Hid (w6.heap[N + 1]? = some (.cells #[.int .i64 1, .int .i64 cn, .string .empty, .int .i64 0, .int .i64 0, .int .i64 0, .int .i64 0, .int .i64 0, .string .empty, .slice none 0 0] 41 (0, 0))) := Lib.hid hset
  replace h4 := Lib.hid h4s
  replace hb6 := Lib.hid hb6
  clear hset h4s hgr hs1 hb5 h4' h5' hrd
  have y0 := blk_cell (j := 0) (v := .int .i64 1) h5.out rfl
  have y1 := blk_cell (j := 1) (v := .int .i64 cn) h5.out rfl
  have y2 := blk_cell (j := 2) (v := .string .empty) h5.out rfl
  have y3 := blk_cell (j := 3) (v := .int .i64 0) h5.out rfl
  have y4 := blk_cell (j := 4) (v := .int .i64 0) h5.out rfl
  have y5 := blk_cell (j := 5) (v := .int .i64 0) h5.out rfl
  have y6 := blk_cell (j := 6) (v := .int .i64 0) h5.out rfl
  have y7 := blk_cell (j := 7) (v := .int .i64 0) h5.out rfl
  have y8 := blk_cell (j := 8) (v := .string .empty) h5.out rfl
  have y9 := blk_cell (j := 9) (v := .slice none 0 0) h5.out rfl
  have z0 := blk_cell (j := 0) (v := .int .i64 0) h4.out rfl
  have f0 := blk_free h4.out 0
  have z1 := blk_cell (j := 1) (v := .int .i64 0) h4.out rfl
  have f1 := blk_free h4.out 1
  have z2 := blk_cell (j := 2) (v := .string .empty) h4.out rfl
  have f2 := blk_free h4.out 2
  have z3 := blk_cell (j := 3) (v := .int .i64 0) h4.out rfl
  have f3 := blk_free h4.out 3
  have z4 := blk_cell (j := 4) (v := .int .i64 0) h4.out rfl
  have f4 := blk_free h4.out 4
  have z5 := blk_cell (j := 5) (v := .int .i64 0) h4.out rfl
  have f5 := blk_free h4.out 5
  have z6 := blk_cell (j := 6) (v := .int .i64 0) h4.out rfl
  have f6 := blk_free h4.out 6
  have z7 := blk_cell (j := 7) (v := .int .i64 0) h4.out rfl
  have f7 := blk_free h4.out 7
  have z8 := blk_cell (j := 8) (v := .string .empty) h4.out rfl
  have f8 := blk_free h4.out 8
  have z9 := blk_cell (j := 9) (v := .slice none 0 0) h4.out rfl
  have f9 := blk_free h4.out 9
  go_wp2_with fail
  have hz := blk_set10 h4.out (.int .i64 1) (.int .i64 cn) (.string .empty) (.int .i64 0) (.int .i64 0) (.int .i64 0) (.int .i64 0) (.int .i64 0) (.string .empty) (.slice none 0 0)
  have hbz := setLo10 hb6.out (Nat.le_refl N) (.int .i64 1) (.int .i64 cn) (.string .empty) (.int .i64 0) (.int .i64 0) (.int .i64 0) (.int .i64 0) (.int .i64 0) (.string .empty) (.slice none 0 0)
  obtain ⟨w7, hw7⟩ : ∃ w7, ((((((((((w6.setCell ⟨N, 0, none⟩ (.int .i64 1)).setCell ⟨N, 1, none⟩ (.int .i64 cn)).setCell ⟨N, 2, none⟩ (.string .empty)).setCell ⟨N, 3, none⟩ (.int .i64 0)).setCell ⟨N, 4, none⟩ (.int .i64 0)).setCell ⟨N, 5, none⟩ (.int .i64 0)).setCell ⟨N, 6, none⟩ (.int .i64 0)).setCell ⟨N, 7, none⟩ (.int .i64 0)).setCell ⟨N, 8, none⟩ (.string .empty)).setCell ⟨N, 9, none⟩ (.slice none 0 0)) = w7 := ⟨_, rfl⟩
  rw [hw7] at hz hbz ⊢
  have r0 := blk_cell (j := 0) (v := .int .i64 1) hz (by rfl)
  have r1 := blk_cell (j := 1) (v := .int .i64 cn) hz (by rfl)
  have r2 := blk_cell (j := 2) (v := .string .empty) hz (by rfl)
  have r3 := blk_cell (j := 3) (v := .int .i64 0) hz (by rfl)
  have r4 := blk_cell (j := 4) (v := .int .i64 0) hz (by rfl)
  have r5 := blk_cell (j := 5) (v := .int .i64 0) hz (by rfl)
  have r6 := blk_cell (j := 6) (v := .int .i64 0) hz (by rfl)
  have r7 := blk_cell (j := 7) (v := .int .i64 0) hz (by rfl)
  have r8 := blk_cell (j := 8) (v := .string .empty) hz (by rfl)
  have r9 := blk_cell (j := 9) (v := .slice none 0 0) hz (by rfl)
  exact bodyPost_ret (v := (.agg #[.int .i64 1, .int .i64 cn, .string .empty, .int .i64 0, .int .i64 0, .int .i64 0, .int .i64 0, .int .i64 0, .string .empty, .slice none 0 0])) (by simp [results, Try.results50, go_sem, r0, r1, r2, r3, r4, r5, r6, r7, r8, r9]) rfl ⟨rfl, hbz⟩
set_option maxHeartbeats 8000000 in
set_option maxRecDepth 20000 in
theorem guess0_any (k : Int) (h1 : k ≠ 1) (h2 : k ≠ 2) (h3 : k ≠ 3) (A : Option Addr) (n c : Nat) (w : World) :
    Calls Try.prog 50 #[.int .i64 k, .slice A n c] w fun e w' => e = .returned ((guess0 k).agg none 0) ∧ Below w.heap.size w w' := by
  have hres : Hid ((guess0 k).agg none 0 = (.agg #[.int .i64 k, .int .i64 0, .string ⟨#[]⟩, .int .i64 0, .int .i64 0, .int .i64 0, .int .i64 0, .int .i64 0, .string ⟨#[]⟩, .slice none 0 0])) := Lib.hid (by unfold guess0 Rc.agg; rfl)
  rw [hres.out]
  have d1 : (k == 1) = false := beq_eq_false_iff_ne.mpr h1
  have d2 : (k == 2) = false := beq_eq_false_iff_ne.mpr h2
  have d3 : (k == 3) = false := beq_eq_false_iff_ne.mpr h3
  clear h1 h2 h3
  have hb1 := (Below.refl w.heap.size w).alloc (Nat.le_refl _) (.cells #[.int .i64 k, .int .i64 0, .string ⟨#[]⟩, .int .i64 0, .int .i64 0, .int .i64 0, .int .i64 0, .int .i64 0, .string ⟨#[]⟩, .slice none 0 0] 41)
  have hb2 := Lib.hid (hb1.alloc hb1.size (.cells #[.int .i64 k, .int .i64 0, .string ⟨#[]⟩, .int .i64 0, .int .i64 0, .int .i64 0, .int .i64 0, .int .i64 0, .string ⟨#[]⟩, .slice none 0 0] 41))
  have hz := Lib.hid (blk_alloc (heap_alloc_new w (.cells #[.int .i64 k, .int .i64 0, .string ⟨#[]⟩, .int .i64 0, .int .i64 0, .int .i64 0, .int .i64 0, .int .i64 0, .string ⟨#[]⟩, .slice none 0 0] 41)) (.cells #[.int .i64 k, .int .i64 0, .string ⟨#[]⟩, .int .i64 0, .int .i64 0, .int .i64 0, .int .i64 0, .int .i64 0, .string ⟨#[]⟩, .slice none 0 0] 41))
  clear hb1
  go_enter Try.func50, Try.ntmps50
  go_wp2_with fail
  obtain ⟨w7, hw7⟩ : ∃ w7, (w.alloc (.cells #[.int .i64 k, .int .i64 0, .string ⟨#[]⟩, .int .i64 0, .int .i64 0, .int .i64 0, .int .i64 0, .int .i64 0, .string ⟨#[]⟩, .slice none 0 0] 41)).alloc (.cells #[.int .i64 k, .int .i64 0, .string ⟨#[]⟩, .int .i64 0, .int .i64 0, .int .i64 0, .int .i64 0, .int .i64 0, .string ⟨#[]⟩, .slice none 0 0] 41) = w7 := ⟨_, rfl⟩
  rw [hw7] at hz hb2 ⊢
  replace hw7 := Lib.hid hw7
  have r0 := blk_cell (j := 0) (v := .int .i64 k) hz.out rfl
  have r1 := blk_cell (j := 1) (v := .int .i64 0) hz.out rfl
  have r2 := blk_cell (j := 2) (v := .string ⟨#[]⟩) hz.out rfl
  have r3 := blk_cell (j := 3) (v := .int .i64 0) hz.out rfl
  have r4 := blk_cell (j := 4) (v := .int .i64 0) hz.out rfl
  have r5 := blk_cell (j := 5) (v := .int .i64 0) hz.out rfl
  have r6 := blk_cell (j := 6) (v := .int .i64 0) hz.out rfl
  have r7 := blk_cell (j := 7) (v := .int .i64 0) hz.out rfl
  have r8 := blk_cell (j := 8) (v := .string ⟨#[]⟩) hz.out rfl
  have r9 := blk_cell (j := 9) (v := .slice none 0 0) hz.out rfl
  exact bodyPost_ret (v := (.agg #[.int .i64 k, .int .i64 0, .string ⟨#[]⟩, .int .i64 0, .int .i64 0, .int .i64 0, .int .i64 0, .int .i64 0, .string ⟨#[]⟩, .slice none 0 0])) (by simp [results, Try.results50, go_sem, r0, r1, r2, r3, r4, r5, r6, r7, r8, r9]) rfl ⟨rfl, hb2.out⟩
end Go.Proofs.Ytdgkcgiknfjpjaa
/- Records of label: guess of a shard. -/
namespace Go.Proofs.Ytdgkcgiknfjpjaa
set_option linter.unusedVariables false
set_option linter.unusedSimpArgs false
open Go Go.RowKit
/-- no cell is a byte -/
def noU8 (cs : List Value) : Bool := cs.all (fun v => match v with | .int .u8 _ => false | _ => true)
theorem noU8_get {cs : Array Value} (h : noU8 cs.toList = true) {j : Nat} {x : Int} : cs[j]? ≠ some (.int .u8 x) := by
  intro e
  have hm : (Value.int .u8 x) ∈ cs.toList := by
    have e' : cs.toList[j]? = some (.int .u8 x) := by simpa using e
    exact List.mem_of_getElem? e'
  unfold noU8 at h
  rw [List.all_eq_true] at h
  have := h _ hm
  simp at this
theorem Rd.recSet {w : World} {B m : Nat} {A : Option Addr} {l : List UInt8} {cs : Array Value} {T : TypeId} (h : Rd w B A l) (hh : w.heap[m]? = some (.cells cs T (0, 0))) (hno : noU8 cs.toList = true) (j : Nat) (u : Value) : Rd (w.setCell ⟨m, j, none⟩ u) B A l := by
  refine ⟨h.1, fun hn => ?_⟩
  obtain ⟨ad, rfl, hb, hc⟩ := h.2 hn
  refine ⟨ad, rfl, hb, fun i v hv => ?_⟩
  have hne : ad.block ≠ m := by
    intro e
    obtain ⟨x, hx⟩ : ∃ x, l[0]? = some x := ⟨l[0], List.getElem?_eq_getElem hn⟩
    obtain ⟨ad', e1, -, hc1⟩ := h.get hx
    injection e1 with e1
    subst e1
    have hf := flat_of hc1
    rw [hf, add_of] at hc1
    simp only [Nat.add_zero] at hc1
    rw [e] at hc1
    unfold World.cell? at hc1
    rw [hh] at hc1
    exact noU8_get hno hc1
  rw [World.cell?_setCell_other w _ _ _ (fun e => by have := congrArg Addr.block e; rw [block_of_add] at this; exact hne this.symm)]
  exact hc i v hv
theorem Rdr.recSet {w : World} {g m : Nat} {st : RS} {cs : Array Value} {T : TypeId} (h : Rdr w g st) (hh : w.heap[m]? = some (.cells cs T (0, 0))) (hno : noU8 cs.toList = true) (hm : g ≠ m) (j : Nat) (u : Value) : Rdr (w.setCell ⟨m, j, none⟩ u) g st := by
  cases st with
  | none => exact (blk_other hm j u).trans h
  | some l =>
    obtain ⟨A, c, h1, h2, h3, h4⟩ := h
    exact ⟨A, c, (blk_other hm j u).trans h1, h2, h3, h4.recSet hh hno j u⟩
/-- bytes below block L -/
theorem Rd.grownHi {w w' : World} {L g : Nat} {A : Option Addr} {l : List UInt8} (h : Rd w L A l) (hg : w.grownBy w' (some g)) (hl : L ≤ w.heap.size ∧ L ≤ g) : Rd w' L A l :=
  Reads.grown h hg hl.1 (fun k hk => by injection hk with hk; omega)
theorem Rd.setHi {w : World} {L g : Nat} {A : Option Addr} {l : List UInt8} (h : Rd w L A l) (hg : L ≤ g) (j : Nat) (u : Value) : Rd (w.setCell ⟨g, j, none⟩ u) L A l :=
  Reads.setCell (p := ⟨g, j, none⟩) h hg u
def RL (st : RS) : Prop := ∀ l', st = some l' → l'.length ≤ 140737488355328
theorem RL.get {st : RS} (h : RL st) (most : Int) : RL (rget st most).2 := by
  intro l' e
  unfold rget at e
  split at e
  · cases e
  · rename_i l
    split at e
    · cases e
    · split at e
      · injection e with e
        subst e
        have := h l rfl
        simp only [List.length_drop]
        omega
      · cases e
theorem RL.text {st : RS} (h : RL st) (most : Int) : RL (rtext st most).2 := by
  intro l' e
  unfold rtext at e
  split at e
  · cases e
  · rename_i n l hq
    have hl : l.length ≤ 140737488355328 := h.get most l (by rw [hq])
    split at e
    · injection e with e
      subst e
      simp only [List.length_drop]
      omega
    · cases e
theorem Rd.recSet10 {w : World} {B m : Nat} {A : Option Addr} {l : List UInt8} {T : TypeId} {z0 z1 z2 z3 z4 z5 z6 z7 z8 z9 : Value} (h : Rd w B A l) (hh : w.heap[m]? = some (.cells #[z0, z1, z2, z3, z4, z5, z6, z7, z8, z9] T (0, 0))) (hno : noU8 [z0, z1, z2, z3, z4, z5, z6, z7, z8, z9] = true)
    (a0 a1 a2 a3 a4 a5 a6 a7 a8 a9 : Value) : Rd ((((((((((w.setCell ⟨m, 0, none⟩ a0).setCell ⟨m, 1, none⟩ a1).setCell ⟨m, 2, none⟩ a2).setCell ⟨m, 3, none⟩ a3).setCell ⟨m, 4, none⟩ a4).setCell ⟨m, 5, none⟩ a5).setCell ⟨m, 6, none⟩ a6).setCell ⟨m, 7, none⟩ a7).setCell ⟨m, 8, none⟩ a8).setCell ⟨m, 9, none⟩ a9) B A l := by
  refine ⟨h.1, fun hn => ?_⟩
  obtain ⟨ad, rfl, hb, hc⟩ := h.2 hn
  refine ⟨ad, rfl, hb, fun i v hv => ?_⟩
  have hne : ad.block ≠ m := by
    intro e
    obtain ⟨x, hx⟩ : ∃ x, l[0]? = some x := ⟨l[0], List.getElem?_eq_getElem hn⟩
    obtain ⟨ad', e1, -, hc1⟩ := h.get hx
    injection e1 with e1
    subst e1
    have hf := flat_of hc1
    rw [hf, add_of] at hc1
    simp only [Nat.add_zero] at hc1
    rw [e] at hc1
    unfold World.cell? at hc1
    rw [hh] at hc1
    exact noU8_get hno hc1
  have hk : ∀ (W : World) (j : Nat) (u : Value), (W.setCell ⟨m, j, none⟩ u).cell? (ad.add i) = W.cell? (ad.add i) := fun W j u => World.cell?_setCell_other W _ _ _ (fun e => by have := congrArg Addr.block e; rw [block_of_add] at this; exact hne this.symm)
  rw [hk, hk, hk, hk, hk, hk, hk, hk, hk, hk]
  exact hc i v hv
theorem bclone_any (A : Option Addr) (n c : Nat) (l : List UInt8) (hn : l.length = n) (hl : n ≤ 140737488355328) (w : World) (hr : Rd w w.heap.size A l) :
    Calls Try.prog 80 #[.slice A n c] w fun e w' => ∃ v, e = .returned v ∧ OB w' w.heap.size v l ∧ Below w.heap.size w w' := by
  rcases A with _ | ad
  · have hl0 : l = [] := by
      rcases l with _ | ⟨x, l⟩
      · rfl
      · obtain ⟨_, h, _⟩ := hr.at_ (k := 0) (by simp)
        cases h
    subst hl0
    obtain rfl : n = 0 := hn.symm
    have hnil := fun w => Lib.run_eql_slice_nil (P := Try.prog) w 22 5 none 0 c 0 0 Try.underlying22
    go_enter Try.func80, Try.ntmps80
    go_wp2
    go_ret
    exact ⟨_, rfl, OB.nil_ _ _, Below.refl _ _⟩
  · have ho := Lib.hid (OB.empty w w.heap.size (Nat.le_refl _))
    have hrw := Lib.hid (hr.alloc (Nat.le_refl _) (.cells #[] 5))
    clear hr
    replace hn := Lib.hid hn
    have hnil := fun w => Lib.run_eql_slice_nil (P := Try.prog) w 22 5 (some ad) n c 0 0 Try.underlying22
    go_enter Try.func80, Try.ntmps80
    go_wp2_with (at_builtin; go_must (refine wpl_append rfl (.tmp 5) (.tmp 6) rfl w.heap.size (.slice (some ⟨w.heap.size, 0, none⟩) 0 0) [] rfl ho.out w.heap.size (some ad) c l (by rw [hn.out]; rfl) hrw.out (by simp; rw [hn.out]; omega) (by simp) ?_); intro v1 w1 hown1 hg1 _)
    go_ret
    exact ⟨v1, rfl, by simpa using hown1, below_app ho.out ((Below.refl _ _).alloc (Nat.le_refl _) _) (by simp) hg1⟩
/-- the reads of a shard's fields, one by one -/
def gs2 (l : List UInt8) (t s : Nat) : Rc :=
  ⟨2, 0, (rtext (some (l.take t)) 16).1, (rget (rtext (some (l.take t)) 16).2 1099511627776).1, (rget (rget (rtext (some (l.take t)) 16).2 1099511627776).2 4).1,
    (rget (rget (rget (rtext (some (l.take t)) 16).2 1099511627776).2 4).2 4).1, (rget (rget (rget (rget (rtext (some (l.take t)) 16).2 1099511627776).2 4).2 4).2 10).1,
    (rget (rget (rget (rget (rget (rtext (some (l.take t)) 16).2 1099511627776).2 4).2 4).2 10).2 512).1, (l.drop t).take (s - t), l.drop s⟩
def guess2 (l : List UInt8) : Rc := gs2 l (l.length - 48) (min l.length (l.length - 48 + 32))
set_option maxHeartbeats 8000000 in
set_option maxRecDepth 20000 in
theorem guess2_at (ab ao n c t s : Nat) (l : List UInt8) (hn : l.length = n) (hl : n ≤ 140737488355328) (hnc : n + 4 ≤ c) (hcm : c ≤ 9223372036854775807) (ht : t = n - 48) (hs : s = min n (t + 32)) (w : World) (hab : ab < w.heap.size) (hr : Rd w w.heap.size (some ⟨ab, ao, none⟩) l) :
    Calls Try.prog 50 #[.int .i64 2, .slice (some ⟨ab, ao, none⟩) n c] w fun e w' => ∃ A9 c9, e = .returned ((gs2 l t s).agg A9 c9) ∧ Rd w' w'.heap.size A9 (gs2 l t s).data ∧ (∀ ad, A9 = some ad → w.heap.size ≤ ad.block) ∧ (gs2 l t s).data.length ≤ c9 ∧ c9 ≤ maxLen ∧ Below w.heap.size w w' := by
  obtain ⟨tx, s1, e1⟩ : ∃ tx s1, rtext (some (l.take t)) 16 = (tx, s1) := ⟨_, _, rfl⟩
  obtain ⟨gn, s2, e2⟩ : ∃ tx sx, rget s1 1099511627776 = (tx, sx) := ⟨_, _, rfl⟩
  obtain ⟨gr, s3, e3⟩ : ∃ tx sx, rget s2 4 = (tx, sx) := ⟨_, _, rfl⟩
  obtain ⟨gs, s4, e4⟩ : ∃ tx sx, rget s3 4 = (tx, sx) := ⟨_, _, rfl⟩
  obtain ⟨ix, s5, e5⟩ : ∃ tx sx, rget s4 10 = (tx, sx) := ⟨_, _, rfl⟩
  obtain ⟨sz, s6, e6⟩ : ∃ tx sx, rget s5 512 = (tx, sx) := ⟨_, _, rfl⟩
  obtain ⟨sm, hsm⟩ : ∃ sm, (l.drop t).take (s - t) = sm := ⟨_, rfl⟩
  have hl0 : RL (some (l.take t)) := fun l' e => by injection e with e; subst e; rw [List.length_take]; omega
  have hl1 : RL s1 := by have := hl0.text 16; rwa [e1] at this
  have hl2 : RL s2 := by have := hl1.get 1099511627776; rwa [e2] at this
  have hl3 : RL s3 := by have := hl2.get 4; rwa [e3] at this
  have hl4 : RL s4 := by have := hl3.get 4; rwa [e4] at this
  have hl5 : RL s5 := by have := hl4.get 10; rwa [e5] at this
  have hgs : gs2 l t s = ⟨2, 0, tx, gn, gr, gs, ix, sz, sm, l.drop s⟩ := by
    unfold gs2
    simp only [e1, e2, e3, e4, e5, e6, hsm]
  rw [hgs]
  replace e1 := Lib.hid e1
  replace e2 := Lib.hid e2
  replace e3 := Lib.hid e3
  replace e4 := Lib.hid e4
  replace e5 := Lib.hid e5
  replace e6 := Lib.hid e6
  replace hl0 := Lib.hid hl0
  replace hl1 := Lib.hid hl1
  replace hl2 := Lib.hid hl2
  replace hl3 := Lib.hid hl3
  replace hl4 := Lib.hid hl4
  replace hl5 := Lib.hid hl5
  replace hsm := Lib.hid hsm
  have hdl : (l.drop s).length = n - s := by rw [List.length_drop, hn]
  unfold Rc.agg
  rw [hdl]
  replace hdl := Lib.hid hdl
  have hb1 := (Below.refl w.heap.size w).alloc (Nat.le_refl _) (.cells #[.int .i64 0, .int .i64 0, .string .empty, .int .i64 0, .int .i64 0, .int .i64 0, .int .i64 0, .int .i64 0, .string .empty, .slice none 0 0] 41)
  have hb := Lib.hid (hb1.alloc hb1.size (.cells #[.int .i64 2, .int .i64 0, .string .empty, .int .i64 0, .int .i64 0, .int .i64 0, .int .i64 0, .int .i64 0, .string .empty, .slice none 0 0] 41))
  have h4 := Lib.hid (blk_alloc (heap_alloc_new w (.cells #[.int .i64 0, .int .i64 0, .string .empty, .int .i64 0, .int .i64 0, .int .i64 0, .int .i64 0, .int .i64 0, .string .empty, .slice none 0 0] 41)) (.cells #[.int .i64 2, .int .i64 0, .string .empty, .int .i64 0, .int .i64 0, .int .i64 0, .int .i64 0, .int .i64 0, .string .empty, .slice none 0 0] 41))
  have h5 := heap_alloc_new (w.alloc (.cells #[.int .i64 0, .int .i64 0, .string .empty, .int .i64 0, .int .i64 0, .int .i64 0, .int .i64 0, .int .i64 0, .string .empty, .slice none 0 0] 41)) (.cells #[.int .i64 2, .int .i64 0, .string .empty, .int .i64 0, .int .i64 0, .int .i64 0, .int .i64 0, .int .i64 0, .string .empty, .slice none 0 0] 41)
  have hsz : (w.alloc (.cells #[.int .i64 0, .int .i64 0, .string .empty, .int .i64 0, .int .i64 0, .int .i64 0, .int .i64 0, .int .i64 0, .string .empty, .slice none 0 0] 41)).heap.size = w.heap.size + 1 := by simp
  rw [hsz] at h5
  have hR0 : Rd ((w.alloc (.cells #[.int .i64 0, .int .i64 0, .string .empty, .int .i64 0, .int .i64 0, .int .i64 0, .int .i64 0, .int .i64 0, .string .empty, .slice none 0 0] 41)).alloc (.cells #[.int .i64 2, .int .i64 0, .string .empty, .int .i64 0, .int .i64 0, .int .i64 0, .int .i64 0, .int .i64 0, .string .empty, .slice none 0 0] 41)) w.heap.size (some ⟨ab, ao, none⟩) l := (hr.alloc (Nat.le_refl _) _).alloc (by simp) _
  obtain ⟨N, hN⟩ : ∃ N, w.heap.size = N := ⟨_, rfl⟩
  rw [hN] at h4 h5 hb hR0 hab ⊢
  have hlt1 : N + 2 = ((w.alloc (.cells #[.int .i64 0, .int .i64 0, .string .empty, .int .i64 0, .int .i64 0, .int .i64 0, .int .i64 0, .int .i64 0, .string .empty, .slice none 0 0] 41)).alloc (.cells #[.int .i64 2, .int .i64 0, .string .empty, .int .i64 0, .int .i64 0, .int .i64 0, .int .i64 0, .int .i64 0, .string .empty, .slice none 0 0] 41)).heap.size := by simp; omega
  have hR := Lib.hid hR0
  have hRt := Lib.hid ((hR0.more (B' := ((w.alloc (.cells #[.int .i64 0, .int .i64 0, .string .empty, .int .i64 0, .int .i64 0, .int .i64 0, .int .i64 0, .int .i64 0, .string .empty, .slice none 0 0] 41)).alloc (.cells #[.int .i64 2, .int .i64 0, .string .empty, .int .i64 0, .int .i64 0, .int .i64 0, .int .i64 0, .int .i64 0, .string .empty, .slice none 0 0] 41)).heap.size) (by omega)).take t (by omega))
  replace h5 := Lib.hid h5
  replace hN := Lib.hid hN
  replace hlt1 := Lib.hid hlt1
  have hlt : (l.take t).length = t := by rw [List.length_take]; omega
  replace hlt := Lib.hid hlt
  replace hn := Lib.hid hn
  have hwN : N ≤ N + 1 := by omega
  have htn : t ≤ n := by omega
  have hts : t ≤ s := by omega
  have hsn : s ≤ n := by omega
  have hmax : (if (16 : Int) < (n : Int) - 32 then (n : Int) - 32 - 16 else 0) = (t : Int) := by split <;> omega
  have hmin : (if (t : Int) + 32 < (n : Int) then (t : Int) + 32 else (n : Int)) = (s : Int) := by split <;> omega
  have hw32 : IntKind.i64.wrap ((n : Int) - 32) = (n : Int) - 32 := IntWalk.i64_in _ (by omega)
  have hw16 : IntKind.i64.wrap ((n : Int) - 32 - 16) = (n : Int) - 32 - 16 := IntWalk.i64_in _ (by omega)
  have hsc : s ≤ c := by omega
  have hct : ¬ (c = t) := by omega
  have hcs : ¬ (c = s) := by omega
  replace ht := Lib.hid ht
  replace hs := Lib.hid hs
  clear hb1 hsz hr hR0 hgs
  go_enter Try.func50, Try.ntmps50
  go_wp2_with fail
  rw [hN.out]
  refine (new_any (some ⟨ab, ao, none⟩) t c _ hlt.out (by omega) _ hRt.out).mono ?_
  rintro e w3 ⟨g, rfl, hgg, hrd, hbb⟩
  rw [← hlt1.out] at hgg
  replace hb := Lib.hid (hb.out.trans (hbb.mono (by rw [← hlt1.out]; omega)))
  replace h4 := Lib.hid (blk_below h4.out hbb)
  replace h5 := Lib.hid (blk_below h5.out hbb)
  replace hR := Lib.hid (hR.out.keep (fun p hp => hbb.cell (by rw [← hlt1.out]; omega)))
  replace hrd := Lib.hid hrd
  clear hbb hRt
  have hlo : N ≤ w3.heap.size ∧ N ≤ g := ⟨by have := hb.out.size; have := hN.out; omega, by omega⟩
  go_wp2_with fail
  refine (rtext_any g _ 16 (by decide) (by decide) _ hrd.out hl0.out).mono ?_
  rw [e1.out]
  rintro e w4 ⟨rfl, hs1, hgr⟩
  have h4' := (hgr.block N (blk_lt h4.out) (fun e => by injection e with e; omega)).trans h4.out
  have h5' := (hgr.block (N + 1) (blk_lt h5.out) (fun e => by injection e with e; omega)).trans h5.out
  have hb0 := hb
  replace hb := Lib.hid (hb.out.grown hgr (by rw [← hN.out]; exact hb.out.size) (fun k hk => by injection hk with hk; omega))
  replace hR := Lib.hid (hR.out.grownHi hgr ⟨by have := hb0.out.size; have := hN.out; omega, by omega⟩)
  replace h4 := Lib.hid h4'
  replace h5 := Lib.hid h5'
  replace hrd := Lib.hid hs1
  clear hgr hs1 h4' h5' hb0
  go_wp2_with fail
  refine (get_any g _ 1099511627776 (by decide) (by decide) _ hrd.out hl1.out).mono ?_
  rw [e2.out]
  rintro e w5 ⟨rfl, hs1, hgr⟩
  have h4' := (hgr.block N (blk_lt h4.out) (fun e => by injection e with e; omega)).trans h4.out
  have h5' := (hgr.block (N + 1) (blk_lt h5.out) (fun e => by injection e with e; omega)).trans h5.out
  have hb0 := hb
  replace hb := Lib.hid (hb.out.grown hgr (by rw [← hN.out]; exact hb.out.size) (fun k hk => by injection hk with hk; omega))
  replace hR := Lib.hid (hR.out.grownHi hgr ⟨by have := hb0.out.size; have := hN.out; omega, by omega⟩)
  replace h4 := Lib.hid h4'
  replace h5 := Lib.hid h5'
  replace hrd := Lib.hid hs1
  clear hgr hs1 h4' h5' hb0
  have p2 := blk_cell (j := 2) (v := .string .empty) h5.out rfl
  have p3 := blk_cell (j := 3) (v := .int .i64 0) h5.out rfl
  have q2 := blk_free h5.out 2
  have q3 := blk_free h5.out 3
  have hset := blk_set (blk_set h5.out 2 (.string (bs tx))) 3 (.int .i64 gn)
  have h4s := (blk_other (g := N + 1) (k := N) (by omega) 3 (.int .i64 gn)).trans ((blk_other (w := w5) (g := N + 1) (k := N) (by omega) 2 (.string (bs tx))).trans h4.out)
  have hbs := setLo (setLo hb.out (g := N + 1) (j := 2) hwN (.string (bs tx))) (g := N + 1) (j := 3) hwN (.int .i64 gn)
  have hrs := (hrd.out.recSet h5.out (by rfl) (by omega) 2 (.string (bs tx))).recSet (blk_set h5.out 2 (.string (bs tx))) (by rfl) (by omega) 3 (.int .i64 gn)
  have hRs := (hR.out.setHi (g := N + 1) (by omega) 2 (.string (bs tx))).setHi (g := N + 1) (by omega) 3 (.int .i64 gn)
  obtain ⟨w6, hw6⟩ : ∃ w6, (w5.setCell ⟨N + 1, 2, none⟩ (.string (bs tx))).setCell ⟨N + 1, 3, none⟩ (.int .i64 gn) = w6 := ⟨_, rfl⟩
  rw [hw6] at hset h4s hbs hrs hRs
  replace h5 : Hid (w6.heap[N + 1]? = some (.cells #[.int .i64 2, .int .i64 0, .string (bs tx), .int .i64 gn, .int .i64 0, .int .i64 0, .int .i64 0, .int .i64 0, .string .empty, .slice none 0 0] 41 (0, 0))) := Lib.hid hset
  replace h4 := Lib.hid h4s
  replace hb := Lib.hid hbs
  replace hrd := Lib.hid hrs
  replace hR := Lib.hid hRs
  clear hset h4s hbs hrs hRs
  go_wp2_with fail
  clear p2 p3 q2 q3
  replace hw6 := Lib.hid hw6
  refine (get_any g _ 4 (by decide) (by decide) _ hrd.out hl2.out).mono ?_
  rw [e3.out]
  rintro e w7 ⟨rfl, hs1, hgr⟩
  have h4' := (hgr.block N (blk_lt h4.out) (fun e => by injection e with e; omega)).trans h4.out
  have h5' := (hgr.block (N + 1) (blk_lt h5.out) (fun e => by injection e with e; omega)).trans h5.out
  have hb0 := hb
  replace hb := Lib.hid (hb.out.grown hgr (by rw [← hN.out]; exact hb.out.size) (fun k hk => by injection hk with hk; omega))
  replace hR := Lib.hid (hR.out.grownHi hgr ⟨by have := hb0.out.size; have := hN.out; omega, by omega⟩)
  replace h4 := Lib.hid h4'
  replace h5 := Lib.hid h5'
  replace hrd := Lib.hid hs1
  clear hgr hs1 h4' h5' hb0
  go_wp2_with fail
  refine (get_any g _ 4 (by decide) (by decide) _ hrd.out hl3.out).mono ?_
  rw [e4.out]
  rintro e w8 ⟨rfl, hs1, hgr⟩
  have h4' := (hgr.block N (blk_lt h4.out) (fun e => by injection e with e; omega)).trans h4.out
  have h5' := (hgr.block (N + 1) (blk_lt h5.out) (fun e => by injection e with e; omega)).trans h5.out
  have hb0 := hb
  replace hb := Lib.hid (hb.out.grown hgr (by rw [← hN.out]; exact hb.out.size) (fun k hk => by injection hk with hk; omega))
  replace hR := Lib.hid (hR.out.grownHi hgr ⟨by have := hb0.out.size; have := hN.out; omega, by omega⟩)
  replace h4 := Lib.hid h4'
  replace h5 := Lib.hid h5'
  replace hrd := Lib.hid hs1
  clear hgr hs1 h4' h5' hb0
  have p2 := blk_cell (j := 4) (v := .int .i64 0) h5.out rfl
  have p3 := blk_cell (j := 5) (v := .int .i64 0) h5.out rfl
  have q2 := blk_free h5.out 4
  have q3 := blk_free h5.out 5
  have hset := blk_set (blk_set h5.out 4 (.int .i64 gr)) 5 (.int .i64 gs)
  have h4s := (blk_other (g := N + 1) (k := N) (by omega) 5 (.int .i64 gs)).trans ((blk_other (w := w8) (g := N + 1) (k := N) (by omega) 4 (.int .i64 gr)).trans h4.out)
  have hbs := setLo (setLo hb.out (g := N + 1) (j := 4) hwN (.int .i64 gr)) (g := N + 1) (j := 5) hwN (.int .i64 gs)
  have hrs := (hrd.out.recSet h5.out (by rfl) (by omega) 4 (.int .i64 gr)).recSet (blk_set h5.out 4 (.int .i64 gr)) (by rfl) (by omega) 5 (.int .i64 gs)
  have hRs := (hR.out.setHi (g := N + 1) (by omega) 4 (.int .i64 gr)).setHi (g := N + 1) (by omega) 5 (.int .i64 gs)
  obtain ⟨w9, hw6⟩ : ∃ w6, (w8.setCell ⟨N + 1, 4, none⟩ (.int .i64 gr)).setCell ⟨N + 1, 5, none⟩ (.int .i64 gs) = w6 := ⟨_, rfl⟩
  rw [hw6] at hset h4s hbs hrs hRs
  replace h5 : Hid (w9.heap[N + 1]? = some (.cells #[.int .i64 2, .int .i64 0, .string (bs tx), .int .i64 gn, .int .i64 gr, .int .i64 gs, .int .i64 0, .int .i64 0, .string .empty, .slice none 0 0] 41 (0, 0))) := Lib.hid hset
  replace h4 := Lib.hid h4s
  replace hb := Lib.hid hbs
  replace hrd := Lib.hid hrs
  replace hR := Lib.hid hRs
  clear hset h4s hbs hrs hRs
  go_wp2_with fail
  clear p2 p3 q2 q3
  replace hw6 := Lib.hid hw6
  refine (get_any g _ 10 (by decide) (by decide) _ hrd.out hl4.out).mono ?_
  rw [e5.out]
  rintro e w10 ⟨rfl, hs1, hgr⟩
  have h4' := (hgr.block N (blk_lt h4.out) (fun e => by injection e with e; omega)).trans h4.out
  have h5' := (hgr.block (N + 1) (blk_lt h5.out) (fun e => by injection e with e; omega)).trans h5.out
  have hb0 := hb
  replace hb := Lib.hid (hb.out.grown hgr (by rw [← hN.out]; exact hb.out.size) (fun k hk => by injection hk with hk; omega))
  replace hR := Lib.hid (hR.out.grownHi hgr ⟨by have := hb0.out.size; have := hN.out; omega, by omega⟩)
  replace h4 := Lib.hid h4'
  replace h5 := Lib.hid h5'
  replace hrd := Lib.hid hs1
  clear hgr hs1 h4' h5' hb0
  go_wp2_with fail
  refine (get_any g _ 512 (by decide) (by decide) _ hrd.out hl5.out).mono ?_
  rw [e6.out]
  rintro e w11 ⟨rfl, hs1, hgr⟩
  have h4' := (hgr.block N (blk_lt h4.out) (fun e => by injection e with e; omega)).trans h4.out
  have h5' := (hgr.block (N + 1) (blk_lt h5.out) (fun e => by injection e with e; omega)).trans h5.out
  have hb0 := hb
  replace hb := Lib.hid (hb.out.grown hgr (by rw [← hN.out]; exact hb.out.size) (fun k hk => by injection hk with hk; omega))
  replace hR := Lib.hid (hR.out.grownHi hgr ⟨by have := hb0.out.size; have := hN.out; omega, by omega⟩)
  replace h4 := Lib.hid h4'
  replace h5 := Lib.hid h5'
  replace hrd := Lib.hid hs1
  clear hgr hs1 h4' h5' hb0
  have p2 := blk_cell (j := 6) (v := .int .i64 0) h5.out rfl
  have p3 := blk_cell (j := 7) (v := .int .i64 0) h5.out rfl
  have q2 := blk_free h5.out 6
  have q3 := blk_free h5.out 7
  have hset := blk_set (blk_set h5.out 6 (.int .i64 ix)) 7 (.int .i64 sz)
  have h4s := (blk_other (g := N + 1) (k := N) (by omega) 7 (.int .i64 sz)).trans ((blk_other (w := w11) (g := N + 1) (k := N) (by omega) 6 (.int .i64 ix)).trans h4.out)
  have hbs := setLo (setLo hb.out (g := N + 1) (j := 6) hwN (.int .i64 ix)) (g := N + 1) (j := 7) hwN (.int .i64 sz)
  have hrs := (hrd.out.recSet h5.out (by rfl) (by omega) 6 (.int .i64 ix)).recSet (blk_set h5.out 6 (.int .i64 ix)) (by rfl) (by omega) 7 (.int .i64 sz)
  have hRs := (hR.out.setHi (g := N + 1) (by omega) 6 (.int .i64 ix)).setHi (g := N + 1) (by omega) 7 (.int .i64 sz)
  obtain ⟨w12, hw6⟩ : ∃ w6, (w11.setCell ⟨N + 1, 6, none⟩ (.int .i64 ix)).setCell ⟨N + 1, 7, none⟩ (.int .i64 sz) = w6 := ⟨_, rfl⟩
  rw [hw6] at hset h4s hbs hrs hRs
  replace h5 : Hid (w12.heap[N + 1]? = some (.cells #[.int .i64 2, .int .i64 0, .string (bs tx), .int .i64 gn, .int .i64 gr, .int .i64 gs, .int .i64 ix, .int .i64 sz, .string .empty, .slice none 0 0] 41 (0, 0))) := Lib.hid hset
  replace h4 := Lib.hid h4s
  replace hb := Lib.hid hbs
  replace hrd := Lib.hid hrs
  replace hR := Lib.hid hRs
  clear hset h4s hbs hrs hRs
  go_wp2_with fail
  obtain ⟨wd, hwd⟩ : ∃ wd, wd = w12.drew := ⟨_, rfl⟩
  replace h4 : Hid (wd.heap[N]? = some (.cells #[.int .i64 0, .int .i64 0, .string .empty, .int .i64 0, .int .i64 0, .int .i64 0, .int .i64 0, .int .i64 0, .string .empty, .slice none 0 0] 41 (0, 0))) := Lib.hid (by rw [hwd]; exact h4.out)
  replace h5 : Hid (wd.heap[N + 1]? = some (.cells #[.int .i64 2, .int .i64 0, .string (bs tx), .int .i64 gn, .int .i64 gr, .int .i64 gs, .int .i64 ix, .int .i64 sz, .string .empty, .slice none 0 0] 41 (0, 0))) := Lib.hid (by rw [hwd]; exact h5.out)
  replace hb : Hid (Below N w wd) := Lib.hid (by rw [hwd]; exact hb.out.drew)
  have hR0 : Rd wd N (some ⟨ab, ao, none⟩) l := by rw [hwd]; exact hR.out.drewN 1
  have hRm0 := hR0.mid (i := t) (m := s - t) (by have := hn.out; omega)
  rw [add_of, hsm.out] at hRm0
  have hRm := Lib.hid hRm0
  have hRd0 := hR0.cutAt (k := s) (by have := hn.out; omega)
  rw [Option.map_some, add_of] at hRd0
  have hRd := Lib.hid hRd0
  have hsl : Hid (sm.length = s - t) := Lib.hid (by rw [← hsm.out, List.length_take, List.length_drop, hn.out]; omega)
  clear hR0 hRm0 hRd0 hR hrd p2 p3 q2 q3 hw6
  refine wpR_region (Upd (fun k => k = N + 1)) 12 (by kernel_rfl) ?_
  (rw [← hwd]; replace hwd := Lib.hid hwd)
  refine wpR_take (i := 0) (v := ?_) (Upd.road _) (some 63) rfl (by kernel_rfl) (by kernel_rfl) (by kernel_rfl) (by kernel_rfl) (by kernel_rfl) (fun _ _ _ h => h) (by kernel_rfl) (fun w' hw' => ?_) ?_
  rotate_left
  · go_simp; with_reducible rfl
  simp only [Act.put, List.setIfInBounds_toArray, List.set_cons_zero, List.set_cons_succ]
  refine wpR_take (i := 1) (v := ?_) (Upd.road _) (some 64) rfl (by kernel_rfl) (by kernel_rfl) (by kernel_rfl) (by kernel_rfl) (by kernel_rfl) (fun _ _ _ h => h) (by kernel_rfl) (fun w' hw' => ?_) ?_
  rotate_left
  · go_simp; with_reducible rfl
  simp only [Act.put, List.setIfInBounds_toArray, List.set_cons_zero, List.set_cons_succ]
  refine wpR_take (i := 2) (v := ?_) (Upd.road _) (some 65) rfl (by kernel_rfl) (by kernel_rfl) (by kernel_rfl) (by kernel_rfl) (by kernel_rfl) (fun _ _ _ h => h) (by kernel_rfl) (fun w' hw' => ?_) ?_
  rotate_left
  · go_simp; with_reducible rfl
  simp only [Act.put, List.setIfInBounds_toArray, List.set_cons_zero, List.set_cons_succ]
  refine wpR_take (i := 3) (v := ?_) (Upd.road _) (some 66) rfl (by kernel_rfl) (by kernel_rfl) (by kernel_rfl) (by kernel_rfl) (by kernel_rfl) (fun _ _ _ h => h) (by kernel_rfl) (fun w' hw' => ?_) ?_
  rotate_left
  · go_simp; with_reducible rfl
  simp only [Act.put, List.setIfInBounds_toArray, List.set_cons_zero, List.set_cons_succ]
  refine wpR_take (i := 4) (v := ?_) (Upd.road _) (some 67) rfl (by kernel_rfl) (by kernel_rfl) (by kernel_rfl) (by kernel_rfl) (by kernel_rfl) (fun _ _ _ h => h) (by kernel_rfl) (fun w' hw' => ?_) ?_
  rotate_left
  · have q := run_str_at (w := w') (c - t) (hRm.out.keep (fun p hp => hw'.cell (by have := blk_lt h5.out; omega) (by omega))) hsl.out; go_simp; with_reducible rfl
  simp only [Act.put, List.setIfInBounds_toArray, List.set_cons_zero, List.set_cons_succ]
  refine wpR_take (i := 5) (v := ?_) (Upd.road _) (some 68) rfl (by kernel_rfl) (by kernel_rfl) (by kernel_rfl) (by kernel_rfl) (by kernel_rfl) (fun _ _ _ h => h) (by kernel_rfl) (fun w' hw' => ?_) ?_
  rotate_left
  · go_simp; with_reducible rfl
  simp only [Act.put, List.setIfInBounds_toArray, List.set_cons_zero, List.set_cons_succ]
  refine wpR_take (i := 6) (v := ?_) (Upd.road _) (some 69) rfl (by kernel_rfl) (by kernel_rfl) (by kernel_rfl) (by kernel_rfl) (by kernel_rfl) (fun _ _ _ h => h) (by kernel_rfl) (fun w' hw' => ?_) ?_
  rotate_left
  · go_simp; with_reducible rfl
  simp only [Act.put, List.setIfInBounds_toArray, List.set_cons_zero, List.set_cons_succ]
  refine wpR_take (i := 7) (v := ?_) (Upd.road _) (some 70) rfl (by kernel_rfl) (by kernel_rfl) (by kernel_rfl) (by kernel_rfl) (by kernel_rfl) (fun _ _ _ h => h) (by kernel_rfl) (fun w' hw' => ?_) ?_
  rotate_left
  · go_simp; with_reducible rfl
  simp only [Act.put, List.setIfInBounds_toArray, List.set_cons_zero, List.set_cons_succ]
  refine wpR_take (i := 9) (v := ?_) (Upd.road _) (some 72) rfl (by kernel_rfl) (by kernel_rfl) (by kernel_rfl) (by kernel_rfl) (by kernel_rfl) (fun _ _ _ h => h) (by kernel_rfl) (fun w' hw' => ?_) ?_
  rotate_left
  · go_simp; with_reducible rfl
  simp only [Act.put, List.setIfInBounds_toArray, List.set_cons_zero, List.set_cons_succ]
  refine wpR_one 8 rfl (by kernel_rfl) (by kernel_rfl) (fun K hK => ?_)
  go_simp
  refine (bclone_any (some ⟨ab, ao + s, none⟩) (n - s) (c - s) (l.drop s) hdl.out (by omega) _ (hRd.out.more (by have := hb.out.size; have := hN.out; omega))).mono ?_
  rintro e w13 ⟨v9, rfl, ho9, hbb⟩
  refine hK _ _ (fun _ => Upd.of_below hbb) ?_
  clear hK K
  have h4' := blk_below h4.out hbb
  have h5' := blk_below h5.out hbb
  have hfr : ∀ (A9 : Option Addr) (m c9 : Nat), v9 = .slice A9 m c9 → ∀ ad, A9 = some ad → w.heap.size ≤ ad.block := fun A9 m c9 e ad e2 => by
    have h1 := (World.ownsRow.lt ho9 ad.block (by rw [e, e2]; rfl)).1
    have h2 := hb.out.size
    have h3 := hN.out
    omega
  replace hb := hb.out.trans (hbb.mono (by have := hb.out.size; have := hN.out; omega))
  obtain ⟨A9, c9, rfl, hc91, hc92, hR9, -⟩ := ho9.form
  replace hfr := Lib.hid (hfr _ _ _ rfl)
  rw [hdl.out] at hc91
  replace hc91 := Lib.hid hc91
  replace hc92 := Lib.hid hc92
  rw [hdl.out]
  replace h4 := Lib.hid h4'
  replace h5 := Lib.hid h5'
  replace hb := Lib.hid hb
  replace hR9 := Lib.hid hR9
  clear hbb ho9 h4' h5'
  have p8 := blk_cell (j := 8) (v := .string .empty) h5.out rfl
  have q8 := blk_free h5.out 8
  try simp only [Act.put, List.setIfInBounds_toArray, List.set_cons_zero, List.set_cons_succ]
  refine wpR_one 10 rfl (by kernel_rfl) (by kernel_rfl) (fun K hK => ?_)
  go_simp
  refine hK _ _ (fun _ => Upd.of_grown (blk_grown _ _ _ _) rfl) ?_
  clear hK K
  clear p8 q8
  have hset := blk_set h5.out 8 (.string (bs sm))
  have h4s := (blk_other (w := w13) (g := N + 1) (k := N) (by omega) 8 (.string (bs sm))).trans h4.out
  have hbs := setLo hb.out (g := N + 1) (j := 8) hwN (.string (bs sm))
  have hrs := hR9.out.recSet h5.out (by rfl) 8 (.string (bs sm))
  obtain ⟨w14, hw14⟩ : ∃ w14, w13.setCell ⟨N + 1, 8, none⟩ (.string (bs sm)) = w14 := ⟨_, rfl⟩
  rw [hw14] at hset h4s hbs hrs ⊢
  replace hw14 := Lib.hid hw14
  replace h5 : Hid (w14.heap[N + 1]? = some (.cells #[.int .i64 2, .int .i64 0, .string (bs tx), .int .i64 gn, .int .i64 gr, .int .i64 gs, .int .i64 ix, .int .i64 sz, .string (bs sm), .slice none 0 0] 41 (0, 0))) := Lib.hid hset
  replace h4 := Lib.hid h4s
  replace hb := Lib.hid hbs
  replace hR9 := Lib.hid hrs
  clear hset h4s hbs hrs
  have p9 := blk_cell (j := 9) (v := .slice none 0 0) h5.out rfl
  have q9 := blk_free h5.out 9
  try simp only [Act.put, List.setIfInBounds_toArray, List.set_cons_zero, List.set_cons_succ]
  refine wpR_take (i := 11) (v := ?_) (Upd.road _) (some 73) rfl (by kernel_rfl) (by kernel_rfl) (by kernel_rfl) (by kernel_rfl) (by kernel_rfl) (fun _ _ _ h => h) (by kernel_rfl) (fun w' hw' => ?_) ?_
  rotate_left
  · go_simp; with_reducible rfl
  simp only [Act.put, List.setIfInBounds_toArray, List.set_cons_zero, List.set_cons_succ]
  refine wpR_one 12 rfl (by kernel_rfl) (by kernel_rfl) (fun K hK => ?_)
  go_simp
  refine hK _ _ (fun h => absurd h (by decide)) ?_
  clear hK K
  clear p9 q9
  have hset := blk_set h5.out 9 (.slice A9 (n - s) c9)
  have h4s := (blk_other (w := w14) (g := N + 1) (k := N) (by omega) 9 (.slice A9 (n - s) c9)).trans h4.out
  have hbs := setLo hb.out (g := N + 1) (j := 9) hwN (.slice A9 (n - s) c9)
  have hrs := hR9.out.recSet h5.out (by rfl) 9 (.slice A9 (n - s) c9)
  obtain ⟨w15, hw15⟩ : ∃ w15, w14.setCell ⟨N + 1, 9, none⟩ (.slice A9 (n - s) c9) = w15 := ⟨_, rfl⟩
  rw [hw15] at hset h4s hbs hrs ⊢
  replace hw15 := Lib.hid hw15
  replace h5 : Hid (w15.heap[N + 1]? = some (.cells #[.int .i64 2, .int .i64 0, .string (bs tx), .int .i64 gn, .int .i64 gr, .int .i64 gs, .int .i64 ix, .int .i64 sz, .string (bs sm), .slice A9 (n - s) c9] 41 (0, 0))) := Lib.hid hset
  replace h4 := Lib.hid h4s
  replace hb := Lib.hid hbs
  replace hR9 := Lib.hid hrs
  clear hset h4s hbs hrs
  try simp only [Act.put, List.setIfInBounds_toArray, List.set_cons_zero, List.set_cons_succ]
  refine wpR_done (by kernel_rfl) ?_ _
  have y0 := blk_cell (j := 0) (v := .int .i64 2) h5.out rfl
  have y1 := blk_cell (j := 1) (v := .int .i64 0) h5.out rfl
  have y2 := blk_cell (j := 2) (v := .string (bs tx)) h5.out rfl
  have y3 := blk_cell (j := 3) (v := .int .i64 gn) h5.out rfl
  have y4 := blk_cell (j := 4) (v := .int .i64 gr) h5.out rfl
  have y5 := blk_cell (j := 5) (v := .int .i64 gs) h5.out rfl
  have y6 := blk_cell (j := 6) (v := .int .i64 ix) h5.out rfl
  have y7 := blk_cell (j := 7) (v := .int .i64 sz) h5.out rfl
  have y8 := blk_cell (j := 8) (v := .string (bs sm)) h5.out rfl
  have y9 := blk_cell (j := 9) (v := .slice A9 (n - s) c9) h5.out rfl
  have z0 := blk_cell (j := 0) (v := .int .i64 0) h4.out rfl
  have f0 := blk_free h4.out 0
  have z1 := blk_cell (j := 1) (v := .int .i64 0) h4.out rfl
  have f1 := blk_free h4.out 1
  have z2 := blk_cell (j := 2) (v := .string .empty) h4.out rfl
  have f2 := blk_free h4.out 2
  have z3 := blk_cell (j := 3) (v := .int .i64 0) h4.out rfl
  have f3 := blk_free h4.out 3
  have z4 := blk_cell (j := 4) (v := .int .i64 0) h4.out rfl
  have f4 := blk_free h4.out 4
  have z5 := blk_cell (j := 5) (v := .int .i64 0) h4.out rfl
  have f5 := blk_free h4.out 5
  have z6 := blk_cell (j := 6) (v := .int .i64 0) h4.out rfl
  have f6 := blk_free h4.out 6
  have z7 := blk_cell (j := 7) (v := .int .i64 0) h4.out rfl
  have f7 := blk_free h4.out 7
  have z8 := blk_cell (j := 8) (v := .string .empty) h4.out rfl
  have f8 := blk_free h4.out 8
  have z9 := blk_cell (j := 9) (v := .slice none 0 0) h4.out rfl
  have f9 := blk_free h4.out 9
  go_wp2_with fail
  have hz := blk_set10 h4.out (.int .i64 2) (.int .i64 0) (.string (bs tx)) (.int .i64 gn) (.int .i64 gr) (.int .i64 gs) (.int .i64 ix) (.int .i64 sz) (.string (bs sm)) (.slice A9 (n - s) c9)
  have hbz := setLo10 hb.out (Nat.le_refl N) (.int .i64 2) (.int .i64 0) (.string (bs tx)) (.int .i64 gn) (.int .i64 gr) (.int .i64 gs) (.int .i64 ix) (.int .i64 sz) (.string (bs sm)) (.slice A9 (n - s) c9)
  have hrz := hR9.out.recSet10 h4.out (by rfl) (.int .i64 2) (.int .i64 0) (.string (bs tx)) (.int .i64 gn) (.int .i64 gr) (.int .i64 gs) (.int .i64 ix) (.int .i64 sz) (.string (bs sm)) (.slice A9 (n - s) c9)
  obtain ⟨w16, hw16'⟩ : ∃ w16, ((((((((((w15.setCell ⟨N, 0, none⟩ (.int .i64 2)).setCell ⟨N, 1, none⟩ (.int .i64 0)).setCell ⟨N, 2, none⟩ (.string (bs tx))).setCell ⟨N, 3, none⟩ (.int .i64 gn)).setCell ⟨N, 4, none⟩ (.int .i64 gr)).setCell ⟨N, 5, none⟩ (.int .i64 gs)).setCell ⟨N, 6, none⟩ (.int .i64 ix)).setCell ⟨N, 7, none⟩ (.int .i64 sz)).setCell ⟨N, 8, none⟩ (.string (bs sm))).setCell ⟨N, 9, none⟩ (.slice A9 (n - s) c9)) = w16 := ⟨_, rfl⟩
  rw [hw16'] at hz hbz hrz ⊢
  have r0 := blk_cell (j := 0) (v := .int .i64 2) hz (by rfl)
  have r1 := blk_cell (j := 1) (v := .int .i64 0) hz (by rfl)
  have r2 := blk_cell (j := 2) (v := .string (bs tx)) hz (by rfl)
  have r3 := blk_cell (j := 3) (v := .int .i64 gn) hz (by rfl)
  have r4 := blk_cell (j := 4) (v := .int .i64 gr) hz (by rfl)
  have r5 := blk_cell (j := 5) (v := .int .i64 gs) hz (by rfl)
  have r6 := blk_cell (j := 6) (v := .int .i64 ix) hz (by rfl)
  have r7 := blk_cell (j := 7) (v := .int .i64 sz) hz (by rfl)
  have r8 := blk_cell (j := 8) (v := .string (bs sm)) hz (by rfl)
  have r9 := blk_cell (j := 9) (v := .slice A9 (n - s) c9) hz (by rfl)
  exact bodyPost_ret (v := (.agg #[.int .i64 2, .int .i64 0, .string (bs tx), .int .i64 gn, .int .i64 gr, .int .i64 gs, .int .i64 ix, .int .i64 sz, .string (bs sm), .slice A9 (n - s) c9])) (by simp [results, Try.results50, go_sem, r0, r1, r2, r3, r4, r5, r6, r7, r8, r9]) rfl ⟨A9, c9, rfl, hrz.more (by have := hrz; exact Nat.le_of_eq (by rw [← hw16']; simp; rw [← hw15.out, ← hw14.out]; simp)), (fun ad e => by have h1 := hfr.out ad e; have h2 := hN.out; omega), hc91.out, hc92.out, hbz⟩
theorem gs1_ok (n : Int) (h : R64 n) (k : Int) (hk : R64 k) : (Rc.mk k n [] 0 0 0 0 0 [] []).Ok := by
  have z0 : R64 0 := by unfold R64; decide
  exact ⟨hk, h, z0, z0, z0, z0, z0, Nat.zero_le _, Nat.zero_le _⟩
theorem gs2_ok (l : List UInt8) (t s : Nat) (hl : l.length ≤ 140737488355328) : (gs2 l t s).Ok := by
  have hl0 : RL (some (l.take t)) := fun l' e => by injection e with e; subst e; rw [List.length_take]; omega
  have hlo : ∀ st most, 0 ≤ most → most ≤ 1099511627776 → R64 (rget st most).1 := fun st most h0 h1 => by
    have h2 := rget_nonneg st most
    have h3 : (rget st most).1 ≤ most := by
      unfold rget
      split
      · exact h0
      · split
        · exact h0
        · split
          · assumption
          · exact h0
    unfold R64
    omega
  have htx : ∀ (st : RS) most, RL st → (rtext st most).1.length ≤ 140737488355328 := fun st most h => by
    unfold rtext
    split
    · simp
    · rename_i n l hq
      have h2 : l.length ≤ 140737488355328 := h.get most l (by rw [hq])
      split
      · simp only [List.length_take]; omega
      · simp
  unfold gs2
  have z2 : R64 2 := by unfold R64; decide
  have z0 : R64 0 := by unfold R64; decide
  refine ⟨z2, z0, hlo _ _ (by decide) (by decide), hlo _ _ (by decide) (by decide), hlo _ _ (by decide) (by decide), hlo _ _ (by decide) (by decide), hlo _ _ (by decide) (by decide), ?_, ?_⟩
  · exact Nat.le_trans (htx (some (l.take t)) 16 hl0) (by decide)
  · refine Nat.le_trans (show ((l.drop t).take (s - t)).length ≤ 140737488355328 from ?_) (by decide)
    simp only [List.length_take, List.length_drop]
    omega
/-- what guess answers -/
def guessR (k : Int) (l : List UInt8) : Rc := if k = 1 then guess1 l else if k = 3 then guess3 l else if k = 2 then guess2 l else guess0 k
theorem rget_R64 (st : RS) (most : Int) (h0 : 0 ≤ most) (h1 : most ≤ 1099511627776) : R64 (rget st most).1 := by
  have h2 := rget_nonneg st most
  have h3 : (rget st most).1 ≤ most := by
    unfold rget
    split
    · exact h0
    · split
      · exact h0
      · split
        · assumption
        · exact h0
  unfold R64
  omega
theorem rtext_len (st : RS) (most : Int) (h : RL st) : (rtext st most).1.length ≤ 140737488355328 := by
  unfold rtext
  split
  · simp
  · rename_i n l hq
    have h2 : l.length ≤ 140737488355328 := h.get most l (by rw [hq])
    split
    · simp only [List.length_take]; omega
    · simp
theorem guessR_ok (k : Int) (hk : R64 k) (l : List UInt8) (hl : l.length ≤ 140737488355328) : (guessR k l).Ok := by
  have z0 : R64 0 := by unfold R64; decide
  have z1 : R64 1 := by unfold R64; decide
  have z3 : R64 3 := by unfold R64; decide
  unfold guessR
  split
  · exact gs1_ok _ (rget_R64 _ _ (by decide) (by decide)) 1 z1
  · split
    · have hl0 : RL (some l) := fun l' e => by injection e with e; subst e; exact hl
      exact ⟨z3, z0, rget_R64 _ _ (by decide) (by decide), z0, z0, z0, z0, Nat.le_trans (rtext_len _ _ hl0) (by decide), Nat.zero_le _⟩
    · split
      · exact gs2_ok l _ _ hl
      · exact gs1_ok 0 z0 k hk
theorem guess_any (k : Int) (ab ao n c : Nat) (l : List UInt8) (hn : l.length = n) (hl : n ≤ 140737488355328) (hnc : n + 4 ≤ c) (hcm : c ≤ 9223372036854775807) (w : World) (hab : ab < w.heap.size) (hr : Rd w w.heap.size (some ⟨ab, ao, none⟩) l) :
    Calls Try.prog 50 #[.int .i64 k, .slice (some ⟨ab, ao, none⟩) n c] w fun e w' => ∃ A9 c9, e = .returned ((guessR k l).agg A9 c9) ∧ Rd w' w'.heap.size A9 (guessR k l).data ∧ (∀ ad, A9 = some ad → w.heap.size ≤ ad.block) ∧ (guessR k l).data.length ≤ c9 ∧ c9 ≤ maxLen ∧ Below w.heap.size w w' := by
  unfold guessR
  by_cases h1 : k = 1
  · rw [if_pos h1, h1]
    exact (guess1_any _ n c l hn hl w hr).mono fun e w' ⟨he, hb⟩ => ⟨none, 0, he, Rd.nil_, (fun ad h => by cases h), Nat.le_refl _, Nat.zero_le _, hb⟩
  · rw [if_neg h1]
    by_cases h3 : k = 3
    · rw [if_pos h3, h3]
      exact (guess3_any _ n c l hn hl w hr).mono fun e w' ⟨he, hb⟩ => ⟨none, 0, he, Rd.nil_, (fun ad h => by cases h), Nat.le_refl _, Nat.zero_le _, hb⟩
    · rw [if_neg h3]
      by_cases h2 : k = 2
      · rw [if_pos h2, h2]
        exact guess2_at ab ao n c _ _ l hn hl hnc hcm (by rw [hn]) (by rw [hn]) w hab hr
      · rw [if_neg h2]
        exact (guess0_any k h1 h2 h3 _ n c w).mono fun e w' ⟨he, hb⟩ => ⟨none, 0, he, Rd.nil_, (fun ad h => by cases h), Nat.le_refl _, Nat.zero_le _, hb⟩
end Go.Proofs.Ytdgkcgiknfjpjaa
/- Records of label: Decode of any bytes. -/
namespace Go.Proofs.Ytdgkcgiknfjpjaa
set_option linter.unusedVariables false
set_option linter.unusedSimpArgs false
open Go Go.RowKit
def zagg : Value := (.agg #[.int .i64 0, .int .i64 0, .string ⟨#[]⟩, .int .i64 0, .int .i64 0, .int .i64 0, .int .i64 0, .int .i64 0, .string ⟨#[]⟩, .slice none 0 0])
set_option maxHeartbeats 8000000 in
set_option maxRecDepth 20000 in
theorem decode_yes (A : Option Addr) (m c : Nat) (b : List UInt8) (hn : b.length = m + 6) (hnc : m + 6 ≤ c) (hcm : c ≤ 9223372036854775807) (hm : m ≤ 140737488355000) (k : UInt8) (h1 : b[1]? = some k) (q : Rc)
    (hg3 : guessR (U k) ((b.drop 2).take m) = q) (hg : goodB q = true) (he : (encB q == b) = true) (w : World) (hr : Rd w w.heap.size A b) :
    Calls Try.prog 25 #[.slice A (m + 6) c] w fun e w' => ∃ A9 c9, e = .returned (.tuple #[(.agg #[.int .i64 q.kind, .int .i64 q.cart, .string (bs q.key), .int .i64 q.gen, .int .i64 q.group, .int .i64 q.groups, .int .i64 q.index, .int .i64 q.size, .string (bs q.sum), .slice A9 q.data.length c9]), .int .i64 0]) ∧ Rd w' w'.heap.size A9 q.data ∧ (∀ ad, A9 = some ad → w.heap.size ≤ ad.block) ∧ q.data.length ≤ c9 ∧ c9 ≤ maxLen ∧ Below w.heap.size w w' := by
  obtain ⟨ad0, rfl, hadb0, hc0⟩ := hr.at_ (k := 0) (by omega)
  have hfl := flat_of hc0
  obtain ⟨ab, hab⟩ : ∃ ab, ad0.block = ab := ⟨_, rfl⟩
  obtain ⟨ao, hao⟩ : ∃ ao, ad0.off = ao := ⟨_, rfl⟩
  rw [hab, hao] at hfl
  subst hfl
  clear hc0 hab hao
  have hadb : ab < w.heap.size := hadb0
  have hk := U_bd k
  have hok : q.Ok := by rw [← hg3]; exact guessR_ok _ (by unfold R64; omega) _ (by rw [List.length_take, List.length_drop]; omega)
  have hgs : Hid (∀ W : World, ab < W.heap.size → Rd W W.heap.size (some ⟨ab, ao + 2, none⟩) ((b.drop 2).take m) → Calls Try.prog 50 #[.int .i64 (U k), .slice (some ⟨ab, ao + 2, none⟩) m (c - 2)] W fun e w' => ∃ A9 c9, e = .returned (q.agg A9 c9) ∧ Rd w' w'.heap.size A9 q.data ∧ (∀ ad, A9 = some ad → W.heap.size ≤ ad.block) ∧ q.data.length ≤ c9 ∧ c9 ≤ maxLen ∧ Below W.heap.size W w') := Lib.hid (fun W hab hW => by
    have := guess_any (U k) ab (ao + 2) m (c - 2) _ (by rw [List.length_take, List.length_drop]; omega) (by omega) (by omega) (by omega) W hab hW
    rw [hg3] at this
    exact this)
  clear hk
  have hN1 := heap_alloc_new w (.cells #[.int .i64 0, .int .i64 0, .string ⟨#[]⟩, .int .i64 0, .int .i64 0, .int .i64 0, .int .i64 0, .int .i64 0, .string ⟨#[]⟩, .slice none 0 0] 41)
  have hb1 := (Below.refl w.heap.size w).alloc (Nat.le_refl _) (.cells #[.int .i64 0, .int .i64 0, .string ⟨#[]⟩, .int .i64 0, .int .i64 0, .int .i64 0, .int .i64 0, .int .i64 0, .string ⟨#[]⟩, .slice none 0 0] 41)
  have hmid : Rd w w.heap.size (some ⟨ab, ao + 2, none⟩) ((b.drop 2).take m) := by have := hr.mid (i := 2) (m := m) (by omega); rwa [add_of] at this
  have hR1 := hr.up hb1
  have hw1 : IntKind.i64.wrap ((m : Int) + 6 - 4) = (m : Int) + 2 := by rw [IntWalk.i64_in _ (by omega)]; omega
  have hc2 : ¬ (c = 2) := by omega
  have hi1 : (1 : Int) < (m : Int) + 6 := by omega
  have hs1 : (2 : Int) ≤ (m : Int) + 2 := by omega
  have hs2 : (m : Int) + 2 ≤ (c : Int) := by omega
  have hs3 : 0 ≤ (m : Int) + 2 := by omega
  have hd6 : decide ((m : Int) + 6 < 6) = false := decide_eq_false (by omega)
  replace hn := Lib.hid hn
  replace hg := Lib.hid hg
  replace he := Lib.hid he
  replace hok := Lib.hid hok
  have hr0 := Lib.hid hr
  go_enter Try.func25, Try.ntmps25
  go_wp2_with fail
  obtain ⟨wd, hwd⟩ : ∃ wd, wd = (w.alloc (.cells #[.int .i64 0, .int .i64 0, .string ⟨#[]⟩, .int .i64 0, .int .i64 0, .int .i64 0, .int .i64 0, .int .i64 0, .string ⟨#[]⟩, .slice none 0 0] 41)).drew := ⟨_, rfl⟩
  have hbd : Hid (Below w.heap.size w wd) := Lib.hid (by rw [hwd]; exact hb1.drew)
  have hNd : Hid (wd.heap[w.heap.size]? = some (.cells #[.int .i64 0, .int .i64 0, .string ⟨#[]⟩, .int .i64 0, .int .i64 0, .int .i64 0, .int .i64 0, .int .i64 0, .string ⟨#[]⟩, .slice none 0 0] 41 (0, 0))) := Lib.hid (by rw [hwd]; exact hN1)
  have hsld : Hid (Rd wd wd.heap.size (some ⟨ab, ao + 2, none⟩) ((b.drop 2).take m)) := Lib.hid (by rw [hwd]; exact (hmid.up hb1).drewN 1)
  obtain ⟨ad', ead, -, c1⟩ := (show Rd wd wd.heap.size (some ⟨ab, ao, none⟩) b by rw [hwd]; exact hR1.drewN 1).get h1
  injection ead with ead
  subst ead
  rw [add_of] at c1
  have hadd : ab < wd.heap.size := Nat.lt_of_lt_of_le hadb hbd.out.size
  clear hg3 hmid hR1 hN1 hb1 hr h1
  have hr := hr0
  clear hr0
  refine wpR_region (Upd (fun _ => False)) 11 (by kernel_rfl) ?_
  (rw [← hwd]; replace hwd := Lib.hid hwd)
  refine wpR_take (i := 0) (v := ?_) (Upd.road _) (some 11) rfl (by kernel_rfl) (by kernel_rfl) (by kernel_rfl) (by kernel_rfl) (by kernel_rfl) (fun _ _ _ h => h) (by kernel_rfl) (fun w' hw' => ?_) ?_
  rotate_left
  · go_simp; with_reducible rfl
  simp only [Act.put, List.setIfInBounds_toArray, List.set_cons_zero, List.set_cons_succ]
  refine wpR_take (i := 1) (v := ?_) (Upd.road _) (some 12) rfl (by kernel_rfl) (by kernel_rfl) (by kernel_rfl) (by kernel_rfl) (by kernel_rfl) (fun _ _ _ h => h) (by kernel_rfl) (fun w' hw' => ?_) ?_
  rotate_left
  · go_simp; with_reducible rfl
  simp only [Act.put, List.setIfInBounds_toArray, List.set_cons_zero, List.set_cons_succ]
  refine wpR_take (i := 2) (v := ?_) (Upd.road _) (some 13) rfl (by kernel_rfl) (by kernel_rfl) (by kernel_rfl) (by kernel_rfl) (by kernel_rfl) (fun _ _ _ h => h) (by kernel_rfl) (fun w' hw' => ?_) ?_
  rotate_left
  · have q := (hw'.cell (p := ⟨ab, ao + 1, none⟩) hadd (fun h => h)).trans c1; go_simp; with_reducible rfl
  simp only [Act.put, List.setIfInBounds_toArray, List.set_cons_zero, List.set_cons_succ]
  refine wpR_take (i := 3) (v := ?_) (Upd.road _) (some 14) rfl (by kernel_rfl) (by kernel_rfl) (by kernel_rfl) (by kernel_rfl) (by kernel_rfl) (fun _ _ _ h => h) (by kernel_rfl) (fun w' hw' => ?_) ?_
  rotate_left
  · go_simp; with_reducible rfl
  simp only [Act.put, List.setIfInBounds_toArray, List.set_cons_zero, List.set_cons_succ]
  refine wpR_take (i := 4) (v := ?_) (Upd.road _) (some 15) rfl (by kernel_rfl) (by kernel_rfl) (by kernel_rfl) (by kernel_rfl) (by kernel_rfl) (fun _ _ _ h => h) (by kernel_rfl) (fun w' hw' => ?_) ?_
  rotate_left
  · go_simp; with_reducible rfl
  simp only [Act.put, List.setIfInBounds_toArray, List.set_cons_zero, List.set_cons_succ]
  refine wpR_take (i := 5) (v := ?_) (Upd.road _) (some 16) rfl (by kernel_rfl) (by kernel_rfl) (by kernel_rfl) (by kernel_rfl) (by kernel_rfl) (fun _ _ _ h => h) (by kernel_rfl) (fun w' hw' => ?_) ?_
  rotate_left
  · go_simp; with_reducible rfl
  simp only [Act.put, List.setIfInBounds_toArray, List.set_cons_zero, List.set_cons_succ]
  refine wpR_take (i := 6) (v := ?_) (Upd.road _) (some 17) rfl (by kernel_rfl) (by kernel_rfl) (by kernel_rfl) (by kernel_rfl) (by kernel_rfl) (fun _ _ _ h => h) (by kernel_rfl) (fun w' hw' => ?_) ?_
  rotate_left
  · go_simp; with_reducible rfl
  simp only [Act.put, List.setIfInBounds_toArray, List.set_cons_zero, List.set_cons_succ]
  refine wpR_take (i := 7) (v := ?_) (Upd.road _) (some 18) rfl (by kernel_rfl) (by kernel_rfl) (by kernel_rfl) (by kernel_rfl) (by kernel_rfl) (fun _ _ _ h => h) (by kernel_rfl) (fun w' hw' => ?_) ?_
  rotate_left
  · go_simp; with_reducible rfl
  simp only [Act.put, List.setIfInBounds_toArray, List.set_cons_zero, List.set_cons_succ]
  refine wpR_take (i := 8) (v := ?_) (Upd.road _) (some 19) rfl (by kernel_rfl) (by kernel_rfl) (by kernel_rfl) (by kernel_rfl) (by kernel_rfl) (fun _ _ _ h => h) (by kernel_rfl) (fun w' hw' => ?_) ?_
  rotate_left
  · go_simp; with_reducible rfl
  simp only [Act.put, List.setIfInBounds_toArray, List.set_cons_zero, List.set_cons_succ]
  refine wpR_two 9 10 rfl rfl (by kernel_rfl) (by kernel_rfl) (by kernel_rfl) (fun K hK => ?_) (fun K hK => ?_)
  · go_simp
    refine (hgs.out _ (by have := hbd.out.size; omega) hsld.out).mono ?_
    rintro e w3 ⟨A9, c9, rfl, hd3, hfr, hc91, hc92, hbb⟩
    replace hc91 := Lib.hid hc91
    replace hc92 := Lib.hid hc92
    replace hfr : Hid (∀ ad, A9 = some ad → w.heap.size ≤ ad.block) := Lib.hid (fun ad e => Nat.le_trans (by have := hbd.out.size; omega) (hfr ad e))
    refine hK _ _ (fun _ => Upd.of_below hbb) ?_
    clear hK K
    have hN3 := Lib.hid (blk_below hNd.out hbb)
    have hb3 := Lib.hid (hbd.out.trans (hbb.mono hbd.out.size))
    clear hbb
    try simp only [Act.put, List.setIfInBounds_toArray, List.set_cons_zero, List.set_cons_succ]
    refine wpR_one 10 rfl (by kernel_rfl) (by kernel_rfl) (fun K hK => ?_)
    go_simp
    refine hK _ _ (fun _ => Upd.of_below ((Below.refl _ _).alloc (Nat.le_refl _) _)) ?_
    clear hK K
    have hX5 := heap_alloc_new w3 (.cells #[.int .i64 0, .int .i64 0, .string ⟨#[]⟩, .int .i64 0, .int .i64 0, .int .i64 0, .int .i64 0, .int .i64 0, .string ⟨#[]⟩, .slice none 0 0] 41)
    have hN5 := Lib.hid (blk_alloc hN3.out (.cells #[.int .i64 0, .int .i64 0, .string ⟨#[]⟩, .int .i64 0, .int .i64 0, .int .i64 0, .int .i64 0, .int .i64 0, .string ⟨#[]⟩, .slice none 0 0] 41))
    have hb5 := Lib.hid (hb3.out.alloc hb3.out.size (.cells #[.int .i64 0, .int .i64 0, .string ⟨#[]⟩, .int .i64 0, .int .i64 0, .int .i64 0, .int .i64 0, .int .i64 0, .string ⟨#[]⟩, .slice none 0 0] 41))
    have hd9 := hd3.up ((Below.refl _ _).alloc (Nat.le_refl _) (.cells #[.int .i64 0, .int .i64 0, .string ⟨#[]⟩, .int .i64 0, .int .i64 0, .int .i64 0, .int .i64 0, .int .i64 0, .string ⟨#[]⟩, .slice none 0 0] 41))
    obtain ⟨X, hX⟩ : ∃ X, w3.heap.size = X := ⟨_, rfl⟩
    have hXN : w.heap.size < X := by have := blk_lt hN3.out; omega
    rw [hX] at hX5 ⊢
    obtain ⟨w5, hw5⟩ : ∃ w5, w3.alloc (.cells #[.int .i64 0, .int .i64 0, .string ⟨#[]⟩, .int .i64 0, .int .i64 0, .int .i64 0, .int .i64 0, .int .i64 0, .string ⟨#[]⟩, .slice none 0 0] 41) = w5 := ⟨_, rfl⟩
    rw [hw5] at hX5 hN5 hb5 hd9 ⊢
    replace hd9 := Lib.hid hd9
    clear hd3
    have z0 := blk_cell (j := 0) (v := .int .i64 0) hX5 rfl
    have f0 := blk_free hX5 0
    have z1 := blk_cell (j := 1) (v := .int .i64 0) hX5 rfl
    have f1 := blk_free hX5 1
    have z2 := blk_cell (j := 2) (v := .string ⟨#[]⟩) hX5 rfl
    have f2 := blk_free hX5 2
    have z3 := blk_cell (j := 3) (v := .int .i64 0) hX5 rfl
    have f3 := blk_free hX5 3
    have z4 := blk_cell (j := 4) (v := .int .i64 0) hX5 rfl
    have f4 := blk_free hX5 4
    have z5 := blk_cell (j := 5) (v := .int .i64 0) hX5 rfl
    have f5 := blk_free hX5 5
    have z6 := blk_cell (j := 6) (v := .int .i64 0) hX5 rfl
    have f6 := blk_free hX5 6
    have z7 := blk_cell (j := 7) (v := .int .i64 0) hX5 rfl
    have f7 := blk_free hX5 7
    have z8 := blk_cell (j := 8) (v := .string ⟨#[]⟩) hX5 rfl
    have f8 := blk_free hX5 8
    have z9 := blk_cell (j := 9) (v := .slice none 0 0) hX5 rfl
    have f9 := blk_free hX5 9
    replace hX5 := Lib.hid hX5
    replace hw5 := Lib.hid hw5
    replace hX := Lib.hid hX
    unfold Rc.agg
    try simp only [Act.put, List.setIfInBounds_toArray, List.set_cons_zero, List.set_cons_succ]
    refine wpR_one 11 rfl (by kernel_rfl) (by kernel_rfl) (fun K hK => ?_)
    go_simp
    refine hK _ _ (fun h => absurd h (by decide)) ?_
    clear hK K
    clear z0 f0 z1 f1 z2 f2 z3 f3 z4 f4 z5 f5 z6 f6 z7 f7 z8 f8 z9 f9
    have hd6 := hd9.out.recSet10 hX5.out (by rfl) (.int .i64 q.kind) (.int .i64 q.cart) (.string (bs q.key)) (.int .i64 q.gen) (.int .i64 q.group) (.int .i64 q.groups) (.int .i64 q.index) (.int .i64 q.size) (.string (bs q.sum)) (.slice A9 q.data.length c9)
    have hX6 := blk_set10 hX5.out (.int .i64 q.kind) (.int .i64 q.cart) (.string (bs q.key)) (.int .i64 q.gen) (.int .i64 q.group) (.int .i64 q.groups) (.int .i64 q.index) (.int .i64 q.size) (.string (bs q.sum)) (.slice A9 q.data.length c9)
    have hN6 := set10_other (X := X) (g := w.heap.size) (by omega) hN5.out (.int .i64 q.kind) (.int .i64 q.cart) (.string (bs q.key)) (.int .i64 q.gen) (.int .i64 q.group) (.int .i64 q.groups) (.int .i64 q.index) (.int .i64 q.size) (.string (bs q.sum)) (.slice A9 q.data.length c9)
    have hb6 := setLo10 hb5.out (g := X) (Nat.le_of_lt hXN) (.int .i64 q.kind) (.int .i64 q.cart) (.string (bs q.key)) (.int .i64 q.gen) (.int .i64 q.group) (.int .i64 q.groups) (.int .i64 q.index) (.int .i64 q.size) (.string (bs q.sum)) (.slice A9 q.data.length c9)
    have hz6 : ((((((((((w5.setCell ⟨X, 0, none⟩ (.int .i64 q.kind)).setCell ⟨X, 1, none⟩ (.int .i64 q.cart)).setCell ⟨X, 2, none⟩ (.string (bs q.key))).setCell ⟨X, 3, none⟩ (.int .i64 q.gen)).setCell ⟨X, 4, none⟩ (.int .i64 q.group)).setCell ⟨X, 5, none⟩ (.int .i64 q.groups)).setCell ⟨X, 6, none⟩ (.int .i64 q.index)).setCell ⟨X, 7, none⟩ (.int .i64 q.size)).setCell ⟨X, 8, none⟩ (.string (bs q.sum))).setCell ⟨X, 9, none⟩ (.slice A9 q.data.length c9)).heap.size = w5.heap.size := by simp
    obtain ⟨w6, hw6⟩ : ∃ w6, ((((((((((w5.setCell ⟨X, 0, none⟩ (.int .i64 q.kind)).setCell ⟨X, 1, none⟩ (.int .i64 q.cart)).setCell ⟨X, 2, none⟩ (.string (bs q.key))).setCell ⟨X, 3, none⟩ (.int .i64 q.gen)).setCell ⟨X, 4, none⟩ (.int .i64 q.group)).setCell ⟨X, 5, none⟩ (.int .i64 q.groups)).setCell ⟨X, 6, none⟩ (.int .i64 q.index)).setCell ⟨X, 7, none⟩ (.int .i64 q.size)).setCell ⟨X, 8, none⟩ (.string (bs q.sum))).setCell ⟨X, 9, none⟩ (.slice A9 q.data.length c9)) = w6 := ⟨_, rfl⟩
    rw [hw6] at hX6 hN6 hb6 hd6 hz6 ⊢
    rw [← hz6] at hd6
    replace hX6 := Lib.hid hX6
    replace hN6 := Lib.hid hN6
    replace hb6 := Lib.hid hb6
    replace hw6 := Lib.hid hw6
    replace hd6 := Lib.hid hd6
    clear hX5 hN5 hb5 hd9 hz6
    try simp only [Act.put, List.setIfInBounds_toArray, List.set_cons_zero, List.set_cons_succ]
    refine wpR_done (by kernel_rfl) ?_ _
    have y0 := blk_cell (j := 0) (v := .int .i64 q.kind) hX6.out rfl
    have y1 := blk_cell (j := 1) (v := .int .i64 q.cart) hX6.out rfl
    have y2 := blk_cell (j := 2) (v := .string (bs q.key)) hX6.out rfl
    have y3 := blk_cell (j := 3) (v := .int .i64 q.gen) hX6.out rfl
    have y4 := blk_cell (j := 4) (v := .int .i64 q.group) hX6.out rfl
    have y5 := blk_cell (j := 5) (v := .int .i64 q.groups) hX6.out rfl
    have y6 := blk_cell (j := 6) (v := .int .i64 q.index) hX6.out rfl
    have y7 := blk_cell (j := 7) (v := .int .i64 q.size) hX6.out rfl
    have y8 := blk_cell (j := 8) (v := .string (bs q.sum)) hX6.out rfl
    have y9 := blk_cell (j := 9) (v := .slice A9 q.data.length c9) hX6.out rfl
    have hen := Lib.hid (encode_ok q A9 c9 hok.out hg.out w6 hd6.out)
    unfold Rc.agg at hen
    go_wp2_with fail
    clear y0 y1 y2 y3 y4 y5 y6 y7 y8 y9
    refine hen.out.mono ?_
    rintro e w8 ⟨v8, rfl, ho8, hbb⟩
    obtain ⟨A8, c8, rfl, -, -, hR8, -⟩ := ho8.form
    obtain ⟨n8, hn8⟩ : ∃ n8, (encB q).length = n8 := ⟨_, rfl⟩
    rw [hn8] at ho8 ⊢
    replace hn8 := Lib.hid hn8
    have hX9 := Lib.hid (blk_below hX6.out hbb)
    have hN9 := Lib.hid (blk_below hN6.out hbb)
    have hb9 := Lib.hid (hb6.out.trans (hbb.mono hb6.out.size))
    have hRb := Lib.hid ((hr.out.up hb9.out))
    replace hR8 := Lib.hid hR8
    have hd8 := Lib.hid (hd6.out.up hbb)
    clear ho8 hbb hen
    go_wp2_with fail
    refine (equal_any A8 (some ⟨ab, ao, none⟩) n8 c8 (m + 6) c _ _ (encB q) b hn8.out hn.out _ hR8.out hRb.out).mono ?_
    rw [he.out]
    rintro e w9 ⟨rfl, rfl⟩
    have y0 := blk_cell (j := 0) (v := .int .i64 q.kind) hX9.out rfl
    have y1 := blk_cell (j := 1) (v := .int .i64 q.cart) hX9.out rfl
    have y2 := blk_cell (j := 2) (v := .string (bs q.key)) hX9.out rfl
    have y3 := blk_cell (j := 3) (v := .int .i64 q.gen) hX9.out rfl
    have y4 := blk_cell (j := 4) (v := .int .i64 q.group) hX9.out rfl
    have y5 := blk_cell (j := 5) (v := .int .i64 q.groups) hX9.out rfl
    have y6 := blk_cell (j := 6) (v := .int .i64 q.index) hX9.out rfl
    have y7 := blk_cell (j := 7) (v := .int .i64 q.size) hX9.out rfl
    have y8 := blk_cell (j := 8) (v := .string (bs q.sum)) hX9.out rfl
    have y9 := blk_cell (j := 9) (v := .slice A9 q.data.length c9) hX9.out rfl
    have z0 := blk_cell (j := 0) (v := .int .i64 0) hN9.out rfl
    have f0 := blk_free hN9.out 0
    have z1 := blk_cell (j := 1) (v := .int .i64 0) hN9.out rfl
    have f1 := blk_free hN9.out 1
    have z2 := blk_cell (j := 2) (v := .string ⟨#[]⟩) hN9.out rfl
    have f2 := blk_free hN9.out 2
    have z3 := blk_cell (j := 3) (v := .int .i64 0) hN9.out rfl
    have f3 := blk_free hN9.out 3
    have z4 := blk_cell (j := 4) (v := .int .i64 0) hN9.out rfl
    have f4 := blk_free hN9.out 4
    have z5 := blk_cell (j := 5) (v := .int .i64 0) hN9.out rfl
    have f5 := blk_free hN9.out 5
    have z6 := blk_cell (j := 6) (v := .int .i64 0) hN9.out rfl
    have f6 := blk_free hN9.out 6
    have z7 := blk_cell (j := 7) (v := .int .i64 0) hN9.out rfl
    have f7 := blk_free hN9.out 7
    have z8 := blk_cell (j := 8) (v := .string ⟨#[]⟩) hN9.out rfl
    have f8 := blk_free hN9.out 8
    have z9 := blk_cell (j := 9) (v := .slice none 0 0) hN9.out rfl
    have f9 := blk_free hN9.out 9
    go_wp2_with fail
    have hz := blk_set10 hN9.out (.int .i64 q.kind) (.int .i64 q.cart) (.string (bs q.key)) (.int .i64 q.gen) (.int .i64 q.group) (.int .i64 q.groups) (.int .i64 q.index) (.int .i64 q.size) (.string (bs q.sum)) (.slice A9 q.data.length c9)
    have hbz := setLo10 hb9.out (Nat.le_refl w.heap.size) (.int .i64 q.kind) (.int .i64 q.cart) (.string (bs q.key)) (.int .i64 q.gen) (.int .i64 q.group) (.int .i64 q.groups) (.int .i64 q.index) (.int .i64 q.size) (.string (bs q.sum)) (.slice A9 q.data.length c9)
    have hdz := hd8.out.recSet10 hN9.out (by rfl) (.int .i64 q.kind) (.int .i64 q.cart) (.string (bs q.key)) (.int .i64 q.gen) (.int .i64 q.group) (.int .i64 q.groups) (.int .i64 q.index) (.int .i64 q.size) (.string (bs q.sum)) (.slice A9 q.data.length c9)
    have hsz : ((((((((((w9.setCell ⟨w.heap.size, 0, none⟩ (.int .i64 q.kind)).setCell ⟨w.heap.size, 1, none⟩ (.int .i64 q.cart)).setCell ⟨w.heap.size, 2, none⟩ (.string (bs q.key))).setCell ⟨w.heap.size, 3, none⟩ (.int .i64 q.gen)).setCell ⟨w.heap.size, 4, none⟩ (.int .i64 q.group)).setCell ⟨w.heap.size, 5, none⟩ (.int .i64 q.groups)).setCell ⟨w.heap.size, 6, none⟩ (.int .i64 q.index)).setCell ⟨w.heap.size, 7, none⟩ (.int .i64 q.size)).setCell ⟨w.heap.size, 8, none⟩ (.string (bs q.sum))).setCell ⟨w.heap.size, 9, none⟩ (.slice A9 q.data.length c9)).heap.size = w9.heap.size := by simp
    obtain ⟨w10, hw10⟩ : ∃ w10, ((((((((((w9.setCell ⟨w.heap.size, 0, none⟩ (.int .i64 q.kind)).setCell ⟨w.heap.size, 1, none⟩ (.int .i64 q.cart)).setCell ⟨w.heap.size, 2, none⟩ (.string (bs q.key))).setCell ⟨w.heap.size, 3, none⟩ (.int .i64 q.gen)).setCell ⟨w.heap.size, 4, none⟩ (.int .i64 q.group)).setCell ⟨w.heap.size, 5, none⟩ (.int .i64 q.groups)).setCell ⟨w.heap.size, 6, none⟩ (.int .i64 q.index)).setCell ⟨w.heap.size, 7, none⟩ (.int .i64 q.size)).setCell ⟨w.heap.size, 8, none⟩ (.string (bs q.sum))).setCell ⟨w.heap.size, 9, none⟩ (.slice A9 q.data.length c9)) = w10 := ⟨_, rfl⟩
    rw [hw10] at hz hbz hdz hsz ⊢
    rw [← hsz] at hdz
    have r0 := blk_cell (j := 0) (v := .int .i64 q.kind) hz rfl
    have r1 := blk_cell (j := 1) (v := .int .i64 q.cart) hz rfl
    have r2 := blk_cell (j := 2) (v := .string (bs q.key)) hz rfl
    have r3 := blk_cell (j := 3) (v := .int .i64 q.gen) hz rfl
    have r4 := blk_cell (j := 4) (v := .int .i64 q.group) hz rfl
    have r5 := blk_cell (j := 5) (v := .int .i64 q.groups) hz rfl
    have r6 := blk_cell (j := 6) (v := .int .i64 q.index) hz rfl
    have r7 := blk_cell (j := 7) (v := .int .i64 q.size) hz rfl
    have r8 := blk_cell (j := 8) (v := .string (bs q.sum)) hz rfl
    have r9 := blk_cell (j := 9) (v := .slice A9 q.data.length c9) hz rfl
    exact bodyPost_ret (v := .tuple #[(.agg #[.int .i64 q.kind, .int .i64 q.cart, .string (bs q.key), .int .i64 q.gen, .int .i64 q.group, .int .i64 q.groups, .int .i64 q.index, .int .i64 q.size, .string (bs q.sum), .slice A9 q.data.length c9]), .int .i64 0]) (by simp [results, Try.results25, go_sem, r0, r1, r2, r3, r4, r5, r6, r7, r8, r9]) rfl ⟨A9, c9, rfl, hdz, hfr.out, hc91.out, hc92.out, hbz⟩
  · go_simp
    refine hK _ _ (fun _ => Upd.of_below ((Below.refl _ _).alloc (Nat.le_refl _) _)) ?_
    clear hK K
    have hX3 := Lib.hid (heap_alloc_new wd (.cells #[.int .i64 0, .int .i64 0, .string ⟨#[]⟩, .int .i64 0, .int .i64 0, .int .i64 0, .int .i64 0, .int .i64 0, .string ⟨#[]⟩, .slice none 0 0] 41))
    have hN3 := Lib.hid (blk_alloc hNd.out (.cells #[.int .i64 0, .int .i64 0, .string ⟨#[]⟩, .int .i64 0, .int .i64 0, .int .i64 0, .int .i64 0, .int .i64 0, .string ⟨#[]⟩, .slice none 0 0] 41))
    have hb3 := Lib.hid (hbd.out.alloc hbd.out.size (.cells #[.int .i64 0, .int .i64 0, .string ⟨#[]⟩, .int .i64 0, .int .i64 0, .int .i64 0, .int .i64 0, .int .i64 0, .string ⟨#[]⟩, .slice none 0 0] 41))
    have hsl3 := Lib.hid (hsld.out.up ((Below.refl wd.heap.size wd).alloc (Nat.le_refl _) (.cells #[.int .i64 0, .int .i64 0, .string ⟨#[]⟩, .int .i64 0, .int .i64 0, .int .i64 0, .int .i64 0, .int .i64 0, .string ⟨#[]⟩, .slice none 0 0] 41)))
    obtain ⟨X, hX⟩ : ∃ X, wd.heap.size = X := ⟨_, rfl⟩
    have hXN : w.heap.size < X := by have := blk_lt hNd.out; omega
    rw [hX] at hX3 ⊢
    obtain ⟨w3, hw3⟩ : ∃ w3, wd.alloc (.cells #[.int .i64 0, .int .i64 0, .string ⟨#[]⟩, .int .i64 0, .int .i64 0, .int .i64 0, .int .i64 0, .int .i64 0, .string ⟨#[]⟩, .slice none 0 0] 41) = w3 := ⟨_, rfl⟩
    rw [hw3] at hX3 hN3 hb3 hsl3 ⊢
    replace hw3 := Lib.hid hw3
    replace hX := Lib.hid hX
    try simp only [Act.put, List.setIfInBounds_toArray, List.set_cons_zero, List.set_cons_succ]
    refine wpR_one 9 rfl (by kernel_rfl) (by kernel_rfl) (fun K hK => ?_)
    go_simp
    refine (hgs.out _ (by have := hb3.out.size; omega) hsl3.out).mono ?_
    rintro e w5 ⟨A9, c9, rfl, hd9, hfr, hc91, hc92, hbb⟩
    replace hc91 := Lib.hid hc91
    replace hc92 := Lib.hid hc92
    replace hfr : Hid (∀ ad, A9 = some ad → w.heap.size ≤ ad.block) := Lib.hid (fun ad e => Nat.le_trans (by have := hb3.out.size; omega) (hfr ad e))
    refine hK _ _ (fun _ => Upd.of_below hbb) ?_
    clear hK K
    have hX5 := blk_below hX3.out hbb
    have hN5 := blk_below hN3.out hbb
    have hb5 := Lib.hid (hb3.out.trans (hbb.mono hb3.out.size))
    replace hd9 := Lib.hid hd9
    clear hbb
    have z0 := blk_cell (j := 0) (v := .int .i64 0) hX5 rfl
    have f0 := blk_free hX5 0
    have z1 := blk_cell (j := 1) (v := .int .i64 0) hX5 rfl
    have f1 := blk_free hX5 1
    have z2 := blk_cell (j := 2) (v := .string ⟨#[]⟩) hX5 rfl
    have f2 := blk_free hX5 2
    have z3 := blk_cell (j := 3) (v := .int .i64 0) hX5 rfl
    have f3 := blk_free hX5 3
    have z4 := blk_cell (j := 4) (v := .int .i64 0) hX5 rfl
    have f4 := blk_free hX5 4
    have z5 := blk_cell (j := 5) (v := .int .i64 0) hX5 rfl
    have f5 := blk_free hX5 5
    have z6 := blk_cell (j := 6) (v := .int .i64 0) hX5 rfl
    have f6 := blk_free hX5 6
    have z7 := blk_cell (j := 7) (v := .int .i64 0) hX5 rfl
    have f7 := blk_free hX5 7
    have z8 := blk_cell (j := 8) (v := .string ⟨#[]⟩) hX5 rfl
    have f8 := blk_free hX5 8
    have z9 := blk_cell (j := 9) (v := .slice none 0 0) hX5 rfl
    have f9 := blk_free hX5 9
    replace hX5 := Lib.hid hX5
    replace hN5 := Lib.hid hN5
    unfold Rc.agg
    try simp only [Act.put, List.setIfInBounds_toArray, List.set_cons_zero, List.set_cons_succ]
    refine wpR_one 11 rfl (by kernel_rfl) (by kernel_rfl) (fun K hK => ?_)
    go_simp
    refine hK _ _ (fun h => absurd h (by decide)) ?_
    clear hK K
    clear z0 f0 z1 f1 z2 f2 z3 f3 z4 f4 z5 f5 z6 f6 z7 f7 z8 f8 z9 f9
    have hd6 := hd9.out.recSet10 hX5.out (by rfl) (.int .i64 q.kind) (.int .i64 q.cart) (.string (bs q.key)) (.int .i64 q.gen) (.int .i64 q.group) (.int .i64 q.groups) (.int .i64 q.index) (.int .i64 q.size) (.string (bs q.sum)) (.slice A9 q.data.length c9)
    have hX6 := blk_set10 hX5.out (.int .i64 q.kind) (.int .i64 q.cart) (.string (bs q.key)) (.int .i64 q.gen) (.int .i64 q.group) (.int .i64 q.groups) (.int .i64 q.index) (.int .i64 q.size) (.string (bs q.sum)) (.slice A9 q.data.length c9)
    have hN6 := set10_other (X := X) (g := w.heap.size) (by omega) hN5.out (.int .i64 q.kind) (.int .i64 q.cart) (.string (bs q.key)) (.int .i64 q.gen) (.int .i64 q.group) (.int .i64 q.groups) (.int .i64 q.index) (.int .i64 q.size) (.string (bs q.sum)) (.slice A9 q.data.length c9)
    have hb6 := setLo10 hb5.out (g := X) (Nat.le_of_lt hXN) (.int .i64 q.kind) (.int .i64 q.cart) (.string (bs q.key)) (.int .i64 q.gen) (.int .i64 q.group) (.int .i64 q.groups) (.int .i64 q.index) (.int .i64 q.size) (.string (bs q.sum)) (.slice A9 q.data.length c9)
    have hz6 : ((((((((((w5.setCell ⟨X, 0, none⟩ (.int .i64 q.kind)).setCell ⟨X, 1, none⟩ (.int .i64 q.cart)).setCell ⟨X, 2, none⟩ (.string (bs q.key))).setCell ⟨X, 3, none⟩ (.int .i64 q.gen)).setCell ⟨X, 4, none⟩ (.int .i64 q.group)).setCell ⟨X, 5, none⟩ (.int .i64 q.groups)).setCell ⟨X, 6, none⟩ (.int .i64 q.index)).setCell ⟨X, 7, none⟩ (.int .i64 q.size)).setCell ⟨X, 8, none⟩ (.string (bs q.sum))).setCell ⟨X, 9, none⟩ (.slice A9 q.data.length c9)).heap.size = w5.heap.size := by simp
    obtain ⟨w6, hw6⟩ : ∃ w6, ((((((((((w5.setCell ⟨X, 0, none⟩ (.int .i64 q.kind)).setCell ⟨X, 1, none⟩ (.int .i64 q.cart)).setCell ⟨X, 2, none⟩ (.string (bs q.key))).setCell ⟨X, 3, none⟩ (.int .i64 q.gen)).setCell ⟨X, 4, none⟩ (.int .i64 q.group)).setCell ⟨X, 5, none⟩ (.int .i64 q.groups)).setCell ⟨X, 6, none⟩ (.int .i64 q.index)).setCell ⟨X, 7, none⟩ (.int .i64 q.size)).setCell ⟨X, 8, none⟩ (.string (bs q.sum))).setCell ⟨X, 9, none⟩ (.slice A9 q.data.length c9)) = w6 := ⟨_, rfl⟩
    rw [hw6] at hX6 hN6 hb6 hd6 hz6 ⊢
    rw [← hz6] at hd6
    replace hX6 := Lib.hid hX6
    replace hN6 := Lib.hid hN6
    replace hb6 := Lib.hid hb6
    replace hw6 := Lib.hid hw6
    replace hd6 := Lib.hid hd6
    clear hX5 hN5 hb5 hd9 hz6
    try simp only [Act.put, List.setIfInBounds_toArray, List.set_cons_zero, List.set_cons_succ]
    refine wpR_done (by kernel_rfl) ?_ _
    have y0 := blk_cell (j := 0) (v := .int .i64 q.kind) hX6.out rfl
    have y1 := blk_cell (j := 1) (v := .int .i64 q.cart) hX6.out rfl
    have y2 := blk_cell (j := 2) (v := .string (bs q.key)) hX6.out rfl
    have y3 := blk_cell (j := 3) (v := .int .i64 q.gen) hX6.out rfl
    have y4 := blk_cell (j := 4) (v := .int .i64 q.group) hX6.out rfl
    have y5 := blk_cell (j := 5) (v := .int .i64 q.groups) hX6.out rfl
    have y6 := blk_cell (j := 6) (v := .int .i64 q.index) hX6.out rfl
    have y7 := blk_cell (j := 7) (v := .int .i64 q.size) hX6.out rfl
    have y8 := blk_cell (j := 8) (v := .string (bs q.sum)) hX6.out rfl
    have y9 := blk_cell (j := 9) (v := .slice A9 q.data.length c9) hX6.out rfl
    have hen := Lib.hid (encode_ok q A9 c9 hok.out hg.out w6 hd6.out)
    unfold Rc.agg at hen
    go_wp2_with fail
    clear y0 y1 y2 y3 y4 y5 y6 y7 y8 y9
    refine hen.out.mono ?_
    rintro e w8 ⟨v8, rfl, ho8, hbb⟩
    obtain ⟨A8, c8, rfl, -, -, hR8, -⟩ := ho8.form
    obtain ⟨n8, hn8⟩ : ∃ n8, (encB q).length = n8 := ⟨_, rfl⟩
    rw [hn8] at ho8 ⊢
    replace hn8 := Lib.hid hn8
    have hX9 := Lib.hid (blk_below hX6.out hbb)
    have hN9 := Lib.hid (blk_below hN6.out hbb)
    have hb9 := Lib.hid (hb6.out.trans (hbb.mono hb6.out.size))
    have hRb := Lib.hid ((hr.out.up hb9.out))
    replace hR8 := Lib.hid hR8
    have hd8 := Lib.hid (hd6.out.up hbb)
    clear ho8 hbb hen
    go_wp2_with fail
    refine (equal_any A8 (some ⟨ab, ao, none⟩) n8 c8 (m + 6) c _ _ (encB q) b hn8.out hn.out _ hR8.out hRb.out).mono ?_
    rw [he.out]
    rintro e w9 ⟨rfl, rfl⟩
    have y0 := blk_cell (j := 0) (v := .int .i64 q.kind) hX9.out rfl
    have y1 := blk_cell (j := 1) (v := .int .i64 q.cart) hX9.out rfl
    have y2 := blk_cell (j := 2) (v := .string (bs q.key)) hX9.out rfl
    have y3 := blk_cell (j := 3) (v := .int .i64 q.gen) hX9.out rfl
    have y4 := blk_cell (j := 4) (v := .int .i64 q.group) hX9.out rfl
    have y5 := blk_cell (j := 5) (v := .int .i64 q.groups) hX9.out rfl
    have y6 := blk_cell (j := 6) (v := .int .i64 q.index) hX9.out rfl
    have y7 := blk_cell (j := 7) (v := .int .i64 q.size) hX9.out rfl
    have y8 := blk_cell (j := 8) (v := .string (bs q.sum)) hX9.out rfl
    have y9 := blk_cell (j := 9) (v := .slice A9 q.data.length c9) hX9.out rfl
    have z0 := blk_cell (j := 0) (v := .int .i64 0) hN9.out rfl
    have f0 := blk_free hN9.out 0
    have z1 := blk_cell (j := 1) (v := .int .i64 0) hN9.out rfl
    have f1 := blk_free hN9.out 1
    have z2 := blk_cell (j := 2) (v := .string ⟨#[]⟩) hN9.out rfl
    have f2 := blk_free hN9.out 2
    have z3 := blk_cell (j := 3) (v := .int .i64 0) hN9.out rfl
    have f3 := blk_free hN9.out 3
    have z4 := blk_cell (j := 4) (v := .int .i64 0) hN9.out rfl
    have f4 := blk_free hN9.out 4
    have z5 := blk_cell (j := 5) (v := .int .i64 0) hN9.out rfl
    have f5 := blk_free hN9.out 5
    have z6 := blk_cell (j := 6) (v := .int .i64 0) hN9.out rfl
    have f6 := blk_free hN9.out 6
    have z7 := blk_cell (j := 7) (v := .int .i64 0) hN9.out rfl
    have f7 := blk_free hN9.out 7
    have z8 := blk_cell (j := 8) (v := .string ⟨#[]⟩) hN9.out rfl
    have f8 := blk_free hN9.out 8
    have z9 := blk_cell (j := 9) (v := .slice none 0 0) hN9.out rfl
    have f9 := blk_free hN9.out 9
    go_wp2_with fail
    have hz := blk_set10 hN9.out (.int .i64 q.kind) (.int .i64 q.cart) (.string (bs q.key)) (.int .i64 q.gen) (.int .i64 q.group) (.int .i64 q.groups) (.int .i64 q.index) (.int .i64 q.size) (.string (bs q.sum)) (.slice A9 q.data.length c9)
    have hbz := setLo10 hb9.out (Nat.le_refl w.heap.size) (.int .i64 q.kind) (.int .i64 q.cart) (.string (bs q.key)) (.int .i64 q.gen) (.int .i64 q.group) (.int .i64 q.groups) (.int .i64 q.index) (.int .i64 q.size) (.string (bs q.sum)) (.slice A9 q.data.length c9)
    have hdz := hd8.out.recSet10 hN9.out (by rfl) (.int .i64 q.kind) (.int .i64 q.cart) (.string (bs q.key)) (.int .i64 q.gen) (.int .i64 q.group) (.int .i64 q.groups) (.int .i64 q.index) (.int .i64 q.size) (.string (bs q.sum)) (.slice A9 q.data.length c9)
    have hsz : ((((((((((w9.setCell ⟨w.heap.size, 0, none⟩ (.int .i64 q.kind)).setCell ⟨w.heap.size, 1, none⟩ (.int .i64 q.cart)).setCell ⟨w.heap.size, 2, none⟩ (.string (bs q.key))).setCell ⟨w.heap.size, 3, none⟩ (.int .i64 q.gen)).setCell ⟨w.heap.size, 4, none⟩ (.int .i64 q.group)).setCell ⟨w.heap.size, 5, none⟩ (.int .i64 q.groups)).setCell ⟨w.heap.size, 6, none⟩ (.int .i64 q.index)).setCell ⟨w.heap.size, 7, none⟩ (.int .i64 q.size)).setCell ⟨w.heap.size, 8, none⟩ (.string (bs q.sum))).setCell ⟨w.heap.size, 9, none⟩ (.slice A9 q.data.length c9)).heap.size = w9.heap.size := by simp
    obtain ⟨w10, hw10⟩ : ∃ w10, ((((((((((w9.setCell ⟨w.heap.size, 0, none⟩ (.int .i64 q.kind)).setCell ⟨w.heap.size, 1, none⟩ (.int .i64 q.cart)).setCell ⟨w.heap.size, 2, none⟩ (.string (bs q.key))).setCell ⟨w.heap.size, 3, none⟩ (.int .i64 q.gen)).setCell ⟨w.heap.size, 4, none⟩ (.int .i64 q.group)).setCell ⟨w.heap.size, 5, none⟩ (.int .i64 q.groups)).setCell ⟨w.heap.size, 6, none⟩ (.int .i64 q.index)).setCell ⟨w.heap.size, 7, none⟩ (.int .i64 q.size)).setCell ⟨w.heap.size, 8, none⟩ (.string (bs q.sum))).setCell ⟨w.heap.size, 9, none⟩ (.slice A9 q.data.length c9)) = w10 := ⟨_, rfl⟩
    rw [hw10] at hz hbz hdz hsz ⊢
    rw [← hsz] at hdz
    have r0 := blk_cell (j := 0) (v := .int .i64 q.kind) hz rfl
    have r1 := blk_cell (j := 1) (v := .int .i64 q.cart) hz rfl
    have r2 := blk_cell (j := 2) (v := .string (bs q.key)) hz rfl
    have r3 := blk_cell (j := 3) (v := .int .i64 q.gen) hz rfl
    have r4 := blk_cell (j := 4) (v := .int .i64 q.group) hz rfl
    have r5 := blk_cell (j := 5) (v := .int .i64 q.groups) hz rfl
    have r6 := blk_cell (j := 6) (v := .int .i64 q.index) hz rfl
    have r7 := blk_cell (j := 7) (v := .int .i64 q.size) hz rfl
    have r8 := blk_cell (j := 8) (v := .string (bs q.sum)) hz rfl
    have r9 := blk_cell (j := 9) (v := .slice A9 q.data.length c9) hz rfl
    exact bodyPost_ret (v := .tuple #[(.agg #[.int .i64 q.kind, .int .i64 q.cart, .string (bs q.key), .int .i64 q.gen, .int .i64 q.group, .int .i64 q.groups, .int .i64 q.index, .int .i64 q.size, .string (bs q.sum), .slice A9 q.data.length c9]), .int .i64 0]) (by simp [results, Try.results25, go_sem, r0, r1, r2, r3, r4, r5, r6, r7, r8, r9]) rfl ⟨A9, c9, rfl, hdz, hfr.out, hc91.out, hc92.out, hbz⟩

set_option maxHeartbeats 8000000 in
set_option maxRecDepth 20000 in
theorem decode_ne (A : Option Addr) (m c : Nat) (b : List UInt8) (hn : b.length = m + 6) (hnc : m + 6 ≤ c) (hcm : c ≤ 9223372036854775807) (hm : m ≤ 140737488355000) (k : UInt8) (h1 : b[1]? = some k) (q : Rc)
    (hg3 : guessR (U k) ((b.drop 2).take m) = q) (hg : goodB q = true) (he : (encB q == b) = false) (w : World) (hr : Rd w w.heap.size A b) :
    Calls Try.prog 25 #[.slice A (m + 6) c] w fun e w' => e = .returned (.tuple #[(.agg #[.int .i64 0, .int .i64 0, .string ⟨#[]⟩, .int .i64 0, .int .i64 0, .int .i64 0, .int .i64 0, .int .i64 0, .string ⟨#[]⟩, .slice none 0 0]), .int .i64 12]) ∧ Below w.heap.size w w' := by
  obtain ⟨ad0, rfl, hadb0, hc0⟩ := hr.at_ (k := 0) (by omega)
  have hfl := flat_of hc0
  obtain ⟨ab, hab⟩ : ∃ ab, ad0.block = ab := ⟨_, rfl⟩
  obtain ⟨ao, hao⟩ : ∃ ao, ad0.off = ao := ⟨_, rfl⟩
  rw [hab, hao] at hfl
  subst hfl
  clear hc0 hab hao
  have hadb : ab < w.heap.size := hadb0
  have hk := U_bd k
  have hok : q.Ok := by rw [← hg3]; exact guessR_ok _ (by unfold R64; omega) _ (by rw [List.length_take, List.length_drop]; omega)
  have hgs : Hid (∀ W : World, ab < W.heap.size → Rd W W.heap.size (some ⟨ab, ao + 2, none⟩) ((b.drop 2).take m) → Calls Try.prog 50 #[.int .i64 (U k), .slice (some ⟨ab, ao + 2, none⟩) m (c - 2)] W fun e w' => ∃ A9 c9, e = .returned (q.agg A9 c9) ∧ Rd w' w'.heap.size A9 q.data ∧ (∀ ad, A9 = some ad → W.heap.size ≤ ad.block) ∧ q.data.length ≤ c9 ∧ c9 ≤ maxLen ∧ Below W.heap.size W w') := Lib.hid (fun W hab hW => by
    have := guess_any (U k) ab (ao + 2) m (c - 2) _ (by rw [List.length_take, List.length_drop]; omega) (by omega) (by omega) (by omega) W hab hW
    rw [hg3] at this
    exact this)
  clear hk
  have hN1 := heap_alloc_new w (.cells #[.int .i64 0, .int .i64 0, .string ⟨#[]⟩, .int .i64 0, .int .i64 0, .int .i64 0, .int .i64 0, .int .i64 0, .string ⟨#[]⟩, .slice none 0 0] 41)
  have hb1 := (Below.refl w.heap.size w).alloc (Nat.le_refl _) (.cells #[.int .i64 0, .int .i64 0, .string ⟨#[]⟩, .int .i64 0, .int .i64 0, .int .i64 0, .int .i64 0, .int .i64 0, .string ⟨#[]⟩, .slice none 0 0] 41)
  have hmid : Rd w w.heap.size (some ⟨ab, ao + 2, none⟩) ((b.drop 2).take m) := by have := hr.mid (i := 2) (m := m) (by omega); rwa [add_of] at this
  have hR1 := hr.up hb1
  have hw1 : IntKind.i64.wrap ((m : Int) + 6 - 4) = (m : Int) + 2 := by rw [IntWalk.i64_in _ (by omega)]; omega
  have hc2 : ¬ (c = 2) := by omega
  have hi1 : (1 : Int) < (m : Int) + 6 := by omega
  have hs1 : (2 : Int) ≤ (m : Int) + 2 := by omega
  have hs2 : (m : Int) + 2 ≤ (c : Int) := by omega
  have hs3 : 0 ≤ (m : Int) + 2 := by omega
  have hd6 : decide ((m : Int) + 6 < 6) = false := decide_eq_false (by omega)
  replace hn := Lib.hid hn
  replace hg := Lib.hid hg
  replace he := Lib.hid he
  replace hok := Lib.hid hok
  have hr0 := Lib.hid hr
  go_enter Try.func25, Try.ntmps25
  go_wp2_with fail
  obtain ⟨wd, hwd⟩ : ∃ wd, wd = (w.alloc (.cells #[.int .i64 0, .int .i64 0, .string ⟨#[]⟩, .int .i64 0, .int .i64 0, .int .i64 0, .int .i64 0, .int .i64 0, .string ⟨#[]⟩, .slice none 0 0] 41)).drew := ⟨_, rfl⟩
  have hbd : Hid (Below w.heap.size w wd) := Lib.hid (by rw [hwd]; exact hb1.drew)
  have hNd : Hid (wd.heap[w.heap.size]? = some (.cells #[.int .i64 0, .int .i64 0, .string ⟨#[]⟩, .int .i64 0, .int .i64 0, .int .i64 0, .int .i64 0, .int .i64 0, .string ⟨#[]⟩, .slice none 0 0] 41 (0, 0))) := Lib.hid (by rw [hwd]; exact hN1)
  have hsld : Hid (Rd wd wd.heap.size (some ⟨ab, ao + 2, none⟩) ((b.drop 2).take m)) := Lib.hid (by rw [hwd]; exact (hmid.up hb1).drewN 1)
  obtain ⟨ad', ead, -, c1⟩ := (show Rd wd wd.heap.size (some ⟨ab, ao, none⟩) b by rw [hwd]; exact hR1.drewN 1).get h1
  injection ead with ead
  subst ead
  rw [add_of] at c1
  have hadd : ab < wd.heap.size := Nat.lt_of_lt_of_le hadb hbd.out.size
  clear hg3 hmid hR1 hN1 hb1 hr h1
  have hr := hr0
  clear hr0
  refine wpR_region (Upd (fun _ => False)) 11 (by kernel_rfl) ?_
  (rw [← hwd]; replace hwd := Lib.hid hwd)
  refine wpR_take (i := 0) (v := ?_) (Upd.road _) (some 11) rfl (by kernel_rfl) (by kernel_rfl) (by kernel_rfl) (by kernel_rfl) (by kernel_rfl) (fun _ _ _ h => h) (by kernel_rfl) (fun w' hw' => ?_) ?_
  rotate_left
  · go_simp; with_reducible rfl
  simp only [Act.put, List.setIfInBounds_toArray, List.set_cons_zero, List.set_cons_succ]
  refine wpR_take (i := 1) (v := ?_) (Upd.road _) (some 12) rfl (by kernel_rfl) (by kernel_rfl) (by kernel_rfl) (by kernel_rfl) (by kernel_rfl) (fun _ _ _ h => h) (by kernel_rfl) (fun w' hw' => ?_) ?_
  rotate_left
  · go_simp; with_reducible rfl
  simp only [Act.put, List.setIfInBounds_toArray, List.set_cons_zero, List.set_cons_succ]
  refine wpR_take (i := 2) (v := ?_) (Upd.road _) (some 13) rfl (by kernel_rfl) (by kernel_rfl) (by kernel_rfl) (by kernel_rfl) (by kernel_rfl) (fun _ _ _ h => h) (by kernel_rfl) (fun w' hw' => ?_) ?_
  rotate_left
  · have q := (hw'.cell (p := ⟨ab, ao + 1, none⟩) hadd (fun h => h)).trans c1; go_simp; with_reducible rfl
  simp only [Act.put, List.setIfInBounds_toArray, List.set_cons_zero, List.set_cons_succ]
  refine wpR_take (i := 3) (v := ?_) (Upd.road _) (some 14) rfl (by kernel_rfl) (by kernel_rfl) (by kernel_rfl) (by kernel_rfl) (by kernel_rfl) (fun _ _ _ h => h) (by kernel_rfl) (fun w' hw' => ?_) ?_
  rotate_left
  · go_simp; with_reducible rfl
  simp only [Act.put, List.setIfInBounds_toArray, List.set_cons_zero, List.set_cons_succ]
  refine wpR_take (i := 4) (v := ?_) (Upd.road _) (some 15) rfl (by kernel_rfl) (by kernel_rfl) (by kernel_rfl) (by kernel_rfl) (by kernel_rfl) (fun _ _ _ h => h) (by kernel_rfl) (fun w' hw' => ?_) ?_
  rotate_left
  · go_simp; with_reducible rfl
  simp only [Act.put, List.setIfInBounds_toArray, List.set_cons_zero, List.set_cons_succ]
  refine wpR_take (i := 5) (v := ?_) (Upd.road _) (some 16) rfl (by kernel_rfl) (by kernel_rfl) (by kernel_rfl) (by kernel_rfl) (by kernel_rfl) (fun _ _ _ h => h) (by kernel_rfl) (fun w' hw' => ?_) ?_
  rotate_left
  · go_simp; with_reducible rfl
  simp only [Act.put, List.setIfInBounds_toArray, List.set_cons_zero, List.set_cons_succ]
  refine wpR_take (i := 6) (v := ?_) (Upd.road _) (some 17) rfl (by kernel_rfl) (by kernel_rfl) (by kernel_rfl) (by kernel_rfl) (by kernel_rfl) (fun _ _ _ h => h) (by kernel_rfl) (fun w' hw' => ?_) ?_
  rotate_left
  · go_simp; with_reducible rfl
  simp only [Act.put, List.setIfInBounds_toArray, List.set_cons_zero, List.set_cons_succ]
  refine wpR_take (i := 7) (v := ?_) (Upd.road _) (some 18) rfl (by kernel_rfl) (by kernel_rfl) (by kernel_rfl) (by kernel_rfl) (by kernel_rfl) (fun _ _ _ h => h) (by kernel_rfl) (fun w' hw' => ?_) ?_
  rotate_left
  · go_simp; with_reducible rfl
  simp only [Act.put, List.setIfInBounds_toArray, List.set_cons_zero, List.set_cons_succ]
  refine wpR_take (i := 8) (v := ?_) (Upd.road _) (some 19) rfl (by kernel_rfl) (by kernel_rfl) (by kernel_rfl) (by kernel_rfl) (by kernel_rfl) (fun _ _ _ h => h) (by kernel_rfl) (fun w' hw' => ?_) ?_
  rotate_left
  · go_simp; with_reducible rfl
  simp only [Act.put, List.setIfInBounds_toArray, List.set_cons_zero, List.set_cons_succ]
  refine wpR_two 9 10 rfl rfl (by kernel_rfl) (by kernel_rfl) (by kernel_rfl) (fun K hK => ?_) (fun K hK => ?_)
  · go_simp
    refine (hgs.out _ (by have := hbd.out.size; omega) hsld.out).mono ?_
    rintro e w3 ⟨A9, c9, rfl, hd3, -, -, -, hbb⟩
    refine hK _ _ (fun _ => Upd.of_below hbb) ?_
    clear hK K
    have hN3 := Lib.hid (blk_below hNd.out hbb)
    have hb3 := Lib.hid (hbd.out.trans (hbb.mono hbd.out.size))
    clear hbb
    try simp only [Act.put, List.setIfInBounds_toArray, List.set_cons_zero, List.set_cons_succ]
    refine wpR_one 10 rfl (by kernel_rfl) (by kernel_rfl) (fun K hK => ?_)
    go_simp
    refine hK _ _ (fun _ => Upd.of_below ((Below.refl _ _).alloc (Nat.le_refl _) _)) ?_
    clear hK K
    have hX5 := heap_alloc_new w3 (.cells #[.int .i64 0, .int .i64 0, .string ⟨#[]⟩, .int .i64 0, .int .i64 0, .int .i64 0, .int .i64 0, .int .i64 0, .string ⟨#[]⟩, .slice none 0 0] 41)
    have hN5 := Lib.hid (blk_alloc hN3.out (.cells #[.int .i64 0, .int .i64 0, .string ⟨#[]⟩, .int .i64 0, .int .i64 0, .int .i64 0, .int .i64 0, .int .i64 0, .string ⟨#[]⟩, .slice none 0 0] 41))
    have hb5 := Lib.hid (hb3.out.alloc hb3.out.size (.cells #[.int .i64 0, .int .i64 0, .string ⟨#[]⟩, .int .i64 0, .int .i64 0, .int .i64 0, .int .i64 0, .int .i64 0, .string ⟨#[]⟩, .slice none 0 0] 41))
    have hd9 := hd3.up ((Below.refl _ _).alloc (Nat.le_refl _) (.cells #[.int .i64 0, .int .i64 0, .string ⟨#[]⟩, .int .i64 0, .int .i64 0, .int .i64 0, .int .i64 0, .int .i64 0, .string ⟨#[]⟩, .slice none 0 0] 41))
    obtain ⟨X, hX⟩ : ∃ X, w3.heap.size = X := ⟨_, rfl⟩
    have hXN : w.heap.size < X := by have := blk_lt hN3.out; omega
    rw [hX] at hX5 ⊢
    obtain ⟨w5, hw5⟩ : ∃ w5, w3.alloc (.cells #[.int .i64 0, .int .i64 0, .string ⟨#[]⟩, .int .i64 0, .int .i64 0, .int .i64 0, .int .i64 0, .int .i64 0, .string ⟨#[]⟩, .slice none 0 0] 41) = w5 := ⟨_, rfl⟩
    rw [hw5] at hX5 hN5 hb5 hd9 ⊢
    replace hd9 := Lib.hid hd9
    clear hd3
    have z0 := blk_cell (j := 0) (v := .int .i64 0) hX5 rfl
    have f0 := blk_free hX5 0
    have z1 := blk_cell (j := 1) (v := .int .i64 0) hX5 rfl
    have f1 := blk_free hX5 1
    have z2 := blk_cell (j := 2) (v := .string ⟨#[]⟩) hX5 rfl
    have f2 := blk_free hX5 2
    have z3 := blk_cell (j := 3) (v := .int .i64 0) hX5 rfl
    have f3 := blk_free hX5 3
    have z4 := blk_cell (j := 4) (v := .int .i64 0) hX5 rfl
    have f4 := blk_free hX5 4
    have z5 := blk_cell (j := 5) (v := .int .i64 0) hX5 rfl
    have f5 := blk_free hX5 5
    have z6 := blk_cell (j := 6) (v := .int .i64 0) hX5 rfl
    have f6 := blk_free hX5 6
    have z7 := blk_cell (j := 7) (v := .int .i64 0) hX5 rfl
    have f7 := blk_free hX5 7
    have z8 := blk_cell (j := 8) (v := .string ⟨#[]⟩) hX5 rfl
    have f8 := blk_free hX5 8
    have z9 := blk_cell (j := 9) (v := .slice none 0 0) hX5 rfl
    have f9 := blk_free hX5 9
    replace hX5 := Lib.hid hX5
    replace hw5 := Lib.hid hw5
    replace hX := Lib.hid hX
    unfold Rc.agg
    try simp only [Act.put, List.setIfInBounds_toArray, List.set_cons_zero, List.set_cons_succ]
    refine wpR_one 11 rfl (by kernel_rfl) (by kernel_rfl) (fun K hK => ?_)
    go_simp
    refine hK _ _ (fun h => absurd h (by decide)) ?_
    clear hK K
    clear z0 f0 z1 f1 z2 f2 z3 f3 z4 f4 z5 f5 z6 f6 z7 f7 z8 f8 z9 f9
    have hd6 := hd9.out.recSet10 hX5.out (by rfl) (.int .i64 q.kind) (.int .i64 q.cart) (.string (bs q.key)) (.int .i64 q.gen) (.int .i64 q.group) (.int .i64 q.groups) (.int .i64 q.index) (.int .i64 q.size) (.string (bs q.sum)) (.slice A9 q.data.length c9)
    have hX6 := blk_set10 hX5.out (.int .i64 q.kind) (.int .i64 q.cart) (.string (bs q.key)) (.int .i64 q.gen) (.int .i64 q.group) (.int .i64 q.groups) (.int .i64 q.index) (.int .i64 q.size) (.string (bs q.sum)) (.slice A9 q.data.length c9)
    have hN6 := set10_other (X := X) (g := w.heap.size) (by omega) hN5.out (.int .i64 q.kind) (.int .i64 q.cart) (.string (bs q.key)) (.int .i64 q.gen) (.int .i64 q.group) (.int .i64 q.groups) (.int .i64 q.index) (.int .i64 q.size) (.string (bs q.sum)) (.slice A9 q.data.length c9)
    have hb6 := setLo10 hb5.out (g := X) (Nat.le_of_lt hXN) (.int .i64 q.kind) (.int .i64 q.cart) (.string (bs q.key)) (.int .i64 q.gen) (.int .i64 q.group) (.int .i64 q.groups) (.int .i64 q.index) (.int .i64 q.size) (.string (bs q.sum)) (.slice A9 q.data.length c9)
    have hz6 : ((((((((((w5.setCell ⟨X, 0, none⟩ (.int .i64 q.kind)).setCell ⟨X, 1, none⟩ (.int .i64 q.cart)).setCell ⟨X, 2, none⟩ (.string (bs q.key))).setCell ⟨X, 3, none⟩ (.int .i64 q.gen)).setCell ⟨X, 4, none⟩ (.int .i64 q.group)).setCell ⟨X, 5, none⟩ (.int .i64 q.groups)).setCell ⟨X, 6, none⟩ (.int .i64 q.index)).setCell ⟨X, 7, none⟩ (.int .i64 q.size)).setCell ⟨X, 8, none⟩ (.string (bs q.sum))).setCell ⟨X, 9, none⟩ (.slice A9 q.data.length c9)).heap.size = w5.heap.size := by simp
    obtain ⟨w6, hw6⟩ : ∃ w6, ((((((((((w5.setCell ⟨X, 0, none⟩ (.int .i64 q.kind)).setCell ⟨X, 1, none⟩ (.int .i64 q.cart)).setCell ⟨X, 2, none⟩ (.string (bs q.key))).setCell ⟨X, 3, none⟩ (.int .i64 q.gen)).setCell ⟨X, 4, none⟩ (.int .i64 q.group)).setCell ⟨X, 5, none⟩ (.int .i64 q.groups)).setCell ⟨X, 6, none⟩ (.int .i64 q.index)).setCell ⟨X, 7, none⟩ (.int .i64 q.size)).setCell ⟨X, 8, none⟩ (.string (bs q.sum))).setCell ⟨X, 9, none⟩ (.slice A9 q.data.length c9)) = w6 := ⟨_, rfl⟩
    rw [hw6] at hX6 hN6 hb6 hd6 hz6 ⊢
    rw [← hz6] at hd6
    replace hX6 := Lib.hid hX6
    replace hN6 := Lib.hid hN6
    replace hb6 := Lib.hid hb6
    replace hw6 := Lib.hid hw6
    replace hd6 := Lib.hid hd6
    clear hX5 hN5 hb5 hd9 hz6
    try simp only [Act.put, List.setIfInBounds_toArray, List.set_cons_zero, List.set_cons_succ]
    refine wpR_done (by kernel_rfl) ?_ _
    have y0 := blk_cell (j := 0) (v := .int .i64 q.kind) hX6.out rfl
    have y1 := blk_cell (j := 1) (v := .int .i64 q.cart) hX6.out rfl
    have y2 := blk_cell (j := 2) (v := .string (bs q.key)) hX6.out rfl
    have y3 := blk_cell (j := 3) (v := .int .i64 q.gen) hX6.out rfl
    have y4 := blk_cell (j := 4) (v := .int .i64 q.group) hX6.out rfl
    have y5 := blk_cell (j := 5) (v := .int .i64 q.groups) hX6.out rfl
    have y6 := blk_cell (j := 6) (v := .int .i64 q.index) hX6.out rfl
    have y7 := blk_cell (j := 7) (v := .int .i64 q.size) hX6.out rfl
    have y8 := blk_cell (j := 8) (v := .string (bs q.sum)) hX6.out rfl
    have y9 := blk_cell (j := 9) (v := .slice A9 q.data.length c9) hX6.out rfl
    have hen := Lib.hid (encode_ok q A9 c9 hok.out hg.out w6 hd6.out)
    unfold Rc.agg at hen
    go_wp2_with fail
    clear y0 y1 y2 y3 y4 y5 y6 y7 y8 y9
    refine hen.out.mono ?_
    rintro e w8 ⟨v8, rfl, ho8, hbb⟩
    obtain ⟨A8, c8, rfl, -, -, hR8, -⟩ := ho8.form
    obtain ⟨n8, hn8⟩ : ∃ n8, (encB q).length = n8 := ⟨_, rfl⟩
    rw [hn8] at ho8 ⊢
    replace hn8 := Lib.hid hn8
    have hX9 := Lib.hid (blk_below hX6.out hbb)
    have hN9 := Lib.hid (blk_below hN6.out hbb)
    have hb9 := Lib.hid (hb6.out.trans (hbb.mono hb6.out.size))
    have hRb := Lib.hid ((hr.out.up hb9.out))
    replace hR8 := Lib.hid hR8
    have hd8 := Lib.hid (hd6.out.up hbb)
    clear ho8 hbb hen
    go_wp2_with fail
    refine (equal_any A8 (some ⟨ab, ao, none⟩) n8 c8 (m + 6) c _ _ (encB q) b hn8.out hn.out _ hR8.out hRb.out).mono ?_
    rw [he.out]
    rintro e w9 ⟨rfl, rfl⟩
    have z0 := blk_cell (j := 0) (v := .int .i64 0) hN9.out rfl
    have f0 := blk_free hN9.out 0
    have z1 := blk_cell (j := 1) (v := .int .i64 0) hN9.out rfl
    have f1 := blk_free hN9.out 1
    have z2 := blk_cell (j := 2) (v := .string ⟨#[]⟩) hN9.out rfl
    have f2 := blk_free hN9.out 2
    have z3 := blk_cell (j := 3) (v := .int .i64 0) hN9.out rfl
    have f3 := blk_free hN9.out 3
    have z4 := blk_cell (j := 4) (v := .int .i64 0) hN9.out rfl
    have f4 := blk_free hN9.out 4
    have z5 := blk_cell (j := 5) (v := .int .i64 0) hN9.out rfl
    have f5 := blk_free hN9.out 5
    have z6 := blk_cell (j := 6) (v := .int .i64 0) hN9.out rfl
    have f6 := blk_free hN9.out 6
    have z7 := blk_cell (j := 7) (v := .int .i64 0) hN9.out rfl
    have f7 := blk_free hN9.out 7
    have z8 := blk_cell (j := 8) (v := .string ⟨#[]⟩) hN9.out rfl
    have f8 := blk_free hN9.out 8
    have z9 := blk_cell (j := 9) (v := .slice none 0 0) hN9.out rfl
    have f9 := blk_free hN9.out 9
    go_wp2_with fail
    have hz := blk_set10 hN9.out (.int .i64 0) (.int .i64 0) (.string ⟨#[]⟩) (.int .i64 0) (.int .i64 0) (.int .i64 0) (.int .i64 0) (.int .i64 0) (.string ⟨#[]⟩) (.slice none 0 0)
    have hbz := setLo10 hb9.out (Nat.le_refl w.heap.size) (.int .i64 0) (.int .i64 0) (.string ⟨#[]⟩) (.int .i64 0) (.int .i64 0) (.int .i64 0) (.int .i64 0) (.int .i64 0) (.string ⟨#[]⟩) (.slice none 0 0)
    obtain ⟨w10, hw10⟩ : ∃ w10, ((((((((((w9.setCell ⟨w.heap.size, 0, none⟩ (.int .i64 0)).setCell ⟨w.heap.size, 1, none⟩ (.int .i64 0)).setCell ⟨w.heap.size, 2, none⟩ (.string ⟨#[]⟩)).setCell ⟨w.heap.size, 3, none⟩ (.int .i64 0)).setCell ⟨w.heap.size, 4, none⟩ (.int .i64 0)).setCell ⟨w.heap.size, 5, none⟩ (.int .i64 0)).setCell ⟨w.heap.size, 6, none⟩ (.int .i64 0)).setCell ⟨w.heap.size, 7, none⟩ (.int .i64 0)).setCell ⟨w.heap.size, 8, none⟩ (.string ⟨#[]⟩)).setCell ⟨w.heap.size, 9, none⟩ (.slice none 0 0)) = w10 := ⟨_, rfl⟩
    rw [hw10] at hz hbz ⊢
    have r0 := blk_cell (j := 0) (v := .int .i64 0) hz rfl
    have r1 := blk_cell (j := 1) (v := .int .i64 0) hz rfl
    have r2 := blk_cell (j := 2) (v := .string ⟨#[]⟩) hz rfl
    have r3 := blk_cell (j := 3) (v := .int .i64 0) hz rfl
    have r4 := blk_cell (j := 4) (v := .int .i64 0) hz rfl
    have r5 := blk_cell (j := 5) (v := .int .i64 0) hz rfl
    have r6 := blk_cell (j := 6) (v := .int .i64 0) hz rfl
    have r7 := blk_cell (j := 7) (v := .int .i64 0) hz rfl
    have r8 := blk_cell (j := 8) (v := .string ⟨#[]⟩) hz rfl
    have r9 := blk_cell (j := 9) (v := .slice none 0 0) hz rfl
    exact bodyPost_ret (v := .tuple #[(.agg #[.int .i64 0, .int .i64 0, .string ⟨#[]⟩, .int .i64 0, .int .i64 0, .int .i64 0, .int .i64 0, .int .i64 0, .string ⟨#[]⟩, .slice none 0 0]), .int .i64 12]) (by simp [results, Try.results25, go_sem, r0, r1, r2, r3, r4, r5, r6, r7, r8, r9]) rfl ⟨rfl, hbz⟩
  · go_simp
    refine hK _ _ (fun _ => Upd.of_below ((Below.refl _ _).alloc (Nat.le_refl _) _)) ?_
    clear hK K
    have hX3 := Lib.hid (heap_alloc_new wd (.cells #[.int .i64 0, .int .i64 0, .string ⟨#[]⟩, .int .i64 0, .int .i64 0, .int .i64 0, .int .i64 0, .int .i64 0, .string ⟨#[]⟩, .slice none 0 0] 41))
    have hN3 := Lib.hid (blk_alloc hNd.out (.cells #[.int .i64 0, .int .i64 0, .string ⟨#[]⟩, .int .i64 0, .int .i64 0, .int .i64 0, .int .i64 0, .int .i64 0, .string ⟨#[]⟩, .slice none 0 0] 41))
    have hb3 := Lib.hid (hbd.out.alloc hbd.out.size (.cells #[.int .i64 0, .int .i64 0, .string ⟨#[]⟩, .int .i64 0, .int .i64 0, .int .i64 0, .int .i64 0, .int .i64 0, .string ⟨#[]⟩, .slice none 0 0] 41))
    have hsl3 := Lib.hid (hsld.out.up ((Below.refl wd.heap.size wd).alloc (Nat.le_refl _) (.cells #[.int .i64 0, .int .i64 0, .string ⟨#[]⟩, .int .i64 0, .int .i64 0, .int .i64 0, .int .i64 0, .int .i64 0, .string ⟨#[]⟩, .slice none 0 0] 41)))
    obtain ⟨X, hX⟩ : ∃ X, wd.heap.size = X := ⟨_, rfl⟩
    have hXN : w.heap.size < X := by have := blk_lt hNd.out; omega
    rw [hX] at hX3 ⊢
    obtain ⟨w3, hw3⟩ : ∃ w3, wd.alloc (.cells #[.int .i64 0, .int .i64 0, .string ⟨#[]⟩, .int .i64 0, .int .i64 0, .int .i64 0, .int .i64 0, .int .i64 0, .string ⟨#[]⟩, .slice none 0 0] 41) = w3 := ⟨_, rfl⟩
    rw [hw3] at hX3 hN3 hb3 hsl3 ⊢
    replace hw3 := Lib.hid hw3
    replace hX := Lib.hid hX
    try simp only [Act.put, List.setIfInBounds_toArray, List.set_cons_zero, List.set_cons_succ]
    refine wpR_one 9 rfl (by kernel_rfl) (by kernel_rfl) (fun K hK => ?_)
    go_simp
    refine (hgs.out _ (by have := hb3.out.size; omega) hsl3.out).mono ?_
    rintro e w5 ⟨A9, c9, rfl, hd9, -, -, -, hbb⟩
    refine hK _ _ (fun _ => Upd.of_below hbb) ?_
    clear hK K
    have hX5 := blk_below hX3.out hbb
    have hN5 := blk_below hN3.out hbb
    have hb5 := Lib.hid (hb3.out.trans (hbb.mono hb3.out.size))
    replace hd9 := Lib.hid hd9
    clear hbb
    have z0 := blk_cell (j := 0) (v := .int .i64 0) hX5 rfl
    have f0 := blk_free hX5 0
    have z1 := blk_cell (j := 1) (v := .int .i64 0) hX5 rfl
    have f1 := blk_free hX5 1
    have z2 := blk_cell (j := 2) (v := .string ⟨#[]⟩) hX5 rfl
    have f2 := blk_free hX5 2
    have z3 := blk_cell (j := 3) (v := .int .i64 0) hX5 rfl
    have f3 := blk_free hX5 3
    have z4 := blk_cell (j := 4) (v := .int .i64 0) hX5 rfl
    have f4 := blk_free hX5 4
    have z5 := blk_cell (j := 5) (v := .int .i64 0) hX5 rfl
    have f5 := blk_free hX5 5
    have z6 := blk_cell (j := 6) (v := .int .i64 0) hX5 rfl
    have f6 := blk_free hX5 6
    have z7 := blk_cell (j := 7) (v := .int .i64 0) hX5 rfl
    have f7 := blk_free hX5 7
    have z8 := blk_cell (j := 8) (v := .string ⟨#[]⟩) hX5 rfl
    have f8 := blk_free hX5 8
    have z9 := blk_cell (j := 9) (v := .slice none 0 0) hX5 rfl
    have f9 := blk_free hX5 9
    replace hX5 := Lib.hid hX5
    replace hN5 := Lib.hid hN5
    unfold Rc.agg
    try simp only [Act.put, List.setIfInBounds_toArray, List.set_cons_zero, List.set_cons_succ]
    refine wpR_one 11 rfl (by kernel_rfl) (by kernel_rfl) (fun K hK => ?_)
    go_simp
    refine hK _ _ (fun h => absurd h (by decide)) ?_
    clear hK K
    clear z0 f0 z1 f1 z2 f2 z3 f3 z4 f4 z5 f5 z6 f6 z7 f7 z8 f8 z9 f9
    have hd6 := hd9.out.recSet10 hX5.out (by rfl) (.int .i64 q.kind) (.int .i64 q.cart) (.string (bs q.key)) (.int .i64 q.gen) (.int .i64 q.group) (.int .i64 q.groups) (.int .i64 q.index) (.int .i64 q.size) (.string (bs q.sum)) (.slice A9 q.data.length c9)
    have hX6 := blk_set10 hX5.out (.int .i64 q.kind) (.int .i64 q.cart) (.string (bs q.key)) (.int .i64 q.gen) (.int .i64 q.group) (.int .i64 q.groups) (.int .i64 q.index) (.int .i64 q.size) (.string (bs q.sum)) (.slice A9 q.data.length c9)
    have hN6 := set10_other (X := X) (g := w.heap.size) (by omega) hN5.out (.int .i64 q.kind) (.int .i64 q.cart) (.string (bs q.key)) (.int .i64 q.gen) (.int .i64 q.group) (.int .i64 q.groups) (.int .i64 q.index) (.int .i64 q.size) (.string (bs q.sum)) (.slice A9 q.data.length c9)
    have hb6 := setLo10 hb5.out (g := X) (Nat.le_of_lt hXN) (.int .i64 q.kind) (.int .i64 q.cart) (.string (bs q.key)) (.int .i64 q.gen) (.int .i64 q.group) (.int .i64 q.groups) (.int .i64 q.index) (.int .i64 q.size) (.string (bs q.sum)) (.slice A9 q.data.length c9)
    have hz6 : ((((((((((w5.setCell ⟨X, 0, none⟩ (.int .i64 q.kind)).setCell ⟨X, 1, none⟩ (.int .i64 q.cart)).setCell ⟨X, 2, none⟩ (.string (bs q.key))).setCell ⟨X, 3, none⟩ (.int .i64 q.gen)).setCell ⟨X, 4, none⟩ (.int .i64 q.group)).setCell ⟨X, 5, none⟩ (.int .i64 q.groups)).setCell ⟨X, 6, none⟩ (.int .i64 q.index)).setCell ⟨X, 7, none⟩ (.int .i64 q.size)).setCell ⟨X, 8, none⟩ (.string (bs q.sum))).setCell ⟨X, 9, none⟩ (.slice A9 q.data.length c9)).heap.size = w5.heap.size := by simp
    obtain ⟨w6, hw6⟩ : ∃ w6, ((((((((((w5.setCell ⟨X, 0, none⟩ (.int .i64 q.kind)).setCell ⟨X, 1, none⟩ (.int .i64 q.cart)).setCell ⟨X, 2, none⟩ (.string (bs q.key))).setCell ⟨X, 3, none⟩ (.int .i64 q.gen)).setCell ⟨X, 4, none⟩ (.int .i64 q.group)).setCell ⟨X, 5, none⟩ (.int .i64 q.groups)).setCell ⟨X, 6, none⟩ (.int .i64 q.index)).setCell ⟨X, 7, none⟩ (.int .i64 q.size)).setCell ⟨X, 8, none⟩ (.string (bs q.sum))).setCell ⟨X, 9, none⟩ (.slice A9 q.data.length c9)) = w6 := ⟨_, rfl⟩
    rw [hw6] at hX6 hN6 hb6 hd6 hz6 ⊢
    rw [← hz6] at hd6
    replace hX6 := Lib.hid hX6
    replace hN6 := Lib.hid hN6
    replace hb6 := Lib.hid hb6
    replace hw6 := Lib.hid hw6
    replace hd6 := Lib.hid hd6
    clear hX5 hN5 hb5 hd9 hz6
    try simp only [Act.put, List.setIfInBounds_toArray, List.set_cons_zero, List.set_cons_succ]
    refine wpR_done (by kernel_rfl) ?_ _
    have y0 := blk_cell (j := 0) (v := .int .i64 q.kind) hX6.out rfl
    have y1 := blk_cell (j := 1) (v := .int .i64 q.cart) hX6.out rfl
    have y2 := blk_cell (j := 2) (v := .string (bs q.key)) hX6.out rfl
    have y3 := blk_cell (j := 3) (v := .int .i64 q.gen) hX6.out rfl
    have y4 := blk_cell (j := 4) (v := .int .i64 q.group) hX6.out rfl
    have y5 := blk_cell (j := 5) (v := .int .i64 q.groups) hX6.out rfl
    have y6 := blk_cell (j := 6) (v := .int .i64 q.index) hX6.out rfl
    have y7 := blk_cell (j := 7) (v := .int .i64 q.size) hX6.out rfl
    have y8 := blk_cell (j := 8) (v := .string (bs q.sum)) hX6.out rfl
    have y9 := blk_cell (j := 9) (v := .slice A9 q.data.length c9) hX6.out rfl
    have hen := Lib.hid (encode_ok q A9 c9 hok.out hg.out w6 hd6.out)
    unfold Rc.agg at hen
    go_wp2_with fail
    clear y0 y1 y2 y3 y4 y5 y6 y7 y8 y9
    refine hen.out.mono ?_
    rintro e w8 ⟨v8, rfl, ho8, hbb⟩
    obtain ⟨A8, c8, rfl, -, -, hR8, -⟩ := ho8.form
    obtain ⟨n8, hn8⟩ : ∃ n8, (encB q).length = n8 := ⟨_, rfl⟩
    rw [hn8] at ho8 ⊢
    replace hn8 := Lib.hid hn8
    have hX9 := Lib.hid (blk_below hX6.out hbb)
    have hN9 := Lib.hid (blk_below hN6.out hbb)
    have hb9 := Lib.hid (hb6.out.trans (hbb.mono hb6.out.size))
    have hRb := Lib.hid ((hr.out.up hb9.out))
    replace hR8 := Lib.hid hR8
    have hd8 := Lib.hid (hd6.out.up hbb)
    clear ho8 hbb hen
    go_wp2_with fail
    refine (equal_any A8 (some ⟨ab, ao, none⟩) n8 c8 (m + 6) c _ _ (encB q) b hn8.out hn.out _ hR8.out hRb.out).mono ?_
    rw [he.out]
    rintro e w9 ⟨rfl, rfl⟩
    have z0 := blk_cell (j := 0) (v := .int .i64 0) hN9.out rfl
    have f0 := blk_free hN9.out 0
    have z1 := blk_cell (j := 1) (v := .int .i64 0) hN9.out rfl
    have f1 := blk_free hN9.out 1
    have z2 := blk_cell (j := 2) (v := .string ⟨#[]⟩) hN9.out rfl
    have f2 := blk_free hN9.out 2
    have z3 := blk_cell (j := 3) (v := .int .i64 0) hN9.out rfl
    have f3 := blk_free hN9.out 3
    have z4 := blk_cell (j := 4) (v := .int .i64 0) hN9.out rfl
    have f4 := blk_free hN9.out 4
    have z5 := blk_cell (j := 5) (v := .int .i64 0) hN9.out rfl
    have f5 := blk_free hN9.out 5
    have z6 := blk_cell (j := 6) (v := .int .i64 0) hN9.out rfl
    have f6 := blk_free hN9.out 6
    have z7 := blk_cell (j := 7) (v := .int .i64 0) hN9.out rfl
    have f7 := blk_free hN9.out 7
    have z8 := blk_cell (j := 8) (v := .string ⟨#[]⟩) hN9.out rfl
    have f8 := blk_free hN9.out 8
    have z9 := blk_cell (j := 9) (v := .slice none 0 0) hN9.out rfl
    have f9 := blk_free hN9.out 9
    go_wp2_with fail
    have hz := blk_set10 hN9.out (.int .i64 0) (.int .i64 0) (.string ⟨#[]⟩) (.int .i64 0) (.int .i64 0) (.int .i64 0) (.int .i64 0) (.int .i64 0) (.string ⟨#[]⟩) (.slice none 0 0)
    have hbz := setLo10 hb9.out (Nat.le_refl w.heap.size) (.int .i64 0) (.int .i64 0) (.string ⟨#[]⟩) (.int .i64 0) (.int .i64 0) (.int .i64 0) (.int .i64 0) (.int .i64 0) (.string ⟨#[]⟩) (.slice none 0 0)
    obtain ⟨w10, hw10⟩ : ∃ w10, ((((((((((w9.setCell ⟨w.heap.size, 0, none⟩ (.int .i64 0)).setCell ⟨w.heap.size, 1, none⟩ (.int .i64 0)).setCell ⟨w.heap.size, 2, none⟩ (.string ⟨#[]⟩)).setCell ⟨w.heap.size, 3, none⟩ (.int .i64 0)).setCell ⟨w.heap.size, 4, none⟩ (.int .i64 0)).setCell ⟨w.heap.size, 5, none⟩ (.int .i64 0)).setCell ⟨w.heap.size, 6, none⟩ (.int .i64 0)).setCell ⟨w.heap.size, 7, none⟩ (.int .i64 0)).setCell ⟨w.heap.size, 8, none⟩ (.string ⟨#[]⟩)).setCell ⟨w.heap.size, 9, none⟩ (.slice none 0 0)) = w10 := ⟨_, rfl⟩
    rw [hw10] at hz hbz ⊢
    have r0 := blk_cell (j := 0) (v := .int .i64 0) hz rfl
    have r1 := blk_cell (j := 1) (v := .int .i64 0) hz rfl
    have r2 := blk_cell (j := 2) (v := .string ⟨#[]⟩) hz rfl
    have r3 := blk_cell (j := 3) (v := .int .i64 0) hz rfl
    have r4 := blk_cell (j := 4) (v := .int .i64 0) hz rfl
    have r5 := blk_cell (j := 5) (v := .int .i64 0) hz rfl
    have r6 := blk_cell (j := 6) (v := .int .i64 0) hz rfl
    have r7 := blk_cell (j := 7) (v := .int .i64 0) hz rfl
    have r8 := blk_cell (j := 8) (v := .string ⟨#[]⟩) hz rfl
    have r9 := blk_cell (j := 9) (v := .slice none 0 0) hz rfl
    exact bodyPost_ret (v := .tuple #[(.agg #[.int .i64 0, .int .i64 0, .string ⟨#[]⟩, .int .i64 0, .int .i64 0, .int .i64 0, .int .i64 0, .int .i64 0, .string ⟨#[]⟩, .slice none 0 0]), .int .i64 12]) (by simp [results, Try.results25, go_sem, r0, r1, r2, r3, r4, r5, r6, r7, r8, r9]) rfl ⟨rfl, hbz⟩

set_option maxHeartbeats 8000000 in
set_option maxRecDepth 20000 in
theorem decode_ng (A : Option Addr) (m c : Nat) (b : List UInt8) (hn : b.length = m + 6) (hnc : m + 6 ≤ c) (hcm : c ≤ 9223372036854775807) (hm : m ≤ 140737488355000) (k : UInt8) (h1 : b[1]? = some k) (q : Rc)
    (hg3 : guessR (U k) ((b.drop 2).take m) = q) (hg : goodB q = false) (w : World) (hr : Rd w w.heap.size A b) :
    Calls Try.prog 25 #[.slice A (m + 6) c] w fun e w' => e = .returned (.tuple #[(.agg #[.int .i64 0, .int .i64 0, .string ⟨#[]⟩, .int .i64 0, .int .i64 0, .int .i64 0, .int .i64 0, .int .i64 0, .string ⟨#[]⟩, .slice none 0 0]), .int .i64 12]) ∧ Below w.heap.size w w' := by
  obtain ⟨ad0, rfl, hadb0, hc0⟩ := hr.at_ (k := 0) (by omega)
  have hfl := flat_of hc0
  obtain ⟨ab, hab⟩ : ∃ ab, ad0.block = ab := ⟨_, rfl⟩
  obtain ⟨ao, hao⟩ : ∃ ao, ad0.off = ao := ⟨_, rfl⟩
  rw [hab, hao] at hfl
  subst hfl
  clear hc0 hab hao
  have hadb : ab < w.heap.size := hadb0
  have hk := U_bd k
  have hok : q.Ok := by rw [← hg3]; exact guessR_ok _ (by unfold R64; omega) _ (by rw [List.length_take, List.length_drop]; omega)
  have hgs : Hid (∀ W : World, ab < W.heap.size → Rd W W.heap.size (some ⟨ab, ao + 2, none⟩) ((b.drop 2).take m) → Calls Try.prog 50 #[.int .i64 (U k), .slice (some ⟨ab, ao + 2, none⟩) m (c - 2)] W fun e w' => ∃ A9 c9, e = .returned (q.agg A9 c9) ∧ Rd w' w'.heap.size A9 q.data ∧ (∀ ad, A9 = some ad → W.heap.size ≤ ad.block) ∧ q.data.length ≤ c9 ∧ c9 ≤ maxLen ∧ Below W.heap.size W w') := Lib.hid (fun W hab hW => by
    have := guess_any (U k) ab (ao + 2) m (c - 2) _ (by rw [List.length_take, List.length_drop]; omega) (by omega) (by omega) (by omega) W hab hW
    rw [hg3] at this
    exact this)
  clear hk
  have hN1 := heap_alloc_new w (.cells #[.int .i64 0, .int .i64 0, .string ⟨#[]⟩, .int .i64 0, .int .i64 0, .int .i64 0, .int .i64 0, .int .i64 0, .string ⟨#[]⟩, .slice none 0 0] 41)
  have hb1 := (Below.refl w.heap.size w).alloc (Nat.le_refl _) (.cells #[.int .i64 0, .int .i64 0, .string ⟨#[]⟩, .int .i64 0, .int .i64 0, .int .i64 0, .int .i64 0, .int .i64 0, .string ⟨#[]⟩, .slice none 0 0] 41)
  have hmid : Rd w w.heap.size (some ⟨ab, ao + 2, none⟩) ((b.drop 2).take m) := by have := hr.mid (i := 2) (m := m) (by omega); rwa [add_of] at this
  have hR1 := hr.up hb1
  have hw1 : IntKind.i64.wrap ((m : Int) + 6 - 4) = (m : Int) + 2 := by rw [IntWalk.i64_in _ (by omega)]; omega
  have hc2 : ¬ (c = 2) := by omega
  have hi1 : (1 : Int) < (m : Int) + 6 := by omega
  have hs1 : (2 : Int) ≤ (m : Int) + 2 := by omega
  have hs2 : (m : Int) + 2 ≤ (c : Int) := by omega
  have hs3 : 0 ≤ (m : Int) + 2 := by omega
  have hd6 : decide ((m : Int) + 6 < 6) = false := decide_eq_false (by omega)
  replace hn := Lib.hid hn
  replace hg := Lib.hid hg
  replace hok := Lib.hid hok
  have hr0 := Lib.hid hr
  go_enter Try.func25, Try.ntmps25
  go_wp2_with fail
  obtain ⟨wd, hwd⟩ : ∃ wd, wd = (w.alloc (.cells #[.int .i64 0, .int .i64 0, .string ⟨#[]⟩, .int .i64 0, .int .i64 0, .int .i64 0, .int .i64 0, .int .i64 0, .string ⟨#[]⟩, .slice none 0 0] 41)).drew := ⟨_, rfl⟩
  have hbd : Hid (Below w.heap.size w wd) := Lib.hid (by rw [hwd]; exact hb1.drew)
  have hNd : Hid (wd.heap[w.heap.size]? = some (.cells #[.int .i64 0, .int .i64 0, .string ⟨#[]⟩, .int .i64 0, .int .i64 0, .int .i64 0, .int .i64 0, .int .i64 0, .string ⟨#[]⟩, .slice none 0 0] 41 (0, 0))) := Lib.hid (by rw [hwd]; exact hN1)
  have hsld : Hid (Rd wd wd.heap.size (some ⟨ab, ao + 2, none⟩) ((b.drop 2).take m)) := Lib.hid (by rw [hwd]; exact (hmid.up hb1).drewN 1)
  obtain ⟨ad', ead, -, c1⟩ := (show Rd wd wd.heap.size (some ⟨ab, ao, none⟩) b by rw [hwd]; exact hR1.drewN 1).get h1
  injection ead with ead
  subst ead
  rw [add_of] at c1
  have hadd : ab < wd.heap.size := Nat.lt_of_lt_of_le hadb hbd.out.size
  clear hg3 hmid hR1 hN1 hb1 hr h1
  have hr := hr0
  clear hr0
  refine wpR_region (Upd (fun _ => False)) 11 (by kernel_rfl) ?_
  (rw [← hwd]; replace hwd := Lib.hid hwd)
  refine wpR_take (i := 0) (v := ?_) (Upd.road _) (some 11) rfl (by kernel_rfl) (by kernel_rfl) (by kernel_rfl) (by kernel_rfl) (by kernel_rfl) (fun _ _ _ h => h) (by kernel_rfl) (fun w' hw' => ?_) ?_
  rotate_left
  · go_simp; with_reducible rfl
  simp only [Act.put, List.setIfInBounds_toArray, List.set_cons_zero, List.set_cons_succ]
  refine wpR_take (i := 1) (v := ?_) (Upd.road _) (some 12) rfl (by kernel_rfl) (by kernel_rfl) (by kernel_rfl) (by kernel_rfl) (by kernel_rfl) (fun _ _ _ h => h) (by kernel_rfl) (fun w' hw' => ?_) ?_
  rotate_left
  · go_simp; with_reducible rfl
  simp only [Act.put, List.setIfInBounds_toArray, List.set_cons_zero, List.set_cons_succ]
  refine wpR_take (i := 2) (v := ?_) (Upd.road _) (some 13) rfl (by kernel_rfl) (by kernel_rfl) (by kernel_rfl) (by kernel_rfl) (by kernel_rfl) (fun _ _ _ h => h) (by kernel_rfl) (fun w' hw' => ?_) ?_
  rotate_left
  · have q := (hw'.cell (p := ⟨ab, ao + 1, none⟩) hadd (fun h => h)).trans c1; go_simp; with_reducible rfl
  simp only [Act.put, List.setIfInBounds_toArray, List.set_cons_zero, List.set_cons_succ]
  refine wpR_take (i := 3) (v := ?_) (Upd.road _) (some 14) rfl (by kernel_rfl) (by kernel_rfl) (by kernel_rfl) (by kernel_rfl) (by kernel_rfl) (fun _ _ _ h => h) (by kernel_rfl) (fun w' hw' => ?_) ?_
  rotate_left
  · go_simp; with_reducible rfl
  simp only [Act.put, List.setIfInBounds_toArray, List.set_cons_zero, List.set_cons_succ]
  refine wpR_take (i := 4) (v := ?_) (Upd.road _) (some 15) rfl (by kernel_rfl) (by kernel_rfl) (by kernel_rfl) (by kernel_rfl) (by kernel_rfl) (fun _ _ _ h => h) (by kernel_rfl) (fun w' hw' => ?_) ?_
  rotate_left
  · go_simp; with_reducible rfl
  simp only [Act.put, List.setIfInBounds_toArray, List.set_cons_zero, List.set_cons_succ]
  refine wpR_take (i := 5) (v := ?_) (Upd.road _) (some 16) rfl (by kernel_rfl) (by kernel_rfl) (by kernel_rfl) (by kernel_rfl) (by kernel_rfl) (fun _ _ _ h => h) (by kernel_rfl) (fun w' hw' => ?_) ?_
  rotate_left
  · go_simp; with_reducible rfl
  simp only [Act.put, List.setIfInBounds_toArray, List.set_cons_zero, List.set_cons_succ]
  refine wpR_take (i := 6) (v := ?_) (Upd.road _) (some 17) rfl (by kernel_rfl) (by kernel_rfl) (by kernel_rfl) (by kernel_rfl) (by kernel_rfl) (fun _ _ _ h => h) (by kernel_rfl) (fun w' hw' => ?_) ?_
  rotate_left
  · go_simp; with_reducible rfl
  simp only [Act.put, List.setIfInBounds_toArray, List.set_cons_zero, List.set_cons_succ]
  refine wpR_take (i := 7) (v := ?_) (Upd.road _) (some 18) rfl (by kernel_rfl) (by kernel_rfl) (by kernel_rfl) (by kernel_rfl) (by kernel_rfl) (fun _ _ _ h => h) (by kernel_rfl) (fun w' hw' => ?_) ?_
  rotate_left
  · go_simp; with_reducible rfl
  simp only [Act.put, List.setIfInBounds_toArray, List.set_cons_zero, List.set_cons_succ]
  refine wpR_take (i := 8) (v := ?_) (Upd.road _) (some 19) rfl (by kernel_rfl) (by kernel_rfl) (by kernel_rfl) (by kernel_rfl) (by kernel_rfl) (fun _ _ _ h => h) (by kernel_rfl) (fun w' hw' => ?_) ?_
  rotate_left
  · go_simp; with_reducible rfl
  simp only [Act.put, List.setIfInBounds_toArray, List.set_cons_zero, List.set_cons_succ]
  refine wpR_two 9 10 rfl rfl (by kernel_rfl) (by kernel_rfl) (by kernel_rfl) (fun K hK => ?_) (fun K hK => ?_)
  · go_simp
    refine (hgs.out _ (by have := hbd.out.size; omega) hsld.out).mono ?_
    rintro e w3 ⟨A9, c9, rfl, hd3, -, -, -, hbb⟩
    refine hK _ _ (fun _ => Upd.of_below hbb) ?_
    clear hK K
    have hN3 := Lib.hid (blk_below hNd.out hbb)
    have hb3 := Lib.hid (hbd.out.trans (hbb.mono hbd.out.size))
    clear hbb
    try simp only [Act.put, List.setIfInBounds_toArray, List.set_cons_zero, List.set_cons_succ]
    refine wpR_one 10 rfl (by kernel_rfl) (by kernel_rfl) (fun K hK => ?_)
    go_simp
    refine hK _ _ (fun _ => Upd.of_below ((Below.refl _ _).alloc (Nat.le_refl _) _)) ?_
    clear hK K
    have hX5 := heap_alloc_new w3 (.cells #[.int .i64 0, .int .i64 0, .string ⟨#[]⟩, .int .i64 0, .int .i64 0, .int .i64 0, .int .i64 0, .int .i64 0, .string ⟨#[]⟩, .slice none 0 0] 41)
    have hN5 := Lib.hid (blk_alloc hN3.out (.cells #[.int .i64 0, .int .i64 0, .string ⟨#[]⟩, .int .i64 0, .int .i64 0, .int .i64 0, .int .i64 0, .int .i64 0, .string ⟨#[]⟩, .slice none 0 0] 41))
    have hb5 := Lib.hid (hb3.out.alloc hb3.out.size (.cells #[.int .i64 0, .int .i64 0, .string ⟨#[]⟩, .int .i64 0, .int .i64 0, .int .i64 0, .int .i64 0, .int .i64 0, .string ⟨#[]⟩, .slice none 0 0] 41))
    have hd9 := hd3.up ((Below.refl _ _).alloc (Nat.le_refl _) (.cells #[.int .i64 0, .int .i64 0, .string ⟨#[]⟩, .int .i64 0, .int .i64 0, .int .i64 0, .int .i64 0, .int .i64 0, .string ⟨#[]⟩, .slice none 0 0] 41))
    obtain ⟨X, hX⟩ : ∃ X, w3.heap.size = X := ⟨_, rfl⟩
    have hXN : w.heap.size < X := by have := blk_lt hN3.out; omega
    rw [hX] at hX5 ⊢
    obtain ⟨w5, hw5⟩ : ∃ w5, w3.alloc (.cells #[.int .i64 0, .int .i64 0, .string ⟨#[]⟩, .int .i64 0, .int .i64 0, .int .i64 0, .int .i64 0, .int .i64 0, .string ⟨#[]⟩, .slice none 0 0] 41) = w5 := ⟨_, rfl⟩
    rw [hw5] at hX5 hN5 hb5 hd9 ⊢
    replace hd9 := Lib.hid hd9
    clear hd3
    have z0 := blk_cell (j := 0) (v := .int .i64 0) hX5 rfl
    have f0 := blk_free hX5 0
    have z1 := blk_cell (j := 1) (v := .int .i64 0) hX5 rfl
    have f1 := blk_free hX5 1
    have z2 := blk_cell (j := 2) (v := .string ⟨#[]⟩) hX5 rfl
    have f2 := blk_free hX5 2
    have z3 := blk_cell (j := 3) (v := .int .i64 0) hX5 rfl
    have f3 := blk_free hX5 3
    have z4 := blk_cell (j := 4) (v := .int .i64 0) hX5 rfl
    have f4 := blk_free hX5 4
    have z5 := blk_cell (j := 5) (v := .int .i64 0) hX5 rfl
    have f5 := blk_free hX5 5
    have z6 := blk_cell (j := 6) (v := .int .i64 0) hX5 rfl
    have f6 := blk_free hX5 6
    have z7 := blk_cell (j := 7) (v := .int .i64 0) hX5 rfl
    have f7 := blk_free hX5 7
    have z8 := blk_cell (j := 8) (v := .string ⟨#[]⟩) hX5 rfl
    have f8 := blk_free hX5 8
    have z9 := blk_cell (j := 9) (v := .slice none 0 0) hX5 rfl
    have f9 := blk_free hX5 9
    replace hX5 := Lib.hid hX5
    replace hw5 := Lib.hid hw5
    replace hX := Lib.hid hX
    unfold Rc.agg
    try simp only [Act.put, List.setIfInBounds_toArray, List.set_cons_zero, List.set_cons_succ]
    refine wpR_one 11 rfl (by kernel_rfl) (by kernel_rfl) (fun K hK => ?_)
    go_simp
    refine hK _ _ (fun h => absurd h (by decide)) ?_
    clear hK K
    clear z0 f0 z1 f1 z2 f2 z3 f3 z4 f4 z5 f5 z6 f6 z7 f7 z8 f8 z9 f9
    have hd6 := hd9.out.recSet10 hX5.out (by rfl) (.int .i64 q.kind) (.int .i64 q.cart) (.string (bs q.key)) (.int .i64 q.gen) (.int .i64 q.group) (.int .i64 q.groups) (.int .i64 q.index) (.int .i64 q.size) (.string (bs q.sum)) (.slice A9 q.data.length c9)
    have hX6 := blk_set10 hX5.out (.int .i64 q.kind) (.int .i64 q.cart) (.string (bs q.key)) (.int .i64 q.gen) (.int .i64 q.group) (.int .i64 q.groups) (.int .i64 q.index) (.int .i64 q.size) (.string (bs q.sum)) (.slice A9 q.data.length c9)
    have hN6 := set10_other (X := X) (g := w.heap.size) (by omega) hN5.out (.int .i64 q.kind) (.int .i64 q.cart) (.string (bs q.key)) (.int .i64 q.gen) (.int .i64 q.group) (.int .i64 q.groups) (.int .i64 q.index) (.int .i64 q.size) (.string (bs q.sum)) (.slice A9 q.data.length c9)
    have hb6 := setLo10 hb5.out (g := X) (Nat.le_of_lt hXN) (.int .i64 q.kind) (.int .i64 q.cart) (.string (bs q.key)) (.int .i64 q.gen) (.int .i64 q.group) (.int .i64 q.groups) (.int .i64 q.index) (.int .i64 q.size) (.string (bs q.sum)) (.slice A9 q.data.length c9)
    have hz6 : ((((((((((w5.setCell ⟨X, 0, none⟩ (.int .i64 q.kind)).setCell ⟨X, 1, none⟩ (.int .i64 q.cart)).setCell ⟨X, 2, none⟩ (.string (bs q.key))).setCell ⟨X, 3, none⟩ (.int .i64 q.gen)).setCell ⟨X, 4, none⟩ (.int .i64 q.group)).setCell ⟨X, 5, none⟩ (.int .i64 q.groups)).setCell ⟨X, 6, none⟩ (.int .i64 q.index)).setCell ⟨X, 7, none⟩ (.int .i64 q.size)).setCell ⟨X, 8, none⟩ (.string (bs q.sum))).setCell ⟨X, 9, none⟩ (.slice A9 q.data.length c9)).heap.size = w5.heap.size := by simp
    obtain ⟨w6, hw6⟩ : ∃ w6, ((((((((((w5.setCell ⟨X, 0, none⟩ (.int .i64 q.kind)).setCell ⟨X, 1, none⟩ (.int .i64 q.cart)).setCell ⟨X, 2, none⟩ (.string (bs q.key))).setCell ⟨X, 3, none⟩ (.int .i64 q.gen)).setCell ⟨X, 4, none⟩ (.int .i64 q.group)).setCell ⟨X, 5, none⟩ (.int .i64 q.groups)).setCell ⟨X, 6, none⟩ (.int .i64 q.index)).setCell ⟨X, 7, none⟩ (.int .i64 q.size)).setCell ⟨X, 8, none⟩ (.string (bs q.sum))).setCell ⟨X, 9, none⟩ (.slice A9 q.data.length c9)) = w6 := ⟨_, rfl⟩
    rw [hw6] at hX6 hN6 hb6 hd6 hz6 ⊢
    rw [← hz6] at hd6
    replace hX6 := Lib.hid hX6
    replace hN6 := Lib.hid hN6
    replace hb6 := Lib.hid hb6
    replace hw6 := Lib.hid hw6
    replace hd6 := Lib.hid hd6
    clear hX5 hN5 hb5 hd9 hz6
    try simp only [Act.put, List.setIfInBounds_toArray, List.set_cons_zero, List.set_cons_succ]
    refine wpR_done (by kernel_rfl) ?_ _
    have y0 := blk_cell (j := 0) (v := .int .i64 q.kind) hX6.out rfl
    have y1 := blk_cell (j := 1) (v := .int .i64 q.cart) hX6.out rfl
    have y2 := blk_cell (j := 2) (v := .string (bs q.key)) hX6.out rfl
    have y3 := blk_cell (j := 3) (v := .int .i64 q.gen) hX6.out rfl
    have y4 := blk_cell (j := 4) (v := .int .i64 q.group) hX6.out rfl
    have y5 := blk_cell (j := 5) (v := .int .i64 q.groups) hX6.out rfl
    have y6 := blk_cell (j := 6) (v := .int .i64 q.index) hX6.out rfl
    have y7 := blk_cell (j := 7) (v := .int .i64 q.size) hX6.out rfl
    have y8 := blk_cell (j := 8) (v := .string (bs q.sum)) hX6.out rfl
    have y9 := blk_cell (j := 9) (v := .slice A9 q.data.length c9) hX6.out rfl
    have hen := Lib.hid (encode_no q A9 c9 hok.out hg.out w6 hd6.out)
    unfold Rc.agg at hen
    go_wp2_with fail
    clear y0 y1 y2 y3 y4 y5 y6 y7 y8 y9
    refine hen.out.mono ?_
    rintro e w9 ⟨rfl, hbb⟩
    have hN9 := Lib.hid (blk_below hN6.out hbb)
    have hb9 := Lib.hid (hb6.out.trans (hbb.mono hb6.out.size))
    clear hbb hen
    have z0 := blk_cell (j := 0) (v := .int .i64 0) hN9.out rfl
    have f0 := blk_free hN9.out 0
    have z1 := blk_cell (j := 1) (v := .int .i64 0) hN9.out rfl
    have f1 := blk_free hN9.out 1
    have z2 := blk_cell (j := 2) (v := .string ⟨#[]⟩) hN9.out rfl
    have f2 := blk_free hN9.out 2
    have z3 := blk_cell (j := 3) (v := .int .i64 0) hN9.out rfl
    have f3 := blk_free hN9.out 3
    have z4 := blk_cell (j := 4) (v := .int .i64 0) hN9.out rfl
    have f4 := blk_free hN9.out 4
    have z5 := blk_cell (j := 5) (v := .int .i64 0) hN9.out rfl
    have f5 := blk_free hN9.out 5
    have z6 := blk_cell (j := 6) (v := .int .i64 0) hN9.out rfl
    have f6 := blk_free hN9.out 6
    have z7 := blk_cell (j := 7) (v := .int .i64 0) hN9.out rfl
    have f7 := blk_free hN9.out 7
    have z8 := blk_cell (j := 8) (v := .string ⟨#[]⟩) hN9.out rfl
    have f8 := blk_free hN9.out 8
    have z9 := blk_cell (j := 9) (v := .slice none 0 0) hN9.out rfl
    have f9 := blk_free hN9.out 9
    go_wp2_with fail
    have hz := blk_set10 hN9.out (.int .i64 0) (.int .i64 0) (.string ⟨#[]⟩) (.int .i64 0) (.int .i64 0) (.int .i64 0) (.int .i64 0) (.int .i64 0) (.string ⟨#[]⟩) (.slice none 0 0)
    have hbz := setLo10 hb9.out (Nat.le_refl w.heap.size) (.int .i64 0) (.int .i64 0) (.string ⟨#[]⟩) (.int .i64 0) (.int .i64 0) (.int .i64 0) (.int .i64 0) (.int .i64 0) (.string ⟨#[]⟩) (.slice none 0 0)
    obtain ⟨w10, hw10⟩ : ∃ w10, ((((((((((w9.setCell ⟨w.heap.size, 0, none⟩ (.int .i64 0)).setCell ⟨w.heap.size, 1, none⟩ (.int .i64 0)).setCell ⟨w.heap.size, 2, none⟩ (.string ⟨#[]⟩)).setCell ⟨w.heap.size, 3, none⟩ (.int .i64 0)).setCell ⟨w.heap.size, 4, none⟩ (.int .i64 0)).setCell ⟨w.heap.size, 5, none⟩ (.int .i64 0)).setCell ⟨w.heap.size, 6, none⟩ (.int .i64 0)).setCell ⟨w.heap.size, 7, none⟩ (.int .i64 0)).setCell ⟨w.heap.size, 8, none⟩ (.string ⟨#[]⟩)).setCell ⟨w.heap.size, 9, none⟩ (.slice none 0 0)) = w10 := ⟨_, rfl⟩
    rw [hw10] at hz hbz ⊢
    have r0 := blk_cell (j := 0) (v := .int .i64 0) hz rfl
    have r1 := blk_cell (j := 1) (v := .int .i64 0) hz rfl
    have r2 := blk_cell (j := 2) (v := .string ⟨#[]⟩) hz rfl
    have r3 := blk_cell (j := 3) (v := .int .i64 0) hz rfl
    have r4 := blk_cell (j := 4) (v := .int .i64 0) hz rfl
    have r5 := blk_cell (j := 5) (v := .int .i64 0) hz rfl
    have r6 := blk_cell (j := 6) (v := .int .i64 0) hz rfl
    have r7 := blk_cell (j := 7) (v := .int .i64 0) hz rfl
    have r8 := blk_cell (j := 8) (v := .string ⟨#[]⟩) hz rfl
    have r9 := blk_cell (j := 9) (v := .slice none 0 0) hz rfl
    exact bodyPost_ret (v := .tuple #[(.agg #[.int .i64 0, .int .i64 0, .string ⟨#[]⟩, .int .i64 0, .int .i64 0, .int .i64 0, .int .i64 0, .int .i64 0, .string ⟨#[]⟩, .slice none 0 0]), .int .i64 12]) (by simp [results, Try.results25, go_sem, r0, r1, r2, r3, r4, r5, r6, r7, r8, r9]) rfl ⟨rfl, hbz⟩
  · go_simp
    refine hK _ _ (fun _ => Upd.of_below ((Below.refl _ _).alloc (Nat.le_refl _) _)) ?_
    clear hK K
    have hX3 := Lib.hid (heap_alloc_new wd (.cells #[.int .i64 0, .int .i64 0, .string ⟨#[]⟩, .int .i64 0, .int .i64 0, .int .i64 0, .int .i64 0, .int .i64 0, .string ⟨#[]⟩, .slice none 0 0] 41))
    have hN3 := Lib.hid (blk_alloc hNd.out (.cells #[.int .i64 0, .int .i64 0, .string ⟨#[]⟩, .int .i64 0, .int .i64 0, .int .i64 0, .int .i64 0, .int .i64 0, .string ⟨#[]⟩, .slice none 0 0] 41))
    have hb3 := Lib.hid (hbd.out.alloc hbd.out.size (.cells #[.int .i64 0, .int .i64 0, .string ⟨#[]⟩, .int .i64 0, .int .i64 0, .int .i64 0, .int .i64 0, .int .i64 0, .string ⟨#[]⟩, .slice none 0 0] 41))
    have hsl3 := Lib.hid (hsld.out.up ((Below.refl wd.heap.size wd).alloc (Nat.le_refl _) (.cells #[.int .i64 0, .int .i64 0, .string ⟨#[]⟩, .int .i64 0, .int .i64 0, .int .i64 0, .int .i64 0, .int .i64 0, .string ⟨#[]⟩, .slice none 0 0] 41)))
    obtain ⟨X, hX⟩ : ∃ X, wd.heap.size = X := ⟨_, rfl⟩
    have hXN : w.heap.size < X := by have := blk_lt hNd.out; omega
    rw [hX] at hX3 ⊢
    obtain ⟨w3, hw3⟩ : ∃ w3, wd.alloc (.cells #[.int .i64 0, .int .i64 0, .string ⟨#[]⟩, .int .i64 0, .int .i64 0, .int .i64 0, .int .i64 0, .int .i64 0, .string ⟨#[]⟩, .slice none 0 0] 41) = w3 := ⟨_, rfl⟩
    rw [hw3] at hX3 hN3 hb3 hsl3 ⊢
    replace hw3 := Lib.hid hw3
    replace hX := Lib.hid hX
    try simp only [Act.put, List.setIfInBounds_toArray, List.set_cons_zero, List.set_cons_succ]
    refine wpR_one 9 rfl (by kernel_rfl) (by kernel_rfl) (fun K hK => ?_)
    go_simp
    refine (hgs.out _ (by have := hb3.out.size; omega) hsl3.out).mono ?_
    rintro e w5 ⟨A9, c9, rfl, hd9, -, -, -, hbb⟩
    refine hK _ _ (fun _ => Upd.of_below hbb) ?_
    clear hK K
    have hX5 := blk_below hX3.out hbb
    have hN5 := blk_below hN3.out hbb
    have hb5 := Lib.hid (hb3.out.trans (hbb.mono hb3.out.size))
    replace hd9 := Lib.hid hd9
    clear hbb
    have z0 := blk_cell (j := 0) (v := .int .i64 0) hX5 rfl
    have f0 := blk_free hX5 0
    have z1 := blk_cell (j := 1) (v := .int .i64 0) hX5 rfl
    have f1 := blk_free hX5 1
    have z2 := blk_cell (j := 2) (v := .string ⟨#[]⟩) hX5 rfl
    have f2 := blk_free hX5 2
    have z3 := blk_cell (j := 3) (v := .int .i64 0) hX5 rfl
    have f3 := blk_free hX5 3
    have z4 := blk_cell (j := 4) (v := .int .i64 0) hX5 rfl
    have f4 := blk_free hX5 4
    have z5 := blk_cell (j := 5) (v := .int .i64 0) hX5 rfl
    have f5 := blk_free hX5 5
    have z6 := blk_cell (j := 6) (v := .int .i64 0) hX5 rfl
    have f6 := blk_free hX5 6
    have z7 := blk_cell (j := 7) (v := .int .i64 0) hX5 rfl
    have f7 := blk_free hX5 7
    have z8 := blk_cell (j := 8) (v := .string ⟨#[]⟩) hX5 rfl
    have f8 := blk_free hX5 8
    have z9 := blk_cell (j := 9) (v := .slice none 0 0) hX5 rfl
    have f9 := blk_free hX5 9
    replace hX5 := Lib.hid hX5
    replace hN5 := Lib.hid hN5
    unfold Rc.agg
    try simp only [Act.put, List.setIfInBounds_toArray, List.set_cons_zero, List.set_cons_succ]
    refine wpR_one 11 rfl (by kernel_rfl) (by kernel_rfl) (fun K hK => ?_)
    go_simp
    refine hK _ _ (fun h => absurd h (by decide)) ?_
    clear hK K
    clear z0 f0 z1 f1 z2 f2 z3 f3 z4 f4 z5 f5 z6 f6 z7 f7 z8 f8 z9 f9
    have hd6 := hd9.out.recSet10 hX5.out (by rfl) (.int .i64 q.kind) (.int .i64 q.cart) (.string (bs q.key)) (.int .i64 q.gen) (.int .i64 q.group) (.int .i64 q.groups) (.int .i64 q.index) (.int .i64 q.size) (.string (bs q.sum)) (.slice A9 q.data.length c9)
    have hX6 := blk_set10 hX5.out (.int .i64 q.kind) (.int .i64 q.cart) (.string (bs q.key)) (.int .i64 q.gen) (.int .i64 q.group) (.int .i64 q.groups) (.int .i64 q.index) (.int .i64 q.size) (.string (bs q.sum)) (.slice A9 q.data.length c9)
    have hN6 := set10_other (X := X) (g := w.heap.size) (by omega) hN5.out (.int .i64 q.kind) (.int .i64 q.cart) (.string (bs q.key)) (.int .i64 q.gen) (.int .i64 q.group) (.int .i64 q.groups) (.int .i64 q.index) (.int .i64 q.size) (.string (bs q.sum)) (.slice A9 q.data.length c9)
    have hb6 := setLo10 hb5.out (g := X) (Nat.le_of_lt hXN) (.int .i64 q.kind) (.int .i64 q.cart) (.string (bs q.key)) (.int .i64 q.gen) (.int .i64 q.group) (.int .i64 q.groups) (.int .i64 q.index) (.int .i64 q.size) (.string (bs q.sum)) (.slice A9 q.data.length c9)
    have hz6 : ((((((((((w5.setCell ⟨X, 0, none⟩ (.int .i64 q.kind)).setCell ⟨X, 1, none⟩ (.int .i64 q.cart)).setCell ⟨X, 2, none⟩ (.string (bs q.key))).setCell ⟨X, 3, none⟩ (.int .i64 q.gen)).setCell ⟨X, 4, none⟩ (.int .i64 q.group)).setCell ⟨X, 5, none⟩ (.int .i64 q.groups)).setCell ⟨X, 6, none⟩ (.int .i64 q.index)).setCell ⟨X, 7, none⟩ (.int .i64 q.size)).setCell ⟨X, 8, none⟩ (.string (bs q.sum))).setCell ⟨X, 9, none⟩ (.slice A9 q.data.length c9)).heap.size = w5.heap.size := by simp
    obtain ⟨w6, hw6⟩ : ∃ w6, ((((((((((w5.setCell ⟨X, 0, none⟩ (.int .i64 q.kind)).setCell ⟨X, 1, none⟩ (.int .i64 q.cart)).setCell ⟨X, 2, none⟩ (.string (bs q.key))).setCell ⟨X, 3, none⟩ (.int .i64 q.gen)).setCell ⟨X, 4, none⟩ (.int .i64 q.group)).setCell ⟨X, 5, none⟩ (.int .i64 q.groups)).setCell ⟨X, 6, none⟩ (.int .i64 q.index)).setCell ⟨X, 7, none⟩ (.int .i64 q.size)).setCell ⟨X, 8, none⟩ (.string (bs q.sum))).setCell ⟨X, 9, none⟩ (.slice A9 q.data.length c9)) = w6 := ⟨_, rfl⟩
    rw [hw6] at hX6 hN6 hb6 hd6 hz6 ⊢
    rw [← hz6] at hd6
    replace hX6 := Lib.hid hX6
    replace hN6 := Lib.hid hN6
    replace hb6 := Lib.hid hb6
    replace hw6 := Lib.hid hw6
    replace hd6 := Lib.hid hd6
    clear hX5 hN5 hb5 hd9 hz6
    try simp only [Act.put, List.setIfInBounds_toArray, List.set_cons_zero, List.set_cons_succ]
    refine wpR_done (by kernel_rfl) ?_ _
    have y0 := blk_cell (j := 0) (v := .int .i64 q.kind) hX6.out rfl
    have y1 := blk_cell (j := 1) (v := .int .i64 q.cart) hX6.out rfl
    have y2 := blk_cell (j := 2) (v := .string (bs q.key)) hX6.out rfl
    have y3 := blk_cell (j := 3) (v := .int .i64 q.gen) hX6.out rfl
    have y4 := blk_cell (j := 4) (v := .int .i64 q.group) hX6.out rfl
    have y5 := blk_cell (j := 5) (v := .int .i64 q.groups) hX6.out rfl
    have y6 := blk_cell (j := 6) (v := .int .i64 q.index) hX6.out rfl
    have y7 := blk_cell (j := 7) (v := .int .i64 q.size) hX6.out rfl
    have y8 := blk_cell (j := 8) (v := .string (bs q.sum)) hX6.out rfl
    have y9 := blk_cell (j := 9) (v := .slice A9 q.data.length c9) hX6.out rfl
    have hen := Lib.hid (encode_no q A9 c9 hok.out hg.out w6 hd6.out)
    unfold Rc.agg at hen
    go_wp2_with fail
    clear y0 y1 y2 y3 y4 y5 y6 y7 y8 y9
    refine hen.out.mono ?_
    rintro e w9 ⟨rfl, hbb⟩
    have hN9 := Lib.hid (blk_below hN6.out hbb)
    have hb9 := Lib.hid (hb6.out.trans (hbb.mono hb6.out.size))
    clear hbb hen
    have z0 := blk_cell (j := 0) (v := .int .i64 0) hN9.out rfl
    have f0 := blk_free hN9.out 0
    have z1 := blk_cell (j := 1) (v := .int .i64 0) hN9.out rfl
    have f1 := blk_free hN9.out 1
    have z2 := blk_cell (j := 2) (v := .string ⟨#[]⟩) hN9.out rfl
    have f2 := blk_free hN9.out 2
    have z3 := blk_cell (j := 3) (v := .int .i64 0) hN9.out rfl
    have f3 := blk_free hN9.out 3
    have z4 := blk_cell (j := 4) (v := .int .i64 0) hN9.out rfl
    have f4 := blk_free hN9.out 4
    have z5 := blk_cell (j := 5) (v := .int .i64 0) hN9.out rfl
    have f5 := blk_free hN9.out 5
    have z6 := blk_cell (j := 6) (v := .int .i64 0) hN9.out rfl
    have f6 := blk_free hN9.out 6
    have z7 := blk_cell (j := 7) (v := .int .i64 0) hN9.out rfl
    have f7 := blk_free hN9.out 7
    have z8 := blk_cell (j := 8) (v := .string ⟨#[]⟩) hN9.out rfl
    have f8 := blk_free hN9.out 8
    have z9 := blk_cell (j := 9) (v := .slice none 0 0) hN9.out rfl
    have f9 := blk_free hN9.out 9
    go_wp2_with fail
    have hz := blk_set10 hN9.out (.int .i64 0) (.int .i64 0) (.string ⟨#[]⟩) (.int .i64 0) (.int .i64 0) (.int .i64 0) (.int .i64 0) (.int .i64 0) (.string ⟨#[]⟩) (.slice none 0 0)
    have hbz := setLo10 hb9.out (Nat.le_refl w.heap.size) (.int .i64 0) (.int .i64 0) (.string ⟨#[]⟩) (.int .i64 0) (.int .i64 0) (.int .i64 0) (.int .i64 0) (.int .i64 0) (.string ⟨#[]⟩) (.slice none 0 0)
    obtain ⟨w10, hw10⟩ : ∃ w10, ((((((((((w9.setCell ⟨w.heap.size, 0, none⟩ (.int .i64 0)).setCell ⟨w.heap.size, 1, none⟩ (.int .i64 0)).setCell ⟨w.heap.size, 2, none⟩ (.string ⟨#[]⟩)).setCell ⟨w.heap.size, 3, none⟩ (.int .i64 0)).setCell ⟨w.heap.size, 4, none⟩ (.int .i64 0)).setCell ⟨w.heap.size, 5, none⟩ (.int .i64 0)).setCell ⟨w.heap.size, 6, none⟩ (.int .i64 0)).setCell ⟨w.heap.size, 7, none⟩ (.int .i64 0)).setCell ⟨w.heap.size, 8, none⟩ (.string ⟨#[]⟩)).setCell ⟨w.heap.size, 9, none⟩ (.slice none 0 0)) = w10 := ⟨_, rfl⟩
    rw [hw10] at hz hbz ⊢
    have r0 := blk_cell (j := 0) (v := .int .i64 0) hz rfl
    have r1 := blk_cell (j := 1) (v := .int .i64 0) hz rfl
    have r2 := blk_cell (j := 2) (v := .string ⟨#[]⟩) hz rfl
    have r3 := blk_cell (j := 3) (v := .int .i64 0) hz rfl
    have r4 := blk_cell (j := 4) (v := .int .i64 0) hz rfl
    have r5 := blk_cell (j := 5) (v := .int .i64 0) hz rfl
    have r6 := blk_cell (j := 6) (v := .int .i64 0) hz rfl
    have r7 := blk_cell (j := 7) (v := .int .i64 0) hz rfl
    have r8 := blk_cell (j := 8) (v := .string ⟨#[]⟩) hz rfl
    have r9 := blk_cell (j := 9) (v := .slice none 0 0) hz rfl
    exact bodyPost_ret (v := .tuple #[(.agg #[.int .i64 0, .int .i64 0, .string ⟨#[]⟩, .int .i64 0, .int .i64 0, .int .i64 0, .int .i64 0, .int .i64 0, .string ⟨#[]⟩, .slice none 0 0]), .int .i64 12]) (by simp [results, Try.results25, go_sem, r0, r1, r2, r3, r4, r5, r6, r7, r8, r9]) rfl ⟨rfl, hbz⟩

end Go.Proofs.Ytdgkcgiknfjpjaa
