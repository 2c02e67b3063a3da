/- The reference's Decode of a note. -/
import Derived.Test.YtgdbbjijneidaaaJr4
import Derived.Test.YtgdbbjijneidaaaJr3
import Derived.Test.YtgdbbjijneidaaaWordRef3
namespace Go.Proofs.Ytgdbbjijneidaaa
set_option linter.unusedVariables false
set_option linter.unusedSimpArgs false
open Go Go.RowKit
set_option maxRecDepth 4000 in
theorem tob_big (w : World) (m : List UInt8) (hm : m.length ≤ 140737488355328) : ∃ c w', (convert 9 22 (.string (bs m))).run Try.prog w = .ok (.slice (some ⟨w.heap.size, 0, none⟩) m.length c) w' ∧
    Byt m (.slice (some ⟨w.heap.size, 0, none⟩) m.length c) w' ∧ Gr w w' ∧ ∃ cs fr, w'.heap[w.heap.size]? = some (.cells cs 5 fr) := by
  have h := run_bytes_of_string (P := Try.prog) w 9 22 5 (bs m) Try.underlying9 Try.underlying22 Try.underlying5
  rw [bs_size] at h
  refine ⟨_, _, h, ⟨_, _, rfl, grownCap_ge _ _ _ _, grownCap_le_maxLen _ _ _ _ (by simp only [maxLen]; omega), by simp, fun _ => ⟨_, rfl, by simp, fun j u hu => ?_⟩⟩, (Below.refl w.heap.size w).drew.alloc (Nat.le_refl _) _, _, _, heap_alloc_new w.drew _⟩
  have hj : j < m.length := by
    have := (List.getElem?_eq_some_iff.mp hu).1
    simpa using this
  rw [List.getElem?_map, List.getElem?_eq_getElem hj] at hu
  injection hu with hu
  have hadd : (⟨w.heap.size, 0, none⟩ : Addr).add j = ⟨w.heap.size, j, none⟩ := by unfold Addr.add; split <;> simp_all
  have hblk : ∀ o : Obj, (w.drew.alloc o).heap[w.heap.size]? = some o := fun o => heap_alloc_new w.drew o
  rw [hadd, cell_of_row _ _ j _ _ _ (hblk _), bytesRow_at (bs m) _ j (by simpa [bs] using hj), ← hu]
  simp [bs, vb, U]
theorem rtext_len (st : RS) (most : Int) (h : RL st) : (rtext st most).1.length ≤ 140737488355328 := by
  unfold rtext
  split
  · simp
  · rename_i n l hq
    have h2 : l.length ≤ 140737488355328 := h.get most l (by rw [hq])
    split
    · simp only [List.length_take]; omega
    · simp
/-- a place in bytes, or none: what is left there -/
def At (b : List UInt8) (st : RS) (a : Int) : Prop := (st = none ∧ a = -1) ∨ ∃ q : Nat, a = (q : Int) ∧ q ≤ b.length ∧ st = some (b.drop q)
theorem At.rl {b : List UInt8} {st : RS} {a : Int} (h : At b st a) (hl : b.length ≤ 140737488355328) : RL st := by
  rcases h with ⟨rfl, -⟩ | ⟨q, -, hq, rfl⟩
  · intro l e; cases e
  · intro l e
    injection e with e
    subst e
    rw [List.length_drop]
    omega
set_option maxRecDepth 10000 in
theorem number_r (b : List UInt8) (v : Value) (hl : b.length ≤ 140737488355328) (st : RS) (a : Int) (ha : At b st a) (x : Int) (s : RS) (hx : rget st 4611686018427387904 = (x, s)) (w : World) (h : Byt b v w) :
    Calls Try.prog 53 #[v, .int .i64 a] w fun e w' => ∃ a', e = .returned (.tuple #[.int .i64 x, .int .i64 a']) ∧ At b s a' ∧ 0 ≤ x ∧ x ≤ 4611686018427387904 ∧ w' = w := by
  have hxb := rget_le st 4611686018427387904 (by decide)
  rw [hx] at hxb
  obtain ⟨A, c, rfl, hc, -, hR⟩ := h
  obtain ⟨k, hk⟩ : ∃ k, b.length = k := ⟨_, rfl⟩
  rw [hk] at hc hl ⊢
  rcases ha with ⟨rfl, rfl⟩ | ⟨q, rfl, hq, rfl⟩
  · injection hx with h1 h2
    subst h1
    subst h2
    clear hR
    go_enter Try.func53, Try.ntmps53
    go_wp2_with fail
    go_ret2
    first
      | exact ⟨-1, rfl, .inl ⟨rfl, rfl⟩, hxb.1, hxb.2, rfl⟩
      | exact ⟨-1, rfl, .inl ⟨rfl, rfl⟩, rfl⟩
  · rw [hk] at hq
    have hn := rnum_any A k c b hk hl q hq 4611686018427387904 w hR
    rcases rnum_cases b q 4611686018427387904 (by omega) with ⟨e1, e2⟩ | ⟨m, q', e1, hq', hm, e2⟩
    · rw [e1] at hn
      rw [e2] at hx
      injection hx with h1 h2
      subst h1
      subst h2
      replace hn := Lib.hid hn
      clear e1 e2 hR
      have hd : decide ((q : Int) < 0) = false := decide_eq_false (by omega)
      go_enter Try.func53, Try.ntmps53
      go_wp2_with fail
      refine hn.out.mono ?_
      rintro e w' ⟨rfl, rfl⟩
      go_wp2_with fail
      go_ret2
      exact ⟨-1, rfl, .inl ⟨rfl, rfl⟩, by omega, by omega, rfl⟩
    · rw [e1] at hn
      rw [e2] at hx
      injection hx with h1 h2
      subst h1
      subst h2
      replace hn := Lib.hid hn
      clear e1 e2 hR
      have hd : decide ((q : Int) < 0) = false := decide_eq_false (by omega)
      go_enter Try.func53, Try.ntmps53
      go_wp2_with fail
      refine hn.out.mono ?_
      rintro e w' ⟨rfl, rfl⟩
      go_wp2_with fail
      go_ret2
      exact ⟨(q' : Int), rfl, .inr ⟨q', rfl, hq', rfl⟩, hxb.1, hxb.2, rfl⟩
set_option maxRecDepth 10000 in
theorem rtextR_r (b : List UInt8) (v : Value) (hl : b.length ≤ 140737488355328) (st : RS) (a : Int) (ha : At b st a) (x : List UInt8) (s : RS) (hx : rtext st 4611686018427387904 = (x, s)) (w : World) (h : Byt b v w) :
    Calls Try.prog 54 #[v, .int .i64 a] w fun e w' => ∃ a', e = .returned (.tuple #[.string (bs x), .int .i64 a']) ∧ At b s a' ∧ x.length ≤ 140737488355328 ∧ w' = w := by
  have hrl := ha.rl hl
  have hxb : x.length ≤ 140737488355328 := by
    have h1 := rtext_len st 4611686018427387904 hrl
    rw [hx] at h1
    exact h1
  obtain ⟨A, c, rfl, hc, -, hR⟩ := h
  obtain ⟨k, hk⟩ : ∃ k, b.length = k := ⟨_, rfl⟩
  rw [hk] at hc hl ⊢
  rcases ha with ⟨rfl, rfl⟩ | ⟨q, rfl, hq, rfl⟩
  · injection hx with h1 h2
    subst h1
    subst h2
    clear hR
    go_enter Try.func54, Try.ntmps54
    go_wp2_with fail
    go_ret2
    exact ⟨-1, rfl, .inl ⟨rfl, rfl⟩, hxb, rfl⟩
  · rw [hk] at hq
    have hn := Lib.hid (rword_any A k c b hk hl hc q hq 4611686018427387904 w hR)
    clear hR
    have hd : decide ((q : Int) < 0) = false := decide_eq_false (by omega)
    replace hx := Lib.hid hx
    go_enter Try.func54, Try.ntmps54
    go_wp2_with fail
    refine hn.out.mono ?_
    rintro e w' ⟨⟨s', p, rfl, hc2⟩, rfl⟩
    obtain ⟨hsx, hatp⟩ : s' = x ∧ At b s p := (by
      have hx' := hx.out
      rcases hc2 with ⟨rfl, rfl, e2⟩ | ⟨q', rfl, hq', e2⟩
      · rw [e2] at hx'
        injection hx' with h1 h2
        exact ⟨h1, .inl ⟨h2.symm, rfl⟩⟩
      · rw [e2] at hx'
        injection hx' with h1 h2
        exact ⟨h1, .inr ⟨q', rfl, by omega, h2.symm⟩⟩)
    clear hc2
    subst hsx
    go_wp2_with fail
    go_ret2
    exact ⟨p, rfl, hatp, hxb, rfl⟩
set_option maxHeartbeats 8000000 in
set_option maxRecDepth 20000 in
theorem rdecode_any (b : List UInt8) (v : Value) (hl : b.length ≤ 140737488355328) (w : World) (h : Byt b v w) :
    Calls Try.prog 18 #[v] w fun e w' => DecAns w.heap.size (decN b) e w' ∧ Gr w w' := by
  have hy := Lib.hid h
  obtain ⟨A, c, rfl, -, -, -⟩ := h
  obtain ⟨nb, hnb⟩ : ∃ nb, b.length = nb := ⟨_, rfl⟩
  rw [hnb] at hl hy ⊢
  have hlb : b.length ≤ 140737488355328 := by omega
  obtain ⟨k1, s1, e1⟩ : ∃ x s, rget (some b) 4611686018427387904 = (x, s) := ⟨_, _, rfl⟩
  obtain ⟨k2, s2, e2⟩ : ∃ x s, rtext s1 4611686018427387904 = (x, s) := ⟨_, _, rfl⟩
  obtain ⟨k3, s3, e3⟩ : ∃ x s, rget s2 4611686018427387904 = (x, s) := ⟨_, _, rfl⟩
  obtain ⟨k4, s4, e4⟩ : ∃ x s, rget s3 4611686018427387904 = (x, s) := ⟨_, _, rfl⟩
  obtain ⟨k5, s5, e5⟩ : ∃ x s, rtext s4 4611686018427387904 = (x, s) := ⟨_, _, rfl⟩
  obtain ⟨k6, s6, e6⟩ : ∃ x s, rtext s5 4611686018427387904 = (x, s) := ⟨_, _, rfl⟩
  obtain ⟨k7, s7, e7⟩ : ∃ x s, rget s6 4611686018427387904 = (x, s) := ⟨_, _, rfl⟩
  obtain ⟨k8, s8, e8⟩ : ∃ x s, rget s7 4611686018427387904 = (x, s) := ⟨_, _, rfl⟩
  have hk8 := rget_le s7 4611686018427387904 (by decide)
  rw [e8] at hk8
  obtain ⟨q, rfl⟩ : ∃ q : Nat, k8 = (q : Int) := ⟨k8.toNat, by have := hk8.1; omega⟩
  have hq62 : q ≤ 4611686018427387904 := by have := hk8.2; omega
  clear hk8
  have hdec : Hid (decN b = if (rend (plS 4611686018427387904 4611686018427387904 q s8).2 && goodN ⟨k1, k2, k3, k4, k5, k6, k7, (plS 4611686018427387904 4611686018427387904 q s8).1⟩) = true then some ⟨k1, k2, k3, k4, k5, k6, k7, (plS 4611686018427387904 4611686018427387904 q s8).1⟩ else none) := Lib.hid (by
    rw [← decL_eq limR_ok b]
    have f1 : d1 limR b = (k1, s1) := e1
    have f2 : d2 limR b = (k2, s2) := by unfold d2; rw [f1]; exact e2
    have f3 : d3 limR b = (k3, s3) := by unfold d3; rw [f2]; exact e3
    have f4 : d4 limR b = (k4, s4) := by unfold d4; rw [f3]; exact e4
    have f5 : d5 limR b = (k5, s5) := by unfold d5; rw [f4]; exact e5
    have f6 : d6 limR b = (k6, s6) := by unfold d6; rw [f5]; exact e6
    have f7 : d7 limR b = (k7, s7) := by unfold d7; rw [f6]; exact e7
    have f8 : d8 limR b = ((q : Int), s8) := by unfold d8; rw [f7]; exact e8
    have f9 : d9 limR b = plS 4611686018427387904 4611686018427387904 q s8 := by unfold d9; rw [f8]; rfl
    unfold decL decR
    rw [f1, f2, f3, f4, f5, f6, f7, f9])
  obtain ⟨N, hN⟩ : ∃ N, w.heap.size = N := ⟨_, rfl⟩
  have hz0 := heap_alloc_new w (.cells #[.int .i64 0, .string ⟨#[]⟩, .int .i64 0, .int .i64 0, .slice none 0 0, .string ⟨#[]⟩, .int .i64 0, .slice none 0 0] 25)
  have hsz : (w.alloc (.cells #[.int .i64 0, .string ⟨#[]⟩, .int .i64 0, .int .i64 0, .slice none 0 0, .string ⟨#[]⟩, .int .i64 0, .slice none 0 0] 25)).heap.size = N + 1 := by rw [← hN]; simp
  have hg0 := Gr.alloc w (.cells #[.int .i64 0, .string ⟨#[]⟩, .int .i64 0, .int .i64 0, .slice none 0 0, .string ⟨#[]⟩, .int .i64 0, .slice none 0 0] 25)
  have hm0 := heap_alloc_new (w.alloc (.cells #[.int .i64 0, .string ⟨#[]⟩, .int .i64 0, .int .i64 0, .slice none 0 0, .string ⟨#[]⟩, .int .i64 0, .slice none 0 0] 25)) (.cells #[.int .i64 0, .string ⟨#[]⟩, .int .i64 0, .int .i64 0, .slice none 0 0, .string ⟨#[]⟩, .int .i64 0, .slice none 0 0] 25)
  have hg1 := Gr.alloc (w.alloc (.cells #[.int .i64 0, .string ⟨#[]⟩, .int .i64 0, .int .i64 0, .slice none 0 0, .string ⟨#[]⟩, .int .i64 0, .slice none 0 0] 25)) (.cells #[.int .i64 0, .string ⟨#[]⟩, .int .i64 0, .int .i64 0, .slice none 0 0, .string ⟨#[]⟩, .int .i64 0, .slice none 0 0] 25)
  have hz := blk_below hz0 hg1
  have hb0 := hg0.trans hg1
  rw [hN] at hz
  rw [hsz] at hm0
  have hs2 : N + 2 ≤ ((w.alloc (.cells #[.int .i64 0, .string ⟨#[]⟩, .int .i64 0, .int .i64 0, .slice none 0 0, .string ⟨#[]⟩, .int .i64 0, .slice none 0 0] 25)).alloc (.cells #[.int .i64 0, .string ⟨#[]⟩, .int .i64 0, .int .i64 0, .slice none 0 0, .string ⟨#[]⟩, .int .i64 0, .slice none 0 0] 25)).heap.size := by simp only [World.alloc, Array.size_push]; simp only [World.alloc, Array.size_push] at hsz; omega
  obtain ⟨w1, hw1⟩ : ∃ w1, (w.alloc (.cells #[.int .i64 0, .string ⟨#[]⟩, .int .i64 0, .int .i64 0, .slice none 0 0, .string ⟨#[]⟩, .int .i64 0, .slice none 0 0] 25)).alloc (.cells #[.int .i64 0, .string ⟨#[]⟩, .int .i64 0, .int .i64 0, .slice none 0 0, .string ⟨#[]⟩, .int .i64 0, .slice none 0 0] 25) = w1 := ⟨_, rfl⟩
  rw [hw1] at hz hm0 hb0 hs2
  have hb : Hid (Below N w w1) := Lib.hid (by unfold Gr at hb0; rw [hN] at hb0; exact hb0)
  have hm := Lib.hid hm0
  replace hz := Lib.hid hz
  have ha0 : At b (some b) 0 := .inr ⟨0, rfl, Nat.zero_le _, rfl⟩
  have hyA : Hid (∀ w', Below N w w' → Byt b (.slice A nb c) w') := Lib.hid (fun w' hw' => (Byt.gr (w := w) (by unfold Gr; rw [hN]; exact hw') hy).out)
  clear hz0 hg0 hg1 hb0 hm0 hsz hy
  replace hN := Lib.hid hN
  replace hw1 := Lib.hid hw1
  replace hnb := Lib.hid hnb
  replace e1 := Lib.hid e1
  replace e2 := Lib.hid e2
  replace e3 := Lib.hid e3
  replace e4 := Lib.hid e4
  replace e5 := Lib.hid e5
  replace e6 := Lib.hid e6
  replace e7 := Lib.hid e7
  replace e8 := Lib.hid e8
  go_enter Try.func18, Try.ntmps18
  go_wp2_with fail
  rw [hN.out, hw1.out]
  clear hw1
  have c0 := blk_cell (j := 0) (v := .int .i64 0) hm.out rfl
  have f0 := blk_free hm.out 0
  refine (number_r b _ hlb _ _ ha0 k1 s1 e1.out _ (hyA.out _ hb.out)).mono ?_
  rintro e w' ⟨a1, rfl, ha1, b1, b1', rfl⟩
  go_wp2_with fail
  clear c0 f0
  have hm' := blk_set hm.out 0 (.int .i64 k1)
  have hb' := hb.out.setCell (p := ⟨N + 1, 0, none⟩) (show N ≤ N + 1 by omega) (.int .i64 k1)
  have hz' := (blk_other (w := w') (g := N + 1) (k := N) (by omega) 0 (.int .i64 k1)).trans hz.out
  have hs2' : N + 2 ≤ (w'.setCell ⟨N + 1, 0, none⟩ (.int .i64 k1)).heap.size := by simpa [World.setCell] using hs2
  obtain ⟨w2, hw2⟩ : ∃ x, w'.setCell ⟨N + 1, 0, none⟩ (.int .i64 k1) = x := ⟨_, rfl⟩
  rw [hw2] at hm' hb' hz' hs2' ⊢
  replace hm : Hid (w2.heap[N + 1]? = some (.cells #[.int .i64 k1, .string ⟨#[]⟩, .int .i64 0, .int .i64 0, .slice none 0 0, .string ⟨#[]⟩, .int .i64 0, .slice none 0 0] 25 (0, 0))) := Lib.hid (by simpa using hm')
  replace hb := Lib.hid hb'
  replace hz := Lib.hid hz'
  replace hs2 := hs2'
  clear hm' hb' hz' hs2' hw2
  have c1 := blk_cell (j := 1) (v := .string ⟨#[]⟩) hm.out rfl
  have f1 := blk_free hm.out 1
  refine (rtextR_r b _ hlb _ _ ha1 k2 s2 e2.out _ (hyA.out _ hb.out)).mono ?_
  rintro e w' ⟨a2, rfl, ha2, b2, rfl⟩
  go_wp2_with fail
  clear c1 f1
  have hm' := blk_set hm.out 1 (.string (bs k2))
  have hb' := hb.out.setCell (p := ⟨N + 1, 1, none⟩) (show N ≤ N + 1 by omega) (.string (bs k2))
  have hz' := (blk_other (w := w') (g := N + 1) (k := N) (by omega) 1 (.string (bs k2))).trans hz.out
  have hs2' : N + 2 ≤ (w'.setCell ⟨N + 1, 1, none⟩ (.string (bs k2))).heap.size := by simpa [World.setCell] using hs2
  obtain ⟨w3, hw3⟩ : ∃ x, w'.setCell ⟨N + 1, 1, none⟩ (.string (bs k2)) = x := ⟨_, rfl⟩
  rw [hw3] at hm' hb' hz' hs2' ⊢
  replace hm : Hid (w3.heap[N + 1]? = some (.cells #[.int .i64 k1, .string (bs k2), .int .i64 0, .int .i64 0, .slice none 0 0, .string ⟨#[]⟩, .int .i64 0, .slice none 0 0] 25 (0, 0))) := Lib.hid (by simpa using hm')
  replace hb := Lib.hid hb'
  replace hz := Lib.hid hz'
  replace hs2 := hs2'
  clear hm' hb' hz' hs2' hw3
  clear ha1
  have c2 := blk_cell (j := 2) (v := .int .i64 0) hm.out rfl
  have f2 := blk_free hm.out 2
  refine (number_r b _ hlb _ _ ha2 k3 s3 e3.out _ (hyA.out _ hb.out)).mono ?_
  rintro e w' ⟨a3, rfl, ha3, b3, b3', rfl⟩
  go_wp2_with fail
  clear c2 f2
  have hm' := blk_set hm.out 2 (.int .i64 k3)
  have hb' := hb.out.setCell (p := ⟨N + 1, 2, none⟩) (show N ≤ N + 1 by omega) (.int .i64 k3)
  have hz' := (blk_other (w := w') (g := N + 1) (k := N) (by omega) 2 (.int .i64 k3)).trans hz.out
  have hs2' : N + 2 ≤ (w'.setCell ⟨N + 1, 2, none⟩ (.int .i64 k3)).heap.size := by simpa [World.setCell] using hs2
  obtain ⟨w4, hw4⟩ : ∃ x, w'.setCell ⟨N + 1, 2, none⟩ (.int .i64 k3) = x := ⟨_, rfl⟩
  rw [hw4] at hm' hb' hz' hs2' ⊢
  replace hm : Hid (w4.heap[N + 1]? = some (.cells #[.int .i64 k1, .string (bs k2), .int .i64 k3, .int .i64 0, .slice none 0 0, .string ⟨#[]⟩, .int .i64 0, .slice none 0 0] 25 (0, 0))) := Lib.hid (by simpa using hm')
  replace hb := Lib.hid hb'
  replace hz := Lib.hid hz'
  replace hs2 := hs2'
  clear hm' hb' hz' hs2' hw4
  clear ha2
  have c3 := blk_cell (j := 3) (v := .int .i64 0) hm.out rfl
  have f3 := blk_free hm.out 3
  refine (number_r b _ hlb _ _ ha3 k4 s4 e4.out _ (hyA.out _ hb.out)).mono ?_
  rintro e w' ⟨a4, rfl, ha4, b4, b4', rfl⟩
  go_wp2_with fail
  clear c3 f3
  have hm' := blk_set hm.out 3 (.int .i64 k4)
  have hb' := hb.out.setCell (p := ⟨N + 1, 3, none⟩) (show N ≤ N + 1 by omega) (.int .i64 k4)
  have hz' := (blk_other (w := w') (g := N + 1) (k := N) (by omega) 3 (.int .i64 k4)).trans hz.out
  have hs2' : N + 2 ≤ (w'.setCell ⟨N + 1, 3, none⟩ (.int .i64 k4)).heap.size := by simpa [World.setCell] using hs2
  obtain ⟨w5, hw5⟩ : ∃ x, w'.setCell ⟨N + 1, 3, none⟩ (.int .i64 k4) = x := ⟨_, rfl⟩
  rw [hw5] at hm' hb' hz' hs2' ⊢
  replace hm : Hid (w5.heap[N + 1]? = some (.cells #[.int .i64 k1, .string (bs k2), .int .i64 k3, .int .i64 k4, .slice none 0 0, .string ⟨#[]⟩, .int .i64 0, .slice none 0 0] 25 (0, 0))) := Lib.hid (by simpa using hm')
  replace hb := Lib.hid hb'
  replace hz := Lib.hid hz'
  replace hs2 := hs2'
  clear hm' hb' hz' hs2' hw5
  clear ha3
  refine (rtextR_r b _ hlb _ _ ha4 k5 s5 e5.out _ (hyA.out _ hb.out)).mono ?_
  rintro e w' ⟨a5, rfl, ha5, b5, rfl⟩
  go_wp2_with fail
  clear ha4
  have c5 := blk_cell (j := 5) (v := .string ⟨#[]⟩) hm.out rfl
  have f5 := blk_free hm.out 5
  refine (rtextR_r b _ hlb _ _ ha5 k6 s6 e6.out _ (hyA.out _ hb.out)).mono ?_
  rintro e w' ⟨a6, rfl, ha6, b6, rfl⟩
  go_wp2_with fail
  clear c5 f5
  have hm' := blk_set hm.out 5 (.string (bs k6))
  have hb' := hb.out.setCell (p := ⟨N + 1, 5, none⟩) (show N ≤ N + 1 by omega) (.string (bs k6))
  have hz' := (blk_other (w := w') (g := N + 1) (k := N) (by omega) 5 (.string (bs k6))).trans hz.out
  have hs2' : N + 2 ≤ (w'.setCell ⟨N + 1, 5, none⟩ (.string (bs k6))).heap.size := by simpa [World.setCell] using hs2
  obtain ⟨w7, hw7⟩ : ∃ x, w'.setCell ⟨N + 1, 5, none⟩ (.string (bs k6)) = x := ⟨_, rfl⟩
  rw [hw7] at hm' hb' hz' hs2' ⊢
  replace hm : Hid (w7.heap[N + 1]? = some (.cells #[.int .i64 k1, .string (bs k2), .int .i64 k3, .int .i64 k4, .slice none 0 0, .string (bs k6), .int .i64 0, .slice none 0 0] 25 (0, 0))) := Lib.hid (by simpa using hm')
  replace hb := Lib.hid hb'
  replace hz := Lib.hid hz'
  replace hs2 := hs2'
  clear hm' hb' hz' hs2' hw7
  clear ha5
  have c6 := blk_cell (j := 6) (v := .int .i64 0) hm.out rfl
  have f6 := blk_free hm.out 6
  refine (number_r b _ hlb _ _ ha6 k7 s7 e7.out _ (hyA.out _ hb.out)).mono ?_
  rintro e w' ⟨a7, rfl, ha7, b7, b7', rfl⟩
  go_wp2_with fail
  clear c6 f6
  have hm' := blk_set hm.out 6 (.int .i64 k7)
  have hb' := hb.out.setCell (p := ⟨N + 1, 6, none⟩) (show N ≤ N + 1 by omega) (.int .i64 k7)
  have hz' := (blk_other (w := w') (g := N + 1) (k := N) (by omega) 6 (.int .i64 k7)).trans hz.out
  have hs2' : N + 2 ≤ (w'.setCell ⟨N + 1, 6, none⟩ (.int .i64 k7)).heap.size := by simpa [World.setCell] using hs2
  obtain ⟨w8, hw8⟩ : ∃ x, w'.setCell ⟨N + 1, 6, none⟩ (.int .i64 k7) = x := ⟨_, rfl⟩
  rw [hw8] at hm' hb' hz' hs2' ⊢
  replace hm : Hid (w8.heap[N + 1]? = some (.cells #[.int .i64 k1, .string (bs k2), .int .i64 k3, .int .i64 k4, .slice none 0 0, .string (bs k6), .int .i64 k7, .slice none 0 0] 25 (0, 0))) := Lib.hid (by simpa using hm')
  replace hb := Lib.hid hb'
  replace hz := Lib.hid hz'
  replace hs2 := hs2'
  clear hm' hb' hz' hs2' hw8
  clear ha6
  refine (number_r b _ hlb _ _ ha7 (q : Int) s8 e8.out _ (hyA.out _ hb.out)).mono ?_
  rintro e w' ⟨a8, rfl, ha8, b8, b8', rfl⟩
  clear ha7
  clear ha0 e1 e2 e3 e4 e5 e6 e7 e8 b1 b1' b2 b3 b3' b4 b4' b6 b7 b7' b8 b8'
  by_cases hbad : a8 < 0 ∨ 40 < q
  · have hdn : decN b = none := by
      rw [hdec.out]
      rcases hbad with hneg | hmany
      · rcases ha8 with ⟨rfl, -⟩ | ⟨q8, rfl, -, -⟩
        · rw [plS_none]; rfl
        · omega
      · have hlen := plS_length 4611686018427387904 4611686018427387904 q s8
        have hgf : goodN ⟨k1, k2, k3, k4, k5, k6, k7, (plS 4611686018427387904 4611686018427387904 q s8).1⟩ = false := by
          cases hg : goodN ⟨k1, k2, k3, k4, k5, k6, k7, (plS 4611686018427387904 4611686018427387904 q s8).1⟩ with
          | false => rfl
          | true =>
            have := ((good_iff _).1 hg).many
            simp only at this
            omega
        rw [hgf, Bool.and_false]
        rfl
    replace hdec := Lib.hid hdn
    clear ha8 hm
    have hbad' : (a8 < 0) ∨ (¬ a8 < 0 ∧ (40 : Int) < (q : Int)) := by omega
    rcases hbad' with hneg | ⟨hneg, hmany⟩
    · have hd0 : decide (a8 < 0) = true := decide_eq_true hneg
      go_upto_region 13 with (fail)
      have z0 := blk_cell (j := 0) (v := .int .i64 0) hz.out rfl
      have zf0 := blk_free hz.out 0
      have z1 := blk_cell (j := 1) (v := .string ⟨#[]⟩) hz.out rfl
      have zf1 := blk_free hz.out 1
      have z2 := blk_cell (j := 2) (v := .int .i64 0) hz.out rfl
      have zf2 := blk_free hz.out 2
      have z3 := blk_cell (j := 3) (v := .int .i64 0) hz.out rfl
      have zf3 := blk_free hz.out 3
      have z4 := blk_cell (j := 4) (v := .slice none 0 0) hz.out rfl
      have zf4 := blk_free hz.out 4
      have z5 := blk_cell (j := 5) (v := .string ⟨#[]⟩) hz.out rfl
      have zf5 := blk_free hz.out 5
      have z6 := blk_cell (j := 6) (v := .int .i64 0) hz.out rfl
      have zf6 := blk_free hz.out 6
      have z7 := blk_cell (j := 7) (v := .slice none 0 0) hz.out rfl
      have zf7 := blk_free hz.out 7
      go_wp2_with fail
      obtain ⟨hs, hbs, hot, hss⟩ := set8 hz.out (.int .i64 0) (.string ⟨#[]⟩) (.int .i64 0) (.int .i64 0) (.slice none 0 0) (.string ⟨#[]⟩) (.int .i64 0) (.slice none 0 0)
      obtain ⟨wf, hwf⟩ : ∃ wf, ((((((((w'.setCell ⟨N, 0, none⟩ (.int .i64 0)).setCell ⟨N, 1, none⟩ (.string ⟨#[]⟩)).setCell ⟨N, 2, none⟩ (.int .i64 0)).setCell ⟨N, 3, none⟩ (.int .i64 0)).setCell ⟨N, 4, none⟩ (.slice none 0 0)).setCell ⟨N, 5, none⟩ (.string ⟨#[]⟩)).setCell ⟨N, 6, none⟩ (.int .i64 0)).setCell ⟨N, 7, none⟩ (.slice none 0 0)) = wf := ⟨_, rfl⟩
      rw [hwf] at hs hbs hot hss ⊢
      have r0 := blk_cell (j := 0) (v := .int .i64 0) hs rfl
      have r1 := blk_cell (j := 1) (v := .string ⟨#[]⟩) hs rfl
      have r2 := blk_cell (j := 2) (v := .int .i64 0) hs rfl
      have r3 := blk_cell (j := 3) (v := .int .i64 0) hs rfl
      have r4 := blk_cell (j := 4) (v := .slice none 0 0) hs rfl
      have r5 := blk_cell (j := 5) (v := .string ⟨#[]⟩) hs rfl
      have r6 := blk_cell (j := 6) (v := .int .i64 0) hs rfl
      have r7 := blk_cell (j := 7) (v := .slice none 0 0) hs rfl
      exact bodyPost_ret (v := .tuple #[.agg #[.int .i64 0, .string ⟨#[]⟩, .int .i64 0, .int .i64 0, .slice none 0 0, .string ⟨#[]⟩, .int .i64 0, .slice none 0 0], .int .i64 12]) (by simp [results, Try.results18, go_sem, r0, r1, r2, r3, r4, r5, r6, r7]) rfl ⟨by rw [hdec.out]; rfl, by unfold Gr; rw [hN.out]; exact hb.out.trans hbs⟩
    · have hd0 : decide (a8 < 0) = false := decide_eq_false hneg
      have hd1 : decide ((40 : Int) < (q : Int)) = true := decide_eq_true hmany
      go_upto_region 13 with (fail)
      have z0 := blk_cell (j := 0) (v := .int .i64 0) hz.out rfl
      have zf0 := blk_free hz.out 0
      have z1 := blk_cell (j := 1) (v := .string ⟨#[]⟩) hz.out rfl
      have zf1 := blk_free hz.out 1
      have z2 := blk_cell (j := 2) (v := .int .i64 0) hz.out rfl
      have zf2 := blk_free hz.out 2
      have z3 := blk_cell (j := 3) (v := .int .i64 0) hz.out rfl
      have zf3 := blk_free hz.out 3
      have z4 := blk_cell (j := 4) (v := .slice none 0 0) hz.out rfl
      have zf4 := blk_free hz.out 4
      have z5 := blk_cell (j := 5) (v := .string ⟨#[]⟩) hz.out rfl
      have zf5 := blk_free hz.out 5
      have z6 := blk_cell (j := 6) (v := .int .i64 0) hz.out rfl
      have zf6 := blk_free hz.out 6
      have z7 := blk_cell (j := 7) (v := .slice none 0 0) hz.out rfl
      have zf7 := blk_free hz.out 7
      go_wp2_with fail
      obtain ⟨hs, hbs, hot, hss⟩ := set8 hz.out (.int .i64 0) (.string ⟨#[]⟩) (.int .i64 0) (.int .i64 0) (.slice none 0 0) (.string ⟨#[]⟩) (.int .i64 0) (.slice none 0 0)
      obtain ⟨wf, hwf⟩ : ∃ wf, ((((((((w'.setCell ⟨N, 0, none⟩ (.int .i64 0)).setCell ⟨N, 1, none⟩ (.string ⟨#[]⟩)).setCell ⟨N, 2, none⟩ (.int .i64 0)).setCell ⟨N, 3, none⟩ (.int .i64 0)).setCell ⟨N, 4, none⟩ (.slice none 0 0)).setCell ⟨N, 5, none⟩ (.string ⟨#[]⟩)).setCell ⟨N, 6, none⟩ (.int .i64 0)).setCell ⟨N, 7, none⟩ (.slice none 0 0)) = wf := ⟨_, rfl⟩
      rw [hwf] at hs hbs hot hss ⊢
      have r0 := blk_cell (j := 0) (v := .int .i64 0) hs rfl
      have r1 := blk_cell (j := 1) (v := .string ⟨#[]⟩) hs rfl
      have r2 := blk_cell (j := 2) (v := .int .i64 0) hs rfl
      have r3 := blk_cell (j := 3) (v := .int .i64 0) hs rfl
      have r4 := blk_cell (j := 4) (v := .slice none 0 0) hs rfl
      have r5 := blk_cell (j := 5) (v := .string ⟨#[]⟩) hs rfl
      have r6 := blk_cell (j := 6) (v := .int .i64 0) hs rfl
      have r7 := blk_cell (j := 7) (v := .slice none 0 0) hs rfl
      exact bodyPost_ret (v := .tuple #[.agg #[.int .i64 0, .string ⟨#[]⟩, .int .i64 0, .int .i64 0, .slice none 0 0, .string ⟨#[]⟩, .int .i64 0, .slice none 0 0], .int .i64 12]) (by simp [results, Try.results18, go_sem, r0, r1, r2, r3, r4, r5, r6, r7]) rfl ⟨by rw [hdec.out]; rfl, by unfold Gr; rw [hN.out]; exact hb.out.trans hbs⟩
  · have hneg : ¬ a8 < 0 := by omega
    have hmany : ¬ (40 : Int) < (q : Int) := by omega
    have hq40 : q ≤ 40 := by omega
    have hd0 : decide (a8 < 0) = false := decide_eq_false hneg
    have hd1 : decide ((40 : Int) < (q : Int)) = false := decide_eq_false hmany
    replace hbad := Lib.hid hbad
    obtain ⟨dc, w8, hconv, hD, hg8, hDc⟩ := tob_big w' k5 b5
    obtain ⟨dl, hdl⟩ : ∃ dl, k5.length = dl := ⟨_, rfl⟩
    obtain ⟨D, hdA⟩ : ∃ D, w'.heap.size = D := ⟨_, rfl⟩
    rw [hdl, hdA] at hconv hD
    rw [hdA] at hDc hs2
    have hD' : Hid (DB D dl dc k5 w8) := Lib.hid ⟨hDc, hD⟩
    have hm8 := Lib.hid (blk_below hm.out hg8)
    have hz8 := Lib.hid (blk_below hz.out hg8)
    have hb8 := Lib.hid (hb.out.trans (Below.mono hg8 (by omega)))
    have c4 := blk_cell (j := 4) (v := .slice none 0 0) hm8.out rfl
    have f4 := blk_free hm8.out 4
    have hs8 := hg8.size
    replace hdA := Lib.hid hdA
    replace hdl := Lib.hid hdl
    clear hD hDc hg8 hm hz hb
    go_upto_region 16 with (fail)
    have hm9 := blk_set hm8.out 4 (.slice (some ⟨D, 0, none⟩) dl dc)
    have hb9 := hb8.out.setCell (p := ⟨N + 1, 4, none⟩) (show N ≤ N + 1 by omega) (.slice (some ⟨D, 0, none⟩) dl dc)
    have hz9 := (blk_other (w := w8) (g := N + 1) (k := N) (by omega) 4 (.slice (some ⟨D, 0, none⟩) dl dc)).trans hz8.out
    have hD9 := DB.set (M := N + 1) hD' (by omega) 4 (.slice (some ⟨D, 0, none⟩) dl dc)
    have hs9 : N + 2 ≤ (w8.setCell ⟨N + 1, 4, none⟩ (.slice (some ⟨D, 0, none⟩) dl dc)).heap.size := by have := hdA.out; simp only [World.setCell, Array.size_modify]; omega
    (try rw [hdA.out])
    obtain ⟨w9, hw9⟩ : ∃ x, w8.setCell ⟨N + 1, 4, none⟩ (.slice (some ⟨D, 0, none⟩) dl dc) = x := ⟨_, rfl⟩
    rw [hw9] at hm9 hb9 hz9 hD9 hs9 ⊢
    have hm : Hid (w9.heap[N + 1]? = some (.cells #[.int .i64 k1, .string (bs k2), .int .i64 k3, .int .i64 k4, .slice (some ⟨D, 0, none⟩) dl dc, .string (bs k6), .int .i64 k7, .slice none 0 0] 25 (0, 0))) := Lib.hid (by simpa using hm9)
    have hb := Lib.hid hb9
    have hz := Lib.hid hz9
    have hD := hD9
    clear hm9 hb9 hz9 hD9 hw9 c4 f4 hD' hm8 hb8 hz8 hconv hs8 hd0 hd1
    go_loopw [8, 5] (fun i av wr => ∃ (j : Nat) (L : List (Int × Int)) (st : RS) (a : Int) (pA : Option Addr) (pm pc : Nat), i = .int .i64 j ∧ av = .int .i64 a ∧ j ≤ q ∧ At b st a ∧ Hid (plS 4611686018427387904 4611686018427387904 j s8 = (L, st)) ∧ Hid (wr.heap[N + 1]? = some (.cells #[.int .i64 k1, .string (bs k2), .int .i64 k3, .int .i64 k4, .slice (some ⟨D, 0, none⟩) dl dc, .string (bs k6), .int .i64 k7, .slice pA pm pc] 25 (0, 0))) ∧ Hid (wr.heap[N]? = some (.cells #[.int .i64 0, .string ⟨#[]⟩, .int .i64 0, .int .i64 0, .slice none 0 0, .string ⟨#[]⟩, .int .i64 0, .slice none 0 0] 25 (0, 0))) ∧ Hid (Below N w wr) ∧ Hid (DB D dl dc k5 wr) ∧ Hid (OP L (.slice pA pm pc) (N + 2) wr) ∧ N + 2 ≤ wr.heap.size) (fun i _ _ => q - (intOf i).toNat)
    case atStart => exact ⟨0, [], s8, a8, none, 0, 0, rfl, rfl, Nat.zero_le _, ha8, Lib.hid rfl, hm, hz, hb, hD, Lib.hid (OP.nil_ _ _), hs9⟩
    case round =>
      clear hm hz hb hD ha8 hs9
      obtain ⟨j, L, st, a, pA, pm, pc, rfl, rfl, hj, hat, hps, hm, hz, hb, hD, hP, hsr⟩ := hrel
      by_cases hlt : j < q
      · obtain ⟨x1, t1, ex1⟩ : ∃ x s, rget st 4611686018427387904 = (x, s) := ⟨_, _, rfl⟩
        obtain ⟨x2, t2, ex2⟩ : ∃ x s, rget t1 4611686018427387904 = (x, s) := ⟨_, _, rfl⟩
        have hps2 : Hid (plS 4611686018427387904 4611686018427387904 (j + 1) s8 = (L ++ [(x1, x2)], t2)) := Lib.hid (by unfold plS; rw [hps.out]; simp only [ex1, ex2])
        have hLl : L.length = j := by have := plS_length 4611686018427387904 4611686018427387904 j s8; rw [hps.out] at this; exact this
        replace ex1 := Lib.hid ex1
        replace ex2 := Lib.hid ex2
        have hgP := Gr.alloc wr (.cells #[.int .i64 0, .int .i64 0] 85)
        have hcP := heap_alloc_new wr (.cells #[.int .i64 0, .int .i64 0] 85)
        obtain ⟨P, hPs⟩ : ∃ P, wr.heap.size = P := ⟨_, rfl⟩
        rw [hPs] at hcP hsr
        have hDP : D < P := by rw [← hPs]; exact DB.lt hD
        have hOP : ∀ k, (Value.slice pA pm pc).ownBlock = some k → k < P := fun k hk => by rw [← hPs]; exact (World.ownsRow.lt hP.out.1 k hk).2
        have hszP : (wr.alloc (.cells #[.int .i64 0, .int .i64 0] 85)).heap.size = P + 1 := by rw [← hPs]; simp
        replace hm := Lib.hid (blk_below hm.out hgP)
        replace hz := Lib.hid (blk_below hz.out hgP)
        replace hb := Lib.hid (hb.out.trans (Below.mono hgP (by omega)))
        replace hD := DB.gr hgP hD
        replace hP := OP.gr hgP hP
        obtain ⟨wP, hwP⟩ : ∃ x, wr.alloc (.cells #[.int .i64 0, .int .i64 0] 85) = x := ⟨_, rfl⟩
        rw [hwP] at hcP hszP hm hz hb hD hP
        replace hwP := Lib.hid hwP
        replace hPs := Lib.hid hPs
        replace hOP := Lib.hid hOP
        clear hgP
        go_wp2_with fail
        rw [hwP.out, hPs.out]
        clear hwP hPs
        refine (number_r b _ hlb st a hat x1 t1 ex1.out _ (hyA.out _ hb.out)).mono ?_
        rintro e w' ⟨a1, rfl, hat1, p1, p1', rfl⟩
        have c0 := blk_cell (j := 0) (v := .int .i64 0) hcP rfl
        have f0 := blk_free hcP 0
        go_wp2_with fail
        clear c0 f0
        have hcP2 := blk_set hcP 0 (.int .i64 x1)
        replace hm := Lib.hid ((blk_other (w := w') (g := P) (k := N + 1) (by omega) 0 (.int .i64 x1)).trans hm.out)
        replace hz := Lib.hid ((blk_other (w := w') (g := P) (k := N) (by omega) 0 (.int .i64 x1)).trans hz.out)
        replace hb := Lib.hid (hb.out.setCell (p := ⟨P, 0, none⟩) (show N ≤ P by omega) (.int .i64 x1))
        replace hD := DB.set (M := P) hD (by omega) 0 (.int .i64 x1)
        replace hP : Hid (OP L (.slice pA pm pc) (N + 2) (w'.setCell ⟨P, 0, none⟩ (.int .i64 x1))) := Lib.hid ⟨row_set_other hP.out.1 P 0 _ (fun e => by have := hOP.out P e; omega), hP.out.2⟩
        have hszP2 : (w'.setCell ⟨P, 0, none⟩ (.int .i64 x1)).heap.size = P + 1 := by simpa [World.setCell] using hszP
        obtain ⟨w2, hw2⟩ : ∃ x, w'.setCell ⟨P, 0, none⟩ (.int .i64 x1) = x := ⟨_, rfl⟩
        rw [hw2] at hcP2 hm hz hb hD hP hszP2 ⊢
        replace hcP2 : w2.heap[P]? = some (.cells #[.int .i64 x1, .int .i64 0] 85 (0, 0)) := by simpa using hcP2
        clear hcP hw2 hszP
        refine (number_r b _ hlb t1 a1 hat1 x2 t2 ex2.out _ (hyA.out _ hb.out)).mono ?_
        rintro e w'' ⟨a2, rfl, hat2, p2, p2', rfl⟩
        have c1 := blk_cell (j := 1) (v := .int .i64 0) hcP2 rfl
        have f1 := blk_free hcP2 1
        go_upto_region 21 with (fail)
        clear c1 f1
        have hcP3 := blk_set hcP2 1 (.int .i64 x2)
        replace hm := Lib.hid ((blk_other (w := w'') (g := P) (k := N + 1) (by omega) 1 (.int .i64 x2)).trans hm.out)
        replace hz := Lib.hid ((blk_other (w := w'') (g := P) (k := N) (by omega) 1 (.int .i64 x2)).trans hz.out)
        replace hb := Lib.hid (hb.out.setCell (p := ⟨P, 1, none⟩) (show N ≤ P by omega) (.int .i64 x2))
        replace hD := DB.set (M := P) hD (by omega) 1 (.int .i64 x2)
        replace hP : Hid (OP L (.slice pA pm pc) (N + 2) (w''.setCell ⟨P, 1, none⟩ (.int .i64 x2))) := Lib.hid ⟨row_set_other hP.out.1 P 1 _ (fun e => by have := hOP.out P e; omega), hP.out.2⟩
        have hszP3 : (w''.setCell ⟨P, 1, none⟩ (.int .i64 x2)).heap.size = P + 1 := by simpa [World.setCell] using hszP2
        obtain ⟨w3, hw3⟩ : ∃ x, w''.setCell ⟨P, 1, none⟩ (.int .i64 x2) = x := ⟨_, rfl⟩
        rw [hw3] at hcP3 hm hz hb hD hP hszP3 ⊢
        replace hcP3 : w3.heap[P]? = some (.cells #[.int .i64 x1, .int .i64 x2] 85 (0, 0)) := by simpa using hcP3
        clear hcP2 hw3 hszP2
        have y0 := blk_cell (j := 0) (v := .int .i64 x1) hcP3 rfl
        have y1 := blk_cell (j := 1) (v := .int .i64 x2) hcP3 rfl
        have x7 := blk_cell (j := 7) (v := .slice pA pm pc) hm.out rfl
        have hg4 := Gr.alloc w3 (.cells #[.int .i64 x1, .int .i64 x2] 85)
        have hlit : Hid (Pls [(x1, x2)] (.slice (some ⟨w3.heap.size, 0, none⟩) 1 1) (w3.alloc (.cells #[.int .i64 x1, .int .i64 x2] 85))) := Lib.hid (Pls.one w3 (x1, x2) ⟨⟨by simp only; omega, by simp only; omega⟩, ⟨by simp only; omega, by simp only; omega⟩⟩ _)
        replace hm := Lib.hid (blk_below hm.out hg4)
        replace hz := Lib.hid (blk_below hz.out hg4)
        replace hb := Lib.hid (hb.out.trans (Below.mono hg4 (by omega)))
        replace hD := DB.gr hg4 hD
        replace hP := OP.gr hg4 hP
        have hs4 := hg4.size
        replace hcP3 := Lib.hid hcP3
        have hs4' : N + 2 ≤ (w3.alloc (.cells #[.int .i64 x1, .int .i64 x2] 85)).heap.size := by omega
        have hne : (Value.slice pA pm pc).ownBlock ≠ some (N + 1) := row_ne hP.out.1 hm.out (by decide)
        replace hne := Lib.hid hne
        replace hszP3 := Lib.hid hszP3
        clear hg4
        go_wp2_with (at_builtin; go_must (refine wpl_appP rfl (.tmp 96) (.tmp 98) rfl (N + 2) (.slice pA pm pc) (.slice (some ⟨w3.heap.size, 0, none⟩) 1 1) L [(x1, x2)] rfl hP.out rfl hlit.out (by rw [hLl]; simp; omega) hs4' ?_); intro v9 w9 ho9 hg9 _; obtain ⟨pA9, pm9, pc9, rfl⟩ : ∃ A m c, v9 = .slice A m c := (by obtain ⟨A, c, e, -⟩ := ho9.form; exact ⟨A, _, c, e⟩); have hl9 : Below (N + 2) _ w9 := (Below.refl _ _).grown hg9 hs4' (fun k hk => (World.ownsRow.lt hP.out.1 k hk).1); have hm9 := blk_grow hm.out hg9 hne.out; have hD9 := DB.own hD hP.out hg9; have hz9 := Lib.hid ((hl9.block N (by omega)).trans hz.out); have hb9 := Lib.hid (hb.out.trans (hl9.mono (by omega))); have hs9 := hl9.size; have c7 := blk_cell (j := 7) (v := .slice pA pm pc) hm9 rfl; have f7 := blk_free hm9 7; replace hm9 := Lib.hid hm9; replace ho9 := Lib.hid ho9; clear hl9 hg9 hm hz hb hD hP hlit y0 y1 x7)
        have hm10 := blk_set hm9.out 7 (.slice pA9 pm9 pc9)
        have hP10 : Hid (OP (L ++ [(x1, x2)]) (.slice pA9 pm9 pc9) (N + 2) (w9.setCell ⟨N + 1, 7, none⟩ (.slice pA9 pm9 pc9))) := Lib.hid ⟨row_set_other ho9.out.1 (N + 1) 7 _ (row_ne ho9.out.1 hm9.out (by decide)), ho9.out.2⟩
        have hD10 := DB.set (M := N + 1) hD9 (by omega) 7 (.slice pA9 pm9 pc9)
        have hb10 := Lib.hid (hb9.out.setCell (p := ⟨N + 1, 7, none⟩) (show N ≤ N + 1 by omega) (.slice pA9 pm9 pc9))
        have hz10 := Lib.hid ((blk_other (w := w9) (g := N + 1) (k := N) (by omega) 7 (.slice pA9 pm9 pc9)).trans hz9.out)
        have hs10 : N + 2 ≤ (w9.setCell ⟨N + 1, 7, none⟩ (.slice pA9 pm9 pc9)).heap.size := by simp only [World.setCell, Array.size_modify]; omega
        clear c7 f7
        go_roundw
        case rel => exact ⟨j + 1, L ++ [(x1, x2)], t2, a2, pA9, pm9, pc9, by go_num, rfl, by omega, hat2, hps2, Lib.hid (by simpa using hm10), hz10, hb10, hD10, hP10, hs10⟩
        case measure => simp [intOf]; omega
      · obtain rfl : j = q := by omega
        clear hlt
        replace hdec := hdec.out
        rw [hps.out] at hdec
        simp only at hdec
        obtain ⟨pA', pc', e', hp1, hp2⟩ := hP.out.form
        injection e' with q1 q2 q3
        subst q1
        subst q3
        obtain ⟨np, hnp⟩ : ∃ np, L.length = np := ⟨_, rfl⟩
        rw [hnp] at q2 hp1
        replace q2 := q2.symm
        subst q2
        replace hnp := Lib.hid hnp
        have hDl := DB.lt hD
        rcases hat with ⟨rfl, rfl⟩ | ⟨qa, rfl, hqa, rfl⟩
        · have hE : rend none = false := rfl
          rw [hE] at hdec
          simp only [Bool.false_and, Bool.false_eq_true, if_false] at hdec
          replace hdec := Lib.hid hdec
          have hd0 : ((-1 : Int) == (nb : Int)) = false := beq_eq_false_iff_ne.mpr (by omega)
          have hd1 : ((-1 : Int) != (nb : Int)) = true := by unfold bne; rw [hd0]; rfl
          go_upto_region 23 with (fail)
          have z0 := blk_cell (j := 0) (v := .int .i64 0) hz.out rfl
          have zf0 := blk_free hz.out 0
          have z1 := blk_cell (j := 1) (v := .string ⟨#[]⟩) hz.out rfl
          have zf1 := blk_free hz.out 1
          have z2 := blk_cell (j := 2) (v := .int .i64 0) hz.out rfl
          have zf2 := blk_free hz.out 2
          have z3 := blk_cell (j := 3) (v := .int .i64 0) hz.out rfl
          have zf3 := blk_free hz.out 3
          have z4 := blk_cell (j := 4) (v := .slice none 0 0) hz.out rfl
          have zf4 := blk_free hz.out 4
          have z5 := blk_cell (j := 5) (v := .string ⟨#[]⟩) hz.out rfl
          have zf5 := blk_free hz.out 5
          have z6 := blk_cell (j := 6) (v := .int .i64 0) hz.out rfl
          have zf6 := blk_free hz.out 6
          have z7 := blk_cell (j := 7) (v := .slice none 0 0) hz.out rfl
          have zf7 := blk_free hz.out 7
          go_wp2_with fail
          obtain ⟨hs, hbs, hot, hss⟩ := set8 hz.out (.int .i64 0) (.string ⟨#[]⟩) (.int .i64 0) (.int .i64 0) (.slice none 0 0) (.string ⟨#[]⟩) (.int .i64 0) (.slice none 0 0)
          obtain ⟨wf, hwf⟩ : ∃ wf, ((((((((wr.setCell ⟨N, 0, none⟩ (.int .i64 0)).setCell ⟨N, 1, none⟩ (.string ⟨#[]⟩)).setCell ⟨N, 2, none⟩ (.int .i64 0)).setCell ⟨N, 3, none⟩ (.int .i64 0)).setCell ⟨N, 4, none⟩ (.slice none 0 0)).setCell ⟨N, 5, none⟩ (.string ⟨#[]⟩)).setCell ⟨N, 6, none⟩ (.int .i64 0)).setCell ⟨N, 7, none⟩ (.slice none 0 0)) = wf := ⟨_, rfl⟩
          rw [hwf] at hs hbs hot hss ⊢
          have r0 := blk_cell (j := 0) (v := .int .i64 0) hs rfl
          have r1 := blk_cell (j := 1) (v := .string ⟨#[]⟩) hs rfl
          have r2 := blk_cell (j := 2) (v := .int .i64 0) hs rfl
          have r3 := blk_cell (j := 3) (v := .int .i64 0) hs rfl
          have r4 := blk_cell (j := 4) (v := .slice none 0 0) hs rfl
          have r5 := blk_cell (j := 5) (v := .string ⟨#[]⟩) hs rfl
          have r6 := blk_cell (j := 6) (v := .int .i64 0) hs rfl
          have r7 := blk_cell (j := 7) (v := .slice none 0 0) hs rfl
          exact bodyPost_ret (v := .tuple #[.agg #[.int .i64 0, .string ⟨#[]⟩, .int .i64 0, .int .i64 0, .slice none 0 0, .string ⟨#[]⟩, .int .i64 0, .slice none 0 0], .int .i64 12]) (by simp [results, Try.results18, go_sem, r0, r1, r2, r3, r4, r5, r6, r7]) rfl ⟨by rw [hdec.out]; rfl, by unfold Gr; rw [hN.out]; exact hb.out.trans hbs⟩
        · by_cases hend : qa = nb
          · subst hend
            have hdn : b.drop qa = [] := List.drop_eq_nil_of_le (by rw [hnb.out]; exact Nat.le_refl _)
            rw [hdn] at hdec
            have hE : rend (some []) = true := rfl
            rw [hE] at hdec
            simp only [Bool.true_and] at hdec
            have hd0 : ((qa : Int) == (qa : Int)) = true := beq_self_eq_true _
            have hd1 : ((qa : Int) != (qa : Int)) = false := by unfold bne; rw [hd0]; rfl
            have hnv : NtV ⟨k1, k2, k3, k4, k5, k6, k7, L⟩ (.agg #[.int .i64 k1, .string (bs k2), .int .i64 k3, .int .i64 k4, .slice (some ⟨D, 0, none⟩) dl dc, .string (bs k6), .int .i64 k7, .slice pA np pc]) wr := ⟨some ⟨D, 0, none⟩, dc, pA, pc, by unfold Nt.agg; simp only; rw [hdl.out, hnp.out], by simp only; rw [hdl.out]; exact hD.out.y, by simp only; rw [hnp.out]; exact hP.out.pls⟩
            have hva := rgood_any _ _ wr hnv
            clear hnv hdn
            have y0 := blk_cell (j := 0) (v := .int .i64 k1) hm.out rfl
            have y1 := blk_cell (j := 1) (v := .string (bs k2)) hm.out rfl
            have y2 := blk_cell (j := 2) (v := .int .i64 k3) hm.out rfl
            have y3 := blk_cell (j := 3) (v := .int .i64 k4) hm.out rfl
            have y4 := blk_cell (j := 4) (v := .slice (some ⟨D, 0, none⟩) dl dc) hm.out rfl
            have y5 := blk_cell (j := 5) (v := .string (bs k6)) hm.out rfl
            have y6 := blk_cell (j := 6) (v := .int .i64 k7) hm.out rfl
            have y7 := blk_cell (j := 7) (v := .slice pA np pc) hm.out rfl
            cases hG : goodN ⟨k1, k2, k3, k4, k5, k6, k7, L⟩ with
            | false =>
              rw [hG] at hva hdec
              simp only [Bool.false_eq_true, if_false] at hdec
              replace hdec := Lib.hid hdec
              replace hva := Lib.hid hva
              go_wp2_with fail
              refine hva.out.mono ?_
              rintro e w' ⟨rfl, hgv⟩
              replace hz := Lib.hid (blk_below hz.out hgv)
              replace hb := Lib.hid (hb.out.trans (Below.mono hgv (by omega)))
              clear hva y0 y1 y2 y3 y4 y5 y6 y7 hgv
              have z0 := blk_cell (j := 0) (v := .int .i64 0) hz.out rfl
              have zf0 := blk_free hz.out 0
              have z1 := blk_cell (j := 1) (v := .string ⟨#[]⟩) hz.out rfl
              have zf1 := blk_free hz.out 1
              have z2 := blk_cell (j := 2) (v := .int .i64 0) hz.out rfl
              have zf2 := blk_free hz.out 2
              have z3 := blk_cell (j := 3) (v := .int .i64 0) hz.out rfl
              have zf3 := blk_free hz.out 3
              have z4 := blk_cell (j := 4) (v := .slice none 0 0) hz.out rfl
              have zf4 := blk_free hz.out 4
              have z5 := blk_cell (j := 5) (v := .string ⟨#[]⟩) hz.out rfl
              have zf5 := blk_free hz.out 5
              have z6 := blk_cell (j := 6) (v := .int .i64 0) hz.out rfl
              have zf6 := blk_free hz.out 6
              have z7 := blk_cell (j := 7) (v := .slice none 0 0) hz.out rfl
              have zf7 := blk_free hz.out 7
              go_wp2_with fail
              obtain ⟨hs, hbs, hot, hss⟩ := set8 hz.out (.int .i64 0) (.string ⟨#[]⟩) (.int .i64 0) (.int .i64 0) (.slice none 0 0) (.string ⟨#[]⟩) (.int .i64 0) (.slice none 0 0)
              obtain ⟨wf, hwf⟩ : ∃ wf, ((((((((w'.setCell ⟨N, 0, none⟩ (.int .i64 0)).setCell ⟨N, 1, none⟩ (.string ⟨#[]⟩)).setCell ⟨N, 2, none⟩ (.int .i64 0)).setCell ⟨N, 3, none⟩ (.int .i64 0)).setCell ⟨N, 4, none⟩ (.slice none 0 0)).setCell ⟨N, 5, none⟩ (.string ⟨#[]⟩)).setCell ⟨N, 6, none⟩ (.int .i64 0)).setCell ⟨N, 7, none⟩ (.slice none 0 0)) = wf := ⟨_, rfl⟩
              rw [hwf] at hs hbs hot hss ⊢
              have r0 := blk_cell (j := 0) (v := .int .i64 0) hs rfl
              have r1 := blk_cell (j := 1) (v := .string ⟨#[]⟩) hs rfl
              have r2 := blk_cell (j := 2) (v := .int .i64 0) hs rfl
              have r3 := blk_cell (j := 3) (v := .int .i64 0) hs rfl
              have r4 := blk_cell (j := 4) (v := .slice none 0 0) hs rfl
              have r5 := blk_cell (j := 5) (v := .string ⟨#[]⟩) hs rfl
              have r6 := blk_cell (j := 6) (v := .int .i64 0) hs rfl
              have r7 := blk_cell (j := 7) (v := .slice none 0 0) hs rfl
              exact bodyPost_ret (v := .tuple #[.agg #[.int .i64 0, .string ⟨#[]⟩, .int .i64 0, .int .i64 0, .slice none 0 0, .string ⟨#[]⟩, .int .i64 0, .slice none 0 0], .int .i64 12]) (by simp [results, Try.results18, go_sem, r0, r1, r2, r3, r4, r5, r6, r7]) rfl ⟨by rw [hdec.out]; rfl, by unfold Gr; rw [hN.out]; exact hb.out.trans hbs⟩
            | true =>
              rw [hG] at hva hdec
              simp only [if_true] at hdec
              replace hdec := Lib.hid hdec
              replace hva := Lib.hid hva
              go_wp2_with fail
              refine hva.out.mono ?_
              rintro e w' ⟨rfl, hgv⟩
              replace hz := Lib.hid (blk_below hz.out hgv)
              replace hb := Lib.hid (hb.out.trans (Below.mono hgv (by omega)))
              replace hm := Lib.hid (blk_below hm.out hgv)
              replace hD := DB.gr hgv hD
              replace hP := Lib.hid (show World.ownsRow _ _ _ _ _ _ _ ∧ _ from ⟨row_below hP.out.1 hgv, hP.out.2⟩)
              clear hva y0 y1 y2 y3 y4 y5 y6 y7 hgv
              have y0 := blk_cell (j := 0) (v := .int .i64 k1) hm.out rfl
              have y1 := blk_cell (j := 1) (v := .string (bs k2)) hm.out rfl
              have y2 := blk_cell (j := 2) (v := .int .i64 k3) hm.out rfl
              have y3 := blk_cell (j := 3) (v := .int .i64 k4) hm.out rfl
              have y4 := blk_cell (j := 4) (v := .slice (some ⟨D, 0, none⟩) dl dc) hm.out rfl
              have y5 := blk_cell (j := 5) (v := .string (bs k6)) hm.out rfl
              have y6 := blk_cell (j := 6) (v := .int .i64 k7) hm.out rfl
              have y7 := blk_cell (j := 7) (v := .slice pA np pc) hm.out rfl
              have z0 := blk_cell (j := 0) (v := .int .i64 0) hz.out rfl
              have zf0 := blk_free hz.out 0
              have z1 := blk_cell (j := 1) (v := .string ⟨#[]⟩) hz.out rfl
              have zf1 := blk_free hz.out 1
              have z2 := blk_cell (j := 2) (v := .int .i64 0) hz.out rfl
              have zf2 := blk_free hz.out 2
              have z3 := blk_cell (j := 3) (v := .int .i64 0) hz.out rfl
              have zf3 := blk_free hz.out 3
              have z4 := blk_cell (j := 4) (v := .slice none 0 0) hz.out rfl
              have zf4 := blk_free hz.out 4
              have z5 := blk_cell (j := 5) (v := .string ⟨#[]⟩) hz.out rfl
              have zf5 := blk_free hz.out 5
              have z6 := blk_cell (j := 6) (v := .int .i64 0) hz.out rfl
              have zf6 := blk_free hz.out 6
              have z7 := blk_cell (j := 7) (v := .slice none 0 0) hz.out rfl
              have zf7 := blk_free hz.out 7
              go_wp2_with fail
              obtain ⟨hs, hbs, hot, hss⟩ := set8 hz.out (.int .i64 k1) (.string (bs k2)) (.int .i64 k3) (.int .i64 k4) (.slice (some ⟨D, 0, none⟩) dl dc) (.string (bs k6)) (.int .i64 k7) (.slice pA np pc)
              obtain ⟨wf, hwf⟩ : ∃ wf, ((((((((w'.setCell ⟨N, 0, none⟩ (.int .i64 k1)).setCell ⟨N, 1, none⟩ (.string (bs k2))).setCell ⟨N, 2, none⟩ (.int .i64 k3)).setCell ⟨N, 3, none⟩ (.int .i64 k4)).setCell ⟨N, 4, none⟩ (.slice (some ⟨D, 0, none⟩) dl dc)).setCell ⟨N, 5, none⟩ (.string (bs k6))).setCell ⟨N, 6, none⟩ (.int .i64 k7)).setCell ⟨N, 7, none⟩ (.slice pA np pc)) = wf := ⟨_, rfl⟩
              rw [hwf] at hs hbs hot hss ⊢
              have r0 := blk_cell (j := 0) (v := .int .i64 k1) hs rfl
              have r1 := blk_cell (j := 1) (v := .string (bs k2)) hs rfl
              have r2 := blk_cell (j := 2) (v := .int .i64 k3) hs rfl
              have r3 := blk_cell (j := 3) (v := .int .i64 k4) hs rfl
              have r4 := blk_cell (j := 4) (v := .slice (some ⟨D, 0, none⟩) dl dc) hs rfl
              have r5 := blk_cell (j := 5) (v := .string (bs k6)) hs rfl
              have r6 := blk_cell (j := 6) (v := .int .i64 k7) hs rfl
              have r7 := blk_cell (j := 7) (v := .slice pA np pc) hs rfl
              have hfb : Byt k5 (.slice (some ⟨D, 0, none⟩) dl dc) wf := (DB.keep hD (hot D (by omega)) (by rw [hss]; exact Nat.le_refl _)).out.y
              have hfp : Pls L (.slice pA np pc) wf := OP.pls (base := N + 2) ⟨row_keep hP.out.1 (fun k hk => hot k (by have := (World.ownsRow.lt hP.out.1 k hk).1; omega)), hP.out.2⟩
              exact bodyPost_ret (v := .tuple #[.agg #[.int .i64 k1, .string (bs k2), .int .i64 k3, .int .i64 k4, .slice (some ⟨D, 0, none⟩) dl dc, .string (bs k6), .int .i64 k7, .slice pA np pc], .int .i64 0]) (by simp [results, Try.results18, go_sem, r0, r1, r2, r3, r4, r5, r6, r7]) rfl ⟨by rw [hdec.out]; exact ⟨_, rfl, _, _, _, _, by unfold Nt.agg; simp only; rw [hdl.out, hnp.out], by simp only; rw [hdl.out]; exact hfb, by simp only; rw [hnp.out]; exact hfp, fun ad e => by injection e with e; rw [← e, hN.out]; show N ≤ D; omega, fun ad e => by rw [e] at hP; have := (World.ownsRow.lt hP.out.1 ad.block rfl).1; rw [hN.out]; omega⟩, by unfold Gr; rw [hN.out]; exact hb.out.trans hbs⟩
          · have hdn : b.drop qa ≠ [] := by
              intro e
              have := congrArg List.length e
              rw [List.length_drop, hnb.out, List.length_nil] at this
              rw [hnb.out] at hqa
              omega
            have hE : rend (some (b.drop qa)) = false := by
              unfold rend
              simp only
              cases hx : b.drop qa with
              | nil => exact absurd hx hdn
              | cons _ _ => rfl
            rw [hE] at hdec
            simp only [Bool.false_and, Bool.false_eq_true, if_false] at hdec
            replace hdec := Lib.hid hdec
            have hd0 : ((qa : Int) == (nb : Int)) = false := beq_eq_false_iff_ne.mpr (by omega)
            have hd1 : ((qa : Int) != (nb : Int)) = true := by unfold bne; rw [hd0]; rfl
            clear hdn hE
            go_upto_region 23 with (fail)
            have z0 := blk_cell (j := 0) (v := .int .i64 0) hz.out rfl
            have zf0 := blk_free hz.out 0
            have z1 := blk_cell (j := 1) (v := .string ⟨#[]⟩) hz.out rfl
            have zf1 := blk_free hz.out 1
            have z2 := blk_cell (j := 2) (v := .int .i64 0) hz.out rfl
            have zf2 := blk_free hz.out 2
            have z3 := blk_cell (j := 3) (v := .int .i64 0) hz.out rfl
            have zf3 := blk_free hz.out 3
            have z4 := blk_cell (j := 4) (v := .slice none 0 0) hz.out rfl
            have zf4 := blk_free hz.out 4
            have z5 := blk_cell (j := 5) (v := .string ⟨#[]⟩) hz.out rfl
            have zf5 := blk_free hz.out 5
            have z6 := blk_cell (j := 6) (v := .int .i64 0) hz.out rfl
            have zf6 := blk_free hz.out 6
            have z7 := blk_cell (j := 7) (v := .slice none 0 0) hz.out rfl
            have zf7 := blk_free hz.out 7
            go_wp2_with fail
            obtain ⟨hs, hbs, hot, hss⟩ := set8 hz.out (.int .i64 0) (.string ⟨#[]⟩) (.int .i64 0) (.int .i64 0) (.slice none 0 0) (.string ⟨#[]⟩) (.int .i64 0) (.slice none 0 0)
            obtain ⟨wf, hwf⟩ : ∃ wf, ((((((((wr.setCell ⟨N, 0, none⟩ (.int .i64 0)).setCell ⟨N, 1, none⟩ (.string ⟨#[]⟩)).setCell ⟨N, 2, none⟩ (.int .i64 0)).setCell ⟨N, 3, none⟩ (.int .i64 0)).setCell ⟨N, 4, none⟩ (.slice none 0 0)).setCell ⟨N, 5, none⟩ (.string ⟨#[]⟩)).setCell ⟨N, 6, none⟩ (.int .i64 0)).setCell ⟨N, 7, none⟩ (.slice none 0 0)) = wf := ⟨_, rfl⟩
            rw [hwf] at hs hbs hot hss ⊢
            have r0 := blk_cell (j := 0) (v := .int .i64 0) hs rfl
            have r1 := blk_cell (j := 1) (v := .string ⟨#[]⟩) hs rfl
            have r2 := blk_cell (j := 2) (v := .int .i64 0) hs rfl
            have r3 := blk_cell (j := 3) (v := .int .i64 0) hs rfl
            have r4 := blk_cell (j := 4) (v := .slice none 0 0) hs rfl
            have r5 := blk_cell (j := 5) (v := .string ⟨#[]⟩) hs rfl
            have r6 := blk_cell (j := 6) (v := .int .i64 0) hs rfl
            have r7 := blk_cell (j := 7) (v := .slice none 0 0) hs rfl
            exact bodyPost_ret (v := .tuple #[.agg #[.int .i64 0, .string ⟨#[]⟩, .int .i64 0, .int .i64 0, .slice none 0 0, .string ⟨#[]⟩, .int .i64 0, .slice none 0 0], .int .i64 12]) (by simp [results, Try.results18, go_sem, r0, r1, r2, r3, r4, r5, r6, r7]) rfl ⟨by rw [hdec.out]; rfl, by unfold Gr; rw [hN.out]; exact hb.out.trans hbs⟩
end Go.Proofs.Ytgdbbjijneidaaa
