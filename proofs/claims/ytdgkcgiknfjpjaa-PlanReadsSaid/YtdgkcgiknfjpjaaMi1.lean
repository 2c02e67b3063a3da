/- plan: what the laws of a blob's shards need: a copy of the bytes; a record with its room; which slot a record is good for. -/
import Derived.Test.YtdgkcgiknfjpjaaBl13
import Derived.Test.YtdgkcgiknfjpjaaPl2
import Derived.Test.YtdgkcgiknfjpjaaPlC
namespace Go.Proofs.Ytdgkcgiknfjpjaa
set_option linter.unusedVariables false
set_option linter.unusedSimpArgs false
open Go Go.RowKit
set_option maxHeartbeats 4000000 in
set_option maxRecDepth 20000 in
theorem short19_any (A : Option Addr) (n c : Nat) (l : List UInt8) (most : Nat) (hm1 : 1 ≤ most) (hm : most ≤ 100000) (hl : Hid (l.length = n)) (hc : n ≤ c) (hcm : c ≤ 9223372036854775807) (w : World) (h : Hid (Rd w w.heap.size A l)) :
    Calls Try.prog 33 #[.slice A n c, .int .i64 most] w fun e w' => ∃ A' n' c', e = .returned (.slice A' n' c') ∧ Hid (OB w' w.heap.size (.slice A' n' c') (l.take most)) ∧ Hid ((l.take most).length = n') ∧ Gr w w' := by
  have ho := Lib.hid (OB.empty w w.heap.size (Nat.le_refl _))
  have hb1 := Lib.hid ((Below.refl w.heap.size w).alloc (Nat.le_refl _) (.cells #[] 5))
  by_cases hlt : most < n
  · have i1 : (most : Int) < (n : Int) := by omega
    have htl : Hid ((l.take most).length = most) := Lib.hid (by rw [List.length_take, hl.out]; omega)
    have hp : 0 < l.length := by rw [hl.out]; omega
    obtain ⟨ad, rfl, -⟩ := h.out.get (List.getElem?_eq_getElem hp)
    have hrd := Lib.hid (((h.out.take most (by rw [hl.out]; omega)).keep (fun p hp => hb1.out.cell hp)).more hb1.out.size)
    have i2 : most ≤ c := by omega
    clear hp
    go_enter Try.func33, Try.ntmps33
    go_wp2_with (at_builtin; go_must (refine wpl_append rfl (.tmp 9) (.tmp 12) rfl w.heap.size (.slice (some ⟨w.heap.size, 0, none⟩) 0 0) [] rfl ho.out _ (some ad) c (l.take most) (by rw [htl.out]; rfl) hrd.out (by rw [htl.out]; simp; omega) hb1.out.size ?_); intro v5 w5 ho5 hg5 _; have hb5 := Lib.hid (below_rowD ho.out hb1.out hb1.out.size hg5); rw [List.nil_append] at ho5; obtain ⟨A5, c5, rfl, -, -, -, -⟩ := ho5.form; rw [htl.out] at ho5 ⊢; replace ho5 := Lib.hid ho5; clear hg5)
    go_ret
    exact ⟨A5, most, c5, rfl, ho5, htl, hb5.out⟩
  · have i1 : decide ((most : Int) < (n : Int)) = false := decide_eq_false (by omega)
    have i1' : (n : Int) ≤ (most : Int) := by omega
    have htk : Hid (l.take most = l) := Lib.hid (List.take_of_length_le (by rw [hl.out]; omega))
    have hrd := Lib.hid ((h.out.keep (fun p hp => hb1.out.cell hp)).more hb1.out.size)
    have hn9 : Hid (l.length ≤ 100000) := Lib.hid (by rw [hl.out]; omega)
    go_enter Try.func33, Try.ntmps33
    go_wp2_with (at_builtin; go_must (refine wpl_append rfl (.tmp 14) (.tmp 15) rfl w.heap.size (.slice (some ⟨w.heap.size, 0, none⟩) 0 0) [] rfl ho.out _ A c l (by rw [hl.out]; rfl) hrd.out (by have := hn9.out; simp; omega) hb1.out.size ?_); intro v5 w5 ho5 hg5 _; have hb5 := Lib.hid (below_rowD ho.out hb1.out hb1.out.size hg5); rw [List.nil_append] at ho5; obtain ⟨A5, c5, rfl, -, -, -, -⟩ := ho5.form; rw [hl.out] at ho5 ⊢; replace ho5 := Lib.hid ho5; clear hg5)
    go_ret
    exact ⟨A5, n, c5, rfl, by rw [htk.out]; exact ho5, by rw [htk.out]; exact hl, hb5.out⟩
/-- a record of a row, with its room -/
theorem OR.room {E : List Re} {A0 : Option Addr} {n0 c0 base : Nat} {w : World} (h : OR E (.slice A0 n0 c0) base w) {i : Nat} (hi : i < E.length) : ∃ (b o : Nat) (xr : Rc) (xA : Option Addr) (xc : Nat), A0 = some ⟨b, o, none⟩ ∧ (E.map (·.r))[i]? = some xr ∧ ReV ⟨xr, xA, xc⟩ w ∧ b < w.heap.size ∧
    ∀ w', Gr w w' → ∀ (j : Nat) (u : Value), (Re.cells ⟨xr, xA, xc⟩)[j]? = some u → w'.cell? ⟨b, o + i * 10 + j, none⟩ = some u := by
  obtain ⟨g, c, e, -, -, -, hb, -, -, hc, -⟩ := row_at h.row (by omega)
  injection e with e1 e2 e3
  subst e1
  have hx := List.getElem?_eq_getElem hi
  obtain ⟨⟨xr, xA, xc⟩, hxx⟩ : ∃ x, E[i] = x := ⟨_, rfl⟩
  rw [hxx] at hx
  refine ⟨g, 0, xr, xA, xc, rfl, by rw [List.getElem?_map, hx]; rfl, h.vs _ (List.mem_of_getElem? hx), hb, fun w' hw' j u hu => ?_⟩
  have hj : j < 10 := (List.getElem?_eq_some_iff.mp hu).1
  have := (Below.cell hw' (p := ⟨g, i * 10 + j, none⟩) hb).trans (hc (i * 10 + j) u (by rw [flatRe_at hx j hj]; exact hu))
  rw [Nat.zero_add]
  exact this
/-- a record of a blob, by its number -/
theorem recsP_num (p : Rp) {i : Nat} (hi : i < 10 * p.q) : (recsP p)[i]? = some (rec1 p (i / 10) (i / 10) (i % 10)) := by
  have h := recsP_at p (k := i / 10) (i := i % 10) (by omega) (by omega)
  rw [show 10 * (i / 10) + i % 10 = i by omega] at h
  exact h
/-- of a blob's records each is the shard at its own slot alone -/
theorem goodE_mine {p : Rp} {n : Nat} (hn : n = 10 * p.q) (e : En) {i k : Nat} (hi : i < n) (hk : k < n) :
    goodE e n (k : Int) (rec1 p (i / 10) (i / 10) (i % 10)) = (decide (i = k) && (p.key == e.key) && (p.gen == e.gen) && ((p.l.length : Int) == e.size) && (dg p.l == e.sum)) := by
  have h1 : slotB (k : Int) n = true := by unfold slotB; simp; omega
  have h2 : ((k : Int).toNat) = k := rfl
  have h3 : n / 10 = p.q := by omega
  unfold goodE goodN rec1
  rw [h1, h2, h3]
  simp only [row_length, Bool.true_and, beq_self_eq_true]
  have e1 : (((16 : Nat) : Int) == 16) = true := rfl
  have e3 : ((((i / 10 : Nat) : Int) == ((k / 10 : Nat) : Int)) && (((i % 10 : Nat) : Int) == ((k % 10 : Nat) : Int))) = decide (i = k) := by
    rw [Bool.eq_iff_iff]
    simp only [Bool.and_eq_true, beq_iff_eq, decide_eq_true_iff]
    omega
  rw [← e3, e1]
  cases (((i / 10 : Nat) : Int) == ((k / 10 : Nat) : Int)) <;> cases (((i % 10 : Nat) : Int) == ((k % 10 : Nat) : Int)) <;> cases (p.key == e.key) <;> cases (p.gen == e.gen) <;> cases ((p.l.length : Int) == e.size) <;> cases (dg p.l == e.sum) <;> rfl
theorem snoc_ne (l : List UInt8) (x : UInt8) : (l == l ++ [x]) = false := by
  rw [beq_eq_false_iff_ne]
  intro h
  have := congrArg List.length h
  simp at this
/-- places, all alike -/
theorem pairs_makeN (w : World) (m : Nat) (hm : m ≤ 1000) : ∃ cs : Array Value, (Instr.makeSlice 53 (.int .i64 m) (.int .i64 m)).run Try.prog w = .ok (.slice (some ⟨w.heap.size, 0, none⟩) m m) (w.alloc (.cells cs 98)) := by
  obtain ⟨i0, hi, hz0, hz1, hz2⟩ := info_parts info_place
  have h := run_make (P := Try.prog) w 53 98 i0 _ Try.underlying53 hi hz0 .i64 .i64 m m (by omega) (by omega) (by rw [hz2]; omega) (by omega)
  exact ⟨_, h⟩
end Go.Proofs.Ytdgkcgiknfjpjaa
