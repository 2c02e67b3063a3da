/- cat: what it answers without turning anything. -/
import Derived.Test.YthboeoidgglcgaaCt5
import Derived.Deep.DeepCutAuto
namespace Go.Proofs.Ythboeoidgglcgaa
set_option linter.unusedVariables false
set_option linter.unusedSimpArgs false
open Go Go.RowKit Go.Maps
set_option maxRecDepth 10000 in
theorem fitKey_any (k : By) (hk : k.length ≤ maxLen) (w : World) : Calls Try.prog 51 #[.string (bs k)] w fun e w' => e = .returned (.bool (keyOk k)) ∧ w' = w := by
  have hs : (bs k).size = k.length := rfl
  have hc := in_any (k.length : Int) 1 16 w
  have e : inB (k.length : Int) 1 16 = keyOk k := by unfold keyOk inB; congr 1 <;> (apply decide_eq_decide.mpr; omega)
  rw [e] at hc
  replace hc := Lib.hid hc
  go_enter Try.func51, Try.ntmps51
  go_wp2_with (go_at_call 56; go_must (refine hc.out.mono ?_); rintro e w' ⟨rfl, hee⟩; rw [hee]; clear hee)
  go_ret
  exact ⟨rfl, rfl⟩
set_option maxRecDepth 10000 in
theorem fitGroups_any (z : Int) (w : World) : Calls Try.prog 52 #[.int .i64 z] w fun e w' => e = .returned (.int .i64 (grp z)) ∧ w' = w := by
  have hc := in_any z 0 512 w
  unfold inB at hc
  unfold grp
  by_cases h : z < 0 ∨ 512 < z
  · have e : (decide ((0 : Int) ≤ z) && decide (z ≤ 512)) = false := by
      rcases h with h | h
      · rw [decide_eq_false (by omega : ¬ (0 : Int) ≤ z)]; rfl
      · rw [decide_eq_false (by omega : ¬ z ≤ 512), Bool.and_false]
    rw [e] at hc
    replace hc := Lib.hid hc
    rw [if_pos h]
    clear h e
    go_enter Try.func52, Try.ntmps52
    go_wp2_with (go_at_call 56; go_must (refine hc.out.mono ?_); rintro e w' ⟨rfl, hee⟩; rw [hee]; clear hee)
    go_ret
    exact ⟨rfl, rfl⟩
  · obtain ⟨m, rfl⟩ : ∃ m : Nat, z = m := ⟨z.toNat, by omega⟩
    have hm : m ≤ 512 := by omega
    have e : (decide ((0 : Int) ≤ (m : Int)) && decide ((m : Int) ≤ 512)) = true := by
      rw [decide_eq_true (by omega : (0 : Int) ≤ (m : Int)), decide_eq_true (by omega : (m : Int) ≤ 512)]; rfl
    rw [e] at hc
    replace hc := Lib.hid hc
    rw [if_neg h]
    obtain ⟨q, hq⟩ : ∃ q, (m + 127) / 128 = q := ⟨_, rfl⟩
    have hdv : ((m : Int) + 127).tdiv 128 = (q : Int) := by rw [Int.tdiv_eq_ediv_of_nonneg (by omega)]; omega
    have hq4 : q ≤ 4 := by omega
    have w1 : IntKind.i64.wrap ((m : Int) + 128) = (m : Int) + 128 := by rw [IntKind.wrap_i64]; omega
    have w2 : IntKind.i64.wrap ((m : Int) + 128 - 1) = (m : Int) + 127 := by rw [IntKind.wrap_i64]; omega
    have w3 : IntKind.i64.wrap (q : Int) = (q : Int) := i64_wrap _ (by omega)
    have hmx : Hid (max 1 ((Int.toNat (m : Int) + 127) / 128) = max 1 q) := Lib.hid (by rw [show Int.toNat (m : Int) = m from rfl, hq])
    rw [hmx.out]
    replace hq := Lib.hid hq
    clear h e
    by_cases h1 : 1 < q
    · have j1 : (if (1 : Int) < (q : Int) then Value.int .i64 (q : Int) else Value.int .i64 1) = .int .i64 (q : Int) := if_pos (by omega)
      have e9 : Hid (max 1 q = q) := Lib.hid (by omega)
      rw [e9.out]
      have h1i : (1 : Int) < (q : Int) := by omega
      go_enter Try.func52, Try.ntmps52
      go_wp2_with (go_at_call 56; go_must (refine hc.out.mono ?_); rintro e w' ⟨rfl, hee⟩; rw [hee]; clear hee)
      all_goals go_ret
      all_goals exact ⟨by simp; try omega, rfl⟩
    · have e9 : Hid (max 1 q = 1) := Lib.hid (by omega)
      rw [e9.out]
      have h1i : ¬ (1 : Int) < (q : Int) := by omega
      go_enter Try.func52, Try.ntmps52
      go_wp2_with (go_at_call 56; go_must (refine hc.out.mono ?_); rintro e w' ⟨rfl, hee⟩; rw [hee]; clear hee)
      all_goals go_ret
      all_goals exact ⟨by simp; try omega, rfl⟩
section
variable (lo g t : Nat) (x : CtX) (c : CtP) (w : World) (h : Hid (Ca w lo g x c t))
include h
set_option maxRecDepth 10000 in
theorem cgen_any : Calls Try.prog 15 #[.pointer (some ⟨g, 0, none⟩)] w fun e w' => e = .returned (.int .i64 c.G) ∧ w' = w := by
  have c5 := blk_cell (j := 5) h.out.blk rfl
  clear h
  go_enter Try.func15, Try.ntmps15
  go_wp2_with fail
  go_ret
  exact ⟨rfl, rfl⟩
set_option maxRecDepth 10000 in
theorem later_any (z : Int) : Calls Try.prog 55 #[.pointer (some ⟨g, 0, none⟩), .int .i64 z] w fun e w' => e = .returned (.bool (c.later z)) ∧ w' = w := by
  have c5 := blk_cell (j := 5) h.out.blk rfl
  unfold CtP.later
  generalize c.G = G at c5
  clear h
  by_cases h1 : G < z
  · rw [decide_eq_true h1, Bool.true_and]
    go_enter Try.func55, Try.ntmps55
    go_wp2_with fail
    go_ret
    exact ⟨by first | rfl | simp, rfl⟩
  · have i1 : decide (G < z) = false := decide_eq_false h1
    rw [i1, Bool.false_and]
    clear h1
    go_enter Try.func55, Try.ntmps55
    go_wp2_with fail
    go_ret
    exact ⟨by first | rfl | simp, rfl⟩
/-- where a blob is staged -/
def AtW (x : CtX) (k : By) (w : World) (e : Ending) (w' : World) : Prop :=
  Gr w w' ∧ ((e = .returned (.int .i64 (-1)) ∧ x.W.any (fun e => e.k == k) = false) ∨ ∃ i q, e = .returned (.int .i64 (i : Nat)) ∧ x.W[i]? = some q ∧ q.k = k ∧ x.W.any (fun e => e.k == k) = true)
set_option maxRecDepth 10000 in
theorem stagedAt_any (ht : t ≤ 1000) (k : By) : Calls Try.prog 44 #[.pointer (some ⟨g, 0, none⟩), .string (bs k)] w (AtW x k w) := by
  obtain ⟨A, cp, hv⟩ : ∃ A cp, x.vs = .slice A x.W.length cp := by obtain ⟨A, cp, _, _, e, -⟩ := h.out.form; exact ⟨A, cp, e⟩
  obtain ⟨w0, hw0⟩ : ∃ w0, w.alloc (.cells #[.string (bs k)] 9) = w0 := ⟨_, rfl⟩
  have hg0 : Gr w w0 := by rw [← hw0]; exact Gr.alloc _ _
  have hc0 := h.out.gr hg0
  have hbk := hc0.blk
  rw [hv] at hbk
  have c0 := blk_cell (j := 0) hbk rfl
  have hx : w0.cell? ⟨w.heap.size, 0, none⟩ = some (.string (bs k)) := by rw [← hw0]; exact blk_cell (j := 0) (heap_alloc_new w _) rfl
  have hsz : w.heap.size < w0.heap.size := by rw [← hw0]; simp
  have hrow : WRow w0 lo (.slice A x.W.length cp) x.W := by rw [← hv]; exact hc0.ws
  have hlen : x.W.length ≤ 1000000 := by have h1 := h.out.few.1; rw [h.out.wc, List.length_map] at h1; omega
  have hi := index_stag lo w.heap.size k A x.W.length cp x.W rfl hlen w0 hsz hx hrow
  unfold stagF at hi
  replace hi := Lib.hid hi
  replace hg0 := Lib.hid hg0
  replace hbk := Lib.hid hbk
  replace hx := Lib.hid hx
  replace hrow := Lib.hid hrow
  replace hc0 := Lib.hid hc0
  replace hv := Lib.hid hv
  generalize x.W.length = n at c0 hi
  clear h
  go_enter Try.func44, Try.ntmps44
  go_wp2_with (go_at_call 63; go_must (refine hi.out.mono ?_); clear hi; rintro e w5 ⟨hb5, ⟨rfl, hno⟩ | ⟨i, q, rfl, hq, hqk, -⟩⟩)
  · go_ret
    refine ⟨hg0.out.trans hb5, .inl ⟨rfl, ?_⟩⟩
    rw [List.any_eq_false]
    intro e he hc
    exact hno e he (eq_of_beq hc)
  · go_ret
    refine ⟨hg0.out.trans hb5, .inr ⟨i, q, rfl, hq, hqk, ?_⟩⟩
    rw [List.any_eq_true]
    exact ⟨q, List.mem_of_getElem? hq, by simp [hqk]⟩
end
end Go.Proofs.Ythboeoidgglcgaa
