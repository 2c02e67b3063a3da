/- lib: both libraries as one state; near. -/
import Derived.Test.YtfjhdcppehfiiaaLr8
import Derived.Test.YtfjhdcppehfiiaaLi3
namespace Go.Proofs.Ytfjhdcppehfiiaa
set_option linter.unusedVariables false
set_option linter.unusedSimpArgs false
open Go Go.RowKit
abbrev bts : List TypeId := ats ++ (rlts ++ RT)
/-- both libraries, behind at most T acts -/
def BtL (w : World) (lo gl gr T : Nat) : Prop := ∃ C SS D calls C' SS', Li w lo gl C SS D calls ∧ DOk C.length T D ∧ calls ≤ T ∧ Rl w lo gr C' SS' T ∧ C'.length = C.length
section
variable {w w' : World} {lo gl gr g calls T : Nat} {C : List Nat} {SS : List CS} {D : List Dr}
/-- what turns nothing of the program's library -/
theorem Li.keep {lo' : Nat} {ts : List TypeId} (h : Li w lo g C SS D calls) (hc : TChg lo' ts w w') (h0 : ∀ t ∈ ats, t ∉ ts) (h2 : 5 ∉ ts) : Li w' lo g C SS D calls := by
  obtain ⟨vc, vd, hl⟩ := h.lb
  exact h.tchg hc (h0 _ (by simp)) (h0 _ (by simp)) h2 ⟨vc, vd, hl.tchg hc (fun t ht => h0 t (by simp at ht ⊢; rcases ht with rfl | rfl | rfl <;> simp))⟩
/-- .. of the reference's -/
theorem Rl.keep {lo' T' : Nat} {ts : List TypeId} (h : Rl w lo g C SS T) (hc : TChg lo' ts w w') (h0 : ∀ t ∈ rlts ++ RT, t ∉ ts) (ht : T ≤ T') : Rl w' lo g C SS T' := by
  obtain ⟨vc, vd, va, D, L, h1, h2, h3⟩ := h.lr
  exact h.tchg hc (h0 _ (by simp)) (h0 _ (by simp)) (h0 _ (by simp)) ⟨vc, vd, va, D, L, h1.tchg hc (fun t ht => h0 t (List.mem_append.2 (.inl ht))), h2.more ht, by omega⟩
end
section
variable (lo g : Nat) (C : List Nat) (SS : List CS) (D : List Dr) (calls : Nat) (w : World) (h : Hid (Li w lo g C SS D calls))
include h
set_option maxHeartbeats 1000000 in
set_option maxRecDepth 10000 in
theorem near_any (z p : Int) : Calls Try.prog 47 #[.pointer (some ⟨g, 0, none⟩), .int .i64 z, .int .i64 p] w fun e w' => (∃ q, e = .returned (.int .i64 q)) ∧ w' = w := by
  obtain ⟨vc, vd, hl⟩ := h.out.lb
  by_cases hp : p.tmod 4 = 1
  · rcases lit_or (n := C.length) z with hz | ⟨i, rfl, hi⟩
    · have hc := Lib.hid (cart_no lo g vc vd C D calls w (Lib.hid hl) z hz)
      clear hl h hz
      go_enter Try.func47, Try.ntmps47
      go_wp2_with (first
        | (go_at_call 11; go_must (refine hc.out.mono ?_); rintro e w' ⟨rfl, hee⟩; rw [hee]; clear hee)
        | (go_at_call 12; go_must (refine (clen_nil w).mono ?_); rintro e w' ⟨rfl, hee⟩; rw [hee]; clear hee))
      go_ret
      exact ⟨⟨_, rfl⟩, rfl⟩
    · obtain ⟨b, hb⟩ : ∃ b, C[i]? = some b := ⟨_, List.getElem?_eq_getElem hi⟩
      have hc := Lib.hid (cart_yes lo g vc vd C D calls w (Lib.hid hl) i b hb)
      obtain ⟨s, hs⟩ : ∃ s, SS[i]? = some s := ⟨_, List.getElem?_eq_getElem (by rw [h.out.len]; exact hi)⟩
      obtain ⟨l, hi2, -, hct⟩ := h.out.ct i b s hb hs
      have hn := Lib.hid (clen_any l hi2 b s w hct)
      clear hl h hb hi hs hct
      go_enter Try.func47, Try.ntmps47
      go_wp2_with (first
        | (go_at_call 11; go_must (refine hc.out.mono ?_); rintro e w' ⟨rfl, hee⟩; rw [hee]; clear hee)
        | (go_at_call 12; go_must (refine hn.out.mono ?_); rintro e w' ⟨rfl, hee⟩; rw [hee]; clear hee))
      go_ret
      exact ⟨⟨_, rfl⟩, rfl⟩
  · have hpb : (p.tmod 4 == 1) = false := beq_false_of_ne hp
    replace hp := Lib.hid hp
    clear hl h
    go_enter Try.func47, Try.ntmps47
    go_wp2_with fail
    go_ret
    exact ⟨⟨_, rfl⟩, rfl⟩
end
end Go.Proofs.Ytfjhdcppehfiiaa
