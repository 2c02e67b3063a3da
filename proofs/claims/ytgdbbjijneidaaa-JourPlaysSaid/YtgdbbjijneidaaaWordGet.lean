/- The walks of word: Get, Text, End. -/
import Derived.Test.YtgdbbjijneidaaaWordRead
namespace Go.Proofs.Ytgdbbjijneidaaa
set_option linter.unusedVariables false
open Go Go.RowKit

theorem Rd.cutAt {w : World} {B : Nat} {A : Option Addr} {l : List UInt8} (h : Rd w B A l) {k : Nat} (hk : k ≤ l.length) : Rd w B (A.map (·.add k)) (l.drop k) := by
  unfold Rd
  refine ⟨by simp, fun hn => ?_⟩
  rw [List.length_drop] at hn
  obtain ⟨ad, rfl, hb, hcell⟩ := h.2 (by omega)
  refine ⟨ad.add k, rfl, by rw [block_of_add]; exact hb, fun j u hu => ?_⟩
  rw [add_of_add]
  refine hcell _ u ?_
  rw [List.map_drop, List.getElem?_drop] at hu
  exact hu
theorem Rd.cutEnd {w : World} {B : Nat} {A : Option Addr} {l : List UInt8} {k : Nat} (hk : l.length ≤ k) : Rd w B A (l.drop k) := by
  rw [List.drop_eq_nil_of_le hk]; exact Rd.nil_
theorem rdr_set {w : World} {g n : Nat} {v : Value} {l' : List UInt8} {A' : Option Addr} {c' : Nat} (hh : w.heap[g]? = some (.cells #[v, .bool false] 107 (0, 0)))
    (h1 : Rd w g A' l') (hn : l'.length = n) (hc : n ≤ c') (hm : c' ≤ maxLen) : Rdr (w.setCell ⟨g, 0, none⟩ (.slice A' n c')) g (some l') ∧ w.grownBy (w.setCell ⟨g, 0, none⟩ (.slice A' n c')) (some g) := by
  subst hn
  refine ⟨⟨A', c', ?_, hc, hm, h1.keep fun p hp => World.cell?_setCell_other w _ p _ (fun e => by subst e; exact absurd hp (Nat.lt_irrefl _))⟩, ⟨rfl, rfl, rfl, by simp [World.setCell], fun k _ hk => Below.heap_setCell _ _ _ _ (fun e => hk (by rw [e]))⟩⟩
  simp [World.setCell, Array.getElem?_modify, hh]
set_option maxRecDepth 10000 in
theorem get_nil (most : Int) (w : World) :
    Calls Try.prog 50 #[.pointer none, .int .i64 most] w fun e w' => e = .returned (.int .i64 0) ∧ w = w' := by
  go_enter Try.func50, Try.ntmps50
  go_wp2
  go_ret
  exact ⟨rfl, rfl⟩
theorem grown_of_fail {g : Nat} {w w' : World} (hb : Below g w w') (hs : w'.heap.size = w.heap.size) (hk : ∀ k, k ≠ g → w'.heap[k]? = w.heap[k]?) : w.grownBy w' (some g) :=
  ⟨hb.os, hb.tape, hb.output, by omega, fun k _ hne => hk k (fun e => hne (by rw [e]))⟩
set_option maxHeartbeats 400000 in
set_option maxRecDepth 10000 in
theorem get_any (g : Nat) (st : RS) (most : Int) (h0 : -9223372036854775808 ≤ most) (h1 : most ≤ 9223372036854775807) (w : World) (h : Rdr w g st) (hlen : ∀ l, st = some l → l.length ≤ 140737488355328) :
    Calls Try.prog 50 #[.pointer (some ⟨g, 0, none⟩), .int .i64 most] w fun e w' => e = .returned (.int .i64 (rget st most).1) ∧ Rdr w' g (rget st most).2 ∧ w.grownBy w' (some g) := by
  cases st with
  | none =>
    have hh : w.heap[g]? = some (.cells #[.slice none 0 0, .bool true] 107 (0, 0)) := h
    have hc1 : w.cell? ⟨g, 1, none⟩ = some (.bool true) := by simp [World.cell?, hh]
    replace h := Lib.hid h
    replace hh := Lib.hid hh
    go_enter Try.func50, Try.ntmps50
    go_wp2
    go_ret
    exact ⟨rfl, h.out, World.grownBy.refl _ _⟩
  | some l =>
    have hl := hlen l rfl
    have hR := h
    obtain ⟨A, c, hh, hcl, hcm, hr⟩ := hR
    have hc0 : w.cell? ⟨g, 0, none⟩ = some (.slice A l.length c) := by simp [World.cell?, hh]
    have hc1 : w.cell? ⟨g, 1, none⟩ = some (.bool false) := by simp [World.cell?, hh]
    have hf0 : w.frozen? ⟨g, 0, none⟩ = false := by simp [World.frozen?, hh]
    have hlead := leading_any A l.length c l rfl (by omega) hcl w (hr.more (Nat.le_of_lt h.lt))
    replace hlead := Lib.hid hlead
    replace h := Lib.hid h
    replace hh := Lib.hid hh
    replace hr := Lib.hid hr
    clear hlen
    cases hld : lead l with
    | none =>
      have hres : Hid (leadRes l = .tuple #[.int .i64 0, .int .i64 0]) := (show _ = _ by unfold leadRes; rw [hld])
      have hrg : rget (some l) most = (0, none) := by simp only [rget, hld]
      rw [hrg]
      clear hld hrg
      go_enter Try.func50, Try.ntmps50
      go_wp2_with fail
      refine hlead.out.mono ?_
      rintro e w' ⟨rfl, rfl⟩
      rw [hres.out]
      go_wp2_with fail
      refine (fail_any g _ w h.out).mono ?_
      rintro e w' ⟨rfl, hn, hb, hs, hk⟩
      go_wp2_with fail
      go_ret
      exact ⟨rfl, hn, grown_of_fail hb hs hk⟩
    | some p =>
      obtain ⟨n, k⟩ := p
      have hb := lead_bound hld
      have hn := lead_lt hld
      have hres : Hid (leadRes l = .tuple #[.int .i64 n, .int .i64 k]) := (show _ = _ by unfold leadRes; rw [hld])
      have hk0 : ((k : Int) == 0) = false := by
        rw [Bool.eq_false_iff]; simp only [ne_eq, beq_iff_eq]; omega
      by_cases hm : (n : Int) ≤ most
      · have hrg : rget (some l) most = ((n : Int), some (l.drop k)) := by simp only [rget, hld, if_pos hm]
        rw [hrg]
        clear hld hrg
        have hkc : (k : Int) ≤ (c : Int) := by omega
        have hkl : (k : Int) ≤ (l.length : Int) := by omega
        replace hb := Lib.hid hb
        go_enter Try.func50, Try.ntmps50
        go_wp2_with fail
        refine hlead.out.mono ?_
        rintro e w' ⟨rfl, rfl⟩
        rw [hres.out]
        go_wp2_with fail
        · have hb := hb.out
          go_ret
          exact ⟨rfl, rdr_set hh.out (Rd.cutEnd (by omega)) (by simp) (by omega) (by omega)⟩
        · have hb := hb.out
          go_ret
          exact ⟨rfl, rdr_set hh.out (hr.out.cutAt hb.2.2.2) (by simp) (by omega) (by omega)⟩
      · have hrg : rget (some l) most = (0, none) := by simp only [rget, hld, if_neg hm]
        rw [hrg]
        clear hld hrg
        have hm2 : most < (n : Int) := by omega
        replace hb := Lib.hid hb
        go_enter Try.func50, Try.ntmps50
        go_wp2_with fail
        refine hlead.out.mono ?_
        rintro e w' ⟨rfl, rfl⟩
        rw [hres.out]
        go_wp2_with fail
        refine (fail_any g _ w h.out).mono ?_
        rintro e w' ⟨rfl, hn, hb, hs, hk⟩
        go_wp2_with fail
        go_ret
        exact ⟨rfl, hn, grown_of_fail hb hs hk⟩

set_option maxRecDepth 10000 in
theorem end_nil (w : World) :
    Calls Try.prog 52 #[.pointer none] w fun e w' => e = .returned (.bool false) ∧ w = w' := by
  go_enter Try.func52, Try.ntmps52
  go_wp2
  go_ret
  exact ⟨rfl, rfl⟩
set_option maxRecDepth 10000 in
theorem end_any (g : Nat) (st : RS) (w : World) (h : Rdr w g st) :
    Calls Try.prog 52 #[.pointer (some ⟨g, 0, none⟩)] w fun e w' => e = .returned (.bool (rend st)) ∧ w = w' := by
  cases st with
  | none =>
    have hh : w.heap[g]? = some (.cells #[.slice none 0 0, .bool true] 107 (0, 0)) := h
    have hc1 : w.cell? ⟨g, 1, none⟩ = some (.bool true) := by simp [World.cell?, hh]
    clear h hh
    go_enter Try.func52, Try.ntmps52
    go_wp2
    go_ret
    exact ⟨rfl, rfl⟩
  | some l =>
    obtain ⟨A, c, hh, hcl, hcm, hr⟩ := h
    have hc0 : w.cell? ⟨g, 0, none⟩ = some (.slice A l.length c) := by simp [World.cell?, hh]
    have hc1 : w.cell? ⟨g, 1, none⟩ = some (.bool false) := by simp [World.cell?, hh]
    clear hr hh
    have he : ((l.length : Int) == 0) = l.isEmpty := by
      rw [Bool.eq_iff_iff]; simp only [beq_iff_eq, List.isEmpty_iff]; exact ⟨fun h => List.eq_nil_of_length_eq_zero (by omega), fun h => by rw [h]; rfl⟩
    go_enter Try.func52, Try.ntmps52
    go_wp2
    go_ret
    exact ⟨rfl, rfl⟩

theorem grownBy_trans {a b c : World} {row : Option Nat} (h : a.grownBy b row) (k : b.grownBy c row) : a.grownBy c row :=
  ⟨k.os.trans h.os, k.tape.trans h.tape, k.output.trans h.output, Nat.le_trans h.size k.size, fun i hi hne => (k.block i (Nat.lt_of_lt_of_le hi h.size) hne).trans (h.block i hi hne)⟩
theorem rget_none {st : RS} {most : Int} (h : (rget st most).2 = none) : (rget st most).1 = 0 := by
  cases st with
  | none => rfl
  | some l =>
    unfold rget at h ⊢
    simp only at h ⊢
    split
    · rfl
    · split
      · rename_i h1 h2
        rw [h1] at h
        simp [h2] at h
      · rfl
theorem rget_some {st : RS} {most : Int} {l' : List UInt8} (h : (rget st most).2 = some l') : ∃ (n : Nat) (l : List UInt8), (rget st most).1 = n ∧ n ≤ 9223372036854775807 ∧ st = some l ∧ l'.length ≤ l.length := by
  cases st with
  | none => cases h
  | some l =>
    unfold rget at h ⊢
    simp only at h ⊢
    cases hl : lead l with
    | none => rw [hl] at h; cases h
    | some p =>
      obtain ⟨n, k⟩ := p
      rw [hl] at h
      simp only at h ⊢
      by_cases hm : (n : Int) ≤ most
      · rw [if_pos hm] at h ⊢
        injection h with h
        exact ⟨n, l, rfl, lead_lt hl, rfl, by rw [← h]; simp⟩
      · rw [if_neg hm] at h; cases h
set_option maxRecDepth 10000 in
theorem text_nil (most : Int) (w : World) :
    Calls Try.prog 51 #[.pointer none, .int .i64 most] w fun e w' => e = .returned (.string (bs [])) ∧ w = w' := by
  have hf : ∀ w, Calls Try.prog 74 #[.pointer none] w fun e w' => e = .returned (.tuple #[]) ∧ w = w' := fun w => by
    go_enter Try.func74, Try.ntmps74
    go_wp2
    go_end0
    exact ⟨rfl, rfl⟩
  replace hf := Lib.hid hf
  go_enter Try.func51, Try.ntmps51
  go_wp2_with (first | (go_at_call 50; refine (get_nil _ _).mono ?_; rintro e w' ⟨rfl, rfl⟩) | (go_at_call 74; refine (hf.out _).mono ?_; rintro e w' ⟨rfl, rfl⟩))
  go_ret
  exact ⟨rfl, rfl⟩
set_option maxHeartbeats 400000 in
set_option maxRecDepth 10000 in
theorem rtext_any (g : Nat) (st : RS) (most : Int) (h0 : -9223372036854775808 ≤ most) (h1 : most ≤ 9223372036854775807) (w : World) (h : Rdr w g st) (hlen : ∀ l, st = some l → l.length ≤ 140737488355328) :
    Calls Try.prog 51 #[.pointer (some ⟨g, 0, none⟩), .int .i64 most] w fun e w' => e = .returned (.string (bs (rtext st most).1)) ∧ Rdr w' g (rtext st most).2 ∧ w.grownBy w' (some g) := by
  have hget := get_any g st most h0 h1 w h hlen
  have hn1 := @rget_none st most
  have hs1 := @rget_some st most
  have hrt : rtext st most = (match rget st most with | (_, none) => ([], none) | (n, some l) => if n.toNat ≤ l.length then (l.take n.toNat, some (l.drop n.toNat)) else ([], none)) := rfl
  rcases hr : rget st most with ⟨n, _ | l'⟩
  · rw [hr] at hget hn1 hrt
    obtain rfl : n = 0 := hn1 rfl
    simp only at hrt
    rw [hrt]
    replace hget := Lib.hid hget
    clear hr hn1 hs1 hrt hlen h
    go_enter Try.func51, Try.ntmps51
    go_wp2_with fail
    refine hget.out.mono ?_
    rintro e w1 ⟨rfl, hR, hg⟩
    have hh : w1.heap[g]? = some (.cells #[.slice none 0 0, .bool true] 107 (0, 0)) := hR
    have hc0 : w1.cell? ⟨g, 0, none⟩ = some (.slice none 0 0) := by simp [World.cell?, hh]
    have hf0 : w1.frozen? ⟨g, 0, none⟩ = false := by simp [World.frozen?, hh]
    replace hh := Lib.hid hh
    replace hR := Lib.hid hR
    have hcv : ∀ W : World, (convert 22 9 (.slice none 0 0)).run Try.prog W = .ok (.string (bs [])) W := fun W => run_str (w := W) (B := 0) (A := none) 0 Rd.nil_
    go_wp2_with fail
    go_ret
    refine ⟨rfl, ?_, grownBy_trans hg ⟨rfl, rfl, rfl, by simp [World.setCell], fun k _ hk => Below.heap_setCell _ _ _ _ (fun e => hk (by rw [e]))⟩⟩
    have hh := hh.out
    show _ = _
    simp [World.setCell, Array.getElem?_modify, hh]
  · rw [hr] at hget hs1 hrt
    obtain ⟨m, l, hm, hm63, hst, hll⟩ := hs1 rfl
    simp only at hm
    subst hm
    have hl := hlen l hst
    simp only [Int.toNat_natCast] at hrt
    replace hget := Lib.hid hget
    clear hr hn1 hs1 hlen h
    by_cases hle : m ≤ l'.length
    · rw [if_pos hle] at hrt
      rw [hrt]
      clear hrt
      go_enter Try.func51, Try.ntmps51
      go_wp2_with fail
      refine hget.out.mono ?_
      rintro e w1 ⟨rfl, hR, hg⟩
      obtain ⟨A, c, hh, hcl, hcm, hrd⟩ := hR
      have hc0 : w1.cell? ⟨g, 0, none⟩ = some (.slice A l'.length c) := by simp [World.cell?, hh]
      have hf0 : w1.frozen? ⟨g, 0, none⟩ = false := by simp [World.frozen?, hh]
      have hcv : (convert 22 9 (.slice A m c)).run Try.prog w1 = .ok (.string (bs (l'.take m))) w1 := run_str_at c (hrd.take m hle) (by simp; omega)
      have hmc : (m : Int) ≤ (c : Int) := by omega
      have hml : (m : Int) ≤ (l'.length : Int) := by omega
      replace hh := Lib.hid hh
      replace hrd := Lib.hid hrd
      go_wp2_with fail
      · go_ret
        have hx := rdr_set hh.out (Rd.cutEnd (l := l') (A := A) (k := m) (by omega)) (by simp) (n := l'.length - m) (c' := 0) (by omega) (by omega)
        exact ⟨rfl, hx.1, grownBy_trans hg hx.2⟩
      · go_ret
        have hx := rdr_set hh.out (hrd.out.cutAt hle) (by simp) (n := l'.length - m) (c' := c - m) (by omega) (by omega)
        exact ⟨rfl, hx.1, grownBy_trans hg hx.2⟩
    · rw [if_neg hle] at hrt
      rw [hrt]
      clear hrt
      have hle2 : (l'.length : Int) < m := by omega
      go_enter Try.func51, Try.ntmps51
      go_wp2_with fail
      refine hget.out.mono ?_
      rintro e w1 ⟨rfl, hR, hg⟩
      have hR2 := Lib.hid hR
      obtain ⟨A, c, hh, hcl, hcm, hrd⟩ := hR
      have hc0 : w1.cell? ⟨g, 0, none⟩ = some (.slice A l'.length c) := by simp [World.cell?, hh]
      clear hh hrd
      go_wp2_with fail
      refine (fail_any g _ w1 hR2.out).mono ?_
      rintro e w' ⟨rfl, hn, hb, hs, hk⟩
      go_wp2_with fail
      go_ret
      exact ⟨rfl, hn, grownBy_trans hg (grown_of_fail hb hs hk)⟩
end Go.Proofs.Ytgdbbjijneidaaa
