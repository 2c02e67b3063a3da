/- model: what each act comes to, for ModelTrue. -/
import Derived.Test.YtipdjchgdhfciaaMd4
import Derived.Test.YtipdjchgdhfciaaOpenAct22
namespace Go.Proofs.Ytipdjchgdhfciaa
set_option linter.unusedVariables false
set_option linter.unusedSimpArgs false
open Go Go.RowKit Go.Maps Go.Sort
theorem dataOf_no {L : List En} {k : List UInt8} (h : hasK L k = false) : dataOf L k = [] := by
  unfold dataOf
  have : L.find? (fun e => e.1 == k) = none := by
    rw [List.find?_eq_none]
    intro e he hh
    have := (hasK_iff L k).mpr ⟨e, he, eq_of_beq hh⟩
    rw [h] at this; cases this
  rw [this]; rfl
theorem hasK_snoc (L : List En) (k : List UInt8) (v : Value) (d : List UInt8) : hasK (L ++ [(k, v, d)]) k = true := by unfold hasK; simp
theorem dataOf_snoc {L : List En} {k : List UInt8} (h : hasK L k = false) (v : Value) (d : List UInt8) : dataOf (L ++ [(k, v, d)]) k = d := by
  unfold dataOf
  have : L.find? (fun e => e.1 == k) = none := by
    rw [List.find?_eq_none]
    intro e he hh
    have := (hasK_iff L k).mpr ⟨e, he, eq_of_beq hh⟩
    rw [h] at this; cases this
  rw [List.find?_append, this]; simp
theorem hasK_delK (L : List En) (k : List UInt8) : hasK (delK L k) k = false := by rw [hasK_del]; simp
/-- bytes that lie in no block of which S speaks -/
def Byt (b : Nat) (l : List UInt8) (A : Option Addr) (w : World) : Prop := Rd w w.heap.size A l ∧ ∀ ad, A = some ad → 0 < l.length → ad.block ≠ b
theorem Byt.upd {b : Nat} {l : List UInt8} {A : Option Addr} {w w' : World} (hu : Upd (· = b) w w') (h : Hid (Byt b l A w)) : Hid (Byt b l A w') := Lib.hid (by
  obtain ⟨⟨h1, h2⟩, h3⟩ := h.out
  refine ⟨⟨h1, fun hp => ?_⟩, h3⟩
  obtain ⟨ad, e, hb, hc⟩ := h2 hp
  refine ⟨ad, e, Nat.lt_of_lt_of_le hb hu.2.2.2.1, fun j u hj => ?_⟩
  rw [← hc j u hj]
  have hblk : w'.heap[ad.block]? = w.heap[ad.block]? := hu.2.2.2.2 ad.block hb (h3 ad e hp)
  unfold World.cell?
  simp only [block_of_add, hblk])
theorem Byt.str {b : Nat} {l : List UInt8} {A : Option Addr} {w : World} (h : Hid (Byt b l A w)) (n c : Nat) (hn : l.length = n) : (convert 29 9 (.slice A n c)).run Try.prog w = .ok (.string (bs l)) w := run_str_at c h.out.1 hn
theorem get22_all (lo g b n : Nat) (L : List En) (k : List UInt8) (hk : k.length ≤ maxLen) (w : World) (h : Hid (Md w lo g b n L)) :
    Calls Try.prog 18 #[.pointer (some ⟨g, 0, none⟩), .string (bs k)] w fun e w' => ∃ A c, e = .returned (.tuple #[.slice A (dataOf L k).length c, .bool (hasK L k)]) ∧ Hid (Byt b (dataOf L k) A w') ∧ Hid (Md w' lo g b n L) ∧ Upd (· = b) w w' := by
  cases hh : hasK L k with
  | false =>
    refine (get22_no lo g b n L k hk w h hh).mono ?_
    rintro e w' ⟨rfl, rfl⟩
    rw [dataOf_no hh]
    exact ⟨none, 0, rfl, Lib.hid ⟨Rd.nil_, fun ad e => (by cases e)⟩, h, Upd.refl _ _⟩
  | true =>
    refine (get22_yes lo g b n L k hk w h hh).mono ?_
    rintro e w' ⟨v, rfl, hv, hg⟩
    obtain ⟨A, c, rfl, -, -, hr, hlow⟩ := hv.out.form
    refine ⟨A, c, rfl, Lib.hid ⟨hr, fun ad e _ => ?_⟩, Md.below hg h, Upd.of_gr hg⟩
    have := hlow ad e
    have := h.out.lt.2
    omega
theorem putE_has {L : List En} {k d : List UInt8} (h : putE L k d = 0) : hasK L k = false := by
  unfold putE at h
  split at h
  · cases h
  · split at h
    · cases h
    · split at h
      · cases h
      · simpa using ‹¬ hasK L k = true›
/-- a put, both ways at once -/
theorem put22_all (lo g b n : Nat) (L : List En) (k d : List UInt8) (A : Option Addr) (m c : Nat) (hk : k.length ≤ maxLen) (hd : d.length = m) (hn : n ≤ 1000000) (w : World) (hlo : lo ≤ w.heap.size) (h : Hid (Md w lo g b n L)) (hr : Rd w w.heap.size A d) :
    Calls Try.prog 11 #[.pointer (some ⟨g, 0, none⟩), .string (bs k), .slice A m c] w fun e w' => ∃ L', e = .returned (.int .i64 (putE L k d)) ∧ Hid (Md w' lo g b (n + 1) L') ∧ Upd (· = b) w w' ∧ L'.length ≤ L.length + 1 ∧
      ((putE L k d = 0 ∧ hasK L k = false ∧ hasK L' k = true ∧ dataOf L' k = d) ∨ (putE L k d ≠ 0 ∧ L' = L)) :=
  (put22_any lo g b n L k d A m c hk hd hn w hlo h hr).mono fun e w' ⟨h1, h2⟩ => by
    rcases h2 with ⟨h2, rfl⟩ | ⟨h2, v, h3, h4⟩
    · obtain ⟨D, ho, hrel⟩ := h.out.own
      exact ⟨L, h1, Lib.hid ⟨h.out.blk, h.out.gl, h.out.bl, ⟨D, ho.mono (by omega), hrel⟩, h.out.rows, h.out.ok⟩, Upd.refl _ _, by omega, .inr ⟨h2, rfl⟩⟩
    · exact ⟨_, h1, h3, h4, by simp, .inl ⟨h2, putE_has h2, hasK_snoc _ _ _ _, dataOf_snoc (putE_has h2) _ _⟩⟩
theorem del22_all (lo g b n : Nat) (L : List En) (k : List UInt8) (hk : k.length ≤ maxLen) (w : World) (h : Hid (Md w lo g b n L)) :
    Calls Try.prog 9 #[.pointer (some ⟨g, 0, none⟩), .string (bs k)] w fun e w' => ∃ z L', e = .returned (.int .i64 z) ∧ (z == 0) = hasK L k ∧ hasK L' k = false ∧ L'.length ≤ L.length ∧ Hid (Md w' lo g b n L') ∧ Upd (· = b) w w' :=
  (del22_any lo g b n L k hk w h).mono fun e w' hp => by
    rcases hp with ⟨h1, h2, rfl⟩ | ⟨h1, h2, h3, h4⟩
    · exact ⟨5, L, h2, by rw [h1]; rfl, h1, Nat.le_refl _, h, Upd.refl _ _⟩
    · exact ⟨0, delK L k, h2, by rw [h1]; rfl, hasK_delK L k, List.length_filter_le _ _, h3, h4⟩
/-- the keys rise -/
theorem keysL_lt {L : List En} (h : Dist L) {i : Nat} {x y : List UInt8} (hx : (keysL L)[i]? = some x) (hy : (keysL L)[i + 1]? = some y) : x < y := by
  have hs : (keysL L).Pairwise (fun a b => leB a b = true) := by
    unfold keysL
    exact List.pairwise_mergeSort (fun a b c h1 h2 => by
      simp only [decide_eq_true_eq] at *
      exact List.le_trans h1 h2) (fun a b => by
      simp only [Bool.or_eq_true, decide_eq_true_eq]
      exact List.le_total a b) _
  have hn : (keysL L).Nodup := by
    unfold keysL
    exact (List.mergeSort_perm _ _).nodup_iff.mpr (List.pairwise_map.mpr h)
  obtain ⟨hi1, e1⟩ := List.getElem?_eq_some_iff.mp hx
  obtain ⟨hi2, e2⟩ := List.getElem?_eq_some_iff.mp hy
  have h1 := List.pairwise_iff_getElem.mp hs i (i + 1) hi1 hi2 (by omega)
  have h2 := List.pairwise_iff_getElem.mp hn i (i + 1) hi1 hi2 (by omega)
  rw [e1, e2] at h1 h2
  simp only [decide_eq_true_eq] at h1
  exact Classical.byContradiction fun hc => h2 (List.le_antisymm h1 (List.not_lt.mp hc))
end Go.Proofs.Ytipdjchgdhfciaa
