/- dig: what it shares with rs, under names of its own. -/
import Derived.LoopTactic
import Derived.WalkSpells
import Derived.Deep.DeepMust
import Derived.Deep.QuietTactic
import Derived.BigQuiet
import Derived.Test.YtpeilgeloaogfaaChunk2
namespace Go.Proofs.Ytpeilgeloaogfaa
set_option linter.unusedVariables false
set_option linter.unusedSimpArgs false
open Go Go.RowKit
set_option maxHeartbeats 4000000 in
set_option maxRecDepth 20000 in
theorem chunk_anyD (A : Option Addr) (n c m : Nat) (hm : 1 ≤ m) (w : World) :
    Calls Try.prog 89 #[.slice A n c, .int .i64 m] w fun e w' => e = .returned (.func (.func 120) #[] #[.pointer (some ⟨w.heap.size, 0, none⟩), .pointer (some ⟨w.heap.size + 1, 0, none⟩)]) ∧ w' = (w.alloc (.cells #[.slice A n c] 29)).alloc (.cells #[.int .i64 m] 3) := by
  have d1 : decide ((m : Int) < 1) = false := decide_eq_false (by omega)
  go_enter Try.func89, Try.ntmps89
  go_wp2_with fail
  go_ret
  exact ⟨rfl, rfl⟩
theorem rd_flatD {w : World} {B : Nat} {A : Option Addr} {l : List UInt8} (h : Rd w B A l) (hl : 0 < l.length) : ∃ b o, A = some ⟨b, o, none⟩ ∧ b < B ∧ ∀ (j : Nat) (u : UInt8), l[j]? = some u → w.cell? ⟨b, o + j, none⟩ = some (.int .u8 (U u)) := by
  obtain ⟨ad, rfl, hb, hc⟩ := h.2 (by simpa using hl)
  obtain ⟨b, o, s⟩ := ad
  have e : s = none := by
    have h0 := hc 0 (vb (l[0]'hl)) (by simp [hl])
    cases s with
    | none => rfl
    | some s =>
      exfalso
      have e : (⟨b, o, some s⟩ : Addr).add 0 = ⟨b, o, some s⟩ := by unfold Addr.add; rw [if_pos rfl]
      rw [e] at h0
      unfold World.cell? at h0
      simp only [Option.isSome_some, if_true] at h0
      split at h0 <;> cases h0
  subst e
  refine ⟨b, o, rfl, hb, fun j u hu => ?_⟩
  have h1 := hc j (vb u) (by rw [List.getElem?_map, hu]; rfl)
  rw [show (⟨b, o, none⟩ : Addr).add j = ⟨b, o + j, none⟩ from by unfold Addr.add; split <;> simp_all] at h1
  exact h1
/-- the parts of bytes, as a matrix -/
def partMD (m : Nat) (l : List UInt8) : Mx := fun k j => l.getD (k * m + j) 0
theorem rd_partD {w : World} {B b o : Nat} {l : List UInt8} (hb : b < B) (h : ∀ (j : Nat) (u : UInt8), l[j]? = some u → w.cell? ⟨b, o + j, none⟩ = some (.int .u8 (U u))) {k m : Nat} (hk : k * m + m ≤ l.length) : Rd w B (some ⟨b, o + k * m, none⟩) (row m (partMD m l k)) := by
  refine ⟨by simp, fun _ => ⟨_, rfl, hb, fun j u hu => ?_⟩⟩
  rw [List.getElem?_map, Option.map_eq_some_iff] at hu
  obtain ⟨x, hx, rfl⟩ := hu
  have hj : j < m := by have := (List.getElem?_eq_some_iff.mp hx).1; rwa [row_length] at this
  rw [row_get hj] at hx
  injection hx with hx
  rw [show (⟨b, o + k * m, none⟩ : Addr).add j = ⟨b, o + k * m + j, none⟩ from by unfold Addr.add; split <;> simp_all]
  have h1 := h (k * m + j) (l[k * m + j]'(by omega)) (List.getElem?_eq_getElem (by omega))
  rw [Nat.add_assoc, h1, ← hx]
  unfold partMD
  rw [List.getD_eq_getElem?_getD, List.getElem?_eq_getElem (by omega)]
  rfl
theorem row_snocD (k : Nat) (f : Nat → UInt8) : row k f ++ [f k] = row (k + 1) f := by unfold row; rw [List.range_succ, List.map_append]; rfl
theorem pow_castD (n : Nat) : (2 : Int) ^ n = ((2 ^ n : Nat) : Int) := by simp
theorem below_rowD {w w1 w' : World} {B : Nat} {v : Value} {l : List UInt8} (ho : OB w B v l) (hb : Below B w1 w) (hs : B ≤ w.heap.size) (hg : w.grownBy w' v.ownBlock) : Below B w1 w' := hb.grown hg hs ho.up
end Go.Proofs.Ytpeilgeloaogfaa
