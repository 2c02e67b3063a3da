/- Rows of integers: as lists of cells, appended. -/
import Derived.Test.YtppclmidnomkjabChecked
import Derived.Test.YtppclmidnomkjabTab
namespace Go.Proofs.Ytppclmidnomkjab
set_option linter.unusedVariables false
open Go Go.RowKit

/-- the first n rows of s, one behind the other -/
def flat (n s : Nat) (F : Nat → Nat → Int) : List Int := (List.range (n * s)).map (fun k => F (k / s) (k % s))
theorem flat_length (n s : Nat) (F : Nat → Nat → Int) : (flat n s F).length = n * s := by unfold flat; simp
def vi (z : Int) : Value := .int .i64 z
theorem vi_one (l : List Int) : ∀ u ∈ l.map vi, u.oneCell' = true := by
  intro u hu
  obtain ⟨x, _, rfl⟩ := List.mem_map.mp hu
  rfl
theorem add_flat' (b o k : Nat) : (⟨b, o, none⟩ : Addr).add k = ⟨b, o + k, none⟩ := by
  unfold Addr.add
  split
  · rename_i h; subst h; rfl
  · rfl
theorem Tab.reads {w : World} {B s n : Nat} {A : Option Addr} {F : Nat → Nat → Int} (hs : 0 < s) (h : Tab w B s A n F) : Reads w B s A n ((flat n s F).map vi) := by
  refine ⟨by rw [List.length_map, flat_length], fun hn => ?_⟩
  obtain ⟨b, o, rfl, hb, hc⟩ := h.1 hn
  refine ⟨_, rfl, hb, fun j u hj => ?_⟩
  rw [List.getElem?_map, Option.map_eq_some_iff] at hj
  obtain ⟨z, hz, rfl⟩ := hj
  have hlt : j < n * s := by
    have := (List.getElem?_eq_some_iff.mp hz).1
    rwa [flat_length] at this
  unfold flat at hz
  rw [List.getElem?_map, List.getElem?_range hlt] at hz
  injection hz with hz
  rw [add_flat', ← hz]
  have := hc (j / s) (j % s) (Nat.div_lt_of_lt_mul (by rw [Nat.mul_comm]; exact hlt)) (Nat.mod_lt _ hs)
  have e : o + j = o + j / s * s + j % s := by
    have := Nat.div_add_mod j s
    rw [Nat.mul_comm] at this
    omega
  rw [e]
  exact this
theorem Tab.range {w : World} {B s n : Nat} {A : Option Addr} {F : Nat → Nat → Int} (hs : 0 < s) (h : Tab w B s A n F) : ∀ z ∈ flat n s F, I64 z := by
  intro z hz
  unfold flat at hz
  obtain ⟨k, hk, rfl⟩ := List.mem_map.mp hz
  rw [List.mem_range] at hk
  exact h.2 _ _ (Nat.div_lt_of_lt_mul (by rw [Nat.mul_comm]; exact hk)) (Nat.mod_lt _ hs)
/-- a row of the call's own reads as rows of integers -/
theorem Tab.of_own {w : World} {base s n c : Nat} {e : TypeId} {A : Option Addr} {zs : List Int} (hz : ∀ z ∈ zs, I64 z) (h : w.ownsRow base e s (.slice A n c) n (zs.map vi)) : Tab w w.heap.size s A n (litF zs s) := by
  have hr := Reads.of_own h
  have hl : zs.length = n * s := by have := h.1; rwa [List.length_map] at this
  have hlt : ∀ i j, i < n → j < s → i * s + j < zs.length := fun i j hi hj => by
    rw [hl]
    calc i * s + j < i * s + s := by omega
      _ = (i + 1) * s := by rw [Nat.add_mul, Nat.one_mul]
      _ ≤ n * s := Nat.mul_le_mul_right _ hi
  refine ⟨fun hn => ?_, fun i j hi hj => ?_⟩
  · rcases h.2 with ⟨-, h0⟩ | ⟨g, cap, cur, hv, -, hh, -⟩
    · omega
    · injection hv with hA
      subst hA
      obtain ⟨ad, he, hb, hc⟩ := hr.2 hn
      injection he with he
      subst he
      refine ⟨g, 0, rfl, hb, fun i j hi hj => ?_⟩
      have h1 := hlt i j hi hj
      have := hc (i * s + j) (vi (zs[i * s + j])) (by rw [List.getElem?_map, List.getElem?_eq_getElem h1]; rfl)
      rw [add_flat'] at this
      unfold litF
      rw [List.getD_eq_getElem?_getD, List.getElem?_eq_getElem h1, Nat.add_assoc]
      exact this
  · have h1 := hlt i j hi hj
    unfold litF
    rw [List.getD_eq_getElem?_getD, List.getElem?_eq_getElem h1]
    exact hz _ (List.getElem_mem h1)
/-- what a composite literal makes -/
theorem own_lit (w : World) (base : Nat) (hb : base ≤ w.heap.size) (e : TypeId) (cs : Array Value) (n s : Nat) (hn : cs.size = n * s) (hm : n ≤ maxLen) : (w.alloc (.cells cs e)).ownsRow base e s (.slice (some ⟨w.heap.size, 0, none⟩) n n) n cs.toList :=
  ⟨by simpa using hn, .inr ⟨w.heap.size, n, cs, rfl, hb, heap_alloc_new w _, Nat.le_refl _, hm, hn, by rw [← hn, ← Array.length_toList, List.take_length]⟩⟩
end Go.Proofs.Ytppclmidnomkjab
