/- Rows of integers in memory. -/
import Derived.Test.YtiliggleplpjbaaMem
namespace Go.Proofs.Ytiliggleplpjbaa
set_option linter.unusedVariables false
open Go Go.RowKit

def I64 (z : Int) : Prop := -9223372036854775808 ≤ z ∧ z ≤ 9223372036854775807
/-- n rows of s integers lie from cell o of block b on -/
def TabAt (w : World) (b o s n : Nat) (F : Nat → Nat → Int) : Prop := ∀ i j, i < n → j < s → w.cell? ⟨b, o + i * s + j, none⟩ = some (.int .i64 (F i j))
/-- n rows of s integers lie behind A, below block B -/
def Tab (w : World) (B s : Nat) (A : Option Addr) (n : Nat) (F : Nat → Nat → Int) : Prop :=
  (0 < n → ∃ b o, A = some ⟨b, o, none⟩ ∧ b < B ∧ TabAt w b o s n F) ∧ ∀ i j, i < n → j < s → I64 (F i j)
section
variable {w w' : World} {B B' s n b o : Nat} {A : Option Addr} {F : Nat → Nat → Int}
theorem TabAt.keep (h : TabAt w b o s n F) (hk : ∀ p : Addr, p.block = b → w'.cell? p = w.cell? p) : TabAt w' b o s n F := fun i j hi hj => (hk _ rfl).trans (h i j hi hj)
theorem TabAt.below (h : TabAt w b o s n F) (hB : b < B) (hb : Below B w w') : TabAt w' b o s n F := h.keep fun _ hp => hb.cell (by rw [hp]; exact hB)
theorem TabAt.one {i j : Nat} (h : TabAt w b o s n F) (hi : i < n) (hj : j < s) : w.cell? ⟨b, o + i * s + j, none⟩ = some (.int .i64 (F i j)) := h i j hi hj
theorem TabAt.row6 {i : Nat} (h : TabAt w b o 6 n F) (hi : i < n) : w.cell? ⟨b, o + i * 6, none⟩ = some (.int .i64 (F i 0)) ∧ w.cell? ⟨b, o + i * 6 + 1, none⟩ = some (.int .i64 (F i 1)) ∧ w.cell? ⟨b, o + i * 6 + 2, none⟩ = some (.int .i64 (F i 2)) ∧
    w.cell? ⟨b, o + i * 6 + 3, none⟩ = some (.int .i64 (F i 3)) ∧ w.cell? ⟨b, o + i * 6 + 4, none⟩ = some (.int .i64 (F i 4)) ∧ w.cell? ⟨b, o + i * 6 + 5, none⟩ = some (.int .i64 (F i 5)) :=
  ⟨h i 0 hi (by omega), h i 1 hi (by omega), h i 2 hi (by omega), h i 3 hi (by omega), h i 4 hi (by omega), h i 5 hi (by omega)⟩
theorem TabAt.row2 {i : Nat} (h : TabAt w b o 2 n F) (hi : i < n) : w.cell? ⟨b, o + i * 2, none⟩ = some (.int .i64 (F i 0)) ∧ w.cell? ⟨b, o + i * 2 + 1, none⟩ = some (.int .i64 (F i 1)) :=
  ⟨h i 0 hi (by omega), h i 1 hi (by omega)⟩
theorem Tab.keep (h : Tab w B s A n F) (hk : ∀ p : Addr, p.block < B → w'.cell? p = w.cell? p) : Tab w' B s A n F := ⟨fun hn => by
  obtain ⟨b, o, rfl, hb, hc⟩ := h.1 hn
  exact ⟨b, o, rfl, hb, hc.keep fun p hp => hk p (by rw [hp]; exact hb)⟩, h.2⟩
theorem Tab.below (h : Tab w B s A n F) (hb : Below B w w') : Tab w' B s A n F := h.keep fun _ hp => hb.cell hp
theorem Tab.more (h : Tab w B s A n F) (hB : B ≤ B') : Tab w B' s A n F := ⟨fun hn => by
  obtain ⟨b, o, rfl, hb, hc⟩ := h.1 hn
  exact ⟨b, o, rfl, by omega, hc⟩, h.2⟩
theorem Tab.up (h : Tab w w.heap.size s A n F) (hb : Below w.heap.size w w') : Tab w' w'.heap.size s A n F := (h.below hb).more hb.size
theorem Tab.alloc (h : Tab w B s A n F) (hB : B ≤ w.heap.size) (o : Obj) : Tab (w.alloc o) B s A n F := h.keep fun p hp => World.cell?_alloc_lt w o p (by omega)
theorem Tab.take (h : Tab w B s A n F) {m : Nat} (hm : m ≤ n) : Tab w B s A m F := ⟨fun hn => by
  obtain ⟨b, o, rfl, hb, hc⟩ := h.1 (by omega)
  exact ⟨b, o, rfl, hb, fun i j hi hj => hc i j (by omega) hj⟩, fun i j hi hj => h.2 i j (by omega) hj⟩
theorem Tab.nil (w : World) (B s : Nat) (A : Option Addr) (F : Nat → Nat → Int) : Tab w B s A 0 F := ⟨fun h => absurd h (by omega), fun i j h => absurd h (by omega)⟩
end
theorem cell_new (w : World) (cs : Array Value) (t : TypeId) {j : Nat} {v : Value} (hj : cs[j]? = some v) : (w.alloc (.cells cs t)).cell? ⟨w.heap.size, j, none⟩ = some v := by
  unfold World.cell?
  rw [heap_alloc_new]
  exact hj
def litF (l : List Int) (s : Nat) : Nat → Nat → Int := fun i j => l.getD (i * s + j) 0
theorem Tab.lit (w : World) (l : List Int) (s n : Nat) (hl : l.length = n * s) (hr : ∀ z ∈ l, I64 z) (cs : Array Value) (hcs : cs = (l.map (Value.int .i64)).toArray) (t : TypeId) (B : Nat) (hB : w.heap.size < B) :
    Tab (w.alloc (.cells cs t)) B s (some ⟨w.heap.size, 0, none⟩) n (litF l s) := by
  have hlt : ∀ i j, i < n → j < s → i * s + j < l.length := fun i j hi hj => by
    rw [hl]
    calc i * s + j < i * s + s := by omega
      _ = (i + 1) * s := by rw [Nat.add_mul, Nat.one_mul]
      _ ≤ n * s := Nat.mul_le_mul_right _ hi
  refine ⟨fun _ => ⟨_, _, rfl, hB, fun i j hi hj => ?_⟩, fun i j hi hj => ?_⟩
  · have h := hlt i j hi hj
    refine cell_new w cs t ?_
    subst hcs
    unfold litF
    rw [Nat.zero_add, List.getElem?_toArray, List.getElem?_map, List.getElem?_eq_getElem h, List.getD_eq_getElem?_getD, List.getElem?_eq_getElem h]
    rfl
  · have h := hlt i j hi hj
    unfold litF
    rw [List.getD_eq_getElem?_getD, List.getElem?_eq_getElem h]
    exact hr _ (List.getElem_mem h)
end Go.Proofs.Ytiliggleplpjbaa
