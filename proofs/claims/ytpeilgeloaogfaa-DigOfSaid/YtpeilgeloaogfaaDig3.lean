/- dig: arrays of words; the rounds' numbers. -/
import Derived.Test.YtpeilgeloaogfaaDig2
import Derived.Deep.MidRow
import Derived.Deep.DeepCutAuto
namespace Go.Proofs.Ytpeilgeloaogfaa
set_option linter.unusedVariables false
set_option linter.unusedSimpArgs false
open Go Go.RowKit
def wcells (n : Nat) (f : Nat → BitVec 32) : List Value := (List.range n).map (fun i => Value.int .u32 (W (f i)))
theorem wcells_length (n : Nat) (f : Nat → BitVec 32) : (wcells n f).length = n := by unfold wcells; simp
theorem wcells_get {n i : Nat} (h : i < n) (f : Nat → BitVec 32) : (wcells n f)[i]? = some (.int .u32 (W (f i))) := by unfold wcells; simp [h]
/-- block g is an array of n words -/
def Ar (w : World) (g : Nat) (t : TypeId) (n : Nat) (f : Nat → BitVec 32) : Prop := w.heap[g]? = some (.cells (wcells n f).toArray t (0, 0))
theorem there_of {w : World} {g : Nat} {cs : Array Value} {t : TypeId} (h : w.heap[g]? = some (.cells cs t (0, 0))) {n : Nat} (hn : n ≤ cs.size) : w.there g 0 n := fun j hj => by
  rw [Nat.zero_add]
  refine ⟨?_, blk_free h j⟩
  rw [blk_cell h (Array.getElem?_eq_getElem (show j < cs.size by omega))]
  rfl
theorem setCells_heap {b : Nat} {t : TypeId} : ∀ (vs : List Value) (o : Nat) (w : World) (cs : Array Value), w.heap[b]? = some (.cells cs t (0, 0)) → o + vs.length ≤ cs.size →
    ∃ cs' : Array Value, (w.setCells b o vs).heap[b]? = some (.cells cs' t (0, 0)) ∧ cs'.size = cs.size ∧ (∀ j, j < vs.length → cs'[o + j]? = vs[j]?) ∧ ∀ j, j < o → cs'[j]? = cs[j]?
  | [], o, w, cs, h, _ => ⟨cs, h, rfl, fun j hj => absurd hj (by simp), fun j _ => rfl⟩
  | v :: r, o, w, cs, h, hl => by
    have hl' : o + (r.length + 1) ≤ cs.size := by simpa using hl
    obtain ⟨cs', h1, h2, h3, h4⟩ := setCells_heap r (o + 1) (w.setCell ⟨b, o, none⟩ v) (cs.setIfInBounds o v) (blk_set h o v) (by simp; omega)
    refine ⟨cs', h1, by simpa using h2, fun j hj => ?_, fun j hj => ?_⟩
    · cases j with
      | zero =>
        rw [Nat.add_zero, h4 o (by omega)]
        simp [show o < cs.size by omega]
      | succ j =>
        have := h3 j (by simpa using hj)
        rw [show o + (j + 1) = o + 1 + j by omega, this]
        rfl
    · rw [h4 j (by omega), Array.getElem?_setIfInBounds_ne (by omega)]
theorem Ar.of_store {w : World} {g : Nat} {t : TypeId} {n : Nat} {cs : Array Value} {f : Nat → BitVec 32} (h : w.heap[g]? = some (.cells cs t (0, 0))) (hn : cs.size = n) : Ar (w.setCells g 0 (wcells n f)) g t n f := by
  obtain ⟨cs', h1, h2, h3, -⟩ := setCells_heap (wcells n f) 0 w cs h (by rw [wcells_length]; omega)
  unfold Ar
  rw [h1]
  congr 2
  refine Array.ext (by rw [h2, hn]; simp [wcells_length]) (fun i i1 i2 => ?_)
  have h9 := h3 i (by rw [wcells_length]; omega)
  rw [Nat.zero_add, Array.getElem?_eq_getElem i1] at h9
  have h10 : (wcells n f)[i]? = some ((wcells n f).toArray[i]) := by
    rw [List.getElem?_eq_getElem (by simpa using i2)]
    simp
  rw [h10] at h9
  injection h9
theorem setCells_other {b k : Nat} (hk : k ≠ b) : ∀ (vs : List Value) (o : Nat) (w : World), (w.setCells b o vs).heap[k]? = w.heap[k]? ∧ (w.setCells b o vs).heap.size = w.heap.size ∧ (w.setCells b o vs).os = w.os ∧ (w.setCells b o vs).tape = w.tape ∧ (w.setCells b o vs).output = w.output
  | [], o, w => ⟨rfl, rfl, rfl, rfl, rfl⟩
  | v :: r, o, w => by
    obtain ⟨h1, h2, h3, h4, h5⟩ := setCells_other hk r (o + 1) (w.setCell ⟨b, o, none⟩ v)
    exact ⟨h1.trans (blk_other hk o v), by rw [show (w.setCells b o (v :: r)).heap.size = ((w.setCell ⟨b, o, none⟩ v).setCells b (o + 1) r).heap.size from rfl, h2]; simp, h3, h4, h5⟩
theorem below_setCells {B b : Nat} {w0 w : World} (h : Below B w0 w) (hb : B ≤ b) (o : Nat) (vs : List Value) : Below B w0 (w.setCells b o vs) := by
  obtain ⟨-, h2, h3, h4, h5⟩ := setCells_other (b := b) (k := b + 1) (by omega) vs o w
  exact h.trans ⟨h3, h4, h5, by omega, fun k hk => (setCells_other (by omega) vs o w).1⟩
theorem Ar.range {w : World} {g n : Nat} {t : TypeId} {f : Nat → BitVec 32} (h : Ar w g t n f) : w.rangeAt g 0 (wcells n f) := fun j v hv => by
  rw [Nat.zero_add]
  exact blk_cell h (by simpa using hv)
def kList : List (BitVec 32) := [0x428a2f98#32, 0x71374491#32, 0xb5c0fbcf#32, 0xe9b5dba5#32, 0x3956c25b#32, 0x59f111f1#32, 0x923f82a4#32, 0xab1c5ed5#32, 0xd807aa98#32, 0x12835b01#32, 0x243185be#32, 0x550c7dc3#32, 0x72be5d74#32, 0x80deb1fe#32, 0x9bdc06a7#32, 0xc19bf174#32, 0xe49b69c1#32, 0xefbe4786#32, 0x0fc19dc6#32, 0x240ca1cc#32, 0x2de92c6f#32, 0x4a7484aa#32, 0x5cb0a9dc#32, 0x76f988da#32, 0x983e5152#32, 0xa831c66d#32, 0xb00327c8#32, 0xbf597fc7#32, 0xc6e00bf3#32, 0xd5a79147#32, 0x06ca6351#32, 0x14292967#32, 0x27b70a85#32, 0x2e1b2138#32, 0x4d2c6dfc#32, 0x53380d13#32, 0x650a7354#32, 0x766a0abb#32, 0x81c2c92e#32, 0x92722c85#32, 0xa2bfe8a1#32, 0xa81a664b#32, 0xc24b8b70#32, 0xc76c51a3#32, 0xd192e819#32, 0xd6990624#32, 0xf40e3585#32, 0x106aa070#32, 0x19a4c116#32, 0x1e376c08#32, 0x2748774c#32, 0x34b0bcb5#32, 0x391c0cb3#32, 0x4ed8aa4a#32, 0x5b9cca4f#32, 0x682e6ff3#32, 0x748f82ee#32, 0x78a5636f#32, 0x84c87814#32, 0x8cc70208#32, 0x90befffa#32, 0xa4506ceb#32, 0xbef9a3f7#32, 0xc67178f2#32]
def kF (i : Nat) : BitVec 32 := kList.getD i 0
theorem kcells : (#[.int .u32 1116352408, .int .u32 1899447441, .int .u32 3049323471, .int .u32 3921009573, .int .u32 961987163, .int .u32 1508970993, .int .u32 2453635748, .int .u32 2870763221, .int .u32 3624381080, .int .u32 310598401, .int .u32 607225278, .int .u32 1426881987, .int .u32 1925078388, .int .u32 2162078206, .int .u32 2614888103, .int .u32 3248222580, .int .u32 3835390401, .int .u32 4022224774, .int .u32 264347078, .int .u32 604807628, .int .u32 770255983, .int .u32 1249150122, .int .u32 1555081692, .int .u32 1996064986, .int .u32 2554220882, .int .u32 2821834349, .int .u32 2952996808, .int .u32 3210313671, .int .u32 3336571891, .int .u32 3584528711, .int .u32 113926993, .int .u32 338241895, .int .u32 666307205, .int .u32 773529912, .int .u32 1294757372, .int .u32 1396182291, .int .u32 1695183700, .int .u32 1986661051, .int .u32 2177026350, .int .u32 2456956037, .int .u32 2730485921, .int .u32 2820302411, .int .u32 3259730800, .int .u32 3345764771, .int .u32 3516065817, .int .u32 3600352804, .int .u32 4094571909, .int .u32 275423344, .int .u32 430227734, .int .u32 506948616, .int .u32 659060556, .int .u32 883997877, .int .u32 958139571, .int .u32 1322822218, .int .u32 1537002063, .int .u32 1747873779, .int .u32 1955562222, .int .u32 2024104815, .int .u32 2227730452, .int .u32 2361852424, .int .u32 2428436474, .int .u32 2756734187, .int .u32 3204031479, .int .u32 3329325298] : Array Value) = (wcells 64 kF).toArray := by kernel_rfl
theorem info_k : (Try.prog.info? 116).map (·.size) = some 64 := by kernel_rfl
theorem wcells_one (n : Nat) (f : Nat → BitVec 32) : ∀ v ∈ wcells n f, v.oneCell' = true := fun v hv => by
  unfold wcells at hv
  obtain ⟨i, -, rfl⟩ := List.mem_map.1 hv
  rfl
theorem results_cell {P : Program} {fn : Func} {tmps : Array Value} {w : World} {k : Nat} {t : TypeId} {a : Addr} {v : Value} (hr : fn.results = #[.cell k t]) (hk : tmps.getD k undef = .pointer (some a)) (hl : (loadVar t a).run P w = .ok v w) : (results fn tmps).run P w = .ok v w := by
  have hk' : tmps[k]?.getD undef = .pointer (some a) := by rw [← hk]; simp
  have ha : (asAddr (.pointer (some a))).run P w = .ok a w := rfl
  simp [results, hr, hk', ha, hl]
theorem build_to {P : Program} {ops : Array Oper} {rest : List Oper} {o : Oper} {a : Act} {w : World} {Q : Exit → Act → World → Prop} {cells : Array Value} (hg : o.guard = none) (t : TypeId) (parts : Array (Nat × Operand)) (ho : o.op = .build t parts)
    (hc : P.built t (parts.map fun (i, x) => (i, a.eval x)).toList = some cells) (h : wpList P ops Q rest (a.put o.dst (.agg cells)) w) : wpList P ops Q (o :: rest) a w :=
  wpList_build hg t parts ho (by rw [hc]; rfl) (by rw [hc]; exact h)
set_option maxHeartbeats 4000000 in
set_option maxRecDepth 20000 in
theorem roundNumbers_any (w : World) : Calls Try.prog 94 #[] w fun e w' => e = .returned (.agg (wcells 64 kF).toArray) ∧ Gr w w' := by
  have hz : (w.alloc (.cells (Array.replicate 64 (.int .u32 0)) 116)).heap[w.heap.size]? = some (.cells (Array.replicate 64 (.int .u32 0)) 116 (0, 0)) := heap_alloc_new w _
  have hq : Below w.heap.size w (w.alloc (.cells (Array.replicate 64 (.int .u32 0)) 116)) := (Below.refl _ _).alloc (Nat.le_refl _) _
  have ht := there_of hz (n := 64) (by simp)
  have hA := Ar.of_store (n := 64) (f := kF) hz (by simp)
  have hq2 := below_setCells (b := w.heap.size) hq (Nat.le_refl _) 0 (wcells 64 kF)
  go_enter Try.func94, Try.ntmps94
  go_upto_region 1 with (fail)
  rw [show (#[.int .u32 0, .int .u32 0, .int .u32 0, .int .u32 0, .int .u32 0, .int .u32 0, .int .u32 0, .int .u32 0, .int .u32 0, .int .u32 0, .int .u32 0, .int .u32 0, .int .u32 0, .int .u32 0, .int .u32 0, .int .u32 0, .int .u32 0, .int .u32 0, .int .u32 0, .int .u32 0, .int .u32 0, .int .u32 0, .int .u32 0, .int .u32 0, .int .u32 0, .int .u32 0, .int .u32 0, .int .u32 0, .int .u32 0, .int .u32 0, .int .u32 0, .int .u32 0, .int .u32 0, .int .u32 0, .int .u32 0, .int .u32 0, .int .u32 0, .int .u32 0, .int .u32 0, .int .u32 0, .int .u32 0, .int .u32 0, .int .u32 0, .int .u32 0, .int .u32 0, .int .u32 0, .int .u32 0, .int .u32 0, .int .u32 0, .int .u32 0, .int .u32 0, .int .u32 0, .int .u32 0, .int .u32 0, .int .u32 0, .int .u32 0, .int .u32 0, .int .u32 0, .int .u32 0, .int .u32 0, .int .u32 0, .int .u32 0, .int .u32 0, .int .u32 0] : Array Value) = Array.replicate 64 (.int .u32 0) from rfl]
  obtain ⟨w1, hw1⟩ : ∃ x, w.alloc (.cells (Array.replicate 64 (.int .u32 0)) 116) = x := ⟨_, rfl⟩
  rw [hw1] at hz hq ht hA hq2 ⊢
  replace hw1 := Lib.hid hw1
  replace hA := Lib.hid hA
  replace hq2 := Lib.hid hq2
  replace ht := Lib.hid ht
  clear hz hq
  have h1 : (wcells 64 kF).toArray.all (·.oneCell') = true := all_oneCell_toArray (wcells_one 64 kF)
  have h2 : (wcells 64 kF).toArray.size = 64 := by rw [List.size_toArray, wcells_length]
  have h3 : (wcells 64 kF).toArray.toList = wcells 64 kF := rfl
  refine wp_region_lit ?_
  refine build_to (cells := (wcells 64 kF).toArray) rfl 116 _ rfl (by kernel_rfl) ?_
  generalize hcs : (wcells 64 kF).toArray = cs at h1 h2 h3 ⊢
  refine wpList_store_mid rfl 116 (.tmp 0) (.tmp 1) rfl w.heap.size 0 cs rfl rfl (by rw [h2]; exact ht.out) (by rw [h2]; exact info_k) h1 ?_
  rw [h3]
  refine wpList_nil ?_
  change Exit.then _ _ Exit.normal { tmps := #[.pointer (some ⟨w.heap.size, 0, none⟩), .agg cs], defers := [] } _
  go_wp2
  have hu : Try.prog.underlying 116 = some (.array 64 113) := by kernel_rfl
  have hl := run_loadVar_mid (P := Try.prog) _ w.heap.size 0 116 (wcells 64 kF) _ hA.out.range hu rfl (by rw [wcells_length]; exact info_k)
  exact bodyPost_ret (v := .agg (wcells 64 kF).toArray) (results_cell rfl rfl hl) rfl ⟨rfl, hq2.out⟩
end Go.Proofs.Ytpeilgeloaogfaa
