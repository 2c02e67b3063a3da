/- dig: what it shares with rs, under names of its own. -/
import Derived.LoopTactic
import Derived.WalkSpells
import Derived.Deep.DeepMust
import Derived.Deep.QuietTactic
import Derived.BigQuiet
import Derived.Test.YtdgkcgiknfjpjaaBaseB
import Derived.Test.YtdgkcgiknfjpjaaBaseA
import Derived.Deep.MidRow
import Derived.Deep.DeepCutAuto
namespace Go.Proofs.Ytdgkcgiknfjpjaa
set_option linter.unusedVariables false
set_option linter.unusedSimpArgs false
open Go Go.RowKit
set_option maxHeartbeats 4000000 in
set_option maxRecDepth 20000 in
theorem chunk_anyD (A : Option Addr) (n c m : Nat) (hm : 1 ≤ m) (w : World) :
    Calls Try.prog 63 #[.slice A n c, .int .i64 m] w fun e w' => e = .returned (.func (.func 91) #[] #[.pointer (some ⟨w.heap.size, 0, none⟩), .pointer (some ⟨w.heap.size + 1, 0, none⟩)]) ∧ w' = (w.alloc (.cells #[.slice A n c] 22)).alloc (.cells #[.int .i64 m] 3) := by
  have d1 : decide ((m : Int) < 1) = false := decide_eq_false (by omega)
  go_enter Try.func63, Try.ntmps63
  go_wp2_with fail
  go_ret
  exact ⟨rfl, rfl⟩
theorem rd_flatD {w : World} {B : Nat} {A : Option Addr} {l : List UInt8} (h : Rd w B A l) (hl : 0 < l.length) : ∃ b o, A = some ⟨b, o, none⟩ ∧ b < B ∧ ∀ (j : Nat) (u : UInt8), l[j]? = some u → w.cell? ⟨b, o + j, none⟩ = some (.int .u8 (U u)) := by
  obtain ⟨ad, rfl, hb, hc⟩ := h.2 (by simpa using hl)
  obtain ⟨b, o, s⟩ := ad
  have e : s = none := by
    have h0 := hc 0 (vb (l[0]'hl)) (by simp [hl])
    cases s with
    | none => rfl
    | some s =>
      exfalso
      have e : (⟨b, o, some s⟩ : Addr).add 0 = ⟨b, o, some s⟩ := by unfold Addr.add; rw [if_pos rfl]
      rw [e] at h0
      unfold World.cell? at h0
      simp only [Option.isSome_some, if_true] at h0
      split at h0 <;> cases h0
  subst e
  refine ⟨b, o, rfl, hb, fun j u hu => ?_⟩
  have h1 := hc j (vb u) (by rw [List.getElem?_map, hu]; rfl)
  rw [show (⟨b, o, none⟩ : Addr).add j = ⟨b, o + j, none⟩ from by unfold Addr.add; split <;> simp_all] at h1
  exact h1
/-- the parts of bytes, as a matrix -/
def partMD (m : Nat) (l : List UInt8) : Mx := fun k j => l.getD (k * m + j) 0
theorem rd_partD {w : World} {B b o : Nat} {l : List UInt8} (hb : b < B) (h : ∀ (j : Nat) (u : UInt8), l[j]? = some u → w.cell? ⟨b, o + j, none⟩ = some (.int .u8 (U u))) {k m : Nat} (hk : k * m + m ≤ l.length) : Rd w B (some ⟨b, o + k * m, none⟩) (row m (partMD m l k)) := by
  refine ⟨by simp, fun _ => ⟨_, rfl, hb, fun j u hu => ?_⟩⟩
  rw [List.getElem?_map, Option.map_eq_some_iff] at hu
  obtain ⟨x, hx, rfl⟩ := hu
  have hj : j < m := by have := (List.getElem?_eq_some_iff.mp hx).1; rwa [row_length] at this
  rw [row_get hj] at hx
  injection hx with hx
  rw [show (⟨b, o + k * m, none⟩ : Addr).add j = ⟨b, o + k * m + j, none⟩ from by unfold Addr.add; split <;> simp_all]
  have h1 := h (k * m + j) (l[k * m + j]'(by omega)) (List.getElem?_eq_getElem (by omega))
  rw [Nat.add_assoc, h1, ← hx]
  unfold partMD
  rw [List.getD_eq_getElem?_getD, List.getElem?_eq_getElem (by omega)]
  rfl
theorem row_snocD (k : Nat) (f : Nat → UInt8) : row k f ++ [f k] = row (k + 1) f := by unfold row; rw [List.range_succ, List.map_append]; rfl
theorem pow_castD (n : Nat) : (2 : Int) ^ n = ((2 ^ n : Nat) : Int) := by simp
theorem below_rowD {w w1 w' : World} {B : Nat} {v : Value} {l : List UInt8} (ho : OB w B v l) (hb : Below B w1 w) (hs : B ≤ w.heap.size) (hg : w.grownBy w' v.ownBlock) : Below B w1 w' := hb.grown hg hs ho.up
end Go.Proofs.Ytdgkcgiknfjpjaa
/- dig: short copies. -/
namespace Go.Proofs.Ytdgkcgiknfjpjaa
set_option linter.unusedVariables false
set_option linter.unusedSimpArgs false
open Go Go.RowKit
end Go.Proofs.Ytdgkcgiknfjpjaa
/- dig: the padded message. -/
namespace Go.Proofs.Ytdgkcgiknfjpjaa
set_option linter.unusedVariables false
set_option linter.unusedSimpArgs false
open Go Go.RowKit
def allN (n : Nat) : Nat := 64 * ((n + 72) / 64)
def atF (l : List UInt8) (all k : Nat) : UInt8 := if k < l.length then l.getD k 0 else if k = l.length then 128 else if all - 8 ≤ k then UInt8.ofNat (l.length * 8 / 2 ^ (8 * (all - 1 - k))) else 0
def msg (l : List UInt8) : List UInt8 := row (allN l.length) (atF l (allN l.length))
theorem msg_length (l : List UInt8) : (msg l).length = allN l.length := row_length _ _
theorem at_start (l : List UInt8) (all : Nat) : l ++ [128] = row (l.length + 1) (atF l all) := by
  rw [← row_snocD]
  have e1 : atF l all l.length = 128 := by unfold atF; rw [if_neg (by omega), if_pos rfl]
  have e2 : row l.length (atF l all) = l := by
    rw [row_congr (g := fun j => l.getD j 0) (fun j hj => by unfold atF; rw [if_pos hj])]
    exact row_of l
  rw [e1, e2]
theorem byte_conv (n s : Nat) : ((n : Int) * 8 / 2 ^ s % 256) = U (UInt8.ofNat (n * 8 / 2 ^ s)) := by
  unfold U
  rw [UInt8.toNat_ofNat']
  rw [pow_castD s]
  rfl
set_option maxHeartbeats 8000000 in
set_option maxRecDepth 20000 in
theorem message_any (A : Option Addr) (n c : Nat) (l : List UInt8) (hl : Hid (l.length = n)) (hn : n ≤ 100000) (w : World) (h : Hid (Rd w w.heap.size A l)) :
    Calls Try.prog 66 #[.slice A n c] w fun e w' => ∃ A' c', e = .returned (.slice A' (allN n) c') ∧ Hid (OB w' w.heap.size (.slice A' (allN n) c') (msg l)) ∧ Gr w w' := by
  have hcl := Lib.hid (clone_any A n c l hl.out (by omega) w h.out)
  have hal : Hid (n + 9 ≤ allN n ∧ allN n ≤ n + 72 ∧ 64 ≤ allN n ∧ ∀ k, n + 1 ≤ k → k ≤ allN n - 8 → (k % 64 = 56 ↔ k = allN n - 8)) := Lib.hid (by
    unfold allN
    refine ⟨by omega, by omega, by omega, fun k h1 h2 => ⟨fun h => by omega, fun h => by omega⟩⟩)
  have hst := Lib.hid (at_start l (allN n))
  rw [show msg l = row (allN n) (atF l (allN n)) from by unfold msg; rw [hl.out]]
  obtain ⟨al, hall⟩ : ∃ al, allN n = al := ⟨_, rfl⟩
  rw [hall] at hal hst ⊢
  replace hall := Lib.hid hall
  go_enter Try.func66, Try.ntmps66
  go_wp2_with fail
  refine hcl.out.mono ?_
  rintro e w1 ⟨v1, rfl, ho1, hr⟩
  obtain ⟨A1, c1, rfl, -, -, -, -⟩ := ho1.form
  rw [hl.out] at ho1 ⊢
  have hlit := Lib.hid (Rd.lit w1 #[.int .u8 (U 128)] 5 [128] rfl ((w1.alloc (.cells #[.int .u8 (U 128)] 5)).heap.size) (by simp))
  have ho2 := Lib.hid (ho1.alloc (.cells #[.int .u8 (U 128)] 5))
  have hb2 : w.heap.size ≤ (w1.alloc (.cells #[.int .u8 (U 128)] 5)).heap.size := by have := hr.size; simp; omega
  have hq2 : Hid (Below w.heap.size w (w1.alloc (.cells #[.int .u8 (U 128)] 5))) := Lib.hid (hr.alloc hr.size _)
  clear hcl ho1 hr
  go_wp2_with (at_builtin; go_must (refine wpl_append rfl (.tmp 7) (.tmp 8) rfl w.heap.size (.slice A1 n c1) l rfl ho2.out _ _ 1 [128] rfl hlit.out (by rw [hl.out]; simp; omega) hb2 ?_); intro v5 w5 ho5 hg5 _; have hq5 := Lib.hid (below_rowD ho2.out hq2.out hb2 hg5); rw [hst.out] at ho5; obtain ⟨A5, c5, rfl, -, -, -, -⟩ := ho5.form; rw [row_length, hl.out] at ho5 ⊢; replace ho5 := Lib.hid ho5; clear hg5)
  clear ho2 hlit hb2 hq2
  go_loopw [3] (fun v wr => ∃ (k : Nat) (A4 : Option Addr) (c4 : Nat), n + 1 ≤ k ∧ k ≤ al - 8 ∧ v = .slice A4 k c4 ∧ Hid (OB wr w.heap.size (.slice A4 k c4) (row k (atF l al))) ∧ Hid (Below w.heap.size w wr)) (fun v _ => match v with | .slice _ k _ => al - k | _ => 0)
  case atStart => exact ⟨n + 1, A5, c5, Nat.le_refl _, by have := hal.out.1; omega, rfl, ho5, hq5⟩
  case round =>
    obtain ⟨k, A4, c4, hk1, hk2, rfl, ho, hq⟩ := hrel
    clear ho5 hq5
    have hm : Int.tmod (k : Int) 64 = ((k % 64 : Nat) : Int) := Int.ofNat_tmod k 64
    have hiff := hal.out.2.2.2 k hk1 hk2
    by_cases h56 : k % 64 = 56
    · have hk : k = al - 8 := hiff.mp h56
      rw [h56] at hm
      replace h56 := Lib.hid h56
      replace hiff := Lib.hid hiff
      have hk' : Hid (k = al - 8) := Lib.hid hk
      clear hk
      go_wp2_with fail
      go_loopw [3, 5] (fun v s wr => ∃ (q t : Nat) (A4 : Option Addr) (c4 : Nat), t ≤ 8 ∧ s = .int .i64 (56 - 8 * (t : Int)) ∧ v = .slice A4 q c4 ∧ Hid (q = al - 8 + t) ∧ Hid (OB wr w.heap.size (.slice A4 q c4) (row q (atF l al))) ∧ Hid (Below w.heap.size w wr)) (fun _ s _ => (intOf s + 64).toNat)
      case atStart => exact ⟨k, 0, A4, c4, by omega, rfl, rfl, Lib.hid (by rw [hk'.out]; rfl), ho, hq⟩
      case round =>
        obtain ⟨q, t, A6, c6, ht, rfl, rfl, hqt, ho6, hq6⟩ := hrel
        clear ho hq
        by_cases h8 : t < 8
        · have i8 : (0 : Int) ≤ 56 - 8 * (t : Int) := by omega
          have hbv := byte_conv n (56 - 8 * t)
          obtain ⟨x, hx⟩ : ∃ x, UInt8.ofNat (n * 8 / 2 ^ (56 - 8 * t)) = x := ⟨_, rfl⟩
          rw [hx] at hbv
          have hat : Hid (atF l al q = x) := Lib.hid (by
            have h1 := hal.out
            have h2 := hqt.out
            unfold atF
            rw [hl.out, if_neg (by omega), if_neg (by omega), if_pos (by omega), show 8 * (al - 1 - q) = 56 - 8 * t from by omega, hx])
          replace hx := Lib.hid hx
          have hlit := Lib.hid (Rd.lit wr #[.int .u8 (U x)] 5 [x] rfl ((wr.alloc (.cells #[.int .u8 (U x)] 5)).heap.size) (by simp))
          have ho7 := Lib.hid (ho6.out.alloc (.cells #[.int .u8 (U x)] 5))
          have hq7 := Lib.hid (hq6.out.alloc hq6.out.size (.cells #[.int .u8 (U x)] 5))
          have hqq : Hid (q + 1 = al - 8 + (t + 1)) := Lib.hid (by rw [hqt.out]; rfl)
          have hbd : Hid ((row q (atF l al)).length + 1 ≤ 140737488355328) := Lib.hid (by
            have h1 := hal.out
            have h2 := hqt.out
            rw [row_length]; omega)
          go_wp2_with (at_builtin; go_must (refine wpl_append rfl (.tmp 25) (.tmp 30) rfl w.heap.size (.slice A6 q c6) (row q (atF l al)) rfl ho7.out _ _ 1 [x] rfl hlit.out hbd.out hq7.out.size ?_); intro v8 w8 ho8 hg8 _; have hq8 := Lib.hid (below_rowD ho7.out hq7.out hq7.out.size hg8); rw [← hat.out, row_snocD] at ho8; obtain ⟨A8, c8, rfl, -, -, -, -⟩ := ho8.form; rw [row_length] at ho8 ⊢; replace ho8 := Lib.hid ho8; clear hg8)
          go_roundw
          case rel => first | exact ⟨q + 1, t + 1, A8, c8, by omega, by congr 1; omega, rfl, hqq, ho8, hq8⟩ | ((repeat apply Exists.intro); exact ⟨⟨q + 1, t + 1, A8, c8, by omega, by congr 1; omega, rfl, hqq, ho8, hq8⟩, rfl⟩)
          case measure => simp [intOf]; omega
        · obtain rfl : t = 8 := by omega
          have hqa : q = al := by have h1 := hal.out; have h2 := hqt.out; omega
          subst hqa
          go_wp2_with fail
          go_ret
          exact ⟨A6, c6, rfl, ho6, hq6.out⟩
    · have hk : k < al - 8 := by
        rcases Nat.lt_or_ge k (al - 8) with h | h
        · exact h
        · exact absurd (hiff.mpr (by omega)) h56
      have hm2 : (((k % 64 : Nat) : Int) != 56) = true := by simp; omega
      have hat : Hid (atF l al k = 0) := Lib.hid (by
        unfold atF
        rw [hl.out, if_neg (by omega), if_neg (by omega), if_neg (by omega)])
      obtain ⟨r, hr⟩ : ∃ r, k % 64 = r := ⟨_, rfl⟩
      rw [hr] at hm hm2
      replace hr := Lib.hid hr
      replace h56 := Lib.hid h56
      replace hiff := Lib.hid hiff
      have hlit := Lib.hid (Rd.lit wr #[.int .u8 (U 0)] 5 [0] rfl ((wr.alloc (.cells #[.int .u8 (U 0)] 5)).heap.size) (by simp))
      have ho7 := Lib.hid (ho.out.alloc (.cells #[.int .u8 (U 0)] 5))
      have hq7 := Lib.hid (hq.out.alloc hq.out.size (.cells #[.int .u8 (U 0)] 5))
      have hbd : Hid ((row k (atF l al)).length + 1 ≤ 140737488355328) := Lib.hid (by
        have h1 := hal.out
        rw [row_length]; omega)
      go_wp2_with (at_builtin; go_must (refine wpl_append rfl (.tmp 14) (.tmp 15) rfl w.heap.size (.slice A4 k c4) (row k (atF l al)) rfl ho7.out _ _ 1 [0] rfl hlit.out hbd.out hq7.out.size ?_); intro v8 w8 ho8 hg8 _; have hq8 := Lib.hid (below_rowD ho7.out hq7.out hq7.out.size hg8); rw [← hat.out, row_snocD] at ho8; obtain ⟨A8, c8, rfl, -, -, -, -⟩ := ho8.form; rw [row_length] at ho8 ⊢; replace ho8 := Lib.hid ho8; clear hg8)
      go_roundw
      case rel => first | exact ⟨k + 1, A8, c8, by omega, by omega, rfl, ho8, hq8⟩ | ((repeat apply Exists.intro); exact ⟨⟨k + 1, A8, c8, by omega, by omega, rfl, ho8, hq8⟩, rfl⟩)
      case measure => simp only []; omega
end Go.Proofs.Ytdgkcgiknfjpjaa
/- dig: arrays of words; the rounds' numbers. -/
namespace Go.Proofs.Ytdgkcgiknfjpjaa
set_option linter.unusedVariables false
set_option linter.unusedSimpArgs false
open Go Go.RowKit
def wcells (n : Nat) (f : Nat → BitVec 32) : List Value := (List.range n).map (fun i => Value.int .u32 (W (f i)))
theorem wcells_length (n : Nat) (f : Nat → BitVec 32) : (wcells n f).length = n := by unfold wcells; simp
theorem wcells_get {n i : Nat} (h : i < n) (f : Nat → BitVec 32) : (wcells n f)[i]? = some (.int .u32 (W (f i))) := by unfold wcells; simp [h]
/-- block g is an array of n words -/
def Ar (w : World) (g : Nat) (t : TypeId) (n : Nat) (f : Nat → BitVec 32) : Prop := w.heap[g]? = some (.cells (wcells n f).toArray t (0, 0))
theorem there_of {w : World} {g : Nat} {cs : Array Value} {t : TypeId} (h : w.heap[g]? = some (.cells cs t (0, 0))) {n : Nat} (hn : n ≤ cs.size) : w.there g 0 n := fun j hj => by
  rw [Nat.zero_add]
  refine ⟨?_, blk_free h j⟩
  rw [blk_cell h (Array.getElem?_eq_getElem (show j < cs.size by omega))]
  rfl
theorem setCells_heap {b : Nat} {t : TypeId} : ∀ (vs : List Value) (o : Nat) (w : World) (cs : Array Value), w.heap[b]? = some (.cells cs t (0, 0)) → o + vs.length ≤ cs.size →
    ∃ cs' : Array Value, (w.setCells b o vs).heap[b]? = some (.cells cs' t (0, 0)) ∧ cs'.size = cs.size ∧ (∀ j, j < vs.length → cs'[o + j]? = vs[j]?) ∧ ∀ j, j < o → cs'[j]? = cs[j]?
  | [], o, w, cs, h, _ => ⟨cs, h, rfl, fun j hj => absurd hj (by simp), fun j _ => rfl⟩
  | v :: r, o, w, cs, h, hl => by
    have hl' : o + (r.length + 1) ≤ cs.size := by simpa using hl
    obtain ⟨cs', h1, h2, h3, h4⟩ := setCells_heap r (o + 1) (w.setCell ⟨b, o, none⟩ v) (cs.setIfInBounds o v) (blk_set h o v) (by simp; omega)
    refine ⟨cs', h1, by simpa using h2, fun j hj => ?_, fun j hj => ?_⟩
    · cases j with
      | zero =>
        rw [Nat.add_zero, h4 o (by omega)]
        simp [show o < cs.size by omega]
      | succ j =>
        have := h3 j (by simpa using hj)
        rw [show o + (j + 1) = o + 1 + j by omega, this]
        rfl
    · rw [h4 j (by omega), Array.getElem?_setIfInBounds_ne (by omega)]
theorem Ar.of_store {w : World} {g : Nat} {t : TypeId} {n : Nat} {cs : Array Value} {f : Nat → BitVec 32} (h : w.heap[g]? = some (.cells cs t (0, 0))) (hn : cs.size = n) : Ar (w.setCells g 0 (wcells n f)) g t n f := by
  obtain ⟨cs', h1, h2, h3, -⟩ := setCells_heap (wcells n f) 0 w cs h (by rw [wcells_length]; omega)
  unfold Ar
  rw [h1]
  congr 2
  refine Array.ext (by rw [h2, hn]; simp [wcells_length]) (fun i i1 i2 => ?_)
  have h9 := h3 i (by rw [wcells_length]; omega)
  rw [Nat.zero_add, Array.getElem?_eq_getElem i1] at h9
  have h10 : (wcells n f)[i]? = some ((wcells n f).toArray[i]) := by
    rw [List.getElem?_eq_getElem (by simpa using i2)]
    simp
  rw [h10] at h9
  injection h9
theorem setCells_other {b k : Nat} (hk : k ≠ b) : ∀ (vs : List Value) (o : Nat) (w : World), (w.setCells b o vs).heap[k]? = w.heap[k]? ∧ (w.setCells b o vs).heap.size = w.heap.size ∧ (w.setCells b o vs).os = w.os ∧ (w.setCells b o vs).tape = w.tape ∧ (w.setCells b o vs).output = w.output
  | [], o, w => ⟨rfl, rfl, rfl, rfl, rfl⟩
  | v :: r, o, w => by
    obtain ⟨h1, h2, h3, h4, h5⟩ := setCells_other hk r (o + 1) (w.setCell ⟨b, o, none⟩ v)
    exact ⟨h1.trans (blk_other hk o v), by rw [show (w.setCells b o (v :: r)).heap.size = ((w.setCell ⟨b, o, none⟩ v).setCells b (o + 1) r).heap.size from rfl, h2]; simp, h3, h4, h5⟩
theorem below_setCells {B b : Nat} {w0 w : World} (h : Below B w0 w) (hb : B ≤ b) (o : Nat) (vs : List Value) : Below B w0 (w.setCells b o vs) := by
  obtain ⟨-, h2, h3, h4, h5⟩ := setCells_other (b := b) (k := b + 1) (by omega) vs o w
  exact h.trans ⟨h3, h4, h5, by omega, fun k hk => (setCells_other (by omega) vs o w).1⟩
theorem Ar.range {w : World} {g n : Nat} {t : TypeId} {f : Nat → BitVec 32} (h : Ar w g t n f) : w.rangeAt g 0 (wcells n f) := fun j v hv => by
  rw [Nat.zero_add]
  exact blk_cell h (by simpa using hv)
def kList : List (BitVec 32) := [0x428a2f98#32, 0x71374491#32, 0xb5c0fbcf#32, 0xe9b5dba5#32, 0x3956c25b#32, 0x59f111f1#32, 0x923f82a4#32, 0xab1c5ed5#32, 0xd807aa98#32, 0x12835b01#32, 0x243185be#32, 0x550c7dc3#32, 0x72be5d74#32, 0x80deb1fe#32, 0x9bdc06a7#32, 0xc19bf174#32, 0xe49b69c1#32, 0xefbe4786#32, 0x0fc19dc6#32, 0x240ca1cc#32, 0x2de92c6f#32, 0x4a7484aa#32, 0x5cb0a9dc#32, 0x76f988da#32, 0x983e5152#32, 0xa831c66d#32, 0xb00327c8#32, 0xbf597fc7#32, 0xc6e00bf3#32, 0xd5a79147#32, 0x06ca6351#32, 0x14292967#32, 0x27b70a85#32, 0x2e1b2138#32, 0x4d2c6dfc#32, 0x53380d13#32, 0x650a7354#32, 0x766a0abb#32, 0x81c2c92e#32, 0x92722c85#32, 0xa2bfe8a1#32, 0xa81a664b#32, 0xc24b8b70#32, 0xc76c51a3#32, 0xd192e819#32, 0xd6990624#32, 0xf40e3585#32, 0x106aa070#32, 0x19a4c116#32, 0x1e376c08#32, 0x2748774c#32, 0x34b0bcb5#32, 0x391c0cb3#32, 0x4ed8aa4a#32, 0x5b9cca4f#32, 0x682e6ff3#32, 0x748f82ee#32, 0x78a5636f#32, 0x84c87814#32, 0x8cc70208#32, 0x90befffa#32, 0xa4506ceb#32, 0xbef9a3f7#32, 0xc67178f2#32]
def kF (i : Nat) : BitVec 32 := kList.getD i 0
theorem kcells : (#[.int .u32 1116352408, .int .u32 1899447441, .int .u32 3049323471, .int .u32 3921009573, .int .u32 961987163, .int .u32 1508970993, .int .u32 2453635748, .int .u32 2870763221, .int .u32 3624381080, .int .u32 310598401, .int .u32 607225278, .int .u32 1426881987, .int .u32 1925078388, .int .u32 2162078206, .int .u32 2614888103, .int .u32 3248222580, .int .u32 3835390401, .int .u32 4022224774, .int .u32 264347078, .int .u32 604807628, .int .u32 770255983, .int .u32 1249150122, .int .u32 1555081692, .int .u32 1996064986, .int .u32 2554220882, .int .u32 2821834349, .int .u32 2952996808, .int .u32 3210313671, .int .u32 3336571891, .int .u32 3584528711, .int .u32 113926993, .int .u32 338241895, .int .u32 666307205, .int .u32 773529912, .int .u32 1294757372, .int .u32 1396182291, .int .u32 1695183700, .int .u32 1986661051, .int .u32 2177026350, .int .u32 2456956037, .int .u32 2730485921, .int .u32 2820302411, .int .u32 3259730800, .int .u32 3345764771, .int .u32 3516065817, .int .u32 3600352804, .int .u32 4094571909, .int .u32 275423344, .int .u32 430227734, .int .u32 506948616, .int .u32 659060556, .int .u32 883997877, .int .u32 958139571, .int .u32 1322822218, .int .u32 1537002063, .int .u32 1747873779, .int .u32 1955562222, .int .u32 2024104815, .int .u32 2227730452, .int .u32 2361852424, .int .u32 2428436474, .int .u32 2756734187, .int .u32 3204031479, .int .u32 3329325298] : Array Value) = (wcells 64 kF).toArray := by kernel_rfl
theorem info_k : (Try.prog.info? 105).map (·.size) = some 64 := by kernel_rfl
theorem wcells_one (n : Nat) (f : Nat → BitVec 32) : ∀ v ∈ wcells n f, v.oneCell' = true := fun v hv => by
  unfold wcells at hv
  obtain ⟨i, -, rfl⟩ := List.mem_map.1 hv
  rfl
theorem results_cell {P : Program} {fn : Func} {tmps : Array Value} {w : World} {k : Nat} {t : TypeId} {a : Addr} {v : Value} (hr : fn.results = #[.cell k t]) (hk : tmps.getD k undef = .pointer (some a)) (hl : (loadVar t a).run P w = .ok v w) : (results fn tmps).run P w = .ok v w := by
  have hk' : tmps[k]?.getD undef = .pointer (some a) := by rw [← hk]; simp
  have ha : (asAddr (.pointer (some a))).run P w = .ok a w := rfl
  simp [results, hr, hk', ha, hl]
theorem build_to {P : Program} {ops : Array Oper} {rest : List Oper} {o : Oper} {a : Act} {w : World} {Q : Exit → Act → World → Prop} {cells : Array Value} (hg : o.guard = none) (t : TypeId) (parts : Array (Nat × Operand)) (ho : o.op = .build t parts)
    (hc : P.built t (parts.map fun (i, x) => (i, a.eval x)).toList = some cells) (h : wpList P ops Q rest (a.put o.dst (.agg cells)) w) : wpList P ops Q (o :: rest) a w :=
  wpList_build hg t parts ho (by rw [hc]; rfl) (by rw [hc]; exact h)
set_option maxHeartbeats 4000000 in
set_option maxRecDepth 20000 in
theorem roundNumbers_any (w : World) : Calls Try.prog 65 #[] w fun e w' => e = .returned (.agg (wcells 64 kF).toArray) ∧ Gr w w' := by
  have hz : (w.alloc (.cells (Array.replicate 64 (.int .u32 0)) 105)).heap[w.heap.size]? = some (.cells (Array.replicate 64 (.int .u32 0)) 105 (0, 0)) := heap_alloc_new w _
  have hq : Below w.heap.size w (w.alloc (.cells (Array.replicate 64 (.int .u32 0)) 105)) := (Below.refl _ _).alloc (Nat.le_refl _) _
  have ht := there_of hz (n := 64) (by simp)
  have hA := Ar.of_store (n := 64) (f := kF) hz (by simp)
  have hq2 := below_setCells (b := w.heap.size) hq (Nat.le_refl _) 0 (wcells 64 kF)
  go_enter Try.func65, Try.ntmps65
  go_upto_region 1 with (fail)
  rw [show (#[.int .u32 0, .int .u32 0, .int .u32 0, .int .u32 0, .int .u32 0, .int .u32 0, .int .u32 0, .int .u32 0, .int .u32 0, .int .u32 0, .int .u32 0, .int .u32 0, .int .u32 0, .int .u32 0, .int .u32 0, .int .u32 0, .int .u32 0, .int .u32 0, .int .u32 0, .int .u32 0, .int .u32 0, .int .u32 0, .int .u32 0, .int .u32 0, .int .u32 0, .int .u32 0, .int .u32 0, .int .u32 0, .int .u32 0, .int .u32 0, .int .u32 0, .int .u32 0, .int .u32 0, .int .u32 0, .int .u32 0, .int .u32 0, .int .u32 0, .int .u32 0, .int .u32 0, .int .u32 0, .int .u32 0, .int .u32 0, .int .u32 0, .int .u32 0, .int .u32 0, .int .u32 0, .int .u32 0, .int .u32 0, .int .u32 0, .int .u32 0, .int .u32 0, .int .u32 0, .int .u32 0, .int .u32 0, .int .u32 0, .int .u32 0, .int .u32 0, .int .u32 0, .int .u32 0, .int .u32 0, .int .u32 0, .int .u32 0, .int .u32 0, .int .u32 0] : Array Value) = Array.replicate 64 (.int .u32 0) from rfl]
  obtain ⟨w1, hw1⟩ : ∃ x, w.alloc (.cells (Array.replicate 64 (.int .u32 0)) 105) = x := ⟨_, rfl⟩
  rw [hw1] at hz hq ht hA hq2 ⊢
  replace hw1 := Lib.hid hw1
  replace hA := Lib.hid hA
  replace hq2 := Lib.hid hq2
  replace ht := Lib.hid ht
  clear hz hq
  have h1 : (wcells 64 kF).toArray.all (·.oneCell') = true := all_oneCell_toArray (wcells_one 64 kF)
  have h2 : (wcells 64 kF).toArray.size = 64 := by rw [List.size_toArray, wcells_length]
  have h3 : (wcells 64 kF).toArray.toList = wcells 64 kF := rfl
  refine wp_region_lit ?_
  refine build_to (cells := (wcells 64 kF).toArray) rfl 105 _ rfl (by kernel_rfl) ?_
  generalize hcs : (wcells 64 kF).toArray = cs at h1 h2 h3 ⊢
  refine wpList_store_mid rfl 105 (.tmp 0) (.tmp 1) rfl w.heap.size 0 cs rfl rfl (by rw [h2]; exact ht.out) (by rw [h2]; exact info_k) h1 ?_
  rw [h3]
  refine wpList_nil ?_
  change Exit.then _ _ Exit.normal { tmps := #[.pointer (some ⟨w.heap.size, 0, none⟩), .agg cs], defers := [] } _
  go_wp2
  have hu : Try.prog.underlying 105 = some (.array 64 86) := by kernel_rfl
  have hl := run_loadVar_mid (P := Try.prog) _ w.heap.size 0 105 (wcells 64 kF) _ hA.out.range hu rfl (by rw [wcells_length]; exact info_k)
  exact bodyPost_ret (v := .agg (wcells 64 kF).toArray) (results_cell rfl rfl hl) rfl ⟨rfl, hq2.out⟩
end Go.Proofs.Ytdgkcgiknfjpjaa
/- dig: turn. -/
namespace Go.Proofs.Ytdgkcgiknfjpjaa
set_option linter.unusedVariables false
set_option linter.unusedSimpArgs false
open Go Go.RowKit
@[go_sem] theorem dg_shl7 (x : BitVec 32) : IntKind.u32.wrap (W x * (128 : Int)) = W (x <<< 7) := u32_shl x 7
@[go_sem] theorem dg_shl8 (x : BitVec 32) : IntKind.u32.wrap (W x * (256 : Int)) = W (x <<< 8) := u32_shl x 8
@[go_sem] theorem dg_shl10 (x : BitVec 32) : IntKind.u32.wrap (W x * (1024 : Int)) = W (x <<< 10) := u32_shl x 10
@[go_sem] theorem dg_shl13 (x : BitVec 32) : IntKind.u32.wrap (W x * (8192 : Int)) = W (x <<< 13) := u32_shl x 13
@[go_sem] theorem dg_shl14 (x : BitVec 32) : IntKind.u32.wrap (W x * (16384 : Int)) = W (x <<< 14) := u32_shl x 14
@[go_sem] theorem dg_shl15 (x : BitVec 32) : IntKind.u32.wrap (W x * (32768 : Int)) = W (x <<< 15) := u32_shl x 15
@[go_sem] theorem dg_shl16 (x : BitVec 32) : IntKind.u32.wrap (W x * (65536 : Int)) = W (x <<< 16) := u32_shl x 16
@[go_sem] theorem dg_shl19 (x : BitVec 32) : IntKind.u32.wrap (W x * (524288 : Int)) = W (x <<< 19) := u32_shl x 19
@[go_sem] theorem dg_shl21 (x : BitVec 32) : IntKind.u32.wrap (W x * (2097152 : Int)) = W (x <<< 21) := u32_shl x 21
@[go_sem] theorem dg_shl24 (x : BitVec 32) : IntKind.u32.wrap (W x * (16777216 : Int)) = W (x <<< 24) := u32_shl x 24
@[go_sem] theorem dg_shl25 (x : BitVec 32) : IntKind.u32.wrap (W x * (33554432 : Int)) = W (x <<< 25) := u32_shl x 25
@[go_sem] theorem dg_shl26 (x : BitVec 32) : IntKind.u32.wrap (W x * (67108864 : Int)) = W (x <<< 26) := u32_shl x 26
@[go_sem] theorem dg_shl30 (x : BitVec 32) : IntKind.u32.wrap (W x * (1073741824 : Int)) = W (x <<< 30) := u32_shl x 30
@[go_sem] theorem dg_shr2 (x : BitVec 32) : W x / (4 : Int) = W (x >>> 2) := u32_shr x 2
@[go_sem] theorem dg_shr3 (x : BitVec 32) : W x / (8 : Int) = W (x >>> 3) := u32_shr x 3
@[go_sem] theorem dg_shr6 (x : BitVec 32) : W x / (64 : Int) = W (x >>> 6) := u32_shr x 6
@[go_sem] theorem dg_shr7 (x : BitVec 32) : W x / (128 : Int) = W (x >>> 7) := u32_shr x 7
@[go_sem] theorem dg_shr8 (x : BitVec 32) : W x / (256 : Int) = W (x >>> 8) := u32_shr x 8
@[go_sem] theorem dg_shr10 (x : BitVec 32) : W x / (1024 : Int) = W (x >>> 10) := u32_shr x 10
@[go_sem] theorem dg_shr11 (x : BitVec 32) : W x / (2048 : Int) = W (x >>> 11) := u32_shr x 11
@[go_sem] theorem dg_shr13 (x : BitVec 32) : W x / (8192 : Int) = W (x >>> 13) := u32_shr x 13
@[go_sem] theorem dg_shr16 (x : BitVec 32) : W x / (65536 : Int) = W (x >>> 16) := u32_shr x 16
@[go_sem] theorem dg_shr17 (x : BitVec 32) : W x / (131072 : Int) = W (x >>> 17) := u32_shr x 17
@[go_sem] theorem dg_shr18 (x : BitVec 32) : W x / (262144 : Int) = W (x >>> 18) := u32_shr x 18
@[go_sem] theorem dg_shr19 (x : BitVec 32) : W x / (524288 : Int) = W (x >>> 19) := u32_shr x 19
@[go_sem] theorem dg_shr22 (x : BitVec 32) : W x / (4194304 : Int) = W (x >>> 22) := u32_shr x 22
@[go_sem] theorem dg_shr24 (x : BitVec 32) : W x / (16777216 : Int) = W (x >>> 24) := u32_shr x 24
@[go_sem] theorem dg_shr25 (x : BitVec 32) : W x / (33554432 : Int) = W (x >>> 25) := u32_shr x 25
/-- turned right by n bits -/
def tn (n : Nat) (x : BitVec 32) : BitVec 32 := x <<< (32 - n) ||| x >>> n
set_option maxHeartbeats 4000000 in
theorem turn_2 (x : BitVec 32) (w : World) : Calls Try.prog 92 #[.int .u32 (W x), .int .i64 2] w fun e w' => e = .returned (.int .u32 (W (tn 2 x))) ∧ w' = w := by
  go_enter Try.func92, Try.ntmps92
  have hs : bits .and .u64 (IntKind.u64.wrap (-2)) 31 = 30 := by decide
  have hm : IntKind.u64.wrap (32 - 30) = 2 := by decide
  go_wp2
  go_ret
  exact ⟨rfl, rfl⟩
set_option maxHeartbeats 4000000 in
theorem turn_6 (x : BitVec 32) (w : World) : Calls Try.prog 92 #[.int .u32 (W x), .int .i64 6] w fun e w' => e = .returned (.int .u32 (W (tn 6 x))) ∧ w' = w := by
  go_enter Try.func92, Try.ntmps92
  have hs : bits .and .u64 (IntKind.u64.wrap (-6)) 31 = 26 := by decide
  have hm : IntKind.u64.wrap (32 - 26) = 6 := by decide
  go_wp2
  go_ret
  exact ⟨rfl, rfl⟩
set_option maxHeartbeats 4000000 in
theorem turn_7 (x : BitVec 32) (w : World) : Calls Try.prog 92 #[.int .u32 (W x), .int .i64 7] w fun e w' => e = .returned (.int .u32 (W (tn 7 x))) ∧ w' = w := by
  go_enter Try.func92, Try.ntmps92
  have hs : bits .and .u64 (IntKind.u64.wrap (-7)) 31 = 25 := by decide
  have hm : IntKind.u64.wrap (32 - 25) = 7 := by decide
  go_wp2
  go_ret
  exact ⟨rfl, rfl⟩
set_option maxHeartbeats 4000000 in
theorem turn_11 (x : BitVec 32) (w : World) : Calls Try.prog 92 #[.int .u32 (W x), .int .i64 11] w fun e w' => e = .returned (.int .u32 (W (tn 11 x))) ∧ w' = w := by
  go_enter Try.func92, Try.ntmps92
  have hs : bits .and .u64 (IntKind.u64.wrap (-11)) 31 = 21 := by decide
  have hm : IntKind.u64.wrap (32 - 21) = 11 := by decide
  go_wp2
  go_ret
  exact ⟨rfl, rfl⟩
set_option maxHeartbeats 4000000 in
theorem turn_13 (x : BitVec 32) (w : World) : Calls Try.prog 92 #[.int .u32 (W x), .int .i64 13] w fun e w' => e = .returned (.int .u32 (W (tn 13 x))) ∧ w' = w := by
  go_enter Try.func92, Try.ntmps92
  have hs : bits .and .u64 (IntKind.u64.wrap (-13)) 31 = 19 := by decide
  have hm : IntKind.u64.wrap (32 - 19) = 13 := by decide
  go_wp2
  go_ret
  exact ⟨rfl, rfl⟩
set_option maxHeartbeats 4000000 in
theorem turn_17 (x : BitVec 32) (w : World) : Calls Try.prog 92 #[.int .u32 (W x), .int .i64 17] w fun e w' => e = .returned (.int .u32 (W (tn 17 x))) ∧ w' = w := by
  go_enter Try.func92, Try.ntmps92
  have hs : bits .and .u64 (IntKind.u64.wrap (-17)) 31 = 15 := by decide
  have hm : IntKind.u64.wrap (32 - 15) = 17 := by decide
  go_wp2
  go_ret
  exact ⟨rfl, rfl⟩
set_option maxHeartbeats 4000000 in
theorem turn_18 (x : BitVec 32) (w : World) : Calls Try.prog 92 #[.int .u32 (W x), .int .i64 18] w fun e w' => e = .returned (.int .u32 (W (tn 18 x))) ∧ w' = w := by
  go_enter Try.func92, Try.ntmps92
  have hs : bits .and .u64 (IntKind.u64.wrap (-18)) 31 = 14 := by decide
  have hm : IntKind.u64.wrap (32 - 14) = 18 := by decide
  go_wp2
  go_ret
  exact ⟨rfl, rfl⟩
set_option maxHeartbeats 4000000 in
theorem turn_19 (x : BitVec 32) (w : World) : Calls Try.prog 92 #[.int .u32 (W x), .int .i64 19] w fun e w' => e = .returned (.int .u32 (W (tn 19 x))) ∧ w' = w := by
  go_enter Try.func92, Try.ntmps92
  have hs : bits .and .u64 (IntKind.u64.wrap (-19)) 31 = 13 := by decide
  have hm : IntKind.u64.wrap (32 - 13) = 19 := by decide
  go_wp2
  go_ret
  exact ⟨rfl, rfl⟩
set_option maxHeartbeats 4000000 in
theorem turn_22 (x : BitVec 32) (w : World) : Calls Try.prog 92 #[.int .u32 (W x), .int .i64 22] w fun e w' => e = .returned (.int .u32 (W (tn 22 x))) ∧ w' = w := by
  go_enter Try.func92, Try.ntmps92
  have hs : bits .and .u64 (IntKind.u64.wrap (-22)) 31 = 10 := by decide
  have hm : IntKind.u64.wrap (32 - 10) = 22 := by decide
  go_wp2
  go_ret
  exact ⟨rfl, rfl⟩
set_option maxHeartbeats 4000000 in
theorem turn_25 (x : BitVec 32) (w : World) : Calls Try.prog 92 #[.int .u32 (W x), .int .i64 25] w fun e w' => e = .returned (.int .u32 (W (tn 25 x))) ∧ w' = w := by
  go_enter Try.func92, Try.ntmps92
  have hs : bits .and .u64 (IntKind.u64.wrap (-25)) 31 = 7 := by decide
  have hm : IntKind.u64.wrap (32 - 7) = 25 := by decide
  go_wp2
  go_ret
  exact ⟨rfl, rfl⟩
end Go.Proofs.Ytdgkcgiknfjpjaa
/- dig: the schedule's numbers, purely; a word stored into an array of words. -/
namespace Go.Proofs.Ytdgkcgiknfjpjaa
set_option linter.unusedVariables false
set_option linter.unusedSimpArgs false
open Go Go.RowKit
/-- four bytes, the first the highest -/
def big4 (b : Nat → UInt8) (o : Nat) : BitVec 32 := zx32 (b o) <<< 24 ||| zx32 (b (o + 1)) <<< 16 ||| zx32 (b (o + 2)) <<< 8 ||| zx32 (b (o + 3))
def lowS (x : BitVec 32) : BitVec 32 := tn 7 x ^^^ tn 18 x ^^^ x >>> 3
def lowT (x : BitVec 32) : BitVec 32 := tn 17 x ^^^ tn 19 x ^^^ x >>> 10
/-- number n of the schedule of the block b -/
def wd (b : Nat → UInt8) (n : Nat) : BitVec 32 :=
  if n < 16 then big4 b (4 * n) else wd b (n - 16) + wd b (n - 7) + lowS (wd b (n - 15)) + lowT (wd b (n - 2))
termination_by n
theorem wd_low (b : Nat → UInt8) {n : Nat} (h : n < 16) : wd b n = big4 b (4 * n) := by rw [wd, if_pos h]
theorem wd_high (b : Nat → UInt8) {n : Nat} (h : 16 ≤ n) : wd b n = wd b (n - 16) + wd b (n - 7) + lowS (wd b (n - 15)) + lowT (wd b (n - 2)) := by rw [wd, if_neg (by omega)]
/-- the first i of them, zero behind -/
def wdTo (b : Nat → UInt8) (i k : Nat) : BitVec 32 := if k < i then wd b k else 0
theorem wdTo_zero (b : Nat → UInt8) : wdTo b 0 = fun _ => 0 := by funext k; simp [wdTo]
theorem wdTo_at (b : Nat → UInt8) {i k : Nat} (h : k < i) : wdTo b i k = wd b k := by simp [wdTo, h]
theorem wdTo_succ (b : Nat → UInt8) (i : Nat) : wdTo b (i + 1) = fun k => if k = i then wd b i else wdTo b i k := by
  funext k
  unfold wdTo
  by_cases h : k = i
  · subst h; simp
  · rw [if_neg h]
    by_cases h' : k < i
    · rw [if_pos h', if_pos (by omega)]
    · rw [if_neg h', if_neg (by omega)]
/-- a word of the array -/
theorem Ar.at {w : World} {g n : Nat} {t : TypeId} {f : Nat → BitVec 32} (h : Ar w g t n f) {i : Nat} (hi : i < n) : w.cell? ⟨g, i, none⟩ = some (.int .u32 (W (f i))) := by
  have := h.range i _ (wcells_get hi f)
  rwa [Nat.zero_add] at this
/-- a word stored -/
theorem Ar.set {w : World} {g n : Nat} {t : TypeId} {f : Nat → BitVec 32} (h : Ar w g t n f) {i : Nat} (hi : i < n) (x : BitVec 32) : Ar (w.setCell ⟨g, i, none⟩ (.int .u32 (W x))) g t n (fun k => if k = i then x else f k) := by
  unfold Ar at h ⊢
  rw [blk_set h i _]
  congr 2
  refine Array.ext_getElem? (fun k => ?_)
  rw [Array.getElem?_setIfInBounds, List.getElem?_toArray, List.getElem?_toArray, List.size_toArray, wcells_length]
  by_cases hk : k < n
  · rw [wcells_get hk, wcells_get hk]
    by_cases e : i = k
    · subst e; rw [if_pos rfl, if_pos hi, if_pos rfl]
    · rw [if_neg e, if_neg (fun q => e q.symm)]
  · rw [if_neg (by omega), List.getElem?_eq_none (by rw [wcells_length]; omega), List.getElem?_eq_none (by rw [wcells_length]; omega)]
theorem Ar.other {w w' : World} {g n : Nat} {t : TypeId} {f : Nat → BitVec 32} (h : Ar w g t n f) (e : w'.heap[g]? = w.heap[g]?) : Ar w' g t n f := by
  unfold Ar at h ⊢
  rw [e, h]
theorem Ar.congr {w : World} {g n : Nat} {t : TypeId} {f f' : Nat → BitVec 32} (h : Ar w g t n f) (e : ∀ k, k < n → f k = f' k) : Ar w g t n f' := by
  unfold Ar at h ⊢
  rw [h]
  congr 3
  unfold wcells
  exact List.map_congr_left (fun k hk => by rw [e k (List.mem_range.1 hk)])
end Go.Proofs.Ytdgkcgiknfjpjaa
/- dig: the schedule. -/
namespace Go.Proofs.Ytdgkcgiknfjpjaa
set_option linter.unusedVariables false
set_option linter.unusedSimpArgs false
open Go Go.RowKit
theorem i64_wrap_id {m : Int} (h1 : -9223372036854775808 ≤ m) (h2 : m ≤ 9223372036854775807) : IntKind.i64.wrap m = m := IntWalk.i64_in m ⟨h1, h2⟩
set_option maxHeartbeats 8000000 in
set_option maxRecDepth 20000 in
theorem schedule_any (b : Nat → UInt8) (A : Option Addr) (c : Nat) (l : List UInt8) (hl : Hid (l = row 64 b)) (hc : 64 ≤ c) (w : World) (h : Hid (Rd w w.heap.size A l)) : Calls Try.prog 68 #[.slice A 64 c] w fun e w' => e = .returned (.agg (wcells 64 (wd b)).toArray) ∧ Gr w w' := by
  have hZ : (wcells 64 (fun _ => 0)).toArray = Array.replicate 64 (.int .u32 0) := by kernel_rfl
  obtain ⟨w1, hw1⟩ : ∃ x, w.alloc (.cells (Array.replicate 64 (.int .u32 0)) 105) = x := ⟨_, rfl⟩
  obtain ⟨w2, hw2⟩ : ∃ x, w1.alloc (.cells (Array.replicate 64 (.int .u32 0)) 105) = x := ⟨_, rfl⟩
  have s1 : w1.heap.size = w.heap.size + 1 := by rw [← hw1]; simp
  have hA2 : Ar w2 (w.heap.size + 1) 105 64 (fun _ => 0) := by
    unfold Ar
    rw [hZ, ← hw2, ← s1]
    exact heap_alloc_new w1 _
  have hA1 : Ar w2 w.heap.size 105 64 (fun _ => 0) := by
    unfold Ar
    rw [hZ, ← hw2]
    have e1 : w1.heap[w.heap.size]? = some (.cells (Array.replicate 64 (.int .u32 0)) 105 (0, 0)) := by rw [← hw1]; exact heap_alloc_new w _
    have e2 := (Below.refl w1.heap.size w1).alloc (Nat.le_refl _) (.cells (Array.replicate 64 (.int .u32 0)) 105)
    obtain ⟨-, -, -, -, e3⟩ := e2
    rw [e3 _ (by omega), e1]
  have hq2 : Below w.heap.size w w2 := by
    rw [← hw2, ← hw1]
    exact ((Below.refl _ _).alloc (Nat.le_refl _) _).alloc (by simp) _
  replace hA1 := Lib.hid hA1
  replace hA2 := Lib.hid hA2
  replace hq2 := Lib.hid hq2
  go_enter Try.func68, Try.ntmps68
  go_upto_region 2 with (fail)
  rw [show (#[.int .u32 0, .int .u32 0, .int .u32 0, .int .u32 0, .int .u32 0, .int .u32 0, .int .u32 0, .int .u32 0, .int .u32 0, .int .u32 0, .int .u32 0, .int .u32 0, .int .u32 0, .int .u32 0, .int .u32 0, .int .u32 0, .int .u32 0, .int .u32 0, .int .u32 0, .int .u32 0, .int .u32 0, .int .u32 0, .int .u32 0, .int .u32 0, .int .u32 0, .int .u32 0, .int .u32 0, .int .u32 0, .int .u32 0, .int .u32 0, .int .u32 0, .int .u32 0, .int .u32 0, .int .u32 0, .int .u32 0, .int .u32 0, .int .u32 0, .int .u32 0, .int .u32 0, .int .u32 0, .int .u32 0, .int .u32 0, .int .u32 0, .int .u32 0, .int .u32 0, .int .u32 0, .int .u32 0, .int .u32 0, .int .u32 0, .int .u32 0, .int .u32 0, .int .u32 0, .int .u32 0, .int .u32 0, .int .u32 0, .int .u32 0, .int .u32 0, .int .u32 0, .int .u32 0, .int .u32 0, .int .u32 0, .int .u32 0, .int .u32 0, .int .u32 0] : Array Value) = Array.replicate 64 (.int .u32 0) from rfl, hw1, hw2]
  replace hw1 := Lib.hid hw1
  replace hw2 := Lib.hid hw2
  replace hZ := Lib.hid hZ
  go_wp2_with fail
  go_loopw [10] (fun v wr => ∃ (k : Nat), k ≤ 16 ∧ v = .int .i64 k ∧ Hid (Ar wr (w.heap.size + 1) 105 64 (wdTo b k)) ∧ Hid (Ar wr w.heap.size 105 64 (fun _ => 0)) ∧ Hid (Below w.heap.size w wr)) (fun v _ => (16 - intOf v).toNat)
  case atStart => exact ⟨0, by omega, rfl, by rw [wdTo_zero]; exact hA2, hA1, hq2⟩
  case round =>
    obtain ⟨k, hk, rfl, hA, hB, hq⟩ := hrel
    clear hA2 hA1 hq2
    by_cases hlt : k < 16
    · have i16 : (k : Int) < 16 := by omega
      go_wp2_with fail
      have hrw : Hid (Rd wr.drew wr.drew.heap.size A l) := Lib.hid ((h.out.up hq.out).drewN _)
      have hlen : l.length = 64 := by rw [hl.out, row_length]
      obtain ⟨ad, hAd, -, c0⟩ := hrw.out.at_ (k := 4 * k) (by omega)
      subst hAd
      obtain ⟨ad1, hAd1, -, c1⟩ := hrw.out.at_ (k := 4 * k + 1) (by omega)
      obtain ⟨ad2, hAd2, -, c2⟩ := hrw.out.at_ (k := 4 * k + 2) (by omega)
      obtain ⟨ad3, hAd3, -, c3⟩ := hrw.out.at_ (k := 4 * k + 3) (by omega)
      obtain rfl := Option.some.inj hAd1
      obtain rfl := Option.some.inj hAd2
      obtain rfl := Option.some.inj hAd3
      clear hAd1 hAd2 hAd3
      have gb : ∀ j (hj : j < l.length), l[j] = b j := fun j hj => by have := hl.out; subst this; simp [row]
      rw [gb] at c0 c1 c2 c3
      replace gb := Lib.hid gb
      obtain ⟨q0, e0⟩ : ∃ q, 4 * k = q := ⟨_, rfl⟩
      obtain ⟨q1, e1⟩ : ∃ q, 4 * k + 1 = q := ⟨_, rfl⟩
      obtain ⟨q2, e2⟩ : ∃ q, 4 * k + 2 = q := ⟨_, rfl⟩
      obtain ⟨q3, e3⟩ : ∃ q, 4 * k + 3 = q := ⟨_, rfl⟩
      rw [e0] at c0
      rw [e1] at c1
      rw [e2] at c2
      rw [e3] at c3
      have m0 : IntKind.i64.wrap (4 * (k : Int)) = (q0 : Int) := by rw [i64_wrap_id (by omega) (by omega)]; omega
      have m1 : IntKind.i64.wrap ((q0 : Int) + 1) = (q1 : Int) := by rw [i64_wrap_id (by omega) (by omega)]; omega
      have m2 : IntKind.i64.wrap ((q0 : Int) + 2) = (q2 : Int) := by rw [i64_wrap_id (by omega) (by omega)]; omega
      have m3 : IntKind.i64.wrap ((q0 : Int) + 3) = (q3 : Int) := by rw [i64_wrap_id (by omega) (by omega)]; omega
      have l0 : (q0 : Int) < 64 := by omega
      have l1 : (q1 : Int) < 64 := by omega
      have l2 : (q2 : Int) < 64 := by omega
      have l3 : (q3 : Int) < 64 := by omega
      replace e0 := Lib.hid e0
      replace e1 := Lib.hid e1
      replace e2 := Lib.hid e2
      replace e3 := Lib.hid e3
      have l4 : (k : Int) < 64 := by omega
      have hAd : Hid (Ar wr.drew (w.heap.size + 1) 105 64 (wdTo b k)) := Lib.hid (hA.out.other rfl)
      replace hlen := Lib.hid hlen
      have cw := hAd.out.at (i := k) (by omega)
      have fz : wr.frozen? ⟨w.heap.size + 1, k, none⟩ = false := by have := hA.out; unfold Ar at this; simp [World.frozen?, this]
      refine wpR_region (Eq) 35 (by kernel_rfl) ?_
      refine wpR_take (i := 0) (v := ?_) (⟨fun _ => rfl, Eq.trans⟩) (some 13) rfl (by kernel_rfl) (by kernel_rfl) (by kernel_rfl) (by kernel_rfl) (by kernel_rfl) (fun _ _ _ h => h) (by kernel_rfl) (fun w' hw' => ?_) ?_
      rotate_left
      · go_simp; with_reducible rfl
      simp only [Act.put, List.setIfInBounds_toArray, List.set_cons_zero, List.set_cons_succ]
      refine wpR_take (i := 1) (v := ?_) (⟨fun _ => rfl, Eq.trans⟩) (some 14) rfl (by kernel_rfl) (by kernel_rfl) (by kernel_rfl) (by kernel_rfl) (by kernel_rfl) (fun _ _ _ h => h) (by kernel_rfl) (fun w' hw' => ?_) ?_
      rotate_left
      · go_simp; with_reducible rfl
      simp only [Act.put, List.setIfInBounds_toArray, List.set_cons_zero, List.set_cons_succ]
      refine wpR_take (i := 2) (v := ?_) (⟨fun _ => rfl, Eq.trans⟩) (some 15) rfl (by kernel_rfl) (by kernel_rfl) (by kernel_rfl) (by kernel_rfl) (by kernel_rfl) (fun _ _ _ h => h) (by kernel_rfl) (fun w' hw' => ?_) ?_
      rotate_left
      · go_simp; with_reducible rfl
      simp only [Act.put, List.setIfInBounds_toArray, List.set_cons_zero, List.set_cons_succ]
      refine wpR_take (i := 3) (v := ?_) (⟨fun _ => rfl, Eq.trans⟩) (some 16) rfl (by kernel_rfl) (by kernel_rfl) (by kernel_rfl) (by kernel_rfl) (by kernel_rfl) (fun _ _ _ h => h) (by kernel_rfl) (fun w' hw' => ?_) ?_
      rotate_left
      · go_simp; with_reducible rfl
      simp only [Act.put, List.setIfInBounds_toArray, List.set_cons_zero, List.set_cons_succ]
      refine wpR_take (i := 4) (v := ?_) (⟨fun _ => rfl, Eq.trans⟩) (some 17) rfl (by kernel_rfl) (by kernel_rfl) (by kernel_rfl) (by kernel_rfl) (by kernel_rfl) (fun _ _ _ h => h) (by kernel_rfl) (fun w' hw' => ?_) ?_
      rotate_left
      · go_simp; with_reducible rfl
      simp only [Act.put, List.setIfInBounds_toArray, List.set_cons_zero, List.set_cons_succ]
      refine wpR_take (i := 5) (v := ?_) (⟨fun _ => rfl, Eq.trans⟩) (some 18) rfl (by kernel_rfl) (by kernel_rfl) (by kernel_rfl) (by kernel_rfl) (by kernel_rfl) (fun _ _ _ h => h) (by kernel_rfl) (fun w' hw' => ?_) ?_
      rotate_left
      · subst hw'; go_simp; with_reducible rfl
      simp only [Act.put, List.setIfInBounds_toArray, List.set_cons_zero, List.set_cons_succ]
      refine wpR_take (i := 6) (v := ?_) (⟨fun _ => rfl, Eq.trans⟩) (some 19) rfl (by kernel_rfl) (by kernel_rfl) (by kernel_rfl) (by kernel_rfl) (by kernel_rfl) (fun _ _ _ h => h) (by kernel_rfl) (fun w' hw' => ?_) ?_
      rotate_left
      · go_simp; with_reducible rfl
      simp only [Act.put, List.setIfInBounds_toArray, List.set_cons_zero, List.set_cons_succ]
      refine wpR_take (i := 7) (v := ?_) (⟨fun _ => rfl, Eq.trans⟩) (some 20) rfl (by kernel_rfl) (by kernel_rfl) (by kernel_rfl) (by kernel_rfl) (by kernel_rfl) (fun _ _ _ h => h) (by kernel_rfl) (fun w' hw' => ?_) ?_
      rotate_left
      · go_simp; with_reducible rfl
      simp only [Act.put, List.setIfInBounds_toArray, List.set_cons_zero, List.set_cons_succ]
      refine wpR_take (i := 8) (v := ?_) (⟨fun _ => rfl, Eq.trans⟩) (some 21) rfl (by kernel_rfl) (by kernel_rfl) (by kernel_rfl) (by kernel_rfl) (by kernel_rfl) (fun _ _ _ h => h) (by kernel_rfl) (fun w' hw' => ?_) ?_
      rotate_left
      · go_simp; with_reducible rfl
      simp only [Act.put, List.setIfInBounds_toArray, List.set_cons_zero, List.set_cons_succ]
      refine wpR_take (i := 9) (v := ?_) (⟨fun _ => rfl, Eq.trans⟩) (some 22) rfl (by kernel_rfl) (by kernel_rfl) (by kernel_rfl) (by kernel_rfl) (by kernel_rfl) (fun _ _ _ h => h) (by kernel_rfl) (fun w' hw' => ?_) ?_
      rotate_left
      · go_simp; with_reducible rfl
      simp only [Act.put, List.setIfInBounds_toArray, List.set_cons_zero, List.set_cons_succ]
      refine wpR_take (i := 10) (v := ?_) (⟨fun _ => rfl, Eq.trans⟩) (some 23) rfl (by kernel_rfl) (by kernel_rfl) (by kernel_rfl) (by kernel_rfl) (by kernel_rfl) (fun _ _ _ h => h) (by kernel_rfl) (fun w' hw' => ?_) ?_
      rotate_left
      · go_simp; with_reducible rfl
      simp only [Act.put, List.setIfInBounds_toArray, List.set_cons_zero, List.set_cons_succ]
      refine wpR_take (i := 11) (v := ?_) (⟨fun _ => rfl, Eq.trans⟩) (some 24) rfl (by kernel_rfl) (by kernel_rfl) (by kernel_rfl) (by kernel_rfl) (by kernel_rfl) (fun _ _ _ h => h) (by kernel_rfl) (fun w' hw' => ?_) ?_
      rotate_left
      · go_simp; with_reducible rfl
      simp only [Act.put, List.setIfInBounds_toArray, List.set_cons_zero, List.set_cons_succ]
      refine wpR_take (i := 12) (v := ?_) (⟨fun _ => rfl, Eq.trans⟩) (some 25) rfl (by kernel_rfl) (by kernel_rfl) (by kernel_rfl) (by kernel_rfl) (by kernel_rfl) (fun _ _ _ h => h) (by kernel_rfl) (fun w' hw' => ?_) ?_
      rotate_left
      · go_simp; with_reducible rfl
      simp only [Act.put, List.setIfInBounds_toArray, List.set_cons_zero, List.set_cons_succ]
      refine wpR_take (i := 13) (v := ?_) (⟨fun _ => rfl, Eq.trans⟩) (some 26) rfl (by kernel_rfl) (by kernel_rfl) (by kernel_rfl) (by kernel_rfl) (by kernel_rfl) (fun _ _ _ h => h) (by kernel_rfl) (fun w' hw' => ?_) ?_
      rotate_left
      · subst hw'; go_simp; with_reducible rfl
      simp only [Act.put, List.setIfInBounds_toArray, List.set_cons_zero, List.set_cons_succ]
      refine wpR_take (i := 14) (v := ?_) (⟨fun _ => rfl, Eq.trans⟩) (some 27) rfl (by kernel_rfl) (by kernel_rfl) (by kernel_rfl) (by kernel_rfl) (by kernel_rfl) (fun _ _ _ h => h) (by kernel_rfl) (fun w' hw' => ?_) ?_
      rotate_left
      · go_simp; with_reducible rfl
      simp only [Act.put, List.setIfInBounds_toArray, List.set_cons_zero, List.set_cons_succ]
      refine wpR_take (i := 15) (v := ?_) (⟨fun _ => rfl, Eq.trans⟩) (some 28) rfl (by kernel_rfl) (by kernel_rfl) (by kernel_rfl) (by kernel_rfl) (by kernel_rfl) (fun _ _ _ h => h) (by kernel_rfl) (fun w' hw' => ?_) ?_
      rotate_left
      · go_simp; with_reducible rfl
      simp only [Act.put, List.setIfInBounds_toArray, List.set_cons_zero, List.set_cons_succ]
      refine wpR_take (i := 16) (v := ?_) (⟨fun _ => rfl, Eq.trans⟩) (some 29) rfl (by kernel_rfl) (by kernel_rfl) (by kernel_rfl) (by kernel_rfl) (by kernel_rfl) (fun _ _ _ h => h) (by kernel_rfl) (fun w' hw' => ?_) ?_
      rotate_left
      · go_simp; with_reducible rfl
      simp only [Act.put, List.setIfInBounds_toArray, List.set_cons_zero, List.set_cons_succ]
      refine wpR_take (i := 17) (v := ?_) (⟨fun _ => rfl, Eq.trans⟩) (some 30) rfl (by kernel_rfl) (by kernel_rfl) (by kernel_rfl) (by kernel_rfl) (by kernel_rfl) (fun _ _ _ h => h) (by kernel_rfl) (fun w' hw' => ?_) ?_
      rotate_left
      · go_simp; with_reducible rfl
      simp only [Act.put, List.setIfInBounds_toArray, List.set_cons_zero, List.set_cons_succ]
      refine wpR_take (i := 18) (v := ?_) (⟨fun _ => rfl, Eq.trans⟩) (some 31) rfl (by kernel_rfl) (by kernel_rfl) (by kernel_rfl) (by kernel_rfl) (by kernel_rfl) (fun _ _ _ h => h) (by kernel_rfl) (fun w' hw' => ?_) ?_
      rotate_left
      · go_simp; with_reducible rfl
      simp only [Act.put, List.setIfInBounds_toArray, List.set_cons_zero, List.set_cons_succ]
      refine wpR_take (i := 19) (v := ?_) (⟨fun _ => rfl, Eq.trans⟩) (some 32) rfl (by kernel_rfl) (by kernel_rfl) (by kernel_rfl) (by kernel_rfl) (by kernel_rfl) (fun _ _ _ h => h) (by kernel_rfl) (fun w' hw' => ?_) ?_
      rotate_left
      · go_simp; with_reducible rfl
      simp only [Act.put, List.setIfInBounds_toArray, List.set_cons_zero, List.set_cons_succ]
      refine wpR_take (i := 20) (v := ?_) (⟨fun _ => rfl, Eq.trans⟩) (some 33) rfl (by kernel_rfl) (by kernel_rfl) (by kernel_rfl) (by kernel_rfl) (by kernel_rfl) (fun _ _ _ h => h) (by kernel_rfl) (fun w' hw' => ?_) ?_
      rotate_left
      · go_simp; with_reducible rfl
      simp only [Act.put, List.setIfInBounds_toArray, List.set_cons_zero, List.set_cons_succ]
      refine wpR_take (i := 21) (v := ?_) (⟨fun _ => rfl, Eq.trans⟩) (some 34) rfl (by kernel_rfl) (by kernel_rfl) (by kernel_rfl) (by kernel_rfl) (by kernel_rfl) (fun _ _ _ h => h) (by kernel_rfl) (fun w' hw' => ?_) ?_
      rotate_left
      · go_simp; with_reducible rfl
      simp only [Act.put, List.setIfInBounds_toArray, List.set_cons_zero, List.set_cons_succ]
      refine wpR_take (i := 22) (v := ?_) (⟨fun _ => rfl, Eq.trans⟩) (some 35) rfl (by kernel_rfl) (by kernel_rfl) (by kernel_rfl) (by kernel_rfl) (by kernel_rfl) (fun _ _ _ h => h) (by kernel_rfl) (fun w' hw' => ?_) ?_
      rotate_left
      · subst hw'; go_simp; with_reducible rfl
      simp only [Act.put, List.setIfInBounds_toArray, List.set_cons_zero, List.set_cons_succ]
      refine wpR_take (i := 23) (v := ?_) (⟨fun _ => rfl, Eq.trans⟩) (some 36) rfl (by kernel_rfl) (by kernel_rfl) (by kernel_rfl) (by kernel_rfl) (by kernel_rfl) (fun _ _ _ h => h) (by kernel_rfl) (fun w' hw' => ?_) ?_
      rotate_left
      · go_simp; with_reducible rfl
      simp only [Act.put, List.setIfInBounds_toArray, List.set_cons_zero, List.set_cons_succ]
      refine wpR_take (i := 24) (v := ?_) (⟨fun _ => rfl, Eq.trans⟩) (some 37) rfl (by kernel_rfl) (by kernel_rfl) (by kernel_rfl) (by kernel_rfl) (by kernel_rfl) (fun _ _ _ h => h) (by kernel_rfl) (fun w' hw' => ?_) ?_
      rotate_left
      · go_simp; with_reducible rfl
      simp only [Act.put, List.setIfInBounds_toArray, List.set_cons_zero, List.set_cons_succ]
      refine wpR_take (i := 25) (v := ?_) (⟨fun _ => rfl, Eq.trans⟩) (some 38) rfl (by kernel_rfl) (by kernel_rfl) (by kernel_rfl) (by kernel_rfl) (by kernel_rfl) (fun _ _ _ h => h) (by kernel_rfl) (fun w' hw' => ?_) ?_
      rotate_left
      · go_simp; with_reducible rfl
      simp only [Act.put, List.setIfInBounds_toArray, List.set_cons_zero, List.set_cons_succ]
      refine wpR_take (i := 26) (v := ?_) (⟨fun _ => rfl, Eq.trans⟩) (some 39) rfl (by kernel_rfl) (by kernel_rfl) (by kernel_rfl) (by kernel_rfl) (by kernel_rfl) (fun _ _ _ h => h) (by kernel_rfl) (fun w' hw' => ?_) ?_
      rotate_left
      · go_simp; with_reducible rfl
      simp only [Act.put, List.setIfInBounds_toArray, List.set_cons_zero, List.set_cons_succ]
      refine wpR_take (i := 27) (v := ?_) (⟨fun _ => rfl, Eq.trans⟩) (some 40) rfl (by kernel_rfl) (by kernel_rfl) (by kernel_rfl) (by kernel_rfl) (by kernel_rfl) (fun _ _ _ h => h) (by kernel_rfl) (fun w' hw' => ?_) ?_
      rotate_left
      · go_simp; with_reducible rfl
      simp only [Act.put, List.setIfInBounds_toArray, List.set_cons_zero, List.set_cons_succ]
      refine wpR_take (i := 28) (v := ?_) (⟨fun _ => rfl, Eq.trans⟩) (some 41) rfl (by kernel_rfl) (by kernel_rfl) (by kernel_rfl) (by kernel_rfl) (by kernel_rfl) (fun _ _ _ h => h) (by kernel_rfl) (fun w' hw' => ?_) ?_
      rotate_left
      · go_simp; with_reducible rfl
      simp only [Act.put, List.setIfInBounds_toArray, List.set_cons_zero, List.set_cons_succ]
      refine wpR_take (i := 29) (v := ?_) (⟨fun _ => rfl, Eq.trans⟩) (some 42) rfl (by kernel_rfl) (by kernel_rfl) (by kernel_rfl) (by kernel_rfl) (by kernel_rfl) (fun _ _ _ h => h) (by kernel_rfl) (fun w' hw' => ?_) ?_
      rotate_left
      · go_simp; with_reducible rfl
      simp only [Act.put, List.setIfInBounds_toArray, List.set_cons_zero, List.set_cons_succ]
      refine wpR_take (i := 30) (v := ?_) (⟨fun _ => rfl, Eq.trans⟩) (some 43) rfl (by kernel_rfl) (by kernel_rfl) (by kernel_rfl) (by kernel_rfl) (by kernel_rfl) (fun _ _ _ h => h) (by kernel_rfl) (fun w' hw' => ?_) ?_
      rotate_left
      · go_simp; with_reducible rfl
      simp only [Act.put, List.setIfInBounds_toArray, List.set_cons_zero, List.set_cons_succ]
      refine wpR_take (i := 31) (v := ?_) (⟨fun _ => rfl, Eq.trans⟩) (some 44) rfl (by kernel_rfl) (by kernel_rfl) (by kernel_rfl) (by kernel_rfl) (by kernel_rfl) (fun _ _ _ h => h) (by kernel_rfl) (fun w' hw' => ?_) ?_
      rotate_left
      · subst hw'; go_simp; with_reducible rfl
      simp only [Act.put, List.setIfInBounds_toArray, List.set_cons_zero, List.set_cons_succ]
      refine wpR_take (i := 32) (v := ?_) (⟨fun _ => rfl, Eq.trans⟩) (some 45) rfl (by kernel_rfl) (by kernel_rfl) (by kernel_rfl) (by kernel_rfl) (by kernel_rfl) (fun _ _ _ h => h) (by kernel_rfl) (fun w' hw' => ?_) ?_
      rotate_left
      · go_simp; with_reducible rfl
      simp only [Act.put, List.setIfInBounds_toArray, List.set_cons_zero, List.set_cons_succ]
      refine wpR_take (i := 33) (v := ?_) (⟨fun _ => rfl, Eq.trans⟩) (some 46) rfl (by kernel_rfl) (by kernel_rfl) (by kernel_rfl) (by kernel_rfl) (by kernel_rfl) (fun _ _ _ h => h) (by kernel_rfl) (fun w' hw' => ?_) ?_
      rotate_left
      · go_simp; with_reducible rfl
      simp only [Act.put, List.setIfInBounds_toArray, List.set_cons_zero, List.set_cons_succ]
      refine wpR_take (i := 34) (v := ?_) (⟨fun _ => rfl, Eq.trans⟩) (some 47) rfl (by kernel_rfl) (by kernel_rfl) (by kernel_rfl) (by kernel_rfl) (by kernel_rfl) (fun _ _ _ h => h) (by kernel_rfl) (fun w' hw' => ?_) ?_
      rotate_left
      · go_simp; with_reducible rfl
      simp only [Act.put, List.setIfInBounds_toArray, List.set_cons_zero, List.set_cons_succ]
      refine wpR_one 35 rfl (by kernel_rfl) (by kernel_rfl) (fun K hK => ?_)
      go_simp
      refine hK _ _ (fun h => absurd h (by decide)) ?_
      clear hK K
      try simp only [Act.put, List.setIfInBounds_toArray, List.set_cons_zero, List.set_cons_succ]
      refine wpR_done (by kernel_rfl) ?_ _
      have hv : zx32 (b q0) <<< 24 ||| zx32 (b q1) <<< 16 ||| zx32 (b q2) <<< 8 ||| zx32 (b q3) = wd b k := by rw [wd_low b hlt]; unfold big4; rw [← e0.out, ← e1.out, ← e2.out, ← e3.out]
      rw [hv]
      have hA' : Hid (Ar (wr.setCell ⟨w.heap.size + 1, k, none⟩ (.int .u32 (W (wd b k)))).drew (w.heap.size + 1) 105 64 (wdTo b (k + 1))) := Lib.hid (by rw [wdTo_succ]; exact (hA.out.set (by omega) _).other rfl)
      have hB' : Hid (Ar (wr.setCell ⟨w.heap.size + 1, k, none⟩ (.int .u32 (W (wd b k)))).drew w.heap.size 105 64 (fun _ => 0)) := Lib.hid ((hB.out.other (setCells_other (b := w.heap.size + 1) (by omega) [.int .u32 (W (wd b k))] k wr).1).other rfl)
      have hq' : Hid (Below w.heap.size w (wr.setCell ⟨w.heap.size + 1, k, none⟩ (.int .u32 (W (wd b k)))).drew) := Lib.hid ((below_setCells (b := w.heap.size + 1) hq.out (by omega) k [.int .u32 (W (wd b k))]).drew)
      go_wp2_with fail
      go_roundw
      case rel => first | exact ⟨k + 1, by omega, by go_num, hA', hB', hq'⟩ | ((repeat apply Exists.intro); exact ⟨⟨k + 1, by omega, by go_num, hA', hB', hq'⟩, rfl⟩)
      case measure => simp [intOf]; omega
    · obtain rfl : k = 16 := by omega
      have i16 : decide (((16 : Nat) : Int) < 16) = false := by decide
      go_wp2_with fail
      go_loopw [5] (fun v wr => ∃ (k : Nat), 16 ≤ k ∧ k ≤ 64 ∧ v = .int .i64 k ∧ Hid (Ar wr (w.heap.size + 1) 105 64 (wdTo b k)) ∧ Hid (Ar wr w.heap.size 105 64 (fun _ => 0)) ∧ Hid (Below w.heap.size w wr)) (fun v _ => (64 - intOf v).toNat)
      case atStart => exact ⟨16, by omega, by omega, rfl, hA, hB, hq⟩
      case round =>
        obtain ⟨n, hn1, hn2, rfl, hA5, hB5, hq5⟩ := hrel
        clear hA hB hq
        by_cases hlt : n < 64
        · have i64' : (n : Int) < 64 := by omega
          go_wp2_with fail
          have hAd : Hid (Ar wr.drew (w.heap.size + 1) 105 64 (wdTo b n)) := Lib.hid (hA5.out.other rfl)
          obtain ⟨p1, f1⟩ : ∃ p, n - 15 = p := ⟨_, rfl⟩
          obtain ⟨p2, f2⟩ : ∃ p, n - 2 = p := ⟨_, rfl⟩
          have c1 := hAd.out.at (i := p1) (by omega)
          have c2 := hAd.out.at (i := p2) (by omega)
          rw [wdTo_at b (by omega)] at c1 c2
          have m1 : IntKind.i64.wrap ((n : Int) - 15) = (p1 : Int) := by rw [i64_wrap_id (by omega) (by omega)]; omega
          have m2 : IntKind.i64.wrap ((n : Int) - 2) = (p2 : Int) := by rw [i64_wrap_id (by omega) (by omega)]; omega
          have l1 : (p1 : Int) < 64 := by omega
          have l2 : (p2 : Int) < 64 := by omega
          replace f1 := Lib.hid f1
          replace f2 := Lib.hid f2
          refine wpR_region (Eq) 9999 (by kernel_rfl) ?_
          refine wpR_take (i := 0) (v := ?_) (⟨fun _ => rfl, Eq.trans⟩) (some 53) rfl (by kernel_rfl) (by kernel_rfl) (by kernel_rfl) (by kernel_rfl) (by kernel_rfl) (fun _ _ _ h => h) (by kernel_rfl) (fun w' hw' => ?_) ?_
          rotate_left
          · go_simp; with_reducible rfl
          simp only [Act.put, List.setIfInBounds_toArray, List.set_cons_zero, List.set_cons_succ]
          refine wpR_take (i := 1) (v := ?_) (⟨fun _ => rfl, Eq.trans⟩) (some 54) rfl (by kernel_rfl) (by kernel_rfl) (by kernel_rfl) (by kernel_rfl) (by kernel_rfl) (fun _ _ _ h => h) (by kernel_rfl) (fun w' hw' => ?_) ?_
          rotate_left
          · go_simp; with_reducible rfl
          simp only [Act.put, List.setIfInBounds_toArray, List.set_cons_zero, List.set_cons_succ]
          refine wpR_take (i := 2) (v := ?_) (⟨fun _ => rfl, Eq.trans⟩) (some 55) rfl (by kernel_rfl) (by kernel_rfl) (by kernel_rfl) (by kernel_rfl) (by kernel_rfl) (fun _ _ _ h => h) (by kernel_rfl) (fun w' hw' => ?_) ?_
          rotate_left
          · go_simp; with_reducible rfl
          simp only [Act.put, List.setIfInBounds_toArray, List.set_cons_zero, List.set_cons_succ]
          refine wpR_take (i := 3) (v := ?_) (⟨fun _ => rfl, Eq.trans⟩) (some 56) rfl (by kernel_rfl) (by kernel_rfl) (by kernel_rfl) (by kernel_rfl) (by kernel_rfl) (fun _ _ _ h => h) (by kernel_rfl) (fun w' hw' => ?_) ?_
          rotate_left
          · subst hw'; go_simp; with_reducible rfl
          simp only [Act.put, List.setIfInBounds_toArray, List.set_cons_zero, List.set_cons_succ]
          refine wpR_take (i := 4) (v := ?_) (⟨fun _ => rfl, Eq.trans⟩) (some 57) rfl (by kernel_rfl) (by kernel_rfl) (by kernel_rfl) (by kernel_rfl) (by kernel_rfl) (fun _ _ _ h => h) (by kernel_rfl) (fun w' hw' => ?_) ?_
          rotate_left
          · go_simp; with_reducible rfl
          simp only [Act.put, List.setIfInBounds_toArray, List.set_cons_zero, List.set_cons_succ]
          refine wpR_take (i := 5) (v := ?_) (⟨fun _ => rfl, Eq.trans⟩) (some 58) rfl (by kernel_rfl) (by kernel_rfl) (by kernel_rfl) (by kernel_rfl) (by kernel_rfl) (fun _ _ _ h => h) (by kernel_rfl) (fun w' hw' => ?_) ?_
          rotate_left
          · go_simp; with_reducible rfl
          simp only [Act.put, List.setIfInBounds_toArray, List.set_cons_zero, List.set_cons_succ]
          refine wpR_take (i := 6) (v := ?_) (⟨fun _ => rfl, Eq.trans⟩) (some 59) rfl (by kernel_rfl) (by kernel_rfl) (by kernel_rfl) (by kernel_rfl) (by kernel_rfl) (fun _ _ _ h => h) (by kernel_rfl) (fun w' hw' => ?_) ?_
          rotate_left
          · go_simp; with_reducible rfl
          simp only [Act.put, List.setIfInBounds_toArray, List.set_cons_zero, List.set_cons_succ]
          refine wpR_take (i := 7) (v := ?_) (⟨fun _ => rfl, Eq.trans⟩) (some 60) rfl (by kernel_rfl) (by kernel_rfl) (by kernel_rfl) (by kernel_rfl) (by kernel_rfl) (fun _ _ _ h => h) (by kernel_rfl) (fun w' hw' => ?_) ?_
          rotate_left
          · subst hw'; go_simp; with_reducible rfl
          simp only [Act.put, List.setIfInBounds_toArray, List.set_cons_zero, List.set_cons_succ]
          refine wpR_take (i := 8) (v := ?_) (⟨fun _ => rfl, Eq.trans⟩) (some 6) rfl (by kernel_rfl) (by kernel_rfl) (by kernel_rfl) (by kernel_rfl) (by kernel_rfl) (fun _ _ _ h => h) (by kernel_rfl) (fun w' hw' => ?_) ?_
          rotate_left
          · go_simp; with_reducible rfl
          simp only [Act.put, List.setIfInBounds_toArray, List.set_cons_zero, List.set_cons_succ]
          refine wpR_take (i := 9) (v := ?_) (⟨fun _ => rfl, Eq.trans⟩) (some 7) rfl (by kernel_rfl) (by kernel_rfl) (by kernel_rfl) (by kernel_rfl) (by kernel_rfl) (fun _ _ _ h => h) (by kernel_rfl) (fun w' hw' => ?_) ?_
          rotate_left
          · go_simp; with_reducible rfl
          simp only [Act.put, List.setIfInBounds_toArray, List.set_cons_zero, List.set_cons_succ]
          refine wpR_done (by kernel_rfl) ?_ _
          go_wp2_with fail
          refine (turn_7 _ _).mono ?_
          rintro e w' ⟨rfl, rfl⟩
          go_wp2_with fail
          refine (turn_18 _ _).mono ?_
          rintro e w' ⟨rfl, rfl⟩
          go_wp2_with fail
          refine (turn_17 _ _).mono ?_
          rintro e w' ⟨rfl, rfl⟩
          go_wp2_with fail
          refine (turn_19 _ _).mono ?_
          rintro e w' ⟨rfl, rfl⟩
          go_wp2_with fail
          generalize hx0 : tn 7 (wd b p1) ^^^ tn 18 (wd b p1) ^^^ wd b p1 >>> 3 = s0
          generalize hy0 : tn 17 (wd b p2) ^^^ tn 19 (wd b p2) ^^^ wd b p2 >>> 10 = t0
          replace hx0 := Lib.hid hx0
          replace hy0 := Lib.hid hy0
          have hAe : Hid (Ar wr.drew.drew (w.heap.size + 1) 105 64 (wdTo b n)) := Lib.hid (hA5.out.other rfl)
          clear c1 c2 m1 m2 l1 l2
          obtain ⟨p3, f3⟩ : ∃ p, n - 16 = p := ⟨_, rfl⟩
          obtain ⟨p4, f4⟩ : ∃ p, n - 7 = p := ⟨_, rfl⟩
          have c1 := hAe.out.at (i := p3) (by omega)
          have c2 := hAe.out.at (i := p4) (by omega)
          rw [wdTo_at b (by omega)] at c1 c2
          have m1 : IntKind.i64.wrap ((n : Int) - 16) = (p3 : Int) := by rw [i64_wrap_id (by omega) (by omega)]; omega
          have m2 : IntKind.i64.wrap ((n : Int) - 7) = (p4 : Int) := by rw [i64_wrap_id (by omega) (by omega)]; omega
          have l1 : (p3 : Int) < 64 := by omega
          have l2 : (p4 : Int) < 64 := by omega
          replace f3 := Lib.hid f3
          replace f4 := Lib.hid f4
          have cw := hAe.out.at (i := n) (by omega)
          have fz : wr.frozen? ⟨w.heap.size + 1, n, none⟩ = false := by have := hA5.out; unfold Ar at this; simp [World.frozen?, this]
          refine wpR_region (Eq) 15 (by kernel_rfl) ?_
          refine wpR_take (i := 0) (v := ?_) (⟨fun _ => rfl, Eq.trans⟩) (some 77) rfl (by kernel_rfl) (by kernel_rfl) (by kernel_rfl) (by kernel_rfl) (by kernel_rfl) (fun _ _ _ h => h) (by kernel_rfl) (fun w' hw' => ?_) ?_
          rotate_left
          · go_simp; with_reducible rfl
          simp only [Act.put, List.setIfInBounds_toArray, List.set_cons_zero, List.set_cons_succ]
          refine wpR_take (i := 1) (v := ?_) (⟨fun _ => rfl, Eq.trans⟩) (some 78) rfl (by kernel_rfl) (by kernel_rfl) (by kernel_rfl) (by kernel_rfl) (by kernel_rfl) (fun _ _ _ h => h) (by kernel_rfl) (fun w' hw' => ?_) ?_
          rotate_left
          · go_simp; with_reducible rfl
          simp only [Act.put, List.setIfInBounds_toArray, List.set_cons_zero, List.set_cons_succ]
          refine wpR_take (i := 2) (v := ?_) (⟨fun _ => rfl, Eq.trans⟩) (some 79) rfl (by kernel_rfl) (by kernel_rfl) (by kernel_rfl) (by kernel_rfl) (by kernel_rfl) (fun _ _ _ h => h) (by kernel_rfl) (fun w' hw' => ?_) ?_
          rotate_left
          · go_simp; with_reducible rfl
          simp only [Act.put, List.setIfInBounds_toArray, List.set_cons_zero, List.set_cons_succ]
          refine wpR_take (i := 3) (v := ?_) (⟨fun _ => rfl, Eq.trans⟩) (some 80) rfl (by kernel_rfl) (by kernel_rfl) (by kernel_rfl) (by kernel_rfl) (by kernel_rfl) (fun _ _ _ h => h) (by kernel_rfl) (fun w' hw' => ?_) ?_
          rotate_left
          · go_simp; with_reducible rfl
          simp only [Act.put, List.setIfInBounds_toArray, List.set_cons_zero, List.set_cons_succ]
          refine wpR_take (i := 4) (v := ?_) (⟨fun _ => rfl, Eq.trans⟩) (some 81) rfl (by kernel_rfl) (by kernel_rfl) (by kernel_rfl) (by kernel_rfl) (by kernel_rfl) (fun _ _ _ h => h) (by kernel_rfl) (fun w' hw' => ?_) ?_
          rotate_left
          · subst hw'; go_simp; with_reducible rfl
          simp only [Act.put, List.setIfInBounds_toArray, List.set_cons_zero, List.set_cons_succ]
          refine wpR_take (i := 5) (v := ?_) (⟨fun _ => rfl, Eq.trans⟩) (some 82) rfl (by kernel_rfl) (by kernel_rfl) (by kernel_rfl) (by kernel_rfl) (by kernel_rfl) (fun _ _ _ h => h) (by kernel_rfl) (fun w' hw' => ?_) ?_
          rotate_left
          · go_simp; with_reducible rfl
          simp only [Act.put, List.setIfInBounds_toArray, List.set_cons_zero, List.set_cons_succ]
          refine wpR_take (i := 6) (v := ?_) (⟨fun _ => rfl, Eq.trans⟩) (some 83) rfl (by kernel_rfl) (by kernel_rfl) (by kernel_rfl) (by kernel_rfl) (by kernel_rfl) (fun _ _ _ h => h) (by kernel_rfl) (fun w' hw' => ?_) ?_
          rotate_left
          · go_simp; with_reducible rfl
          simp only [Act.put, List.setIfInBounds_toArray, List.set_cons_zero, List.set_cons_succ]
          refine wpR_take (i := 7) (v := ?_) (⟨fun _ => rfl, Eq.trans⟩) (some 84) rfl (by kernel_rfl) (by kernel_rfl) (by kernel_rfl) (by kernel_rfl) (by kernel_rfl) (fun _ _ _ h => h) (by kernel_rfl) (fun w' hw' => ?_) ?_
          rotate_left
          · go_simp; with_reducible rfl
          simp only [Act.put, List.setIfInBounds_toArray, List.set_cons_zero, List.set_cons_succ]
          refine wpR_take (i := 8) (v := ?_) (⟨fun _ => rfl, Eq.trans⟩) (some 85) rfl (by kernel_rfl) (by kernel_rfl) (by kernel_rfl) (by kernel_rfl) (by kernel_rfl) (fun _ _ _ h => h) (by kernel_rfl) (fun w' hw' => ?_) ?_
          rotate_left
          · subst hw'; go_simp; with_reducible rfl
          simp only [Act.put, List.setIfInBounds_toArray, List.set_cons_zero, List.set_cons_succ]
          refine wpR_take (i := 9) (v := ?_) (⟨fun _ => rfl, Eq.trans⟩) (some 86) rfl (by kernel_rfl) (by kernel_rfl) (by kernel_rfl) (by kernel_rfl) (by kernel_rfl) (fun _ _ _ h => h) (by kernel_rfl) (fun w' hw' => ?_) ?_
          rotate_left
          · go_simp; with_reducible rfl
          simp only [Act.put, List.setIfInBounds_toArray, List.set_cons_zero, List.set_cons_succ]
          refine wpR_take (i := 10) (v := ?_) (⟨fun _ => rfl, Eq.trans⟩) (some 87) rfl (by kernel_rfl) (by kernel_rfl) (by kernel_rfl) (by kernel_rfl) (by kernel_rfl) (fun _ _ _ h => h) (by kernel_rfl) (fun w' hw' => ?_) ?_
          rotate_left
          · go_simp; with_reducible rfl
          simp only [Act.put, List.setIfInBounds_toArray, List.set_cons_zero, List.set_cons_succ]
          refine wpR_take (i := 11) (v := ?_) (⟨fun _ => rfl, Eq.trans⟩) (some 88) rfl (by kernel_rfl) (by kernel_rfl) (by kernel_rfl) (by kernel_rfl) (by kernel_rfl) (fun _ _ _ h => h) (by kernel_rfl) (fun w' hw' => ?_) ?_
          rotate_left
          · go_simp; with_reducible rfl
          simp only [Act.put, List.setIfInBounds_toArray, List.set_cons_zero, List.set_cons_succ]
          refine wpR_take (i := 12) (v := ?_) (⟨fun _ => rfl, Eq.trans⟩) (some 89) rfl (by kernel_rfl) (by kernel_rfl) (by kernel_rfl) (by kernel_rfl) (by kernel_rfl) (fun _ _ _ h => h) (by kernel_rfl) (fun w' hw' => ?_) ?_
          rotate_left
          · go_simp; with_reducible rfl
          simp only [Act.put, List.setIfInBounds_toArray, List.set_cons_zero, List.set_cons_succ]
          refine wpR_take (i := 13) (v := ?_) (⟨fun _ => rfl, Eq.trans⟩) (some 90) rfl (by kernel_rfl) (by kernel_rfl) (by kernel_rfl) (by kernel_rfl) (by kernel_rfl) (fun _ _ _ h => h) (by kernel_rfl) (fun w' hw' => ?_) ?_
          rotate_left
          · go_simp; with_reducible rfl
          simp only [Act.put, List.setIfInBounds_toArray, List.set_cons_zero, List.set_cons_succ]
          refine wpR_take (i := 14) (v := ?_) (⟨fun _ => rfl, Eq.trans⟩) (some 91) rfl (by kernel_rfl) (by kernel_rfl) (by kernel_rfl) (by kernel_rfl) (by kernel_rfl) (fun _ _ _ h => h) (by kernel_rfl) (fun w' hw' => ?_) ?_
          rotate_left
          · go_simp; with_reducible rfl
          simp only [Act.put, List.setIfInBounds_toArray, List.set_cons_zero, List.set_cons_succ]
          refine wpR_one 15 rfl (by kernel_rfl) (by kernel_rfl) (fun K hK => ?_)
          go_simp
          refine hK _ _ (fun h => absurd h (by decide)) ?_
          clear hK K
          try simp only [Act.put, List.setIfInBounds_toArray, List.set_cons_zero, List.set_cons_succ]
          refine wpR_done (by kernel_rfl) ?_ _
          have hv : wd b p3 + wd b p4 + s0 + t0 = wd b n := by rw [wd_high b hn1]; unfold lowS lowT; rw [f1.out, f2.out, f3.out, f4.out, hx0.out, hy0.out]
          rw [hv]
          have hA' : Hid (Ar (wr.setCell ⟨w.heap.size + 1, n, none⟩ (.int .u32 (W (wd b n)))).drew.drew (w.heap.size + 1) 105 64 (wdTo b (n + 1))) := Lib.hid (by rw [wdTo_succ]; exact (hA5.out.set (by omega) _).other rfl)
          have hB' : Hid (Ar (wr.setCell ⟨w.heap.size + 1, n, none⟩ (.int .u32 (W (wd b n)))).drew.drew w.heap.size 105 64 (fun _ => 0)) := Lib.hid ((hB5.out.other (setCells_other (b := w.heap.size + 1) (by omega) [.int .u32 (W (wd b n))] n wr).1).other rfl)
          have hq' : Hid (Below w.heap.size w (wr.setCell ⟨w.heap.size + 1, n, none⟩ (.int .u32 (W (wd b n)))).drew.drew) := Lib.hid ((below_setCells (b := w.heap.size + 1) hq5.out (by omega) n [.int .u32 (W (wd b n))]).drew.drew)
          go_wp2_with fail
          go_roundw
          case rel => first | exact ⟨n + 1, by omega, by omega, by go_num, hA', hB', hq'⟩ | ((repeat apply Exists.intro); exact ⟨⟨n + 1, by omega, by omega, by go_num, hA', hB', hq'⟩, rfl⟩)
          case measure => simp [intOf]; omega
        · obtain rfl : n = 64 := by omega
          have i64' : decide (((64 : Nat) : Int) < 64) = false := by decide
          clear hlt
          go_upto_region 14 with (fail)
          have hAr : Ar wr (w.heap.size + 1) 105 64 (wd b) := hA5.out.congr (fun k hk => wdTo_at b hk)
          have ht := Lib.hid (there_of hB5.out (n := 64) (by simp [wcells_length]))
          have hA9 := Lib.hid (Ar.of_store (n := 64) (f := wd b) hB5.out (by simp [wcells_length]))
          have hq9 := Lib.hid (below_setCells (b := w.heap.size) hq5.out (Nat.le_refl _) 0 (wcells 64 (wd b)))
          have hrg := Lib.hid hAr.range
          have hu : Try.prog.underlying 105 = some (.array 64 86) := by kernel_rfl
          replace hu := Lib.hid hu
          clear hAr hA5 hB5 hq5
          have h1 : (wcells 64 (wd b)).toArray.all (·.oneCell') = true := all_oneCell_toArray (wcells_one 64 (wd b))
          have h2 : (wcells 64 (wd b)).toArray.size = 64 := by rw [List.size_toArray, wcells_length]
          have h3 : (wcells 64 (wd b)).toArray.toList = wcells 64 (wd b) := rfl
          refine wp_region_lit ?_
          refine wpList_load_mid rfl 105 (.tmp 3) rfl (w.heap.size + 1) 0 rfl (wcells 64 (wd b)) _ hrg.out hu.out rfl (by rw [wcells_length]; exact info_k) ?_
          generalize hcs : (wcells 64 (wd b)).toArray = cs at h1 h2 h3 ⊢
          refine wpList_store_mid rfl 105 (.tmp 2) (.tmp 92) rfl w.heap.size 0 cs rfl rfl (by rw [h2]; exact ht.out) (by rw [h2]; exact info_k) h1 ?_
          rw [h3]
          refine wpList_nil ?_
          simp only [Act.put, List.setIfInBounds_toArray, List.set_cons_zero, List.set_cons_succ]
          go_wp2
          have hl := run_loadVar_mid (P := Try.prog) _ w.heap.size 0 105 (wcells 64 (wd b)) _ hA9.out.range hu.out rfl (by rw [wcells_length]; exact info_k)
          rw [← hcs]
          exact bodyPost_ret (v := .agg (wcells 64 (wd b)).toArray) (results_cell rfl rfl hl) rfl ⟨rfl, hq9.out⟩
end Go.Proofs.Ytdgkcgiknfjpjaa
/- dig: the rounds, purely. -/
namespace Go.Proofs.Ytdgkcgiknfjpjaa
set_option linter.unusedVariables false
set_option linter.unusedSimpArgs false
open Go Go.RowKit
/-- choice and majority -/
def ch3w (e f g : BitVec 32) : BitVec 32 := e &&& f ^^^ ~~~e &&& g
def mj3w (a b c : BitVec 32) : BitVec 32 := a &&& b ^^^ a &&& c ^^^ b &&& c
def one1 (st : Nat → BitVec 32) (k w : BitVec 32) : BitVec 32 := st 7 + (tn 6 (st 4) ^^^ tn 11 (st 4) ^^^ tn 25 (st 4)) + ch3w (st 4) (st 5) (st 6) + k + w
def two2 (st : Nat → BitVec 32) : BitVec 32 := tn 2 (st 0) ^^^ tn 13 (st 0) ^^^ tn 22 (st 0)
/-- the state after one round -/
def nx (st : Nat → BitVec 32) (k w : BitVec 32) (i : Nat) : BitVec 32 :=
  if i = 0 then one1 st k w + (two2 st + mj3w (st 0) (st 1) (st 2)) else if i = 4 then st 3 + one1 st k w else st (i - 1)
def rnd (s f : Nat → BitVec 32) : Nat → Nat → BitVec 32
  | 0 => s
  | n + 1 => nx (rnd s f n) (kF n) (f n)
def blkS (s f : Nat → BitVec 32) (i : Nat) : BitVec 32 := rnd s f 64 i + s i
/-- .. the first i of them added -/
def blkTo (s f : Nat → BitVec 32) (i k : Nat) : BitVec 32 := if k < i then blkS s f k else rnd s f 64 k
theorem blkTo_zero (s f : Nat → BitVec 32) : blkTo s f 0 = rnd s f 64 := by funext k; simp [blkTo]
theorem blkTo_at (s f : Nat → BitVec 32) (i : Nat) : blkTo s f i i = rnd s f 64 i := by simp [blkTo]
theorem blkTo_succ (s f : Nat → BitVec 32) (i : Nat) : blkTo s f (i + 1) = fun k => if k = i then rnd s f 64 i + s i else blkTo s f i k := by
  funext k
  unfold blkTo
  by_cases h : k = i
  · subst h; rw [if_pos (by omega), if_pos rfl]; rfl
  · rw [if_neg h]
    by_cases h' : k < i
    · rw [if_pos h', if_pos (by omega)]
    · rw [if_neg h', if_neg (by omega)]
theorem nx_cells (st : Nat → BitVec 32) (k w : BitVec 32) : wcells 8 (nx st k w) = [.int .u32 (W (one1 st k w + (two2 st + mj3w (st 0) (st 1) (st 2)))), .int .u32 (W (st 0)), .int .u32 (W (st 1)), .int .u32 (W (st 2)), .int .u32 (W (st 3 + one1 st k w)), .int .u32 (W (st 4)), .int .u32 (W (st 5)), .int .u32 (W (st 6))] := rfl
theorem wcells8 (f : Nat → BitVec 32) : wcells 8 f = [.int .u32 (W (f 0)), .int .u32 (W (f 1)), .int .u32 (W (f 2)), .int .u32 (W (f 3)), .int .u32 (W (f 4)), .int .u32 (W (f 5)), .int .u32 (W (f 6)), .int .u32 (W (f 7))] := rfl
/-- what is at first -/
def h0List : List (BitVec 32) := [0x6a09e667#32, 0xbb67ae85#32, 0x3c6ef372#32, 0xa54ff53a#32, 0x510e527f#32, 0x9b05688c#32, 0x1f83d9ab#32, 0x5be0cd19#32]
def h0F (i : Nat) : BitVec 32 := h0List.getD i 0
/-- the bytes of block x -/
def blkB (ml : List UInt8) (x j : Nat) : UInt8 := ml.getD (x * 64 + j) 0
/-- the state after x blocks -/
def stB (ml : List UInt8) : Nat → Nat → BitVec 32
  | 0 => h0F
  | x + 1 => blkS (stB ml x) (wd (blkB ml x))
/-- the digest's bytes -/
def dgB (st : Nat → BitVec 32) (j : Nat) : UInt8 := lo8 (st (j / 4) >>> (24 - 8 * (j % 4)))
def dg (l : List UInt8) : List UInt8 := row 32 (dgB (stB (msg l) (allN l.length / 64)))
theorem dg_length (l : List UInt8) : (dg l).length = 32 := row_length _ _
end Go.Proofs.Ytdgkcgiknfjpjaa
/- dig: a block added to the state. -/
namespace Go.Proofs.Ytdgkcgiknfjpjaa
set_option linter.unusedVariables false
set_option linter.unusedSimpArgs false
open Go Go.RowKit
theorem info_s : (Try.prog.info? 104).map (·.size) = some 8 := by kernel_rfl
theorem Ar.lt {w : World} {g n : Nat} {t : TypeId} {f : Nat → BitVec 32} (h : Ar w g t n f) : g < w.heap.size := (Array.getElem?_eq_some_iff.mp h).1
theorem Ar.below {w w' : World} {B g n : Nat} {t : TypeId} {f : Nat → BitVec 32} (h : Ar w g t n f) (hb : Below B w w') (hg : g < B) : Ar w' g t n f := h.other (by
  obtain ⟨-, -, -, -, e⟩ := hb
  exact e _ hg)
theorem Ar.new (w : World) (t : TypeId) (n : Nat) (f : Nat → BitVec 32) : Ar (w.alloc (.cells (wcells n f).toArray t)) w.heap.size t n f := heap_alloc_new w _
theorem Ar.alloc {w : World} {g n : Nat} {t : TypeId} {f : Nat → BitVec 32} (h : Ar w g t n f) (o : Obj) : Ar (w.alloc o) g t n f := h.below ((Below.refl _ w).alloc (Nat.le_refl _) o) h.lt
@[go_sem] theorem u32_not (x : BitVec 32) : bits .xor .u32 (W x) (-1) = W (~~~x) := u32_back _ _ (by
  rw [u32_bv]
  show x ^^^ BitVec.ofInt 32 (-1) = ~~~x
  rw [show BitVec.ofInt 32 (-1) = BitVec.allOnes 32 from by decide, BitVec.xor_allOnes])
theorem z8 : (#[.int .u32 0, .int .u32 0, .int .u32 0, .int .u32 0, .int .u32 0, .int .u32 0, .int .u32 0, .int .u32 0] : Array Value) = (wcells 8 (fun _ => 0)).toArray := rfl
set_option maxHeartbeats 8000000 in
set_option maxRecDepth 20000 in
theorem addBlock_any (s f : Nat → BitVec 32) (kb : Nat) (w : World) (hk : Hid (Ar w kb 105 64 kF)) : Calls Try.prog 67 #[.agg (wcells 8 s).toArray, .agg (wcells 64 f).toArray, .pointer (some ⟨kb, 0, none⟩)] w fun e w' => e = .returned (.agg (wcells 8 (blkS s f)).toArray) ∧ Gr w w' := by
  have hkl := Lib.hid hk.out.lt
  obtain ⟨w3, hw3⟩ : ∃ x, ((w.alloc (.cells (wcells 8 s).toArray 104)).alloc (.cells (wcells 64 f).toArray 105)).alloc (.cells #[.int .u32 0, .int .u32 0, .int .u32 0, .int .u32 0, .int .u32 0, .int .u32 0, .int .u32 0, .int .u32 0] 104) = x := ⟨_, rfl⟩
  have s3 : w3.heap.size = w.heap.size + 1 + 1 + 1 := by rw [← hw3]; simp
  have hS : Hid (Ar w3 w.heap.size 104 8 s) := Lib.hid (by rw [← hw3]; exact ((Ar.new w _ _ _).alloc _).alloc _)
  have hF : Hid (Ar w3 (w.heap.size + 1) 105 64 f) := Lib.hid (by rw [← hw3]; have := (Ar.new (w.alloc (.cells (wcells 8 s).toArray 104)) 105 64 f).alloc (.cells #[.int .u32 0, .int .u32 0, .int .u32 0, .int .u32 0, .int .u32 0, .int .u32 0, .int .u32 0, .int .u32 0] 104); simpa using this)
  have hZ : Hid (Ar w3 (w.heap.size + 1 + 1) 104 8 (fun _ => 0)) := Lib.hid (by rw [← hw3, z8]; have := Ar.new ((w.alloc (.cells (wcells 8 s).toArray 104)).alloc (.cells (wcells 64 f).toArray 105)) 104 8 (fun _ => 0); simpa using this)
  have hq : Hid (Below w.heap.size w w3) := Lib.hid (by rw [← hw3]; exact (((Below.refl _ w).alloc (Nat.le_refl _) _).alloc (by simp) _).alloc (by simp; omega) _)
  have hK : Hid (Ar w3 kb 105 64 kF) := Lib.hid (hk.out.below hq.out hk.out.lt)
  have c0 := hS.out.at (i := 0) (by decide)
  have c1 := hS.out.at (i := 1) (by decide)
  have c2 := hS.out.at (i := 2) (by decide)
  have c3 := hS.out.at (i := 3) (by decide)
  have c4 := hS.out.at (i := 4) (by decide)
  have c5 := hS.out.at (i := 5) (by decide)
  have c6 := hS.out.at (i := 6) (by decide)
  have c7 := hS.out.at (i := 7) (by decide)
  go_enter Try.func67, Try.ntmps67
  go_upto_region 1 with (fail)
  try rw [hw3]
  replace hw3 := Lib.hid hw3
  replace s3 := Lib.hid s3
  go_upto_region 2 with (fail)
  rw [show (#[.int .u32 (W (s 0)), .int .u32 (W (s 1)), .int .u32 (W (s 2)), .int .u32 (W (s 3)), .int .u32 (W (s 4)), .int .u32 (W (s 5)), .int .u32 (W (s 6)), .int .u32 (W (s 7))] : Array Value) = (wcells 8 s).toArray from rfl]
  have hM : Hid (Ar (w3.alloc (.cells (wcells 8 s).toArray 104)) w3.heap.size 104 8 s) := Lib.hid (Ar.new w3 _ _ _)
  replace hS := Lib.hid (hS.out.alloc (.cells (wcells 8 s).toArray 104))
  replace hF := Lib.hid (hF.out.alloc (.cells (wcells 8 s).toArray 104))
  replace hZ := Lib.hid (hZ.out.alloc (.cells (wcells 8 s).toArray 104))
  replace hK := Lib.hid (hK.out.alloc (.cells (wcells 8 s).toArray 104))
  replace hq := Lib.hid (hq.out.alloc hq.out.size (.cells (wcells 8 s).toArray 104))
  clear c0 c1 c2 c3 c4 c5 c6 c7 hk
  obtain ⟨w4, hw4⟩ : ∃ x, w3.alloc (.cells (wcells 8 s).toArray 104) = x := ⟨_, rfl⟩
  rw [hw4] at hM hS hF hZ hK hq ⊢
  rw [s3.out] at hM ⊢
  replace hw4 := Lib.hid hw4
  generalize hg : w.heap.size = g at hM hS hF hZ hq ⊢
  have hkb : Hid (kb < g) := Lib.hid (by rw [← hg]; exact hkl.out)
  replace hg := Lib.hid hg
  go_wp2_with fail
  go_loopw [21] (fun v wr => ∃ (k : Nat), k ≤ 64 ∧ v = .int .i64 k ∧ Hid (Ar wr (g + 1 + 1 + 1) 104 8 (rnd s f k)) ∧ Hid (Ar wr g 104 8 s) ∧ Hid (Ar wr (g + 1) 105 64 f) ∧ Hid (Ar wr (g + 1 + 1) 104 8 (fun _ => 0)) ∧ Hid (Ar wr kb 105 64 kF) ∧ Hid (Below g w wr)) (fun v _ => (64 - intOf v).toNat)
  case atStart => exact ⟨0, by omega, rfl, hM, hS, hF, hZ, hK, hq⟩
  case round =>
    obtain ⟨k, hk, rfl, hM1, hS1, hF1, hZ1, hK1, hq1⟩ := hrel
    clear hM hS hF hZ hK hq
    by_cases hlt : k < 64
    · have i64' : (k : Int) < 64 := by omega
      go_wp2_with fail
      have hMd : Ar wr.drew (g + 1 + 1 + 1) 104 8 (rnd s f k) := hM1.out.other rfl
      obtain ⟨x0, e0⟩ : ∃ x, rnd s f k 0 = x := ⟨_, rfl⟩
      obtain ⟨x1, e1⟩ : ∃ x, rnd s f k 1 = x := ⟨_, rfl⟩
      obtain ⟨x2, e2⟩ : ∃ x, rnd s f k 2 = x := ⟨_, rfl⟩
      obtain ⟨x3, e3⟩ : ∃ x, rnd s f k 3 = x := ⟨_, rfl⟩
      obtain ⟨x4, e4⟩ : ∃ x, rnd s f k 4 = x := ⟨_, rfl⟩
      obtain ⟨x5, e5⟩ : ∃ x, rnd s f k 5 = x := ⟨_, rfl⟩
      obtain ⟨x6, e6⟩ : ∃ x, rnd s f k 6 = x := ⟨_, rfl⟩
      obtain ⟨x7, e7⟩ : ∃ x, rnd s f k 7 = x := ⟨_, rfl⟩
      have c0 := hMd.at (i := 0) (by decide)
      rw [e0] at c0
      have c1 := hMd.at (i := 1) (by decide)
      rw [e1] at c1
      have c2 := hMd.at (i := 2) (by decide)
      rw [e2] at c2
      have c3 := hMd.at (i := 3) (by decide)
      rw [e3] at c3
      have c4 := hMd.at (i := 4) (by decide)
      rw [e4] at c4
      have c5 := hMd.at (i := 5) (by decide)
      rw [e5] at c5
      have c6 := hMd.at (i := 6) (by decide)
      rw [e6] at c6
      have c7 := hMd.at (i := 7) (by decide)
      rw [e7] at c7
      replace hMd := Lib.hid hMd
      refine wpR_region (Eq) 9999 (by kernel_rfl) ?_
      refine wpR_take (i := 0) (v := ?_) (⟨fun _ => rfl, Eq.trans⟩) (some 24) rfl (by kernel_rfl) (by kernel_rfl) (by kernel_rfl) (by kernel_rfl) (by kernel_rfl) (fun _ _ _ h => h) (by kernel_rfl) (fun w' hw' => ?_) ?_
      rotate_left
      · go_simp; with_reducible rfl
      simp only [Act.put, List.setIfInBounds_toArray, List.set_cons_zero, List.set_cons_succ]
      refine wpR_take (i := 1) (v := ?_) (⟨fun _ => rfl, Eq.trans⟩) (some 25) rfl (by kernel_rfl) (by kernel_rfl) (by kernel_rfl) (by kernel_rfl) (by kernel_rfl) (fun _ _ _ h => h) (by kernel_rfl) (fun w' hw' => ?_) ?_
      rotate_left
      · subst hw'; go_simp; with_reducible rfl
      simp only [Act.put, List.setIfInBounds_toArray, List.set_cons_zero, List.set_cons_succ]
      refine wpR_take (i := 2) (v := ?_) (⟨fun _ => rfl, Eq.trans⟩) (some 26) rfl (by kernel_rfl) (by kernel_rfl) (by kernel_rfl) (by kernel_rfl) (by kernel_rfl) (fun _ _ _ h => h) (by kernel_rfl) (fun w' hw' => ?_) ?_
      rotate_left
      · go_simp; with_reducible rfl
      simp only [Act.put, List.setIfInBounds_toArray, List.set_cons_zero, List.set_cons_succ]
      refine wpR_take (i := 3) (v := ?_) (⟨fun _ => rfl, Eq.trans⟩) (some 27) rfl (by kernel_rfl) (by kernel_rfl) (by kernel_rfl) (by kernel_rfl) (by kernel_rfl) (fun _ _ _ h => h) (by kernel_rfl) (fun w' hw' => ?_) ?_
      rotate_left
      · subst hw'; go_simp; with_reducible rfl
      simp only [Act.put, List.setIfInBounds_toArray, List.set_cons_zero, List.set_cons_succ]
      refine wpR_take (i := 4) (v := ?_) (⟨fun _ => rfl, Eq.trans⟩) (some 28) rfl (by kernel_rfl) (by kernel_rfl) (by kernel_rfl) (by kernel_rfl) (by kernel_rfl) (fun _ _ _ h => h) (by kernel_rfl) (fun w' hw' => ?_) ?_
      rotate_left
      · go_simp; with_reducible rfl
      simp only [Act.put, List.setIfInBounds_toArray, List.set_cons_zero, List.set_cons_succ]
      refine wpR_take (i := 5) (v := ?_) (⟨fun _ => rfl, Eq.trans⟩) (some 29) rfl (by kernel_rfl) (by kernel_rfl) (by kernel_rfl) (by kernel_rfl) (by kernel_rfl) (fun _ _ _ h => h) (by kernel_rfl) (fun w' hw' => ?_) ?_
      rotate_left
      · subst hw'; go_simp; with_reducible rfl
      simp only [Act.put, List.setIfInBounds_toArray, List.set_cons_zero, List.set_cons_succ]
      refine wpR_take (i := 6) (v := ?_) (⟨fun _ => rfl, Eq.trans⟩) (some 30) rfl (by kernel_rfl) (by kernel_rfl) (by kernel_rfl) (by kernel_rfl) (by kernel_rfl) (fun _ _ _ h => h) (by kernel_rfl) (fun w' hw' => ?_) ?_
      rotate_left
      · go_simp; with_reducible rfl
      simp only [Act.put, List.setIfInBounds_toArray, List.set_cons_zero, List.set_cons_succ]
      refine wpR_take (i := 7) (v := ?_) (⟨fun _ => rfl, Eq.trans⟩) (some 31) rfl (by kernel_rfl) (by kernel_rfl) (by kernel_rfl) (by kernel_rfl) (by kernel_rfl) (fun _ _ _ h => h) (by kernel_rfl) (fun w' hw' => ?_) ?_
      rotate_left
      · subst hw'; go_simp; with_reducible rfl
      simp only [Act.put, List.setIfInBounds_toArray, List.set_cons_zero, List.set_cons_succ]
      refine wpR_take (i := 8) (v := ?_) (⟨fun _ => rfl, Eq.trans⟩) (some 32) rfl (by kernel_rfl) (by kernel_rfl) (by kernel_rfl) (by kernel_rfl) (by kernel_rfl) (fun _ _ _ h => h) (by kernel_rfl) (fun w' hw' => ?_) ?_
      rotate_left
      · go_simp; with_reducible rfl
      simp only [Act.put, List.setIfInBounds_toArray, List.set_cons_zero, List.set_cons_succ]
      refine wpR_take (i := 9) (v := ?_) (⟨fun _ => rfl, Eq.trans⟩) (some 33) rfl (by kernel_rfl) (by kernel_rfl) (by kernel_rfl) (by kernel_rfl) (by kernel_rfl) (fun _ _ _ h => h) (by kernel_rfl) (fun w' hw' => ?_) ?_
      rotate_left
      · subst hw'; go_simp; with_reducible rfl
      simp only [Act.put, List.setIfInBounds_toArray, List.set_cons_zero, List.set_cons_succ]
      refine wpR_take (i := 10) (v := ?_) (⟨fun _ => rfl, Eq.trans⟩) (some 34) rfl (by kernel_rfl) (by kernel_rfl) (by kernel_rfl) (by kernel_rfl) (by kernel_rfl) (fun _ _ _ h => h) (by kernel_rfl) (fun w' hw' => ?_) ?_
      rotate_left
      · go_simp; with_reducible rfl
      simp only [Act.put, List.setIfInBounds_toArray, List.set_cons_zero, List.set_cons_succ]
      refine wpR_take (i := 11) (v := ?_) (⟨fun _ => rfl, Eq.trans⟩) (some 35) rfl (by kernel_rfl) (by kernel_rfl) (by kernel_rfl) (by kernel_rfl) (by kernel_rfl) (fun _ _ _ h => h) (by kernel_rfl) (fun w' hw' => ?_) ?_
      rotate_left
      · subst hw'; go_simp; with_reducible rfl
      simp only [Act.put, List.setIfInBounds_toArray, List.set_cons_zero, List.set_cons_succ]
      refine wpR_take (i := 12) (v := ?_) (⟨fun _ => rfl, Eq.trans⟩) (some 9) rfl (by kernel_rfl) (by kernel_rfl) (by kernel_rfl) (by kernel_rfl) (by kernel_rfl) (fun _ _ _ h => h) (by kernel_rfl) (fun w' hw' => ?_) ?_
      rotate_left
      · go_simp; with_reducible rfl
      simp only [Act.put, List.setIfInBounds_toArray, List.set_cons_zero, List.set_cons_succ]
      refine wpR_take (i := 13) (v := ?_) (⟨fun _ => rfl, Eq.trans⟩) (some 10) rfl (by kernel_rfl) (by kernel_rfl) (by kernel_rfl) (by kernel_rfl) (by kernel_rfl) (fun _ _ _ h => h) (by kernel_rfl) (fun w' hw' => ?_) ?_
      rotate_left
      · go_simp; with_reducible rfl
      simp only [Act.put, List.setIfInBounds_toArray, List.set_cons_zero, List.set_cons_succ]
      refine wpR_take (i := 14) (v := ?_) (⟨fun _ => rfl, Eq.trans⟩) (some 11) rfl (by kernel_rfl) (by kernel_rfl) (by kernel_rfl) (by kernel_rfl) (by kernel_rfl) (fun _ _ _ h => h) (by kernel_rfl) (fun w' hw' => ?_) ?_
      rotate_left
      · go_simp; with_reducible rfl
      simp only [Act.put, List.setIfInBounds_toArray, List.set_cons_zero, List.set_cons_succ]
      refine wpR_take (i := 15) (v := ?_) (⟨fun _ => rfl, Eq.trans⟩) (some 12) rfl (by kernel_rfl) (by kernel_rfl) (by kernel_rfl) (by kernel_rfl) (by kernel_rfl) (fun _ _ _ h => h) (by kernel_rfl) (fun w' hw' => ?_) ?_
      rotate_left
      · go_simp; with_reducible rfl
      simp only [Act.put, List.setIfInBounds_toArray, List.set_cons_zero, List.set_cons_succ]
      refine wpR_take (i := 16) (v := ?_) (⟨fun _ => rfl, Eq.trans⟩) (some 13) rfl (by kernel_rfl) (by kernel_rfl) (by kernel_rfl) (by kernel_rfl) (by kernel_rfl) (fun _ _ _ h => h) (by kernel_rfl) (fun w' hw' => ?_) ?_
      rotate_left
      · go_simp; with_reducible rfl
      simp only [Act.put, List.setIfInBounds_toArray, List.set_cons_zero, List.set_cons_succ]
      refine wpR_take (i := 17) (v := ?_) (⟨fun _ => rfl, Eq.trans⟩) (some 14) rfl (by kernel_rfl) (by kernel_rfl) (by kernel_rfl) (by kernel_rfl) (by kernel_rfl) (fun _ _ _ h => h) (by kernel_rfl) (fun w' hw' => ?_) ?_
      rotate_left
      · go_simp; with_reducible rfl
      simp only [Act.put, List.setIfInBounds_toArray, List.set_cons_zero, List.set_cons_succ]
      refine wpR_done (by kernel_rfl) ?_ _
      go_wp2_with fail
      clear c0 c1 c2 c4 c5 c6
      have d7 : wr.drew.drew.cell? ⟨g + 1 + 1 + 1, 7, none⟩ = some (.int .u32 (W x7)) := c7
      have d3 : wr.drew.drew.cell? ⟨g + 1 + 1 + 1, 3, none⟩ = some (.int .u32 (W x3)) := c3
      clear c3 c7
      obtain ⟨kk, ekk⟩ : ∃ x, kF k = x := ⟨_, rfl⟩
      obtain ⟨wk, ewk⟩ : ∃ x, f k = x := ⟨_, rfl⟩
      have dk := (show Ar wr.drew.drew kb 105 64 kF from hK1.out.other rfl).at (i := k) hlt
      have df := (show Ar wr.drew.drew (g + 1) 105 64 f from hF1.out.other rfl).at (i := k) hlt
      rw [ekk] at dk
      rw [ewk] at df
      replace ekk := Lib.hid ekk
      replace ewk := Lib.hid ewk
      replace e0 := Lib.hid e0
      replace e1 := Lib.hid e1
      replace e2 := Lib.hid e2
      replace e3 := Lib.hid e3
      replace e4 := Lib.hid e4
      replace e5 := Lib.hid e5
      replace e6 := Lib.hid e6
      replace e7 := Lib.hid e7
      refine wpR_region (Eq) 9999 (by kernel_rfl) ?_
      refine wpR_take (i := 0) (v := ?_) (⟨fun _ => rfl, Eq.trans⟩) (some 55) rfl (by kernel_rfl) (by kernel_rfl) (by kernel_rfl) (by kernel_rfl) (by kernel_rfl) (fun _ _ _ h => h) (by kernel_rfl) (fun w' hw' => ?_) ?_
      rotate_left
      · go_simp; with_reducible rfl
      simp only [Act.put, List.setIfInBounds_toArray, List.set_cons_zero, List.set_cons_succ]
      refine wpR_take (i := 1) (v := ?_) (⟨fun _ => rfl, Eq.trans⟩) (some 56) rfl (by kernel_rfl) (by kernel_rfl) (by kernel_rfl) (by kernel_rfl) (by kernel_rfl) (fun _ _ _ h => h) (by kernel_rfl) (fun w' hw' => ?_) ?_
      rotate_left
      · subst hw'; go_simp; with_reducible rfl
      simp only [Act.put, List.setIfInBounds_toArray, List.set_cons_zero, List.set_cons_succ]
      refine wpR_take (i := 2) (v := ?_) (⟨fun _ => rfl, Eq.trans⟩) (some 57) rfl (by kernel_rfl) (by kernel_rfl) (by kernel_rfl) (by kernel_rfl) (by kernel_rfl) (fun _ _ _ h => h) (by kernel_rfl) (fun w' hw' => ?_) ?_
      rotate_left
      · go_simp; with_reducible rfl
      simp only [Act.put, List.setIfInBounds_toArray, List.set_cons_zero, List.set_cons_succ]
      refine wpR_call (i := 3) (v := (.int .u32 (W (tn 6 x4)))) (⟨fun _ => rfl, Eq.trans⟩) (some 58) rfl (by kernel_rfl) (by kernel_rfl) (by kernel_rfl) (by kernel_rfl) (by kernel_rfl) (fun _ _ _ h => h) (by kernel_rfl) (fun w' hw' => ?_) ?_
      · refine ⟨92, #[.int .u32 (W x4), .int .i64 6], ?_, ?_⟩
        · go_simp
        · subst hw'; exact turn_6 _ _
      simp only [Act.put, List.setIfInBounds_toArray, List.set_cons_zero, List.set_cons_succ]
      refine wpR_take (i := 4) (v := ?_) (⟨fun _ => rfl, Eq.trans⟩) (some 59) rfl (by kernel_rfl) (by kernel_rfl) (by kernel_rfl) (by kernel_rfl) (by kernel_rfl) (fun _ _ _ h => h) (by kernel_rfl) (fun w' hw' => ?_) ?_
      rotate_left
      · go_simp; with_reducible rfl
      simp only [Act.put, List.setIfInBounds_toArray, List.set_cons_zero, List.set_cons_succ]
      refine wpR_call (i := 5) (v := (.int .u32 (W (tn 11 x4)))) (⟨fun _ => rfl, Eq.trans⟩) (some 60) rfl (by kernel_rfl) (by kernel_rfl) (by kernel_rfl) (by kernel_rfl) (by kernel_rfl) (fun _ _ _ h => h) (by kernel_rfl) (fun w' hw' => ?_) ?_
      · refine ⟨92, #[.int .u32 (W x4), .int .i64 11], ?_, ?_⟩
        · go_simp
        · subst hw'; exact turn_11 _ _
      simp only [Act.put, List.setIfInBounds_toArray, List.set_cons_zero, List.set_cons_succ]
      refine wpR_take (i := 6) (v := ?_) (⟨fun _ => rfl, Eq.trans⟩) (some 61) rfl (by kernel_rfl) (by kernel_rfl) (by kernel_rfl) (by kernel_rfl) (by kernel_rfl) (fun _ _ _ h => h) (by kernel_rfl) (fun w' hw' => ?_) ?_
      rotate_left
      · go_simp; with_reducible rfl
      simp only [Act.put, List.setIfInBounds_toArray, List.set_cons_zero, List.set_cons_succ]
      refine wpR_take (i := 7) (v := ?_) (⟨fun _ => rfl, Eq.trans⟩) (some 62) rfl (by kernel_rfl) (by kernel_rfl) (by kernel_rfl) (by kernel_rfl) (by kernel_rfl) (fun _ _ _ h => h) (by kernel_rfl) (fun w' hw' => ?_) ?_
      rotate_left
      · go_simp; with_reducible rfl
      simp only [Act.put, List.setIfInBounds_toArray, List.set_cons_zero, List.set_cons_succ]
      refine wpR_call (i := 8) (v := (.int .u32 (W (tn 25 x4)))) (⟨fun _ => rfl, Eq.trans⟩) (some 63) rfl (by kernel_rfl) (by kernel_rfl) (by kernel_rfl) (by kernel_rfl) (by kernel_rfl) (fun _ _ _ h => h) (by kernel_rfl) (fun w' hw' => ?_) ?_
      · refine ⟨92, #[.int .u32 (W x4), .int .i64 25], ?_, ?_⟩
        · go_simp
        · subst hw'; exact turn_25 _ _
      simp only [Act.put, List.setIfInBounds_toArray, List.set_cons_zero, List.set_cons_succ]
      refine wpR_take (i := 9) (v := ?_) (⟨fun _ => rfl, Eq.trans⟩) (some 64) rfl (by kernel_rfl) (by kernel_rfl) (by kernel_rfl) (by kernel_rfl) (by kernel_rfl) (fun _ _ _ h => h) (by kernel_rfl) (fun w' hw' => ?_) ?_
      rotate_left
      · go_simp; with_reducible rfl
      simp only [Act.put, List.setIfInBounds_toArray, List.set_cons_zero, List.set_cons_succ]
      refine wpR_take (i := 10) (v := ?_) (⟨fun _ => rfl, Eq.trans⟩) (some 65) rfl (by kernel_rfl) (by kernel_rfl) (by kernel_rfl) (by kernel_rfl) (by kernel_rfl) (fun _ _ _ h => h) (by kernel_rfl) (fun w' hw' => ?_) ?_
      rotate_left
      · go_simp; with_reducible rfl
      simp only [Act.put, List.setIfInBounds_toArray, List.set_cons_zero, List.set_cons_succ]
      refine wpR_take (i := 11) (v := ?_) (⟨fun _ => rfl, Eq.trans⟩) (some 66) rfl (by kernel_rfl) (by kernel_rfl) (by kernel_rfl) (by kernel_rfl) (by kernel_rfl) (fun _ _ _ h => h) (by kernel_rfl) (fun w' hw' => ?_) ?_
      rotate_left
      · go_simp; with_reducible rfl
      simp only [Act.put, List.setIfInBounds_toArray, List.set_cons_zero, List.set_cons_succ]
      refine wpR_take (i := 12) (v := ?_) (⟨fun _ => rfl, Eq.trans⟩) (some 67) rfl (by kernel_rfl) (by kernel_rfl) (by kernel_rfl) (by kernel_rfl) (by kernel_rfl) (fun _ _ _ h => h) (by kernel_rfl) (fun w' hw' => ?_) ?_
      rotate_left
      · go_simp; with_reducible rfl
      simp only [Act.put, List.setIfInBounds_toArray, List.set_cons_zero, List.set_cons_succ]
      refine wpR_take (i := 13) (v := ?_) (⟨fun _ => rfl, Eq.trans⟩) (some 68) rfl (by kernel_rfl) (by kernel_rfl) (by kernel_rfl) (by kernel_rfl) (by kernel_rfl) (fun _ _ _ h => h) (by kernel_rfl) (fun w' hw' => ?_) ?_
      rotate_left
      · go_simp; with_reducible rfl
      simp only [Act.put, List.setIfInBounds_toArray, List.set_cons_zero, List.set_cons_succ]
      refine wpR_take (i := 14) (v := ?_) (⟨fun _ => rfl, Eq.trans⟩) (some 69) rfl (by kernel_rfl) (by kernel_rfl) (by kernel_rfl) (by kernel_rfl) (by kernel_rfl) (fun _ _ _ h => h) (by kernel_rfl) (fun w' hw' => ?_) ?_
      rotate_left
      · go_simp; with_reducible rfl
      simp only [Act.put, List.setIfInBounds_toArray, List.set_cons_zero, List.set_cons_succ]
      refine wpR_take (i := 15) (v := ?_) (⟨fun _ => rfl, Eq.trans⟩) (some 70) rfl (by kernel_rfl) (by kernel_rfl) (by kernel_rfl) (by kernel_rfl) (by kernel_rfl) (fun _ _ _ h => h) (by kernel_rfl) (fun w' hw' => ?_) ?_
      rotate_left
      · go_simp; with_reducible rfl
      simp only [Act.put, List.setIfInBounds_toArray, List.set_cons_zero, List.set_cons_succ]
      refine wpR_take (i := 16) (v := ?_) (⟨fun _ => rfl, Eq.trans⟩) (some 71) rfl (by kernel_rfl) (by kernel_rfl) (by kernel_rfl) (by kernel_rfl) (by kernel_rfl) (fun _ _ _ h => h) (by kernel_rfl) (fun w' hw' => ?_) ?_
      rotate_left
      · go_simp; with_reducible rfl
      simp only [Act.put, List.setIfInBounds_toArray, List.set_cons_zero, List.set_cons_succ]
      refine wpR_take (i := 17) (v := ?_) (⟨fun _ => rfl, Eq.trans⟩) (some 72) rfl (by kernel_rfl) (by kernel_rfl) (by kernel_rfl) (by kernel_rfl) (by kernel_rfl) (fun _ _ _ h => h) (by kernel_rfl) (fun w' hw' => ?_) ?_
      rotate_left
      · subst hw'; go_simp; with_reducible rfl
      simp only [Act.put, List.setIfInBounds_toArray, List.set_cons_zero, List.set_cons_succ]
      refine wpR_take (i := 18) (v := ?_) (⟨fun _ => rfl, Eq.trans⟩) (some 73) rfl (by kernel_rfl) (by kernel_rfl) (by kernel_rfl) (by kernel_rfl) (by kernel_rfl) (fun _ _ _ h => h) (by kernel_rfl) (fun w' hw' => ?_) ?_
      rotate_left
      · go_simp; with_reducible rfl
      simp only [Act.put, List.setIfInBounds_toArray, List.set_cons_zero, List.set_cons_succ]
      refine wpR_take (i := 19) (v := ?_) (⟨fun _ => rfl, Eq.trans⟩) (some 74) rfl (by kernel_rfl) (by kernel_rfl) (by kernel_rfl) (by kernel_rfl) (by kernel_rfl) (fun _ _ _ h => h) (by kernel_rfl) (fun w' hw' => ?_) ?_
      rotate_left
      · go_simp; with_reducible rfl
      simp only [Act.put, List.setIfInBounds_toArray, List.set_cons_zero, List.set_cons_succ]
      refine wpR_take (i := 20) (v := ?_) (⟨fun _ => rfl, Eq.trans⟩) (some 75) rfl (by kernel_rfl) (by kernel_rfl) (by kernel_rfl) (by kernel_rfl) (by kernel_rfl) (fun _ _ _ h => h) (by kernel_rfl) (fun w' hw' => ?_) ?_
      rotate_left
      · go_simp; with_reducible rfl
      simp only [Act.put, List.setIfInBounds_toArray, List.set_cons_zero, List.set_cons_succ]
      refine wpR_take (i := 21) (v := ?_) (⟨fun _ => rfl, Eq.trans⟩) (some 76) rfl (by kernel_rfl) (by kernel_rfl) (by kernel_rfl) (by kernel_rfl) (by kernel_rfl) (fun _ _ _ h => h) (by kernel_rfl) (fun w' hw' => ?_) ?_
      rotate_left
      · subst hw'; go_simp; with_reducible rfl
      simp only [Act.put, List.setIfInBounds_toArray, List.set_cons_zero, List.set_cons_succ]
      refine wpR_take (i := 22) (v := ?_) (⟨fun _ => rfl, Eq.trans⟩) (some 77) rfl (by kernel_rfl) (by kernel_rfl) (by kernel_rfl) (by kernel_rfl) (by kernel_rfl) (fun _ _ _ h => h) (by kernel_rfl) (fun w' hw' => ?_) ?_
      rotate_left
      · go_simp; with_reducible rfl
      simp only [Act.put, List.setIfInBounds_toArray, List.set_cons_zero, List.set_cons_succ]
      refine wpR_take (i := 23) (v := ?_) (⟨fun _ => rfl, Eq.trans⟩) (some 17) rfl (by kernel_rfl) (by kernel_rfl) (by kernel_rfl) (by kernel_rfl) (by kernel_rfl) (fun _ _ _ h => h) (by kernel_rfl) (fun w' hw' => ?_) ?_
      rotate_left
      · go_simp; with_reducible rfl
      simp only [Act.put, List.setIfInBounds_toArray, List.set_cons_zero, List.set_cons_succ]
      refine wpR_done (by kernel_rfl) ?_ _
      go_wp2_with fail
      refine (turn_2 _ _).mono ?_
      rintro e w' ⟨rfl, rfl⟩
      go_wp2_with fail
      refine (turn_13 _ _).mono ?_
      rintro e w' ⟨rfl, rfl⟩
      go_wp2_with fail
      refine (turn_22 _ _).mono ?_
      rintro e w' ⟨rfl, rfl⟩
      have hth : Hid (wr.drew.drew.there (g + 1 + 1 + 1) 0 8) := Lib.hid (there_of (show wr.drew.drew.heap[g + 1 + 1 + 1]? = some (.cells (wcells 8 (rnd s f k)).toArray 104 (0, 0)) from hM1.out) (by simp [wcells_length]))
      generalize ho : x7 + (tn 6 x4 ^^^ tn 11 x4 ^^^ tn 25 x4) + (x4 &&& x5 ^^^ ~~~x4 &&& x6) + kk + wk = o1
      replace ho := Lib.hid ho
      have hcl : Hid ([.int .u32 (W (o1 + ((tn 2 x0 ^^^ tn 13 x0 ^^^ tn 22 x0) + (x0 &&& x1 ^^^ x0 &&& x2 ^^^ x1 &&& x2)))), .int .u32 (W x0), .int .u32 (W x1), .int .u32 (W x2), .int .u32 (W (x3 + o1)), .int .u32 (W x4), .int .u32 (W x5), .int .u32 (W x6)] = wcells 8 (rnd s f (k + 1))) := Lib.hid (by rw [show rnd s f (k + 1) = nx (rnd s f k) (kF k) (f k) from rfl, nx_cells]; unfold one1 two2 ch3w mj3w; rw [e0.out, e1.out, e2.out, e3.out, e4.out, e5.out, e6.out, e7.out, ekk.out, ewk.out, ho.out])
      have h1c : (#[.int .u32 (W (o1 + ((tn 2 x0 ^^^ tn 13 x0 ^^^ tn 22 x0) + (x0 &&& x1 ^^^ x0 &&& x2 ^^^ x1 &&& x2)))), .int .u32 (W x0), .int .u32 (W x1), .int .u32 (W x2), .int .u32 (W (x3 + o1)), .int .u32 (W x4), .int .u32 (W x5), .int .u32 (W x6)] : Array Value).all (·.oneCell') = true := by rw [show (#[.int .u32 (W (o1 + ((tn 2 x0 ^^^ tn 13 x0 ^^^ tn 22 x0) + (x0 &&& x1 ^^^ x0 &&& x2 ^^^ x1 &&& x2)))), .int .u32 (W x0), .int .u32 (W x1), .int .u32 (W x2), .int .u32 (W (x3 + o1)), .int .u32 (W x4), .int .u32 (W x5), .int .u32 (W x6)] : Array Value) = (wcells 8 (rnd s f (k + 1))).toArray from by rw [← hcl.out]]; exact all_oneCell_toArray (wcells_one _ _)
      replace h1c := Lib.hid h1c
      go_wp2_with (refine wpList_store_mid rfl 104 (.tmp 7) (.tmp 101) rfl (g + 1 + 1 + 1) 0 #[.int .u32 (W (o1 + ((tn 2 x0 ^^^ tn 13 x0 ^^^ tn 22 x0) + (x0 &&& x1 ^^^ x0 &&& x2 ^^^ x1 &&& x2)))), .int .u32 (W x0), .int .u32 (W x1), .int .u32 (W x2), .int .u32 (W (x3 + o1)), .int .u32 (W x4), .int .u32 (W x5), .int .u32 (W x6)] rfl rfl hth.out info_s h1c.out ?_; rw [hcl.out]; obtain ⟨w5, hw5⟩ : ∃ x, wr.drew.drew.setCells (g + 1 + 1 + 1) 0 (wcells 8 (rnd s f (k + 1))) = x := ⟨_, rfl⟩; rw [hw5]; replace hw5 := Lib.hid hw5)
      have hM2 : Hid (Ar w5 (g + 1 + 1 + 1) 104 8 (rnd s f (k + 1))) := Lib.hid (by rw [← hw5.out]; exact Ar.of_store (show wr.drew.drew.heap[g + 1 + 1 + 1]? = some (.cells (wcells 8 (rnd s f k)).toArray 104 (0, 0)) from hM1.out) (by simp [wcells_length]))
      have oth : ∀ b, b ≠ g + 1 + 1 + 1 → w5.heap[b]? = wr.heap[b]? := fun b hb => by rw [← hw5.out]; exact (setCells_other hb _ _ _).1
      have hS2 : Hid (Ar w5 g 104 8 s) := Lib.hid (hS1.out.other (oth _ (by omega)))
      have hF2 : Hid (Ar w5 (g + 1) 105 64 f) := Lib.hid (hF1.out.other (oth _ (by omega)))
      have hZ2 : Hid (Ar w5 (g + 1 + 1) 104 8 (fun _ => 0)) := Lib.hid (hZ1.out.other (oth _ (by omega)))
      have hK2 : Hid (Ar w5 kb 105 64 kF) := Lib.hid (hK1.out.other (oth _ (by have := hkb.out; omega)))
      have hq2 : Hid (Below g w w5) := Lib.hid (by rw [← hw5.out]; exact below_setCells (b := g + 1 + 1 + 1) hq1.out.drew.drew (by omega) 0 _)
      clear oth
      go_roundw
      case rel => first | exact ⟨k + 1, by omega, by go_num, hM2, hS2, hF2, hZ2, hK2, hq2⟩ | ((repeat apply Exists.intro); exact ⟨⟨k + 1, by omega, by go_num, hM2, hS2, hF2, hZ2, hK2, hq2⟩, rfl⟩)
      case measure => simp [intOf]; omega
    · obtain rfl : k = 64 := by omega
      have i64' : decide (((64 : Nat) : Int) < 64) = false := by decide
      clear hlt
      go_wp2_with fail
      rw [← blkTo_zero s f] at hM1
      go_loopw [103] (fun v wr => ∃ (k : Nat), k ≤ 8 ∧ v = .int .i64 k ∧ Hid (Ar wr (g + 1 + 1 + 1) 104 8 (blkTo s f k)) ∧ Hid (Ar wr g 104 8 s) ∧ Hid (Ar wr (g + 1 + 1) 104 8 (fun _ => 0)) ∧ Hid (Below g w wr)) (fun v _ => (8 - intOf v).toNat)
      case atStart => exact ⟨0, by omega, rfl, hM1, hS1, hZ1, hq1⟩
      case round =>
        obtain ⟨k, hk, rfl, hM, hS, hZ, hq⟩ := hrel
        clear hM1 hS1 hF1 hZ1 hK1 hq1
        by_cases hlt : k < 8
        · have i8' : (k : Int) < 8 := by omega
          go_wp2_with fail
          have cm := (show Ar wr.drew (g + 1 + 1 + 1) 104 8 (blkTo s f k) from hM.out.other rfl).at (i := k) hlt
          rw [blkTo_at] at cm
          have cs := (show Ar wr.drew g 104 8 s from hS.out.other rfl).at (i := k) hlt
          have fz : wr.frozen? ⟨g + 1 + 1 + 1, k, none⟩ = false := by have := hM.out; unfold Ar at this; simp [World.frozen?, this]
          have cw : wr.drew.cell? ⟨g + 1 + 1 + 1, k, none⟩ = some (.int .u32 (W (rnd s f 64 k))) := cm
          obtain ⟨x, hx⟩ : ∃ x, rnd s f 64 k = x := ⟨_, rfl⟩
          rw [hx] at cm cw
          obtain ⟨y, hy⟩ : ∃ y, s k = y := ⟨_, rfl⟩
          rw [hy] at cs
          replace hx := Lib.hid hx
          replace hy := Lib.hid hy
          refine wpR_region (Eq) 8 (by kernel_rfl) ?_
          refine wpR_take (i := 0) (v := ?_) (⟨fun _ => rfl, Eq.trans⟩) (some 106) rfl (by kernel_rfl) (by kernel_rfl) (by kernel_rfl) (by kernel_rfl) (by kernel_rfl) (fun _ _ _ h => h) (by kernel_rfl) (fun w' hw' => ?_) ?_
          rotate_left
          · go_simp; with_reducible rfl
          simp only [Act.put, List.setIfInBounds_toArray, List.set_cons_zero, List.set_cons_succ]
          refine wpR_take (i := 1) (v := ?_) (⟨fun _ => rfl, Eq.trans⟩) (some 107) rfl (by kernel_rfl) (by kernel_rfl) (by kernel_rfl) (by kernel_rfl) (by kernel_rfl) (fun _ _ _ h => h) (by kernel_rfl) (fun w' hw' => ?_) ?_
          rotate_left
          · go_simp; with_reducible rfl
          simp only [Act.put, List.setIfInBounds_toArray, List.set_cons_zero, List.set_cons_succ]
          refine wpR_take (i := 2) (v := ?_) (⟨fun _ => rfl, Eq.trans⟩) (some 108) rfl (by kernel_rfl) (by kernel_rfl) (by kernel_rfl) (by kernel_rfl) (by kernel_rfl) (fun _ _ _ h => h) (by kernel_rfl) (fun w' hw' => ?_) ?_
          rotate_left
          · subst hw'; go_simp; with_reducible rfl
          simp only [Act.put, List.setIfInBounds_toArray, List.set_cons_zero, List.set_cons_succ]
          refine wpR_take (i := 3) (v := ?_) (⟨fun _ => rfl, Eq.trans⟩) (some 109) rfl (by kernel_rfl) (by kernel_rfl) (by kernel_rfl) (by kernel_rfl) (by kernel_rfl) (fun _ _ _ h => h) (by kernel_rfl) (fun w' hw' => ?_) ?_
          rotate_left
          · go_simp; with_reducible rfl
          simp only [Act.put, List.setIfInBounds_toArray, List.set_cons_zero, List.set_cons_succ]
          refine wpR_take (i := 4) (v := ?_) (⟨fun _ => rfl, Eq.trans⟩) (some 110) rfl (by kernel_rfl) (by kernel_rfl) (by kernel_rfl) (by kernel_rfl) (by kernel_rfl) (fun _ _ _ h => h) (by kernel_rfl) (fun w' hw' => ?_) ?_
          rotate_left
          · go_simp; with_reducible rfl
          simp only [Act.put, List.setIfInBounds_toArray, List.set_cons_zero, List.set_cons_succ]
          refine wpR_take (i := 5) (v := ?_) (⟨fun _ => rfl, Eq.trans⟩) (some 111) rfl (by kernel_rfl) (by kernel_rfl) (by kernel_rfl) (by kernel_rfl) (by kernel_rfl) (fun _ _ _ h => h) (by kernel_rfl) (fun w' hw' => ?_) ?_
          rotate_left
          · subst hw'; go_simp; with_reducible rfl
          simp only [Act.put, List.setIfInBounds_toArray, List.set_cons_zero, List.set_cons_succ]
          refine wpR_take (i := 6) (v := ?_) (⟨fun _ => rfl, Eq.trans⟩) (some 112) rfl (by kernel_rfl) (by kernel_rfl) (by kernel_rfl) (by kernel_rfl) (by kernel_rfl) (fun _ _ _ h => h) (by kernel_rfl) (fun w' hw' => ?_) ?_
          rotate_left
          · go_simp; with_reducible rfl
          simp only [Act.put, List.setIfInBounds_toArray, List.set_cons_zero, List.set_cons_succ]
          refine wpR_take (i := 7) (v := ?_) (⟨fun _ => rfl, Eq.trans⟩) (some 113) rfl (by kernel_rfl) (by kernel_rfl) (by kernel_rfl) (by kernel_rfl) (by kernel_rfl) (fun _ _ _ h => h) (by kernel_rfl) (fun w' hw' => ?_) ?_
          rotate_left
          · go_simp; with_reducible rfl
          simp only [Act.put, List.setIfInBounds_toArray, List.set_cons_zero, List.set_cons_succ]
          refine wpR_one 8 rfl (by kernel_rfl) (by kernel_rfl) (fun K hK => ?_)
          go_simp
          refine hK _ _ (fun h => absurd h (by decide)) ?_
          clear hK K
          try simp only [Act.put, List.setIfInBounds_toArray, List.set_cons_zero, List.set_cons_succ]
          refine wpR_done (by kernel_rfl) ?_ _
          have hM3 : Hid (Ar (wr.setCell ⟨g + 1 + 1 + 1, k, none⟩ (.int .u32 (W (x + y)))).drew (g + 1 + 1 + 1) 104 8 (blkTo s f (k + 1))) := Lib.hid (by rw [blkTo_succ, hx.out, hy.out]; exact (hM.out.set hlt _).other rfl)
          have oth : ∀ b, b ≠ g + 1 + 1 + 1 → (wr.setCell ⟨g + 1 + 1 + 1, k, none⟩ (.int .u32 (W (x + y)))).drew.heap[b]? = wr.heap[b]? := fun b hb => (setCells_other hb [.int .u32 (W (x + y))] k wr).1
          have hS3 : Hid (Ar (wr.setCell ⟨g + 1 + 1 + 1, k, none⟩ (.int .u32 (W (x + y)))).drew g 104 8 s) := Lib.hid (hS.out.other (oth _ (by omega)))
          have hZ3 : Hid (Ar (wr.setCell ⟨g + 1 + 1 + 1, k, none⟩ (.int .u32 (W (x + y)))).drew (g + 1 + 1) 104 8 (fun _ => 0)) := Lib.hid (hZ.out.other (oth _ (by omega)))
          have hq3 : Hid (Below g w (wr.setCell ⟨g + 1 + 1 + 1, k, none⟩ (.int .u32 (W (x + y)))).drew) := Lib.hid ((below_setCells (b := g + 1 + 1 + 1) hq.out (by omega) k [.int .u32 (W (x + y))]).drew)
          clear oth cm cs cw fz
          go_wp2_with fail
          go_roundw
          case rel => first | exact ⟨k + 1, by omega, by go_num, hM3, hS3, hZ3, hq3⟩ | ((repeat apply Exists.intro); exact ⟨⟨k + 1, by omega, by go_num, hM3, hS3, hZ3, hq3⟩, rfl⟩)
          case measure => simp [intOf]; omega
        · obtain rfl : k = 8 := by omega
          have i8' : decide (((8 : Nat) : Int) < 8) = false := by decide
          clear hlt
          go_upto_region 17 with (fail)
          have hlen : (wcells 8 (blkS s f)).length = 8 := wcells_length _ _
          have hone := wcells_one 8 (blkS s f)
          have hAr : Ar wr (g + 1 + 1 + 1) 104 8 (blkS s f) := hM.out.congr (fun k hk => by unfold blkTo; rw [if_pos hk])
          have ht := Lib.hid (there_of hZ.out (n := 8) (by simp [wcells_length]))
          have hA9 := (Ar.of_store (n := 8) (f := blkS s f) hZ.out (by simp [wcells_length])).range
          have hq9 := below_setCells (b := g + 1 + 1) hq.out (by omega) 0 (wcells 8 (blkS s f))
          have hrg := hAr.range
          have hu : Try.prog.underlying 104 = some (.array 8 86) := by kernel_rfl
          replace hu := Lib.hid hu
          clear hAr hM hZ hq hS
          obtain ⟨Lc, hLc⟩ : ∃ x, wcells 8 (blkS s f) = x := ⟨_, rfl⟩
          rw [hLc] at hlen hone hA9 hq9 hrg
          replace hA9 := Lib.hid hA9
          replace hq9 := Lib.hid hq9
          replace hrg := Lib.hid hrg
          have h1 := Lib.hid (all_oneCell_toArray hone)
          have h2 : Hid (Lc.toArray.size = 8) := Lib.hid (by rw [List.size_toArray, hlen])
          have h3 : Hid (Lc.toArray.toList = Lc) := Lib.hid rfl
          refine wp_region_lit ?_
          refine wpList_load_mid rfl 104 (.tmp 7) rfl (g + 1 + 1 + 1) 0 rfl Lc _ hrg.out hu.out rfl (by rw [hlen]; exact info_s) ?_
          generalize hcs : Lc.toArray = cs at h1 h2 h3 ⊢
          replace hcs := Lib.hid hcs
          refine wpList_store_mid rfl 104 (.tmp 6) (.tmp 115) rfl (g + 1 + 1) 0 cs rfl rfl (by rw [h2.out]; exact ht.out) (by rw [h2.out]; exact info_s) h1.out ?_
          rw [h3.out]
          refine wpList_nil ?_
          simp only [Act.put, List.setIfInBounds_toArray, List.set_cons_zero, List.set_cons_succ]
          go_wp2
          have hl := run_loadVar_mid (P := Try.prog) _ (g + 1 + 1) 0 104 Lc _ hA9.out hu.out rfl (by rw [hlen]; exact info_s)
          rw [hLc]
          exact bodyPost_ret (v := .agg Lc.toArray) (results_cell rfl rfl hl) rfl ⟨rfl, by show Below w.heap.size w _; rw [hg.out]; exact hq9.out⟩
end Go.Proofs.Ytdgkcgiknfjpjaa
