/- dig: the reference's small functions; identities on words; slices of words. -/
import Derived.Test.YtpeilgeloaogfaaDig12
namespace Go.Proofs.Ytpeilgeloaogfaa
set_option linter.unusedVariables false
set_option linter.unusedSimpArgs false
open Go Go.RowKit
/-! ### identities -/
theorem ch_eq (e f g : BitVec 32) : g ^^^ e &&& (f ^^^ g) = ch3w e f g := by
  unfold ch3w
  refine BitVec.eq_of_getLsbD_eq (fun i hi => ?_)
  simp only [BitVec.getLsbD_xor, BitVec.getLsbD_and, BitVec.getLsbD_not, hi, decide_true, Bool.true_and]
  generalize e.getLsbD i = p; generalize f.getLsbD i = q; generalize g.getLsbD i = r
  revert p q r; decide
theorem mj_eq (a b c : BitVec 32) : a &&& (b ||| c) ||| b &&& c = mj3w a b c := by
  unfold mj3w
  refine BitVec.eq_of_getLsbD_eq (fun i hi => ?_)
  simp only [BitVec.getLsbD_xor, BitVec.getLsbD_and, BitVec.getLsbD_or]
  generalize a.getLsbD i = p; generalize b.getLsbD i = q; generalize c.getLsbD i = r
  revert p q r; decide
theorem zx_toNat (x : UInt8) : (zx32 x).toNat = x.toNat := by
  have := x.toNat_lt
  unfold zx32
  rw [BitVec.toNat_setWidth, UInt8.toNat_toBitVec]; omega
/-- the first i bytes of a number -/
def part4 (b : Nat → UInt8) (o : Nat) : Nat → BitVec 32
  | 0 => 0
  | i + 1 => part4 b o i <<< 8 + zx32 (b (o + i))
theorem or_add (a b k : Nat) (hb : b < 2 ^ k) : a <<< k ||| b = a * 2 ^ k + b := by rw [← Nat.shiftLeft_add_eq_or_of_lt hb, Nat.shiftLeft_eq]
set_option maxRecDepth 10000 in
theorem part4_four (b : Nat → UInt8) (o : Nat) : part4 b o 4 = big4 b o := by
  have h0 := (b o).toNat_lt
  have h1 := (b (o + 1)).toNat_lt
  have h2 := (b (o + 2)).toNat_lt
  have h3 := (b (o + 3)).toNat_lt
  apply BitVec.eq_of_toNat_eq
  show (((((0 : BitVec 32) <<< 8 + zx32 (b (o + 0))) <<< 8 + zx32 (b (o + 1))) <<< 8 + zx32 (b (o + 2))) <<< 8 + zx32 (b (o + 3))).toNat = _
  unfold big4
  simp only [BitVec.toNat_add, BitVec.toNat_shiftLeft, BitVec.toNat_or, zx_toNat, Nat.shiftLeft_eq, Nat.add_zero]
  generalize (b o).toNat = p0 at *; generalize (b (o + 1)).toNat = p1 at *; generalize (b (o + 2)).toNat = p2 at *; generalize (b (o + 3)).toNat = p3 at *
  have e1 : p0 * 2 ^ 24 % 2 ^ 32 = p0 * 2 ^ 24 := Nat.mod_eq_of_lt (by omega)
  have e2 : p1 * 2 ^ 16 % 2 ^ 32 = p1 * 2 ^ 16 := Nat.mod_eq_of_lt (by omega)
  have e3 : p2 * 2 ^ 8 % 2 ^ 32 = p2 * 2 ^ 8 := Nat.mod_eq_of_lt (by omega)
  rw [e1, e2, e3]
  have f1 : p0 * 2 ^ 24 ||| p1 * 2 ^ 16 = p0 * 2 ^ 24 + p1 * 2 ^ 16 := by
    have := or_add p0 (p1 * 2 ^ 16) 24 (by omega)
    rwa [Nat.shiftLeft_eq] at this
  have f2 : p0 * 2 ^ 24 + p1 * 2 ^ 16 ||| p2 * 2 ^ 8 = p0 * 2 ^ 24 + p1 * 2 ^ 16 + p2 * 2 ^ 8 := by
    have := or_add (p0 * 2 ^ 8 + p1) (p2 * 2 ^ 8) 16 (by omega)
    rw [Nat.shiftLeft_eq, show (p0 * 2 ^ 8 + p1) * 2 ^ 16 = p0 * 2 ^ 24 + p1 * 2 ^ 16 from by omega] at this
    exact this
  have f3 : p0 * 2 ^ 24 + p1 * 2 ^ 16 + p2 * 2 ^ 8 ||| p3 = p0 * 2 ^ 24 + p1 * 2 ^ 16 + p2 * 2 ^ 8 + p3 := by
    have := or_add (p0 * 2 ^ 16 + p1 * 2 ^ 8 + p2) p3 8 (by omega)
    rw [Nat.shiftLeft_eq, show (p0 * 2 ^ 16 + p1 * 2 ^ 8 + p2) * 2 ^ 8 = p0 * 2 ^ 24 + p1 * 2 ^ 16 + p2 * 2 ^ 8 from by omega] at this
    exact this
  rw [f1, f2, f3]
  omega
/-- the ring of sixteen behind n rounds -/
def rg (b : Nat → UInt8) (n j : Nat) : BitVec 32 := if j < n then wd b (j + 16 * ((n - 1 - j) / 16)) else 0
theorem rg_zero (b : Nat → UInt8) : rg b 0 = fun _ => 0 := by funext j; simp [rg]
theorem rg_at {b : Nat → UInt8} {n m : Nat} (hm : m < n) (h : n ≤ m + 16) : rg b n (m % 16) = wd b m := by
  unfold rg
  have h1 : m % 16 < n := by omega
  have h2 : m % 16 + 16 * ((n - 1 - m % 16) / 16) = m := by omega
  rw [if_pos h1, h2]
theorem rg_succ (b : Nat → UInt8) {n j : Nat} (hj : j < 16) : rg b (n + 1) j = if j = n % 16 then wd b n else rg b n j := by
  unfold rg
  by_cases h : j = n % 16
  · have h1 : j < n + 1 := by omega
    have h2 : j + 16 * ((n + 1 - 1 - j) / 16) = n := by omega
    rw [if_pos h, if_pos h1, h2]
  · rw [if_neg h]
    by_cases h1 : j < n
    · have h2 : (n + 1 - 1 - j) / 16 = (n - 1 - j) / 16 := by omega
      rw [if_pos h1, if_pos (by omega), h2]
    · rw [if_neg h1, if_neg (by omega)]
/-! ### a slice of words -/
/-- block g begins with n words -/
def Av (w : World) (g n : Nat) (f : Nat → BitVec 32) : Prop := ∃ cs : Array Value, w.heap[g]? = some (.cells cs 113 (0, 0)) ∧ n ≤ cs.size ∧ ∀ i, i < n → cs[i]? = some (.int .u32 (W (f i)))
theorem Av.lt {w : World} {g n : Nat} {f : Nat → BitVec 32} (h : Av w g n f) : g < w.heap.size := by obtain ⟨cs, h, -⟩ := h; exact (Array.getElem?_eq_some_iff.mp h).1
theorem Av.at {w : World} {g n : Nat} {f : Nat → BitVec 32} (h : Av w g n f) {i : Nat} (hi : i < n) : w.cell? ⟨g, i, none⟩ = some (.int .u32 (W (f i))) := by
  obtain ⟨cs, h1, h2, h3⟩ := h
  exact blk_cell h1 (h3 i hi)
theorem Av.free {w : World} {g n : Nat} {f : Nat → BitVec 32} (h : Av w g n f) (i : Nat) : w.frozen? ⟨g, i, none⟩ = false := by
  obtain ⟨cs, h1, -⟩ := h
  exact blk_free h1 i
theorem Av.set {w : World} {g n : Nat} {f : Nat → BitVec 32} (h : Av w g n f) {i : Nat} (hi : i < n) (x : BitVec 32) : Av (w.setCell ⟨g, i, none⟩ (.int .u32 (W x))) g n (fun k => if k = i then x else f k) := by
  obtain ⟨cs, h1, h2, h3⟩ := h
  refine ⟨_, blk_set h1 i _, by simpa using h2, fun k hk => ?_⟩
  rw [Array.getElem?_setIfInBounds]
  by_cases e : i = k
  · subst e; rw [if_pos rfl, if_pos (by omega)]; simp
  · rw [if_neg e, show (fun k => if k = i then x else f k) k = f k from if_neg (fun q => e q.symm)]; exact h3 k hk
theorem Av.other {w w' : World} {g n : Nat} {f : Nat → BitVec 32} (h : Av w g n f) (e : w'.heap[g]? = w.heap[g]?) : Av w' g n f := by
  obtain ⟨cs, h1, h2⟩ := h
  exact ⟨cs, e.trans h1, h2⟩
theorem Av.below {w w' : World} {B g n : Nat} {f : Nat → BitVec 32} (h : Av w g n f) (hb : Below B w w') (hg : g < B) : Av w' g n f := h.other (hb.block g hg)
theorem Av.gr {w w' : World} {g n : Nat} {f : Nat → BitVec 32} (hr : Gr w w') (h : Hid (Av w g n f)) : Hid (Av w' g n f) := Lib.hid (h.out.below hr h.out.lt)
theorem Av.congr {w : World} {g n : Nat} {f f' : Nat → BitVec 32} (h : Av w g n f) (e : ∀ k, k < n → f k = f' k) : Av w g n f' := by
  obtain ⟨cs, h1, h2, h3⟩ := h
  exact ⟨cs, h1, h2, fun i hi => by rw [← e i hi]; exact h3 i hi⟩
theorem Ar.av {w : World} {g n : Nat} {f : Nat → BitVec 32} (h : Ar w g 113 n f) : Av w g n f := ⟨_, h, by simp [wcells_length], fun i hi => by rw [List.getElem?_toArray]; exact wcells_get hi f⟩
theorem Av.setCell_other {w : World} {g g' n : Nat} {f : Nat → BitVec 32} (h : Av w g n f) (hne : g ≠ g') (i : Nat) (v : Value) : Av (w.setCell ⟨g', i, none⟩ v) g n f := h.other (setCells_other hne [v] i w).1
theorem Av.reads {w : World} {g n : Nat} {f : Nat → BitVec 32} (h : Av w g n f) : Reads w w.heap.size 1 (some ⟨g, 0, none⟩) n (wcells n f) := by
  refine ⟨by rw [wcells_length]; omega, fun _ => ⟨_, rfl, h.lt, fun j u hu => ?_⟩⟩
  have hj : j < n := by have := (List.getElem?_eq_some_iff.mp hu).1; rwa [wcells_length] at this
  rw [wcells_get hj] at hu
  injection hu with hu
  subst hu
  have e : ((⟨g, 0, none⟩ : Addr).add j) = ⟨g, j, none⟩ := by rw [Addr.add_mid]; simp
  rw [e]
  exact h.at hj
theorem info_u32 : (Try.prog.info? 113).map (fun i => (i.zero, i.size, i.bytes)) = some (some (.int .u32 0), 1, 4) := by kernel_rfl
/-- a copy of n words, onto an empty slice -/
theorem wpl_copy32 {w : World} {ops : Array Oper} {rest : List Oper} {o : Oper} {a : Act} {Q : Exit → Act → World → Prop} (hgd : o.guard = none) (s x : Operand)
    (ho : o.op = .call { callee := .builtin .append, args := #[s, x], argTypes := #[121, 121] })
    (base g n c : Nat) (f : Nat → BitVec 32) (hn1 : 1 ≤ n) (hn : n ≤ 1000) (v : Value) (hs : a.eval s = v) (hown : w.ownsRow base 113 1 v 0 []) (hx : a.eval x = .slice (some ⟨g, 0, none⟩) n c) (hr : Av w g n f) (hbase : base ≤ w.heap.size)
    (h : ∀ g' c' w', Av w' g' n f → base ≤ g' → n ≤ c' → Below base w w' → wpList Try.prog ops Q rest (a.put o.dst (.slice (some ⟨g', 0, none⟩) n c')) w') : wpList Try.prog ops Q (o :: rest) a w := by
  obtain ⟨i0, hi, hz0, hz1, hz2⟩ := info_parts info_u32
  refine wpList_plain hgd fun _ hK => wp_append_any w s x 121 ho base 113 i0 _ 1 4 Try.underlying121 hi hz0 hz1 hz2 rfl (by omega) v 0 [] hs hown w.heap.size (some ⟨g, 0, none⟩) n c (wcells n f) hx hr.reads (wcells_one n f)
    (by simp only [maxLen]; omega) (by omega) hbase fun v' w' h2 h3 h4 => hK _ _ ?_
  have h2' := h2
  rw [Nat.zero_add, List.nil_append] at h2'
  rcases h2'.2 with ⟨-, hn⟩ | ⟨g', cap, cur, rfl, hb, hg, hnc, hcm, hcs, ht⟩
  · omega
  · refine h g' cap w' ⟨cur, hg, by omega, fun i hi => ?_⟩ hb hnc ((Below.refl base w).grown h3 hbase (World.ownsRow.lt hown · · |>.1))
    have h9 : (cur.toList.take (n * 1))[i]? = some (.int .u32 (W (f i))) := by rw [ht]; exact wcells_get hi f
    rw [List.getElem?_take, if_pos (by omega)] at h9
    simpa using h9
end Go.Proofs.Ytpeilgeloaogfaa
