/- The walks of word: the reader. -/
import Derived.Test.YtgdbbjijneidaaaWordWalk
import Derived.WalkSpells
import Derived.Deep.DeepMust
namespace Go.Proofs.Ytgdbbjijneidaaa
set_option linter.unusedVariables false
open Go Go.RowKit

set_option maxRecDepth 10000 in
theorem clone_any (A : Option Addr) (n c : Nat) (l : List UInt8) (hn : l.length = n) (hl : n ≤ 140737488355328) (w : World) (hr : Rd w w.heap.size A l) :
    Calls Try.prog 72 #[.slice A n c] w fun e w' => ∃ v, e = .returned v ∧ OB w' w.heap.size v l ∧ Below w.heap.size w w' := by
  rcases A with _ | ad
  · have hl0 : l = [] := by
      rcases l with _ | ⟨x, l⟩
      · rfl
      · obtain ⟨_, h, _⟩ := hr.at_ (k := 0) (by simp)
        cases h
    subst hl0
    obtain rfl : n = 0 := hn.symm
    have hnil := fun w => Lib.run_eql_slice_nil (P := Try.prog) w 22 5 none 0 c 0 0 Try.underlying22
    go_enter Try.func72, Try.ntmps72
    go_wp2
    go_ret
    exact ⟨_, rfl, OB.nil_ _ _, Below.refl _ _⟩
  · have ho := Lib.hid (OB.empty w w.heap.size (Nat.le_refl _))
    have hrw := Lib.hid (hr.alloc (Nat.le_refl _) (.cells #[] 5))
    clear hr
    replace hn := Lib.hid hn
    have hnil := fun w => Lib.run_eql_slice_nil (P := Try.prog) w 22 5 (some ad) n c 0 0 Try.underlying22
    go_enter Try.func72, Try.ntmps72
    go_wp2_with (at_builtin; go_must (refine wpl_append rfl (.tmp 5) (.tmp 6) rfl w.heap.size (.slice (some ⟨w.heap.size, 0, none⟩) 0 0) [] rfl ho.out w.heap.size (some ad) c l (by rw [hn.out]; rfl) hrw.out (by simp; rw [hn.out]; omega) (by simp) ?_); intro v1 w1 hown1 hg1 _)
    go_ret
    exact ⟨v1, rfl, by simpa using hown1, below_app ho.out ((Below.refl _ _).alloc (Nat.le_refl _) _) (by simp) hg1⟩

/-- block g is a reader in this state, below whose block its bytes lie -/
def Rdr (w : World) (g : Nat) : RS → Prop
  | none => w.heap[g]? = some (.cells #[.slice none 0 0, .bool true] 107 (0, 0))
  | some l => ∃ A c, w.heap[g]? = some (.cells #[.slice A l.length c, .bool false] 107 (0, 0)) ∧ l.length ≤ c ∧ c ≤ maxLen ∧ Rd w g A l
theorem Rdr.keep {w w' : World} {g : Nat} {st : RS} (h : Rdr w g st) (hb : ∀ k, k ≤ g → w'.heap[k]? = w.heap[k]?) : Rdr w' g st := by
  cases st with
  | none => exact (hb g (Nat.le_refl _)).trans h
  | some l =>
    obtain ⟨A, c, h1, h2, h3, h4⟩ := h
    exact ⟨A, c, (hb g (Nat.le_refl _)).trans h1, h2, h3, h4.keep fun p hp => World.cell?_of_block (hb p.block (by omega))⟩
theorem Rdr.lt {w : World} {g : Nat} {st : RS} (h : Rdr w g st) : g < w.heap.size := by
  cases st with
  | none => exact (Array.getElem?_eq_some_iff.1 h).1
  | some l =>
    obtain ⟨A, c, h1, _⟩ := h
    exact (Array.getElem?_eq_some_iff.1 h1).1
theorem Rdr.below {w w' : World} {g : Nat} {st : RS} (h : Rdr w g st) {B : Nat} (hb : Below B w w') (hg : g < B) : Rdr w' g st := h.keep fun k hk => hb.block k (by omega)

set_option maxRecDepth 10000 in
theorem new_any (A : Option Addr) (n c : Nat) (l : List UInt8) (hn : l.length = n) (hl : n ≤ 140737488355328) (w : World) (hr : Rd w w.heap.size A l) :
    Calls Try.prog 49 #[.slice A n c] w fun e w' => ∃ g, e = .returned (.pointer (some ⟨g, 0, none⟩)) ∧ w.heap.size ≤ g ∧ Rdr w' g (some l) ∧ Below w.heap.size w w' := by
  replace hr := Lib.hid hr
  replace hn := Lib.hid hn
  go_enter Try.func49, Try.ntmps49
  go_wp2_with fail
  refine (clone_any A n c l hn.out hl w hr.out).mono ?_
  rintro e w1 ⟨v, rfl, hv, hb⟩
  obtain ⟨A1, c1, rfl, hc1, hm1, hR1, -⟩ := hv.form
  replace hR1 := Lib.hid hR1
  clear hv
  go_wp2
  go_ret
  exact ⟨w1.heap.size, rfl, hb.size, ⟨A1, c1, heap_alloc_new w1 _, hc1, hm1, hR1.out.alloc (Nat.le_refl _) _⟩, hb.alloc hb.size _⟩

set_option maxRecDepth 10000 in
theorem fail_any (g : Nat) (st : RS) (w : World) (h : Rdr w g st) :
    Calls Try.prog 74 #[.pointer (some ⟨g, 0, none⟩)] w fun e w' => e = .returned (.tuple #[]) ∧ Rdr w' g none ∧ Below g w w' ∧ w'.heap.size = w.heap.size ∧ ∀ k, k ≠ g → w'.heap[k]? = w.heap[k]? := by
  obtain ⟨v, b, hh⟩ : ∃ v b, w.heap[g]? = some (.cells #[v, .bool b] 107 (0, 0)) := by
    cases st with
    | none => exact ⟨_, _, h⟩
    | some l => obtain ⟨A, c, h1, _⟩ := h; exact ⟨_, _, h1⟩
  clear h
  have hc0 : w.cell? ⟨g, 0, none⟩ = some v := by simp [World.cell?, hh]
  have hc1 : w.cell? ⟨g, 1, none⟩ = some (.bool b) := by simp [World.cell?, hh]
  have hf0 : w.frozen? ⟨g, 0, none⟩ = false := by simp [World.frozen?, hh]
  have hf1 : w.frozen? ⟨g, 1, none⟩ = false := by simp [World.frozen?, hh]
  replace hh := Lib.hid hh
  go_enter Try.func74, Try.ntmps74
  go_wp2
  go_end0
  refine ⟨rfl, ?_, (((Below.refl g w).setCell (p := ⟨g, 1, none⟩) (Nat.le_refl _) _).setCell (p := ⟨g, 0, none⟩) (Nat.le_refl _) _), by simp [World.setCell], fun k hk => ?_⟩
  · have hh := hh.out
    show _ = _
    simp [World.setCell, Array.getElem?_modify, hh]
  · rw [Below.heap_setCell _ _ _ _ hk, Below.heap_setCell _ _ _ _ hk]

/-! ### the leading number -/
theorem u8_mod128 (x : UInt8) : U x % 128 = ((x.toNat % 128 : Nat) : Int) := by unfold U; omega
theorem acc_step (acc i m : Nat) (hi : i ≤ 8) (ha : acc < 2 ^ (7 * i)) (hm : m < 128) : bits .or .i64 (acc : Int) (wrap64 ((m : Int) * 2 ^ (7 * i))) = ((acc + m * 2 ^ (7 * i) : Nat) : Int) := by
  have hp : 2 ^ (7 * i) ≤ 2 ^ 56 := Nat.pow_le_pow_right (by decide) (by omega)
  have e : ((m : Int) * 2 ^ (7 * i)) = ((m * 2 ^ (7 * i) : Nat) : Int) := by simp
  have h1 : m * 2 ^ (7 * i) ≤ 127 * 2 ^ 56 := Nat.mul_le_mul (by omega) hp
  have e2 : wrap64 ((m : Int) * 2 ^ (7 * i)) = ((m * 2 ^ (7 * i) : Nat) : Int) := by
    rw [e]; generalize m * 2 ^ (7 * i) = q at *; unfold wrap64; omega
  rw [e2]
  show IntKind.i64.wrap ((BitVec.ofInt 64 (acc : Int) ||| BitVec.ofInt 64 ((m * 2 ^ (7 * i) : Nat) : Int)).toNat : Int) = _
  rw [BitVec.ofInt_natCast, BitVec.ofInt_natCast, BitVec.toNat_or, BitVec.toNat_ofNat, BitVec.toNat_ofNat, Nat.mod_eq_of_lt (by omega), Nat.mod_eq_of_lt (by omega)]
  have e3 : acc ||| m * 2 ^ (7 * i) = acc + m * 2 ^ (7 * i) := by
    rw [Nat.or_comm, Nat.mul_comm m, ← Nat.two_pow_add_eq_or_of_lt ha, Nat.add_comm]
  rw [e3, IntKind.wrap_i64]
  omega

/-- what leadingNumber answers -/
def leadRes (l : List UInt8) : Value := match lead l with
  | some (n, k) => .tuple #[.int .i64 n, .int .i64 k]
  | none => .tuple #[.int .i64 0, .int .i64 0]
theorem leadGo_step (f : Nat) (l : List UInt8) (k acc : Nat) (hk : k < l.length) :
    leadGo (f + 1) (l.drop k) k acc = if l[k].toNat < 128 then (if l[k].toNat = 0 ∧ 0 < k then none else some (acc + l[k].toNat % 128 * 2 ^ (7 * k), k + 1)) else leadGo f (l.drop (k + 1)) (k + 1) (acc + l[k].toNat % 128 * 2 ^ (7 * k)) := by
  rw [List.drop_eq_getElem_cons hk]
  rfl
set_option maxHeartbeats 400000 in
set_option maxRecDepth 10000 in
theorem leading_any (A : Option Addr) (n c : Nat) (l : List UInt8) (hn : l.length = n) (hl : n ≤ 9223372036854775807) (hc : n ≤ c) (w : World) (hr : Rd w w.heap.size A l) :
    Calls Try.prog 73 #[.slice A n c] w fun e w' => e = .returned (leadRes l) ∧ w = w' := by
  replace hr := Lib.hid hr
  have hx9 : max (9 : Int) 0 = 9 := by decide
  have hxn : max (n : Int) 0 = n := by omega
  have hcs : (∃ m : Nat, m = 9 ∧ 9 < n) ∨ (∃ m : Nat, m = n ∧ n ≤ 9) := by
    by_cases h : 9 < n
    · exact .inl ⟨9, rfl, h⟩
    · exact .inr ⟨n, rfl, by omega⟩
  rcases hcs with ⟨m, hm, h9⟩ | ⟨m, hm, h9⟩
  all_goals
    have hmi : Hid ((m = 9 ∨ m = l.length) ∧ m ≤ 9 ∧ m ≤ l.length) := (show (m = 9 ∨ m = l.length) ∧ m ≤ 9 ∧ m ≤ l.length by omega)
    have hnc : (9 : Int) ≤ c ∨ (n : Int) ≤ 9 := by omega
    replace hm := Lib.hid hm
    have hnh := Lib.hid hn
    clear hn
    go_enter Try.func73, Try.ntmps73
    go_wp2
    go_loop [2, 12] (fun acc i => ∃ k a : Nat, k ≤ m ∧ i = .int .i64 k ∧ acc = .int .i64 a ∧ Hid (a < 2 ^ (7 * k)) ∧ Hid (leadGo (9 - k) (l.drop k) k a = lead l)) (fun _ i => m - (intOf i).toNat)
    case atStart => exact ⟨0, 0, Nat.zero_le _, rfl, rfl, (show 0 < 2 ^ (7 * 0) by decide), rfl⟩
    case round =>
      obtain ⟨k, a, hk, rfl, rfl, ha, hg⟩ := hrel
      by_cases hlt : k < m
      · have hkl : k < l.length := by have := hmi.out; omega
        have hk8 : k ≤ 8 := by have := hmi.out; omega
        have hst := leadGo_step (8 - k) l k a hkl
        rw [show 8 - k + 1 = 9 - k from by omega, hg.out] at hst
        have hkn : (k : Int) < n := by have := hnh.out; omega
        have hkm := hm.out
        have hk9 : (k : Int) < 9 := by omega
        obtain ⟨ad, rfl, -, hcell⟩ := hr.out.at_ hkl
        clear hkm
        generalize l[k] = x at *
        have hacc := acc_step a k (x.toNat % 128) hk8 ha.out (by omega)
        rw [← u8_mod128 x] at hacc
        replace hacc := Lib.hid hacc
        have hnew : Hid (a + x.toNat % 128 * 2 ^ (7 * k) < 2 ^ (7 * (k + 1))) := (show _ < _ by
          have ha := ha.out
          rw [show 7 * (k + 1) = 7 * k + 7 from by omega, Nat.pow_add]
          have h1 : x.toNat % 128 * 2 ^ (7 * k) ≤ 127 * 2 ^ (7 * k) := Nat.mul_le_mul_right _ (by omega)
          omega)
        have hu0 := U_lo x
        have hu1 := U_hi x
        by_cases hx : x.toNat < 128
        · have hxu : U x < 128 := by unfold U; omega
          rw [if_pos hx] at hst
          cases h0 : (x == 0)
          · have hx0 : ¬ (x.toNat = 0 ∧ 0 < k) := fun h => by
              have : x = 0 := UInt8.toNat_inj.mp h.1
              rw [this] at h0; exact absurd h0 (by decide)
            rw [if_neg hx0] at hst
            replace hst := Lib.hid hst
            clear hx hx0
            go_wp2
            go_ret2
            refine ⟨?_, rfl⟩
            unfold leadRes
            rw [hst.out]
            show Ending.returned (Value.tuple #[.int .i64 (bits .or .i64 (a : Int) (wrap64 (U x % 128 * 2 ^ (7 * k)))), .int .i64 ((k : Int) + 1)]) = _
            rw [hacc.out]; rfl
          · have hx0 : x.toNat = 0 := by
              have : x = 0 := eq_of_beq h0
              rw [this]; rfl
            by_cases hk0 : 0 < k
            · rw [if_pos ⟨hx0, hk0⟩] at hst
              replace hst := Lib.hid hst
              clear hx hx0
              go_wp2
              go_ret2
              refine ⟨?_, rfl⟩
              unfold leadRes
              rw [hst.out]; rfl
            · rw [if_neg (fun h => hk0 h.2)] at hst
              replace hst := Lib.hid hst
              clear hx hx0
              go_wp2
              go_ret2
              refine ⟨?_, rfl⟩
              unfold leadRes
              rw [hst.out]
              show Ending.returned (Value.tuple #[.int .i64 (bits .or .i64 (a : Int) (wrap64 (U x % 128 * 2 ^ (7 * k)))), .int .i64 ((k : Int) + 1)]) = _
              rw [hacc.out]; rfl
        · have hxu : 128 ≤ U x := by unfold U; omega
          rw [if_neg hx] at hst
          replace hst := Lib.hid hst
          clear hx
          go_wp2
          go_round
          case rel => exact ⟨k + 1, _, by omega, by go_num, by rw [hacc.out], hnew, by rw [show 9 - (k + 1) = 8 - k from by omega]; exact hst.out.symm⟩
          case measure => simp [intOf]; omega
      · have hkm : k = m := by omega
        have hnone : lead l = none := by
          have hg := hg.out
          have hmi := hmi.out
          rw [← hg]
          rcases hmi.1 with h | h
          · rw [hkm, h]; rfl
          · rw [hkm, h, List.drop_length]
            cases 9 - l.length <;> rfl
        replace hnone := Lib.hid hnone
        have hkn : Hid (k = m) := hkm
        have hm2 := hm.out
        first
          | (have hk2 : (9 : Int) ≤ k := by omega
             clear hm2 hkm
             go_wp2
             go_ret2
             refine ⟨?_, rfl⟩
             unfold leadRes
             rw [hnone.out]; rfl)
          | (have hk2 : (n : Int) ≤ k := by omega
             clear hm2 hkm
             go_wp2
             go_ret2
             refine ⟨?_, rfl⟩
             unfold leadRes
             rw [hnone.out]; rfl)
end Go.Proofs.Ytgdbbjijneidaaa
