/- The reference's checksum. -/
import Derived.Test.YtgdbbjijneidaaaSumWalk
namespace Go.Proofs.Ytgdbbjijneidaaa
open Go Go.RowKit

def bitAt (l : List UInt8) (i : Nat) : BitVec 32 := if h : i / 8 < l.length then zx32 (shr8 l[i / 8] (i % 8)) &&& 1#32 else 0#32
attribute [local go_sem] u8_shrv
set_option maxRecDepth 10000 in
theorem bit_any (A : Option Addr) (c : Nat) (l : List UInt8) (i : Nat) (w : World) (hr : Rd w w.heap.size A l) (hl : l.length ≤ 9223372036854775807) (hi : i ≤ 9223372036854775807) :
    Calls Try.prog 83 #[.slice A l.length c, .int .i64 i] w fun e w' => e = .returned (.int .u32 (W (bitAt l i))) ∧ w = w' := by
  by_cases hlt : i / 8 < l.length
  · have hb : bitAt l i = zx32 (shr8 l[i / 8] (i % 8)) &&& 1#32 := dif_pos hlt
    rw [hb]
    obtain ⟨ad, rfl, _, hc⟩ := hr.at_ hlt
    clear hr hb
    generalize l[i / 8] = x at *
    go_enter Try.func83, Try.ntmps83
    go_wp2
    go_ret
    exact ⟨rfl, rfl⟩
  · have hb : bitAt l i = 0#32 := dif_neg hlt
    rw [hb]
    have hg : (l.length : Int) ≤ (i : Int) / 8 := by omega
    clear hb hr
    go_enter Try.func83, Try.ntmps83
    go_wp2
    go_ret
    exact ⟨rfl, rfl⟩
/-- one bit's step of the reference -/
def rst (v : BitVec 64) (x : BitVec 32) : BitVec 64 :=
  if ((v <<< 1 ||| zx64 x) >>> 32 == 1#64) = true then (v <<< 1 ||| zx64 x) ^^^ 4812730177#64 else v <<< 1 ||| zx64 x
def rbit (l : List UInt8) (i : Nat) : BitVec 32 := if i < 32 then bitAt l i ^^^ 1#32 else bitAt l i
def rrest (l : List UInt8) : Nat → BitVec 64
  | 0 => 0#64
  | i + 1 => rst (rrest l i) (rbit l i)
def rev (v : BitVec 64) : Nat → BitVec 32
  | 0 => 0#32
  | i + 1 => rev v i <<< 1 ||| lo32 (v >>> i &&& 1#64)
def rcrc (l : List UInt8) : BitVec 32 := ~~~ (rev (rrest l (8 * l.length + 32)) 32)
set_option maxRecDepth 10000 in
theorem rsum_walk (A : Option Addr) (c : Nat) (l : List UInt8) (w : World) (hr : Rd w w.heap.size A l) (hl : l.length ≤ 1048576) :
    Calls Try.prog 78 #[.slice A l.length c] w fun e w' => e = .returned (.int .u32 (W (rcrc l))) ∧ w = w' := by
  have hR := Lib.hid hr
  clear hr
  go_enter Try.func78, Try.ntmps78
  go_wp2
  go_loop [3, 4] (fun r i => ∃ k : Nat, k ≤ 8 * l.length + 32 ∧ i = .int .i64 k ∧ r = .int .u64 (Q (rrest l k))) (fun _ i => 8 * l.length + 32 - (intOf i).toNat)
  case atStart => exact ⟨0, Nat.zero_le _, rfl, rfl⟩
  case round =>
    obtain ⟨k, hk, rfl, rfl⟩ := hrel
    by_cases hlt : k < 8 * l.length + 32
    · by_cases h32 : k < 32
      · have hx : Hid (rbit l k = bitAt l k ^^^ 1#32) := if_pos h32
        cases hc : ((rrest l k <<< 1 ||| zx64 (bitAt l k ^^^ 1#32)) >>> 32 == 1#64)
        all_goals
          go_wp2_with (go_at_call 83; refine (bit_any _ _ _ _ _ hR.out (by omega) (by omega)).mono ?_; rintro e w' ⟨rfl, rfl⟩)
          go_round
          case rel => exact ⟨k + 1, by omega, by go_num, by rw [rrest, rst, hx.out, hc]; rfl⟩
          case measure => simp [intOf]; omega
      · have hx : Hid (rbit l k = bitAt l k) := if_neg h32
        cases hc : ((rrest l k <<< 1 ||| zx64 (bitAt l k)) >>> 32 == 1#64)
        all_goals
          go_wp2_with (go_at_call 83; refine (bit_any _ _ _ _ _ hR.out (by omega) (by omega)).mono ?_; rintro e w' ⟨rfl, rfl⟩)
          go_round
          case rel => exact ⟨k + 1, by omega, by go_num, by rw [rrest, rst, hx.out, hc]; rfl⟩
          case measure => simp [intOf]; omega
    · obtain rfl : k = 8 * l.length + 32 := by omega
      go_wp2
      go_loop [6, 7] (fun r i => ∃ k : Nat, k ≤ 32 ∧ i = .int .i64 k ∧ r = .int .u32 (W (rev (rrest l (8 * l.length + 32)) k))) (fun _ i => 32 - (intOf i).toNat)
      case atStart => exact ⟨0, Nat.zero_le _, rfl, rfl⟩
      case round =>
        obtain ⟨k, hk, rfl, rfl⟩ := hrel
        by_cases hlt : k < 32
        · go_wp2
          go_round
          case rel => exact ⟨k + 1, by omega, by go_num, rfl⟩
          case measure => simp [intOf]; omega
        · obtain rfl : k = 32 := by omega
          go_wp2
          go_ret
          exact ⟨rfl, rfl⟩
end Go.Proofs.Ytgdbbjijneidaaa
