/- The reference's product, power and quotient. -/
import Derived.Test.YtdgkcgiknfjpjaaMatA
import Derived.Test.YtdgkcgiknfjpjaaBaseB
import Derived.LoopTactic
import Derived.Deep.QuietTactic
import Derived.BigQuiet
namespace Go.Proofs.Ytdgkcgiknfjpjaa
open Go Go.RowKit

def rin (a b : UInt8) (i q : Nat) : Nat → Nat
  | 0 => q
  | j + 1 => if ((U a / 2 ^ i % 2 == 1) && (U b / 2 ^ j % 2 == 1)) = true then rin a b i q j ^^^ 2 ^ (i + j) else rin a b i q j
def rout (a b : UInt8) : Nat → Nat
  | 0 => 0
  | i + 1 => rin a b i (rout a b i) 8
def rred (q : Nat) : Nat → Nat
  | 0 => q
  | t + 1 => if ((rred q t : Int) / 2 ^ (14 - t) % 2 == 1) = true then rred q t ^^^ (285 * 2 ^ (6 - t)) else rred q t
theorem rin_lt (a b : UInt8) (i q : Nat) (hi : i < 8) (hq : q < 2 ^ 15) (j : Nat) (hj : j ≤ 8) : rin a b i q j < 2 ^ 15 := by
  induction j with
  | zero => exact hq
  | succ j ih =>
    unfold rin
    split
    · exact Nat.xor_lt_two_pow (ih (by omega)) (Nat.pow_lt_pow_right (by decide) (by omega))
    · exact ih (by omega)
theorem rout_lt (a b : UInt8) (i : Nat) (hi : i ≤ 8) : rout a b i < 2 ^ 15 := by
  induction i with
  | zero => show 0 < 2 ^ 15; decide
  | succ i ih => exact rin_lt a b i _ (by omega) (ih (by omega)) 8 (by omega)
theorem rred_lt (q : Nat) (hq : q < 2 ^ 15) (t : Nat) : rred q t < 2 ^ 15 := by
  induction t with
  | zero => exact hq
  | succ t ih =>
    unfold rred
    split
    · refine Nat.xor_lt_two_pow ih ?_
      have h1 : 2 ^ (6 - t) ≤ 2 ^ 6 := Nat.pow_le_pow_right (by decide) (by omega)
      omega
    · exact ih
theorem pow_cast (n : Nat) : (2 : Int) ^ n = ((2 ^ n : Nat) : Int) := by simp
theorem wrap64_pow (n : Nat) (h : n ≤ 60) : wrap64 (2 ^ n) = 2 ^ n := by
  rw [pow_cast]
  have : 2 ^ n ≤ 2 ^ 60 := Nat.pow_le_pow_right (by decide) h
  generalize (2 ^ n : Nat) = m at *
  unfold wrap64
  omega
theorem xor_pow (q n : Nat) (hq : q < 2 ^ 15) (hn : n ≤ 60) : bits .xor .i64 (q : Int) (2 ^ n) = ((q ^^^ 2 ^ n : Nat) : Int) := by
  rw [pow_cast, xor_i64 q _ (by omega)]
  exact Nat.lt_of_le_of_lt (Nat.pow_le_pow_right (by decide) hn) (by decide)
theorem tb (x : UInt8) (j : Nat) : (U x / 2 ^ j % 2 == 1) = x.toNat.testBit j := by
  rw [Nat.testBit_eq_decide_div_mod_eq, pow_cast]
  unfold U
  rw [Bool.eq_iff_iff]; simp only [beq_iff_eq, decide_eq_true_eq]
  omega
theorem tbn (x : Nat) (j : Nat) : ((x : Int) / 2 ^ j % 2 == 1) = x.testBit j := by
  rw [Nat.testBit_eq_decide_div_mod_eq, pow_cast]
  rw [Bool.eq_iff_iff]; simp only [beq_iff_eq, decide_eq_true_eq]
  omega
theorem xor_285 (q n : Nat) (hq : q < 2 ^ 15) (hn : n ≤ 6) : bits .xor .i64 (q : Int) (wrap64 (285 * 2 ^ n)) = ((q ^^^ (285 * 2 ^ n) : Nat) : Int) := by
  have h1 : 2 ^ n ≤ 2 ^ 6 := Nat.pow_le_pow_right (by decide) hn
  have e : (285 * 2 ^ n : Int) = ((285 * 2 ^ n : Nat) : Int) := by simp
  have e2 : wrap64 (285 * 2 ^ n) = ((285 * 2 ^ n : Nat) : Int) := by
    rw [e]; generalize (2 ^ n : Nat) = m at *; unfold wrap64; omega
  rw [e2, xor_i64 q _ (by omega) (by omega)]

def rmul (a b : UInt8) : UInt8 := UInt8.ofNat (rred (rout a b 8) 7)
set_option maxHeartbeats 400000 in
theorem rmul_walk (a b : UInt8) (w : World) :
    Calls Try.prog 73 #[.int .u8 (U a), .int .u8 (U b)] w fun e w' => e = .returned (.int .u8 (U (rmul a b))) ∧ w = w' := by
  go_enter Try.func73, Try.ntmps73
  go_wp2
  go_loop [5, 6] (fun p i => ∃ k : Nat, k ≤ 8 ∧ i = .int .i64 k ∧ p = .int .i64 (rout a b k : Nat)) (fun _ i => 8 - (intOf i).toNat)
  case atStart => exact ⟨0, Nat.zero_le _, rfl, rfl⟩
  case round =>
    obtain ⟨k, hk, rfl, rfl⟩ := hrel
    by_cases hlt : k < 8
    · go_wp2
      go_loop [5, 7] (fun p i => ∃ j : Nat, j ≤ 8 ∧ i = .int .i64 j ∧ p = .int .i64 (rin a b k (rout a b k) j : Nat)) (fun _ i => 8 - (intOf i).toNat)
      case atStart => exact ⟨0, Nat.zero_le _, rfl, rfl⟩
      case round =>
        obtain ⟨j, hj, rfl, rfl⟩ := hrel
        by_cases hlt2 : j < 8
        · have hx := Lib.hid (xor_pow (rin a b k (rout a b k) j) (k + j) (rin_lt a b k _ hlt (rout_lt a b k hk) j hj) (by omega))
          have hw := wrap64_pow (k + j) (by omega)
          cases h1 : (U a / 2 ^ k % 2 == 1) <;> cases h2 : (U b / 2 ^ j % 2 == 1)
          all_goals
            go_wp2
            go_round
            case rel => exact ⟨j + 1, by omega, by go_num, by first | (rw [rin, h1, h2]; rfl) | (rw [rin, h1, h2, hx.out]; rfl)⟩
            case measure => simp [intOf]; omega
        · obtain rfl : j = 8 := by omega
          go_wp2
          go_round
          case rel => exact ⟨k + 1, by omega, by go_num, rfl⟩
          case measure => simp [intOf]; omega
    · obtain rfl : k = 8 := by omega
      go_wp2
      go_loop [5, 8] (fun p i => ∃ t : Nat, t ≤ 7 ∧ i = .int .i64 (14 - t) ∧ p = .int .i64 (rred (rout a b 8) t : Nat)) (fun _ i => (intOf i).toNat)
      case atStart => exact ⟨0, Nat.zero_le _, rfl, rfl⟩
      case round =>
        obtain ⟨t, ht, rfl, rfl⟩ := hrel
        by_cases hlt2 : t < 7
        · have hx := Lib.hid (xor_285 (rred (rout a b 8) t) (14 - t - 8) (rred_lt _ (rout_lt a b 8 (by omega)) t) (by omega))
          have he : Hid (14 - t - 8 = 6 - t) := (show 14 - t - 8 = 6 - t by omega)
          cases h1 : ((rred (rout a b 8) t : Int) / 2 ^ (14 - t) % 2 == 1)
          all_goals
            go_wp2
            go_round
            case rel => exact ⟨t + 1, by omega, by go_num, by first | (rw [rred, h1]; rfl) | (rw [rred, h1, hx.out, he.out]; rfl)⟩
            case measure => simp [intOf]; omega
        · obtain rfl : t = 7 := by omega
          go_wp2
          go_ret
          refine ⟨?_, rfl⟩
          show Ending.returned (Value.int IntKind.u8 _) = _
          congr 2

theorem xor8n (a b c d : Nat) : (a ^^^ b) ^^^ (c ^^^ d) = (a ^^^ c) ^^^ (b ^^^ d) := by
  rw [Nat.xor_assoc, Nat.xor_assoc, ← Nat.xor_assoc b, Nat.xor_comm b c, Nat.xor_assoc c]
/-- 'c if the bit is set' -/
theorem if_xor (p r : Bool) (c : Nat) : (if (p ^^ r) = true then c else 0) = (if p = true then c else 0) ^^^ (if r = true then c else 0) := by
  cases p <;> cases r <;> simp
theorem rin_eq (a b : UInt8) (i q j : Nat) : rin a b i q (j + 1) = rin a b i q j ^^^ (if (a.toNat.testBit i && b.toNat.testBit j) = true then 2 ^ (i + j) else 0) := by
  rw [rin, tb, tb]; split <;> simp
theorem rin_lin_b (a b b' : UInt8) (i q q' j : Nat) : rin a (b ^^^ b') i (q ^^^ q') j = rin a b i q j ^^^ rin a b' i q' j := by
  induction j with
  | zero => rfl
  | succ j ih =>
    rw [rin_eq, rin_eq, rin_eq, ih, UInt8.toNat_xor, Nat.testBit_xor, Bool.and_xor_distrib_left, if_xor, xor8n]
theorem rin_lin_a (a a' b : UInt8) (i q q' j : Nat) : rin (a ^^^ a') b i (q ^^^ q') j = rin a b i q j ^^^ rin a' b i q' j := by
  induction j with
  | zero => rfl
  | succ j ih =>
    rw [rin_eq, rin_eq, rin_eq, ih, UInt8.toNat_xor, Nat.testBit_xor, Bool.and_xor_distrib_right, if_xor, xor8n]
theorem rout_lin_b (a b b' : UInt8) (k : Nat) : rout a (b ^^^ b') k = rout a b k ^^^ rout a b' k := by
  induction k with
  | zero => simp [rout]
  | succ k ih => rw [rout, ih, rin_lin_b]; rfl
theorem rout_lin_a (a a' b : UInt8) (k : Nat) : rout (a ^^^ a') b k = rout a b k ^^^ rout a' b k := by
  induction k with
  | zero => simp [rout]
  | succ k ih => rw [rout, ih, rin_lin_a]; rfl
theorem rred_eq (q t : Nat) : rred q (t + 1) = rred q t ^^^ (if (rred q t).testBit (14 - t) = true then 285 * 2 ^ (6 - t) else 0) := by
  rw [rred, tbn]; split <;> simp
theorem rred_lin (q q' : Nat) (t : Nat) : rred (q ^^^ q') t = rred q t ^^^ rred q' t := by
  induction t with
  | zero => rfl
  | succ t ih => rw [rred_eq, rred_eq, rred_eq, ih, Nat.testBit_xor, if_xor, xor8n]
theorem ofNat_xor (a b : Nat) : UInt8.ofNat (a ^^^ b) = UInt8.ofNat a ^^^ UInt8.ofNat b := by
  apply UInt8.toNat_inj.mp
  rw [UInt8.toNat_xor, UInt8.toNat_ofNat', UInt8.toNat_ofNat', UInt8.toNat_ofNat']
  exact Nat.xor_mod_two_pow ..
theorem rmul_eq (a b : UInt8) : rmul a b = gmul a b := by
  refine Lin.ext (f := fun a => rmul a b) (fun x y => ?_) (gmul_lin_a b) (fun j hj => ?_) a
  · show UInt8.ofNat (rred (rout (x ^^^ y) b 8) 7) = _
    rw [rout_lin_a, rred_lin, ofNat_xor]; rfl
  refine Lin.ext (f := fun b => rmul _ b) (fun x y => ?_) (gmul_lin_b _) (fun i hi => ?_) b
  · show UInt8.ofNat (rred (rout _ (x ^^^ y) 8) 7) = _
    rw [rout_lin_b, rred_lin, ofNat_xor]; rfl
  have : chk (fun j => chk (fun i => rmul (UInt8.ofNat (2 ^ j)) (UInt8.ofNat (2 ^ i)) == gmul (UInt8.ofNat (2 ^ j)) (UInt8.ofNat (2 ^ i))) 8) 8 = true := by decide +kernel
  exact eq_of_beq (chk_all (chk_all this j hj) i hi)
theorem rmul_any (a b : UInt8) (w : World) :
    Calls Try.prog 73 #[.int .u8 (U a), .int .u8 (U b)] w fun e w' => e = .returned (.int .u8 (U (gmul a b))) ∧ w = w' := by
  have := rmul_walk a b w
  rwa [rmul_eq] at this

theorem rmul_at {m : Int} {x : UInt8} (h : U x = m) (y : UInt8) (w : World) :
    Calls Try.prog 73 #[.int .u8 m, .int .u8 (U y)] w fun e w' => e = .returned (.int .u8 (U (gmul x y))) ∧ w = w' := by
  rw [← h]; exact rmul_any x y w
theorem u8_convert (k : Nat) (h : k < 256) : U (UInt8.ofNat k) = (k : Int) := U_ofNat k h
set_option maxRecDepth 10000 in
theorem rdiv_any (a b : UInt8) (w : World) :
    Calls Try.prog 89 #[.int .u8 (U a), .int .u8 (U b)] w fun e w' =>
      e = .returned (if b = 0 then .tuple #[.int .u8 0, .bool false] else .tuple #[.int .u8 (U (gmul a (gpow b 254))), .bool true]) ∧ w = w' := by
  by_cases hb : b = 0
  · subst hb
    rw [if_pos rfl]
    go_enter Try.func89, Try.ntmps89
    go_wp2
    go_ret2
    exact ⟨rfl, rfl⟩
  · have hb' : (b == 0) = false := by simpa using hb
    have hq := Lib.hid (fun x => gdiv_unique (a := a) (x := x) hb)
    have hH := Lib.hid hb
    rw [if_neg hb]
    clear hb
    have hq0 : Hid (ginv b = gpow b 254) := rfl
    generalize gpow b 254 = c at *
    rw [hq0.out] at hq
    go_enter Try.func89, Try.ntmps89
    go_wp2
    go_loop [6] (fun i => ∃ k : Nat, k ≤ (gmul a c).toNat ∧ i = .int .i64 k) (fun i => 256 - (intOf i).toNat)
    case atStart => exact ⟨0, Nat.zero_le _, rfl⟩
    case round =>
      obtain ⟨k, hk, rfl⟩ := hrel
      have hlt := (gmul a c).toNat_lt
      have hk2 : k ≤ 255 := by omega
      have hK := Lib.hid hk
      clear hk hlt
      have hu := Lib.hid (u8_convert k (by omega))
      cases h : (gmul (UInt8.ofNat k) b == a)
      · go_wp2_with (go_at_call 73; refine (rmul_any _ _ _).mono ?_; rintro e w' ⟨rfl, rfl⟩)
        go_round
        case rel =>
          refine ⟨k + 1, ?_, by go_num⟩
          have := hK.out
          have hne : k ≠ (gmul a c).toNat := fun e => by
            have : UInt8.ofNat k = gmul a c := by rw [e]; simp
            rw [(hq.out _).mpr this] at h
            simp at h
          omega
        case measure => simp [intOf]; omega
      · go_wp2_with (go_at_call 73; refine (rmul_any _ _ _).mono ?_; rintro e w' ⟨rfl, rfl⟩)
        go_ret2
        refine ⟨?_, rfl⟩
        have hx := (hq.out _).mp (eq_of_beq h)
        rw [← hx]
        rfl
end Go.Proofs.Ytdgkcgiknfjpjaa
/- The reference of mat: Table, Same. -/
namespace Go.Proofs.Ytdgkcgiknfjpjaa
set_option linter.unusedVariables false
set_option linter.unusedSimpArgs false
open Go Go.RowKit
theorem belowN {B : Nat} {w w' : World} (h : Below B w w') (n : Nat) : Below B w (w'.drewN n) := ⟨h.os, h.tape, h.output, h.size, h.block⟩
theorem beq_take_false {L1 L2 : List (List UInt8)} {k : Nat} {l1 l2 : List UInt8} (h1 : L1[k]? = some l1) (h2 : L2[k]? = some l2) (hne : l1 ≠ l2) : (L1 == L2) = false := by
  rw [beq_eq_false_iff_ne]
  intro e
  rw [e, h2] at h1
  injection h1 with h1
  exact hne h1.symm
set_option maxHeartbeats 4000000 in
set_option maxRecDepth 10000 in
theorem rsameT_any (A : Option Addr) (n c : Nat) (L : List (List UInt8)) (hm : n ≤ 9223372036854775807) (A2 : Option Addr) (n2 c2 : Nat) (L2 : List (List UInt8)) (hm2 : n2 ≤ 9223372036854775807) (w : World) (h : RT w w.heap.size A n L) (h2 : RT w w.heap.size A2 n2 L2) :
    Calls Try.prog 16 #[.slice A n c, .slice A2 n2 c2] w fun e w' => e = .returned (.bool (L == L2)) ∧ Below w.heap.size w w' := by
  have hl := h.1
  have hl2 := h2.1
  by_cases hn : n = n2
  · subst hn
    have hne : ((n : Int) != (n : Int)) = false := by simp
    have hr1 := Lib.hid h
    have hr2 := Lib.hid h2
    replace hl := Lib.hid hl
    replace hl2 := Lib.hid hl2
    clear h h2
    go_enter Try.func16, Try.ntmps16
    go_wp2
    go_loopw [5] (fun i wr => ∃ k : Nat, k ≤ n ∧ i = .int .i64 k ∧ Hid (∀ i, i < k → L[i]? = L2[i]?) ∧ Hid (Below w.heap.size w wr)) (fun i _ => n - (intOf i).toNat)
    case atStart => exact ⟨0, Nat.zero_le _, rfl, Lib.hid (fun i hi => absurd hi (by omega)), Lib.hid (Below.refl _ _)⟩
    case round =>
      obtain ⟨k, hk, rfl, hall, hbw⟩ := hrel
      by_cases hlt : k < n
      · obtain ⟨b1, o1, A3, c3, l1, rfl, hb1, hg1, hc1, -, -, hd1⟩ := hr1.out.at_ (i := k) hlt
        obtain ⟨b2, o2, A4, c4, l2, rfl, hb2, hg2, hc2, -, -, hd2⟩ := hr2.out.at_ (i := k) hlt
        have hres2 : l1 ≠ l2 → (L == L2) = false := fun hh => beq_take_false hg1 hg2 hh
        have hall2 : l1 = l2 → ∀ i, i < k + 1 → L[i]? = L2[i]? := fun hh i hi => by
          by_cases e : i = k
          · subst e; rw [hg1, hg2, hh]
          · exact hall.out i (by omega)
        have hcb1 := (hbw.out.cell (p := ⟨b1, o1 + k, none⟩) hb1).trans hc1
        have hcb2 := (hbw.out.cell (p := ⟨b2, o2 + k, none⟩) hb2).trans hc2
        obtain ⟨n1, hn1⟩ : ∃ n1, l1.length = n1 := ⟨_, rfl⟩
        obtain ⟨n3, hn3⟩ : ∃ n1, l2.length = n1 := ⟨_, rfl⟩
        rw [hn1] at hcb1
        rw [hn3] at hcb2
        have ik : (k : Int) < (n : Int) := by omega
        replace hc1 := Lib.hid hc1
        replace hc2 := Lib.hid hc2
        replace hg1 := Lib.hid hg1
        replace hg2 := Lib.hid hg2
        replace hd1 := Lib.hid hd1
        replace hd2 := Lib.hid hd2
        replace hn1 := Lib.hid hn1
        replace hn3 := Lib.hid hn3
        by_cases hll : l1 = l2
        · have hal := Lib.hid (hall2 hll)
          have hbb : (l1 == l2) = true := beq_iff_eq.mpr hll
          replace hll := Lib.hid hll
          clear hres2 hall2
          go_wp2_with fail
          obtain ⟨wd, hwd⟩ : ∃ wd, wd = wr.drew := ⟨_, rfl⟩
          have hbd : Hid (Below w.heap.size w wd) := Lib.hid (by rw [hwd]; exact hbw.out.drew)
          have hdd1 : Hid (Rd wd wd.heap.size A3 l1) := Lib.hid ((hd1.out.keep (fun p hp => hbd.out.cell hp)).more hbd.out.size)
          have hdd2 : Hid (Rd wd wd.heap.size A4 l2) := Lib.hid ((hd2.out.keep (fun p hp => hbd.out.cell hp)).more hbd.out.size)
          have hcd1 : wd.cell? ⟨b1, o1 + k, none⟩ = some (.slice A3 n1 c3) := by rw [hwd]; exact hcb1
          have hcd2 : wd.cell? ⟨b2, o2 + k, none⟩ = some (.slice A4 n3 c4) := by rw [hwd]; exact hcb2
          have hlt1 := Nat.lt_of_lt_of_le hb1 hbd.out.size
          have hlt2 := Nat.lt_of_lt_of_le hb2 hbd.out.size
          refine wpR_region (Upd (fun _ => False)) 9999 (by kernel_rfl) ?_
          (rw [← hwd]; replace hwd := Lib.hid hwd)
          refine wpR_take (i := 0) (v := ?_) (Upd.road _) (some 17) rfl (by kernel_rfl) (by kernel_rfl) (by kernel_rfl) (by kernel_rfl) (by kernel_rfl) (fun _ _ _ h => h) (by kernel_rfl) (fun w' hw' => ?_) ?_
          rotate_left
          · go_simp; with_reducible rfl
          simp only [Act.put, List.setIfInBounds_toArray, List.set_cons_zero, List.set_cons_succ]
          refine wpR_take (i := 1) (v := ?_) (Upd.road _) (some 18) rfl (by kernel_rfl) (by kernel_rfl) (by kernel_rfl) (by kernel_rfl) (by kernel_rfl) (fun _ _ _ h => h) (by kernel_rfl) (fun w' hw' => ?_) ?_
          rotate_left
          · go_simp; with_reducible rfl
          simp only [Act.put, List.setIfInBounds_toArray, List.set_cons_zero, List.set_cons_succ]
          refine wpR_take (i := 2) (v := ?_) (Upd.road _) (some 19) rfl (by kernel_rfl) (by kernel_rfl) (by kernel_rfl) (by kernel_rfl) (by kernel_rfl) (fun _ _ _ h => h) (by kernel_rfl) (fun w' hw' => ?_) ?_
          rotate_left
          · go_simp; with_reducible rfl
          simp only [Act.put, List.setIfInBounds_toArray, List.set_cons_zero, List.set_cons_succ]
          refine wpR_take (i := 3) (v := ?_) (Upd.road _) (some 20) rfl (by kernel_rfl) (by kernel_rfl) (by kernel_rfl) (by kernel_rfl) (by kernel_rfl) (fun _ _ _ h => h) (by kernel_rfl) (fun w' hw' => ?_) ?_
          rotate_left
          · have q := (hw'.cell (p := ⟨b1, o1 + k, none⟩) hlt1 (fun h => h)).trans hcd1; go_simp; with_reducible rfl
          simp only [Act.put, List.setIfInBounds_toArray, List.set_cons_zero, List.set_cons_succ]
          refine wpR_take (i := 4) (v := ?_) (Upd.road _) (some 21) rfl (by kernel_rfl) (by kernel_rfl) (by kernel_rfl) (by kernel_rfl) (by kernel_rfl) (fun _ _ _ h => h) (by kernel_rfl) (fun w' hw' => ?_) ?_
          rotate_left
          · have cv := run_str_at c3 (hdd1.out.upd (fun _ _ _ h => h) hw') hn1.out; go_simp; with_reducible rfl
          simp only [Act.put, List.setIfInBounds_toArray, List.set_cons_zero, List.set_cons_succ]
          refine wpR_take (i := 5) (v := ?_) (Upd.road _) (some 22) rfl (by kernel_rfl) (by kernel_rfl) (by kernel_rfl) (by kernel_rfl) (by kernel_rfl) (fun _ _ _ h => h) (by kernel_rfl) (fun w' hw' => ?_) ?_
          rotate_left
          · go_simp; with_reducible rfl
          simp only [Act.put, List.setIfInBounds_toArray, List.set_cons_zero, List.set_cons_succ]
          refine wpR_take (i := 6) (v := ?_) (Upd.road _) (some 23) rfl (by kernel_rfl) (by kernel_rfl) (by kernel_rfl) (by kernel_rfl) (by kernel_rfl) (fun _ _ _ h => h) (by kernel_rfl) (fun w' hw' => ?_) ?_
          rotate_left
          · go_simp; with_reducible rfl
          simp only [Act.put, List.setIfInBounds_toArray, List.set_cons_zero, List.set_cons_succ]
          refine wpR_take (i := 7) (v := ?_) (Upd.road _) (some 24) rfl (by kernel_rfl) (by kernel_rfl) (by kernel_rfl) (by kernel_rfl) (by kernel_rfl) (fun _ _ _ h => h) (by kernel_rfl) (fun w' hw' => ?_) ?_
          rotate_left
          · go_simp; with_reducible rfl
          simp only [Act.put, List.setIfInBounds_toArray, List.set_cons_zero, List.set_cons_succ]
          refine wpR_take (i := 8) (v := ?_) (Upd.road _) (some 25) rfl (by kernel_rfl) (by kernel_rfl) (by kernel_rfl) (by kernel_rfl) (by kernel_rfl) (fun _ _ _ h => h) (by kernel_rfl) (fun w' hw' => ?_) ?_
          rotate_left
          · have q := (hw'.cell (p := ⟨b2, o2 + k, none⟩) hlt2 (fun h => h)).trans hcd2; go_simp; with_reducible rfl
          simp only [Act.put, List.setIfInBounds_toArray, List.set_cons_zero, List.set_cons_succ]
          refine wpR_take (i := 9) (v := ?_) (Upd.road _) (some 26) rfl (by kernel_rfl) (by kernel_rfl) (by kernel_rfl) (by kernel_rfl) (by kernel_rfl) (fun _ _ _ h => h) (by kernel_rfl) (fun w' hw' => ?_) ?_
          rotate_left
          · have cv := run_str_at c4 (hdd2.out.upd (fun _ _ _ h => h) hw') hn3.out; go_simp; with_reducible rfl
          simp only [Act.put, List.setIfInBounds_toArray, List.set_cons_zero, List.set_cons_succ]
          refine wpR_take (i := 10) (v := ?_) (Upd.road _) (some 27) rfl (by kernel_rfl) (by kernel_rfl) (by kernel_rfl) (by kernel_rfl) (by kernel_rfl) (fun _ _ _ h => h) (by kernel_rfl) (fun w' hw' => ?_) ?_
          rotate_left
          · go_simp; with_reducible rfl
          simp only [Act.put, List.setIfInBounds_toArray, List.set_cons_zero, List.set_cons_succ]
          refine wpR_done (by kernel_rfl) ?_ _
          go_wp2
          go_roundw
          case rel => exact ⟨k + 1, by omega, by go_num, hal, hbd⟩
          case measure => simp [intOf]; omega
        · have hres := Lib.hid (hres2 hll)
          have hbb : (l1 == l2) = false := beq_eq_false_iff_ne.mpr hll
          replace hll := Lib.hid hll
          clear hres2 hall2
          go_wp2_with fail
          obtain ⟨wd, hwd⟩ : ∃ wd, wd = wr.drew := ⟨_, rfl⟩
          have hbd : Hid (Below w.heap.size w wd) := Lib.hid (by rw [hwd]; exact hbw.out.drew)
          have hdd1 : Hid (Rd wd wd.heap.size A3 l1) := Lib.hid ((hd1.out.keep (fun p hp => hbd.out.cell hp)).more hbd.out.size)
          have hdd2 : Hid (Rd wd wd.heap.size A4 l2) := Lib.hid ((hd2.out.keep (fun p hp => hbd.out.cell hp)).more hbd.out.size)
          have hcd1 : wd.cell? ⟨b1, o1 + k, none⟩ = some (.slice A3 n1 c3) := by rw [hwd]; exact hcb1
          have hcd2 : wd.cell? ⟨b2, o2 + k, none⟩ = some (.slice A4 n3 c4) := by rw [hwd]; exact hcb2
          have hlt1 := Nat.lt_of_lt_of_le hb1 hbd.out.size
          have hlt2 := Nat.lt_of_lt_of_le hb2 hbd.out.size
          refine wpR_region (Upd (fun _ => False)) 9999 (by kernel_rfl) ?_
          (rw [← hwd]; replace hwd := Lib.hid hwd)
          refine wpR_take (i := 0) (v := ?_) (Upd.road _) (some 17) rfl (by kernel_rfl) (by kernel_rfl) (by kernel_rfl) (by kernel_rfl) (by kernel_rfl) (fun _ _ _ h => h) (by kernel_rfl) (fun w' hw' => ?_) ?_
          rotate_left
          · go_simp; with_reducible rfl
          simp only [Act.put, List.setIfInBounds_toArray, List.set_cons_zero, List.set_cons_succ]
          refine wpR_take (i := 1) (v := ?_) (Upd.road _) (some 18) rfl (by kernel_rfl) (by kernel_rfl) (by kernel_rfl) (by kernel_rfl) (by kernel_rfl) (fun _ _ _ h => h) (by kernel_rfl) (fun w' hw' => ?_) ?_
          rotate_left
          · go_simp; with_reducible rfl
          simp only [Act.put, List.setIfInBounds_toArray, List.set_cons_zero, List.set_cons_succ]
          refine wpR_take (i := 2) (v := ?_) (Upd.road _) (some 19) rfl (by kernel_rfl) (by kernel_rfl) (by kernel_rfl) (by kernel_rfl) (by kernel_rfl) (fun _ _ _ h => h) (by kernel_rfl) (fun w' hw' => ?_) ?_
          rotate_left
          · go_simp; with_reducible rfl
          simp only [Act.put, List.setIfInBounds_toArray, List.set_cons_zero, List.set_cons_succ]
          refine wpR_take (i := 3) (v := ?_) (Upd.road _) (some 20) rfl (by kernel_rfl) (by kernel_rfl) (by kernel_rfl) (by kernel_rfl) (by kernel_rfl) (fun _ _ _ h => h) (by kernel_rfl) (fun w' hw' => ?_) ?_
          rotate_left
          · have q := (hw'.cell (p := ⟨b1, o1 + k, none⟩) hlt1 (fun h => h)).trans hcd1; go_simp; with_reducible rfl
          simp only [Act.put, List.setIfInBounds_toArray, List.set_cons_zero, List.set_cons_succ]
          refine wpR_take (i := 4) (v := ?_) (Upd.road _) (some 21) rfl (by kernel_rfl) (by kernel_rfl) (by kernel_rfl) (by kernel_rfl) (by kernel_rfl) (fun _ _ _ h => h) (by kernel_rfl) (fun w' hw' => ?_) ?_
          rotate_left
          · have cv := run_str_at c3 (hdd1.out.upd (fun _ _ _ h => h) hw') hn1.out; go_simp; with_reducible rfl
          simp only [Act.put, List.setIfInBounds_toArray, List.set_cons_zero, List.set_cons_succ]
          refine wpR_take (i := 5) (v := ?_) (Upd.road _) (some 22) rfl (by kernel_rfl) (by kernel_rfl) (by kernel_rfl) (by kernel_rfl) (by kernel_rfl) (fun _ _ _ h => h) (by kernel_rfl) (fun w' hw' => ?_) ?_
          rotate_left
          · go_simp; with_reducible rfl
          simp only [Act.put, List.setIfInBounds_toArray, List.set_cons_zero, List.set_cons_succ]
          refine wpR_take (i := 6) (v := ?_) (Upd.road _) (some 23) rfl (by kernel_rfl) (by kernel_rfl) (by kernel_rfl) (by kernel_rfl) (by kernel_rfl) (fun _ _ _ h => h) (by kernel_rfl) (fun w' hw' => ?_) ?_
          rotate_left
          · go_simp; with_reducible rfl
          simp only [Act.put, List.setIfInBounds_toArray, List.set_cons_zero, List.set_cons_succ]
          refine wpR_take (i := 7) (v := ?_) (Upd.road _) (some 24) rfl (by kernel_rfl) (by kernel_rfl) (by kernel_rfl) (by kernel_rfl) (by kernel_rfl) (fun _ _ _ h => h) (by kernel_rfl) (fun w' hw' => ?_) ?_
          rotate_left
          · go_simp; with_reducible rfl
          simp only [Act.put, List.setIfInBounds_toArray, List.set_cons_zero, List.set_cons_succ]
          refine wpR_take (i := 8) (v := ?_) (Upd.road _) (some 25) rfl (by kernel_rfl) (by kernel_rfl) (by kernel_rfl) (by kernel_rfl) (by kernel_rfl) (fun _ _ _ h => h) (by kernel_rfl) (fun w' hw' => ?_) ?_
          rotate_left
          · have q := (hw'.cell (p := ⟨b2, o2 + k, none⟩) hlt2 (fun h => h)).trans hcd2; go_simp; with_reducible rfl
          simp only [Act.put, List.setIfInBounds_toArray, List.set_cons_zero, List.set_cons_succ]
          refine wpR_take (i := 9) (v := ?_) (Upd.road _) (some 26) rfl (by kernel_rfl) (by kernel_rfl) (by kernel_rfl) (by kernel_rfl) (by kernel_rfl) (fun _ _ _ h => h) (by kernel_rfl) (fun w' hw' => ?_) ?_
          rotate_left
          · have cv := run_str_at c4 (hdd2.out.upd (fun _ _ _ h => h) hw') hn3.out; go_simp; with_reducible rfl
          simp only [Act.put, List.setIfInBounds_toArray, List.set_cons_zero, List.set_cons_succ]
          refine wpR_take (i := 10) (v := ?_) (Upd.road _) (some 27) rfl (by kernel_rfl) (by kernel_rfl) (by kernel_rfl) (by kernel_rfl) (by kernel_rfl) (fun _ _ _ h => h) (by kernel_rfl) (fun w' hw' => ?_) ?_
          rotate_left
          · go_simp; with_reducible rfl
          simp only [Act.put, List.setIfInBounds_toArray, List.set_cons_zero, List.set_cons_succ]
          refine wpR_done (by kernel_rfl) ?_ _
          go_wp2
          go_ret
          exact ⟨by rw [hres.out]; rfl, hbd.out⟩
      · have hres : Hid ((L == L2) = true) := Lib.hid (by
          rw [beq_iff_eq]
          refine List.ext_getElem? fun i => ?_
          by_cases hi : i < n
          · exact hall.out i (by omega)
          · rw [List.getElem?_eq_none (by rw [hl.out]; omega), List.getElem?_eq_none (by rw [hl2.out]; omega)])
        obtain rfl : k = n := by omega
        go_wp2
        go_ret
        exact ⟨by rw [hres.out]; rfl, hbw.out⟩
  · have hres : Hid ((L == L2) = false) := Lib.hid (by rw [beq_eq_false_iff_ne]; intro e; rw [e] at hl; omega)
    have hne : ((n : Int) != (n2 : Int)) = true := by simp; omega
    replace hl := Lib.hid hl
    replace hl2 := Lib.hid hl2
    replace hn := Lib.hid hn
    replace h := Lib.hid h
    replace h2 := Lib.hid h2
    go_enter Try.func16, Try.ntmps16
    go_wp2
    go_ret
    exact ⟨by rw [hres.out]; rfl, Below.refl _ _⟩
end Go.Proofs.Ytdgkcgiknfjpjaa
/- The reference of mat: Times. -/
namespace Go.Proofs.Ytdgkcgiknfjpjaa
set_option linter.unusedVariables false
set_option linter.unusedSimpArgs false
open Go Go.RowKit
theorem row_snoc (k : Nat) (f : Nat → UInt8) : row k f ++ [f k] = row (k + 1) f := by unfold row; rw [List.range_succ, List.map_append]; rfl
theorem tabM_snoc (k m : Nat) (M : Mx) : tabM k m M ++ [row m (M k)] = tabM (k + 1) m M := by unfold tabM; rw [List.range_succ, List.map_append]; rfl
theorem below_row {w w1 w' : World} {B : Nat} {v : Value} {l : List UInt8} (ho : OB w B v l) (hb : Below B w1 w) (hs : B ≤ w.heap.size) (hg : w.grownBy w' v.ownBlock) : Below B w1 w' := hb.grown hg hs ho.up
end Go.Proofs.Ytdgkcgiknfjpjaa
/- The reference of mat: Times of what does not fit, One, Copy, Code. -/
namespace Go.Proofs.Ytdgkcgiknfjpjaa
set_option linter.unusedVariables false
set_option linter.unusedSimpArgs false
open Go Go.RowKit
theorem AT.put {w : World} {base g n c : Nat} {L : List (List UInt8)} (h : AT w base (.slice (some ⟨g, 0, none⟩) n c) L) (hn : L.length = n) {i : Nat} (hi : i < n) {A : Option Addr} {c' : Nat} {l : List UInt8} (hr : RowOk w base A c' l) :
    AT (w.setCell ⟨g, i, none⟩ (.slice A l.length c')) base (.slice (some ⟨g, 0, none⟩) n c) (L.set i l) := by
  obtain ⟨rows, h1, h2, h3⟩ := h
  obtain ⟨g', c'', e, q1, q2, q3, q4, -, q6, q7, q8⟩ := row_at h1 (by omega)
  injection e with e1 e2 e3
  injection e1 with e1
  injection e1 with e1
  subst e1
  have hne : ∀ (A2 : Option Addr) (c2 : Nat) (l2 : List UInt8), RowOk w base A2 c2 l2 → RowOk (w.setCell ⟨g, i, none⟩ (.slice A l.length c')) base A2 c2 l2 := fun A2 c2 l2 hh => by
    rcases hh with hh | ⟨hh, r1, r2⟩
    · refine .inl (row_keep hh (fun k hk => ?_))
      have hne := row_ne2 h1 hh (by decide) k hk
      exact blk_other (fun e => hne (by rw [e]; rfl)) i _
    · exact .inr ⟨Reads.setCell (p := ⟨g, i, none⟩) hh q3 _, r1, r2⟩
  refine ⟨rows.set i (.slice A l.length c'), by rw [List.length_set]; exact q8 i _, by simp [h2], fun j l' hl => ?_⟩
  rw [List.getElem?_set] at hl
  by_cases e : i = j
  · subst e
    rw [if_pos rfl, if_pos (by omega)] at hl
    injection hl with hl
    subst hl
    exact ⟨A, c', by rw [List.getElem?_set_self (by omega)], hne _ _ _ hr⟩
  · rw [if_neg e] at hl
    obtain ⟨A2, c2, h4, h5⟩ := h3 j l' hl
    exact ⟨A2, c2, by rw [List.getElem?_set_ne e]; exact h4, hne _ _ _ h5⟩
theorem AT.row {w : World} {base n c : Nat} {A : Option Addr} {L : List (List UInt8)} (h : AT w base (.slice A n c) L) {i : Nat} {l : List UInt8} (hl : L[i]? = some l) :
    ∃ g A' c', A = some ⟨g, 0, none⟩ ∧ base ≤ g ∧ g < w.heap.size ∧ w.cell? ⟨g, i, none⟩ = some (.slice A' l.length c') ∧ w.frozen? ⟨g, i, none⟩ = false ∧ RowOk w base A' c' l := by
  obtain ⟨rows, h1, h2, h3⟩ := h
  have hi := (List.getElem?_eq_some_iff.mp hl).1
  obtain ⟨g', c'', e, q1, q2, q3, q4, -, q6, q7, q8⟩ := row_at h1 (by omega)
  injection e with e1 e2 e3
  obtain ⟨A2, c2, h4, h5⟩ := h3 i l hl
  exact ⟨g', A2, c2, e1, q3, q4, q7 i _ h4, q6 i, h5⟩
theorem tabM_set {n m i : Nat} (hi : i < n) (M : Mx) (f : Nat → UInt8) : (tabM n m M).set i (row m f) = tabM n m (fun r => if r = i then f else M r) := by
  refine List.ext_getElem? fun j => ?_
  rw [List.getElem?_set, tabM_length]
  by_cases hj : j < n
  · rw [tabM_get hj, tabM_get hj]
    by_cases e : i = j
    · subst e; rw [if_pos rfl, if_pos hi]; simp
    · rw [if_neg e]; simp [show ¬ j = i from fun h => e h.symm]
  · rw [List.getElem?_eq_none (by rw [tabM_length]; omega), List.getElem?_eq_none (by rw [tabM_length]; omega), if_neg (by omega)]
theorem AT.width {w : World} {base n c : Nat} {A : Option Addr} {L : List (List UInt8)} (h : AT w base (.slice A n c) L) : L.length = n := by
  obtain ⟨rows, h1, -, -⟩ := h
  rcases h1.2 with ⟨e, h0⟩ | ⟨g, cap, cur, e, -⟩
  · injection e with _ e _; omega
  · injection e with _ e _; omega
theorem AT.newSet {w0 w : World} {base g j : Nat} {v : Value} {L : List (List UInt8)} {u : Value} (h : AT w0 base v L) (hs : base ≤ w0.heap.size) (hb : Below w0.heap.size w0 w) (hg : w0.heap.size ≤ g) : AT (w.setCell ⟨g, j, none⟩ u) base v L :=
  h.below (hb.setCell (p := ⟨g, j, none⟩) hg u) hs
theorem row_one (n k : Nat) (hk : k < n) : (List.replicate n (0 : UInt8)).set k 1 = row n (idM k) := by
  rw [← row_zero, row_set]
  exact row_congr (fun j _ => by
    unfold idM
    by_cases e : j = k
    · rw [if_pos e, if_pos e.symm]
    · rw [if_neg e, if_neg (fun h => e h.symm)])
theorem take_snoc' {L : List (List UInt8)} {k : Nat} {l : List UInt8} (h : L[k]? = some l) : L.take k ++ [l] = L.take (k + 1) := by
  rw [List.take_add_one, h]; rfl
theorem take_len {L : List (List UInt8)} {k n : Nat} (h : L.length = n) (hk : k ≤ n) : (L.take k).length = k := by rw [List.length_take]; omega
end Go.Proofs.Ytdgkcgiknfjpjaa
/- The reference of mat: Code. -/
namespace Go.Proofs.Ytdgkcgiknfjpjaa
set_option linter.unusedVariables false
set_option linter.unusedSimpArgs false
open Go Go.RowKit
set_option maxHeartbeats 8000000 in
set_option maxRecDepth 20000 in
def RNo (w : World) (e : Ending) (w' : World) : Prop := e = .returned (.slice (some ⟨w.heap.size, 0, none⟩) 0 0) ∧ w' = w.alloc (.cells #[] 22)
end Go.Proofs.Ytdgkcgiknfjpjaa
/- The reference of mat: Full. -/
namespace Go.Proofs.Ytdgkcgiknfjpjaa
set_option linter.unusedVariables false
set_option linter.unusedSimpArgs false
open Go Go.RowKit
theorem wpo_append {w : World} {o : Oper} {a : Act} {K : Act → World → Prop} {Q : Exit → Act → World → Prop} (hgd : o.guard = none) (s x : Operand)
    (ho : o.op = .call { callee := .builtin .append, args := #[s, x], argTypes := #[22, 22] })
    (base : Nat) (v : Value) (l : List UInt8) (hs : a.eval s = v) (hown : OB w base v l)
    (B : Nat) (A : Option Addr) (c : Nat) (news : List UInt8) (hx : a.eval x = .slice A news.length c) (hr : Rd w B A news)
    (hlen : l.length + news.length ≤ 140737488355328) (hbase : base ≤ w.heap.size)
    (h : ∀ v' w', OB w' base v' (l ++ news) → w.grownBy w' v.ownBlock → (v'.ownBlock = v.ownBlock ∨ v'.ownBlock = some w.heap.size) → K (a.put o.dst v') w') :
    Oper.wp Try.prog o a w K Q := by
  have := step_append (ops := #[]) (Q := Q) (E := False) hgd s x ho base v l hs hown B A c news hx hr hlen hbase h
  have hw : Region.wanted o (yielded #[] a.tmps) = true := by simp [Region.wanted, hgd]
  rwa [if_pos hw] at this
theorem AT.at_ {w : World} {base n c m : Nat} {A : Option Addr} {M : Mx} (h : AT w base (.slice A n c) (tabM n m M)) (hs : base ≤ w.heap.size) {i : Nat} (hi : i < n) {j : Nat} (hj : j < m) :
    ∃ g ad c', A = some ⟨g, 0, none⟩ ∧ base ≤ g ∧ g < w.heap.size ∧ w.cell? ⟨g, i, none⟩ = some (.slice (some ad) m c') ∧ w.frozen? ⟨g, i, none⟩ = false ∧ m ≤ c' ∧ RowOk w base (some ad) c' (Go.Proofs.Ytdgkcgiknfjpjaa.row m (M i)) ∧ ∀ j, j < m → (ad.add j).block < w.heap.size ∧ w.cell? (ad.add j) = some (.int .u8 (U (M i j))) := by
  obtain ⟨g, A', c', rfl, h1, h2, h3, h4, h5⟩ := h.row (tabM_get hi M)
  obtain ⟨h6, h7, -⟩ := h5.rd hs
  rw [row_length] at h3 h7
  obtain ⟨ad, rfl, hadb, hc⟩ := h6.get (row_get hj (M i))
  refine ⟨g, ad, c', rfl, h1, h2, h3, h4, h7, h5, fun j' hj' => ?_⟩
  obtain ⟨ad2, e, hb2, hc2⟩ := h6.get (row_get hj' (M i))
  injection e with e
  subst e
  exact ⟨by rw [block_of_add]; exact hb2, hc2⟩
theorem AT.at2 {w : World} {base n c m g : Nat} {M : Mx} (h : AT w base (.slice (some ⟨g, 0, none⟩) n c) (tabM n m M)) (hs : base ≤ w.heap.size) {i : Nat} (hi : i < n) {j : Nat} (hj : j < m) :
    ∃ ad c', base ≤ g ∧ g < w.heap.size ∧ w.cell? ⟨g, i, none⟩ = some (.slice (some ad) m c') ∧ w.frozen? ⟨g, i, none⟩ = false ∧ m ≤ c' ∧ RowOk w base (some ad) c' (Go.Proofs.Ytdgkcgiknfjpjaa.row m (M i)) ∧ ∀ j, j < m → (ad.add j).block < w.heap.size ∧ w.cell? (ad.add j) = some (.int .u8 (U (M i j))) := by
  obtain ⟨g', ad, c', eg, r⟩ := h.at_ hs hi hj
  injection eg with eg
  injection eg with eg
  subst eg
  exact ⟨ad, c', r⟩
theorem Upper.swap {n k p : Nat} {M : Mx} (h : Upper n k M) (hk : k ≤ p) (hp : p < n) : Upper n k (swapR k p M) := by
  refine ⟨fun i j hi hj hji => ?_, fun i hi => ?_⟩
  · unfold swapR
    by_cases e1 : i = k
    · rw [if_pos e1]; exact h.1 p j hp hj (by omega)
    · rw [if_neg e1]
      by_cases e2 : i = p
      · rw [if_pos e2]; exact h.1 k j (by omega) hj hj
      · rw [if_neg e2]; exact h.1 i j hi hj hji
  · unfold swapR
    rw [if_neg (by omega), if_neg (by omega)]
    exact h.2 i hi
theorem mixR_row (t k : Nat) (x y : UInt8) (M : Mx) : (fun r => if r = t then mixR t k x y M t else M r) = mixR t k x y M := by
  funext r q
  by_cases e : r = t
  · subst e; rw [if_pos rfl]
  · rw [if_neg e]; unfold mixR; rw [if_neg e]
def Elim (n k i : Nat) (A M : Mx) : Prop := SameKer n A M ∧ Upper n k M ∧ M k k ≠ 0 ∧ ∀ r, k < r → r < i → M r k = 0
theorem Elim.step {n k i : Nat} {A M : Mx} (h : Elim n k i A M) (hk : k < i) (hi : i < n) : Elim n k (i + 1) A (mixR i k (M k k) (M i k) M) := by
  obtain ⟨h1, h2, h3, h4⟩ := h
  refine ⟨h1.mix hi (by omega) (by omega) h3, ⟨fun r j hr hj hjr => ?_, fun r hr => ?_⟩, ?_, fun r hr hri => ?_⟩
  · unfold mixR
    by_cases e : r = i
    · rw [if_pos e, ← e, h2.1 r j hr hj hjr, h2.1 k j (by omega) hj hj, gmul_zero_l, gmul_zero_l]; rfl
    · rw [if_neg e]; exact h2.1 r j hr hj hjr
  · unfold mixR
    rw [if_neg (by omega)]
    exact h2.2 r hr
  · unfold mixR
    rw [if_neg (by omega)]
    exact h3
  · unfold mixR
    by_cases e : r = i
    · rw [if_pos e, gmul_comm, xx]
    · rw [if_neg e]; exact h4 r hr (by omega)
theorem Elim.done {n k : Nat} {A M : Mx} (h : Elim n k n A M) (hk : k < n) : SameKer n A M ∧ Upper n (k + 1) M := by
  obtain ⟨h1, h2, h3, h4⟩ := h
  refine ⟨h1, fun i j hi hj hji => ?_, fun i hi => ?_⟩
  · by_cases e : j = k
    · subst e; exact h4 i hji hi
    · exact h2.1 i j hi (by omega) hji
  · by_cases e : i = k
    · subst e; exact h3
    · exact h2.2 i (by omega)
def RFull (n base : Nat) (A : Mx) (w : World) (e : Ending) (w' : World) : Prop := ∃ b : Bool, e = .returned (.bool b) ∧ (b = true → NoKer n A) ∧ (b = false → HasKer n A) ∧ Below base w w'
theorem AT.putRow {w : World} {base g n c : Nat} {L : List (List UInt8)} (h : AT w base (.slice (some ⟨g, 0, none⟩) n c) L) (hn : 0 < n) {A2 : Option Addr} {c2 : Nat} {l2 : List UInt8} (hh : RowOk w base A2 c2 l2) (i : Nat) (u : Value) : RowOk (w.setCell ⟨g, i, none⟩ u) base A2 c2 l2 := by
  have hl := h.width
  obtain ⟨rows, h1, h2, h3⟩ := h
  obtain ⟨g', c'', e, q1, q2, q3, q4, -, q6, q7, q8⟩ := row_at h1 (by omega)
  injection e with e1 e2 e3
  injection e1 with e1
  injection e1 with e1
  subst e1
  rcases hh with hh | ⟨hh, r1, r2⟩
  · refine .inl (row_keep hh (fun k hk => ?_))
    have hne := row_ne2 h1 hh (by decide) k hk
    exact blk_other (fun e => hne (by rw [e]; rfl)) i _
  · exact .inr ⟨Reads.setCell (p := ⟨g, i, none⟩) hh q3 _, r1, r2⟩
end Go.Proofs.Ytdgkcgiknfjpjaa
