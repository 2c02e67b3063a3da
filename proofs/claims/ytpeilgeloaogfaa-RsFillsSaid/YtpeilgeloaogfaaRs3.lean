/- rs: Fill, groups of bytes, what the shards determine. -/
import Derived.Test.YtpeilgeloaogfaaRs2
namespace Go.Proofs.Ytpeilgeloaogfaa
set_option linter.unusedVariables false
set_option linter.unusedSimpArgs false
open Go Go.RowKit
theorem flat_get {n m : Nat} {D : Mx} {i j : Nat} (hi : i < n) (hj : j < m) : (flat n m D)[i * m + j]? = some (D i j) := by
  induction n with
  | zero => omega
  | succ n ih =>
    rw [flat_succ]
    by_cases e : i < n
    · have h1 : i * m + j < (flat n m D).length := by
        rw [flat_length]
        have := Nat.mul_le_mul_right m (show i + 1 ≤ n by omega)
        rw [Nat.succ_mul] at this
        omega
      rw [List.getElem?_append_left h1]
      exact ih e
    · obtain rfl : i = n := by omega
      rw [List.getElem?_append_right (by rw [flat_length]; omega), flat_length, Nat.add_sub_cancel_left]
      exact row_get hj _
theorem part_flat {n m : Nat} {D : Mx} : EqM n m (partM m (flat n m D)) D := fun i j hi hj => by
  unfold partM
  rw [List.getD_eq_getElem?_getD, flat_get hi hj]; rfl
theorem flat_part {n m : Nat} (hm : 0 < m) {l : List UInt8} (hl : l.length = n * m) : flat n m (partM m l) = l := by
  refine List.ext_getElem? fun k => ?_
  by_cases hk : k < n * m
  · have e : k / m * m + k % m = k := by rw [Nat.mul_comm]; exact Nat.div_add_mod k m
    have h1 := flat_get (n := n) (D := partM m l) (i := k / m) (j := k % m) (Nat.div_lt_of_lt_mul (by rw [Nat.mul_comm]; exact hk)) (Nat.mod_lt _ hm)
    rw [e] at h1
    rw [h1]
    unfold partM
    rw [e, List.getD_eq_getElem?_getD, List.getElem?_eq_getElem (by omega)]
    rfl
  · rw [List.getElem?_eq_none (by rw [flat_length]; omega), List.getElem?_eq_none (by omega)]
theorem flat_congr {n m : Nat} {D D' : Mx} (h : EqM n m D D') : flat n m D = flat n m D' := by
  induction n with
  | zero => rfl
  | succ n ih => rw [flat_succ, flat_succ, ih (fun i j hi hj => h i j (by omega) hj), row_congr (fun j hj => h n j (by omega) hj)]
/-- the ten shards of eight parts -/
def encD (D : Mx) : Mx := mm 8 (codeE 8) D
theorem encM_eq (l : List UInt8) : encM l = encD (partM 16 l) := rfl
theorem encD_congr {D D' : Mx} (h : EqM 8 16 D D') : EqM 10 16 (encD D) (encD D') := fun i j hi hj => mm_congr (fun _ _ => rfl) (fun k hk => h k j hk hj)
theorem encD_low {D : Mx} {i : Nat} (hi : i < 8) (j : Nat) : encD D i j = D i j := by
  unfold encD
  rw [mm_congr (A' := idM) (B' := D) (fun k hk => codeE_id hi) (fun _ _ => rfl), mm_id_l hi]
def Solves2 (L : List (List UInt8)) (is : List Nat) (D : Mx) : Prop := ∀ i j, i < 8 → j < 16 → encD D (is.getD i 0) j = ent L (is.getD i 0) j
/-- eight rows determine the parts -/
theorem solve_one {is : List Nat} (hnd : is.Nodup) (hl : is.length = 8) (hlt : ∀ r, r ∈ is → r < 10) {m : Nat} {D D' : Mx} (h : ∀ i j, i < 8 → j < m → encD D (is.getD i 0) j = encD D' (is.getD i 0) j) : EqM 8 m D D' := fun i j hi hj => by
  have hno := pick_noKer 8 10 (by decide) (by decide) is hnd hl hlt
  have h1 := hno (fun k => D k j ^^^ D' k j) (fun r hr => by
    have e : mv 8 (fun i j => codeE 8 (is.getD i 0) j) (fun k => D k j ^^^ D' k j) r = encD D (is.getD r 0) j ^^^ encD D' (is.getD r 0) j := by
      unfold mv encD mm
      rw [← gsum_xor]
      exact gsum_congr (fun k _ => gmul_xor_r _ _ _)
    rw [e, h r j hr hj, xx]) i hi
  exact xeq h1
theorem pidx8 {L : List (List UInt8)} (h8 : 8 ≤ (pidx L 10).length) : ((pidx L 10).take 8).Nodup ∧ ((pidx L 10).take 8).length = 8 ∧ ∀ r, r ∈ (pidx L 10).take 8 → r < 10 ∧ 0 < (L.getD r []).length :=
  ⟨(pidx_nodup L 10).sublist (List.take_sublist _ _), by rw [List.length_take]; omega, fun r hr => pidx_lt (List.mem_of_mem_take hr)⟩
theorem solves_unique {L : List (List UInt8)} (h8 : 8 ≤ (pidx L 10).length) {D D' : Mx} (h : Solves L D) (h' : Solves L D') : EqM 8 16 D D' := by
  obtain ⟨h1, h2, h3⟩ := pidx8 h8
  exact solve_one h1 h2 (fun r hr => (h3 r hr).1) (fun i j hi hj => (h i j hi hj).trans (h' i j hi hj).symm)
/-! ### Fill -/
def RFill (L : List (List UInt8)) (w : World) (e : Ending) (w' : World) : Prop := Gr w w' ∧
  ((shardsOk L ∧ 8 ≤ (pidx L 10).length ∧ ∃ g G C D, e = .returned (.tuple #[.slice (some ⟨g, 0, none⟩) 10 10, .int .i64 0]) ∧ TB w' w.heap.size g 10 16 G C (encD D) ∧ Solves L D) ∨
   (shardsOk L ∧ (pidx L 10).length < 8 ∧ e = .returned (.tuple #[.slice none 0 0, .int .i64 9])) ∨
   (¬ shardsOk L ∧ e = .returned (.tuple #[.slice none 0 0, .int .i64 1])))
set_option maxHeartbeats 16000000 in
set_option maxRecDepth 20000 in
theorem rsfill_any {L : List (List UInt8)} {v : Value} (hL10 : L.length = 10) (w : World) (hL : Hid (Tbl L v w)) :
    Calls Try.prog 46 #[v] w (RFill L w) := by
  have hd := Lib.hid (rsdec_any hL10 w hL)
  clear hL10 hL
  go_enter Try.func46, Try.ntmps46
  go_wp2_with fail
  refine hd.out.mono ?_
  rintro e w1 ⟨hr, ⟨h1, h2, A, c, D, rfl, h3, h4⟩ | ⟨h1, h2, rfl⟩ | ⟨h1, rfl⟩⟩
  · obtain ⟨A9, c9, e9, k1, k2, k3, -⟩ := h3.out.form
    injection e9 with e91 e92 e93
    rw [flat_length] at k1 e92
    subst e91 e93
    have henc := Lib.hid (rsenc_ok A c (flat 8 16 D) k1 k2 (flat_length _ _ _) w1 k3)
    replace hr := Lib.hid hr
    replace h1 := Lib.hid h1
    replace h2 := Lib.hid h2
    replace h4 := Lib.hid h4
    clear hd h3 k1 k2 k3 e92
    go_wp2_with fail
    refine henc.out.mono ?_
    rintro e w2 ⟨g, G, C, rfl, ht, hr2⟩
    have ht2 : Hid (TB w2 w.heap.size g 10 16 G C (encD D)) := Lib.hid ((ht.congr (fun i j hi hj => by
      rw [encM_eq]
      exact (encD_congr (part_flat (n := 8) (m := 16)) i j hi hj).symm)).more hr.out.size)
    replace hr := Gr.go hr hr2
    clear henc ht hr2
    go_wp2_with fail
    go_ret2
    exact ⟨hr.out, .inl ⟨h1.out, h2.out, g, G, C, D, rfl, ht2.out, h4.out⟩⟩
  · replace hr := Lib.hid hr
    replace h1 := Lib.hid h1
    replace h2 := Lib.hid h2
    clear hd
    go_wp2_with fail
    go_ret2
    exact ⟨hr.out, .inr (.inl ⟨h1.out, h2.out, rfl⟩)⟩
  · replace hr := Lib.hid hr
    replace h1 := Lib.hid h1
    clear hd
    go_wp2_with fail
    go_ret2
    exact ⟨hr.out, .inr (.inr ⟨h1.out, rfl⟩)⟩
/-! ### group -/
def grp (l : List UInt8) : List UInt8 := row 128 (fun j => l.getD j 0)
def grpTo (l : List UInt8) (k : Nat) : List UInt8 := row 128 (fun j => if j < k then l.getD j 0 else 0)
set_option maxHeartbeats 16000000 in
set_option maxRecDepth 20000 in
theorem group_any (A : Option Addr) (n c : Nat) (l : List UInt8) (hl : l.length = n) (hc : n ≤ c) (hcm : c ≤ 9223372036854775807) (w : World) (h : Rd w w.heap.size A l) :
    Calls Try.prog 42 #[.slice A n c] w fun e w' => ∃ A' c', e = .returned (.slice A' 128 c') ∧ Hid (OB w' w.heap.size (.slice A' 128 c') (grp l)) ∧ Gr w w' := by
  have hrd := Lib.hid h
  have hlh := Lib.hid hl
  clear h hl
  go_enter Try.func42, Try.ntmps42
  go_wp2_with (refine wpl_make rfl (.const (.int .i64 128)) (.const (.int .i64 128)) rfl w.heap.size 128 rfl rfl (by omega) (Nat.le_refl _) ?_; intro w1 ho1 hb1; replace ho1 := Lib.hid ho1; replace hb1 := Lib.hid hb1)
  have hg0 : Hid (OB w1 w.heap.size (.slice (some ⟨w.heap.size, 0, none⟩) 128 128) (grpTo l 0)) := Lib.hid (by
    have e : grpTo l 0 = List.replicate 128 0 := by
      unfold grpTo
      rw [← row_zero]
      exact row_congr (fun j _ => if_neg (by omega))
    rw [e]; exact ho1.out)
  clear ho1
  go_loopw [4] (fun i wr => ∃ k : Nat, k ≤ 128 ∧ k ≤ n ∧ i = .int .i64 k ∧ Hid (OB wr w.heap.size (.slice (some ⟨w.heap.size, 0, none⟩) 128 128) (grpTo l k)) ∧ Hid (Below w.heap.size w wr)) (fun i _ => 128 - (intOf i).toNat)
  case atStart => exact ⟨0, by omega, Nat.zero_le _, rfl, hg0, hb1⟩
  case round =>
    obtain ⟨k, hk, hkn, rfl, ho, hb⟩ := hrel
    clear hg0 hb1
    by_cases hlt : k < n ∧ k < 128
    · have i1 : (k : Int) < (n : Int) := by omega
      have i2 : (k : Int) < 128 := by omega
      have hkl : k < l.length := by have := hlh.out; omega
      obtain ⟨ad, rfl, hadb, hc1⟩ := ((hrd.out.below hb.out).more hb.out.size).get (List.getElem?_eq_getElem hkl)
      obtain ⟨x, hx⟩ : ∃ x, l[k] = x := ⟨_, rfl⟩
      rw [hx] at hc1
      obtain ⟨g5, eg5, hg5, hg5', hc5, hf5, hst5⟩ := ho.out.store (k := k) (by unfold grpTo; rw [row_length]; omega)
      injection eg5 with eg5
      injection eg5 with eg5
      subst eg5
      have hnew : Hid (OB (wr.setCell ⟨w.heap.size, k, none⟩ (.int .u8 (U x))) w.heap.size (.slice (some ⟨w.heap.size, 0, none⟩) 128 128) (grpTo l (k + 1))) := Lib.hid (by
        have e : (grpTo l k).set k x = grpTo l (k + 1) := by
          unfold grpTo
          rw [row_set]
          refine row_congr (fun j _ => ?_)
          by_cases e : j = k
          · subst e; rw [if_pos rfl, if_pos (by omega), List.getD_eq_getElem?_getD, List.getElem?_eq_getElem hkl, ← hx]; rfl
          · by_cases e2 : j < k
            · rw [if_neg e, if_pos e2, if_pos (by omega)]
            · rw [if_neg e, if_neg e2, if_neg (by omega)]
        rw [← e]; exact hst5 x)
      have hbn : Hid (Below w.heap.size w (wr.setCell ⟨w.heap.size, k, none⟩ (.int .u8 (U x)))) := Lib.hid (hb.out.setCell (p := ⟨w.heap.size, k, none⟩) (Nat.le_refl _) _)
      replace hx := Lib.hid hx
      clear hst5
      replace hkl := Lib.hid hkl
      go_wp2_with fail
      go_roundw
      case rel => first | exact ⟨k + 1, by omega, by omega, by go_num, hnew, hbn⟩ | ((repeat apply Exists.intro); exact ⟨⟨k + 1, by omega, by omega, by go_num, hnew, hbn⟩, rfl⟩)
      case measure => simp [intOf]; omega
    · have hfin : Hid (OB wr w.heap.size (.slice (some ⟨w.heap.size, 0, none⟩) 128 128) (grp l)) := Lib.hid (by
        have e : grpTo l k = grp l := by
          unfold grpTo grp
          refine row_congr (fun j hj => ?_)
          by_cases e : j < k
          · rw [if_pos e]
          · rw [if_neg e, List.getD_eq_getElem?_getD, List.getElem?_eq_none (by have := hlh.out; omega)]; rfl
        rw [← e]; exact ho.out)
      by_cases h1 : k < n
      · have i1 : (k : Int) < (n : Int) := by omega
        have i2 : decide ((k : Int) < 128) = false := decide_eq_false (by omega)
        replace hlt := Lib.hid hlt
        go_wp2_with fail
        go_ret
        exact ⟨_, _, rfl, hfin, hb.out⟩
      · have i1 : decide ((k : Int) < (n : Int)) = false := decide_eq_false (by omega)
        replace hlt := Lib.hid hlt
        go_wp2_with fail
        go_ret
        exact ⟨_, _, rfl, hfin, hb.out⟩
theorem grp_length (l : List UInt8) : (grp l).length = 128 := row_length _ _
end Go.Proofs.Ytpeilgeloaogfaa
