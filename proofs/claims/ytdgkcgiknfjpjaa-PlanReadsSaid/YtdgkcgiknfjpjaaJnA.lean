/- blob: Groups, Join. -/
import Derived.Test.YtdgkcgiknfjpjaaRsA2
import Derived.Test.YtdgkcgiknfjpjaaRcA
namespace Go.Proofs.Ytdgkcgiknfjpjaa
set_option linter.unusedVariables false
set_option linter.unusedSimpArgs false
open Go Go.RowKit
set_option maxHeartbeats 4000000 in
theorem bgroups_any (n : Int) (hn : R64 n) (w : World) : Calls Try.prog 14 #[.int .i64 n] w fun e w' => e = .returned (.int .i64 (groupsOf n)) ∧ w' = w := by
  go_enter Try.func14, Try.ntmps14
  go_wp2_with fail
  refine (groups_any n hn _).mono ?_
  rintro e w' ⟨rfl, rfl⟩
  go_wp2_with fail
  go_ret
  exact ⟨rfl, rfl⟩
theorem groupsOf_bd (n : Int) : 0 ≤ groupsOf n ∧ groupsOf n ≤ 4 ∧ (1 ≤ groupsOf n → 0 ≤ n ∧ n ≤ 512 ∧ n ≤ 128 * groupsOf n) := by
  unfold groupsOf
  cases h : inB n 0 512 with
  | true =>
    have h2 : 0 ≤ n ∧ n ≤ 512 := by unfold inB at h; simpa using h
    rw [if_pos rfl]
    omega
  | false =>
    rw [if_neg (by decide)]
    omega
/-- are these a blob's groups? -/
def joinOk (L : List (List UInt8)) (z : Int) : Bool := decide (L ≠ []) && decide ((L.length : Int) = groupsOf z) && L.all (fun l => l.length == 128)
/-- its bytes -/
def joinV (L : List (List UInt8)) (z : Int) : List UInt8 := row z.toNat (fun i => ent L (i / 128) (i % 128))
theorem flat_row (n m : Nat) (hm : 0 < m) (D : Mx) (z : Nat) (hz : z ≤ n * m) : (flat n m D).take z = row z (fun i => D (i / m) (i % m)) := by
  refine List.ext_getElem? (fun i => ?_)
  rw [List.getElem?_take]
  by_cases hi : i < z
  · rw [if_pos hi, row_get hi]
    have h1 : i / m < n := Nat.div_lt_of_lt_mul (by rw [Nat.mul_comm]; omega)
    have h2 : i % m < m := Nat.mod_lt _ hm
    have h3 := flat_get (D := D) h1 h2
    rw [show i / m * m + i % m = i from by rw [Nat.mul_comm]; exact Nat.div_add_mod i m] at h3
    exact h3
  · rw [if_neg hi, List.getElem?_eq_none (by rw [row_length]; omega)]
def JoinPost (L : List (List UInt8)) (z : Int) (w : World) (e : Ending) (w' : World) : Prop :=
  (joinOk L z = true ∧ ∃ A n c, e = .returned (.tuple #[.slice A n c, .bool true]) ∧ n ≤ 512 ∧ Hid (OB w' w.heap.size (.slice A n c) (joinV L z)) ∧ Gr w w') ∨ (joinOk L z = false ∧ e = .returned (.tuple #[.slice none 0 0, .bool false]) ∧ Gr w w')
set_option maxHeartbeats 8000000 in
set_option maxRecDepth 20000 in
theorem join_any {L : List (List UInt8)} {v : Value} (z : Int) (hz : R64 z) (w : World) (hL : Hid (Tbl L v w)) : Calls Try.prog 19 #[v, .int .i64 z] w fun e w' => JoinPost L z w e w' := by
  obtain ⟨A, c, rfl, a1, a2, a3⟩ := hL.out
  have hgr := Lib.hid (bgroups_any z hz)
  have hb := groupsOf_bd z
  have hq : Hid (Gr w w) := Lib.hid (Below.refl _ _)
  have hRT := Lib.hid a3
  clear a3
  by_cases h0 : L.length = 0
  · have hj : joinOk L z = false := by unfold joinOk; rw [List.length_eq_zero_iff.mp h0]; rfl
    rw [h0]
    replace hj := Lib.hid hj
    go_enter Try.func19, Try.ntmps19
    go_wp2_with fail
    go_ret2
    unfold JoinPost
    exact .inr ⟨hj.out, rfl, hq.out⟩
  · have i0 : ((L.length : Int) == 0) = false := by rw [beq_eq_false_iff_ne]; omega
    obtain ⟨N, hN⟩ : ∃ N, L.length = N := ⟨_, rfl⟩
    rw [hN] at i0 a1 h0 ⊢
    obtain ⟨G, hG⟩ : ∃ G, groupsOf z = G := ⟨_, rfl⟩
    rw [hG] at hb
    have hgr2 : Hid (∀ w, Calls Try.prog 14 #[.int .i64 z] w fun e w' => e = .returned (.int .i64 G) ∧ w' = w) := Lib.hid (by rw [← hG]; exact hgr.out)
    clear hgr
    go_enter Try.func19, Try.ntmps19
    go_wp2_with fail
    refine (hgr2.out _).mono ?_
    rintro e w ⟨rfl, rfl⟩
    by_cases hNG : (N : Int) = G
    · have i1 : ((N : Int) != G) = false := by rw [hNG]; simp
      obtain rfl : G = (N : Int) := hNG.symm
      have hN4 : N ≤ 4 := by omega
      obtain ⟨hz0, hz5, hzN⟩ := hb.2.2 (by omega)
      obtain ⟨zn, rfl⟩ := Int.eq_ofNat_of_zero_le hz0
      have hzn : zn ≤ 128 * N := by omega
      have hjo : ∀ _ : (∀ r, r ∈ L → r.length = 128), joinOk L (zn : Int) = true := fun hall => by
        unfold joinOk
        rw [hG, hN, decide_eq_true rfl, decide_eq_true (by intro h; rw [h] at hN; simp at hN; omega), List.all_eq_true.mpr (fun r hr => by rw [hall r hr]; rfl)]
        rfl
      have hjn : ∀ r, r ∈ L → r.length ≠ 128 → joinOk L (zn : Int) = false := fun r hr hne => by
        unfold joinOk
        rw [Bool.and_eq_false_iff]
        refine .inr ?_
        cases h : L.all (fun l => l.length == 128) with
        | false => rfl
        | true =>
          have := List.all_eq_true.mp h r hr
          rw [beq_iff_eq] at this
          exact absurd this hne
      replace hjo := Lib.hid hjo
      replace hjn := Lib.hid hjn
      replace hG := Lib.hid hG
      replace hN := Lib.hid hN
      clear hb hgr2
      go_wp2_with fail
      go_loopw [20] (fun i wr => ∃ k : Nat, k ≤ N ∧ i = .int .i64 k ∧ Hid (∀ j r, j < k → L[j]? = some r → r.length = 128) ∧ wr = w) (fun i _ => (N - intOf i).toNat)
      case atStart => exact ⟨0, Nat.zero_le _, rfl, Lib.hid (fun j r h1 h2 => absurd h1 (by omega)), rfl⟩
      case round =>
        obtain ⟨k, hk, rfl, hall, rfl⟩ := hrel
        by_cases hkN : k < N
        · have ik : (k : Int) < (N : Int) := by omega
          rw [hN.out] at hRT
          obtain ⟨b', o', A', c', r, rfl, -, hr, hcell, hrc, -, -⟩ := hRT.out.at_ hkN
          by_cases hr128 : r.length = 128
          · have i2 : ((r.length : Int) != 128) = false := by rw [hr128]; rfl
            have hnext : Hid (∀ j r, j < k + 1 → L[j]? = some r → r.length = 128) := Lib.hid (fun j s h1 h2 => by
              by_cases e : j = k
              · subst e; rw [hr] at h2; injection h2 with h2; rw [← h2]; exact hr128
              · exact hall.out j s (by omega) h2)
            replace hr128 := Lib.hid hr128
            replace hr := Lib.hid hr
            go_wp2_with fail
            go_roundw
            case rel => exact ⟨k + 1, by omega, by go_num, hnext, by first | trivial | rfl⟩
            case measure => simp [intOf]; omega
          · have i2 : ((r.length : Int) != 128) = true := by simp; omega
            have hj := Lib.hid (hjn.out r (List.mem_of_getElem? hr) hr128)
            replace hr128 := Lib.hid hr128
            replace hr := Lib.hid hr
            go_wp2_with fail
            go_ret2
            unfold JoinPost
            exact .inr ⟨hj.out, rfl, hq.out⟩
        · obtain rfl : k = N := by omega
          have ik : decide ((k : Int) < (k : Int)) = false := decide_eq_false (by omega)
          clear hkN
          have hall2 : ∀ r, r ∈ L → r.length = 128 := fun r hr => by
            obtain ⟨j, hj⟩ := List.getElem?_of_mem hr
            exact hall.out j r (by have := (List.getElem?_eq_some_iff.mp hj).1; rw [hN.out] at this; exact this) hj
          have hj := Lib.hid (hjo.out hall2)
          have htab := tab_of hall2
          rw [hN.out] at htab
          have hT : Tbl (tabM k 128 (ent L)) (.slice A k c) wr := by
            refine ⟨A, c, by rw [tabM_length], by rw [tabM_length]; exact a1, a2, ?_⟩
            rw [tabM_length, htab, ← hN.out]
            exact hRT.out
          have hcc := Lib.hid (concat_any k 128 (ent L) (by omega) (by omega) (by decide) (by decide) wr hT)
          have hval : Hid ((flat k 128 (ent L)).take zn = joinV L (zn : Int)) := Lib.hid (flat_row k 128 (by decide) (ent L) zn (by omega))
          clear hT htab hall
          go_wp2_with fail
          refine hcc.out.mono ?_
          rintro e w1 ⟨A1, c1, rfl, ho1, hb1⟩
          obtain ⟨hrd, hc1⟩ := OB.rd ho1.out
          rw [flat_length] at hc1
          obtain ⟨K, hK⟩ : ∃ K, k * 128 = K := ⟨_, rfl⟩
          rw [hK] at hc1 ⊢
          have hfl : (flat k 128 (ent L)).length = K := by rw [flat_length, hK]
          have hzK : zn ≤ K := by omega
          have htl : ((flat k 128 (ent L)).take zn).length = zn := by rw [List.length_take, hfl]; omega
          have hcl := Lib.hid (clone_any A1 zn c1 ((flat k 128 (ent L)).take zn) htl (by omega) w1 (hrd.take zn (by rw [hfl]; exact hzK)))
          have hq1 : Hid (Gr wr w1) := Lib.hid (hq.out.trans hb1)
          have hzc : zn ≤ c1 := by omega
          replace hK := Lib.hid hK
          replace hfl := Lib.hid hfl
          replace htl := Lib.hid htl
          clear hcc ho1 hb1 hrd
          go_wp2_with fail
          refine hcl.out.mono ?_
          rintro e w2 ⟨v2, rfl, ho2, hb2⟩
          obtain ⟨A2, c2, rfl, -, -, -, -⟩ := ho2.form
          rw [htl.out] at ho2 ⊢
          rw [hval.out] at ho2
          replace ho2 := Lib.hid ho2
          have hq2 : Hid (Gr wr w2) := Lib.hid (hq1.out.trans hb2)
          clear hb2 hcl
          go_wp2_with fail
          go_ret2
          unfold JoinPost
          exact .inl ⟨hj.out, A2, zn, c2, rfl, by omega, Lib.hid (ho2.out.more (Below.size hq1.out)), hq2.out⟩
    · have i1 : ((N : Int) != G) = true := by simp [hNG]
      have hj : joinOk L z = false := by unfold joinOk; rw [hG, hN, decide_eq_false hNG]; simp
      replace hj := Lib.hid hj
      replace hNG := Lib.hid hNG
      go_wp2_with fail
      go_ret2
      unfold JoinPost
      exact .inr ⟨hj.out, rfl, hq.out⟩
end Go.Proofs.Ytdgkcgiknfjpjaa
/- blob: the reference's Groups, Join. -/
namespace Go.Proofs.Ytdgkcgiknfjpjaa
set_option linter.unusedVariables false
set_option linter.unusedSimpArgs false
open Go Go.RowKit
set_option maxHeartbeats 4000000 in
theorem r9groups_any (z : Nat) (hz : z ≤ 512) (w : World) : Calls Try.prog 39 #[.int .i64 z] w fun e w' => e = .returned (.int .i64 (groupsOf z)) ∧ w' = w := by
  have hg : groupsOf (z : Int) = ((max 1 ((z + 127) / 128) : Nat) : Int) := by
    unfold groupsOf
    rw [if_pos (by unfold inB; rw [decide_eq_true (by omega), decide_eq_true (by omega)]; rfl)]
    omega
  rw [hg]
  obtain ⟨r, hr⟩ : ∃ r, max 1 ((z + 127) / 128) = r := ⟨_, rfl⟩
  have hr2 : Hid (1 ≤ r ∧ z ≤ 128 * r ∧ (r = 1 ∨ 128 * (r - 1) < z)) := Lib.hid (by omega)
  rw [hr]
  replace hr := Lib.hid hr
  replace hg := Lib.hid hg
  go_enter Try.func39, Try.ntmps39
  go_wp2_with fail
  go_loopw [3] (fun v wr => ∃ m : Nat, 1 ≤ m ∧ m ≤ r ∧ v = .int .i64 m ∧ wr = w) (fun v _ => (r - intOf v).toNat)
  case atStart => exact ⟨1, by omega, hr2.out.1, rfl, rfl⟩
  case round =>
    obtain ⟨m, hm1, hm, rfl, rfl⟩ := hrel
    obtain ⟨q, hq⟩ : ∃ q, 128 * m = q := ⟨_, rfl⟩
    have hm5 : m ≤ 4 := by have := hr2.out; omega
    have e1 : IntKind.i64.wrap (128 * (m : Int)) = (q : Int) := by rw [i64_wrap_idP (by omega) (by omega)]; omega
    have e2 : 128 * (m : Int) = (q : Int) := by omega
    by_cases hlt : m < r
    · have i1 : (q : Int) < (z : Int) := by have := hr2.out; omega
      have i2 : (m : Int) < 5 := by omega
      replace hq := Lib.hid hq
      go_wp2_with fail
      go_roundw
      case rel => exact ⟨m + 1, by omega, by omega, by go_num, by first | trivial | rfl⟩
      case measure => simp [intOf]; omega
    · obtain rfl : m = r := by omega
      have i1 : decide ((q : Int) < (z : Int)) = false := decide_eq_false (by have := hr2.out; omega)
      have i1' : ¬ ((q : Int) < (z : Int)) := by have := hr2.out; omega
      replace hq := Lib.hid hq
      go_wp2_with fail
      go_ret
      exact ⟨rfl, rfl⟩
set_option maxHeartbeats 4000000 in
theorem r18groups_any (n : Int) (hn : R64 n) (w : World) : Calls Try.prog 15 #[.int .i64 n] w fun e w' => e = .returned (.int .i64 (groupsOf n)) ∧ w' = w := by
  by_cases h0 : n < 0
  · have hg : groupsOf n = 0 := by unfold groupsOf; rw [if_neg (by unfold inB; rw [decide_eq_false (by omega)]; simp)]
    rw [hg]
    replace hg := Lib.hid hg
    go_enter Try.func15, Try.ntmps15
    go_wp2_with fail
    go_ret
    exact ⟨rfl, rfl⟩
  · obtain ⟨k, rfl⟩ := Int.eq_ofNat_of_zero_le (show 0 ≤ n by omega)
    have i0 : ¬ ((k : Int) < 0) := h0
    by_cases h5 : 512 < k
    · have hg : groupsOf (k : Int) = 0 := by unfold groupsOf; rw [if_neg (by unfold inB; rw [decide_eq_false (p := (k : Int) ≤ 512) (by omega)]; simp)]
      rw [hg]
      have i1 : (512 : Int) < (k : Int) := by omega
      replace hg := Lib.hid hg
      go_enter Try.func15, Try.ntmps15
      go_wp2_with fail
      go_ret
      exact ⟨rfl, rfl⟩
    · have i1 : ¬ ((512 : Int) < (k : Int)) := by omega
      have i1' : (k : Int) ≤ 512 := by omega
      have hc := Lib.hid (r9groups_any k (by omega))
      generalize groupsOf (k : Int) = G at hc ⊢
      go_enter Try.func15, Try.ntmps15
      go_wp2_with fail
      refine (hc.out _).mono ?_
      rintro e w' ⟨rfl, rfl⟩
      go_wp2_with fail
      go_ret
      exact ⟨rfl, rfl⟩
end Go.Proofs.Ytdgkcgiknfjpjaa
/- blob: the reference's Join. -/
namespace Go.Proofs.Ytdgkcgiknfjpjaa
set_option linter.unusedVariables false
set_option linter.unusedSimpArgs false
open Go Go.RowKit
theorem rowJ (k : Nat) (f : Nat → UInt8) : row k f ++ [f k] = row (k + 1) f := by unfold row; rw [List.range_succ, List.map_append]; rfl
theorem wrap64_natJ (k : Nat) (h : k ≤ 9223372036854775807) : wrap64 (k : Int) = (k : Int) := by unfold wrap64; omega
set_option maxHeartbeats 8000000 in
set_option maxRecDepth 20000 in
theorem rjoin_any {L : List (List UInt8)} {v : Value} (z : Int) (hz : R64 z) (w : World) (hL : Hid (Tbl L v w)) : Calls Try.prog 20 #[v, .int .i64 z] w fun e w' => JoinPost L z w e w' := by
  obtain ⟨A, c, rfl, a1, a2, a3⟩ := hL.out
  have hgr := Lib.hid (r18groups_any z hz)
  have hb := groupsOf_bd z
  have hq : Hid (Gr w w) := Lib.hid (Below.refl _ _)
  have hRT := Lib.hid a3
  clear a3
  by_cases h0 : L.length = 0
  · have hj : joinOk L z = false := by unfold joinOk; rw [List.length_eq_zero_iff.mp h0]; rfl
    rw [h0]
    replace hj := Lib.hid hj
    go_enter Try.func20, Try.ntmps20
    go_wp2_with fail
    go_ret2
    unfold JoinPost
    exact .inr ⟨hj.out, rfl, hq.out⟩
  · have i0 : ((L.length : Int) == 0) = false := by rw [beq_eq_false_iff_ne]; omega
    obtain ⟨N, hN⟩ : ∃ N, L.length = N := ⟨_, rfl⟩
    rw [hN] at i0 a1 h0 ⊢
    obtain ⟨G, hG⟩ : ∃ G, groupsOf z = G := ⟨_, rfl⟩
    rw [hG] at hb
    have hgr2 : Hid (∀ w, Calls Try.prog 15 #[.int .i64 z] w fun e w' => e = .returned (.int .i64 G) ∧ w' = w) := Lib.hid (by rw [← hG]; exact hgr.out)
    clear hgr
    go_enter Try.func20, Try.ntmps20
    go_wp2_with fail
    refine (hgr2.out _).mono ?_
    rintro e w ⟨rfl, rfl⟩
    by_cases hNG : (N : Int) = G
    · have i1 : ((N : Int) != G) = false := by rw [hNG]; simp
      obtain rfl : G = (N : Int) := hNG.symm
      have hN4 : N ≤ 4 := by omega
      obtain ⟨hz0, hz5, hzN⟩ := hb.2.2 (by omega)
      obtain ⟨zn, rfl⟩ := Int.eq_ofNat_of_zero_le hz0
      have hzn : zn ≤ 128 * N := by omega
      have hjo : ∀ _ : (∀ r, r ∈ L → r.length = 128), joinOk L (zn : Int) = true := fun hall => by
        unfold joinOk
        rw [hG, hN, decide_eq_true rfl, decide_eq_true (by intro h; rw [h] at hN; simp at hN; omega), List.all_eq_true.mpr (fun r hr => by rw [hall r hr]; rfl)]
        rfl
      have hjn : ∀ r, r ∈ L → r.length ≠ 128 → joinOk L (zn : Int) = false := fun r hr hne => by
        unfold joinOk
        rw [Bool.and_eq_false_iff]
        refine .inr ?_
        cases h : L.all (fun l => l.length == 128) with
        | false => rfl
        | true =>
          have := List.all_eq_true.mp h r hr
          rw [beq_iff_eq] at this
          exact absurd this hne
      replace hjo := Lib.hid hjo
      replace hjn := Lib.hid hjn
      replace hG := Lib.hid hG
      replace hN := Lib.hid hN
      rw [hN.out] at hRT
      clear hb hgr2
      go_wp2_with fail
      go_loopw [6] (fun i wr => ∃ k : Nat, k ≤ N ∧ i = .int .i64 k ∧ Hid (∀ j r, j < k → L[j]? = some r → r.length = 128) ∧ wr = w) (fun i _ => (N - intOf i).toNat)
      case atStart => exact ⟨0, Nat.zero_le _, rfl, Lib.hid (fun j r h1 h2 => absurd h1 (by omega)), rfl⟩
      case round =>
        obtain ⟨k, hk, rfl, hall, rfl⟩ := hrel
        by_cases hkN : k < N
        · have ik : (k : Int) < (N : Int) := by omega
          obtain ⟨b', o', A', c', r, rfl, -, hr, hcell, hrc, -, -⟩ := hRT.out.at_ hkN
          by_cases hr128 : r.length = 128
          · have i2 : ((r.length : Int) != 128) = false := by rw [hr128]; rfl
            have hnext : Hid (∀ j r, j < k + 1 → L[j]? = some r → r.length = 128) := Lib.hid (fun j s h1 h2 => by
              by_cases e : j = k
              · subst e; rw [hr] at h2; injection h2 with h2; rw [← h2]; exact hr128
              · exact hall.out j s (by omega) h2)
            replace hr128 := Lib.hid hr128
            replace hr := Lib.hid hr
            go_wp2_with fail
            go_roundw
            case rel => exact ⟨k + 1, by omega, by go_num, hnext, by first | trivial | rfl⟩
            case measure => simp [intOf]; omega
          · have i2 : ((r.length : Int) != 128) = true := by simp; omega
            have hj := Lib.hid (hjn.out r (List.mem_of_getElem? hr) hr128)
            replace hr128 := Lib.hid hr128
            replace hr := Lib.hid hr
            go_wp2_with fail
            go_ret2
            unfold JoinPost
            exact .inr ⟨hj.out, rfl, hq.out⟩
        · obtain rfl : k = N := by omega
          have ik : decide ((k : Int) < (k : Int)) = false := decide_eq_false (by omega)
          clear hkN
          rename World => W
          have hall2 : ∀ r, r ∈ L → r.length = 128 := fun r hr => by
            obtain ⟨j, hj⟩ := List.getElem?_of_mem hr
            exact hall.out j r (by have := (List.getElem?_eq_some_iff.mp hj).1; rw [hN.out] at this; exact this) hj
          have hj := Lib.hid (hjo.out hall2)
          replace hall2 := Lib.hid hall2
          clear hall
          have hE := Lib.hid (OB.empty W W.heap.size (Nat.le_refl _))
          have hEq : Hid (Gr W (W.alloc (.cells #[] 5))) := Lib.hid ((Below.refl _ _).alloc (Nat.le_refl _) _)
          have hfin : Hid (row zn (fun i => ent L (i / 128) (i % 128)) = joinV L (zn : Int)) := Lib.hid (by unfold joinV; rw [Int.toNat_natCast])
          go_wp2_with fail
          go_loopw [7, 8] (fun u v ws => ∃ (i : Nat) (A4 : Option Addr) (c4 : Nat), i ≤ zn ∧ u = .slice A4 i c4 ∧ v = .int .i64 i ∧ Hid (OB ws W.heap.size (.slice A4 i c4) (row i (fun i => ent L (i / 128) (i % 128)))) ∧ Hid (Gr W ws)) (fun _ v _ => (zn - intOf v).toNat)
          case atStart => exact ⟨0, _, _, by omega, rfl, rfl, hE, hEq⟩
          case round =>
            obtain ⟨i, A4, c4, hi, rfl, rfl, ho, hg⟩ := hrel
            clear hE hEq
            by_cases hiz : i < zn
            · have iz : (i : Int) < (zn : Int) := by omega
              obtain ⟨q, hqq⟩ : ∃ q, i / 128 = q := ⟨_, rfl⟩
              obtain ⟨p, hpp⟩ : ∃ p, i % 128 = p := ⟨_, rfl⟩
              have hqk : q < k := by omega
              have hp128 : p < 128 := by omega
              have iq : (q : Int) < (k : Int) := by omega
              have ip : (p : Int) < 128 := by omega
              have t1 : Int.tdiv (i : Int) 128 = (q : Int) := by rw [Int.tdiv_eq_ediv_of_nonneg (by omega)]; omega
              have t2 : Int.tmod (i : Int) 128 = (p : Int) := by rw [← hpp]; exact Int.ofNat_tmod i 128
              have u1 := wrap64_natJ q (by omega)
              obtain ⟨b', o', A', c', r, rfl, -, hr, hcell, hrc, -, hrd⟩ := (RT.up hRT.out hg.out).at_ hqk
              have hr128 := hall2.out r (List.mem_of_getElem? hr)
              obtain ⟨ad, rfl, -, hbyte⟩ := hrd.at_ (k := p) (hr128 ▸ hp128)
              have hval : Hid (ent L (i / 128) (i % 128) = r[p]'(hr128 ▸ hp128)) := Lib.hid (by
                rw [hqq, hpp]
                exact ent_get hr (List.getElem?_eq_getElem (hr128 ▸ hp128)))
              rw [hr128] at hcell
              generalize r[p]'(hr128 ▸ hp128) = y at hbyte hval
              replace hr := Lib.hid hr
              replace hr128 := Lib.hid hr128
              replace hrd := Lib.hid hrd
              replace hqq := Lib.hid hqq
              replace hpp := Lib.hid hpp
              have hrow := Lib.hid (rowJ i (fun i => ent L (i / 128) (i % 128)))
              replace hrow : Hid (row i (fun i => ent L (i / 128) (i % 128)) ++ [y] = row (i + 1) (fun i => ent L (i / 128) (i % 128))) := Lib.hid (by rw [← hval.out]; exact hrow.out)
              have hlit := Lib.hid (Rd.lit wr #[.int .u8 (U y)] 5 [y] rfl ((wr.alloc (.cells #[.int .u8 (U y)] 5)).heap.size) (by simp))
              have ho7 := Lib.hid (ho.out.alloc (.cells #[.int .u8 (U y)] 5))
              have hq7 : Hid (Below W.heap.size W (wr.alloc (.cells #[.int .u8 (U y)] 5))) := Lib.hid (Below.alloc hg.out (Below.size hg.out) _)
              have hbd : Hid ((row i (fun i => ent L (i / 128) (i % 128))).length + 1 ≤ 140737488355328) := Lib.hid (by rw [row_length]; clear t1 t2 u1; omega)
              have hrl := Lib.hid (row_length i (fun i => ent L (i / 128) (i % 128)))
              generalize hrr : row i (fun i => ent L (i / 128) (i % 128)) = rr at ho ho7 hrow hbd hrl
              replace hrr := Lib.hid hrr
              go_wp2_with (at_builtin; go_must (refine wpl_append rfl (.tmp 37) (.tmp 47) rfl W.heap.size (.slice A4 i c4) rr rfl ho7.out _ _ 1 [y] rfl hlit.out hbd.out hq7.out.size ?_); intro v8 w8 ho8 hg8 _; have hq8 := Lib.hid (hq7.out.grown hg8 hq7.out.size ho7.out.up); rw [hrow.out] at ho8; obtain ⟨A8, c8, rfl, -, -, -, -⟩ := ho8.form; rw [row_length] at ho8 ⊢; replace ho8 := Lib.hid ho8; clear hg8)
              go_roundw
              case rel => exact ⟨i + 1, A8, c8, by omega, rfl, by go_num, ho8, hq8⟩
              case measure => simp [intOf]; omega
            · obtain rfl : i = zn := by omega
              have iz : decide ((i : Int) < (i : Int)) = false := decide_eq_false (by omega)
              go_wp2_with fail
              go_ret2
              unfold JoinPost
              exact .inl ⟨hj.out, A4, i, c4, rfl, by omega, Lib.hid (hfin.out ▸ ho.out), hg.out⟩
    · have i1 : ((N : Int) != G) = true := by simp [hNG]
      have hj : joinOk L z = false := by unfold joinOk; rw [hG, hN, decide_eq_false hNG]; simp
      replace hj := Lib.hid hj
      replace hNG := Lib.hid hNG
      go_wp2_with fail
      go_ret2
      unfold JoinPost
      exact .inr ⟨hj.out, rfl, hq.out⟩
end Go.Proofs.Ytdgkcgiknfjpjaa
