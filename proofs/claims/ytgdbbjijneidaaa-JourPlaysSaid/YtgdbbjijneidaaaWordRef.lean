/- The reference of word. -/
import Derived.Test.YtgdbbjijneidaaaWordGet
import Derived.Deep.DeepCutAuto
namespace Go.Proofs.Ytgdbbjijneidaaa
set_option linter.unusedVariables false
open Go Go.RowKit

theorem shr_nat (n i : Nat) : (n : Int) / 2 ^ (7 * i) = ((n / 2 ^ (7 * i) : Nat) : Int) := by
  have : ((2 : Int) ^ (7 * i)) = ((2 ^ (7 * i) : Nat) : Int) := by simp
  rw [this]; rfl
@[go_sem] theorem u8_wrapModAdd (k : Nat) : IntKind.u8.wrap ((k : Int) % 128 + 128) = U (UInt8.ofNat (k % 128 + 128)) := by
  rw [IntKind.wrap_u8]; unfold U; rw [UInt8.toNat_ofNat']; omega
set_option maxHeartbeats 1000000 in
set_option maxRecDepth 10000 in
theorem rput_any (A : Option Addr) (k c : Nat) (l : List UInt8) (hk : l.length = k) (n : Int) (h0 : -9223372036854775808 ≤ n) (h1 : n ≤ 9223372036854775807) (hl : k ≤ 140737488355300) (w : World) (hr : Rd w w.heap.size A l) :
    Calls Try.prog 47 #[.slice A k c, .int .i64 n] w fun e w' => ∃ v', e = .returned v' ∧ OB w' w.heap.size v' (l ++ enc n.toNat) ∧ Below w.heap.size w w' := by
  obtain ⟨m, hm, hme, hcase⟩ : ∃ m : Nat, m ≤ 9223372036854775807 ∧ n.toNat = m ∧ ((n < 0 ∧ m = 0) ∨ (0 ≤ n ∧ n = m)) := ⟨n.toNat, by omega, rfl, by omega⟩
  rw [hme]
  clear hme
  have ho := Lib.hid (OB.empty w w.heap.size (Nat.le_refl _))
  have hrw := Lib.hid (hr.alloc (Nat.le_refl _) (.cells #[] 5))
  replace hk := Lib.hid hk
  clear hr
  replace hcase := Lib.hid hcase
  go_enter Try.func47, Try.ntmps47
  go_upto_if 10 with (fail)
  go_cut [1] (fun v wx => v = .int .i64 m ∧ w = wx)
  case first =>
    rcases hcase.out with ⟨hn, rfl⟩ | ⟨hn, rfl⟩
    · go_wp2
      go_meet
      exact ⟨rfl, rfl⟩
    · go_wp2
      go_meet
      exact ⟨rfl, rfl⟩
  case rest =>
    obtain ⟨rfl, rfl⟩ := hcut
    clear hcase
    go_wp2
    go_loop [5] (fun i => ∃ j : Nat, i = .int .i64 j ∧ 1 ≤ j ∧ j ≤ 9 ∧ Hid (j = 1 ∨ 0 < m / 2 ^ (7 * (j - 1)))) (fun i => 9 - (intOf i).toNat)
    case atStart => exact ⟨1, rfl, by omega, by omega, .inl rfl⟩
    case round =>
      obtain ⟨j, rfl, hj1, hj9, hjl⟩ := hrel
      by_cases hlt : j < 9 ∧ 0 < m / 2 ^ (7 * j)
      · obtain ⟨hlt, hp⟩ := hlt
        have hpi : (0 : Int) < (m : Int) / 2 ^ (7 * j) := by rw [shr_nat]; exact Int.natCast_pos.mpr hp
        go_wp2
        go_round
        case rel => exact ⟨j + 1, by go_num, by omega, by omega, .inr (by simpa using hp)⟩
        case measure => simp [intOf]; omega
      · have h90 : j = 9 ∨ m / 2 ^ (7 * j) = 0 := by
          by_cases h9 : j < 9
          · exact .inr (Nat.eq_zero_of_not_pos fun h => hlt ⟨h9, h⟩)
          · exact .inl (by omega)
        have hrb := rb_enc m j hm hj1 hj9 h90 hjl.out
        have hend : j = 9 ∨ (j < 9 ∧ (m : Int) / 2 ^ (7 * j) ≤ 0) := by
          by_cases h9 : j < 9
          · refine .inr ⟨h9, ?_⟩
            have h0 : m / 2 ^ (7 * j) = 0 := h90.resolve_left (by omega)
            rw [shr_nat, h0]; exact Int.le_refl _
          · exact .inl (by omega)
        clear hlt h90
        replace hrb := Lib.hid hrb
        have hrl := Lib.hid (rb_length m j)
        rcases hend with hj | ⟨hj, hp⟩
        all_goals
          go_wp2_with (at_builtin; go_must (refine wpl_append rfl (.tmp 23) (.tmp 24) rfl w.heap.size (.slice (some ⟨w.heap.size, 0, none⟩) 0 0) [] rfl ho.out w.heap.size A c l (by rw [hk.out]; rfl) hrw.out (by simp; rw [hk.out]; omega) (by simp) ?_); intro v1 w1 hown1 hg1 _)
          have hb1 := below_app ho.out ((Below.refl w.heap.size w).alloc (Nat.le_refl _) _) (by simp) hg1
          rw [List.nil_append] at hown1
          have hz := hb1.size
          clear hg1
          go_loopw [6, 7] (fun v i wr => ∃ k : Nat, i = .int .i64 k ∧ k ≤ j ∧ OB wr w.heap.size v (l ++ rb m j k) ∧ Below w.heap.size w wr) (fun _ i _ => j - (intOf i).toNat)
          case atStart => exact ⟨0, rfl, Nat.zero_le _, by simpa [rb] using hown1, hb1⟩
          case round =>
            obtain ⟨k, rfl, hkj, hown, hbw⟩ := hrel
            have hzr := hbw.size
            by_cases hlt : k < j
            · have hrs : rb m j (k + 1) = rb m j k ++ [if k + 1 < j then UInt8.ofNat (m / 2 ^ (7 * k) % 128 + 128) else UInt8.ofNat (m / 2 ^ (7 * k) % 128)] := rfl
              have hqq := shr_nat m k
              have hrk := hrl.out k
              have hkl := hk.out
              generalize m / 2 ^ (7 * k) = q at *
              have hlen : (l ++ rb m j k).length ≤ 140737488355320 := by rw [List.length_append, hkl, hrk]; omega
              replace hrk := Lib.hid hrk
              replace hkl := Lib.hid hkl
              generalize hM : rb m j k = M at *
              replace hM := Lib.hid hM
              by_cases hk1 : k + 1 < j
              · rw [if_pos hk1, UInt8.ofNat_add] at hrs
                replace hrs := Lib.hid hrs
                go_wp2_with (at_builtin; go_must (refine wpl_append rfl (.tmp 43) (.tmp 46) rfl w.heap.size u6 (l ++ M) rfl (hown.alloc _) (wr.heap.size + 1) (some ⟨wr.heap.size, 0, none⟩) 1 [UInt8.ofNat (q % 128) + 128] rfl (Rd.lit _ _ _ _ rfl _ (by simp)) (by simp only [List.length_cons, List.length_nil]; omega) (by simp; omega) ?_); intro v2 w2 hown2 hg2 _)
                go_roundw
                case rel => exact ⟨k + 1, by go_num, by omega, by rw [hrs.out, ← List.append_assoc]; exact hown2, below_app (OB.alloc hown _) (hbw.alloc hzr _) (by simp; omega) hg2⟩
                case measure => simp [intOf]; omega
              · rw [if_neg hk1] at hrs
                replace hrs := Lib.hid hrs
                have hk2 : (j : Int) ≤ (k : Int) + 1 := by omega
                go_wp2_with (at_builtin; go_must (refine wpl_append rfl (.tmp 43) (.tmp 46) rfl w.heap.size u6 (l ++ M) rfl (hown.alloc _) (wr.heap.size + 1) (some ⟨wr.heap.size, 0, none⟩) 1 [UInt8.ofNat (q % 128)] rfl (Rd.lit _ _ _ _ rfl _ (by simp)) (by simp only [List.length_cons, List.length_nil]; omega) (by simp; omega) ?_); intro v2 w2 hown2 hg2 _)
                go_roundw
                case rel => exact ⟨k + 1, by go_num, by omega, by rw [hrs.out, ← List.append_assoc]; exact hown2, below_app (OB.alloc hown _) (hbw.alloc hzr _) (by simp; omega) hg2⟩
                case measure => simp [intOf]; omega
            · have hkj2 : k = j := by omega
              have hji : (j : Int) ≤ k := by omega
              have he : rb m j k = enc m := by rw [hkj2]; exact hrb.out
              rw [he] at hown
              clear he hkj2 hkj hlt
              go_wp2
              go_ret
              exact ⟨_, rfl, hown, hbw⟩

set_option maxRecDepth 4000 in
/-- a string's bytes as a new slice -/
theorem run_tobytes (w : World) (m : List UInt8) : ∃ c w', (convert 9 22 (.string (bs m))).run Try.prog w = .ok (.slice (some ⟨w.heap.size, 0, none⟩) m.length c) w' ∧ m.length ≤ c ∧
    Rd w' w'.heap.size (some ⟨w.heap.size, 0, none⟩) m ∧ Below w.heap.size w w' := by
  have h := run_bytes_of_string (P := Try.prog) w 9 22 5 (bs m) Try.underlying9 Try.underlying22 Try.underlying5
  rw [bs_size] at h
  refine ⟨_, _, h, grownCap_ge _ _ _ _, ⟨by simp, fun _ => ⟨_, rfl, by simp, fun j u hu => ?_⟩⟩, (Below.refl w.heap.size w).drew.alloc (Nat.le_refl _) _⟩
  have hj : j < m.length := by
    have := (List.getElem?_eq_some_iff.mp hu).1
    simpa using this
  rw [List.getElem?_map, List.getElem?_eq_getElem hj] at hu
  injection hu with hu
  have hadd : (⟨w.heap.size, 0, none⟩ : Addr).add j = ⟨w.heap.size, j, none⟩ := by unfold Addr.add; split <;> simp_all
  have hblk : ∀ o : Obj, (w.drew.alloc o).heap[w.heap.size]? = some o := fun o => heap_alloc_new w.drew o
  rw [hadd, cell_of_row _ _ j _ _ _ (hblk _), bytesRow_at (bs m) _ j (by simpa [bs] using hj), ← hu]
  simp [bs, vb, U]
set_option maxRecDepth 10000 in
theorem rtextput_any (A : Option Addr) (k c : Nat) (l : List UInt8) (hk : l.length = k) (m : List UInt8) (hl : k + m.length ≤ 140737488355300) (w : World) (hr : Rd w w.heap.size A l) :
    Calls Try.prog 48 #[.slice A k c, .string (bs m)] w fun e w' => ∃ v', e = .returned v' ∧ OB w' w.heap.size v' ((l ++ enc m.length) ++ m) ∧ Below w.heap.size w w' := by
  replace hr := Lib.hid hr
  replace hk := Lib.hid hk
  have hen := Lib.hid (enc_length m.length (by omega))
  go_enter Try.func48, Try.ntmps48
  go_wp2_with fail
  refine (rput_any A k c l hk.out (m.length : Int) (by omega) (by omega) (by omega) w hr.out).mono ?_
  rintro e w1 ⟨v1, rfl, hown, hb⟩
  rw [Int.toNat_natCast] at hown
  obtain ⟨c2, w2, hcv, hc2, hR2, hb2⟩ := run_tobytes w1 m
  have hown2 := Lib.hid (hown.below hb2)
  replace hR2 := Lib.hid hR2
  have hb12 := hb.trans (hb2.mono hb.size)
  go_wp2_with (at_builtin; go_must (refine wpl_append rfl (.tmp 8) (.tmp 10) rfl w.heap.size v1 (l ++ enc m.length) rfl hown2.out w2.heap.size (some ⟨w1.heap.size, 0, none⟩) c2 m rfl hR2.out (by rw [List.length_append, hk.out]; have := hen.out; omega) hb12.size ?_); intro v3 w3 hown3 hg3 _)
  go_ret
  exact ⟨v3, rfl, hown3, below_app hown2.out hb12 hb12.size hg3⟩
end Go.Proofs.Ytgdbbjijneidaaa
