/- The laws of word: WordGets. -/
import Derived.Test.YtpenmeddbpgkmaaWordLaw5
import Derived.Test.YtpenmeddbpgkmaaWordRef3
namespace Go.Proofs.Ytpenmeddbpgkmaa
set_option linter.unusedVariables false
open Go Go.RowKit

theorem cell_eta {w : World} {a : Addr} {v0 : Value} (h0 : w.cell? a = some v0) : w.cell? ⟨a.block, a.off, none⟩ = some v0 := by
  obtain ⟨b, o, s⟩ := a
  cases s with
  | none => exact h0
  | some s =>
    unfold World.cell? at h0
    simp only [Option.isSome_some, if_true] at h0
    split at h0
    · cases h0
    · cases h0
theorem asks_at {w wr : World} {ad : Addr} {n j : Nat} {t : Nat → Bool} {z : Nat → Int} (ha : Asks w w.heap.size (some ad) n t z) (hb : Below w.heap.size w wr) (hj : j < n) :
    wr.cell? (ad.add (j * 2)) = some (.bool (t j)) ∧ wr.cell? ⟨(ad.add (j * 2)).block, (ad.add (j * 2)).off, none⟩ = some (.bool (t j)) ∧ wr.cell? ⟨(ad.add (j * 2)).block, (ad.add (j * 2)).off + 1, none⟩ = some (.int .i64 (z j)) := by
  obtain ⟨ad', e, -, hall⟩ := (ha.below hb) (by omega)
  injection e with e
  subst e
  refine ⟨(hall j hj).1, cell_eta (hall j hj).1, cell_beside1 (hall j hj).1 ?_⟩
  rw [add_of_add]
  exact (hall j hj).2.1
theorem rend_drop (b : List UInt8) (q k : Nat) (hk : b.length = k) (hq : q ≤ k) : rend (some (b.drop q)) = ((q : Int) == (k : Int)) := by
  unfold rend
  simp only
  by_cases h : q = k
  · subst h
    rw [List.drop_of_length_le (by omega)]
    simp
  · have h1 : ¬ (q : Int) = k := by omega
    rw [beq_eq_false_iff_ne.mpr h1, List.isEmpty_eq_false_iff]
    intro h2
    have h3 := congrArg List.length h2
    rw [List.length_drop, List.length_nil] at h3
    omega
set_option maxHeartbeats 4000000 in
set_option maxRecDepth 10000 in
theorem wordGets_any (A : Option Addr) (k c : Nat) (b : List UInt8) (hk : b.length = k) (hl : k ≤ 140737488355328) (hkc : k ≤ c) (A2 : Option Addr) (n c2 : Nat) (t : Nat → Bool) (z : Nat → Int) (w : World) (hr : Rd w w.heap.size A b) (ha : Asks w w.heap.size A2 n t z) :
    Calls Try.prog 12 #[.slice A k c, .slice A2 n c2] w fun e w' => e = .returned (.bool true) ∧ Below w.heap.size w w' := by
  replace hr := Lib.hid hr
  replace hk := Lib.hid hk
  replace ha := Lib.hid ha
  go_enter Try.func12, Try.ntmps12
  go_wp2_with fail
  refine (new_any A k c b hk.out hl _ hr.out).mono ?_
  rintro e w1 ⟨g, rfl, hg, hr1, hb1⟩
  replace hr1 := Lib.hid hr1
  replace hb1 := Lib.hid hb1
  go_wp2_with fail
  go_loopw [6, 7] (fun at_ i wr => ∃ (j : Nat) (st : RS), i = .int .i64 j ∧ j ≤ n ∧ Hid (Rdr wr g st) ∧ Hid (Below w.heap.size w wr) ∧ ((at_ = .int .i64 (-1) ∧ st = none) ∨ ∃ a : Nat, at_ = .int .i64 a ∧ a ≤ k ∧ st = some (b.drop a))) (fun _ i _ => n - (intOf i).toNat)
  case atStart => exact ⟨0, some b, rfl, Nat.zero_le _, hr1, hb1, .inr ⟨0, rfl, Nat.zero_le _, rfl⟩⟩
  case round =>
    obtain ⟨j, st, rfl, hjn, hrd, hb, hst⟩ := hrel
    have hneg : ((-1 : Int) == (k : Int)) = false := beq_eq_false_iff_ne.mpr (by omega)
    by_cases hlt : j < n ∧ j < 60
    · obtain ⟨hj1, hj2⟩ := hlt
      obtain ⟨ad, rfl, -, hall⟩ := ha.out (by omega)
      have hz := (hall j hj1).2.2
      clear hall
      obtain ⟨hc1, hc2, hc3⟩ := asks_at ha.out hb.out hj1
      rcases hst with ⟨rfl, rfl⟩ | ⟨a, rfl, hak, rfl⟩
      · cases ht : t j
        · rw [ht] at hc1 hc2
          go_wp2_with fail
          refine (get_any g _ (z j) hz.1 hz.2 _ hrd.out (fun l' e => by cases e)).mono ?_
          rw [show rget none (z j) = (0, none) from rfl]
          rintro e w3 ⟨rfl, hr3, hgr⟩
          have hb3 := Lib.hid (below_grown hb.out hb.out.size hgr (Nat.le_trans (Nat.le_refl _) hg))
          replace hr3 := Lib.hid hr3
          clear hgr hc1 hc2 hc3
          obtain ⟨hc1, hc2, hc3⟩ := asks_at ha.out hb3.out hj1
          rw [ht] at hc1 hc2
          go_wp2_with fail
          refine (end_any g _ _ hr3.out).mono ?_
          rw [show rend none = false from rfl]
          rintro e w4 ⟨rfl, rfl⟩
          go_wp2_with fail
          go_roundw
          case rel => exact ⟨j + 1, none, by go_num, by omega, hr3, hb3, .inl ⟨rfl, rfl⟩⟩
          case measure => simp [intOf]; omega
        · rw [ht] at hc1 hc2
          go_wp2_with fail
          refine (rtext_any g _ (z j) hz.1 hz.2 _ hrd.out (fun l' e => by cases e)).mono ?_
          rw [show rtext none (z j) = ([], none) from rfl]
          rintro e w3 ⟨rfl, hr3, hgr⟩
          have hb3 := Lib.hid (below_grown hb.out hb.out.size hgr (Nat.le_trans (Nat.le_refl _) hg))
          replace hr3 := Lib.hid hr3
          clear hgr hc1 hc2 hc3
          obtain ⟨hc1, hc2, hc3⟩ := asks_at ha.out hb3.out hj1
          rw [ht] at hc1 hc2
          go_wp2_with fail
          refine (end_any g _ _ hr3.out).mono ?_
          rw [show rend none = false from rfl]
          rintro e w4 ⟨rfl, rfl⟩
          go_wp2_with fail
          go_roundw
          case rel => exact ⟨j + 1, none, by go_num, by omega, hr3, hb3, .inl ⟨rfl, rfl⟩⟩
          case measure => simp [intOf]; omega
      · cases ht : t j
        · rw [ht] at hc1 hc2
          have hN := rnum_any A k c b hk.out hl a hak (z j) wr (hr.out.up hb.out)
          rcases rnum_cases b a (z j) (by rw [hk.out]; exact hak) with ⟨h1, h2⟩ | ⟨m, q, h1, hq, hm, h2⟩
          · rw [h1] at hN
            replace hN := Lib.hid hN
            replace h2 := Lib.hid h2
            clear h1
            go_wp2_with fail
            refine (hN.out).mono ?_
            rintro e w' ⟨rfl, rfl⟩
            go_wp2_with fail
            refine (get_any g _ (z j) hz.1 hz.2 _ hrd.out (fun l' e => by injection e with e; subst e; rw [List.length_drop]; have := hk.out; omega)).mono ?_
            rw [h2.out]
            rintro e w3 ⟨rfl, hr3, hgr⟩
            have hb3 := Lib.hid (below_grown hb.out hb.out.size hgr (Nat.le_trans (Nat.le_refl _) hg))
            replace hr3 := Lib.hid hr3
            clear hgr hc1 hc2 hc3
            obtain ⟨hc1, hc2, hc3⟩ := asks_at ha.out hb3.out hj1
            rw [ht] at hc1 hc2
            go_wp2_with fail
            refine (end_any g _ _ hr3.out).mono ?_
            rw [show rend none = false from rfl]
            rintro e w4 ⟨rfl, rfl⟩
            go_wp2_with fail
            go_roundw
            case rel => exact ⟨j + 1, none, by go_num, by omega, hr3, hb3, .inl ⟨rfl, rfl⟩⟩
            case measure => simp [intOf]; omega
          · rw [h1] at hN
            replace hN := Lib.hid hN
            replace h2 := Lib.hid h2
            clear h1
            rw [hk.out] at hq
            have hend := Lib.hid (rend_drop b q k hk.out hq)
            go_wp2_with fail
            refine (hN.out).mono ?_
            rintro e w' ⟨rfl, rfl⟩
            go_wp2_with fail
            refine (get_any g _ (z j) hz.1 hz.2 _ hrd.out (fun l' e => by injection e with e; subst e; rw [List.length_drop]; have := hk.out; omega)).mono ?_
            rw [h2.out]
            rintro e w3 ⟨rfl, hr3, hgr⟩
            have hb3 := Lib.hid (below_grown hb.out hb.out.size hgr (Nat.le_trans (Nat.le_refl _) hg))
            replace hr3 := Lib.hid hr3
            clear hgr hc1 hc2 hc3
            obtain ⟨hc1, hc2, hc3⟩ := asks_at ha.out hb3.out hj1
            rw [ht] at hc1 hc2
            go_wp2_with fail
            refine (end_any g _ _ hr3.out).mono ?_
            rw [hend.out]
            rintro e w4 ⟨rfl, rfl⟩
            go_wp2_with fail
            go_roundw
            case rel => exact ⟨j + 1, some (b.drop q), by go_num, by omega, hr3, hb3, .inr ⟨q, rfl, hq, rfl⟩⟩
            case measure => simp [intOf]; omega
        · rw [ht] at hc1 hc2
          have hW := Lib.hid (rword_any A k c b hk.out hl hkc a hak (z j) wr (hr.out.up hb.out))
          go_wp2_with fail
          refine (hW.out).mono ?_
          rintro e w' ⟨⟨s, p, rfl, hsp⟩, rfl⟩
          rcases hsp with ⟨rfl, rfl, h2⟩ | ⟨q, rfl, hq, h2⟩
          · replace h2 := Lib.hid h2
            go_wp2_with fail
            refine (rtext_any g _ (z j) hz.1 hz.2 _ hrd.out (fun l' e => by injection e with e; subst e; rw [List.length_drop]; have := hk.out; omega)).mono ?_
            rw [h2.out]
            rintro e w3 ⟨rfl, hr3, hgr⟩
            have hb3 := Lib.hid (below_grown hb.out hb.out.size hgr (Nat.le_trans (Nat.le_refl _) hg))
            replace hr3 := Lib.hid hr3
            clear hgr hc1 hc2 hc3
            obtain ⟨hc1, hc2, hc3⟩ := asks_at ha.out hb3.out hj1
            rw [ht] at hc1 hc2
            go_wp2_with fail
            refine (end_any g _ _ hr3.out).mono ?_
            rw [show rend none = false from rfl]
            rintro e w4 ⟨rfl, rfl⟩
            go_wp2_with fail
            go_roundw
            case rel => exact ⟨j + 1, none, by go_num, by omega, hr3, hb3, .inl ⟨rfl, rfl⟩⟩
            case measure => simp [intOf]; omega
          · replace h2 := Lib.hid h2
            have hend := Lib.hid (rend_drop b q k hk.out hq)
            go_wp2_with fail
            refine (rtext_any g _ (z j) hz.1 hz.2 _ hrd.out (fun l' e => by injection e with e; subst e; rw [List.length_drop]; have := hk.out; omega)).mono ?_
            rw [h2.out]
            rintro e w3 ⟨rfl, hr3, hgr⟩
            have hb3 := Lib.hid (below_grown hb.out hb.out.size hgr (Nat.le_trans (Nat.le_refl _) hg))
            replace hr3 := Lib.hid hr3
            clear hgr hc1 hc2 hc3
            obtain ⟨hc1, hc2, hc3⟩ := asks_at ha.out hb3.out hj1
            rw [ht] at hc1 hc2
            go_wp2_with fail
            refine (end_any g _ _ hr3.out).mono ?_
            rw [hend.out]
            rintro e w4 ⟨rfl, rfl⟩
            go_wp2_with fail
            go_roundw
            case rel => exact ⟨j + 1, some (b.drop q), by go_num, by omega, hr3, hb3, .inr ⟨q, rfl, hq, rfl⟩⟩
            case measure => simp [intOf]; omega
    · have hend : j = n ∨ (j < n ∧ 60 ≤ j) := by omega
      clear hlt hst
      rcases hend with rfl | ⟨h1, h2⟩
      all_goals
        go_wp2_with fail
        refine (awake_any _).mono ?_
        rintro e w5 ⟨rfl, hb5⟩
        go_wp2_with fail
        go_ret
        exact ⟨rfl, hb.out.trans (hb5.mono hb.out.size)⟩
end Go.Proofs.Ytpenmeddbpgkmaa
