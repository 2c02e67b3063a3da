/- plan: the reference's First. -/
import Derived.Test.YtpeilgeloaogfaaPl5
namespace Go.Proofs.Ytpeilgeloaogfaa
set_option linter.unusedVariables false
set_option linter.unusedSimpArgs false
open Go Go.RowKit
theorem fgT_stay (bad : List Bool) (s t : Nat) (h : (fgT bad s t).length = 8) : fgT bad s (t + 1) = fgT bad s t := by
  unfold fgT at h ⊢
  rw [List.length_map, List.length_take] at h
  rw [List.range_succ, List.filter_append, List.take_append, show 8 - ((List.range t).filter (unm bad s)).length = 0 from by omega, List.take_zero, List.append_nil]
set_option maxHeartbeats 8000000 in
set_option maxRecDepth 10000 in
theorem rfirst_any (e : En) (A : Option Addr) (n c : Nat) (hn : n ≤ 1000) (A2 : Option Addr) (n2 c2 : Nat) (bad : List Bool) (w : World) (h : Hid (Bl w A2 n2 bad)) :
    Calls Try.prog 72 #[.agg #[.string (bs e.key), .int .i64 e.gen, .int .i64 e.size, .string (bs e.sum), .slice A n c], .slice A2 n2 c2] w fun r w' => FirstPost bad (n / 10) w r w' := by
  have hb1 : Gr w (w.alloc (.cells #[.string (bs e.key), .int .i64 e.gen, .int .i64 e.size, .string (bs e.sum), .slice A n c] 79)) := (Below.refl _ _).alloc (Nat.le_refl _) _
  have x1 := heap_alloc_new w (.cells #[.string (bs e.key), .int .i64 e.gen, .int .i64 e.size, .string (bs e.sum), .slice A n c] 79)
  have h1 := Bl.gr hb1 h
  obtain ⟨G, hG⟩ : ∃ G, n / 10 = G := ⟨_, rfl⟩
  rw [hG]
  have hG100 : G ≤ 100 := by omega
  have hGn : Hid (10 * G ≤ n ∧ n < 10 * G + 10) := Lib.hid (by omega)
  replace hG := Lib.hid hG
  go_enter Try.func72, Try.ntmps72
  go_upto_region 1 with (fail)
  generalize hB1 : w.heap.size = B1 at x1 ⊢
  generalize w.alloc (.cells #[.string (bs e.key), .int .i64 e.gen, .int .i64 e.size, .string (bs e.sum), .slice A n c] 79) = w1 at x1 hb1 h1 ⊢
  replace hB1 := Lib.hid hB1
  obtain ⟨B, hB⟩ : ∃ B, w1.heap.size = B := ⟨_, rfl⟩
  have hlt1 : B1 < B := by rw [← hB]; exact (Array.getElem?_eq_some_iff.mp x1).1
  have hE : OI (w1.alloc (.cells #[] 3)) B (.slice (some ⟨w1.heap.size, 0, none⟩) 0 0) [] := World.ownsRow_made w1 #[] 0 (Nat.le_of_eq hB.symm) (by simp [maxLen]) rfl
  have hq0 : Below B w1 (w1.alloc (.cells #[] 3)) := (Below.refl _ _).alloc (Nat.le_of_eq hB.symm) _
  have hsz0 : B ≤ (w1.alloc (.cells #[] 3)).heap.size := Nat.le_trans (Nat.le_of_eq hB.symm) (by simp)
  replace hb1 := Lib.hid hb1
  replace hE := Lib.hid hE
  replace hq0 := Lib.hid hq0
  replace hsz0 := Lib.hid hsz0
  replace x1 := Lib.hid x1
  replace hB := Lib.hid hB
  go_wp2_with fail
  go_loopw [6, 7] (fun u v wr => ∃ (k : Nat) (l : List Nat) (A4 : Option Addr) (c4 : Nat), k ≤ G ∧ u = .slice A4 l.length c4 ∧ v = .int .i64 ((10 * k : Nat) : Int) ∧ Hid (l = catF bad k) ∧ Hid (∀ j, j < k → (fg bad j).length = 8) ∧ Hid (OI wr B (.slice A4 l.length c4) l) ∧ Hid (Below B w1 wr) ∧ Hid (B ≤ wr.heap.size)) (fun _ v _ => (2000 - (intOf v).toNat))
  case atStart => exact ⟨0, [], _, _, by omega, rfl, rfl, Lib.hid rfl, Lib.hid (fun j hj => absurd hj (by omega)), hE, hq0, hsz0⟩
  case round =>
    obtain ⟨k, l, A4, c4, hk, rfl, rfl, hl, hall, ho, hq, hsz⟩ := hrel
    clear hE hq0 hsz0
    obtain ⟨wo, hwo⟩ : ∃ wo, wo = wr := ⟨_, rfl⟩
    subst hwo
    obtain ⟨s, hs⟩ : ∃ s, 10 * k = s := ⟨_, rfl⟩
    rw [hs]
    have hfg : Hid (fg bad k = fgT bad s 10) := Lib.hid (by unfold fg; rw [hs])
    have cA := blk_cell (j := 4) ((hq.out.block B1 hlt1).trans x1.out) rfl
    obtain ⟨s10, hs10⟩ : ∃ x, s + 10 = x := ⟨_, rfl⟩
    have e1 : IntKind.i64.wrap ((s : Int) + 10) = (s10 : Int) := by rw [i64_wrap_idP (by omega) (by omega)]; omega
    have e1' : (s : Int) + 10 = (s10 : Int) := by omega
    have u10 := wrap64_nat s10 (by omega)
    have hll := catF_len hall.out
    rw [← hl.out] at hll
    have hl800 : l.length ≤ 1000 := by omega
    replace hll := Lib.hid hll
    by_cases hkG : k < G
    · have i1 : (s10 : Int) ≤ (n : Int) := by have := hGn.out; omega
      replace hs := Lib.hid hs
      replace hs10 := Lib.hid hs10
      have hs1000 : s ≤ 1000 := by have := hs.out; omega
      go_wp2_with fail
      clear cA
      go_loopw [6, 8, 9] (fun u v z wr => ∃ (t : Nat) (F : List Nat) (A5 : Option Addr) (c5 : Nat), t ≤ 10 ∧ u = .slice A5 (l.length + F.length) c5 ∧ v = .int .i64 F.length ∧ z = .int .i64 t ∧ F.length ≤ 8 ∧ Hid (F = fgT bad s t) ∧ Hid (OI wr B (.slice A5 (l.length + F.length) c5) (l ++ F)) ∧ Hid (Below B w1 wr) ∧ Hid (B ≤ wr.heap.size)) (fun _ _ z _ => (10 - (intOf z).toNat))
      case atStart => exact ⟨0, [], A4, c4, by omega, rfl, rfl, rfl, by decide, Lib.hid rfl, by rw [List.append_nil]; exact ho, hq, hsz⟩
      case round =>
        obtain ⟨t, F, A5, c5, ht, rfl, rfl, rfl, hF8, hF, ho, hq, hsz⟩ := hrel
        by_cases ht10 : t < 10
        · have i2 : (t : Int) < 10 := by omega
          by_cases h8 : F.length < 8
          · have i3 : (F.length : Int) < 8 := by omega
            obtain ⟨p, hp⟩ : ∃ p, s + t = p := ⟨_, rfl⟩
            have e2 : IntKind.i64.wrap ((s : Int) + (t : Int)) = (p : Int) := by rw [i64_wrap_idP (by omega) (by omega)]; omega
            have e2' : (s : Int) + (t : Int) = (p : Int) := by omega
            have hbl : Hid (Bl wr A2 n2 bad) := Bl.gr (show Gr w1 wr from by show Below w1.heap.size w1 wr; rw [hB.out]; exact hq.out) h1
            have hnext := fgT_succ bad s t (by rw [← hF.out]; exact h8)
            rw [hp, ← hF.out] at hnext
            have hp1000 : p ≤ 1000000 := by omega
            replace hp := Lib.hid hp
            go_wp2_with fail
            refine (said_any A2 n2 c2 bad p hp1000 _ hbl).mono ?_
            rintro r wr ⟨rfl, rfl⟩
            cases hm : markB bad p with
            | true =>
              rw [hm, if_pos rfl, List.append_nil] at hnext
              replace hnext := Lib.hid hnext
              replace hm := Lib.hid hm
              go_wp2_with fail
              go_roundw
              case rel => exact ⟨t + 1, F, A5, c5, by omega, rfl, rfl, by go_num, hF8, Lib.hid hnext.out.symm, ho, hq, hsz⟩
              case measure => simp [intOf]; omega
            | false =>
              rw [hm, if_neg (by decide)] at hnext
              replace hnext := Lib.hid hnext
              replace hm := Lib.hid hm
              have hlit : Hid (Reads (wr.alloc (.cells #[.int .i64 p] 3)) (wr.alloc (.cells #[.int .i64 p] 3)).heap.size 1 (some ⟨wr.heap.size, 0, none⟩) 1 (icells [p])) := Lib.hid ⟨rfl, fun _ => ⟨_, rfl, by simp, World.news_of_block (heap_alloc_new wr _)⟩⟩
              have hgr : Gr wr (wr.alloc (.cells #[.int .i64 p] 3)) := (Below.refl _ _).alloc (Nat.le_refl _) _
              have ho7 := OI.gr hgr ho
              have hq7 : Hid (Below B w1 (wr.alloc (.cells #[.int .i64 p] 3))) := Lib.hid (hq.out.trans (Below.mono hgr hsz.out))
              have hsz7 : B ≤ (wr.alloc (.cells #[.int .i64 p] 3)).heap.size := Nat.le_trans hsz.out hgr.size
              clear hgr ho hq hsz
              have hbd : (l ++ F).length + 1 ≤ 100000 := by rw [List.length_append]; omega
              go_wp2_with (at_builtin; go_must (refine wpl_appI rfl (.tmp 33) (.tmp 37) rfl B (.slice A5 (l.length + F.length) c5) (l ++ F) rfl ho7.out _ 1 _ [p] rfl hlit.out hbd hsz7 ?_); intro v8 w8 ho8 hb8; rw [List.append_assoc] at ho8; obtain ⟨A8, c8, rfl, -, -, -⟩ := ho8.form; rw [List.length_append] at ho8; replace ho8 := Lib.hid ho8; have hq8 := Lib.hid (hq7.out.trans hb8); have hsz8 := Lib.hid (Nat.le_trans hsz7 hb8.size); clear hb8)
              have hF9 : (F ++ [p]).length ≤ 8 := by rw [List.length_append, List.length_singleton]; omega
              go_roundw
              case rel => exact ⟨t + 1, F ++ [p], A8, c8, by omega, by first | rfl | (simp; done) | (congr 1; simp; omega), by first | (rw [List.length_append]; go_num) | (simp; done), by go_num, hF9, Lib.hid hnext.out.symm, ho8, hq8, hsz8⟩
              case measure => simp [intOf]; omega
          · have i3 : decide ((F.length : Int) < 8) = false := decide_eq_false (by omega)
            have i3' : ¬ ((F.length : Int) < 8) := by omega
            have hnext := Lib.hid (fgT_stay bad s t (by rw [← hF.out]; omega))
            go_wp2_with fail
            go_roundw
            case rel => exact ⟨t + 1, F, A5, c5, by omega, rfl, rfl, by go_num, hF8, Lib.hid (by rw [hnext.out]; exact hF.out), ho, hq, hsz⟩
            case measure => simp [intOf]; omega
        · obtain rfl : t = 10 := by omega
          have i2 : decide (((10 : Nat) : Int) < 10) = false := by decide
          clear ht10
          rw [← hfg.out] at hF
          by_cases h8 : F.length < 8
          · have i3 : (F.length : Int) < 8 := by omega
            have hf := Lib.hid (firstV_false (bad := bad) (G := G) hkG (by rw [← hF.out]; exact h8))
            go_wp2_with fail
            go_ret2
            unfold FirstPost
            refine ⟨none, 0, [], false, rfl, hf, Nat.le_refl _, by decide, Lib.hid ⟨rfl, fun h => absurd h (by decide)⟩, ?_⟩
            exact hb1.out.trans (by show Below w1.heap.size w1 _; rw [hB.out]; exact hq.out)
          · have i3 : decide ((F.length : Int) < 8) = false := decide_eq_false (by omega)
            have i3' : ¬ ((F.length : Int) < 8) := by omega
            have hl2 : Hid (l ++ F = catF bad (k + 1)) := Lib.hid (by rw [catF_succ, ← hl.out, ← hF.out])
            have hall2 : Hid (∀ j, j < k + 1 → (fg bad j).length = 8) := Lib.hid (fun j hj => by
              by_cases e : j = k
              · rw [e, ← hF.out]; omega
              · exact hall.out j (by omega))
            have hlen2 : Hid ((l ++ F).length = l.length + F.length) := Lib.hid (List.length_append)
            have hs2 : 10 * (k + 1) = s10 := by have := hs.out; have := hs10.out; omega
            rw [← hlen2.out] at ho
            go_wp2_with fail
            go_roundw
            case rel => exact ⟨k + 1, l ++ F, A5, c5, by omega, by rw [hlen2.out], by rw [hs2], hl2, hall2, ho, hq, hsz⟩
            case measure => simp [intOf]; omega
    · obtain rfl : k = G := by omega
      have i1 : decide ((s10 : Int) ≤ (n : Int)) = false := decide_eq_false (by have := hGn.out; omega)
      have i1' : ¬ ((s10 : Int) ≤ (n : Int)) := by have := hGn.out; omega
      clear hkG
      have hfin := Lib.hid (firstV_true hall.out hl.out)
      obtain ⟨A9, c9, e9, hc9, -, hrd9⟩ := ho.out.form
      injection e9 with e1 _ e2
      subst e1
      subst e2
      replace hrd9 := Lib.hid hrd9
      replace hs := Lib.hid hs
      replace hs10 := Lib.hid hs10
      go_wp2_with fail
      go_ret2
      unfold FirstPost
      refine ⟨_, _, l, decide (0 < l.length), ?_, hfin, hc9, hl800, hrd9, hb1.out.trans (by show Below w1.heap.size w1 _; rw [hB.out]; exact hq.out)⟩
      simp
end Go.Proofs.Ytpeilgeloaogfaa
