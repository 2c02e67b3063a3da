/- lib: LibOnce. -/
import Derived.Test.YtfjhdcppehfiiaaLr12
namespace Go.Proofs.Ytfjhdcppehfiiaa
set_option linter.unusedVariables false
set_option linter.unusedSimpArgs false
open Go Go.RowKit
theorem drive_li (lo g : Nat) (C : List Nat) (SS : List CS) (D : List Dr) (calls T : Nat) (w : World) (h : Hid (Li w lo g C SS D calls)) (hD : Hid (DOk C.length T D)) (j : Nat) (d : Dr) (hd : D[j]? = some d) : Calls Try.prog 17 #[.pointer (some ⟨g, 0, none⟩), .int .i64 j] w fun e w' => e = .returned (.tuple #[.int .i64 d.cart, .int .i64 d.pos, .bool (!d.broken)]) ∧ Below w.heap.size w w' := by
  obtain ⟨vc, vd, hl⟩ := h.out.lb
  cases hb : d.broken with
  | true =>
    obtain ⟨k1, -⟩ := hD.out.1 d (List.mem_of_getElem? hd)
    obtain ⟨k2, k3⟩ := k1 hb
    refine (drive_broken lo g vc vd C D calls w (Lib.hid hl) j d hd hb).mono ?_
    rintro e w' ⟨rfl, rfl⟩
    rw [k2, k3]
    exact ⟨rfl, Below.refl _ _⟩
  | false =>
    refine (drive_reads lo g vc vd C D calls w (Lib.hid hl) j d hd hb).mono ?_
    rintro e w' ⟨rfl, hbw⟩
    exact ⟨rfl, hbw⟩
theorem lens_li {lo g : Nat} {C : List Nat} {SS : List CS} {D : List Dr} {calls : Nat} {w : World} (h : Li w lo g C SS D calls) : C.length ≤ 32 ∧ D.length ≤ 4 := by
  obtain ⟨vc, vd, hl⟩ := h.lb
  exact ⟨hl.lc, hl.ld⟩
theorem drives_li (lo g : Nat) (C : List Nat) (SS : List CS) (D : List Dr) (calls : Nat) (w : World) (h : Hid (Li w lo g C SS D calls)) : Calls Try.prog 16 #[.pointer (some ⟨g, 0, none⟩)] w fun e w' => e = .returned (.int .i64 D.length) ∧ w' = w := by
  obtain ⟨vc, vd, hl⟩ := h.out.lb
  exact drives_any lo g vc vd C D calls w (Lib.hid hl)
theorem carts_li (lo g : Nat) (C : List Nat) (SS : List CS) (D : List Dr) (calls : Nat) (w : World) (h : Hid (Li w lo g C SS D calls)) : Calls Try.prog 8 #[.pointer (some ⟨g, 0, none⟩)] w fun e w' => e = .returned (.int .i64 C.length) ∧ w' = w := by
  obtain ⟨vc, vd, hl⟩ := h.out.lb
  exact carts_any lo g vc vd C D calls w (Lib.hid hl)
set_option maxHeartbeats 8000000 in
set_option maxRecDepth 10000 in
theorem libOnce_any (ca da : UInt8) (Q : List ActL) (v : Value) (w : World) (hv : Hid (ActsL w.heap.size Q v w)) :
    Calls Try.prog 4 #[.int .u8 (U ca), .int .u8 (U da), v] w fun e w' => e = .returned (.bool true) ∧ Below w.heap.size w w' := by
  have haft := Lib.hid (after_any ca da Q v w hv)
  obtain ⟨lo, hlo⟩ : ∃ lo, w.heap.size = lo := ⟨_, rfl⟩
  rw [hlo] at haft ⊢
  have haw : Hid (∀ x, Below lo w x → Calls Try.prog 10 #[] x fun e w' => e = .returned (.bool true) ∧ Below lo w w') := Lib.hid (fun x hx => (awake08_any x).mono (fun e w' ⟨h1, h2⟩ => ⟨h1, hx.trans (h2.mono (by rw [← hlo]; exact hx.size))⟩))
  have hlob : Hid (∀ x y, Below lo w x → Below x.heap.size x y → Below lo w y) := Lib.hid (fun x y h ht => h.trans (ht.mono (by rw [← hlo]; exact h.size)))
  replace hlo := Lib.hid hlo
  clear hv
  go_enter Try.func4, Try.ntmps4
  go_upto_region 2 with (go_at_call 7; go_must (refine haft.out.mono ?_); clear haft; rintro e w1 ⟨gl, gr, T, rfl, hT, hbt, hb1⟩)
  obtain ⟨C, SS, D, calls, C', SS', h1, h2, h3, -, -⟩ := hbt.out
  obtain ⟨hc32, hd4⟩ := lens_li h1
  obtain ⟨nC, hnC⟩ : ∃ n, C.length = n := ⟨_, rfl⟩
  obtain ⟨nD, hnD⟩ : ∃ n, D.length = n := ⟨_, rfl⟩
  rw [hnC] at hc32
  rw [hnD] at hd4
  have hD := Lib.hid h2
  have hl1 := Lib.hid h1
  have hgr1 := Lib.hid hb1
  have hdr : Hid (∀ x, Hid (Li x lo gl C SS D calls) → Calls Try.prog 16 #[.pointer (some ⟨gl, 0, none⟩)] x fun e w' => e = .returned (.int .i64 nD) ∧ w' = x) := Lib.hid (fun x hx => by have := drives_li lo gl C SS D calls x hx; rw [hnD] at this; exact this)
  have hca : Hid (∀ x, Hid (Li x lo gl C SS D calls) → Calls Try.prog 8 #[.pointer (some ⟨gl, 0, none⟩)] x fun e w' => e = .returned (.int .i64 nC) ∧ w' = x) := Lib.hid (fun x hx => by have := carts_li lo gl C SS D calls x hx; rw [hnC] at this; exact this)
  replace hnC := Lib.hid hnC
  replace hnD := Lib.hid hnD
  clear hbt h1 h2 h3 hb1 hT
  go_wp2_with fail
  go_loopw [8] (fun z wr => ∃ (i : Nat), i ≤ nD ∧ z = .int .i64 i ∧ Hid (Li wr lo gl C SS D calls) ∧ Hid (Below lo w wr)) (fun z _ => (nD - intOf z).toNat)
  case atStart => exact ⟨0, Nat.zero_le _, rfl, hl1, hgr1⟩
  case round =>
    obtain ⟨i, hi, rfl, hl, hgr⟩ := hrel
    clear hl1 hgr1
    have hd1 := Lib.hid (hdr.out _ hl)
    by_cases hlt : i < nD
    · have ii : (i : Int) < (nD : Int) := by omega
      obtain ⟨d, hd⟩ : ∃ d, D[i]? = some d := ⟨_, List.getElem?_eq_getElem (by rw [hnD.out]; exact hlt)⟩
      have hdv := Lib.hid (drive_li lo gl C SS D calls T wr hl hD i d hd)
      obtain ⟨k1, k2, k3, k4, k5, -⟩ := hD.out.1 d (List.mem_of_getElem? hd)
      rw [hnC.out] at k3
      replace hd := Lib.hid hd
      obtain ⟨br, cv, po, na⟩ := d
      simp only at hdv k1 k2 k3 k4 k5
      replace k1 := Lib.hid k1
      replace k4 := Lib.hid k4
      go_upto_region 6 with (first
        | (go_at_call 16; go_must (refine hd1.out.mono ?_); rintro e w' ⟨rfl, hee⟩; rw [hee]; clear hee hd1)
        | (go_at_call 17; go_must (refine hdv.out.mono ?_); clear hdv; rintro e w2 ⟨rfl, hb2⟩))
      have hl2 := Lib.hid (hl.out.gr hb2)
      have hgr2 := Lib.hid (hlob.out _ _ hgr.out hb2)
      have hca2 := Lib.hid (hca.out _ hl2)
      clear hl hgr hb2
      go_cut [64] (fun z wq => z = .bool false ∧ w2 = wq)
      case first =>
        by_cases hm : cv = -1
        · have hp0 := k4.out hm
          subst hm
          subst hp0
          cases br with
          | true =>
            go_wp2_with (go_at_call 8; go_must (refine hca2.out.mono ?_); rintro e w' ⟨rfl, hee⟩; rw [hee]; clear hee)
            go_meet
            exact ⟨by first | rfl | simp [*], rfl⟩
          | false =>
            go_wp2_with (go_at_call 8; go_must (refine hca2.out.mono ?_); rintro e w' ⟨rfl, hee⟩; rw [hee]; clear hee)
            go_meet
            exact ⟨by first | rfl | simp [*], rfl⟩
        · obtain rfl : br = false := by
            cases br with
            | false => rfl
            | true => exact absurd (k1.out rfl).1 hm
          have hmb : (cv == -1) = false := beq_false_of_ne hm
          go_wp2_with (go_at_call 8; go_must (refine hca2.out.mono ?_); rintro e w' ⟨rfl, hee⟩; rw [hee]; clear hee)
          go_meet
          exact ⟨by first | rfl | simp [*], rfl⟩
      case rest =>
        obtain ⟨rfl, rfl⟩ := hcut
        go_wp2_with fail
        go_loopw [12] (fun z wr => ∃ (k : Nat), k ≤ i ∧ z = .int .i64 k ∧ Hid (Li wr lo gl C SS D calls) ∧ Hid (Below lo w wr)) (fun z _ => (i - intOf z).toNat)
        case atStart => exact ⟨0, Nat.zero_le _, rfl, hl2, hgr2⟩
        case round =>
          obtain ⟨k, hk, rfl, hl, hgr⟩ := hrel
          clear hl2 hgr2 hca2
          by_cases hkt : k < i
          · have kk : (k : Int) < (i : Int) := by omega
            obtain ⟨d2, hd2⟩ : ∃ d, D[k]? = some d := ⟨_, List.getElem?_eq_getElem (by rw [hnD.out]; omega)⟩
            have hdv := Lib.hid (drive_li lo gl C SS D calls T wr hl hD k d2 hd2)
            have hun := hD.out.2 k i d2 _ (by omega) hd2 hd.out
            obtain ⟨br2, cv2, po2, na2⟩ := d2
            simp only at hdv hun
            obtain ⟨d0, hd0⟩ : ∃ d0, d0 = (cv2 == cv) := ⟨_, rfl⟩
            have hun' : d0 = true → cv = -1 := fun h => by
              rw [hd0] at h
              have := eq_of_beq h
              rw [← this]; exact hun this
            replace hun' := Lib.hid hun'
            replace hd2 := Lib.hid hd2
            have hd0' := hd0.symm
            replace hd0 := Lib.hid hd0
            clear hun
            go_upto_region 12 with (go_at_call 17; go_must (refine hdv.out.mono ?_); clear hdv; rintro e w3 ⟨rfl, hb3⟩)
            have hl3 := Lib.hid (hl.out.gr hb3)
            have hgr3 := Lib.hid (hlob.out _ _ hgr.out hb3)
            clear hl hgr hb3
            cases d0 with
            | true =>
              have hm := hun'.out rfl
              subst hm
              go_wp2_with fail
              go_roundw
              case rel => exact ⟨k + 1, by omega, by go_num, hl3, hgr3⟩
              case measure => simp [intOf]; omega
            | false =>
              go_wp2_with fail
              go_roundw
              case rel => exact ⟨k + 1, by omega, by go_num, hl3, hgr3⟩
              case measure => simp [intOf]; omega
          · obtain rfl : k = i := by omega
            go_wp2_with fail
            go_roundw
            case rel => exact ⟨k + 1, by omega, by go_num, hl, hgr⟩
            case measure => simp [intOf]; omega
    · obtain rfl : i = nD := by omega
      have hw1 := Lib.hid (haw.out _ hgr.out)
      go_wp2_with (first
        | (go_at_call 16; go_must (refine hd1.out.mono ?_); rintro e w' ⟨rfl, hee⟩; rw [hee]; clear hee hd1)
        | (go_at_call 10; go_must (refine hw1.out.mono ?_); clear hw1; rintro e w9 ⟨rfl, hb9⟩))
      go_ret
      exact ⟨rfl, hb9⟩
end Go.Proofs.Ytfjhdcppehfiiaa
