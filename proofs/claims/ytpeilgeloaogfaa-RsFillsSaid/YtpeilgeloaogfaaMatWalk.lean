/- Walks of mat: isMatrix, addMultiple, scale, codeElement. -/
import Derived.Test.YtpeilgeloaogfaaTb
import Derived.Test.YtpeilgeloaogfaaGfWalk
import Derived.Test.YtpeilgeloaogfaaBlk
import Derived.LoopTactic
import Derived.Deep.QuietTactic
import Derived.BigQuiet
namespace Go.Proofs.Ytpeilgeloaogfaa
set_option linter.unusedVariables false
set_option linter.unusedSimpArgs false
open Go Go.RowKit
theorem isTab_no {L : List (List UInt8)} {r : List UInt8} (hr : r ∈ L) (hn : r.length ≠ width L) : isTab L = false := by
  cases h : isTab L with
  | false => rfl
  | true => exact absurd ((isTab_iff.mp h).2.2.2.2 r hr) hn
theorem isTab_of {L : List (List UInt8)} {n m : Nat} (hn : L.length = n) (hm : width L = m) (h : ¬ (1 ≤ n ∧ n ≤ 32 ∧ 1 ≤ m ∧ m ≤ 32)) : isTab L = false := by
  cases ht : isTab L with
  | false => rfl
  | true => exact absurd (by have := isTab_iff.mp ht; omega) h
theorem width_get {L : List (List UInt8)} {l : List UInt8} (h : L[0]? = some l) : width L = l.length := by
  cases L with
  | nil => simp at h
  | cons a t => simp at h; subst h; rfl
set_option maxHeartbeats 4000000 in
set_option maxRecDepth 10000 in
theorem isMatrix_any (A : Option Addr) (n c : Nat) (L : List (List UInt8)) (hc : n ≤ c) (hm : n ≤ 9223372036854775807) (w : World) (h : RT w w.heap.size A n L) :
    Calls Try.prog 79 #[.slice A n c] w fun e w' => e = .returned (.bool (isTab L)) ∧ w' = w := by
  have hl := h.1
  by_cases h1 : n < 1
  · have hres := Lib.hid (isTab_of hl rfl (by omega))
    have d1 : decide ((n : Int) < 1) = true := decide_eq_true (by omega)
    replace hl := Lib.hid hl
    replace h := Lib.hid h
    go_enter Try.func79, Try.ntmps79
    go_wp2
    go_ret
    exact ⟨by rw [hres.out]; rfl, rfl⟩
  · have d1 : decide ((n : Int) < 1) = false := decide_eq_false (by omega)
    by_cases h2 : 32 < n
    · have hres := Lib.hid (isTab_of hl rfl (by omega))
      have d2 : decide ((32 : Int) < (n : Int)) = true := decide_eq_true (by omega)
      replace hl := Lib.hid hl
      replace h := Lib.hid h
      go_enter Try.func79, Try.ntmps79
      go_wp2
      go_ret
      exact ⟨by rw [hres.out]; rfl, rfl⟩
    · have d2 : decide ((32 : Int) < (n : Int)) = false := decide_eq_false (by omega)
      obtain ⟨b, o, A', c', l0, rfl, hb, hl0, hcell, hlc, hcm, hrd⟩ := h.at_ (i := 0) (by omega)
      have hw := width_get hl0
      obtain ⟨m, hm0⟩ : ∃ m, l0.length = m := ⟨_, rfl⟩
      rw [hm0] at hw hcell
      rw [Nat.add_zero] at hcell
      have i0 : (0 : Int) < (n : Int) := by omega
      by_cases h3 : m < 1
      · have hres := Lib.hid (isTab_of hl hw (by omega))
        have d3 : decide ((m : Int) < 1) = true := decide_eq_true (by omega)
        replace hl := Lib.hid hl
        replace h := Lib.hid h
        replace hw := Lib.hid hw
        replace hm0 := Lib.hid hm0
        replace hl0 := Lib.hid hl0
        go_enter Try.func79, Try.ntmps79
        go_wp2
        go_ret
        exact ⟨by rw [hres.out]; rfl, rfl⟩
      · have d3 : decide ((m : Int) < 1) = false := decide_eq_false (by omega)
        by_cases h4 : 32 < m
        · have hres := Lib.hid (isTab_of hl hw (by omega))
          have d4 : decide ((32 : Int) < (m : Int)) = true := decide_eq_true (by omega)
          replace hl := Lib.hid hl
          replace h := Lib.hid h
          replace hw := Lib.hid hw
          replace hm0 := Lib.hid hm0
          replace hl0 := Lib.hid hl0
          go_enter Try.func79, Try.ntmps79
          go_wp2
          go_ret
          exact ⟨by rw [hres.out]; rfl, rfl⟩
        · have d4 : decide ((32 : Int) < (m : Int)) = false := decide_eq_false (by omega)
          have hrows := Lib.hid h
          replace hl := Lib.hid hl
          replace hw := Lib.hid hw
          replace hm0 := Lib.hid hm0
          replace hl0 := Lib.hid hl0
          clear h hrd
          go_enter Try.func79, Try.ntmps79
          go_wp2
          go_loop [26] (fun i => ∃ k : Nat, k ≤ n ∧ i = .int .i64 k ∧ Hid (∀ i l, i < k → L[i]? = some l → l.length = m)) (fun i => n - (intOf i).toNat)
          case atStart => exact ⟨0, Nat.zero_le _, rfl, Lib.hid (fun i l hi => absurd hi (by omega))⟩
          case round =>
            obtain ⟨k, hk, rfl, hall⟩ := hrel
            by_cases hlt : k < n
            · obtain ⟨b2, o2, A2, c2, l2, e2, -, hl2, hcell2, -, -, -⟩ := hrows.out.at_ (i := k) hlt
              injection e2 with e2
              injection e2 with e3 e4 _
              subst e3 e4
              obtain ⟨m2, hm2⟩ : ∃ m2, l2.length = m2 := ⟨_, rfl⟩
              rw [hm2] at hcell2
              by_cases hmm : m2 = m
              · subst hmm
                have hne : ((m2 : Int) != (m2 : Int)) = false := by simp
                have hall2 : Hid (∀ i l, i < k + 1 → L[i]? = some l → l.length = m2) := Lib.hid (fun i l hi hgl => by
                  by_cases e : i = k
                  · subst e; rw [hl2] at hgl; injection hgl with hgl; rw [← hgl]; exact hm2
                  · exact hall.out i l (by omega) hgl)
                replace hl2 := Lib.hid hl2
                replace hm2 := Lib.hid hm2
                go_wp2
                go_round
                case rel => exact ⟨k + 1, by omega, by go_num, hall2⟩
                case measure => simp [intOf]; omega
              · have hne : ((m2 : Int) != (m : Int)) = true := by simp; omega
                have hres : Hid (isTab L = false) := Lib.hid (isTab_no (List.mem_of_getElem? hl2) (by rw [hm2, hw.out]; exact hmm))
                replace hl2 := Lib.hid hl2
                replace hm2 := Lib.hid hm2
                replace hmm := Lib.hid hmm
                go_wp2
                go_ret
                exact ⟨by rw [hres.out]; rfl, rfl⟩
            · have hres : Hid (isTab L = true) := Lib.hid (isTab_iff.mpr ⟨by rw [hl.out]; omega, by rw [hl.out]; omega, by rw [hw.out]; omega, by rw [hw.out]; omega, fun r hr => by
                obtain ⟨i, hi⟩ := List.mem_iff_getElem?.mp hr
                have hi2 := (List.getElem?_eq_some_iff.mp hi).1
                rw [hl.out] at hi2
                rw [hw.out]
                exact hall.out i r (by omega) hi⟩)
              obtain rfl : k = n := by omega
              go_wp2
              go_ret
              exact ⟨by rw [hres.out]; rfl, rfl⟩
set_option maxHeartbeats 4000000 in
set_option maxRecDepth 10000 in
theorem addMultiple_any (base g m c : Nat) (f : Nat → UInt8) (A : Option Addr) (c2 : Nat) (s : List UInt8) (hs : s.length = m) (hm : m ≤ 1000000) (x : UInt8) (w : World)
    (ho : OB w base (.slice (some ⟨g, 0, none⟩) m c) (row m f)) (hr : Rd w w.heap.size A s) (hne : ∀ ad, A = some ad → ad.block ≠ g) :
    Calls Try.prog 80 #[.slice (some ⟨g, 0, none⟩) m c, .slice A m c2, .int .u8 (U x)] w fun e w' => e = .returned (.tuple #[]) ∧ OB w' base (.slice (some ⟨g, 0, none⟩) m c) (row m (fun j => f j ^^^ gmul x (s.getD j 0))) ∧ Upd (fun k => k = g) w w' ∧ w'.heap.size = w.heap.size := by
  have hr0 := Lib.hid hr
  clear hr
  replace ho := Lib.hid ho
  replace hs := Lib.hid hs
  replace hne := Lib.hid hne
  go_enter Try.func80, Try.ntmps80
  go_wp2
  go_loopw [10] (fun i wr => ∃ k : Nat, k ≤ m ∧ i = .int .i64 k ∧ Hid (OB wr base (.slice (some ⟨g, 0, none⟩) m c) (row m (fun j => if j < k then f j ^^^ gmul x (s.getD j 0) else f j))) ∧ Hid (Upd (fun k => k = g) w wr) ∧ Hid (wr.heap.size = w.heap.size)) (fun i _ => m - (intOf i).toNat)
  case atStart => exact ⟨0, Nat.zero_le _, rfl, Lib.hid (by rw [row_congr (g := f) (fun j _ => if_neg (by omega))]; exact ho.out), Lib.hid (Upd.refl _ _), Lib.hid rfl⟩
  case round =>
    obtain ⟨k, hk, rfl, ho2, hu, hz⟩ := hrel
    by_cases hlt : k < m
    · obtain ⟨y, hy⟩ : ∃ y, s[k]? = some y := ⟨s[k]'(by rw [hs.out]; exact hlt), List.getElem?_eq_getElem (by rw [hs.out]; exact hlt)⟩
      obtain ⟨ad, rfl, hadb, hcy⟩ := hr0.out.get hy
      have hadg := hne.out ad rfl
      have hcy2 : wr.cell? (ad.add k) = some (.int .u8 (U y)) := (hu.out.cell (p := ad.add k) (by rw [block_of_add]; exact hadb) (by rw [block_of_add]; exact hadg)).trans hcy
      obtain ⟨wd, hwd⟩ : ∃ wd, wd = wr.drew := ⟨_, rfl⟩
      have ho3 : OB wd base (.slice (some ⟨g, 0, none⟩) m c) (row m (fun j => if j < k then f j ^^^ gmul x (s.getD j 0) else f j)) := by rw [hwd]; exact ho2.out.drew
      have hu3 : Upd (fun k => k = g) w wd := by rw [hwd]; exact hu.out
      have hz3 : wd.heap.size = w.heap.size := by rw [hwd]; exact hz.out
      obtain ⟨g', eg, -, hgl, hcell, hfr, hst⟩ := ho3.store (k := k) (by rw [row_length]; exact hlt)
      injection eg with eg
      injection eg with eg
      subst eg
      have hgk : (row m (fun j => if j < k then f j ^^^ gmul x (s.getD j 0) else f j))[k]'(by rw [row_length]; exact hlt) = f k := by
        have h1 := row_get hlt (fun j => if j < k then f j ^^^ gmul x (s.getD j 0) else f j)
        rw [List.getElem?_eq_getElem (by rw [row_length]; exact hlt)] at h1
        injection h1 with h1
        rw [h1, if_neg (by omega)]
      rw [hgk] at hcell
      have hst2 := hst (f k ^^^ gmul x y)
      rw [row_set] at hst2
      have hnew : Hid (OB (wd.setCell ⟨g, k, none⟩ (.int .u8 (U (f k ^^^ gmul x y)))) base (.slice (some ⟨g, 0, none⟩) m c) (row m (fun j => if j < k + 1 then f j ^^^ gmul x (s.getD j 0) else f j))) := Lib.hid (by
        rw [row_congr (g := fun j => if j = k then f k ^^^ gmul x y else if j < k then f j ^^^ gmul x (s.getD j 0) else f j)]
        · exact hst2
        · intro j hj
          by_cases e : j = k
          · subst e
            rw [if_pos (by omega), if_pos rfl, List.getD_eq_getElem?_getD, hy]; rfl
          · rw [if_neg e]
            by_cases e2 : j < k
            · rw [if_pos e2, if_pos (by omega)]
            · rw [if_neg e2, if_neg (by omega)])
      obtain ⟨fk, hfk⟩ : ∃ fk, f k = fk := ⟨_, rfl⟩
      rw [hfk] at hcell hnew
      have hun : Hid (Upd (fun k => k = g) w (wd.setCell ⟨g, k, none⟩ (.int .u8 (U (fk ^^^ gmul x y))))) := Lib.hid ((Upd.road (fun k => k = g)).2 hu3 (Upd.of_grown (blk_grown wd g k _) rfl))
      have hzn : Hid ((wd.setCell ⟨g, k, none⟩ (.int .u8 (U (fk ^^^ gmul x y)))).heap.size = w.heap.size) := Lib.hid (by rw [← hz3]; simp)
      clear hst hst2 hgk ho3 hu3 hz3
      replace hy := Lib.hid hy
      replace hfk := Lib.hid hfk
      replace hadb := Lib.hid hadb
      have hk2 : (0 : Int) ≤ (k : Int) := by omega
      go_wp2_with fail
      refine wpR_region (Upd (fun _ => False)) 9 (by kernel_rfl) ?_
      (rw [← hwd]; replace hwd := Lib.hid hwd)
      refine wpR_take (i := 0) (v := ?_) (Upd.road _) (some 15) rfl (by kernel_rfl) (by kernel_rfl) (by kernel_rfl) (by kernel_rfl) (by kernel_rfl) (fun _ _ _ h => h) (by kernel_rfl) (fun w' hw' => ?_) ?_
      rotate_left
      · go_simp; with_reducible rfl
      simp only [Act.put, List.setIfInBounds_toArray, List.set_cons_zero, List.set_cons_succ]
      refine wpR_take (i := 1) (v := ?_) (Upd.road _) (some 16) rfl (by kernel_rfl) (by kernel_rfl) (by kernel_rfl) (by kernel_rfl) (by kernel_rfl) (fun _ _ _ h => h) (by kernel_rfl) (fun w' hw' => ?_) ?_
      rotate_left
      · go_simp; with_reducible rfl
      simp only [Act.put, List.setIfInBounds_toArray, List.set_cons_zero, List.set_cons_succ]
      refine wpR_take (i := 2) (v := ?_) (Upd.road _) (some 17) rfl (by kernel_rfl) (by kernel_rfl) (by kernel_rfl) (by kernel_rfl) (by kernel_rfl) (fun _ _ _ h => h) (by kernel_rfl) (fun w' hw' => ?_) ?_
      rotate_left
      · go_simp; with_reducible rfl
      simp only [Act.put, List.setIfInBounds_toArray, List.set_cons_zero, List.set_cons_succ]
      refine wpR_take (i := 3) (v := ?_) (Upd.road _) (some 18) rfl (by kernel_rfl) (by kernel_rfl) (by kernel_rfl) (by kernel_rfl) (by kernel_rfl) (fun _ _ _ h => h) (by kernel_rfl) (fun w' hw' => ?_) ?_
      rotate_left
      · have q := (hw'.cell (p := ⟨g, k, none⟩) hgl (fun h => h)).trans hcell; go_simp; with_reducible rfl
      simp only [Act.put, List.setIfInBounds_toArray, List.set_cons_zero, List.set_cons_succ]
      refine wpR_take (i := 4) (v := ?_) (Upd.road _) (some 19) rfl (by kernel_rfl) (by kernel_rfl) (by kernel_rfl) (by kernel_rfl) (by kernel_rfl) (fun _ _ _ h => h) (by kernel_rfl) (fun w' hw' => ?_) ?_
      rotate_left
      · go_simp; with_reducible rfl
      simp only [Act.put, List.setIfInBounds_toArray, List.set_cons_zero, List.set_cons_succ]
      refine wpR_take (i := 5) (v := ?_) (Upd.road _) (some 20) rfl (by kernel_rfl) (by kernel_rfl) (by kernel_rfl) (by kernel_rfl) (by kernel_rfl) (fun _ _ _ h => h) (by kernel_rfl) (fun w' hw' => ?_) ?_
      rotate_left
      · go_simp; with_reducible rfl
      simp only [Act.put, List.setIfInBounds_toArray, List.set_cons_zero, List.set_cons_succ]
      refine wpR_one 6 rfl (by kernel_rfl) (by kernel_rfl) (fun K hK => ?_)
      go_simp
      refine (mul_any x y _).mono ?_
      rintro e w3 ⟨rfl, rfl⟩
      refine hK _ _ (fun _ => Upd.refl _ _) ?_
      clear hK K
      try simp only [Act.put, List.setIfInBounds_toArray, List.set_cons_zero, List.set_cons_succ]
      refine wpR_take (i := 7) (v := ?_) (Upd.road _) (some 22) rfl (by kernel_rfl) (by kernel_rfl) (by kernel_rfl) (by kernel_rfl) (by kernel_rfl) (fun _ _ _ h => h) (by kernel_rfl) (fun w' hw' => ?_) ?_
      rotate_left
      · go_simp; with_reducible rfl
      simp only [Act.put, List.setIfInBounds_toArray, List.set_cons_zero, List.set_cons_succ]
      refine wpR_take (i := 8) (v := ?_) (Upd.road _) (some 23) rfl (by kernel_rfl) (by kernel_rfl) (by kernel_rfl) (by kernel_rfl) (by kernel_rfl) (fun _ _ _ h => h) (by kernel_rfl) (fun w' hw' => ?_) ?_
      rotate_left
      · go_simp; with_reducible rfl
      simp only [Act.put, List.setIfInBounds_toArray, List.set_cons_zero, List.set_cons_succ]
      refine wpR_one 9 rfl (by kernel_rfl) (by kernel_rfl) (fun K hK => ?_)
      go_simp
      refine hK _ _ (fun h => absurd h (by decide)) ?_
      clear hK K
      obtain ⟨w4, hw4⟩ : ∃ w4, wd.setCell ⟨g, k, none⟩ (.int .u8 (U (fk ^^^ gmul x y))) = w4 := ⟨_, rfl⟩
      rw [hw4] at hnew hun hzn ⊢
      replace hw4 := Lib.hid hw4
      clear hcell hfr
      try simp only [Act.put, List.setIfInBounds_toArray, List.set_cons_zero, List.set_cons_succ]
      refine wpR_done (by kernel_rfl) ?_ _
      go_wp2_with fail
      go_roundw
      case rel => exact ⟨k + 1, by omega, by go_num, hnew, hun, hzn⟩
      case measure => simp [intOf]; omega
    · obtain rfl : k = m := by omega
      have hfin : Hid (OB wr base (.slice (some ⟨g, 0, none⟩) k c) (row k (fun j => f j ^^^ gmul x (s.getD j 0)))) := Lib.hid (by
        have := ho2.out
        rwa [row_congr (g := fun j => f j ^^^ gmul x (s.getD j 0)) (fun j hj => if_pos hj)] at this)
      go_wp2
      go_end0
      exact ⟨rfl, hfin.out, hu.out, hz.out⟩
end Go.Proofs.Ytpeilgeloaogfaa
