
import Derived.Test.YtdgkcgiknfjpjaaChecked
import Derived.Test.YtdgkcgiknfjpjaaBaseA
import Derived.Test.YtdgkcgiknfjpjaaBaseB
import Derived.LoopTactic
import Derived.Deep.QuietTactic
import Derived.BigQuiet
namespace Go.Proofs.Ytdgkcgiknfjpjaa
open Go Go.RowKit

theorem tx_any (a : UInt8) (w : World) :
    Calls Try.prog 102 #[.int .u8 (U a)] w fun e w' => e = .returned (.int .u8 (U (tx a))) ∧ w = w' := by
  unfold tx
  cases h : (a &&& 128 != 0)
  all_goals
    go_enter Try.func102, Try.ntmps102
    go_wp2
    go_ret
    exact ⟨rfl, rfl⟩

theorem mul_any (a b : UInt8) (w : World) :
    Calls Try.prog 99 #[.int .u8 (U a), .int .u8 (U b)] w fun e w' => e = .returned (.int .u8 (U (gmul a b))) ∧ w = w' := by
  go_enter Try.func99, Try.ntmps99
  go_wp2
  go_loop [0, 1, 5, 6] (fun x y p i => ∃ k : Nat, k ≤ 8 ∧ i = .int .i64 k ∧ x = .int .u8 (U (mst a b k).1) ∧ y = .int .u8 (U (mst a b k).2.1) ∧ p = .int .u8 (U (mst a b k).2.2)) (fun _ _ _ i => 8 - (intOf i).toNat)
  case atStart => exact ⟨0, Nat.zero_le _, rfl, rfl, rfl, rfl⟩
  case round =>
    obtain ⟨k, hk, rfl, rfl, rfl, rfl⟩ := hrel
    by_cases hlt : k < 8
    · cases h : ((mst a b k).2.1 &&& 1 != 0)
      all_goals
        go_wp2_with (go_at_call 102; refine (tx_any _ _).mono ?_; rintro e w' ⟨rfl, rfl⟩)
        go_round
        case rel => exact ⟨k + 1, by omega, by go_num, rfl, rfl, by rw [mst, h]; rfl⟩
        case measure => simp [intOf]; omega
    · obtain rfl : k = 8 := by omega
      go_wp2
      go_ret
      exact ⟨rfl, rfl⟩

theorem pow_any (a : UInt8) (n : Int) (h0 : -9223372036854775808 ≤ n) (h1 : n ≤ 9223372036854775807) (w : World) :
    Calls Try.prog 101 #[.int .u8 (U a), .int .i64 n] w fun e w' => e = .returned (.int .u8 (U (gpow a n))) ∧ w = w' := by
  unfold gpow
  by_cases hn : n ≤ 0
  · rw [if_pos hn]
    go_enter Try.func101, Try.ntmps101
    go_wp2
    go_ret
    exact ⟨rfl, rfl⟩
  · rw [if_neg hn]
    by_cases ha : a = 0
    · subst ha
      rw [if_pos rfl]
      go_enter Try.func101, Try.ntmps101
      go_wp2
      go_ret
      exact ⟨rfl, rfl⟩
    · have hb : (a == 0) = false := by simpa using ha
      rw [if_neg ha]
      obtain ⟨m, rfl⟩ := Int.eq_ofNat_of_zero_le (show 0 ≤ n by omega)
      have hm : 1 ≤ m := by omega
      have hd : decide (m = 0) = false := by simp; omega
      clear hn ha h0
      have hH : Hid ((m : Int).toNat = m) := Int.toNat_natCast m
      rw [hH.out]
      go_enter Try.func101, Try.ntmps101
      go_wp2
      go_loop [0, 1, 5, 12] (fun x y p i => ∃ k : Nat, k ≤ 8 ∧ i = .int .i64 k ∧ x = .int .u8 (U (pst a (m % 255) k).1) ∧ y = .int .i64 (pst a (m % 255) k).2.1 ∧ p = .int .u8 (U (pst a (m % 255) k).2.2)) (fun _ _ _ i => 8 - (intOf i).toNat)
      case atStart => exact ⟨0, Nat.zero_le _, rfl, rfl, rfl, rfl⟩
      case round =>
        obtain ⟨k, hk, rfl, rfl, rfl, rfl⟩ := hrel
        have hle := pst_le a (m % 255) k
        have hle2 : (pst a (m % 255) k).2.1 ≤ 254 := by omega
        clear hle
        by_cases hlt : k < 8
        · have hI : (((pst a (m % 255) k).2.1 : Int) % 2 != 0) = ((pst a (m % 255) k).2.1 % 2 != 0) := by
            rw [Bool.eq_iff_iff]; simp; omega
          have hI := Lib.hid hI
          cases h : (((pst a (m % 255) k).2.1 : Int) % 2 != 0)
          all_goals
            go_wp2_with (go_at_call 99; refine (mul_any _ _ _).mono ?_; rintro e w' ⟨rfl, rfl⟩)
            go_round
            case rel => exact ⟨k + 1, by omega, by go_num, rfl, rfl, by show _ = Value.int .u8 (U (if ((pst a (m % 255) k).2.1 % 2 != 0) = true then _ else _)); rw [← hI.out, h]; rfl⟩
            case measure => simp [intOf]; omega
        · obtain rfl : k = 8 := by omega
          go_wp2
          go_ret
          exact ⟨rfl, rfl⟩
theorem div_any (a b : UInt8) (w : World) :
    Calls Try.prog 97 #[.int .u8 (U a), .int .u8 (U b)] w fun e w' =>
      e = .returned (if b = 0 then .tuple #[.int .u8 0, .bool false] else .tuple #[.int .u8 (U (gmul a (gpow b 254))), .bool true]) ∧ w = w' := by
  by_cases hb : b = 0
  · subst hb
    rw [if_pos rfl]
    go_enter Try.func97, Try.ntmps97
    go_wp2
    go_ret2
    exact ⟨rfl, rfl⟩
  · have hb' : (b == 0) = false := by simpa using hb
    rw [if_neg hb]
    clear hb
    go_enter Try.func97, Try.ntmps97
    go_wp2_with (first | (go_at_call 99; refine (mul_any _ _ _).mono ?_; rintro e w' ⟨rfl, rfl⟩) | (go_at_call 101; refine (pow_any _ _ (by omega) (by omega) _).mono ?_; rintro e w' ⟨rfl, rfl⟩))
    go_ret2
    exact ⟨rfl, rfl⟩
end Go.Proofs.Ytdgkcgiknfjpjaa
/- Walks of mat: isMatrix, addMultiple, scale, codeElement. -/
namespace Go.Proofs.Ytdgkcgiknfjpjaa
set_option linter.unusedVariables false
set_option linter.unusedSimpArgs false
open Go Go.RowKit
theorem isTab_no {L : List (List UInt8)} {r : List UInt8} (hr : r ∈ L) (hn : r.length ≠ width L) : isTab L = false := by
  cases h : isTab L with
  | false => rfl
  | true => exact absurd ((isTab_iff.mp h).2.2.2.2 r hr) hn
theorem isTab_of {L : List (List UInt8)} {n m : Nat} (hn : L.length = n) (hm : width L = m) (h : ¬ (1 ≤ n ∧ n ≤ 32 ∧ 1 ≤ m ∧ m ≤ 32)) : isTab L = false := by
  cases ht : isTab L with
  | false => rfl
  | true => exact absurd (by have := isTab_iff.mp ht; omega) h
theorem width_get {L : List (List UInt8)} {l : List UInt8} (h : L[0]? = some l) : width L = l.length := by
  cases L with
  | nil => simp at h
  | cons a t => simp at h; subst h; rfl
set_option maxHeartbeats 4000000 in
set_option maxRecDepth 10000 in
theorem isMatrix_any (A : Option Addr) (n c : Nat) (L : List (List UInt8)) (hc : n ≤ c) (hm : n ≤ 9223372036854775807) (w : World) (h : RT w w.heap.size A n L) :
    Calls Try.prog 83 #[.slice A n c] w fun e w' => e = .returned (.bool (isTab L)) ∧ w' = w := by
  have hl := h.1
  by_cases h1 : n < 1
  · have hres := Lib.hid (isTab_of hl rfl (by omega))
    have d1 : decide ((n : Int) < 1) = true := decide_eq_true (by omega)
    replace hl := Lib.hid hl
    replace h := Lib.hid h
    go_enter Try.func83, Try.ntmps83
    go_wp2
    go_ret
    exact ⟨by rw [hres.out]; rfl, rfl⟩
  · have d1 : decide ((n : Int) < 1) = false := decide_eq_false (by omega)
    by_cases h2 : 32 < n
    · have hres := Lib.hid (isTab_of hl rfl (by omega))
      have d2 : decide ((32 : Int) < (n : Int)) = true := decide_eq_true (by omega)
      replace hl := Lib.hid hl
      replace h := Lib.hid h
      go_enter Try.func83, Try.ntmps83
      go_wp2
      go_ret
      exact ⟨by rw [hres.out]; rfl, rfl⟩
    · have d2 : decide ((32 : Int) < (n : Int)) = false := decide_eq_false (by omega)
      obtain ⟨b, o, A', c', l0, rfl, hb, hl0, hcell, hlc, hcm, hrd⟩ := h.at_ (i := 0) (by omega)
      have hw := width_get hl0
      obtain ⟨m, hm0⟩ : ∃ m, l0.length = m := ⟨_, rfl⟩
      rw [hm0] at hw hcell
      rw [Nat.add_zero] at hcell
      have i0 : (0 : Int) < (n : Int) := by omega
      by_cases h3 : m < 1
      · have hres := Lib.hid (isTab_of hl hw (by omega))
        have d3 : decide ((m : Int) < 1) = true := decide_eq_true (by omega)
        replace hl := Lib.hid hl
        replace h := Lib.hid h
        replace hw := Lib.hid hw
        replace hm0 := Lib.hid hm0
        replace hl0 := Lib.hid hl0
        go_enter Try.func83, Try.ntmps83
        go_wp2
        go_ret
        exact ⟨by rw [hres.out]; rfl, rfl⟩
      · have d3 : decide ((m : Int) < 1) = false := decide_eq_false (by omega)
        by_cases h4 : 32 < m
        · have hres := Lib.hid (isTab_of hl hw (by omega))
          have d4 : decide ((32 : Int) < (m : Int)) = true := decide_eq_true (by omega)
          replace hl := Lib.hid hl
          replace h := Lib.hid h
          replace hw := Lib.hid hw
          replace hm0 := Lib.hid hm0
          replace hl0 := Lib.hid hl0
          go_enter Try.func83, Try.ntmps83
          go_wp2
          go_ret
          exact ⟨by rw [hres.out]; rfl, rfl⟩
        · have d4 : decide ((32 : Int) < (m : Int)) = false := decide_eq_false (by omega)
          have hrows := Lib.hid h
          replace hl := Lib.hid hl
          replace hw := Lib.hid hw
          replace hm0 := Lib.hid hm0
          replace hl0 := Lib.hid hl0
          clear h hrd
          go_enter Try.func83, Try.ntmps83
          go_wp2
          go_loop [26] (fun i => ∃ k : Nat, k ≤ n ∧ i = .int .i64 k ∧ Hid (∀ i l, i < k → L[i]? = some l → l.length = m)) (fun i => n - (intOf i).toNat)
          case atStart => exact ⟨0, Nat.zero_le _, rfl, Lib.hid (fun i l hi => absurd hi (by omega))⟩
          case round =>
            obtain ⟨k, hk, rfl, hall⟩ := hrel
            by_cases hlt : k < n
            · obtain ⟨b2, o2, A2, c2, l2, e2, -, hl2, hcell2, -, -, -⟩ := hrows.out.at_ (i := k) hlt
              injection e2 with e2
              injection e2 with e3 e4 _
              subst e3 e4
              obtain ⟨m2, hm2⟩ : ∃ m2, l2.length = m2 := ⟨_, rfl⟩
              rw [hm2] at hcell2
              by_cases hmm : m2 = m
              · subst hmm
                have hne : ((m2 : Int) != (m2 : Int)) = false := by simp
                have hall2 : Hid (∀ i l, i < k + 1 → L[i]? = some l → l.length = m2) := Lib.hid (fun i l hi hgl => by
                  by_cases e : i = k
                  · subst e; rw [hl2] at hgl; injection hgl with hgl; rw [← hgl]; exact hm2
                  · exact hall.out i l (by omega) hgl)
                replace hl2 := Lib.hid hl2
                replace hm2 := Lib.hid hm2
                go_wp2
                go_round
                case rel => exact ⟨k + 1, by omega, by go_num, hall2⟩
                case measure => simp [intOf]; omega
              · have hne : ((m2 : Int) != (m : Int)) = true := by simp; omega
                have hres : Hid (isTab L = false) := Lib.hid (isTab_no (List.mem_of_getElem? hl2) (by rw [hm2, hw.out]; exact hmm))
                replace hl2 := Lib.hid hl2
                replace hm2 := Lib.hid hm2
                replace hmm := Lib.hid hmm
                go_wp2
                go_ret
                exact ⟨by rw [hres.out]; rfl, rfl⟩
            · have hres : Hid (isTab L = true) := Lib.hid (isTab_iff.mpr ⟨by rw [hl.out]; omega, by rw [hl.out]; omega, by rw [hw.out]; omega, by rw [hw.out]; omega, fun r hr => by
                obtain ⟨i, hi⟩ := List.mem_iff_getElem?.mp hr
                have hi2 := (List.getElem?_eq_some_iff.mp hi).1
                rw [hl.out] at hi2
                rw [hw.out]
                exact hall.out i r (by omega) hi⟩)
              obtain rfl : k = n := by omega
              go_wp2
              go_ret
              exact ⟨by rw [hres.out]; rfl, rfl⟩
set_option maxHeartbeats 4000000 in
set_option maxRecDepth 10000 in
theorem addMultiple_any (base g m c : Nat) (f : Nat → UInt8) (A : Option Addr) (c2 : Nat) (s : List UInt8) (hs : s.length = m) (hm : m ≤ 1000000) (x : UInt8) (w : World)
    (ho : OB w base (.slice (some ⟨g, 0, none⟩) m c) (row m f)) (hr : Rd w w.heap.size A s) (hne : ∀ ad, A = some ad → ad.block ≠ g) :
    Calls Try.prog 87 #[.slice (some ⟨g, 0, none⟩) m c, .slice A m c2, .int .u8 (U x)] w fun e w' => e = .returned (.tuple #[]) ∧ OB w' base (.slice (some ⟨g, 0, none⟩) m c) (row m (fun j => f j ^^^ gmul x (s.getD j 0))) ∧ Upd (fun k => k = g) w w' ∧ w'.heap.size = w.heap.size := by
  have hr0 := Lib.hid hr
  clear hr
  replace ho := Lib.hid ho
  replace hs := Lib.hid hs
  replace hne := Lib.hid hne
  go_enter Try.func87, Try.ntmps87
  go_wp2
  go_loopw [10] (fun i wr => ∃ k : Nat, k ≤ m ∧ i = .int .i64 k ∧ Hid (OB wr base (.slice (some ⟨g, 0, none⟩) m c) (row m (fun j => if j < k then f j ^^^ gmul x (s.getD j 0) else f j))) ∧ Hid (Upd (fun k => k = g) w wr) ∧ Hid (wr.heap.size = w.heap.size)) (fun i _ => m - (intOf i).toNat)
  case atStart => exact ⟨0, Nat.zero_le _, rfl, Lib.hid (by rw [row_congr (g := f) (fun j _ => if_neg (by omega))]; exact ho.out), Lib.hid (Upd.refl _ _), Lib.hid rfl⟩
  case round =>
    obtain ⟨k, hk, rfl, ho2, hu, hz⟩ := hrel
    by_cases hlt : k < m
    · obtain ⟨y, hy⟩ : ∃ y, s[k]? = some y := ⟨s[k]'(by rw [hs.out]; exact hlt), List.getElem?_eq_getElem (by rw [hs.out]; exact hlt)⟩
      obtain ⟨ad, rfl, hadb, hcy⟩ := hr0.out.get hy
      have hadg := hne.out ad rfl
      have hcy2 : wr.cell? (ad.add k) = some (.int .u8 (U y)) := (hu.out.cell (p := ad.add k) (by rw [block_of_add]; exact hadb) (by rw [block_of_add]; exact hadg)).trans hcy
      obtain ⟨wd, hwd⟩ : ∃ wd, wd = wr.drew := ⟨_, rfl⟩
      have ho3 : OB wd base (.slice (some ⟨g, 0, none⟩) m c) (row m (fun j => if j < k then f j ^^^ gmul x (s.getD j 0) else f j)) := by rw [hwd]; exact ho2.out.drew
      have hu3 : Upd (fun k => k = g) w wd := by rw [hwd]; exact hu.out
      have hz3 : wd.heap.size = w.heap.size := by rw [hwd]; exact hz.out
      obtain ⟨g', eg, -, hgl, hcell, hfr, hst⟩ := ho3.store (k := k) (by rw [row_length]; exact hlt)
      injection eg with eg
      injection eg with eg
      subst eg
      have hgk : (row m (fun j => if j < k then f j ^^^ gmul x (s.getD j 0) else f j))[k]'(by rw [row_length]; exact hlt) = f k := by
        have h1 := row_get hlt (fun j => if j < k then f j ^^^ gmul x (s.getD j 0) else f j)
        rw [List.getElem?_eq_getElem (by rw [row_length]; exact hlt)] at h1
        injection h1 with h1
        rw [h1, if_neg (by omega)]
      rw [hgk] at hcell
      have hst2 := hst (f k ^^^ gmul x y)
      rw [row_set] at hst2
      have hnew : Hid (OB (wd.setCell ⟨g, k, none⟩ (.int .u8 (U (f k ^^^ gmul x y)))) base (.slice (some ⟨g, 0, none⟩) m c) (row m (fun j => if j < k + 1 then f j ^^^ gmul x (s.getD j 0) else f j))) := Lib.hid (by
        rw [row_congr (g := fun j => if j = k then f k ^^^ gmul x y else if j < k then f j ^^^ gmul x (s.getD j 0) else f j)]
        · exact hst2
        · intro j hj
          by_cases e : j = k
          · subst e
            rw [if_pos (by omega), if_pos rfl, List.getD_eq_getElem?_getD, hy]; rfl
          · rw [if_neg e]
            by_cases e2 : j < k
            · rw [if_pos e2, if_pos (by omega)]
            · rw [if_neg e2, if_neg (by omega)])
      obtain ⟨fk, hfk⟩ : ∃ fk, f k = fk := ⟨_, rfl⟩
      rw [hfk] at hcell hnew
      have hun : Hid (Upd (fun k => k = g) w (wd.setCell ⟨g, k, none⟩ (.int .u8 (U (fk ^^^ gmul x y))))) := Lib.hid ((Upd.road (fun k => k = g)).2 hu3 (Upd.of_grown (blk_grown wd g k _) rfl))
      have hzn : Hid ((wd.setCell ⟨g, k, none⟩ (.int .u8 (U (fk ^^^ gmul x y)))).heap.size = w.heap.size) := Lib.hid (by rw [← hz3]; simp)
      clear hst hst2 hgk ho3 hu3 hz3
      replace hy := Lib.hid hy
      replace hfk := Lib.hid hfk
      replace hadb := Lib.hid hadb
      have hk2 : (0 : Int) ≤ (k : Int) := by omega
      go_wp2_with fail
      refine wpR_region (Upd (fun _ => False)) 9 (by kernel_rfl) ?_
      (rw [← hwd]; replace hwd := Lib.hid hwd)
      refine wpR_take (i := 0) (v := ?_) (Upd.road _) (some 15) rfl (by kernel_rfl) (by kernel_rfl) (by kernel_rfl) (by kernel_rfl) (by kernel_rfl) (fun _ _ _ h => h) (by kernel_rfl) (fun w' hw' => ?_) ?_
      rotate_left
      · go_simp; with_reducible rfl
      simp only [Act.put, List.setIfInBounds_toArray, List.set_cons_zero, List.set_cons_succ]
      refine wpR_take (i := 1) (v := ?_) (Upd.road _) (some 16) rfl (by kernel_rfl) (by kernel_rfl) (by kernel_rfl) (by kernel_rfl) (by kernel_rfl) (fun _ _ _ h => h) (by kernel_rfl) (fun w' hw' => ?_) ?_
      rotate_left
      · go_simp; with_reducible rfl
      simp only [Act.put, List.setIfInBounds_toArray, List.set_cons_zero, List.set_cons_succ]
      refine wpR_take (i := 2) (v := ?_) (Upd.road _) (some 17) rfl (by kernel_rfl) (by kernel_rfl) (by kernel_rfl) (by kernel_rfl) (by kernel_rfl) (fun _ _ _ h => h) (by kernel_rfl) (fun w' hw' => ?_) ?_
      rotate_left
      · go_simp; with_reducible rfl
      simp only [Act.put, List.setIfInBounds_toArray, List.set_cons_zero, List.set_cons_succ]
      refine wpR_take (i := 3) (v := ?_) (Upd.road _) (some 18) rfl (by kernel_rfl) (by kernel_rfl) (by kernel_rfl) (by kernel_rfl) (by kernel_rfl) (fun _ _ _ h => h) (by kernel_rfl) (fun w' hw' => ?_) ?_
      rotate_left
      · have q := (hw'.cell (p := ⟨g, k, none⟩) hgl (fun h => h)).trans hcell; go_simp; with_reducible rfl
      simp only [Act.put, List.setIfInBounds_toArray, List.set_cons_zero, List.set_cons_succ]
      refine wpR_take (i := 4) (v := ?_) (Upd.road _) (some 19) rfl (by kernel_rfl) (by kernel_rfl) (by kernel_rfl) (by kernel_rfl) (by kernel_rfl) (fun _ _ _ h => h) (by kernel_rfl) (fun w' hw' => ?_) ?_
      rotate_left
      · go_simp; with_reducible rfl
      simp only [Act.put, List.setIfInBounds_toArray, List.set_cons_zero, List.set_cons_succ]
      refine wpR_take (i := 5) (v := ?_) (Upd.road _) (some 20) rfl (by kernel_rfl) (by kernel_rfl) (by kernel_rfl) (by kernel_rfl) (by kernel_rfl) (fun _ _ _ h => h) (by kernel_rfl) (fun w' hw' => ?_) ?_
      rotate_left
      · go_simp; with_reducible rfl
      simp only [Act.put, List.setIfInBounds_toArray, List.set_cons_zero, List.set_cons_succ]
      refine wpR_one 6 rfl (by kernel_rfl) (by kernel_rfl) (fun K hK => ?_)
      go_simp
      refine (mul_any x y _).mono ?_
      rintro e w3 ⟨rfl, rfl⟩
      refine hK _ _ (fun _ => Upd.refl _ _) ?_
      clear hK K
      try simp only [Act.put, List.setIfInBounds_toArray, List.set_cons_zero, List.set_cons_succ]
      refine wpR_take (i := 7) (v := ?_) (Upd.road _) (some 22) rfl (by kernel_rfl) (by kernel_rfl) (by kernel_rfl) (by kernel_rfl) (by kernel_rfl) (fun _ _ _ h => h) (by kernel_rfl) (fun w' hw' => ?_) ?_
      rotate_left
      · go_simp; with_reducible rfl
      simp only [Act.put, List.setIfInBounds_toArray, List.set_cons_zero, List.set_cons_succ]
      refine wpR_take (i := 8) (v := ?_) (Upd.road _) (some 23) rfl (by kernel_rfl) (by kernel_rfl) (by kernel_rfl) (by kernel_rfl) (by kernel_rfl) (fun _ _ _ h => h) (by kernel_rfl) (fun w' hw' => ?_) ?_
      rotate_left
      · go_simp; with_reducible rfl
      simp only [Act.put, List.setIfInBounds_toArray, List.set_cons_zero, List.set_cons_succ]
      refine wpR_one 9 rfl (by kernel_rfl) (by kernel_rfl) (fun K hK => ?_)
      go_simp
      refine hK _ _ (fun h => absurd h (by decide)) ?_
      clear hK K
      obtain ⟨w4, hw4⟩ : ∃ w4, wd.setCell ⟨g, k, none⟩ (.int .u8 (U (fk ^^^ gmul x y))) = w4 := ⟨_, rfl⟩
      rw [hw4] at hnew hun hzn ⊢
      replace hw4 := Lib.hid hw4
      clear hcell hfr
      try simp only [Act.put, List.setIfInBounds_toArray, List.set_cons_zero, List.set_cons_succ]
      refine wpR_done (by kernel_rfl) ?_ _
      go_wp2_with fail
      go_roundw
      case rel => exact ⟨k + 1, by omega, by go_num, hnew, hun, hzn⟩
      case measure => simp [intOf]; omega
    · obtain rfl : k = m := by omega
      have hfin : Hid (OB wr base (.slice (some ⟨g, 0, none⟩) k c) (row k (fun j => f j ^^^ gmul x (s.getD j 0)))) := Lib.hid (by
        have := ho2.out
        rwa [row_congr (g := fun j => f j ^^^ gmul x (s.getD j 0)) (fun j hj => if_pos hj)] at this)
      go_wp2
      go_end0
      exact ⟨rfl, hfin.out, hu.out, hz.out⟩
end Go.Proofs.Ytdgkcgiknfjpjaa
/- Walks of mat: Times. -/
namespace Go.Proofs.Ytdgkcgiknfjpjaa
set_option linter.unusedVariables false
set_option linter.unusedSimpArgs false
open Go Go.RowKit
def fits (La Lb : List (List UInt8)) : Bool := isTab La && isTab Lb && (width La == Lb.length)
theorem ent_get {L : List (List UInt8)} {i j : Nat} {l : List UInt8} {x : UInt8} (hl : L[i]? = some l) (hx : l[j]? = some x) : ent L i j = x := by
  have e : L.getD i [] = l := by rw [List.getD_eq_getElem?_getD, hl]; rfl
  unfold ent
  rw [e, List.getD_eq_getElem?_getD, hx]; rfl
theorem ent_row {L : List (List UInt8)} {i : Nat} {l : List UInt8} (hl : L[i]? = some l) : ent L i = fun j => l.getD j 0 := by
  have e : L.getD i [] = l := by rw [List.getD_eq_getElem?_getD, hl]; rfl
  funext j
  unfold ent
  rw [e]
theorem tab_len {L : List (List UInt8)} (h : isTab L = true) {i : Nat} {l : List UInt8} (hl : L[i]? = some l) : l.length = width L := (isTab_iff.mp h).2.2.2.2 l (List.mem_of_getElem? hl)
set_option maxHeartbeats 8000000 in
set_option maxRecDepth 20000 in
theorem times_ok (A : Option Addr) (n c : Nat) (La : List (List UInt8)) (hc : n ≤ c) (A2 : Option Addr) (n2 c2 : Nat) (Lb : List (List UInt8)) (hc2 : n2 ≤ c2) (w : World) (h : RT w w.heap.size A n La) (h2 : RT w w.heap.size A2 n2 Lb) (hf : fits La Lb = true) :
    Calls Try.prog 57 #[.slice A n c, .slice A2 n2 c2] w fun e w' => ∃ g G C, e = .returned (.tuple #[.slice (some ⟨g, 0, none⟩) n n, .bool true]) ∧ TB w' w.heap.size g n (width Lb) G C (mm n2 (ent La) (ent Lb)) ∧ Below w.heap.size w w' := by
  unfold fits at hf
  rw [Bool.and_eq_true, Bool.and_eq_true, beq_iff_eq] at hf
  obtain ⟨⟨hta, htb⟩, hw⟩ := hf
  have hn := h.1
  have hn2 := h2.1
  obtain ⟨b1, b2, b3, b4, -⟩ := isTab_iff.mp hta
  obtain ⟨b5, b6, b7, b8, -⟩ := isTab_iff.mp htb
  rw [hn] at b1 b2
  rw [hn2] at b5 b6 hw
  rw [hw] at b3 b4
  have i1 := isMatrix_any A n c La hc (by omega) w h
  have i2 := isMatrix_any A2 n2 c2 Lb hc2 (by omega) w h2
  rw [hta] at i1
  rw [htb] at i2
  obtain ⟨ba, oa, A0, c0, la0, rfl, hba, hla0, hca0, -, -, -⟩ := h.at_ (i := 0) (by omega)
  obtain ⟨bb, ob, B0, d0, lb0, rfl, hbb0, hlb0, hcb0, -, -, -⟩ := h2.at_ (i := 0) (by omega)
  have hla := tab_len hta hla0
  have hlb := tab_len htb hlb0
  rw [Nat.add_zero] at hca0 hcb0
  rw [hla, hw] at hca0
  obtain ⟨m, hm⟩ : ∃ m, width Lb = m := ⟨_, rfl⟩
  rw [hlb, hm] at hcb0
  rw [hm] at b7 b8 ⊢
  have hne : ((n2 : Int) != (n2 : Int)) = false := by simp
  have ia0 : (0 : Int) < (n : Int) := by omega
  have ib0 : (0 : Int) < (n2 : Int) := by omega
  have hRa := Lib.hid h
  have hRb := Lib.hid h2
  replace i1 := Lib.hid i1
  replace i2 := Lib.hid i2
  replace hta := Lib.hid hta
  replace htb := Lib.hid htb
  replace hw := Lib.hid hw
  replace hm := Lib.hid hm
  replace hn := Lib.hid hn
  replace hn2 := Lib.hid hn2
  replace hla := Lib.hid hla
  replace hlb := Lib.hid hlb
  replace hla0 := Lib.hid hla0
  replace hlb0 := Lib.hid hlb0
  clear h h2
  go_enter Try.func57, Try.ntmps57
  go_wp2_with fail
  refine i1.out.mono ?_
  rintro e w' ⟨rfl, rfl⟩
  go_wp2_with fail
  refine i2.out.mono ?_
  rintro e w' ⟨rfl, rfl⟩
  go_wp2_with (refine wpl_makeT rfl (.tmp 29) (.tmp 29) rfl n rfl rfl (by omega) ?_; intro w1 hsp1 hb1; replace hsp1 := Lib.hid hsp1; replace hb1 := Lib.hid hb1)
  obtain ⟨g, hg⟩ : ∃ g, w'.heap.size = g := ⟨_, rfl⟩
  have hsp : Hid (Sp w1 g n) := Lib.hid (by rw [← hg]; exact hsp1.out)
  rw [hg]
  replace hg := Lib.hid hg
  clear hca0 hcb0 i1 i2
  go_loopw [33] (fun i wr => ∃ (k : Nat) (G C : Nat → Nat), k ≤ n ∧ i = .int .i64 k ∧ Hid (TB wr w'.heap.size g k m G C (mm n2 (ent La) (ent Lb))) ∧ Hid (Sp wr g n) ∧ Hid (Below w'.heap.size w' wr)) (fun i _ => n - (intOf i).toNat)
  case atStart => exact ⟨0, fun _ => 0, fun _ => 0, Nat.zero_le _, rfl, Lib.hid (TB.empty _ hsp.out (Nat.le_of_eq hg.out) m b7 _ _ _), hsp, hb1⟩
  case round =>
    obtain ⟨k, G, C, hk, rfl, htb1, hsp2, hb2⟩ := hrel
    clear hsp hsp1 hb1
    by_cases hlt : k < n
    · obtain ⟨ba', oa', A3, c3, la, ea, hba3, hla3, hca3, hlc3, hcm3, hrd3⟩ := hRa.out.at_ (i := k) hlt
      injection ea with ea
      injection ea with ea1 ea2 _
      subst ea1 ea2
      have hl3 := tab_len hta.out hla3
      rw [hw.out] at hl3
      rw [hl3] at hca3 hlc3
      replace hca3 := (hb2.out.cell (p := ⟨ba, oa + k, none⟩) hba3).trans hca3
      obtain ⟨bb', ob', B3, d3, lb3, eb, -, hlb3, hcb3, -, -, -⟩ := (hRb.out.low hb2.out).at_ (i := 0) (by omega)
      injection eb with eb
      injection eb with eb1 eb2 _
      subst eb1 eb2
      have hl4 := tab_len htb.out hlb3
      rw [hm.out] at hl4
      rw [hl4, Nat.add_zero] at hcb3
      obtain ⟨vs, hcs⟩ := hsp2.out.cell hlt
      have hfs := hsp2.out.free k
      have hszr : g < wr.heap.size := hsp2.out.lt
      replace hla3 := Lib.hid hla3
      replace hlb3 := Lib.hid hlb3
      replace hl3 := Lib.hid hl3
      replace hl4 := Lib.hid hl4
      have hbase := hb2.out.size
      replace hrd3 := Lib.hid hrd3
      go_wp2_with (refine wpl_make rfl (.tmp 43) (.tmp 43) rfl w'.heap.size m rfl rfl (by omega) hbase ?_; intro w3 ho3 hb3; replace ho3 := Lib.hid ho3; have hcs3 := (hb3.cell (p := ⟨g, k, none⟩) hszr).trans hcs; have hfs3 := (hb3.frozen (p := ⟨g, k, none⟩) hszr).trans hfs; replace hb3 := Lib.hid hb3)
      clear hca3 hcb3 hcs hfs hcs3 hfs3
      have htb3 := (htb1.out.below hb3.out).grow (hsp2.out.below hb3.out) hlt (G' := wr.heap.size) (C' := m) (f := fun _ => 0) (by rw [row_zero]; exact ho3.out) (fun i hi => Nat.ne_of_lt (htb1.out.glt hi).2)
      have hsp3 := (hsp2.out.below hb3.out).set k (.slice (some ⟨wr.heap.size, 0, none⟩) m m)
      have hb4 : Below w'.heap.size w' (w3.setCell ⟨g, k, none⟩ (.slice (some ⟨wr.heap.size, 0, none⟩) m m)) := (hb2.out.trans (hb3.out.mono hbase)).setCell (p := ⟨g, k, none⟩) htb1.out.low _
      obtain ⟨w4, hw4⟩ : ∃ w4, w3.setCell ⟨g, k, none⟩ (.slice (some ⟨wr.heap.size, 0, none⟩) m m) = w4 := ⟨_, rfl⟩
      rw [hw4] at htb3 hsp3 hb4 ⊢
      replace hw4 := Lib.hid hw4
      obtain ⟨G1, hG1⟩ : ∃ G1 : Nat → Nat, (fun i => if i = k then wr.heap.size else G i) = G1 := ⟨_, rfl⟩
      obtain ⟨C1, hC1⟩ : ∃ C1 : Nat → Nat, (fun i => if i = k then m else C i) = C1 := ⟨_, rfl⟩
      rw [hG1, hC1] at htb3
      replace hG1 := Lib.hid hG1
      replace hC1 := Lib.hid hC1
      have htb4 : Hid (TB w4 w'.heap.size g (k + 1) m G1 C1 (fun r => if r = k then (fun c => gsum 0 (fun t => gmul (ent La k t) (ent Lb t c))) else mm n2 (ent La) (ent Lb) r)) := Lib.hid htb3
      replace hsp3 := Lib.hid hsp3
      replace hb4 := Lib.hid hb4
      clear htb3 htb1 hsp2 hb2 hb3 ho3 hbase hszr
      go_loopw [48] (fun i wr => ∃ j : Nat, j ≤ n2 ∧ i = .int .i64 j ∧ Hid (TB wr w'.heap.size g (k + 1) m G1 C1 (fun r => if r = k then (fun c => gsum j (fun t => gmul (ent La k t) (ent Lb t c))) else mm n2 (ent La) (ent Lb) r)) ∧ Hid (Sp wr g n) ∧ Hid (Below w'.heap.size w' wr)) (fun i _ => n2 - (intOf i).toNat)
      case atStart => exact ⟨0, Nat.zero_le _, rfl, htb4, hsp3, hb4⟩
      case round =>
        obtain ⟨j, hj, rfl, htb5, hsp5, hb5⟩ := hrel
        clear htb4 hsp3 hb4
        by_cases hlj : j < n2
        · obtain ⟨x, hx⟩ : ∃ x, la[j]? = some x := ⟨la[j]'(by rw [hl3.out]; exact hlj), List.getElem?_eq_getElem (by rw [hl3.out]; exact hlj)⟩
          obtain ⟨ad, rfl, hadb, hcx⟩ := hrd3.out.get hx
          replace hcx := (hb5.out.cell (p := ad.add j) (by rw [block_of_add]; exact hadb)).trans hcx
          obtain ⟨bb', ob', B4, d4, lb4, eb, -, hlb4, hcb4, hlc4, hcm4, hrd4⟩ := hRb.out.at_ (i := j) hlj
          injection eb with eb
          injection eb with eb1 eb2 _
          subst eb1 eb2
          have hl5 := tab_len htb.out hlb4
          rw [hm.out] at hl5
          rw [hl5] at hcb4
          have hxe := ent_get hla3.out hx
          have hre := ent_row hlb4
          have hstep : Hid (EqM (k + 1) m (fun r => if r = k then (fun c => gsum (j + 1) (fun t => gmul (ent La k t) (ent Lb t c))) else mm n2 (ent La) (ent Lb) r) (fun r => if r = k then (fun c => gsum j (fun t => gmul (ent La k t) (ent Lb t c)) ^^^ gmul x (lb4.getD c 0)) else (fun r => if r = k then (fun c => gsum j (fun t => gmul (ent La k t) (ent Lb t c))) else mm n2 (ent La) (ent Lb) r) r)) := Lib.hid (fun r c hr hc => by
            by_cases e : r = k
            · simp only [if_pos e]
              rw [gsum_succ, hxe, hre]
            · simp only [if_neg e])
          replace hx := Lib.hid hx
          replace hlb4 := Lib.hid hlb4
          replace hl5 := Lib.hid hl5
          replace hxe := Lib.hid hxe
          replace hre := Lib.hid hre
          replace hadb := Lib.hid hadb
          go_wp2_with fail
          obtain ⟨wd, hwd⟩ : ∃ wd, wd = wr.drew := ⟨_, rfl⟩
          have hbb : Below wr.heap.size wr wd := by rw [hwd]; exact (Below.refl _ _).drew
          have htbd := Lib.hid (htb5.out.below hbb)
          have hspd := Lib.hid (hsp5.out.below hbb)
          have hbd := Lib.hid (hb5.out.trans (hbb.mono hb5.out.size))
          have hck := htbd.out.cell (i := k) (by omega)
          have hcb5 := (hbd.out.cell (p := ⟨bb, ob + j, none⟩) hbb0).trans hcb4
          have hrd5 : Hid (Rd wd wd.heap.size B4 lb4) := Lib.hid ((hrd4.keep (fun p hp => hbd.out.cell hp)).more hbd.out.size)
          have hap : Hid (∀ ad, B4 = some ad → ad.block ≠ G1 k) := Lib.hid (fun ad e => by
            obtain ⟨y, hy⟩ : ∃ y, lb4[0]? = some y := ⟨lb4[0]'(by rw [hl5.out]; omega), List.getElem?_eq_getElem (by rw [hl5.out]; omega)⟩
            obtain ⟨ad', e', hlt', -⟩ := hrd4.get hy
            rw [e] at e'
            injection e' with e'
            subst e'
            have := (htbd.out.glt (i := k) (by omega)).1
            omega)
          have hok : Hid (OB wd w'.heap.size (.slice (some ⟨G1 k, 0, none⟩) m (C1 k)) (row m (fun c => gsum j (fun t => gmul (ent La k t) (ent Lb t c))))) := Lib.hid (by
            have := htbd.out.own k (by omega)
            simp only [eq_self, if_true] at this
            exact this)
          have hg1 : g ≠ G1 k := fun e => htbd.out.gne (i := k) (by omega) e.symm
          have hbb1 : bb ≠ G1 k := by have := (htbd.out.glt (i := k) (by omega)).1; omega
          clear hrd4 hcx hcb4 htb5 hsp5 hb5 hbb
          refine wpR_region (Upd (fun b => b = G1 k)) 9999 (by kernel_rfl) ?_
          (rw [← hwd]; replace hwd := Lib.hid hwd)
          refine wpR_take (i := 0) (v := ?_) (Upd.road _) (some 53) rfl (by kernel_rfl) (by kernel_rfl) (by kernel_rfl) (by kernel_rfl) (by kernel_rfl) (fun _ _ _ h => h) (by kernel_rfl) (fun w' hw' => ?_) ?_
          rotate_left
          · go_simp; with_reducible rfl
          simp only [Act.put, List.setIfInBounds_toArray, List.set_cons_zero, List.set_cons_succ]
          refine wpR_take (i := 1) (v := ?_) (Upd.road _) (some 54) rfl (by kernel_rfl) (by kernel_rfl) (by kernel_rfl) (by kernel_rfl) (by kernel_rfl) (fun _ _ _ h => h) (by kernel_rfl) (fun w' hw' => ?_) ?_
          rotate_left
          · go_simp; with_reducible rfl
          simp only [Act.put, List.setIfInBounds_toArray, List.set_cons_zero, List.set_cons_succ]
          refine wpR_take (i := 2) (v := ?_) (Upd.road _) (some 55) rfl (by kernel_rfl) (by kernel_rfl) (by kernel_rfl) (by kernel_rfl) (by kernel_rfl) (fun _ _ _ h => h) (by kernel_rfl) (fun w' hw' => ?_) ?_
          rotate_left
          · go_simp; with_reducible rfl
          simp only [Act.put, List.setIfInBounds_toArray, List.set_cons_zero, List.set_cons_succ]
          refine wpR_take (i := 3) (v := ?_) (Upd.road _) (some 56) rfl (by kernel_rfl) (by kernel_rfl) (by kernel_rfl) (by kernel_rfl) (by kernel_rfl) (fun _ _ _ h => h) (by kernel_rfl) (fun w' hw' => ?_) ?_
          rotate_left
          · have q := (hw'.cell (p := ⟨g, k, none⟩) hspd.out.lt hg1).trans hck; go_simp; with_reducible rfl
          simp only [Act.put, List.setIfInBounds_toArray, List.set_cons_zero, List.set_cons_succ]
          refine wpR_take (i := 4) (v := ?_) (Upd.road _) (some 57) rfl (by kernel_rfl) (by kernel_rfl) (by kernel_rfl) (by kernel_rfl) (by kernel_rfl) (fun _ _ _ h => h) (by kernel_rfl) (fun w' hw' => ?_) ?_
          rotate_left
          · go_simp; with_reducible rfl
          simp only [Act.put, List.setIfInBounds_toArray, List.set_cons_zero, List.set_cons_succ]
          refine wpR_take (i := 5) (v := ?_) (Upd.road _) (some 58) rfl (by kernel_rfl) (by kernel_rfl) (by kernel_rfl) (by kernel_rfl) (by kernel_rfl) (fun _ _ _ h => h) (by kernel_rfl) (fun w' hw' => ?_) ?_
          rotate_left
          · go_simp; with_reducible rfl
          simp only [Act.put, List.setIfInBounds_toArray, List.set_cons_zero, List.set_cons_succ]
          refine wpR_take (i := 6) (v := ?_) (Upd.road _) (some 59) rfl (by kernel_rfl) (by kernel_rfl) (by kernel_rfl) (by kernel_rfl) (by kernel_rfl) (fun _ _ _ h => h) (by kernel_rfl) (fun w' hw' => ?_) ?_
          rotate_left
          · go_simp; with_reducible rfl
          simp only [Act.put, List.setIfInBounds_toArray, List.set_cons_zero, List.set_cons_succ]
          refine wpR_take (i := 7) (v := ?_) (Upd.road _) (some 60) rfl (by kernel_rfl) (by kernel_rfl) (by kernel_rfl) (by kernel_rfl) (by kernel_rfl) (fun _ _ _ h => h) (by kernel_rfl) (fun w' hw' => ?_) ?_
          rotate_left
          · have q := (hw'.cell (p := ⟨bb, ob + j, none⟩) (Nat.lt_of_lt_of_le hbb0 hbd.out.size) hbb1).trans hcb5; go_simp; with_reducible rfl
          simp only [Act.put, List.setIfInBounds_toArray, List.set_cons_zero, List.set_cons_succ]
          refine wpR_take (i := 8) (v := ?_) (Upd.road _) (some 61) rfl (by kernel_rfl) (by kernel_rfl) (by kernel_rfl) (by kernel_rfl) (by kernel_rfl) (fun _ _ _ h => h) (by kernel_rfl) (fun w' hw' => ?_) ?_
          rotate_left
          · go_simp; with_reducible rfl
          simp only [Act.put, List.setIfInBounds_toArray, List.set_cons_zero, List.set_cons_succ]
          refine wpR_one 9 rfl (by kernel_rfl) (by kernel_rfl) (fun K hK => ?_)
          go_simp
          refine (addMultiple_any w'.heap.size (G1 k) m (C1 k) (fun c => gsum j (fun t => gmul (ent La k t) (ent Lb t c))) B4 d4 lb4 hl5.out (by omega) x _ hok.out hrd5.out hap.out).mono ?_
          rintro e w6 ⟨rfl, ho6, hu6, hz6⟩
          refine hK _ _ (fun _ => hu6) ?_
          clear hK K
          have htb6 := htbd.out.put (i := k) (by omega) ho6 hu6
          have hsp6 := hspd.out.keep (hu6.2.2.2.2 g hspd.out.lt (fun e => htbd.out.gne (i := k) (by omega) e.symm))
          have hb6 := Upd.to_below hbd.out hu6 hbd.out.size (fun k' hk' => by rw [hk']; exact (htbd.out.glt (i := k) (by omega)).1)
          replace htb6 := Lib.hid (htb6.congr (hstep.out))
          replace hsp6 := Lib.hid hsp6
          replace hb6 := Lib.hid hb6
          clear ho6 hu6 hz6
          try simp only [Act.put, List.setIfInBounds_toArray, List.set_cons_zero, List.set_cons_succ]
          refine wpR_done (by kernel_rfl) ?_ _
          clear hck hcb5 hap hok hrd5 htbd hspd hbd
          go_wp2_with fail
          go_roundw
          case rel => exact ⟨j + 1, by omega, by go_num, htb6, hsp6, hb6⟩
          case measure => simp [intOf]; omega
        · obtain rfl : j = n2 := by omega
          have htbe := Lib.hid (htb5.out.congr (M' := mm j (ent La) (ent Lb)) (fun r c hr hc => by
            by_cases e : r = k
            · subst e; simp only [eq_self, if_true]; rfl
            · simp only [if_neg e]))
          clear htb5
          go_wp2_with fail
          go_roundw
          case rel => exact ⟨k + 1, G1, C1, by omega, by go_num, htbe, hsp5, hb5⟩
          case measure => simp [intOf]; omega
    · obtain rfl : k = n := by omega
      go_wp2_with fail
      go_ret2
      exact ⟨g, G, C, rfl, htb1.out, hb2.out⟩
set_option maxHeartbeats 8000000 in
set_option maxRecDepth 20000 in
theorem times_no (A : Option Addr) (n c : Nat) (La : List (List UInt8)) (hc : n ≤ c) (hcm : c ≤ 9223372036854775807) (A2 : Option Addr) (n2 c2 : Nat) (Lb : List (List UInt8)) (hc2 : n2 ≤ c2) (hcm2 : c2 ≤ 9223372036854775807) (w : World) (h : RT w w.heap.size A n La) (h2 : RT w w.heap.size A2 n2 Lb) (hf : fits La Lb = false) :
    Calls Try.prog 57 #[.slice A n c, .slice A2 n2 c2] w fun e w' => e = .returned (.tuple #[.slice none 0 0, .bool false]) ∧ w' = w := by
  unfold fits at hf
  have i1 := isMatrix_any A n c La hc (by omega) w h
  have i2 := isMatrix_any A2 n2 c2 Lb hc2 (by omega) w h2
  cases hta : isTab La with
  | false =>
    rw [hta] at i1
    replace i1 := Lib.hid i1
    replace i2 := Lib.hid i2
    replace hta := Lib.hid hta
    replace hf := Lib.hid hf
    clear h h2
    go_enter Try.func57, Try.ntmps57
    go_wp2_with fail
    refine i1.out.mono ?_
    rintro e w' ⟨rfl, rfl⟩
    go_wp2_with fail
    go_ret2
    exact ⟨rfl, rfl⟩
  | true =>
    rw [hta] at i1 hf
    cases htb : isTab Lb with
    | false =>
      rw [htb] at i2
      replace i1 := Lib.hid i1
      replace i2 := Lib.hid i2
      replace hta := Lib.hid hta
      replace htb := Lib.hid htb
      replace hf := Lib.hid hf
      clear h h2
      go_enter Try.func57, Try.ntmps57
      go_wp2_with fail
      refine i1.out.mono ?_
      rintro e w' ⟨rfl, rfl⟩
      go_wp2_with fail
      refine i2.out.mono ?_
      rintro e w' ⟨rfl, rfl⟩
      go_wp2_with fail
      go_ret2
      exact ⟨rfl, rfl⟩
    | true =>
      rw [htb] at i2 hf
      rw [Bool.true_and, Bool.true_and, beq_eq_false_iff_ne] at hf
      have hn := h.1
      have hn2 := h2.1
      have b1 := (isTab_iff.mp hta).1
      obtain ⟨ba, oa, A0, c0, la0, rfl, hba, hla0, hca0, -, -, -⟩ := h.at_ (i := 0) (by omega)
      have hla := tab_len hta hla0
      rw [Nat.add_zero, hla] at hca0
      obtain ⟨m, hm⟩ : ∃ m, width La = m := ⟨_, rfl⟩
      rw [hm] at hca0 hf
      rw [hn2] at hf
      have hne : ((m : Int) != (n2 : Int)) = true := by simp; omega
      have ia0 : (0 : Int) < (n : Int) := by omega
      replace i1 := Lib.hid i1
      replace i2 := Lib.hid i2
      replace hta := Lib.hid hta
      replace htb := Lib.hid htb
      replace hf := Lib.hid hf
      replace hm := Lib.hid hm
      replace hn := Lib.hid hn
      replace hn2 := Lib.hid hn2
      replace hla := Lib.hid hla
      replace hla0 := Lib.hid hla0
      clear h h2
      go_enter Try.func57, Try.ntmps57
      go_wp2_with fail
      refine i1.out.mono ?_
      rintro e w' ⟨rfl, rfl⟩
      go_wp2_with fail
      refine i2.out.mono ?_
      rintro e w' ⟨rfl, rfl⟩
      go_wp2_with fail
      go_ret2
      exact ⟨rfl, rfl⟩
end Go.Proofs.Ytdgkcgiknfjpjaa
/- Walks of mat: codeElement, Code, identity. -/
namespace Go.Proofs.Ytdgkcgiknfjpjaa
set_option linter.unusedVariables false
set_option linter.unusedSimpArgs false
open Go Go.RowKit
def codeE (k : Nat) : Mx := fun i j => if k ≤ i then ginv (fx i j) else if i = j then 1 else 0
theorem fx_eq {x y : Nat} (hx : x < 256) (hy : y < 256) : fx x y = UInt8.ofNat x ^^^ UInt8.ofNat y := by
  unfold fx
  apply UInt8.toNat_inj.mp
  have h := Nat.xor_lt_two_pow (n := 8) (x := x) (y := y) hx hy
  rw [UInt8.toNat_xor, UInt8.toNat_ofNat', UInt8.toNat_ofNat', UInt8.toNat_ofNat', Nat.mod_eq_of_lt hx, Nat.mod_eq_of_lt hy, Nat.mod_eq_of_lt h]
theorem ofNat_ne {x y : Nat} (hx : x < 256) (hy : y < 256) (h : x ≠ y) : UInt8.ofNat x ≠ UInt8.ofNat y := fun e => h (by
  have := congrArg UInt8.toNat e
  rw [UInt8.toNat_ofNat', UInt8.toNat_ofNat', Nat.mod_eq_of_lt hx, Nat.mod_eq_of_lt hy] at this
  exact this)
theorem fx_ne {x y : Nat} (hx : x < 256) (hy : y < 256) (h : x ≠ y) : fx x y ≠ 0 := by
  rw [fx_eq hx hy]
  exact xne (ofNat_ne hx hy h)
set_option maxHeartbeats 4000000 in
set_option maxRecDepth 10000 in
theorem codeElement_any (k i j : Nat) (hi : i < 256) (hj : j < k) (hk : k < 256) (w : World) :
    Calls Try.prog 82 #[.int .i64 k, .int .i64 i, .int .i64 j] w fun e w' => e = .returned (.int .u8 (U (codeE k i j))) ∧ w = w' := by
  by_cases h1 : k ≤ i
  · have hres : Hid (codeE k i j = gmul 1 (gpow (UInt8.ofNat (i ^^^ j)) 254)) := Lib.hid (by unfold codeE; rw [if_pos h1, gmul_one_l]; rfl)
    have hne : UInt8.ofNat (i ^^^ j) ≠ 0 := fx_ne hi (by omega) (by omega)
    have hx := xor_i64 i j (by omega) (by omega)
    obtain ⟨x, hxe⟩ : ∃ x, i ^^^ j = x := ⟨_, rfl⟩
    rw [hxe] at hx hne hres
    have d1 : decide ((k : Int) ≤ (i : Int)) = true := decide_eq_true (by omega)
    have hd := div_any 1 (UInt8.ofNat x) w
    rw [if_neg hne] at hd
    replace hd := Lib.hid hd
    replace hxe := Lib.hid hxe
    replace hne := Lib.hid hne
    go_enter Try.func82, Try.ntmps82
    go_wp2_with fail
    refine hd.out.mono ?_
    rintro e w' ⟨rfl, rfl⟩
    go_wp2_with fail
    go_ret
    exact ⟨by rw [hres.out]; rfl, rfl⟩
  · have d1 : decide ((k : Int) ≤ (i : Int)) = false := decide_eq_false (by omega)
    by_cases h2 : i = j
    · have hres : Hid (codeE k i j = 1) := Lib.hid (by unfold codeE; rw [if_neg h1, if_pos h2])
      have d2 : ((i : Int) == (j : Int)) = true := by simp; omega
      replace h2 := Lib.hid h2
      go_enter Try.func82, Try.ntmps82
      go_wp2
      go_ret
      exact ⟨by rw [hres.out]; rfl, rfl⟩
    · have hres : Hid (codeE k i j = 0) := Lib.hid (by unfold codeE; rw [if_neg h1, if_neg h2])
      have d2 : ((i : Int) == (j : Int)) = false := by simp; omega
      replace h2 := Lib.hid h2
      go_enter Try.func82, Try.ntmps82
      go_wp2
      go_ret
      exact ⟨by rw [hres.out]; rfl, rfl⟩
set_option maxHeartbeats 8000000 in
set_option maxRecDepth 20000 in
theorem code_ok (m n : Nat) (h1 : 1 ≤ m) (hmn : m ≤ n) (h32 : n ≤ 32) (w : World) :
    Calls Try.prog 55 #[.int .i64 m, .int .i64 n] w fun e w' => ∃ g G C, e = .returned (.slice (some ⟨g, 0, none⟩) n n) ∧ TB w' w.heap.size g n m G C (codeE m) ∧ Below w.heap.size w w' := by
  have d1 : decide ((m : Int) < 1) = false := decide_eq_false (by omega)
  have d2 : decide ((n : Int) < (m : Int)) = false := decide_eq_false (by omega)
  have d3 : decide ((32 : Int) < (n : Int)) = false := decide_eq_false (by omega)
  have hww : w = w := rfl
  obtain ⟨w', hw'⟩ : ∃ w', w = w' := ⟨_, rfl⟩
  rw [hw']
  clear hw' hww
  go_enter Try.func55, Try.ntmps55
  go_wp2_with (refine wpl_makeT rfl (.tmp 19) (.tmp 19) rfl n rfl rfl (by omega) ?_; intro w1 hsp1 hb1; replace hsp1 := Lib.hid hsp1; replace hb1 := Lib.hid hb1)
  obtain ⟨g, hg⟩ : ∃ g, w'.heap.size = g := ⟨_, rfl⟩
  have hsp : Hid (Sp w1 g n) := Lib.hid (by rw [← hg]; exact hsp1.out)
  rw [hg]
  replace hg := Lib.hid hg
  go_loopw [23] (fun i wr => ∃ (k : Nat) (G C : Nat → Nat), k ≤ n ∧ i = .int .i64 k ∧ Hid (TB wr w'.heap.size g k m G C (codeE m)) ∧ Hid (Sp wr g n) ∧ Hid (Below w'.heap.size w' wr)) (fun i _ => n - (intOf i).toNat)
  case atStart => exact ⟨0, fun _ => 0, fun _ => 0, Nat.zero_le _, rfl, Lib.hid (TB.empty _ hsp.out (Nat.le_of_eq hg.out) m h1 _ _ _), hsp, hb1⟩
  case round =>
    obtain ⟨k, G, C, hk, rfl, htb1, hsp2, hb2⟩ := hrel
    clear hsp hsp1 hb1
    by_cases hlt : k < n
    · obtain ⟨vs, hcs⟩ := hsp2.out.cell hlt
      have hfs := hsp2.out.free k
      have hszr : g < wr.heap.size := hsp2.out.lt
      have hbase := hb2.out.size
      have ho3 := trivial
      have hg32 : Hid (∀ W, Sp W g n → W.cell? ⟨g, k, none⟩ = some vs → True) := Lib.hid (fun _ _ _ => trivial)
      go_wp2_with (refine wpl_make rfl (.tmp 28) (.tmp 28) rfl w'.heap.size m rfl rfl (by omega) hbase ?_; intro w3 ho3 hb3; replace ho3 := Lib.hid ho3; have hcs3 := (hb3.cell (p := ⟨g, k, none⟩) hszr).trans hcs; have hfs3 := (hb3.frozen (p := ⟨g, k, none⟩) hszr).trans hfs; replace hb3 := Lib.hid hb3; have hcn : (w3.setCell ⟨g, k, none⟩ (.slice (some ⟨wr.heap.size, 0, none⟩) m m)).cell? ⟨g, k, none⟩ = some (.slice (some ⟨wr.heap.size, 0, none⟩) m m) := by obtain ⟨cs, q1, q2⟩ := hsp2.out.below hb3.out; exact blk_cell (blk_set q1 k _) (by simp [show k < cs.size by omega]))
      clear hcs hfs hcs3 hfs3 hcn hg32
      have htb3 := (htb1.out.below hb3.out).grow (hsp2.out.below hb3.out) hlt (G' := wr.heap.size) (C' := m) (f := fun _ => 0) (by rw [row_zero]; exact ho3.out) (fun i hi => Nat.ne_of_lt (htb1.out.glt hi).2)
      have hsp3 := (hsp2.out.below hb3.out).set k (.slice (some ⟨wr.heap.size, 0, none⟩) m m)
      have hb4 : Below w'.heap.size w' (w3.setCell ⟨g, k, none⟩ (.slice (some ⟨wr.heap.size, 0, none⟩) m m)) := (hb2.out.trans (hb3.out.mono hbase)).setCell (p := ⟨g, k, none⟩) htb1.out.low _
      obtain ⟨w4, hw4⟩ : ∃ w4, w3.setCell ⟨g, k, none⟩ (.slice (some ⟨wr.heap.size, 0, none⟩) m m) = w4 := ⟨_, rfl⟩
      rw [hw4] at htb3 hsp3 hb4 ⊢
      replace hw4 := Lib.hid hw4
      obtain ⟨G1, hG1⟩ : ∃ G1 : Nat → Nat, (fun i => if i = k then wr.heap.size else G i) = G1 := ⟨_, rfl⟩
      obtain ⟨C1, hC1⟩ : ∃ C1 : Nat → Nat, (fun i => if i = k then m else C i) = C1 := ⟨_, rfl⟩
      rw [hG1, hC1] at htb3
      replace hG1 := Lib.hid hG1
      replace hC1 := Lib.hid hC1
      have htb4 : Hid (TB w4 w'.heap.size g (k + 1) m G1 C1 (fun r => if r = k then (fun c => if c < 0 then codeE m k c else 0) else codeE m r)) := Lib.hid (htb3.congr (fun r c _ _ => by
        by_cases e : r = k
        · simp only [if_pos e, Nat.not_lt_zero, if_false]
        · simp only [if_neg e]))
      replace hsp3 := Lib.hid hsp3
      replace hb4 := Lib.hid hb4
      clear htb3 htb1 hsp2 hb2 hb3 ho3 hbase hszr
      go_loopw [36] (fun i wr => ∃ j : Nat, j ≤ m ∧ i = .int .i64 j ∧ Hid (TB wr w'.heap.size g (k + 1) m G1 C1 (fun r => if r = k then (fun c => if c < j then codeE m k c else 0) else codeE m r)) ∧ Hid (Sp wr g n) ∧ Hid (Below w'.heap.size w' wr)) (fun i _ => m - (intOf i).toNat)
      case atStart => exact ⟨0, Nat.zero_le _, rfl, htb4, hsp3, hb4⟩
      case round =>
        obtain ⟨j, hj, rfl, htb5, hsp5, hb5⟩ := hrel
        clear htb4 hsp3 hb4
        by_cases hlj : j < m
        · have hstep : Hid (EqM (k + 1) m (fun r => if r = k then (fun c => if c < j + 1 then codeE m k c else 0) else codeE m r) (fun r => if r = k then (fun c => if c = j then codeE m k j else if c < j then codeE m k c else 0) else (fun r => if r = k then (fun c => if c < j then codeE m k c else 0) else codeE m r) r)) := Lib.hid (fun r c hr hc => by
            by_cases e : r = k
            · simp only [if_pos e]
              by_cases e2 : c = j
              · subst e2; rw [if_pos (by omega), if_pos rfl]
              · rw [if_neg e2]
                by_cases e3 : c < j
                · rw [if_pos e3, if_pos (by omega)]
                · rw [if_neg e3, if_neg (by omega)]
            · simp only [if_neg e])
          have hj0 : (j : Int) < (m : Int) := by omega
          go_wp2_with fail
          obtain ⟨wd, hwd⟩ : ∃ wd, wd = wr.drew := ⟨_, rfl⟩
          have hbb : Below wr.heap.size wr wd := by rw [hwd]; exact (Below.refl _ _).drew
          have htbd := Lib.hid (htb5.out.below hbb)
          have hspd := Lib.hid (hsp5.out.below hbb)
          have hbd := Lib.hid (hb5.out.trans (hbb.mono hb5.out.size))
          have hck := htbd.out.cell (i := k) (by omega)
          have hg1 : g ≠ G1 k := fun e => htbd.out.gne (i := k) (by omega) e.symm
          have hok : OB wd w'.heap.size (.slice (some ⟨G1 k, 0, none⟩) m (C1 k)) (row m (fun c => if c < j then codeE m k c else 0)) := by
            have := htbd.out.own k (by omega)
            simp only [eq_self, if_true] at this
            exact this
          obtain ⟨g', eg, -, hgl, hc6, hf6, hst0⟩ := hok.store (k := j) (by rw [row_length]; exact hlj)
          injection eg with eg
          injection eg with eg
          subst eg
          have hst := hst0 (codeE m k j)
          rw [row_set] at hst
          clear hok hst0 htb5 hsp5 hb5 hbb
          refine wpR_region (Upd (fun _ => False)) 10 (by kernel_rfl) ?_
          (rw [← hwd]; replace hwd := Lib.hid hwd)
          refine wpR_take (i := 0) (v := ?_) (Upd.road _) (some 39) rfl (by kernel_rfl) (by kernel_rfl) (by kernel_rfl) (by kernel_rfl) (by kernel_rfl) (fun _ _ _ h => h) (by kernel_rfl) (fun w' hw' => ?_) ?_
          rotate_left
          · go_simp; with_reducible rfl
          simp only [Act.put, List.setIfInBounds_toArray, List.set_cons_zero, List.set_cons_succ]
          refine wpR_take (i := 1) (v := ?_) (Upd.road _) (some 40) rfl (by kernel_rfl) (by kernel_rfl) (by kernel_rfl) (by kernel_rfl) (by kernel_rfl) (fun _ _ _ h => h) (by kernel_rfl) (fun w' hw' => ?_) ?_
          rotate_left
          · go_simp; with_reducible rfl
          simp only [Act.put, List.setIfInBounds_toArray, List.set_cons_zero, List.set_cons_succ]
          refine wpR_take (i := 2) (v := ?_) (Upd.road _) (some 41) rfl (by kernel_rfl) (by kernel_rfl) (by kernel_rfl) (by kernel_rfl) (by kernel_rfl) (fun _ _ _ h => h) (by kernel_rfl) (fun w' hw' => ?_) ?_
          rotate_left
          · go_simp; with_reducible rfl
          simp only [Act.put, List.setIfInBounds_toArray, List.set_cons_zero, List.set_cons_succ]
          refine wpR_take (i := 3) (v := ?_) (Upd.road _) (some 42) rfl (by kernel_rfl) (by kernel_rfl) (by kernel_rfl) (by kernel_rfl) (by kernel_rfl) (fun _ _ _ h => h) (by kernel_rfl) (fun w' hw' => ?_) ?_
          rotate_left
          · have q := (hw'.cell (p := ⟨g, k, none⟩) hspd.out.lt (fun h => h)).trans hck; go_simp; with_reducible rfl
          simp only [Act.put, List.setIfInBounds_toArray, List.set_cons_zero, List.set_cons_succ]
          refine wpR_take (i := 4) (v := ?_) (Upd.road _) (some 43) rfl (by kernel_rfl) (by kernel_rfl) (by kernel_rfl) (by kernel_rfl) (by kernel_rfl) (fun _ _ _ h => h) (by kernel_rfl) (fun w' hw' => ?_) ?_
          rotate_left
          · go_simp; with_reducible rfl
          simp only [Act.put, List.setIfInBounds_toArray, List.set_cons_zero, List.set_cons_succ]
          refine wpR_take (i := 5) (v := ?_) (Upd.road _) (some 44) rfl (by kernel_rfl) (by kernel_rfl) (by kernel_rfl) (by kernel_rfl) (by kernel_rfl) (fun _ _ _ h => h) (by kernel_rfl) (fun w' hw' => ?_) ?_
          rotate_left
          · go_simp; with_reducible rfl
          simp only [Act.put, List.setIfInBounds_toArray, List.set_cons_zero, List.set_cons_succ]
          refine wpR_take (i := 6) (v := ?_) (Upd.road _) (some 45) rfl (by kernel_rfl) (by kernel_rfl) (by kernel_rfl) (by kernel_rfl) (by kernel_rfl) (fun _ _ _ h => h) (by kernel_rfl) (fun w' hw' => ?_) ?_
          rotate_left
          · go_simp; with_reducible rfl
          simp only [Act.put, List.setIfInBounds_toArray, List.set_cons_zero, List.set_cons_succ]
          refine wpR_take (i := 7) (v := ?_) (Upd.road _) (some 46) rfl (by kernel_rfl) (by kernel_rfl) (by kernel_rfl) (by kernel_rfl) (by kernel_rfl) (fun _ _ _ h => h) (by kernel_rfl) (fun w' hw' => ?_) ?_
          rotate_left
          · go_simp; with_reducible rfl
          simp only [Act.put, List.setIfInBounds_toArray, List.set_cons_zero, List.set_cons_succ]
          refine wpR_one 8 rfl (by kernel_rfl) (by kernel_rfl) (fun K hK => ?_)
          go_simp
          refine (codeElement_any m k j (by omega) hlj (by omega) _).mono ?_
          rintro e w5 ⟨rfl, rfl⟩
          refine hK _ _ (fun _ => Upd.refl _ _) ?_
          clear hK K
          try simp only [Act.put, List.setIfInBounds_toArray, List.set_cons_zero, List.set_cons_succ]
          refine wpR_take (i := 9) (v := ?_) (Upd.road _) (some 48) rfl (by kernel_rfl) (by kernel_rfl) (by kernel_rfl) (by kernel_rfl) (by kernel_rfl) (fun _ _ _ h => h) (by kernel_rfl) (fun w' hw' => ?_) ?_
          rotate_left
          · go_simp; with_reducible rfl
          simp only [Act.put, List.setIfInBounds_toArray, List.set_cons_zero, List.set_cons_succ]
          refine wpR_one 10 rfl (by kernel_rfl) (by kernel_rfl) (fun K hK => ?_)
          go_simp
          refine hK _ _ (fun h => absurd h (by decide)) ?_
          clear hK K
          have htb6 := htbd.out.put (i := k) (by omega) hst (Upd.of_grown (blk_grown wd (G1 k) j _) rfl)
          have hsp6 := hspd.out.keep (blk_other (w := wd) (g := G1 k) (k := g) hg1 j (.int .u8 (U (codeE m k j))))
          have hb6 := hbd.out.setCell (p := ⟨G1 k, j, none⟩) (htbd.out.glt (i := k) (by omega)).1 (.int .u8 (U (codeE m k j)))
          obtain ⟨w6, hw6⟩ : ∃ w6, wd.setCell ⟨G1 k, j, none⟩ (.int .u8 (U (codeE m k j))) = w6 := ⟨_, rfl⟩
          rw [hw6] at htb6 hsp6 hb6 ⊢
          replace hw6 := Lib.hid hw6
          replace htb6 := Lib.hid (htb6.congr hstep.out)
          replace hsp6 := Lib.hid hsp6
          replace hb6 := Lib.hid hb6
          clear hst hc6 hf6
          try simp only [Act.put, List.setIfInBounds_toArray, List.set_cons_zero, List.set_cons_succ]
          refine wpR_done (by kernel_rfl) ?_ _
          clear hck hgl htbd hspd hbd
          go_wp2_with fail
          go_roundw
          case rel => exact ⟨j + 1, by omega, by go_num, htb6, hsp6, hb6⟩
          case measure => simp [intOf]; omega
        · obtain rfl : j = m := by omega
          have htbe := Lib.hid (htb5.out.congr (M' := codeE j) (fun r c hr hc => by
            by_cases e : r = k
            · simp only [if_pos e, if_pos hc]; rw [e]
            · simp only [if_neg e]))
          clear htb5
          go_wp2_with fail
          go_roundw
          case rel => exact ⟨k + 1, G1, C1, by omega, by go_num, htbe, hsp5, hb5⟩
          case measure => simp [intOf]; omega
    · obtain rfl : k = n := by omega
      go_wp2_with fail
      go_ret
      exact ⟨g, G, C, rfl, htb1.out, hb2.out⟩
set_option maxHeartbeats 8000000 in
set_option maxRecDepth 20000 in
theorem code_no (m n : Int) (hm : -9223372036854775808 ≤ m ∧ m ≤ 9223372036854775807) (h : m < 1 ∨ n < m ∨ 32 < n) (w : World) :
    Calls Try.prog 55 #[.int .i64 m, .int .i64 n] w fun e w' => e = .returned (.slice none 0 0) ∧ w' = w := by
  by_cases h1 : m < 1
  · have d1 : decide (m < 1) = true := decide_eq_true h1
    go_enter Try.func55, Try.ntmps55
    go_wp2_with fail
    go_ret
    exact ⟨rfl, rfl⟩
  · have d1 : decide (m < 1) = false := decide_eq_false h1
    by_cases h2 : n < m
    · have d2 : decide (n < m) = true := decide_eq_true h2
      go_enter Try.func55, Try.ntmps55
      go_wp2_with fail
      go_ret
      exact ⟨rfl, rfl⟩
    · have d2 : decide (n < m) = false := decide_eq_false h2
      have d3 : decide (32 < n) = true := decide_eq_true (by omega)
      go_enter Try.func55, Try.ntmps55
      go_wp2_with fail
      go_ret
      exact ⟨rfl, rfl⟩
theorem codeE_id {n i j : Nat} (hi : i < n) : codeE n i j = idM i j := by unfold codeE idM; rw [if_neg (by omega)]
theorem identity_any (n : Nat) (h1 : 1 ≤ n) (h32 : n ≤ 32) (w : World) :
    Calls Try.prog 85 #[.int .i64 n] w fun e w' => ∃ g G C, e = .returned (.slice (some ⟨g, 0, none⟩) n n) ∧ TB w' w.heap.size g n n G C idM ∧ Below w.heap.size w w' := by
  go_enter Try.func85, Try.ntmps85
  go_wp2_with fail
  refine (code_ok n n h1 (Nat.le_refl _) h32 _).mono ?_
  rintro e w' ⟨g, G, C, rfl, htb, hb⟩
  replace htb := Lib.hid htb
  replace hb := Lib.hid hb
  go_wp2_with fail
  go_ret
  exact ⟨g, G, C, rfl, htb.out.congr (fun i j hi _ => (codeE_id hi).symm), hb.out⟩
end Go.Proofs.Ytdgkcgiknfjpjaa
/- Walks of mat: scale, copyRows, and what reduce does. -/
namespace Go.Proofs.Ytdgkcgiknfjpjaa
set_option linter.unusedVariables false
set_option linter.unusedSimpArgs false
open Go Go.RowKit
set_option maxHeartbeats 4000000 in
set_option maxRecDepth 10000 in
theorem scale_any (base g m c : Nat) (f : Nat → UInt8) (hm : m ≤ 1000000) (x : UInt8) (w : World) (ho : OB w base (.slice (some ⟨g, 0, none⟩) m c) (row m f)) :
    Calls Try.prog 98 #[.slice (some ⟨g, 0, none⟩) m c, .int .u8 (U x)] w fun e w' => e = .returned (.tuple #[]) ∧ OB w' base (.slice (some ⟨g, 0, none⟩) m c) (row m (fun j => gmul x (f j))) ∧ Upd (fun k => k = g) w w' ∧ w'.heap.size = w.heap.size := by
  replace ho := Lib.hid ho
  go_enter Try.func98, Try.ntmps98
  go_wp2
  go_loopw [8] (fun i wr => ∃ k : Nat, k ≤ m ∧ i = .int .i64 k ∧ Hid (OB wr base (.slice (some ⟨g, 0, none⟩) m c) (row m (fun j => if j < k then gmul x (f j) else f j))) ∧ Hid (Upd (fun k => k = g) w wr) ∧ Hid (wr.heap.size = w.heap.size)) (fun i _ => m - (intOf i).toNat)
  case atStart => exact ⟨0, Nat.zero_le _, rfl, Lib.hid (by rw [row_congr (g := f) (fun j _ => if_neg (by omega))]; exact ho.out), Lib.hid (Upd.refl _ _), Lib.hid rfl⟩
  case round =>
    obtain ⟨k, hk, rfl, ho2, hu, hz⟩ := hrel
    by_cases hlt : k < m
    · obtain ⟨g', eg, -, hgl, hcell, hfr, hst⟩ := ho2.out.store (k := k) (by rw [row_length]; exact hlt)
      injection eg with eg
      injection eg with eg
      subst eg
      have hgk : (row m (fun j => if j < k then gmul x (f j) else f j))[k]'(by rw [row_length]; exact hlt) = f k := by
        have h1 := row_get hlt (fun j => if j < k then gmul x (f j) else f j)
        rw [List.getElem?_eq_getElem (by rw [row_length]; exact hlt)] at h1
        injection h1 with h1
        rw [h1, if_neg (by omega)]
      rw [hgk] at hcell
      have hst2 := hst (gmul x (f k))
      rw [row_set] at hst2
      have hnew : Hid (OB (wr.setCell ⟨g, k, none⟩ (.int .u8 (U (gmul x (f k))))) base (.slice (some ⟨g, 0, none⟩) m c) (row m (fun j => if j < k + 1 then gmul x (f j) else f j))) := Lib.hid (by
        rw [row_congr (g := fun j => if j = k then gmul x (f k) else if j < k then gmul x (f j) else f j)]
        · exact hst2
        · intro j hj
          by_cases e : j = k
          · subst e
            rw [if_pos (by omega), if_pos rfl]
          · rw [if_neg e]
            by_cases e2 : j < k
            · rw [if_pos e2, if_pos (by omega)]
            · rw [if_neg e2, if_neg (by omega)])
      obtain ⟨fk, hfk⟩ : ∃ fk, f k = fk := ⟨_, rfl⟩
      rw [hfk] at hcell hnew
      have hun : Hid (Upd (fun k => k = g) w (wr.setCell ⟨g, k, none⟩ (.int .u8 (U (gmul x fk))))) := Lib.hid ((Upd.road (fun k => k = g)).2 hu.out (Upd.of_grown (blk_grown wr g k _) rfl))
      have hzn : Hid ((wr.setCell ⟨g, k, none⟩ (.int .u8 (U (gmul x fk)))).heap.size = w.heap.size) := Lib.hid (by rw [← hz.out]; simp)
      clear hst hst2 hgk hgl
      replace hfk := Lib.hid hfk
      go_wp2_with fail
      refine (mul_any x fk _).mono ?_
      rintro e w3 ⟨rfl, rfl⟩
      go_wp2_with fail
      go_roundw
      case rel => exact ⟨k + 1, by omega, by go_num, hnew, hun, hzn⟩
      case measure => simp [intOf]; omega
    · obtain rfl : k = m := by omega
      have hfin : Hid (OB wr base (.slice (some ⟨g, 0, none⟩) k c) (row k (fun j => gmul x (f j)))) := Lib.hid (by
        have := ho2.out
        rwa [row_congr (g := fun j => gmul x (f j)) (fun j hj => if_pos hj)] at this)
      go_wp2
      go_end0
      exact ⟨rfl, hfin.out, hu.out, hz.out⟩
set_option maxHeartbeats 8000000 in
set_option maxRecDepth 20000 in
theorem copyRows_any (A : Option Addr) (n c : Nat) (L : List (List UInt8)) (hc : n ≤ c) (ht : isTab L = true) (w : World) (h : RT w w.heap.size A n L) :
    Calls Try.prog 84 #[.slice A n c] w fun e w' => ∃ g G C, e = .returned (.slice (some ⟨g, 0, none⟩) n n) ∧ TB w' w.heap.size g n (width L) G C (ent L) ∧ Below w.heap.size w w' := by
  have hn := h.1
  obtain ⟨b1, b2, b7, b8, -⟩ := isTab_iff.mp ht
  rw [hn] at b1 b2
  obtain ⟨m, hm⟩ : ∃ m, width L = m := ⟨_, rfl⟩
  rw [hm] at b7 b8 ⊢
  have hRa := Lib.hid h
  replace ht := Lib.hid ht
  replace hn := Lib.hid hn
  replace hm := Lib.hid hm
  clear h
  obtain ⟨w', hw'⟩ : ∃ w', w = w' := ⟨_, rfl⟩
  rw [hw'] at hRa ⊢
  clear hw'
  obtain ⟨ba, oa, -, -, -, rfl, hba, -⟩ := hRa.out.at_ (i := 0) (by omega)
  go_enter Try.func84, Try.ntmps84
  go_wp2_with (refine wpl_makeT rfl (.tmp 7) (.tmp 7) rfl n rfl rfl (by omega) ?_; intro w1 hsp1 hb1; replace hsp1 := Lib.hid hsp1; replace hb1 := Lib.hid hb1)
  obtain ⟨g, hg⟩ : ∃ g, w'.heap.size = g := ⟨_, rfl⟩
  have hsp : Hid (Sp w1 g n) := Lib.hid (by rw [← hg]; exact hsp1.out)
  rw [hg]
  replace hg := Lib.hid hg
  go_loopw [11] (fun i wr => ∃ (k : Nat) (G C : Nat → Nat), k ≤ n ∧ i = .int .i64 k ∧ Hid (TB wr w'.heap.size g k m G C (ent L)) ∧ Hid (Sp wr g n) ∧ Hid (Below w'.heap.size w' wr)) (fun i _ => n - (intOf i).toNat)
  case atStart => exact ⟨0, fun _ => 0, fun _ => 0, Nat.zero_le _, rfl, Lib.hid (TB.empty _ hsp.out (Nat.le_of_eq hg.out) m b7 _ _ _), hsp, hb1⟩
  case round =>
    obtain ⟨k, G, C, hk, rfl, htb1, hsp2, hb2⟩ := hrel
    clear hsp hsp1 hb1
    by_cases hlt : k < n
    · obtain ⟨ba', oa', A3, c3, la, ea, hba3, hla3, hca3, hlc3, hcm3, hrd3⟩ := hRa.out.at_ (i := k) hlt
      injection ea with ea
      injection ea with ea1 ea2 _
      subst ea1 ea2
      have hl3 := tab_len ht.out hla3
      rw [hm.out] at hl3
      rw [hl3] at hca3 hlc3
      replace hca3 := (hb2.out.cell (p := ⟨ba, oa + k, none⟩) hba3).trans hca3
      have hre := ent_row hla3
      have hrow : Hid (row m (ent L k) = la) := Lib.hid (by rw [hre, ← hl3]; exact row_of la)
      have hrd4 : Hid (Rd wr wr.heap.size A3 la) := Lib.hid ((hrd3.keep (fun p hp => hb2.out.cell hp)).more hb2.out.size)
      have hcl := Lib.hid (clone_any A3 m c3 la hl3 (by omega) wr hrd4.out)
      clear hrd3 hre
      replace hl3 := Lib.hid hl3
      replace hla3 := Lib.hid hla3
      go_wp2_with fail
      refine hcl.out.mono ?_
      rintro e w3 ⟨v3, rfl, ho3, hb3⟩
      obtain ⟨G', C', rfl, -, -, hgb, hgl, -⟩ := row_at ho3 (by rw [hl3.out]; omega)
      rw [hl3.out] at ho3 ⊢
      have hsp3 := hsp2.out.below hb3
      obtain ⟨vs, hcs⟩ := hsp3.cell hlt
      have hfs := hsp3.free k
      have hgr := (htb1.out.below hb3).grow hsp3 hlt (G' := G') (C' := C') (f := ent L k) (by rw [hrow.out]; exact ho3.more hb2.out.size) (fun i hi => by have := (htb1.out.glt hi).2; omega)
      have hsp4 := hsp3.set k (.slice (some ⟨G', 0, none⟩) m C')
      have hb4 : Below w'.heap.size w' (w3.setCell ⟨g, k, none⟩ (.slice (some ⟨G', 0, none⟩) m C')) := (hb2.out.trans (hb3.mono hb2.out.size)).setCell (p := ⟨g, k, none⟩) htb1.out.low _
      have hgn : Hid (TB (w3.setCell ⟨g, k, none⟩ (.slice (some ⟨G', 0, none⟩) m C')) w'.heap.size g (k + 1) m (fun i => if i = k then G' else G i) (fun i => if i = k then C' else C i) (ent L)) := Lib.hid (hgr.congr (fun i j _ _ => by
        by_cases e : i = k
        · simp only [if_pos e]; rw [e]
        · simp only [if_neg e]))
      replace hsp4 := Lib.hid hsp4
      replace hb4 := Lib.hid hb4
      clear hgr hsp3 ho3 hb3 hcl
      go_wp2_with fail
      go_roundw
      case rel => exact ⟨k + 1, _, _, by omega, by go_num, hgn, hsp4, hb4⟩
      case measure => simp [intOf]; omega
    · obtain rfl : k = n := by omega
      go_wp2_with fail
      go_ret
      exact ⟨g, G, C, rfl, htb1.out, hb2.out⟩
/-! ### columns -/
theorem Cols.swap {n c p : Nat} {L : Mx} (h : Cols n c L) (hcp : c ≤ p) (hp : p < n) : Cols n c (swapR c p L) := fun i j hi hj => by
  unfold swapR
  by_cases e1 : i = c
  · rw [if_pos e1, h p j hp hj]; unfold idM; rw [if_neg (by omega), if_neg (by omega)]
  · rw [if_neg e1]
    by_cases e2 : i = p
    · rw [if_pos e2, h c j (by omega) hj]; unfold idM; rw [if_neg (by omega), if_neg (by omega)]
    · rw [if_neg e2]; exact h i j hi hj
theorem Cols.scale {n c : Nat} {L : Mx} (h : Cols n c L) (hc : c < n) (f : UInt8) : Cols n c (scaleR c f L) := fun i j hi hj => by
  unfold scaleR
  by_cases e1 : i = c
  · rw [if_pos e1, h c j hc hj]; unfold idM; rw [if_neg (by omega), if_neg (by omega), gmul_zero_r]
  · rw [if_neg e1]; exact h i j hi hj
theorem Cols.add {n c r : Nat} {L : Mx} (h : Cols n c L) (hc : c < n) (f : UInt8) : Cols n c (addR r c f L) := fun i j hi hj => by
  unfold addR
  by_cases e1 : i = r
  · subst e1
    rw [if_pos rfl, h c j hc hj, h i j hi hj]
    have : idM c j = 0 := by unfold idM; rw [if_neg (by omega)]
    rw [this, gmul_zero_r, x0]
  · rw [if_neg e1]; exact h i j hi hj
theorem Cols.next {n c : Nat} {L : Mx} (h : Cols n c L) (h1 : L c c = 1) (h0 : ∀ i, i < n → i ≠ c → L i c = 0) : Cols n (c + 1) L := fun i j hi hj => by
  by_cases e : j = c
  · subst e
    unfold idM
    by_cases e2 : i = j
    · subst e2; rw [if_pos rfl]; exact h1
    · rw [if_neg e2]; exact h0 i hi e2
  · exact h i j hi (by omega)
def swapf (c p : Nat) (G : Nat → Nat) : Nat → Nat := fun i => if i = c then G p else if i = p then G c else G i
theorem swapf_in {c p n : Nat} (hc : c < n) (hp : p < n) (G : Nat → Nat) {i : Nat} (hi : i < n) : ∃ j, j < n ∧ swapf c p G i = G j := by
  unfold swapf
  split
  · exact ⟨p, hp, rfl⟩
  · split
    · exact ⟨c, hc, rfl⟩
    · exact ⟨i, hi, rfl⟩
theorem TB.sp {w : World} {base g n m : Nat} {G C : Nat → Nat} {M : Mx} (h : TB w base g n m G C M) : ∃ N, n ≤ N ∧ Sp w g N := by
  obtain ⟨cs, h1, h2, -⟩ := h.spine
  exact ⟨cs.size, h2, cs, h1, rfl⟩
theorem TB.swap {w : World} {base g n m : Nat} {G C : Nat → Nat} {M : Mx} (h : TB w base g n m G C M) {c p : Nat} (hc : c < n) (hp : p < n) :
    TB ((w.setCell ⟨g, c, none⟩ (.slice (some ⟨G p, 0, none⟩) m (C p))).setCell ⟨g, p, none⟩ (.slice (some ⟨G c, 0, none⟩) m (C c))) base g n m (swapf c p G) (swapf c p C) (swapR c p M) := by
  obtain ⟨cs, h1, h2, h3⟩ := h.spine
  have hk : ∀ k, k ≠ g → ((w.setCell ⟨g, c, none⟩ (.slice (some ⟨G p, 0, none⟩) m (C p))).setCell ⟨g, p, none⟩ (.slice (some ⟨G c, 0, none⟩) m (C c))).heap[k]? = w.heap[k]? := fun k hk => (blk_other hk p _).trans (blk_other hk c _)
  refine ⟨⟨_, blk_set (blk_set h1 c _) p _, by simpa using h2, fun i hi => ?_⟩, h.low, fun i hi => ?_, fun i j hi hj hne => ?_, h.wide⟩
  · unfold swapf
    by_cases e1 : i = p
    · subst e1
      rw [Array.getElem?_setIfInBounds_self_of_lt (by simp; omega)]
      by_cases e2 : i = c
      · subst e2; simp
      · simp [e2]
    · rw [Array.getElem?_setIfInBounds_ne (by omega)]
      by_cases e2 : i = c
      · subst e2
        rw [Array.getElem?_setIfInBounds_self_of_lt (by omega)]
        simp
      · rw [Array.getElem?_setIfInBounds_ne (by omega)]
        simp only [if_neg e1, if_neg e2]
        exact h3 i hi
  · have hrow : ∀ j, j < n → OB ((w.setCell ⟨g, c, none⟩ (.slice (some ⟨G p, 0, none⟩) m (C p))).setCell ⟨g, p, none⟩ (.slice (some ⟨G c, 0, none⟩) m (C c))) base (.slice (some ⟨G j, 0, none⟩) m (C j)) (row m (M j)) := fun j hj =>
      row_keep (h.own j hj) (fun k hk' => by injection hk' with hk'; subst hk'; exact hk _ (h.gne hj))
    unfold swapf swapR
    by_cases e1 : i = c
    · simp only [if_pos e1]; exact hrow p hp
    · simp only [if_neg e1]
      by_cases e2 : i = p
      · simp only [if_pos e2]; exact hrow c hc
      · simp only [if_neg e2]; exact hrow i hi
  · unfold swapf
    have ha := h.apart
    by_cases e1 : i = c <;> by_cases e2 : j = c <;> by_cases e3 : i = p <;> by_cases e4 : j = p <;> simp only [e1, e2, e3, e4, if_true, if_false, eq_self] <;> first
      | (exfalso; omega)
      | (refine ha _ _ (by omega) (by omega) (by omega))
      | (simp only [show ¬ p = c by omega, show ¬ c = p by omega, if_false, if_true]; refine ha _ _ (by omega) (by omega) (by omega))
theorem TB.sep {w : World} {b1 b2 g1 g2 n m k l : Nat} {G1 C1 G2 C2 : Nat → Nat} {M1 M2 : Mx} (h1 : TB w b1 g1 n m G1 C1 M1) (h2 : TB w b2 g2 k l G2 C2 M2) {i : Nat} (hi : i < k) : G2 i ≠ g1 := fun e => by
  obtain ⟨N, -, hs⟩ := h1.sp
  exact Sp.ne hs (l := row l (M2 i)) (m := G2 i) (by have := h2.own i hi; rw [row_length]; exact this) (by rw [row_length]; exact h2.wide) e
end Go.Proofs.Ytdgkcgiknfjpjaa
/- Walks of mat: reduce. -/
namespace Go.Proofs.Ytdgkcgiknfjpjaa
set_option linter.unusedVariables false
set_option linter.unusedSimpArgs false
open Go Go.RowKit
theorem TB.at_ {w : World} {base g n m : Nat} {G C : Nat → Nat} {M : Mx} (h : TB w base g n m G C M) {i j : Nat} (hi : i < n) (hj : j < m) : w.cell? ⟨G i, j, none⟩ = some (.int .u8 (U (M i j))) := by
  obtain ⟨h1, -, -⟩ := h.rd hi
  obtain ⟨ad, e, -, hc⟩ := h1.get (row_get hj (M i))
  injection e with e
  subst e
  unfold Addr.add at hc
  split at hc
  · rename_i h0; subst h0; exact hc
  · simpa using hc
theorem TB.sub {w : World} {base g n m : Nat} {G C : Nat → Nat} {M : Mx} (h : TB w base g n m G C M) {i : Nat} (hi : i < n) {b : Nat} (hb : b = G i) : base ≤ b := by rw [hb]; exact (h.glt hi).1
theorem Rd.at_row {w : World} {base g n m : Nat} {G C : Nat → Nat} {M : Mx} (h : TB w base g n m G C M) {i : Nat} (hi : i < n) : Rd w w.heap.size (some ⟨G i, 0, none⟩) (row m (M i)) := (h.rd hi).1
set_option maxHeartbeats 16000000 in
set_option maxRecDepth 20000 in
theorem reduce_no (base n gl gr : Nat) (Gl Cl Gr Cr : Nat → Nat) (L R : Mx) (c : Nat) (hc : c < n) (hn : n ≤ 32) (h0 : ∀ p, c ≤ p → p < n → L p c = 0) (w : World) (hL : TB w base gl n n Gl Cl L) :
    Calls Try.prog 86 #[.slice (some ⟨gl, 0, none⟩) n n, .slice (some ⟨gr, 0, none⟩) n n, .int .i64 c] w fun e w' => e = .returned (.bool false) ∧ w' = w := by
  replace hL := Lib.hid hL
  replace h0 := Lib.hid h0
  have hcn : (c : Int) < (n : Int) := by omega
  go_enter Try.func86, Try.ntmps86
  go_wp2
  go_loop [7] (fun i => ∃ k : Nat, c ≤ k ∧ k ≤ n ∧ i = .int .i64 k) (fun i => n - (intOf i).toNat)
  case atStart => exact ⟨c, Nat.le_refl _, by omega, rfl⟩
  case round =>
    obtain ⟨k, hk1, hk2, rfl⟩ := hrel
    by_cases hlt : k < n
    · have hck := hL.out.cell hlt
      have hcx := hL.out.at_ hlt hc
      rw [h0.out k hk1 hlt] at hcx
      have hz : ((0 : UInt8) == 0) = true := rfl
      have hz2 : (U 0 == 0) = true := rfl
      have d : decide ((k : Int) < (n : Int)) = true := decide_eq_true (by omega)
      go_wp2
      all_goals
        go_round
        case rel => exact ⟨k + 1, by omega, by omega, by go_num⟩
        case measure => simp [intOf]; omega
    · obtain rfl : k = n := by omega
      have d : decide ((k : Int) < (k : Int)) = false := decide_eq_false (by omega)
      go_wp2
      go_ret
      exact ⟨rfl, rfl⟩
set_option maxHeartbeats 16000000 in
set_option maxRecDepth 20000 in
theorem reduce_yes (base n gl gr : Nat) (Gl Cl Gr Cr : Nat → Nat) (L R : Mx) (c : Nat) (hc : c < n) (hn : n ≤ 32) (hd : gl ≠ gr) (hD : ∀ i j, i < n → j < n → Gl i ≠ Gr j) (p : Nat) (hcp0 : c ≤ p) (hp : p < n) (hne : L p c ≠ 0) (h0 : ∀ r, c ≤ r → r < p → L r c = 0) (w : World) (hL : TB w base gl n n Gl Cl L) (hR : TB w base gr n n Gr Cr R) :
    Calls Try.prog 86 #[.slice (some ⟨gl, 0, none⟩) n n, .slice (some ⟨gr, 0, none⟩) n n, .int .i64 c] w fun e w' => (∃ Gl' Cl' Gr' Cr' L' R', e = .returned (.bool true) ∧ TB w' base gl n n Gl' Cl' L' ∧ TB w' base gr n n Gr' Cr' R' ∧ (∀ i j, i < n → j < n → Gl' i ≠ Gr' j) ∧ (∀ A, Inv n A L R → Inv n A L' R') ∧ (Cols n c L → Cols n (c + 1) L')) ∧ Below base w w' := by
  have hb := Lib.hid (Below.refl base w)
  have hbz : base ≤ w.heap.size := Nat.le_trans hL.low (Nat.le_of_lt hL.lt)
  replace hL := Lib.hid hL
  replace hR := Lib.hid hR
  replace h0 := Lib.hid h0
  replace hD := Lib.hid hD
  have hcn : (c : Int) < (n : Int) := by omega
  go_enter Try.func86, Try.ntmps86
  go_wp2
  go_loop [7] (fun i => ∃ k : Nat, c ≤ k ∧ k ≤ p ∧ i = .int .i64 k) (fun i => p - (intOf i).toNat)
  case atStart => exact ⟨c, Nat.le_refl _, hcp0, rfl⟩
  case round =>
    obtain ⟨k, hk1, hk2, rfl⟩ := hrel
    have hlt : k < n := by omega
    have d : decide ((k : Int) < (n : Int)) = true := decide_eq_true (by omega)
    by_cases hkp : k < p
    · have hck := hL.out.cell hlt
      have hcx := hL.out.at_ hlt hc
      rw [h0.out k hk1 hkp] at hcx
      have hz : ((0 : UInt8) == 0) = true := rfl
      have hz2 : (U 0 == 0) = true := rfl
      replace hne := Lib.hid hne
      go_wp2
      all_goals
        go_round
        case rel => exact ⟨k + 1, by omega, by omega, by go_num⟩
        case measure => simp [intOf]; omega
    · obtain rfl : p = k := by omega
      have hck := hL.out.cell hlt
      have hcx := hL.out.at_ hlt hc
      obtain ⟨x0, hx0⟩ : ∃ x, L p c = x := ⟨_, rfl⟩
      have hxz : (x0 == 0) = false := by rw [beq_eq_false_iff_ne, ← hx0]; exact hne
      rw [hx0] at hcx
      replace hx0 := Lib.hid hx0
      replace hne := Lib.hid hne
      have hkn : ((p : Int) == (n : Int)) = false := by rw [beq_eq_false_iff_ne]; omega
      go_wp2_with fail
      clear hck hcx hxz d
      replace hne := hne.out
      obtain ⟨wd1, hwd⟩ : ∃ wd, wd = w.drew := ⟨_, rfl⟩
      have hbb : Below w.heap.size w wd1 := by rw [hwd]; exact (Below.refl _ _).drew
      replace hL := Lib.hid (hL.out.below hbb)
      replace hR := Lib.hid (hR.out.below hbb)
      replace hb := Lib.hid (hb.out.trans (hbb.mono (Nat.le_trans hbz hb.out.size)))
      have hcc := hL.out.cell hc
      have hcp := hL.out.cell hp
      have hfc := hL.out.free c
      have hglt := hL.out.lt
      clear hbb
      refine wpR_region (Upd (fun _ => False)) 13 (by kernel_rfl) ?_
      (rw [← hwd]; replace hwd := Lib.hid hwd)
      refine wpR_take (i := 0) (v := ?_) (Upd.road _) (some 32) rfl (by kernel_rfl) (by kernel_rfl) (by kernel_rfl) (by kernel_rfl) (by kernel_rfl) (fun _ _ _ h => h) (by kernel_rfl) (fun w' hw' => ?_) ?_
      rotate_left
      · go_simp; with_reducible rfl
      simp only [Act.put, List.setIfInBounds_toArray, List.set_cons_zero, List.set_cons_succ]
      refine wpR_take (i := 1) (v := ?_) (Upd.road _) (some 33) rfl (by kernel_rfl) (by kernel_rfl) (by kernel_rfl) (by kernel_rfl) (by kernel_rfl) (fun _ _ _ h => h) (by kernel_rfl) (fun w' hw' => ?_) ?_
      rotate_left
      · go_simp; with_reducible rfl
      simp only [Act.put, List.setIfInBounds_toArray, List.set_cons_zero, List.set_cons_succ]
      refine wpR_takeU (i := 2) (v := ?_) (Upd.road _) (some 34) rfl (by kernel_rfl) (by kernel_rfl) (by kernel_rfl) (by kernel_rfl) (fun _ _ _ h => h) (by kernel_rfl) (fun w' => ?_) ?_
      rotate_left
      · go_simp; with_reducible rfl
      simp only [Act.put, List.setIfInBounds_toArray, List.set_cons_zero, List.set_cons_succ]
      refine wpR_takeU (i := 3) (v := ?_) (Upd.road _) (some 35) rfl (by kernel_rfl) (by kernel_rfl) (by kernel_rfl) (by kernel_rfl) (fun _ _ _ h => h) (by kernel_rfl) (fun w' => ?_) ?_
      rotate_left
      · go_simp; with_reducible rfl
      simp only [Act.put, List.setIfInBounds_toArray, List.set_cons_zero, List.set_cons_succ]
      refine wpR_take (i := 4) (v := ?_) (Upd.road _) (some 36) rfl (by kernel_rfl) (by kernel_rfl) (by kernel_rfl) (by kernel_rfl) (by kernel_rfl) (fun _ _ _ h => h) (by kernel_rfl) (fun w' hw' => ?_) ?_
      rotate_left
      · go_simp; with_reducible rfl
      simp only [Act.put, List.setIfInBounds_toArray, List.set_cons_zero, List.set_cons_succ]
      refine wpR_take (i := 5) (v := ?_) (Upd.road _) (some 37) rfl (by kernel_rfl) (by kernel_rfl) (by kernel_rfl) (by kernel_rfl) (by kernel_rfl) (fun _ _ _ h => h) (by kernel_rfl) (fun w' hw' => ?_) ?_
      rotate_left
      · go_simp; with_reducible rfl
      simp only [Act.put, List.setIfInBounds_toArray, List.set_cons_zero, List.set_cons_succ]
      refine wpR_take (i := 6) (v := ?_) (Upd.road _) (some 38) rfl (by kernel_rfl) (by kernel_rfl) (by kernel_rfl) (by kernel_rfl) (by kernel_rfl) (fun _ _ _ h => h) (by kernel_rfl) (fun w' hw' => ?_) ?_
      rotate_left
      · go_simp; with_reducible rfl
      simp only [Act.put, List.setIfInBounds_toArray, List.set_cons_zero, List.set_cons_succ]
      refine wpR_take (i := 7) (v := ?_) (Upd.road _) (some 39) rfl (by kernel_rfl) (by kernel_rfl) (by kernel_rfl) (by kernel_rfl) (by kernel_rfl) (fun _ _ _ h => h) (by kernel_rfl) (fun w' hw' => ?_) ?_
      rotate_left
      · have q := (hw'.cell (p := ⟨gl, p, none⟩) hglt (fun h => h)).trans hcp; go_simp; with_reducible rfl
      simp only [Act.put, List.setIfInBounds_toArray, List.set_cons_zero, List.set_cons_succ]
      refine wpR_takeU (i := 8) (v := ?_) (Upd.road _) (some 40) rfl (by kernel_rfl) (by kernel_rfl) (by kernel_rfl) (by kernel_rfl) (fun _ _ _ h => h) (by kernel_rfl) (fun w' => ?_) ?_
      rotate_left
      · go_simp; with_reducible rfl
      simp only [Act.put, List.setIfInBounds_toArray, List.set_cons_zero, List.set_cons_succ]
      refine wpR_takeU (i := 9) (v := ?_) (Upd.road _) (some 41) rfl (by kernel_rfl) (by kernel_rfl) (by kernel_rfl) (by kernel_rfl) (fun _ _ _ h => h) (by kernel_rfl) (fun w' => ?_) ?_
      rotate_left
      · go_simp; with_reducible rfl
      simp only [Act.put, List.setIfInBounds_toArray, List.set_cons_zero, List.set_cons_succ]
      refine wpR_takeU (i := 10) (v := ?_) (Upd.road _) (some 42) rfl (by kernel_rfl) (by kernel_rfl) (by kernel_rfl) (by kernel_rfl) (fun _ _ _ h => h) (by kernel_rfl) (fun w' => ?_) ?_
      rotate_left
      · go_simp; with_reducible rfl
      simp only [Act.put, List.setIfInBounds_toArray, List.set_cons_zero, List.set_cons_succ]
      refine wpR_take (i := 11) (v := ?_) (Upd.road _) (some 43) rfl (by kernel_rfl) (by kernel_rfl) (by kernel_rfl) (by kernel_rfl) (by kernel_rfl) (fun _ _ _ h => h) (by kernel_rfl) (fun w' hw' => ?_) ?_
      rotate_left
      · have q := (hw'.cell (p := ⟨gl, c, none⟩) hglt (fun h => h)).trans hcc; go_simp; with_reducible rfl
      simp only [Act.put, List.setIfInBounds_toArray, List.set_cons_zero, List.set_cons_succ]
      refine wpR_take (i := 12) (v := ?_) (Upd.road _) (some 44) rfl (by kernel_rfl) (by kernel_rfl) (by kernel_rfl) (by kernel_rfl) (by kernel_rfl) (fun _ _ _ h => h) (by kernel_rfl) (fun w' hw' => ?_) ?_
      rotate_left
      · go_simp; with_reducible rfl
      simp only [Act.put, List.setIfInBounds_toArray, List.set_cons_zero, List.set_cons_succ]
      refine wpR_one 13 rfl (by kernel_rfl) (by kernel_rfl) (fun K hK => ?_)
      go_simp
      refine hK _ _ (fun h => absurd h (by decide)) ?_
      clear hK K
      obtain ⟨v', hcp2⟩ : ∃ v', (wd1.setCell ⟨gl, c, none⟩ (.slice (some ⟨Gl p, 0, none⟩) n (Cl p))).cell? ⟨gl, p, none⟩ = some v' := by
        obtain ⟨N, hN1, hN2⟩ := hL.out.sp
        exact (hN2.set c _).cell (by omega)
      have hfp2 : (wd1.setCell ⟨gl, c, none⟩ (.slice (some ⟨Gl p, 0, none⟩) n (Cl p))).frozen? ⟨gl, p, none⟩ = false := by
        obtain ⟨N, hN1, hN2⟩ := hL.out.sp
        exact (hN2.set c _).free p
      clear hcc hcp hfc
      try simp only [Act.put, List.setIfInBounds_toArray, List.set_cons_zero, List.set_cons_succ]
      refine wpR_take (i := 14) (v := ?_) (Upd.road _) (some 45) rfl (by kernel_rfl) (by kernel_rfl) (by kernel_rfl) (by kernel_rfl) (by kernel_rfl) (fun _ _ _ h => h) (by kernel_rfl) (fun w' hw' => ?_) ?_
      rotate_left
      · go_simp; with_reducible rfl
      simp only [Act.put, List.setIfInBounds_toArray, List.set_cons_zero, List.set_cons_succ]
      refine wpR_one 15 rfl (by kernel_rfl) (by kernel_rfl) (fun K hK => ?_)
      go_simp
      refine hK _ _ (fun h => absurd h (by decide)) ?_
      clear hK K
      clear hcp2 hfp2 hglt
      have hsw := hL.out.swap hc hp
      have hug : Upd (fun k => k = gl) wd1 ((wd1.setCell ⟨gl, c, none⟩ (.slice (some ⟨Gl p, 0, none⟩) n (Cl p))).setCell ⟨gl, p, none⟩ (.slice (some ⟨Gl c, 0, none⟩) n (Cl c))) := (Upd.road (fun k => k = gl)).2 (Upd.of_grown (blk_grown _ _ _ _) rfl) (Upd.of_grown (blk_grown _ _ _ _) rfl)
      obtain ⟨W1, hW1⟩ : ∃ x, (wd1.setCell ⟨gl, c, none⟩ (.slice (some ⟨Gl p, 0, none⟩) n (Cl p))).setCell ⟨gl, p, none⟩ (.slice (some ⟨Gl c, 0, none⟩) n (Cl c)) = x := ⟨_, rfl⟩
      rw [hW1] at hsw hug ⊢
      replace hW1 := Lib.hid hW1
      replace hb := Lib.hid (Upd.to_below hb.out hug (Nat.le_trans hbz hb.out.size) (fun k hk => by rw [hk]; exact hL.out.low))
      replace hR := Lib.hid (hR.out.upd hug (fun e => hd e.symm) (fun i hi => hL.out.sep hR.out hi))
      replace hL := Lib.hid hsw
      clear hug hsw
      try simp only [Act.put, List.setIfInBounds_toArray, List.set_cons_zero, List.set_cons_succ]
      refine wpR_done (by kernel_rfl) ?_ _
      go_wp2_with fail
      obtain ⟨wd2, hwd⟩ : ∃ wd, wd = W1.drew := ⟨_, rfl⟩
      have hbb : Below W1.heap.size W1 wd2 := by rw [hwd]; exact (Below.refl _ _).drew
      replace hL := Lib.hid (hL.out.below hbb)
      replace hR := Lib.hid (hR.out.below hbb)
      replace hb := Lib.hid (hb.out.trans (hbb.mono (Nat.le_trans hbz hb.out.size)))
      have hcc := hR.out.cell hc
      have hcp := hR.out.cell hp
      have hfc := hR.out.free c
      have hglt := hR.out.lt
      clear hbb
      refine wpR_region (Upd (fun _ => False)) 13 (by kernel_rfl) ?_
      (rw [← hwd]; replace hwd := Lib.hid hwd)
      refine wpR_take (i := 0) (v := ?_) (Upd.road _) (some 46) rfl (by kernel_rfl) (by kernel_rfl) (by kernel_rfl) (by kernel_rfl) (by kernel_rfl) (fun _ _ _ h => h) (by kernel_rfl) (fun w' hw' => ?_) ?_
      rotate_left
      · go_simp; with_reducible rfl
      simp only [Act.put, List.setIfInBounds_toArray, List.set_cons_zero, List.set_cons_succ]
      refine wpR_take (i := 1) (v := ?_) (Upd.road _) (some 47) rfl (by kernel_rfl) (by kernel_rfl) (by kernel_rfl) (by kernel_rfl) (by kernel_rfl) (fun _ _ _ h => h) (by kernel_rfl) (fun w' hw' => ?_) ?_
      rotate_left
      · go_simp; with_reducible rfl
      simp only [Act.put, List.setIfInBounds_toArray, List.set_cons_zero, List.set_cons_succ]
      refine wpR_takeU (i := 2) (v := ?_) (Upd.road _) (some 48) rfl (by kernel_rfl) (by kernel_rfl) (by kernel_rfl) (by kernel_rfl) (fun _ _ _ h => h) (by kernel_rfl) (fun w' => ?_) ?_
      rotate_left
      · go_simp; with_reducible rfl
      simp only [Act.put, List.setIfInBounds_toArray, List.set_cons_zero, List.set_cons_succ]
      refine wpR_takeU (i := 3) (v := ?_) (Upd.road _) (some 49) rfl (by kernel_rfl) (by kernel_rfl) (by kernel_rfl) (by kernel_rfl) (fun _ _ _ h => h) (by kernel_rfl) (fun w' => ?_) ?_
      rotate_left
      · go_simp; with_reducible rfl
      simp only [Act.put, List.setIfInBounds_toArray, List.set_cons_zero, List.set_cons_succ]
      refine wpR_take (i := 4) (v := ?_) (Upd.road _) (some 50) rfl (by kernel_rfl) (by kernel_rfl) (by kernel_rfl) (by kernel_rfl) (by kernel_rfl) (fun _ _ _ h => h) (by kernel_rfl) (fun w' hw' => ?_) ?_
      rotate_left
      · go_simp; with_reducible rfl
      simp only [Act.put, List.setIfInBounds_toArray, List.set_cons_zero, List.set_cons_succ]
      refine wpR_take (i := 5) (v := ?_) (Upd.road _) (some 51) rfl (by kernel_rfl) (by kernel_rfl) (by kernel_rfl) (by kernel_rfl) (by kernel_rfl) (fun _ _ _ h => h) (by kernel_rfl) (fun w' hw' => ?_) ?_
      rotate_left
      · go_simp; with_reducible rfl
      simp only [Act.put, List.setIfInBounds_toArray, List.set_cons_zero, List.set_cons_succ]
      refine wpR_take (i := 6) (v := ?_) (Upd.road _) (some 52) rfl (by kernel_rfl) (by kernel_rfl) (by kernel_rfl) (by kernel_rfl) (by kernel_rfl) (fun _ _ _ h => h) (by kernel_rfl) (fun w' hw' => ?_) ?_
      rotate_left
      · go_simp; with_reducible rfl
      simp only [Act.put, List.setIfInBounds_toArray, List.set_cons_zero, List.set_cons_succ]
      refine wpR_take (i := 7) (v := ?_) (Upd.road _) (some 53) rfl (by kernel_rfl) (by kernel_rfl) (by kernel_rfl) (by kernel_rfl) (by kernel_rfl) (fun _ _ _ h => h) (by kernel_rfl) (fun w' hw' => ?_) ?_
      rotate_left
      · have q := (hw'.cell (p := ⟨gr, p, none⟩) hglt (fun h => h)).trans hcp; go_simp; with_reducible rfl
      simp only [Act.put, List.setIfInBounds_toArray, List.set_cons_zero, List.set_cons_succ]
      refine wpR_takeU (i := 8) (v := ?_) (Upd.road _) (some 54) rfl (by kernel_rfl) (by kernel_rfl) (by kernel_rfl) (by kernel_rfl) (fun _ _ _ h => h) (by kernel_rfl) (fun w' => ?_) ?_
      rotate_left
      · go_simp; with_reducible rfl
      simp only [Act.put, List.setIfInBounds_toArray, List.set_cons_zero, List.set_cons_succ]
      refine wpR_takeU (i := 9) (v := ?_) (Upd.road _) (some 55) rfl (by kernel_rfl) (by kernel_rfl) (by kernel_rfl) (by kernel_rfl) (fun _ _ _ h => h) (by kernel_rfl) (fun w' => ?_) ?_
      rotate_left
      · go_simp; with_reducible rfl
      simp only [Act.put, List.setIfInBounds_toArray, List.set_cons_zero, List.set_cons_succ]
      refine wpR_takeU (i := 10) (v := ?_) (Upd.road _) (some 56) rfl (by kernel_rfl) (by kernel_rfl) (by kernel_rfl) (by kernel_rfl) (fun _ _ _ h => h) (by kernel_rfl) (fun w' => ?_) ?_
      rotate_left
      · go_simp; with_reducible rfl
      simp only [Act.put, List.setIfInBounds_toArray, List.set_cons_zero, List.set_cons_succ]
      refine wpR_take (i := 11) (v := ?_) (Upd.road _) (some 57) rfl (by kernel_rfl) (by kernel_rfl) (by kernel_rfl) (by kernel_rfl) (by kernel_rfl) (fun _ _ _ h => h) (by kernel_rfl) (fun w' hw' => ?_) ?_
      rotate_left
      · have q := (hw'.cell (p := ⟨gr, c, none⟩) hglt (fun h => h)).trans hcc; go_simp; with_reducible rfl
      simp only [Act.put, List.setIfInBounds_toArray, List.set_cons_zero, List.set_cons_succ]
      refine wpR_take (i := 12) (v := ?_) (Upd.road _) (some 58) rfl (by kernel_rfl) (by kernel_rfl) (by kernel_rfl) (by kernel_rfl) (by kernel_rfl) (fun _ _ _ h => h) (by kernel_rfl) (fun w' hw' => ?_) ?_
      rotate_left
      · go_simp; with_reducible rfl
      simp only [Act.put, List.setIfInBounds_toArray, List.set_cons_zero, List.set_cons_succ]
      refine wpR_one 13 rfl (by kernel_rfl) (by kernel_rfl) (fun K hK => ?_)
      go_simp
      refine hK _ _ (fun h => absurd h (by decide)) ?_
      clear hK K
      obtain ⟨v', hcp2⟩ : ∃ v', (wd2.setCell ⟨gr, c, none⟩ (.slice (some ⟨Gr p, 0, none⟩) n (Cr p))).cell? ⟨gr, p, none⟩ = some v' := by
        obtain ⟨N, hN1, hN2⟩ := hR.out.sp
        exact (hN2.set c _).cell (by omega)
      have hfp2 : (wd2.setCell ⟨gr, c, none⟩ (.slice (some ⟨Gr p, 0, none⟩) n (Cr p))).frozen? ⟨gr, p, none⟩ = false := by
        obtain ⟨N, hN1, hN2⟩ := hR.out.sp
        exact (hN2.set c _).free p
      clear hcc hcp hfc
      try simp only [Act.put, List.setIfInBounds_toArray, List.set_cons_zero, List.set_cons_succ]
      refine wpR_take (i := 14) (v := ?_) (Upd.road _) (some 59) rfl (by kernel_rfl) (by kernel_rfl) (by kernel_rfl) (by kernel_rfl) (by kernel_rfl) (fun _ _ _ h => h) (by kernel_rfl) (fun w' hw' => ?_) ?_
      rotate_left
      · go_simp; with_reducible rfl
      simp only [Act.put, List.setIfInBounds_toArray, List.set_cons_zero, List.set_cons_succ]
      refine wpR_one 15 rfl (by kernel_rfl) (by kernel_rfl) (fun K hK => ?_)
      go_simp
      refine hK _ _ (fun h => absurd h (by decide)) ?_
      clear hK K
      clear hcp2 hfp2 hglt
      have hsw := hR.out.swap hc hp
      have hug : Upd (fun k => k = gr) wd2 ((wd2.setCell ⟨gr, c, none⟩ (.slice (some ⟨Gr p, 0, none⟩) n (Cr p))).setCell ⟨gr, p, none⟩ (.slice (some ⟨Gr c, 0, none⟩) n (Cr c))) := (Upd.road (fun k => k = gr)).2 (Upd.of_grown (blk_grown _ _ _ _) rfl) (Upd.of_grown (blk_grown _ _ _ _) rfl)
      obtain ⟨W2, hW2⟩ : ∃ x, (wd2.setCell ⟨gr, c, none⟩ (.slice (some ⟨Gr p, 0, none⟩) n (Cr p))).setCell ⟨gr, p, none⟩ (.slice (some ⟨Gr c, 0, none⟩) n (Cr c)) = x := ⟨_, rfl⟩
      rw [hW2] at hsw hug ⊢
      replace hW2 := Lib.hid hW2
      replace hb := Lib.hid (Upd.to_below hb.out hug (Nat.le_trans hbz hb.out.size) (fun k hk => by rw [hk]; exact hR.out.low))
      replace hL := Lib.hid (hL.out.upd hug (fun e => hd e) (fun i hi => hR.out.sep hL.out hi))
      replace hR := Lib.hid hsw
      clear hug hsw
      try simp only [Act.put, List.setIfInBounds_toArray, List.set_cons_zero, List.set_cons_succ]
      refine wpR_done (by kernel_rfl) ?_ _
      have hD2 : Hid (∀ i j, i < n → j < n → swapf c p Gl i ≠ swapf c p Gr j) := Lib.hid (fun i j hi hj => by
        obtain ⟨i', hi', ei⟩ := swapf_in hc hp Gl hi
        obtain ⟨j', hj', ej⟩ := swapf_in hc hp Gr hj
        rw [ei, ej]
        exact hD.out i' j' hi' hj')
      have hI1 : Hid (∀ A, Inv n A L R → Inv n A (swapR c p L) (swapR c p R)) := Lib.hid (fun A h => h.swap hc hp)
      have hC1 : Hid (Cols n c L → Cols n c (swapR c p L)) := Lib.hid (fun h => h.swap hcp0 hp)
      have hx1 : swapR c p L c c = L p c := by unfold swapR; rw [if_pos rfl]
      obtain ⟨G1, hG1⟩ : ∃ x, swapf c p Gl = x := ⟨_, rfl⟩
      obtain ⟨D1, hD1⟩ : ∃ x, swapf c p Cl = x := ⟨_, rfl⟩
      obtain ⟨G2, hG2⟩ : ∃ x, swapf c p Gr = x := ⟨_, rfl⟩
      obtain ⟨D2, hD2'⟩ : ∃ x, swapf c p Cr = x := ⟨_, rfl⟩
      obtain ⟨L1, hL1⟩ : ∃ x, swapR c p L = x := ⟨_, rfl⟩
      obtain ⟨R1, hR1⟩ : ∃ x, swapR c p R = x := ⟨_, rfl⟩
      rw [hG1, hD1, hL1] at hL
      rw [hG2, hD2', hR1] at hR
      rw [hG1, hG2] at hD2
      rw [hL1, hR1] at hI1
      rw [hL1] at hC1 hx1
      obtain ⟨x, hx⟩ : ∃ x, L p c = x := ⟨_, rfl⟩
      rw [hx] at hx1 hne
      replace hG1 := Lib.hid hG1
      replace hD1 := Lib.hid hD1
      replace hG2 := Lib.hid hG2
      replace hD2' := Lib.hid hD2'
      replace hL1 := Lib.hid hL1
      replace hR1 := Lib.hid hR1
      replace hx := Lib.hid hx
      have hck := hL.out.cell hc
      have hcx := hL.out.at_ hc hc
      rw [hx1] at hcx
      have hrk := hR.out.cell hc
      have hdiv := div_any 1 x W2
      rw [if_neg hne] at hdiv
      replace hdiv := Lib.hid hdiv
      replace hx1 := Lib.hid hx1
      obtain ⟨f, hf⟩ : ∃ f, gmul 1 (gpow x 254) = f := ⟨_, rfl⟩
      have hfx : gmul f x = 1 := by rw [← hf, gmul_one_l]; exact gmul_inv x hne
      have hf0 : f ≠ 0 := fun e => by rw [e, gmul_zero_l] at hfx; exact absurd hfx (by decide)
      rw [hf] at hdiv
      replace hf := Lib.hid hf
      replace hne := Lib.hid hne
      replace hfx := Lib.hid hfx
      replace hf0 := Lib.hid hf0
      go_wp2_with fail
      refine hdiv.out.mono ?_
      rintro e w3 ⟨rfl, rfl⟩
      go_wp2_with fail
      refine (scale_any base (G1 c) n (D1 c) (L1 c) (by omega) f _ (hL.out.own c hc)).mono ?_
      rintro e W3 ⟨rfl, ho3, hu3, hz3⟩
      replace hb := Lib.hid (Upd.to_below hb.out hu3 (Nat.le_trans hbz hb.out.size) (fun k hk => hL.out.sub hc hk))
      replace hR := Lib.hid (hR.out.upd hu3 (fun e => hR.out.sep hL.out hc e.symm) (fun i hi e => hD2.out c i hc hi e.symm))
      have hL3 := (hL.out.put hc ho3 hu3).congr (M' := scaleR c f L1) (fun i j _ _ => by unfold scaleR; by_cases e : i = c <;> simp only [e, if_true, if_false, eq_self])
      replace hL := Lib.hid hL3
      clear ho3 hu3 hz3 hL3 hck hcx hrk hdiv
      have hrk := hR.out.cell hc
      go_wp2_with fail
      refine (scale_any base (G2 c) n (D2 c) (R1 c) (by omega) f _ (hR.out.own c hc)).mono ?_
      rintro e W4 ⟨rfl, ho3, hu3, hz3⟩
      replace hb := Lib.hid (Upd.to_below hb.out hu3 (Nat.le_trans hbz hb.out.size) (fun k hk => hR.out.sub hc hk))
      replace hL := Lib.hid (hL.out.upd hu3 (fun e => hL.out.sep hR.out hc e.symm) (fun i hi e => hD2.out i c hi hc e))
      have hR3 := (hR.out.put hc ho3 hu3).congr (M' := scaleR c f R1) (fun i j _ _ => by unfold scaleR; by_cases e : i = c <;> simp only [e, if_true, if_false, eq_self])
      replace hR := Lib.hid hR3
      clear ho3 hu3 hz3 hR3 hrk
      have hP0 : Hid ((∀ A, Inv n A L R → Inv n A (scaleR c f L1) (scaleR c f R1)) ∧ (Cols n c L → Cols n c (scaleR c f L1)) ∧ scaleR c f L1 c c = 1 ∧ ∀ i, i < 0 → i ≠ c → scaleR c f L1 i c = 0) := Lib.hid ⟨fun A h => (hI1.out A h).scale hc hf0.out, fun h => (hC1.out h).scale hc f, by unfold scaleR; rw [if_pos rfl, hx1.out]; exact hfx.out, fun i hi => by omega⟩
      go_wp2_with fail
      go_loopw [85] (fun i wr => ∃ (k : Nat) (Lk Rk : Mx), k ≤ n ∧ i = .int .i64 k ∧ Hid (TB wr base gl n n G1 D1 Lk) ∧ Hid (TB wr base gr n n G2 D2 Rk) ∧ Hid (Below base w wr) ∧ Hid ((∀ A, Inv n A L R → Inv n A Lk Rk) ∧ (Cols n c L → Cols n c Lk) ∧ Lk c c = 1 ∧ ∀ i, i < k → i ≠ c → Lk i c = 0)) (fun i _ => n - (intOf i).toNat)
      case atStart => exact ⟨0, _, _, Nat.zero_le _, rfl, hL, hR, hb, hP0⟩
      case round =>
        obtain ⟨k, Lk, Rk, hk, rfl, hL2, hR2, hb2, hP⟩ := hrel
        clear hL hR hb hP0
        by_cases hlt : k < n
        · by_cases hkc : k = c
          · have hd1 : ((k : Int) != (c : Int)) = false := by simp; omega
            have hP2 : Hid ((∀ A, Inv n A L R → Inv n A Lk Rk) ∧ (Cols n c L → Cols n c Lk) ∧ Lk c c = 1 ∧ ∀ i, i < k + 1 → i ≠ c → Lk i c = 0) := Lib.hid ⟨hP.out.1, hP.out.2.1, hP.out.2.2.1, fun i hi hic => hP.out.2.2.2 i (by omega) hic⟩
            replace hkc := Lib.hid hkc
            go_wp2_with fail
            go_roundw
            case rel => exact ⟨k + 1, Lk, Rk, by omega, by go_num, hL2, hR2, hb2, hP2⟩
            case measure => simp [intOf]; omega
          · have hd1 : ((k : Int) != (c : Int)) = true := by simp; omega
            obtain ⟨y, hy⟩ : ∃ y, Lk k c = y := ⟨_, rfl⟩
            have hP2 : Hid ((∀ A, Inv n A L R → Inv n A (addR k c y Lk) (addR k c y Rk)) ∧ (Cols n c L → Cols n c (addR k c y Lk)) ∧ addR k c y Lk c c = 1 ∧ ∀ i, i < k + 1 → i ≠ c → addR k c y Lk i c = 0) := Lib.hid ⟨fun A h => (hP.out.1 A h).add y hlt hc hkc, fun h => (hP.out.2.1 h).add hc y, by unfold addR; rw [if_neg (by omega)]; exact hP.out.2.2.1, fun i hi hic => by
              unfold addR
              by_cases e : i = k
              · subst e; rw [if_pos rfl, hP.out.2.2.1, gmul_one_r, hy, xx]
              · rw [if_neg e]; exact hP.out.2.2.2 i (by omega) hic⟩
            have hck := hL2.out.cell hlt
            have hcx := hL2.out.at_ hlt hc
            rw [hy] at hcx
            replace hkc := Lib.hid hkc
            go_wp2_with fail
            clear hck hcx
            obtain ⟨wd3, hwd⟩ : ∃ wd, wd = wr.drew := ⟨_, rfl⟩
            have hbb : Below wr.heap.size wr wd3 := by rw [hwd]; exact (Below.refl _ _).drew
            replace hL2 := Lib.hid (hL2.out.below hbb)
            replace hR2 := Lib.hid (hR2.out.below hbb)
            replace hb2 := Lib.hid (hb2.out.trans (hbb.mono (Nat.le_trans hbz hb2.out.size)))
            have hck := hL2.out.cell hlt
            have hcc := hL2.out.cell hc
            have hglt := hL2.out.lt
            have hg1 : gl ≠ G1 k := fun e => hL2.out.gne hlt e.symm
            have hap : Hid (∀ ad, some (⟨G1 c, 0, none⟩ : Addr) = some ad → ad.block ≠ G1 k) := Lib.hid (fun ad e => by injection e with e; subst e; exact hL2.out.apart c k hc hlt (fun e => hkc.out e.symm))
            clear hbb
            refine wpR_region (Upd (fun b => b = G1 k)) 9999 (by kernel_rfl) ?_
            (rw [← hwd]; replace hwd := Lib.hid hwd)
            refine wpR_take (i := 0) (v := ?_) (Upd.road _) (some 98) rfl (by kernel_rfl) (by kernel_rfl) (by kernel_rfl) (by kernel_rfl) (by kernel_rfl) (fun _ _ _ h => h) (by kernel_rfl) (fun w' hw' => ?_) ?_
            rotate_left
            · go_simp; with_reducible rfl
            simp only [Act.put, List.setIfInBounds_toArray, List.set_cons_zero, List.set_cons_succ]
            refine wpR_take (i := 1) (v := ?_) (Upd.road _) (some 99) rfl (by kernel_rfl) (by kernel_rfl) (by kernel_rfl) (by kernel_rfl) (by kernel_rfl) (fun _ _ _ h => h) (by kernel_rfl) (fun w' hw' => ?_) ?_
            rotate_left
            · go_simp; with_reducible rfl
            simp only [Act.put, List.setIfInBounds_toArray, List.set_cons_zero, List.set_cons_succ]
            refine wpR_take (i := 2) (v := ?_) (Upd.road _) (some 100) rfl (by kernel_rfl) (by kernel_rfl) (by kernel_rfl) (by kernel_rfl) (by kernel_rfl) (fun _ _ _ h => h) (by kernel_rfl) (fun w' hw' => ?_) ?_
            rotate_left
            · go_simp; with_reducible rfl
            simp only [Act.put, List.setIfInBounds_toArray, List.set_cons_zero, List.set_cons_succ]
            refine wpR_take (i := 3) (v := ?_) (Upd.road _) (some 101) rfl (by kernel_rfl) (by kernel_rfl) (by kernel_rfl) (by kernel_rfl) (by kernel_rfl) (fun _ _ _ h => h) (by kernel_rfl) (fun w' hw' => ?_) ?_
            rotate_left
            · have q := (hw'.cell (p := ⟨gl, k, none⟩) hglt hg1).trans hck; go_simp; with_reducible rfl
            simp only [Act.put, List.setIfInBounds_toArray, List.set_cons_zero, List.set_cons_succ]
            refine wpR_take (i := 4) (v := ?_) (Upd.road _) (some 102) rfl (by kernel_rfl) (by kernel_rfl) (by kernel_rfl) (by kernel_rfl) (by kernel_rfl) (fun _ _ _ h => h) (by kernel_rfl) (fun w' hw' => ?_) ?_
            rotate_left
            · go_simp; with_reducible rfl
            simp only [Act.put, List.setIfInBounds_toArray, List.set_cons_zero, List.set_cons_succ]
            refine wpR_take (i := 5) (v := ?_) (Upd.road _) (some 103) rfl (by kernel_rfl) (by kernel_rfl) (by kernel_rfl) (by kernel_rfl) (by kernel_rfl) (fun _ _ _ h => h) (by kernel_rfl) (fun w' hw' => ?_) ?_
            rotate_left
            · go_simp; with_reducible rfl
            simp only [Act.put, List.setIfInBounds_toArray, List.set_cons_zero, List.set_cons_succ]
            refine wpR_take (i := 6) (v := ?_) (Upd.road _) (some 104) rfl (by kernel_rfl) (by kernel_rfl) (by kernel_rfl) (by kernel_rfl) (by kernel_rfl) (fun _ _ _ h => h) (by kernel_rfl) (fun w' hw' => ?_) ?_
            rotate_left
            · go_simp; with_reducible rfl
            simp only [Act.put, List.setIfInBounds_toArray, List.set_cons_zero, List.set_cons_succ]
            refine wpR_take (i := 7) (v := ?_) (Upd.road _) (some 105) rfl (by kernel_rfl) (by kernel_rfl) (by kernel_rfl) (by kernel_rfl) (by kernel_rfl) (fun _ _ _ h => h) (by kernel_rfl) (fun w' hw' => ?_) ?_
            rotate_left
            · have q := (hw'.cell (p := ⟨gl, c, none⟩) hglt hg1).trans hcc; go_simp; with_reducible rfl
            simp only [Act.put, List.setIfInBounds_toArray, List.set_cons_zero, List.set_cons_succ]
            refine wpR_take (i := 8) (v := ?_) (Upd.road _) (some 106) rfl (by kernel_rfl) (by kernel_rfl) (by kernel_rfl) (by kernel_rfl) (by kernel_rfl) (fun _ _ _ h => h) (by kernel_rfl) (fun w' hw' => ?_) ?_
            rotate_left
            · go_simp; with_reducible rfl
            simp only [Act.put, List.setIfInBounds_toArray, List.set_cons_zero, List.set_cons_succ]
            refine wpR_one 9 rfl (by kernel_rfl) (by kernel_rfl) (fun K hK => ?_)
            go_simp
            refine (addMultiple_any base (G1 k) n (D1 k) (Lk k) (some ⟨G1 c, 0, none⟩) (D1 c) (row n (Lk c)) (row_length _ _) (by omega) y _ (hL2.out.own k hlt) (Rd.at_row hL2.out hc) hap.out).mono ?_
            rintro e W5 ⟨rfl, ho6, hu6, hz6⟩
            refine hK _ _ (fun _ => hu6) ?_
            clear hK K
            have hnw := (hL2.out.put hlt ho6 hu6).congr (M' := addR k c y Lk) (fun i j hi hj => by
              unfold addR
              by_cases e : i = k
              · simp only [if_pos e]; rw [row_getD hj]
              · simp only [if_neg e])
            replace hb2 := Lib.hid (Upd.to_below hb2.out hu6 (Nat.le_trans hbz hb2.out.size) (fun b hb' => hL2.out.sub hlt hb'))
            replace hR2 := Lib.hid (hR2.out.upd hu6 (fun e => hR2.out.sep hL2.out hlt e.symm) (fun i hi e => hD2.out k i hlt hi e.symm))
            replace hL2 := Lib.hid hnw
            clear hnw ho6 hu6 hz6 hck hcc hglt hg1 hap
            try simp only [Act.put, List.setIfInBounds_toArray, List.set_cons_zero, List.set_cons_succ]
            refine wpR_done (by kernel_rfl) ?_ _
            go_wp2_with fail
            obtain ⟨wd4, hwd⟩ : ∃ wd, wd = W5.drew := ⟨_, rfl⟩
            have hbb : Below W5.heap.size W5 wd4 := by rw [hwd]; exact (Below.refl _ _).drew
            replace hL2 := Lib.hid (hL2.out.below hbb)
            replace hR2 := Lib.hid (hR2.out.below hbb)
            replace hb2 := Lib.hid (hb2.out.trans (hbb.mono (Nat.le_trans hbz hb2.out.size)))
            have hck := hR2.out.cell hlt
            have hcc := hR2.out.cell hc
            have hglt := hR2.out.lt
            have hg1 : gr ≠ G2 k := fun e => hR2.out.gne hlt e.symm
            have hap : Hid (∀ ad, some (⟨G2 c, 0, none⟩ : Addr) = some ad → ad.block ≠ G2 k) := Lib.hid (fun ad e => by injection e with e; subst e; exact hR2.out.apart c k hc hlt (fun e => hkc.out e.symm))
            clear hbb
            refine wpR_region (Upd (fun b => b = G2 k)) 9999 (by kernel_rfl) ?_
            (rw [← hwd]; replace hwd := Lib.hid hwd)
            refine wpR_take (i := 0) (v := ?_) (Upd.road _) (some 108) rfl (by kernel_rfl) (by kernel_rfl) (by kernel_rfl) (by kernel_rfl) (by kernel_rfl) (fun _ _ _ h => h) (by kernel_rfl) (fun w' hw' => ?_) ?_
            rotate_left
            · go_simp; with_reducible rfl
            simp only [Act.put, List.setIfInBounds_toArray, List.set_cons_zero, List.set_cons_succ]
            refine wpR_take (i := 1) (v := ?_) (Upd.road _) (some 109) rfl (by kernel_rfl) (by kernel_rfl) (by kernel_rfl) (by kernel_rfl) (by kernel_rfl) (fun _ _ _ h => h) (by kernel_rfl) (fun w' hw' => ?_) ?_
            rotate_left
            · go_simp; with_reducible rfl
            simp only [Act.put, List.setIfInBounds_toArray, List.set_cons_zero, List.set_cons_succ]
            refine wpR_take (i := 2) (v := ?_) (Upd.road _) (some 110) rfl (by kernel_rfl) (by kernel_rfl) (by kernel_rfl) (by kernel_rfl) (by kernel_rfl) (fun _ _ _ h => h) (by kernel_rfl) (fun w' hw' => ?_) ?_
            rotate_left
            · go_simp; with_reducible rfl
            simp only [Act.put, List.setIfInBounds_toArray, List.set_cons_zero, List.set_cons_succ]
            refine wpR_take (i := 3) (v := ?_) (Upd.road _) (some 111) rfl (by kernel_rfl) (by kernel_rfl) (by kernel_rfl) (by kernel_rfl) (by kernel_rfl) (fun _ _ _ h => h) (by kernel_rfl) (fun w' hw' => ?_) ?_
            rotate_left
            · have q := (hw'.cell (p := ⟨gr, k, none⟩) hglt hg1).trans hck; go_simp; with_reducible rfl
            simp only [Act.put, List.setIfInBounds_toArray, List.set_cons_zero, List.set_cons_succ]
            refine wpR_take (i := 4) (v := ?_) (Upd.road _) (some 112) rfl (by kernel_rfl) (by kernel_rfl) (by kernel_rfl) (by kernel_rfl) (by kernel_rfl) (fun _ _ _ h => h) (by kernel_rfl) (fun w' hw' => ?_) ?_
            rotate_left
            · go_simp; with_reducible rfl
            simp only [Act.put, List.setIfInBounds_toArray, List.set_cons_zero, List.set_cons_succ]
            refine wpR_take (i := 5) (v := ?_) (Upd.road _) (some 113) rfl (by kernel_rfl) (by kernel_rfl) (by kernel_rfl) (by kernel_rfl) (by kernel_rfl) (fun _ _ _ h => h) (by kernel_rfl) (fun w' hw' => ?_) ?_
            rotate_left
            · go_simp; with_reducible rfl
            simp only [Act.put, List.setIfInBounds_toArray, List.set_cons_zero, List.set_cons_succ]
            refine wpR_take (i := 6) (v := ?_) (Upd.road _) (some 114) rfl (by kernel_rfl) (by kernel_rfl) (by kernel_rfl) (by kernel_rfl) (by kernel_rfl) (fun _ _ _ h => h) (by kernel_rfl) (fun w' hw' => ?_) ?_
            rotate_left
            · go_simp; with_reducible rfl
            simp only [Act.put, List.setIfInBounds_toArray, List.set_cons_zero, List.set_cons_succ]
            refine wpR_take (i := 7) (v := ?_) (Upd.road _) (some 115) rfl (by kernel_rfl) (by kernel_rfl) (by kernel_rfl) (by kernel_rfl) (by kernel_rfl) (fun _ _ _ h => h) (by kernel_rfl) (fun w' hw' => ?_) ?_
            rotate_left
            · have q := (hw'.cell (p := ⟨gr, c, none⟩) hglt hg1).trans hcc; go_simp; with_reducible rfl
            simp only [Act.put, List.setIfInBounds_toArray, List.set_cons_zero, List.set_cons_succ]
            refine wpR_take (i := 8) (v := ?_) (Upd.road _) (some 116) rfl (by kernel_rfl) (by kernel_rfl) (by kernel_rfl) (by kernel_rfl) (by kernel_rfl) (fun _ _ _ h => h) (by kernel_rfl) (fun w' hw' => ?_) ?_
            rotate_left
            · go_simp; with_reducible rfl
            simp only [Act.put, List.setIfInBounds_toArray, List.set_cons_zero, List.set_cons_succ]
            refine wpR_one 9 rfl (by kernel_rfl) (by kernel_rfl) (fun K hK => ?_)
            go_simp
            refine (addMultiple_any base (G2 k) n (D2 k) (Rk k) (some ⟨G2 c, 0, none⟩) (D2 c) (row n (Rk c)) (row_length _ _) (by omega) y _ (hR2.out.own k hlt) (Rd.at_row hR2.out hc) hap.out).mono ?_
            rintro e W6 ⟨rfl, ho6, hu6, hz6⟩
            refine hK _ _ (fun _ => hu6) ?_
            clear hK K
            have hnw := (hR2.out.put hlt ho6 hu6).congr (M' := addR k c y Rk) (fun i j hi hj => by
              unfold addR
              by_cases e : i = k
              · simp only [if_pos e]; rw [row_getD hj]
              · simp only [if_neg e])
            replace hb2 := Lib.hid (Upd.to_below hb2.out hu6 (Nat.le_trans hbz hb2.out.size) (fun b hb' => hR2.out.sub hlt hb'))
            replace hL2 := Lib.hid (hL2.out.upd hu6 (fun e => hL2.out.sep hR2.out hlt e.symm) (fun i hi e => hD2.out i k hi hlt e))
            replace hR2 := Lib.hid hnw
            clear hnw ho6 hu6 hz6 hck hcc hglt hg1 hap
            try simp only [Act.put, List.setIfInBounds_toArray, List.set_cons_zero, List.set_cons_succ]
            refine wpR_done (by kernel_rfl) ?_ _
            go_wp2_with fail
            go_roundw
            case rel => exact ⟨k + 1, _, _, by omega, by go_num, hL2, hR2, hb2, hP2⟩
            case measure => simp [intOf]; omega
        · obtain rfl : k = n := by omega
          go_wp2_with fail
          go_ret
          exact ⟨⟨G1, D1, G2, D2, Lk, Rk, rfl, hL2.out, hR2.out, hD2.out, hP.out.1, fun h => (hP.out.2.1 h).next hP.out.2.2.1 (fun i hi hic => hP.out.2.2.2 i hi hic)⟩, hb2.out⟩
end Go.Proofs.Ytdgkcgiknfjpjaa
/- Walks of mat: Invert. -/
namespace Go.Proofs.Ytdgkcgiknfjpjaa
set_option linter.unusedVariables false
set_option linter.unusedSimpArgs false
open Go Go.RowKit
theorem first_pivot (f : Nat → UInt8) : ∀ (d c n : Nat), n ≤ c + d → (∀ p, c ≤ p → p < n → f p = 0) ∨ ∃ p, c ≤ p ∧ p < n ∧ f p ≠ 0 ∧ ∀ r, c ≤ r → r < p → f r = 0
  | 0, c, n, h => .inl (fun p h1 h2 => by omega)
  | d + 1, c, n, h => by
    by_cases hcn : c < n
    · by_cases h0 : f c = 0
      · rcases first_pivot f d (c + 1) n (by omega) with h1 | ⟨p, h1, h2, h3, h4⟩
        · refine .inl (fun p hp hpn => ?_)
          by_cases e : p = c
          · rw [e]; exact h0
          · exact h1 p (by omega) hpn
        · refine .inr ⟨p, by omega, h2, h3, fun r hr hrp => ?_⟩
          by_cases e : r = c
          · rw [e]; exact h0
          · exact h4 r (by omega) hrp
      · exact .inr ⟨c, Nat.le_refl _, hcn, h0, fun r h1 h2 => by omega⟩
    · exact .inl (fun p h1 h2 => by omega)
def square (L : List (List UInt8)) : Bool := isTab L && (L.length == width L)
def InvRes (n : Nat) (A : Mx) (w : World) (e : Ending) (w' : World) : Prop := Below w.heap.size w w' ∧ ((e = .returned (.tuple #[.slice none 0 0, .bool false]) ∧ HasKer n A) ∨
  ∃ g G C X, e = .returned (.tuple #[.slice (some ⟨g, 0, none⟩) n n, .bool true]) ∧ TB w' w.heap.size g n n G C X ∧ EqM n n (mm n X A) idM ∧ EqM n n (mm n A X) idM)
theorem InvRes.no {n : Nat} {A : Mx} {w w' : World} (hb : Below w.heap.size w w') (h : HasKer n A) : InvRes n A w (.returned (.tuple #[.slice none 0 0, .bool false])) w' := ⟨hb, .inl ⟨rfl, h⟩⟩
theorem InvRes.yes {n : Nat} {A : Mx} {w w' : World} (hb : Below w.heap.size w w') {g : Nat} {G C : Nat → Nat} {X : Mx} (ht : TB w' w.heap.size g n n G C X) (h1 : EqM n n (mm n X A) idM) (h2 : EqM n n (mm n A X) idM) :
    InvRes n A w (.returned (.tuple #[.slice (some ⟨g, 0, none⟩) n n, .bool true])) w' := ⟨hb, .inr ⟨g, G, C, X, rfl, ht, h1, h2⟩⟩
set_option maxHeartbeats 8000000 in
set_option maxRecDepth 20000 in
theorem invert_ok (A : Option Addr) (n c : Nat) (L : List (List UInt8)) (hc : n ≤ c) (hsq : square L = true) (w : World) (h : RT w w.heap.size A n L) :
    Calls Try.prog 56 #[.slice A n c] w (InvRes n (ent L) w) := by
  unfold square at hsq
  rw [Bool.and_eq_true, beq_iff_eq] at hsq
  obtain ⟨ht, hw⟩ := hsq
  have hn := h.1
  obtain ⟨b1, b2, -, -, -⟩ := isTab_iff.mp ht
  rw [hn] at b1 b2 hw
  have i1 := isMatrix_any A n c L hc (by omega) w h
  rw [ht] at i1
  obtain ⟨ba, oa, A0, c0, la0, rfl, hba, hla0, hca0, -, -, -⟩ := h.at_ (i := 0) (by omega)
  have hla := tab_len ht hla0
  rw [Nat.add_zero, hla, ← hw] at hca0
  have hne : ((n : Int) != (n : Int)) = false := by simp
  have ia0 : (0 : Int) < (n : Int) := by omega
  have hcp := copyRows_any (some ⟨ba, oa, none⟩) n c L hc ht w h
  rw [← hw] at hcp
  replace i1 := Lib.hid i1
  replace hcp := Lib.hid hcp
  replace ht := Lib.hid ht
  replace hw := Lib.hid hw
  replace hn := Lib.hid hn
  replace hla := Lib.hid hla
  replace hla0 := Lib.hid hla0
  clear h
  go_enter Try.func56, Try.ntmps56
  go_wp2_with fail
  refine i1.out.mono ?_
  rintro e w' ⟨rfl, rfl⟩
  go_wp2_with fail
  refine hcp.out.mono ?_
  rintro e w1 ⟨gl, Gl, Cl, rfl, hL, hb1⟩
  replace hL := Lib.hid hL
  replace hb1 := Lib.hid hb1
  clear hca0
  go_wp2_with fail
  refine (identity_any n b1 b2 w1).mono ?_
  rintro e w2 ⟨gr, Gr, Cr, rfl, hR, hb2⟩
  have hd : gl ≠ gr := by have := hL.out.lt; have := hR.low; omega
  have hD : Hid (∀ i j, i < n → j < n → Gl i ≠ Gr j) := Lib.hid (fun i j hi hj => by have := (hL.out.glt hi).2; have := (hR.glt hj).1; omega)
  replace hL := Lib.hid (hL.out.below hb2)
  replace hR := Lib.hid (hR.more hb1.out.size)
  replace hb1 := Lib.hid (hb1.out.trans (hb2.mono hb1.out.size))
  have hI0 : Hid (Inv n (ent L) (ent L) idM) := Lib.hid (Inv.start n (ent L))
  have hC0 : Hid (Cols n 0 (ent L)) := Lib.hid (fun i j _ hj => by omega)
  clear hb2
  go_wp2_with fail
  go_loopw [26] (fun i wr => ∃ (k : Nat) (Gl Cl Gr Cr : Nat → Nat) (Lk Rk : Mx), k ≤ n ∧ i = .int .i64 k ∧ Hid (TB wr w'.heap.size gl n n Gl Cl Lk) ∧ Hid (TB wr w'.heap.size gr n n Gr Cr Rk) ∧ Hid (∀ i j, i < n → j < n → Gl i ≠ Gr j) ∧ Hid (Inv n (ent L) Lk Rk) ∧ Hid (Cols n k Lk) ∧ Hid (Below w'.heap.size w' wr)) (fun i _ => n - (intOf i).toNat)
  case atStart => exact ⟨0, Gl, Cl, Gr, Cr, _, _, Nat.zero_le _, rfl, hL, hR, hD, hI0, hC0, hb1⟩
  case round =>
    obtain ⟨k, Gl, Cl, Gr, Cr, Lk, Rk, hk, rfl, hL2, hR2, hD2, hI, hC, hb⟩ := hrel
    clear hL hR hD hI0 hC0 hb1
    by_cases hlt : k < n
    · rcases first_pivot (fun p => Lk p k) n k n (by omega) with h0 | ⟨p, hp1, hp2, hp3, hp4⟩
      · have hker := Lib.hid (hI.out.stuck hC.out hlt h0)
        have hred := Lib.hid (reduce_no w'.heap.size n gl gr Gl Cl Gr Cr Lk Rk k hlt b2 h0 wr hL2.out)
        replace h0 := Lib.hid h0
        go_wp2_with fail
        refine hred.out.mono ?_
        rintro e w5 ⟨rfl, rfl⟩
        go_wp2_with fail
        go_ret2
        exact InvRes.no hb.out hker.out
      · have hred := Lib.hid (reduce_yes w'.heap.size n gl gr Gl Cl Gr Cr Lk Rk k hlt b2 hd hD2.out p hp1 hp2 hp3 hp4 wr hL2.out hR2.out)
        replace hp3 := Lib.hid hp3
        replace hp4 := Lib.hid hp4
        go_wp2_with fail
        refine hred.out.mono ?_
        rintro e w5 ⟨⟨Gl', Cl', Gr', Cr', L', R', rfl, q1, q2, q3, q4, q5⟩, hb5⟩
        replace q1 := Lib.hid q1
        replace q2 := Lib.hid q2
        replace q3 := Lib.hid q3
        replace q4 := Lib.hid (q4 (ent L) hI.out)
        replace q5 := Lib.hid (q5 hC.out)
        replace hb5 := Lib.hid (hb.out.trans hb5)
        go_wp2_with fail
        go_roundw
        case rel => exact ⟨k + 1, Gl', Cl', Gr', Cr', L', R', by omega, by go_num, q1, q2, q3, q4, q5, hb5⟩
        case measure => simp [intOf]; omega
    · obtain rfl : k = n := by omega
      have hfin := Lib.hid (hI.out.done hC.out)
      go_wp2_with fail
      go_ret2
      exact InvRes.yes hb.out hR2.out hfin.out.1 hfin.out.2
set_option maxHeartbeats 8000000 in
set_option maxRecDepth 20000 in
theorem invert_no (A : Option Addr) (n c : Nat) (L : List (List UInt8)) (hc : n ≤ c) (hcm : c ≤ 9223372036854775807) (hsq : square L = false) (w : World) (h : RT w w.heap.size A n L) :
    Calls Try.prog 56 #[.slice A n c] w fun e w' => e = .returned (.tuple #[.slice none 0 0, .bool false]) ∧ w' = w := by
  unfold square at hsq
  have hn := h.1
  have i1 := isMatrix_any A n c L hc (by omega) w h
  cases ht : isTab L with
  | false =>
    rw [ht] at i1
    replace i1 := Lib.hid i1
    replace hsq := Lib.hid hsq
    replace ht := Lib.hid ht
    replace hn := Lib.hid hn
    clear h
    go_enter Try.func56, Try.ntmps56
    go_wp2_with fail
    refine i1.out.mono ?_
    rintro e w' ⟨rfl, rfl⟩
    go_wp2_with fail
    go_ret2
    exact ⟨rfl, rfl⟩
  | true =>
    rw [ht] at i1 hsq
    rw [Bool.true_and, hn, beq_eq_false_iff_ne] at hsq
    have b1 := (isTab_iff.mp ht).1
    rw [hn] at b1
    obtain ⟨ba, oa, A0, c0, la0, rfl, hba, hla0, hca0, -, -, -⟩ := h.at_ (i := 0) (by omega)
    have hla := tab_len ht hla0
    rw [Nat.add_zero, hla] at hca0
    obtain ⟨m, hm⟩ : ∃ m, width L = m := ⟨_, rfl⟩
    rw [hm] at hca0 hsq
    have hne : ((n : Int) != (m : Int)) = true := by simp; omega
    have ia0 : (0 : Int) < (n : Int) := by omega
    replace i1 := Lib.hid i1
    replace hsq := Lib.hid hsq
    replace ht := Lib.hid ht
    replace hn := Lib.hid hn
    replace hla := Lib.hid hla
    replace hla0 := Lib.hid hla0
    replace hm := Lib.hid hm
    clear h
    go_enter Try.func56, Try.ntmps56
    go_wp2_with fail
    refine i1.out.mono ?_
    rintro e w' ⟨rfl, rfl⟩
    go_wp2_with fail
    go_ret2
    exact ⟨rfl, rfl⟩
end Go.Proofs.Ytdgkcgiknfjpjaa
