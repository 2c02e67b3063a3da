/- place: the law's room and few, the reference's in. -/
import Derived.Test.YtfiaedhdgbnfiaaPk6
namespace Go.Proofs.Ytfiaedhdgbnfiaa
set_option linter.unusedVariables false
set_option linter.unusedSimpArgs false
open Go Go.RowKit
theorem roomL_some {l : List Fr} {c : Int} {k : Nat} {x : Fr} (hx : l[k]? = some x) (h1 : x.1 = c) (h2 : 0 < x.2) (hno : ∀ j y, j < k → l[j]? = some y → ¬(y.1 = c ∧ 0 < y.2)) : roomL l c = x.2 := by
  obtain ⟨hk, e⟩ := List.getElem?_eq_some_iff.mp hx
  have : l.find? (fun y => y.1 == c && decide (0 < y.2)) = some x := by
    rw [List.find?_eq_some_iff_getElem]
    refine ⟨by simp [h1, h2], k, hk, e, fun j hj => ?_⟩
    have := hno j _ hj (List.getElem?_eq_getElem (by omega))
    simp only [Bool.not_eq_true', Bool.and_eq_false_iff, beq_eq_false_iff_ne, decide_eq_false_iff_not]
    rcases Classical.em (l[j].1 = c) with h | h
    · exact .inr fun h2 => this ⟨h, h2⟩
    · exact .inl h
  unfold roomL; rw [this]; rfl
theorem roomL_none {l : List Fr} {c : Int} (hno : ∀ (j : Nat) (y : Fr), l[j]? = some y → ¬(y.1 = c ∧ 0 < y.2)) : roomL l c = 0 := by
  have : l.find? (fun y => y.1 == c && decide (0 < y.2)) = none := by
    rw [List.find?_eq_none]
    intro y hy
    obtain ⟨j, hj⟩ := List.getElem?_of_mem hy
    have := hno j y hj
    simp only [Bool.and_eq_true, beq_iff_eq, decide_eq_true_eq]
    exact this
  unfold roomL; rw [this]; rfl
set_option maxHeartbeats 4000000 in
set_option maxRecDepth 10000 in
theorem room_any (l : List Fr) (c : Int) (v : Value) (w : World) (hv : Hid (Frs l v w)) (hl : l.length ≤ 1000000) :
    Calls Try.prog 12 #[v, .int .i64 c] w fun e w' => e = .returned (.int .i64 (roomL l c)) ∧ w' = w := by
  obtain ⟨A, cap, rfl, -, -, -, -⟩ := hv.out
  obtain ⟨q, hq⟩ : ∃ q, q = roomL l c := ⟨_, rfl⟩
  rw [← hq]
  replace hq := Lib.hid hq
  obtain ⟨n, hn⟩ : ∃ n, l.length = n := ⟨_, rfl⟩
  rw [hn] at hl hv ⊢
  replace hn := Lib.hid hn
  go_enter Try.func12, Try.ntmps12
  go_wp2_with fail
  go_loopw [5] (fun i wr => ∃ k : Nat, k ≤ n ∧ i = .int .i64 k ∧ Hid (∀ j y, j < k → l[j]? = some y → ¬(y.1 = c ∧ 0 < y.2)) ∧ w = wr) (fun i _ => (n - intOf i).toNat)
  case atStart => exact ⟨0, Nat.zero_le _, rfl, Lib.hid (fun j y h => absurd h (by omega)), rfl⟩
  case round =>
    obtain ⟨k, hk, rfl, hall, rfl⟩ := hrel
    by_cases hkn : k < n
    · have ik : (k : Int) < (n : Int) := by omega
      have hvr := hv.out
      obtain ⟨A', c', e', -, -, h3, -⟩ := hvr
      rw [hn.out] at e' h3
      injection e' with e1 _ e2
      subst e1 e2
      obtain ⟨b, o, rfl, hb, hc⟩ := h3 (by omega)
      obtain ⟨x, hx⟩ : ∃ x, l[k]? = some x := ⟨_, List.getElem?_eq_getElem (by rw [hn.out]; exact hkn)⟩
      obtain ⟨c0, c1⟩ := hc k x hx
      clear h3 hc
      replace hx := Lib.hid hx
      by_cases hxy : x.1 = c
      · have i1 : (x.1 == c) = true := by simpa using hxy
        replace hxy := Lib.hid hxy
        by_cases hx2 : 0 < x.2
        · have i2 : decide (0 < x.2) = true := decide_eq_true hx2
          have hqf : Hid (q = x.2) := Lib.hid (by rw [hq.out]; exact roomL_some hx.out hxy.out hx2 hall.out)
          clear hx2
          go_wp2_with fail
          go_ret
          exact ⟨by rw [hqf.out]; rfl, rfl⟩
        · have i2 : decide (0 < x.2) = false := decide_eq_false hx2
          have hnext : Hid (∀ j y, j < k + 1 → l[j]? = some y → ¬(y.1 = c ∧ 0 < y.2)) := Lib.hid (fun j y hj hy => by
            by_cases e : j = k
            · subst e; rw [hx.out] at hy; injection hy with hy; subst hy; exact fun h => hx2 h.2
            · exact hall.out j y (by omega) hy)
          clear hx2
          go_wp2_with fail
          go_roundw
          case rel => exact ⟨k + 1, by omega, by go_num, hnext, by first | rfl | trivial⟩
          case measure => simp [intOf]; omega
      · have i1 : (x.1 == c) = false := by simpa using hxy
        have hnext : Hid (∀ j y, j < k + 1 → l[j]? = some y → ¬(y.1 = c ∧ 0 < y.2)) := Lib.hid (fun j y hj hy => by
          by_cases e : j = k
          · subst e; rw [hx.out] at hy; injection hy with hy; subst hy; exact fun h => hxy h.1
          · exact hall.out j y (by omega) hy)
        clear hxy
        go_wp2_with fail
        go_roundw
        case rel => exact ⟨k + 1, by omega, by go_num, hnext, by first | rfl | trivial⟩
        case measure => simp [intOf]; omega
    · obtain rfl : k = n := by omega
      have ik : decide ((k : Int) < (k : Int)) = false := decide_eq_false (by omega)
      clear hkn
      have hqt : Hid (q = 0) := Lib.hid (by
        rw [hq.out]
        exact roomL_none fun j y hj => hall.out j y (by rw [← hn.out]; exact (List.getElem?_eq_some_iff.mp hj).1) hj)
      go_wp2_with fail
      go_ret
      exact ⟨by rw [hqt.out]; rfl, rfl⟩
set_option maxHeartbeats 4000000 in
set_option maxRecDepth 10000 in
theorem in_any (l : List Int) (c : Int) (v : Value) (w : World) (hv : Hid (Ints l v w)) (hl : l.length ≤ 1000000) :
    Calls Try.prog 18 #[v, .int .i64 c] w fun e w' => e = .returned (.bool (l.contains c)) ∧ w' = w := by
  obtain ⟨A, cap, rfl, -, -, -, -⟩ := hv.out
  obtain ⟨q, hq⟩ : ∃ q, q = l.contains c := ⟨_, rfl⟩
  rw [← hq]
  replace hq := Lib.hid hq
  obtain ⟨n, hn⟩ : ∃ n, l.length = n := ⟨_, rfl⟩
  rw [hn] at hl hv ⊢
  replace hn := Lib.hid hn
  go_enter Try.func18, Try.ntmps18
  go_wp2_with fail
  go_loopw [5] (fun i wr => ∃ k : Nat, k ≤ n ∧ i = .int .i64 k ∧ Hid (∀ j y, j < k → l[j]? = some y → y ≠ c) ∧ w = wr) (fun i _ => (n - intOf i).toNat)
  case atStart => exact ⟨0, Nat.zero_le _, rfl, Lib.hid (fun j y h => absurd h (by omega)), rfl⟩
  case round =>
    obtain ⟨k, hk, rfl, hall, rfl⟩ := hrel
    by_cases hkn : k < n
    · have ik : (k : Int) < (n : Int) := by omega
      have hvr := hv.out
      obtain ⟨A', c', e', -, -, h3, -⟩ := hvr
      rw [hn.out] at e' h3
      injection e' with e1 _ e2
      subst e1 e2
      obtain ⟨b, o, rfl, hb, hc⟩ := h3 (by omega)
      obtain ⟨x, hx⟩ : ∃ x, l[k]? = some x := ⟨_, List.getElem?_eq_getElem (by rw [hn.out]; exact hkn)⟩
      have c0 := hc k x hx
      clear h3 hc
      replace hx := Lib.hid hx
      by_cases hxy : x = c
      · have i1 : (x == c) = true := by simpa using hxy
        have hqf : Hid (q = true) := Lib.hid (by rw [hq.out, List.contains_iff_mem]; subst hxy; exact List.mem_of_getElem? hx.out)
        clear hxy
        go_wp2_with fail
        go_ret
        exact ⟨by rw [hqf.out]; rfl, rfl⟩
      · have i1 : (x == c) = false := by simpa using hxy
        have hnext : Hid (∀ j y, j < k + 1 → l[j]? = some y → y ≠ c) := Lib.hid (fun j y hj hy => by
          by_cases e : j = k
          · subst e; rw [hx.out] at hy; injection hy with hy; subst hy; exact hxy
          · exact hall.out j y (by omega) hy)
        clear hxy
        go_wp2_with fail
        go_roundw
        case rel => exact ⟨k + 1, by omega, by go_num, hnext, by first | rfl | trivial⟩
        case measure => simp [intOf]; omega
    · obtain rfl : k = n := by omega
      have ik : decide ((k : Int) < (k : Int)) = false := decide_eq_false (by omega)
      clear hkn
      have hqt : Hid (q = false) := Lib.hid (by
        rw [hq.out, ← Bool.not_eq_true, List.contains_iff_mem]
        intro hm
        obtain ⟨j, hj⟩ := List.getElem?_of_mem hm
        exact hall.out j c (by rw [← hn.out]; exact (List.getElem?_eq_some_iff.mp hj).1) hj rfl)
      go_wp2_with fail
      go_ret
      exact ⟨by rw [hqt.out]; rfl, rfl⟩
theorem Frs.take {l : List Fr} {A : Option Addr} {n c : Nat} {w : World} (h : Frs l (.slice A n c) w) (k : Nat) (hk : k ≤ l.length) : Frs (l.take k) (.slice A k c) w := by
  obtain ⟨A', c', e, h1, h2, h3, h4⟩ := h
  injection e with e1 e2 e3
  subst e1 e2 e3
  have hkl : (l.take k).length = k := by rw [List.length_take]; omega
  refine ⟨A, c, by rw [hkl], by omega, h2, fun hp => ?_, fun x hx => h4 x (List.mem_of_mem_take hx)⟩
  obtain ⟨b, o, e, hb, hc⟩ := h3 (by omega)
  refine ⟨b, o, e, hb, fun i x hx => hc i x ?_⟩
  rw [List.getElem?_take] at hx
  split at hx
  · exact hx
  · cases hx
theorem Ints.take {l : List Int} {A : Option Addr} {n c : Nat} {w : World} (h : Ints l (.slice A n c) w) (k : Nat) (hk : k ≤ l.length) : Ints (l.take k) (.slice A k c) w := by
  obtain ⟨A', c', e, h1, h2, h3, h4⟩ := h
  injection e with e1 e2 e3
  subst e1 e2 e3
  have hkl : (l.take k).length = k := by rw [List.length_take]; omega
  refine ⟨A, c, by rw [hkl], by omega, h2, fun hp => ?_, fun x hx => h4 x (List.mem_of_mem_take hx)⟩
  obtain ⟨b, o, e, hb, hc⟩ := h3 (by omega)
  refine ⟨b, o, e, hb, fun i x hx => hc i x ?_⟩
  rw [List.getElem?_take] at hx
  split at hx
  · exact hx
  · cases hx
set_option maxHeartbeats 4000000 in
set_option maxRecDepth 10000 in
theorem few_any (l : List Fr) (v : Value) (w : World) (hv : Hid (Frs l v w)) :
    Calls Try.prog 7 #[v] w fun e w' => ∃ u, e = .returned u ∧ Frs (l.take 60) u w ∧ w' = w := by
  obtain ⟨A, cap, rfl, hcap, hmx, -, -⟩ := hv.out
  obtain ⟨n, hn⟩ : ∃ n, l.length = n := ⟨_, rfl⟩
  rw [hn] at hv hcap ⊢
  replace hn := Lib.hid hn
  by_cases h60 : 60 < n
  · have i1 : (60 : Int) < (n : Int) := by omega
    have hT := Lib.hid (hv.out.take 60 (by rw [hn.out]; omega))
    go_enter Try.func7, Try.ntmps7
    go_wp2_with fail
    go_ret
    exact ⟨_, rfl, hT.out, rfl⟩
  · have i1 : decide ((60 : Int) < (n : Int)) = false := decide_eq_false (by omega)
    have hT : Hid (Frs (l.take 60) (.slice A n cap) w) := Lib.hid (by rw [List.take_of_length_le (by rw [hn.out]; omega)]; exact hv.out)
    clear h60
    go_enter Try.func7, Try.ntmps7
    go_wp2_with fail
    go_ret
    exact ⟨_, rfl, hT.out, rfl⟩
end Go.Proofs.Ytfiaedhdgbnfiaa
