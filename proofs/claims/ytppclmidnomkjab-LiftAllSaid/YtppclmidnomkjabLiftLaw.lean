/- The laws of lift. -/
import Derived.Test.YtppclmidnomkjabLiftWalk
namespace Go.Proofs.Ytppclmidnomkjab
set_option linter.unusedVariables false
set_option linter.unusedSimpArgs false
open Go Go.RowKit

theorem few_any (A : Option Addr) (n c : Nat) (hc : n ≤ c) (hm : c ≤ maxLen) (w : World) :
    Calls Try.prog 25 #[.slice A n c] w fun e w' => e = .returned (.slice A (min n 60) c) ∧ w = w' := by
  unfold maxLen at hm
  by_cases h : 60 < n
  · rw [show min n 60 = 60 from by omega]
    go_enter Try.func25, Try.ntmps25
    go_wp2
    go_ret
    exact ⟨rfl, rfl⟩
  · rw [show min n 60 = n from by omega]
    have h' : (n : Int) ≤ 60 := by omega
    go_enter Try.func25, Try.ntmps25
    go_wp2
    go_ret
    exact ⟨rfl, rfl⟩
theorem some_any (A : Option Addr) (n c : Nat) (hc : n ≤ c) (hm : c ≤ maxLen) (w : World) :
    Calls Try.prog 26 #[.slice A n c] w fun e w' => e = .returned (.slice A (min n 20) c) ∧ w = w' := by
  unfold maxLen at hm
  by_cases h : 20 < n
  · rw [show min n 20 = 20 from by omega]
    go_enter Try.func26, Try.ntmps26
    go_wp2
    go_ret
    exact ⟨rfl, rfl⟩
  · rw [show min n 20 = n from by omega]
    have h' : (n : Int) ≤ 20 := by omega
    go_enter Try.func26, Try.ntmps26
    go_wp2
    go_ret
    exact ⟨rfl, rfl⟩
def asks3 : List Int := [0, 0, 1, 9, 0, 3, 0, 0, 1, 5, 0, 3, 0, 0, 1, 2, 0, 3]
theorem asks3_ok : ∀ z ∈ asks3, I64 z := by unfold asks3 I64; decide
theorem next_lit (p now : Int) (hnow : I64 now) (A : Option Addr) (A2 : Option Addr) (w : World) (ht : Tab w w.heap.size 6 A 3 (litF asks3 6)) (hg : Tab w w.heap.size 2 A2 1 (litF [1, p] 2)) (i : Nat) (hi : nextOf (litF asks3 6) 3 (litF [1, p] 2) 1 now 6 = (i, true)) :
    Calls Try.prog 27 #[.slice A 3 3, .slice A2 1 1, .int .i64 now, .int .i64 6] w fun e w' => e = .returned (.tuple #[.int .i64 i, .bool true]) ∧ Below w.heap.size w w' := by
  have h := next_any A 3 3 (litF asks3 6) (by omega) A2 1 1 (litF [1, p] 2) (by omega) now 6 hnow (by unfold I64; omega) w ht hg
  rw [hi] at h
  exact h
theorem head_lit (p : Int) (hp : I64 p) (w : World) (g B : Nat) (hg : g = w.heap.size) (hB : B = w.heap.size + 1) : Tab (w.alloc (.cells #[.int .i64 1, .int .i64 p] 56)) B 2 (some ⟨g, 0, none⟩) 1 (litF [1, p] 2) := by
  subst hg
  refine Tab.lit w [1, p] 2 1 rfl (fun z hz => ?_) _ rfl _ _ (by omega)
  rcases List.mem_cons.mp hz with rfl | hz
  · unfold I64; omega
  · rw [List.mem_singleton.mp hz]; exact hp
theorem Tab.sz {w : World} {s n g : Nat} {A : Option Addr} {F : Nat → Nat → Int} (h : Tab w g s A n F) (hg : g = w.heap.size) : Tab w w.heap.size s A n F := hg ▸ h
set_option maxHeartbeats 1000000 in
set_option maxRecDepth 10000 in
theorem awake16_any (w : World) :
    Calls Try.prog 29 #[] w fun e w' => e = .returned (.bool true) ∧ Below w.heap.size w w' := by
  have ht := Lib.hid (Tab.lit w asks3 6 3 rfl asks3_ok #[.int .i64 0, .int .i64 0, .int .i64 1, .int .i64 9, .int .i64 0, .int .i64 3, .int .i64 0, .int .i64 0, .int .i64 1, .int .i64 5, .int .i64 0, .int .i64 3, .int .i64 0, .int .i64 0, .int .i64 1, .int .i64 2, .int .i64 0, .int .i64 3] rfl 28 (w.heap.size + 1) (Nat.lt_succ_self _))
  have e1 := Lib.hid (show nextOf (litF asks3 6) 3 (litF [1, 4] 2) 1 8 6 = (1, true) by decide +kernel)
  have e2 := Lib.hid (show nextOf (litF asks3 6) 3 (litF [1, 10] 2) 1 8 6 = (2, true) by decide +kernel)
  have e3 := Lib.hid (show nextOf (litF asks3 6) 3 (litF [1, 4] 2) 1 9 6 = (0, true) by decide +kernel)
  go_enter Try.func29, Try.ntmps29
  have h0 := Lib.hid ((Below.refl w.heap.size w).alloc (Nat.le_refl _) (.cells #[.int .i64 0, .int .i64 0, .int .i64 1, .int .i64 9, .int .i64 0, .int .i64 3, .int .i64 0, .int .i64 0, .int .i64 1, .int .i64 5, .int .i64 0, .int .i64 3, .int .i64 0, .int .i64 0, .int .i64 1, .int .i64 2, .int .i64 0, .int .i64 3] 28))
  go_wp2_with fail
  refine (next_lit 4 8 (by unfold I64; omega) _ _ _ ((ht.out.alloc (by simp) _).more (by simp)) (Tab.sz (head_lit 4 (by unfold I64; omega) _ _ _ (by simp) rfl) (by simp)) 1 e1.out).mono ?_
  rintro e w1 ⟨rfl, hb1⟩
  replace ht := Lib.hid ((((ht.out.alloc (by simp) (.cells #[.int .i64 1, .int .i64 4] 56)).more (by simp)).up hb1))
  replace h0 := Lib.hid ((h0.out.alloc h0.out.size (.cells #[.int .i64 1, .int .i64 4] 56)).trans (hb1.mono (by simp; omega)))
  clear hb1
  go_wp2_with fail
  refine (next_lit 10 8 (by unfold I64; omega) _ _ _ ((ht.out.alloc (by simp) _).more (by simp)) (Tab.sz (head_lit 10 (by unfold I64; omega) _ _ _ (by simp) rfl) (by simp)) 2 e2.out).mono ?_
  rintro e w2 ⟨rfl, hb1⟩
  replace ht := Lib.hid ((((ht.out.alloc (by simp) (.cells #[.int .i64 1, .int .i64 10] 56)).more (by simp)).up hb1))
  replace h0 := Lib.hid ((h0.out.alloc h0.out.size (.cells #[.int .i64 1, .int .i64 10] 56)).trans (hb1.mono (by simp; exact Nat.le_succ_of_le h0.out.size)))
  clear hb1
  go_wp2_with fail
  refine (next_lit 4 9 (by unfold I64; omega) _ _ _ ((ht.out.alloc (by simp) _).more (by simp)) (Tab.sz (head_lit 4 (by unfold I64; omega) _ _ _ (by simp) rfl) (by simp)) 0 e3.out).mono ?_
  rintro e w3 ⟨rfl, hb1⟩
  replace h0 := Lib.hid ((h0.out.alloc h0.out.size (.cells #[.int .i64 1, .int .i64 4] 56)).trans (hb1.mono (by simp; exact Nat.le_succ_of_le h0.out.size)))
  clear hb1 ht
  go_wp2_with fail
  refine (next_any none 0 0 (fun _ _ => 0) (by omega) none 0 0 (fun _ _ => 0) (by omega) 9 6 (by unfold I64; omega) (by unfold I64; omega) _ (Tab.nil _ _ _ _ _) (Tab.nil _ _ _ _ _)).mono ?_
  rintro e w4 ⟨rfl, hb1⟩
  replace h0 := Lib.hid (h0.out.trans (hb1.mono h0.out.size))
  clear hb1
  rw [show nextOf (fun _ _ => 0) 0 (fun _ _ => 0) 0 9 6 = (0, false) from rfl]
  go_wp2
  go_ret
  exact ⟨rfl, h0.out⟩
set_option maxHeartbeats 1000000 in
set_option maxRecDepth 10000 in
theorem liftNext_any (A : Option Addr) (n c : Nat) (hc : n ≤ c) (hm : c ≤ maxLen) (F : Nat → Nat → Int) (A2 : Option Addr) (m c2 : Nat) (hc2 : m ≤ c2) (hm2 : c2 ≤ maxLen) (G : Nat → Nat → Int) (now age : Int) (hnow : I64 now) (hage : I64 age) (w : World) (hr : Tab w w.heap.size 6 A n F) (hg : Tab w w.heap.size 2 A2 m G) :
    Calls Try.prog 8 #[.slice A n c, .slice A2 m c2, .int .i64 now, .int .i64 age] w fun e w' => e = .returned (.bool true) ∧ Below w.heap.size w w' := by
  replace hr := Lib.hid (hr.take (m := min n 60) (Nat.min_le_left _ _))
  replace hg := Lib.hid (hg.take (m := min m 20) (Nat.min_le_left _ _))
  have hn6 : min n 60 ≤ 60 := Nat.min_le_right _ _
  have hm6 : min m 20 ≤ 20 := Nat.min_le_right _ _
  have hf := Lib.hid (fun W => few_any A n c hc hm W)
  have hs := Lib.hid (fun W => some_any A2 m c2 hc2 hm2 W)
  clear hc hm hc2 hm2
  generalize min n 60 = N at *
  generalize min m 20 = M at *
  obtain ⟨⟨q, bq⟩, hq⟩ : ∃ q, Hid (nextOf F N G M now age = q) := ⟨_, Lib.hid rfl⟩
  go_enter Try.func8, Try.ntmps8
  go_wp2_with fail
  refine (hf.out _).mono ?_
  rintro e w1 ⟨rfl, rfl⟩
  go_wp2_with fail
  refine (hs.out _).mono ?_
  rintro e w1 ⟨rfl, rfl⟩
  go_wp2_with fail
  refine (next_any A N c F (by omega) A2 M c2 G (by omega) now age hnow hage _ hr.out hg.out).mono ?_
  rintro e w1 ⟨rfl, hb1⟩
  rw [hq.out]
  replace hr := Lib.hid (hr.out.up hb1)
  replace hg := Lib.hid (hg.out.up hb1)
  replace hb1 := Lib.hid hb1
  go_wp2_with fail
  refine (rnext_any A N c F (by omega) A2 M c2 G (by omega) now age hnow hage _ hr.out hg.out).mono ?_
  rintro e w2 ⟨rfl, hb2⟩
  rw [hq.out]
  replace hb1 := Lib.hid (hb1.out.trans (hb2.mono hb1.out.size))
  clear hb2 hr hg
  go_wp2_with fail
  refine (awake16_any _).mono ?_
  rintro e w3 ⟨rfl, hb2⟩
  replace hb1 := Lib.hid (hb1.out.trans (hb2.mono hb1.out.size))
  clear hb2
  go_wp2
  go_ret
  exact ⟨rfl, hb1.out⟩
end Go.Proofs.Ytppclmidnomkjab
