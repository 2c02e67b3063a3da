/- The fixed facts of mat's laws. -/
import Derived.Test.YtpeilgeloaogfaaMatRef5
import Derived.Test.YtpeilgeloaogfaaSpanT
namespace Go.Proofs.Ytpeilgeloaogfaa
set_option linter.unusedVariables false
set_option linter.unusedSimpArgs false
open Go Go.RowKit
theorem tbl_at1 {w : World} {v0 : Value} {l0 : List UInt8} (h0 : Byt l0 v0 w) : ∀ (i : Nat) (v : Value) (l : List UInt8), [v0][i]? = some v → [l0][i]? = some l → Byt l v w
  | 0, v, l, e1, e2 => by injection e1 with e1; injection e2 with e2; subst e1; subst e2; exact h0
  | n + 1, v, l, e1, e2 => by simp at e1
theorem tbl_at2 {w : World} {v0 v1 : Value} {l0 l1 : List UInt8} (h0 : Byt l0 v0 w) (h1 : Byt l1 v1 w) : ∀ (i : Nat) (v : Value) (l : List UInt8), [v0, v1][i]? = some v → [l0, l1][i]? = some l → Byt l v w
  | 0, v, l, e1, e2 => by injection e1 with e1; injection e2 with e2; subst e1; subst e2; exact h0
  | n + 1, v, l, e1, e2 => tbl_at1 h1 n v l e1 e2
theorem tbl_at3 {w : World} {v0 v1 v2 : Value} {l0 l1 l2 : List UInt8} (h0 : Byt l0 v0 w) (h1 : Byt l1 v1 w) (h2 : Byt l2 v2 w) : ∀ (i : Nat) (v : Value) (l : List UInt8), [v0, v1, v2][i]? = some v → [l0, l1, l2][i]? = some l → Byt l v w
  | 0, v, l, e1, e2 => by injection e1 with e1; injection e2 with e2; subst e1; subst e2; exact h0
  | n + 1, v, l, e1, e2 => tbl_at2 h1 h2 n v l e1 e2
/-! ### what the functions answer, as facts -/
theorem TB.tbl {w : World} {base g n m : Nat} {G C : Nat → Nat} {M : Mx} (h : TB w base g n m G C M) (hn : n ≤ 1000000) (c : Nat) (hc : n ≤ c) (hm : c ≤ maxLen) : Tbl (tabM n m M) (.slice (some ⟨g, 0, none⟩) n c) w :=
  ⟨_, c, by rw [tabM_length], by rw [tabM_length]; exact hc, hm, by rw [tabM_length]; exact h.rt⟩
theorem times_tbl {w : World} {La Lb : List (List UInt8)} {va vb : Value} (ha : Tbl La va w) (hb : Tbl Lb vb w) :
    Calls Try.prog 29 #[va, vb] w fun e w' => ∃ u L b, e = .returned (.tuple #[u, .bool b]) ∧ Tbl L u w' ∧ Below w.heap.size w w' ∧ b = fits La Lb ∧ L = if fits La Lb = true then tabM La.length (width Lb) (mm Lb.length (ent La) (ent Lb)) else [] := by
  obtain ⟨A, c, rfl, a1, a2, a3⟩ := ha
  obtain ⟨A2, c2, rfl, b1, b2, b3⟩ := hb
  have hm : maxLen = 9223372036854775807 := rfl
  cases hf : fits La Lb with
  | true =>
    refine (times_ok A _ c La a1 A2 _ c2 Lb b1 w a3 b3 hf).mono ?_
    rintro e w' ⟨g, G, C, rfl, h1, h2⟩
    unfold fits at hf
    rw [Bool.and_eq_true, Bool.and_eq_true] at hf
    have h3 := (isTab_iff.mp hf.1.1).2.1
    exact ⟨_, _, true, rfl, h1.tbl (by omega) _ (Nat.le_refl _) (by rw [hm]; omega), h2, rfl, (if_pos rfl).symm⟩
  | false =>
    refine (times_no A _ c La a1 (by rw [← hm]; exact a2) A2 _ c2 Lb b1 (by rw [← hm]; exact b2) w a3 b3 hf).mono ?_
    rintro e w' ⟨rfl, rfl⟩
    exact ⟨_, [], false, rfl, ⟨none, 0, rfl, Nat.le_refl _, Nat.zero_le _, rfl, fun h => absurd h (by decide)⟩, Below.refl _ _, rfl, rfl⟩
theorem same_tbl {w : World} {La Lb : List (List UInt8)} {va vb : Value} (ha : Tbl La va w) (hb : Tbl Lb vb w) :
    Calls Try.prog 32 #[va, vb] w fun e w' => e = .returned (.bool (La == Lb)) ∧ Below w.heap.size w w' := by
  obtain ⟨A, c, rfl, a1, a2, a3⟩ := ha
  obtain ⟨A2, c2, rfl, b1, b2, b3⟩ := hb
  have hm : maxLen = 9223372036854775807 := rfl
  exact rsameT_any A _ c La (by omega) A2 _ c2 Lb (by omega) w a3 b3
theorem tbl_nil {w : World} : Tbl [] (.slice none 0 0) w := ⟨none, 0, rfl, Nat.le_refl _, Nat.zero_le _, rfl, fun h => absurd h (by decide)⟩
/-- what Invert answers -/
def InvAns (La L : List (List UInt8)) (b : Bool) : Prop :=
  (b = true ∧ square La = true ∧ ∃ X : Mx, L = tabM La.length La.length X ∧ EqM La.length La.length (mm La.length X (ent La)) idM ∧ EqM La.length La.length (mm La.length (ent La) X) idM) ∨ (b = false ∧ L = [] ∧ (square La = true → HasKer La.length (ent La)))
theorem invert_tbl {w : World} {La : List (List UInt8)} {va : Value} (ha : Tbl La va w) :
    Calls Try.prog 33 #[va] w fun e w' => ∃ u L b, e = .returned (.tuple #[u, .bool b]) ∧ Tbl L u w' ∧ Below w.heap.size w w' ∧ InvAns La L b := by
  obtain ⟨A, c, rfl, a1, a2, a3⟩ := ha
  have hm : maxLen = 9223372036854775807 := rfl
  cases hf : square La with
  | true =>
    refine (invert_ok A _ c La a1 hf w a3).mono ?_
    rintro e w' ⟨hb, ⟨rfl, hk⟩ | ⟨g, G, C, X, rfl, ht, h1, h2⟩⟩
    · exact ⟨_, [], false, rfl, tbl_nil, hb, .inr ⟨rfl, rfl, fun _ => hk⟩⟩
    · have hf' := hf
      unfold square at hf'
      rw [Bool.and_eq_true] at hf'
      have h3 := (isTab_iff.mp hf'.1).2.1
      exact ⟨_, _, true, rfl, ht.tbl (by omega) _ (Nat.le_refl _) (by rw [hm]; omega), hb, .inl ⟨rfl, hf, X, rfl, h1, h2⟩⟩
  | false =>
    refine (invert_no A _ c La a1 (by rw [← hm]; exact a2) hf w a3).mono ?_
    rintro e w' ⟨rfl, rfl⟩
    exact ⟨_, [], false, rfl, tbl_nil, Below.refl _ _, .inr ⟨rfl, rfl, fun h => absurd (hf.symm.trans h) (by decide)⟩⟩
theorem code_tbl (m n : Nat) (h1 : 1 ≤ m) (hmn : m ≤ n) (h32 : n ≤ 32) (w : World) :
    Calls Try.prog 37 #[.int .i64 m, .int .i64 n] w fun e w' => ∃ u, e = .returned u ∧ Tbl (tabM n m (codeE m)) u w' ∧ Below w.heap.size w w' := by
  refine (code_ok m n h1 hmn h32 w).mono ?_
  rintro e w' ⟨g, G, C, rfl, ht, hb⟩
  exact ⟨_, rfl, ht.tbl (by omega) _ (Nat.le_refl _) (by simp only [maxLen]; omega), hb⟩
theorem ans2 {L : List (List UInt8)} {b : Bool} (h : InvAns [[2]] L b) : b = true ∧ L = [[142]] := by
  have hs : square [[2]] = true := by decide
  have h142 : EqM 1 1 (mm 1 (ent [[2]]) (ent [[142]])) idM := fun i j hi hj => by
    obtain rfl : i = 0 := by omega
    obtain rfl : j = 0 := by omega
    decide +kernel
  have h142' : EqM 1 1 (mm 1 (ent [[142]]) (ent [[2]])) idM := fun i j hi hj => by
    obtain rfl : i = 0 := by omega
    obtain rfl : j = 0 := by omega
    decide +kernel
  rcases h with ⟨rfl, -, X, rfl, h1, h2⟩ | ⟨rfl, rfl, hk⟩
  · refine ⟨rfl, ?_⟩
    rw [show ([[2]] : List (List UInt8)).length = 1 from rfl] at h1 ⊢
    rw [tabM_congr (B := ent [[142]]) (inv_unique h1 h142)]
    decide +kernel
  · exact (not_both (noKer_of_left h142') (hk hs)).elim
theorem ans11 {L : List (List UInt8)} {b : Bool} (h : InvAns [[1, 1], [1, 1]] L b) : b = false := by
  rcases h with ⟨rfl, -, X, rfl, h1, h2⟩ | ⟨rfl, -, -⟩
  · exfalso
    refine not_both (noKer_of_left h1) ⟨fun _ => 1, fun i hi => ?_, 0, by decide, by decide⟩
    have hi' : i < 2 := hi
    rcases (by omega : i = 0 ∨ i = 1) with rfl | rfl <;> decide +kernel
  · rfl
set_option maxHeartbeats 16000000 in
set_option maxRecDepth 20000 in
theorem awake02_any (w : World) : Calls Try.prog 31 #[] w fun e w' => e = .returned (.bool true) ∧ Below w.heap.size w w' := by
  have hq : Hid (Gr w w) := Lib.hid (Below.refl _ _)
  go_enter Try.func31, Try.ntmps31
  have c0 := Byt.lit (w) #[.int .u8 1, .int .u8 2] [1, 2] rfl (by decide)
  have c1 := Tbl.lit ((w).alloc (.cells #[.int .u8 1, .int .u8 2] 5)) [.slice (some ⟨(w).heap.size, 0, none⟩) 2 2] [[1, 2]] rfl (by decide) (tbl_at1 c0)
  replace c0 := (rdP [1, 2]).st (w' := ((w).alloc (.cells #[.int .u8 1, .int .u8 2] 5)).alloc (.cells #[.slice (some ⟨(w).heap.size, 0, none⟩) 2 2] 29)) ((Below.refl _ _).alloc (Nat.le_refl _) _) c0
  have c2 := Byt.lit (((w).alloc (.cells #[.int .u8 1, .int .u8 2] 5)).alloc (.cells #[.slice (some ⟨(w).heap.size, 0, none⟩) 2 2] 29)) #[.int .u8 3] [3] rfl (by decide)
  replace c0 := (rdP [1, 2]).st (w' := (((w).alloc (.cells #[.int .u8 1, .int .u8 2] 5)).alloc (.cells #[.slice (some ⟨(w).heap.size, 0, none⟩) 2 2] 29)).alloc (.cells #[.int .u8 3] 5)) ((Below.refl _ _).alloc (Nat.le_refl _) _) c0
  replace c1 := (tbP [[1, 2]]).st (w' := (((w).alloc (.cells #[.int .u8 1, .int .u8 2] 5)).alloc (.cells #[.slice (some ⟨(w).heap.size, 0, none⟩) 2 2] 29)).alloc (.cells #[.int .u8 3] 5)) ((Below.refl _ _).alloc (Nat.le_refl _) _) c1
  have c3 := Byt.lit ((((w).alloc (.cells #[.int .u8 1, .int .u8 2] 5)).alloc (.cells #[.slice (some ⟨(w).heap.size, 0, none⟩) 2 2] 29)).alloc (.cells #[.int .u8 3] 5)) #[.int .u8 4] [4] rfl (by decide)
  replace c0 := (rdP [1, 2]).st (w' := ((((w).alloc (.cells #[.int .u8 1, .int .u8 2] 5)).alloc (.cells #[.slice (some ⟨(w).heap.size, 0, none⟩) 2 2] 29)).alloc (.cells #[.int .u8 3] 5)).alloc (.cells #[.int .u8 4] 5)) ((Below.refl _ _).alloc (Nat.le_refl _) _) c0
  replace c1 := (tbP [[1, 2]]).st (w' := ((((w).alloc (.cells #[.int .u8 1, .int .u8 2] 5)).alloc (.cells #[.slice (some ⟨(w).heap.size, 0, none⟩) 2 2] 29)).alloc (.cells #[.int .u8 3] 5)).alloc (.cells #[.int .u8 4] 5)) ((Below.refl _ _).alloc (Nat.le_refl _) _) c1
  replace c2 := (rdP [3]).st (w' := ((((w).alloc (.cells #[.int .u8 1, .int .u8 2] 5)).alloc (.cells #[.slice (some ⟨(w).heap.size, 0, none⟩) 2 2] 29)).alloc (.cells #[.int .u8 3] 5)).alloc (.cells #[.int .u8 4] 5)) ((Below.refl _ _).alloc (Nat.le_refl _) _) c2
  have c4 := Tbl.lit (((((w).alloc (.cells #[.int .u8 1, .int .u8 2] 5)).alloc (.cells #[.slice (some ⟨(w).heap.size, 0, none⟩) 2 2] 29)).alloc (.cells #[.int .u8 3] 5)).alloc (.cells #[.int .u8 4] 5)) [.slice (some ⟨(((w).alloc (.cells #[.int .u8 1, .int .u8 2] 5)).alloc (.cells #[.slice (some ⟨(w).heap.size, 0, none⟩) 2 2] 29)).heap.size, 0, none⟩) 1 1, .slice (some ⟨((((w).alloc (.cells #[.int .u8 1, .int .u8 2] 5)).alloc (.cells #[.slice (some ⟨(w).heap.size, 0, none⟩) 2 2] 29)).alloc (.cells #[.int .u8 3] 5)).heap.size, 0, none⟩) 1 1] [[3], [4]] rfl (by decide) (tbl_at2 c2 c3)
  replace c0 := (rdP [1, 2]).st (w' := (((((w).alloc (.cells #[.int .u8 1, .int .u8 2] 5)).alloc (.cells #[.slice (some ⟨(w).heap.size, 0, none⟩) 2 2] 29)).alloc (.cells #[.int .u8 3] 5)).alloc (.cells #[.int .u8 4] 5)).alloc (.cells #[.slice (some ⟨(((w).alloc (.cells #[.int .u8 1, .int .u8 2] 5)).alloc (.cells #[.slice (some ⟨(w).heap.size, 0, none⟩) 2 2] 29)).heap.size, 0, none⟩) 1 1, .slice (some ⟨((((w).alloc (.cells #[.int .u8 1, .int .u8 2] 5)).alloc (.cells #[.slice (some ⟨(w).heap.size, 0, none⟩) 2 2] 29)).alloc (.cells #[.int .u8 3] 5)).heap.size, 0, none⟩) 1 1] 29)) ((Below.refl _ _).alloc (Nat.le_refl _) _) c0
  replace c1 := (tbP [[1, 2]]).st (w' := (((((w).alloc (.cells #[.int .u8 1, .int .u8 2] 5)).alloc (.cells #[.slice (some ⟨(w).heap.size, 0, none⟩) 2 2] 29)).alloc (.cells #[.int .u8 3] 5)).alloc (.cells #[.int .u8 4] 5)).alloc (.cells #[.slice (some ⟨(((w).alloc (.cells #[.int .u8 1, .int .u8 2] 5)).alloc (.cells #[.slice (some ⟨(w).heap.size, 0, none⟩) 2 2] 29)).heap.size, 0, none⟩) 1 1, .slice (some ⟨((((w).alloc (.cells #[.int .u8 1, .int .u8 2] 5)).alloc (.cells #[.slice (some ⟨(w).heap.size, 0, none⟩) 2 2] 29)).alloc (.cells #[.int .u8 3] 5)).heap.size, 0, none⟩) 1 1] 29)) ((Below.refl _ _).alloc (Nat.le_refl _) _) c1
  replace c2 := (rdP [3]).st (w' := (((((w).alloc (.cells #[.int .u8 1, .int .u8 2] 5)).alloc (.cells #[.slice (some ⟨(w).heap.size, 0, none⟩) 2 2] 29)).alloc (.cells #[.int .u8 3] 5)).alloc (.cells #[.int .u8 4] 5)).alloc (.cells #[.slice (some ⟨(((w).alloc (.cells #[.int .u8 1, .int .u8 2] 5)).alloc (.cells #[.slice (some ⟨(w).heap.size, 0, none⟩) 2 2] 29)).heap.size, 0, none⟩) 1 1, .slice (some ⟨((((w).alloc (.cells #[.int .u8 1, .int .u8 2] 5)).alloc (.cells #[.slice (some ⟨(w).heap.size, 0, none⟩) 2 2] 29)).alloc (.cells #[.int .u8 3] 5)).heap.size, 0, none⟩) 1 1] 29)) ((Below.refl _ _).alloc (Nat.le_refl _) _) c2
  replace c3 := (rdP [4]).st (w' := (((((w).alloc (.cells #[.int .u8 1, .int .u8 2] 5)).alloc (.cells #[.slice (some ⟨(w).heap.size, 0, none⟩) 2 2] 29)).alloc (.cells #[.int .u8 3] 5)).alloc (.cells #[.int .u8 4] 5)).alloc (.cells #[.slice (some ⟨(((w).alloc (.cells #[.int .u8 1, .int .u8 2] 5)).alloc (.cells #[.slice (some ⟨(w).heap.size, 0, none⟩) 2 2] 29)).heap.size, 0, none⟩) 1 1, .slice (some ⟨((((w).alloc (.cells #[.int .u8 1, .int .u8 2] 5)).alloc (.cells #[.slice (some ⟨(w).heap.size, 0, none⟩) 2 2] 29)).alloc (.cells #[.int .u8 3] 5)).heap.size, 0, none⟩) 1 1] 29)) ((Below.refl _ _).alloc (Nat.le_refl _) _) c3
  have cb : Gr (w) ((((((w).alloc (.cells #[.int .u8 1, .int .u8 2] 5)).alloc (.cells #[.slice (some ⟨(w).heap.size, 0, none⟩) 2 2] 29)).alloc (.cells #[.int .u8 3] 5)).alloc (.cells #[.int .u8 4] 5)).alloc (.cells #[.slice (some ⟨(((w).alloc (.cells #[.int .u8 1, .int .u8 2] 5)).alloc (.cells #[.slice (some ⟨(w).heap.size, 0, none⟩) 2 2] 29)).heap.size, 0, none⟩) 1 1, .slice (some ⟨((((w).alloc (.cells #[.int .u8 1, .int .u8 2] 5)).alloc (.cells #[.slice (some ⟨(w).heap.size, 0, none⟩) 2 2] 29)).alloc (.cells #[.int .u8 3] 5)).heap.size, 0, none⟩) 1 1] 29)) := (((((Below.refl _ _).alloc (by simp <;> omega) _).alloc (by simp <;> omega) _).alloc (by simp <;> omega) _).alloc (by simp <;> omega) _).alloc (by simp <;> omega) _
  simp only [World.size_alloc, List.length_cons, List.length_nil, Nat.zero_add, Nat.reduceAdd] at c0 c1 c2 c3 c4 cb
  clear c0
  clear c2
  clear c3
  replace c1 := Lib.hid c1
  replace c4 := Lib.hid c4
  replace hq := Lib.hid (Gr.trans hq.out cb)
  clear cb
  go_wp2_with fail
  refine (times_tbl c1.out c4.out).mono ?_
  rintro e w1 ⟨u1, L1, b1, rfl, hu1, hb1, hbe, hLe⟩
  replace hbe := hbe.trans (show fits [[1, 2]] [[3], [4]] = true from by decide +kernel)
  subst hbe
  replace hLe := hLe.trans (show _ = [[11]] from by decide +kernel)
  subst hLe
  replace hu1 := Lib.hid hu1
  replace hq := Lib.hid (Gr.trans hq.out hb1)
  clear c1 c4 hb1
  have c0 := Byt.lit (w1) #[.int .u8 2] [2] rfl (by decide)
  have c1 := Tbl.lit ((w1).alloc (.cells #[.int .u8 2] 5)) [.slice (some ⟨(w1).heap.size, 0, none⟩) 1 1] [[2]] rfl (by decide) (tbl_at1 c0)
  replace c0 := (rdP [2]).st (w' := ((w1).alloc (.cells #[.int .u8 2] 5)).alloc (.cells #[.slice (some ⟨(w1).heap.size, 0, none⟩) 1 1] 29)) ((Below.refl _ _).alloc (Nat.le_refl _) _) c0
  have cb : Gr (w1) (((w1).alloc (.cells #[.int .u8 2] 5)).alloc (.cells #[.slice (some ⟨(w1).heap.size, 0, none⟩) 1 1] 29)) := ((Below.refl _ _).alloc (by simp <;> omega) _).alloc (by simp <;> omega) _
  simp only [World.size_alloc, List.length_cons, List.length_nil, Nat.zero_add, Nat.reduceAdd] at c0 c1 cb
  replace hu1 := Lib.hid ((tbP [[11]]).st cb hu1.out)
  clear c0
  replace c1 := Lib.hid c1
  replace hq := Lib.hid (Gr.trans hq.out cb)
  clear cb
  go_wp2_with fail
  refine (invert_tbl c1.out).mono ?_
  rintro e w2 ⟨u2, L2, b2, rfl, hu2, hb2, hans⟩
  obtain ⟨rfl, rfl⟩ := ans2 hans
  replace hu2 := Lib.hid hu2
  replace hq := Lib.hid (Gr.trans hq.out hb2)
  replace hu1 := Lib.hid ((tbP [[11]]).st hb2 hu1.out)
  clear c1 hb2 hans
  have c0 := Byt.lit (w2) #[.int .u8 1, .int .u8 1] [1, 1] rfl (by decide)
  have c1 := Byt.lit ((w2).alloc (.cells #[.int .u8 1, .int .u8 1] 5)) #[.int .u8 1, .int .u8 1] [1, 1] rfl (by decide)
  replace c0 := (rdP [1, 1]).st (w' := ((w2).alloc (.cells #[.int .u8 1, .int .u8 1] 5)).alloc (.cells #[.int .u8 1, .int .u8 1] 5)) ((Below.refl _ _).alloc (Nat.le_refl _) _) c0
  have c2 := Tbl.lit (((w2).alloc (.cells #[.int .u8 1, .int .u8 1] 5)).alloc (.cells #[.int .u8 1, .int .u8 1] 5)) [.slice (some ⟨(w2).heap.size, 0, none⟩) 2 2, .slice (some ⟨((w2).alloc (.cells #[.int .u8 1, .int .u8 1] 5)).heap.size, 0, none⟩) 2 2] [[1, 1], [1, 1]] rfl (by decide) (tbl_at2 c0 c1)
  replace c0 := (rdP [1, 1]).st (w' := (((w2).alloc (.cells #[.int .u8 1, .int .u8 1] 5)).alloc (.cells #[.int .u8 1, .int .u8 1] 5)).alloc (.cells #[.slice (some ⟨(w2).heap.size, 0, none⟩) 2 2, .slice (some ⟨((w2).alloc (.cells #[.int .u8 1, .int .u8 1] 5)).heap.size, 0, none⟩) 2 2] 29)) ((Below.refl _ _).alloc (Nat.le_refl _) _) c0
  replace c1 := (rdP [1, 1]).st (w' := (((w2).alloc (.cells #[.int .u8 1, .int .u8 1] 5)).alloc (.cells #[.int .u8 1, .int .u8 1] 5)).alloc (.cells #[.slice (some ⟨(w2).heap.size, 0, none⟩) 2 2, .slice (some ⟨((w2).alloc (.cells #[.int .u8 1, .int .u8 1] 5)).heap.size, 0, none⟩) 2 2] 29)) ((Below.refl _ _).alloc (Nat.le_refl _) _) c1
  have cb : Gr (w2) ((((w2).alloc (.cells #[.int .u8 1, .int .u8 1] 5)).alloc (.cells #[.int .u8 1, .int .u8 1] 5)).alloc (.cells #[.slice (some ⟨(w2).heap.size, 0, none⟩) 2 2, .slice (some ⟨((w2).alloc (.cells #[.int .u8 1, .int .u8 1] 5)).heap.size, 0, none⟩) 2 2] 29)) := (((Below.refl _ _).alloc (by simp <;> omega) _).alloc (by simp <;> omega) _).alloc (by simp <;> omega) _
  simp only [World.size_alloc, List.length_cons, List.length_nil, Nat.zero_add, Nat.reduceAdd] at c0 c1 c2 cb
  replace hu1 := Lib.hid ((tbP [[11]]).st cb hu1.out)
  replace hu2 := Lib.hid ((tbP [[142]]).st cb hu2.out)
  clear c0
  clear c1
  replace c2 := Lib.hid c2
  replace hq := Lib.hid (Gr.trans hq.out cb)
  clear cb
  go_wp2_with fail
  refine (invert_tbl c2.out).mono ?_
  rintro e w3 ⟨u3, L3, b3, rfl, hu3, hb3, hans⟩
  obtain rfl := ans11 hans
  replace hq := Lib.hid (Gr.trans hq.out hb3)
  replace hu1 := Lib.hid ((tbP [[11]]).st hb3 hu1.out)
  replace hu2 := Lib.hid ((tbP [[142]]).st hb3 hu2.out)
  clear c2 hb3 hu3 hans
  have c0 := Byt.lit (w3) #[.int .u8 11] [11] rfl (by decide)
  have c1 := Tbl.lit ((w3).alloc (.cells #[.int .u8 11] 5)) [.slice (some ⟨(w3).heap.size, 0, none⟩) 1 1] [[11]] rfl (by decide) (tbl_at1 c0)
  replace c0 := (rdP [11]).st (w' := ((w3).alloc (.cells #[.int .u8 11] 5)).alloc (.cells #[.slice (some ⟨(w3).heap.size, 0, none⟩) 1 1] 29)) ((Below.refl _ _).alloc (Nat.le_refl _) _) c0
  have cb : Gr (w3) (((w3).alloc (.cells #[.int .u8 11] 5)).alloc (.cells #[.slice (some ⟨(w3).heap.size, 0, none⟩) 1 1] 29)) := ((Below.refl _ _).alloc (by simp <;> omega) _).alloc (by simp <;> omega) _
  simp only [World.size_alloc, List.length_cons, List.length_nil, Nat.zero_add, Nat.reduceAdd] at c0 c1 cb
  replace hu1 := Lib.hid ((tbP [[11]]).st cb hu1.out)
  replace hu2 := Lib.hid ((tbP [[142]]).st cb hu2.out)
  clear c0
  replace c1 := Lib.hid c1
  replace hq := Lib.hid (Gr.trans hq.out cb)
  clear cb
  go_wp2_with fail
  refine (same_tbl hu1.out c1.out).mono ?_
  rintro e w4 ⟨rfl, hb4⟩
  rw [show (([[11]] : List (List UInt8)) == [[11]]) = true from by decide]
  replace hq := Lib.hid (Gr.trans hq.out hb4)
  replace hu2 := Lib.hid ((tbP [[142]]).st hb4 hu2.out)
  clear c1 hb4 hu1
  have c0 := Byt.lit (w4) #[.int .u8 142] [142] rfl (by decide)
  have c1 := Tbl.lit ((w4).alloc (.cells #[.int .u8 142] 5)) [.slice (some ⟨(w4).heap.size, 0, none⟩) 1 1] [[142]] rfl (by decide) (tbl_at1 c0)
  replace c0 := (rdP [142]).st (w' := ((w4).alloc (.cells #[.int .u8 142] 5)).alloc (.cells #[.slice (some ⟨(w4).heap.size, 0, none⟩) 1 1] 29)) ((Below.refl _ _).alloc (Nat.le_refl _) _) c0
  have cb : Gr (w4) (((w4).alloc (.cells #[.int .u8 142] 5)).alloc (.cells #[.slice (some ⟨(w4).heap.size, 0, none⟩) 1 1] 29)) := ((Below.refl _ _).alloc (by simp <;> omega) _).alloc (by simp <;> omega) _
  simp only [World.size_alloc, List.length_cons, List.length_nil, Nat.zero_add, Nat.reduceAdd] at c0 c1 cb
  replace hu2 := Lib.hid ((tbP [[142]]).st cb hu2.out)
  clear c0
  replace c1 := Lib.hid c1
  replace hq := Lib.hid (Gr.trans hq.out cb)
  clear cb
  go_wp2_with fail
  refine (same_tbl hu2.out c1.out).mono ?_
  rintro e w5 ⟨rfl, hb5⟩
  rw [show (([[142]] : List (List UInt8)) == [[142]]) = true from by decide]
  replace hq := Lib.hid (Gr.trans hq.out hb5)
  clear c1 hb5 hu2
  go_wp2_with fail
  refine (code_tbl 2 3 (by decide) (by decide) (by decide) w5).mono ?_
  rintro e w6 ⟨u6, rfl, hu6, hb6⟩
  rw [show tabM 3 2 (codeE 2) = [[1, 0], [0, 1], [142, 244]] from by decide +kernel] at hu6
  replace hu6 := Lib.hid hu6
  replace hq := Lib.hid (Gr.trans hq.out hb6)
  clear hb6
  have c0 := Byt.lit (w6) #[.int .u8 1, .int .u8 0] [1, 0] rfl (by decide)
  have c1 := Byt.lit ((w6).alloc (.cells #[.int .u8 1, .int .u8 0] 5)) #[.int .u8 0, .int .u8 1] [0, 1] rfl (by decide)
  replace c0 := (rdP [1, 0]).st (w' := ((w6).alloc (.cells #[.int .u8 1, .int .u8 0] 5)).alloc (.cells #[.int .u8 0, .int .u8 1] 5)) ((Below.refl _ _).alloc (Nat.le_refl _) _) c0
  have c2 := Byt.lit (((w6).alloc (.cells #[.int .u8 1, .int .u8 0] 5)).alloc (.cells #[.int .u8 0, .int .u8 1] 5)) #[.int .u8 142, .int .u8 244] [142, 244] rfl (by decide)
  replace c0 := (rdP [1, 0]).st (w' := (((w6).alloc (.cells #[.int .u8 1, .int .u8 0] 5)).alloc (.cells #[.int .u8 0, .int .u8 1] 5)).alloc (.cells #[.int .u8 142, .int .u8 244] 5)) ((Below.refl _ _).alloc (Nat.le_refl _) _) c0
  replace c1 := (rdP [0, 1]).st (w' := (((w6).alloc (.cells #[.int .u8 1, .int .u8 0] 5)).alloc (.cells #[.int .u8 0, .int .u8 1] 5)).alloc (.cells #[.int .u8 142, .int .u8 244] 5)) ((Below.refl _ _).alloc (Nat.le_refl _) _) c1
  have c3 := Tbl.lit ((((w6).alloc (.cells #[.int .u8 1, .int .u8 0] 5)).alloc (.cells #[.int .u8 0, .int .u8 1] 5)).alloc (.cells #[.int .u8 142, .int .u8 244] 5)) [.slice (some ⟨(w6).heap.size, 0, none⟩) 2 2, .slice (some ⟨((w6).alloc (.cells #[.int .u8 1, .int .u8 0] 5)).heap.size, 0, none⟩) 2 2, .slice (some ⟨(((w6).alloc (.cells #[.int .u8 1, .int .u8 0] 5)).alloc (.cells #[.int .u8 0, .int .u8 1] 5)).heap.size, 0, none⟩) 2 2] [[1, 0], [0, 1], [142, 244]] rfl (by decide) (tbl_at3 c0 c1 c2)
  replace c0 := (rdP [1, 0]).st (w' := ((((w6).alloc (.cells #[.int .u8 1, .int .u8 0] 5)).alloc (.cells #[.int .u8 0, .int .u8 1] 5)).alloc (.cells #[.int .u8 142, .int .u8 244] 5)).alloc (.cells #[.slice (some ⟨(w6).heap.size, 0, none⟩) 2 2, .slice (some ⟨((w6).alloc (.cells #[.int .u8 1, .int .u8 0] 5)).heap.size, 0, none⟩) 2 2, .slice (some ⟨(((w6).alloc (.cells #[.int .u8 1, .int .u8 0] 5)).alloc (.cells #[.int .u8 0, .int .u8 1] 5)).heap.size, 0, none⟩) 2 2] 29)) ((Below.refl _ _).alloc (Nat.le_refl _) _) c0
  replace c1 := (rdP [0, 1]).st (w' := ((((w6).alloc (.cells #[.int .u8 1, .int .u8 0] 5)).alloc (.cells #[.int .u8 0, .int .u8 1] 5)).alloc (.cells #[.int .u8 142, .int .u8 244] 5)).alloc (.cells #[.slice (some ⟨(w6).heap.size, 0, none⟩) 2 2, .slice (some ⟨((w6).alloc (.cells #[.int .u8 1, .int .u8 0] 5)).heap.size, 0, none⟩) 2 2, .slice (some ⟨(((w6).alloc (.cells #[.int .u8 1, .int .u8 0] 5)).alloc (.cells #[.int .u8 0, .int .u8 1] 5)).heap.size, 0, none⟩) 2 2] 29)) ((Below.refl _ _).alloc (Nat.le_refl _) _) c1
  replace c2 := (rdP [142, 244]).st (w' := ((((w6).alloc (.cells #[.int .u8 1, .int .u8 0] 5)).alloc (.cells #[.int .u8 0, .int .u8 1] 5)).alloc (.cells #[.int .u8 142, .int .u8 244] 5)).alloc (.cells #[.slice (some ⟨(w6).heap.size, 0, none⟩) 2 2, .slice (some ⟨((w6).alloc (.cells #[.int .u8 1, .int .u8 0] 5)).heap.size, 0, none⟩) 2 2, .slice (some ⟨(((w6).alloc (.cells #[.int .u8 1, .int .u8 0] 5)).alloc (.cells #[.int .u8 0, .int .u8 1] 5)).heap.size, 0, none⟩) 2 2] 29)) ((Below.refl _ _).alloc (Nat.le_refl _) _) c2
  have cb : Gr (w6) (((((w6).alloc (.cells #[.int .u8 1, .int .u8 0] 5)).alloc (.cells #[.int .u8 0, .int .u8 1] 5)).alloc (.cells #[.int .u8 142, .int .u8 244] 5)).alloc (.cells #[.slice (some ⟨(w6).heap.size, 0, none⟩) 2 2, .slice (some ⟨((w6).alloc (.cells #[.int .u8 1, .int .u8 0] 5)).heap.size, 0, none⟩) 2 2, .slice (some ⟨(((w6).alloc (.cells #[.int .u8 1, .int .u8 0] 5)).alloc (.cells #[.int .u8 0, .int .u8 1] 5)).heap.size, 0, none⟩) 2 2] 29)) := ((((Below.refl _ _).alloc (by simp <;> omega) _).alloc (by simp <;> omega) _).alloc (by simp <;> omega) _).alloc (by simp <;> omega) _
  simp only [World.size_alloc, List.length_cons, List.length_nil, Nat.zero_add, Nat.reduceAdd] at c0 c1 c2 c3 cb
  replace hu6 := Lib.hid ((tbP [[1, 0], [0, 1], [142, 244]]).st cb hu6.out)
  clear c0
  clear c1
  clear c2
  replace c3 := Lib.hid c3
  replace hq := Lib.hid (Gr.trans hq.out cb)
  clear cb
  go_wp2_with fail
  refine (same_tbl hu6.out c3.out).mono ?_
  rintro e w7 ⟨rfl, hb7⟩
  rw [show (([[1, 0], [0, 1], [142, 244]] : List (List UInt8)) == [[1, 0], [0, 1], [142, 244]]) = true from by decide]
  replace hq := Lib.hid (Gr.trans hq.out hb7)
  clear c3 hb7 hu6
  go_wp2_with fail
  go_ret
  exact ⟨rfl, hq.out⟩
end Go.Proofs.Ytpeilgeloaogfaa
