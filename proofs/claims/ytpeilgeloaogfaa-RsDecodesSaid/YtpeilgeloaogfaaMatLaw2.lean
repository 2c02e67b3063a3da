/- mat's laws: Inverts, Back. -/
import Derived.Test.YtpeilgeloaogfaaMatLaw
import Derived.Test.YtpeilgeloaogfaaMatPick
namespace Go.Proofs.Ytpeilgeloaogfaa
set_option linter.unusedVariables false
set_option linter.unusedSimpArgs false
open Go Go.RowKit
theorem inv_p {w : World} {La : List (List UInt8)} {va : Value} (ha : Hid (Tbl La va w)) :
    Calls Try.prog 33 #[va] w fun e w' => ∃ u L b, e = .returned (.tuple #[u, .bool b]) ∧ Hid (Tbl L u w') ∧ InvAns La L b ∧ Gr w w' := by
  refine (invert_tbl ha.out).mono ?_
  rintro e w' ⟨u, L, b, rfl, h1, h2, h3⟩
  exact ⟨u, L, b, rfl, Lib.hid h1, h3, h2⟩
theorem rtable_p {w : World} {La : List (List UInt8)} {va : Value} (ha : Hid (Tbl La va w)) :
    Calls Try.prog 34 #[va] w fun e w' => e = .returned (.bool (isTab La)) ∧ Gr w w' := by
  obtain ⟨A, c, rfl, a1, a2, a3⟩ := ha.out
  have hm : maxLen = 9223372036854775807 := rfl
  exact rtable_any A _ c La a1 (by omega) w a3
theorem sq_of {La : List (List UInt8)} (h : square La = true) : isTab La = true ∧ La.length = width La ∧ 1 ≤ La.length ∧ La.length ≤ 32 ∧ tabM La.length La.length (ent La) = La := by
  unfold square at h
  rw [Bool.and_eq_true, beq_iff_eq] at h
  obtain ⟨h1, h2, h3, h4, h5⟩ := isTab_iff.mp h.1
  exact ⟨h.1, h.2, h1, h2, tab_of (fun r hr => by rw [h5 r hr, h.2])⟩
theorem sq_tabM {n : Nat} (h1 : 1 ≤ n) (h2 : n ≤ 32) (X : Mx) : square (tabM n n X) = true := by
  obtain ⟨i1, i2⟩ := isTab_tabM h1 h2 h1 h2 X
  unfold square
  rw [i1, i2, tabM_length]; simp
theorem rfull_p {w : World} {La : List (List UInt8)} {va : Value} (hs : square La = true) (ha : Hid (Tbl La va w)) :
    Calls Try.prog 35 #[va] w fun e w' => ∃ b : Bool, e = .returned (.bool b) ∧ Hid ((b = true → NoKer La.length (ent La)) ∧ (b = false → HasKer La.length (ent La))) ∧ Gr w w' := by
  obtain ⟨A, c, rfl, a1, a2, a3⟩ := ha.out
  obtain ⟨h1, h2, h3, h4, h5⟩ := sq_of hs
  refine (rfull_any A _ c La a1 h3 h4 h5.symm w a3).mono ?_
  rintro e w' ⟨b, rfl, p1, p2, p3⟩
  exact ⟨b, rfl, Lib.hid ⟨p1, p2⟩, p3⟩
theorem rone_p (n : Nat) (h32 : n ≤ 32) (w : World) :
    Calls Try.prog 36 #[.int .i64 n] w fun e w' => ∃ u, e = .returned u ∧ Hid (Tbl (tabM n n idM) u w') ∧ Gr w w' := by
  refine (rone_any n h32 w).mono ?_
  rintro e w' ⟨A, c, rfl, h1, h2, h3, h4⟩
  exact ⟨_, rfl, Lib.hid ⟨A, c, by rw [tabM_length], by rw [tabM_length]; exact h1, h2, by rw [tabM_length]; exact h3⟩, h4⟩
theorem Tbl.cell0 {w : World} {La : List (List UInt8)} {b o c : Nat} (h : Tbl La (.slice (some ⟨b, o, none⟩) La.length c) w) (hn : 0 < La.length) : ∃ A0 c0, w.cell? ⟨b, o, none⟩ = some (.slice A0 (width La) c0) := by
  obtain ⟨A, c', e, -, -, hr⟩ := h
  injection e with e1 e2 e3
  subst e1
  obtain ⟨b', o', A0, c0, l0, e, -, hl, hc, -⟩ := hr.at_ (i := 0) hn
  injection e with e
  injection e with e4 e5
  subst e4 e5
  rw [width_get hl]
  exact ⟨A0, c0, hc⟩
theorem Tbl.form0 {w : World} {La : List (List UInt8)} {v : Value} (h : Tbl La v w) (hn : 0 < La.length) : ∃ b o c, v = .slice (some ⟨b, o, none⟩) La.length c := by
  obtain ⟨A, c', e, -, -, hr⟩ := h
  obtain ⟨b', o', A0, c0, l0, rfl, -⟩ := hr.at_ (i := 0) hn
  exact ⟨b', o', c', e⟩
theorem Tbl.form {w : World} {La : List (List UInt8)} {v : Value} (h : Tbl La v w) : ∃ A c, v = .slice A La.length c := by
  obtain ⟨A, c', e, -⟩ := h
  exact ⟨A, c', e⟩
/-- a table and one that turns it back -/
theorem prod_sq {La : List (List UInt8)} (hs : square La = true) (X : Mx) : fits La (tabM La.length La.length X) = true ∧ prod La (tabM La.length La.length X) = tabM La.length La.length (mm La.length (ent La) X) ∧
    fits (tabM La.length La.length X) La = true ∧ prod (tabM La.length La.length X) La = tabM La.length La.length (mm La.length X (ent La)) := by
  obtain ⟨h1, h2, h3, h4, h5⟩ := sq_of hs
  obtain ⟨i1, i2⟩ := isTab_tabM h3 h4 h3 h4 X
  have f1 : fits La (tabM La.length La.length X) = true := fits_iff.mpr ⟨h1, i1, by rw [tabM_length, ← h2]⟩
  have f2 : fits (tabM La.length La.length X) La = true := fits_iff.mpr ⟨i1, h1, i2⟩
  refine ⟨f1, ?_, f2, ?_⟩
  · rw [show prod La (tabM La.length La.length X) = tabM La.length (width (tabM La.length La.length X)) (mm (tabM La.length La.length X).length (ent La) (ent (tabM La.length La.length X))) from if_pos f1, i2, tabM_length]
    exact tabM_congr (fun i j hi hj => mm_congr (fun _ _ => rfl) (fun k hk => ent_tabM hk hj X))
  · rw [show prod (tabM La.length La.length X) La = tabM (tabM La.length La.length X).length (width La) (mm La.length (ent (tabM La.length La.length X)) (ent La)) from if_pos f2, ← h2, tabM_length]
    exact tabM_congr (fun i j hi hj => mm_congr (fun k hk => ent_tabM hi hk X) (fun _ _ => rfl))
theorem ans_unique {La L : List (List UInt8)} {b : Bool} (h : InvAns La L b) (hs : square La = true) {Y : Mx} (h1 : EqM La.length La.length (mm La.length Y (ent La)) idM) (h2 : EqM La.length La.length (mm La.length (ent La) Y) idM) : b = true ∧ L = tabM La.length La.length Y := by
  rcases h with ⟨rfl, -, X, rfl, g1, g2⟩ | ⟨rfl, rfl, hk⟩
  · exact ⟨rfl, tabM_congr (inv_unique g1 h2)⟩
  · exact (not_both (noKer_of_left h1) (hk hs)).elim
theorem ans_back {La L : List (List UInt8)} {b : Bool} (hs : square La = true) {X : Mx} (h : InvAns (tabM La.length La.length X) L b) (h1 : EqM La.length La.length (mm La.length X (ent La)) idM) (h2 : EqM La.length La.length (mm La.length (ent La) X) idM) : b = true ∧ L = La := by
  obtain ⟨q1, q2, q3, q4, q5⟩ := sq_of hs
  obtain ⟨e1, e2⟩ := ans_unique h (sq_tabM q3 q4 X) (Y := ent La) (by
    rw [tabM_length]
    intro i j hi hj
    rw [mm_congr (A' := ent La) (B' := X) (fun _ _ => rfl) (fun k hk => ent_tabM hk hj X)]
    exact h2 i j hi hj) (by
    rw [tabM_length]
    intro i j hi hj
    rw [mm_congr (A' := X) (B' := ent La) (fun k hk => ent_tabM hi hk X) (fun _ _ => rfl)]
    exact h1 i j hi hj)
  refine ⟨e1, ?_⟩
  rw [e2, tabM_length, q5]
/-- two tables of one size, turned back together -/
theorem ans_both {La Lb L : List (List UInt8)} {b : Bool} (hs : square La = true) (hn : Lb.length = La.length) (hs2 : square Lb = true) {X Y : Mx} (h : InvAns (prod La Lb) L b)
    (h1 : EqM La.length La.length (mm La.length X (ent La)) idM) (h2 : EqM La.length La.length (mm La.length (ent La) X) idM) (g1 : EqM Lb.length Lb.length (mm Lb.length Y (ent Lb)) idM) (g2 : EqM Lb.length Lb.length (mm Lb.length (ent Lb) Y) idM) :
    b = true ∧ fits (tabM Lb.length Lb.length Y) (tabM La.length La.length X) = true ∧ prod (tabM Lb.length Lb.length Y) (tabM La.length La.length X) = L := by
  obtain ⟨q1, q2, q3, q4, q5⟩ := sq_of hs
  obtain ⟨r1, r2, r3, r4, r5⟩ := sq_of hs2
  rw [hn] at g1 g2 r3 r4 r5 ⊢
  have f0 : fits La Lb = true := fits_iff.mpr ⟨q1, r1, by rw [← q2, hn]⟩
  have hP : prod La Lb = tabM La.length La.length (mm La.length (ent La) (ent Lb)) := by
    rw [show prod La Lb = tabM La.length (width Lb) (mm Lb.length (ent La) (ent Lb)) from if_pos f0, ← r2, hn]
  obtain ⟨i1, i2⟩ := isTab_tabM q3 q4 q3 q4 X
  obtain ⟨j1, j2⟩ := isTab_tabM q3 q4 q3 q4 Y
  have f2 : fits (tabM La.length La.length Y) (tabM La.length La.length X) = true := fits_iff.mpr ⟨j1, i1, by rw [j2, tabM_length]⟩
  rw [hP] at h
  have key : ∀ (n : Nat) (A B C D : Mx), EqM n n (mm n B C) idM → EqM n n (mm n A D) idM → EqM n n (mm n (mm n A B) (mm n C D)) idM := fun n A B C D k1 k2 i j hi hj => by
    rw [mm_assoc, mm_congr (A' := A) (B' := D) (fun _ _ => rfl) (fun k hk => by
      rw [← mm_assoc, mm_congr (A' := idM) (B' := D) (fun l hl => k1 k l hk hl) (fun _ _ => rfl), mm_id_l hk])]
    exact k2 i j hi hj
  obtain ⟨e1, e2⟩ := ans_unique h (sq_tabM q3 q4 _) (Y := mm La.length Y X) (by
    rw [tabM_length]
    intro i j hi hj
    rw [mm_congr (A' := mm La.length Y X) (B' := mm La.length (ent La) (ent Lb)) (fun _ _ => rfl) (fun k hk => ent_tabM hk hj _)]
    exact key _ _ _ _ _ h1 g1 i j hi hj) (by
    rw [tabM_length]
    intro i j hi hj
    rw [mm_congr (A' := mm La.length (ent La) (ent Lb)) (B' := mm La.length Y X) (fun k hk => ent_tabM hi hk _) (fun _ _ => rfl)]
    exact key _ _ _ _ _ g2 h2 i j hi hj)
  refine ⟨e1, f2, ?_⟩
  rw [e2, tabM_length, show prod (tabM La.length La.length Y) (tabM La.length La.length X) = tabM (tabM La.length La.length Y).length (width (tabM La.length La.length X)) (mm (tabM La.length La.length X).length (ent (tabM La.length La.length Y)) (ent (tabM La.length La.length X))) from if_pos f2, i2, tabM_length, tabM_length]
  exact tabM_congr (fun i j hi hj => mm_congr (fun k hk => ent_tabM hi hk Y) (fun k hk => ent_tabM hk hj X))
end Go.Proofs.Ytpeilgeloaogfaa
