/- mat's laws: any rows of a code. -/
import Derived.Test.YtpeilgeloaogfaaMatLaw5
namespace Go.Proofs.Ytpeilgeloaogfaa
set_option linter.unusedVariables false
set_option linter.unusedSimpArgs false
open Go Go.RowKit
theorem pick_tab {nn m : Nat} {C : Mx} (rs : List Nat) (h : ∀ r, r ∈ rs → r < nn) : rs.map (fun r => (tabM nn m C).getD r []) = tabM rs.length m (fun i => C (rs.getD i 0)) := by
  refine List.ext_getElem? fun i => ?_
  by_cases hi : i < rs.length
  · rw [List.getElem?_map, tabM_get hi, List.getElem?_eq_getElem hi, Option.map_some]
    rw [List.getD_eq_getElem?_getD, tabM_get (h _ (List.getElem_mem hi)), List.getD_eq_getElem?_getD, List.getElem?_eq_getElem hi]
    rfl
  · rw [List.getElem?_eq_none (by simp; omega), List.getElem?_eq_none (by rw [tabM_length]; omega)]
theorem noKer_ent {n : Nat} {M : Mx} (h : NoKer n M) : NoKer n (ent (tabM n n M)) := fun v hv => h v (fun i hi => by
  rw [← hv i hi]
  exact mv_congr (fun k hk => (ent_tabM hi hk M).symm) (fun _ _ => rfl))
theorem prod_id {L : List (List UInt8)} (ht : isTab L = true) : fits (tabM L.length L.length idM) L = true ∧ prod (tabM L.length L.length idM) L = L := by
  obtain ⟨a1, a2, a3, a4, a5⟩ := isTab_iff.mp ht
  obtain ⟨i1, i2⟩ := isTab_tabM a1 a2 a1 a2 idM
  have f : fits (tabM L.length L.length idM) L = true := fits_iff.mpr ⟨i1, ht, i2⟩
  refine ⟨f, ?_⟩
  rw [show prod (tabM L.length L.length idM) L = tabM (tabM L.length L.length idM).length (width L) (mm L.length (ent (tabM L.length L.length idM)) (ent L)) from if_pos f, tabM_length]
  rw [tabM_congr (B := ent L) (fun i j hi hj => by
    rw [mm_congr (A' := idM) (B' := ent L) (fun k hk => ent_tabM hi hk idM) (fun _ _ => rfl), mm_id_l hi])]
  exact tab_of a5
/-- a square table turned back, before a column -/
theorem back_col {T C : List (List UInt8)} (hs : square T = true) {X : Mx} (h1 : EqM T.length T.length (mm T.length X (ent T)) idM) (hc : isTab C = true) (hl : C.length = T.length) :
    fits T C = true ∧ fits (tabM T.length T.length X) (prod T C) = true ∧ prod (tabM T.length T.length X) (prod T C) = C := by
  obtain ⟨q1, q2, q3, q4, q5⟩ := sq_of hs
  obtain ⟨-, -, f2, p2⟩ := prod_sq hs X
  have f1 : fits T C = true := fits_iff.mpr ⟨q1, hc, by rw [← q2, hl]⟩
  obtain ⟨-, e2, e3⟩ := prod_assoc f2 f1
  refine ⟨f1, e2, ?_⟩
  rw [← e3, p2, tabM_congr h1, ← hl]
  exact (prod_id hc).2
theorem ob_lit1 (w : World) (base : Nat) (hb : base ≤ w.heap.size) (x : UInt8) : OB (w.alloc (.cells #[.int .u8 (U x)] 5)) base (.slice (some ⟨w.heap.size, 0, none⟩) 1 1) [x] :=
  ⟨by simp, .inr ⟨w.heap.size, 1, #[.int .u8 (U x)], rfl, hb, heap_alloc_new w _, Nat.le_refl _, by simp [maxLen], rfl, by simp [vb]⟩⟩
theorem tabM1_snoc (t : Nat) (f : Nat → UInt8) : tabM t 1 (fun i _ => f i) ++ [[f t]] = tabM (t + 1) 1 (fun i _ => f i) := by
  rw [← tabM_snoc]
  rfl
set_option maxHeartbeats 16000000 in
set_option maxRecDepth 20000 in
theorem matAny_any (x0 x1 : UInt8) (Ap : Option Addr) (np cp : Nat) (lp : List UInt8) (hnp : np = lp.length) (hpc : np ≤ cp) (hcp : cp ≤ maxLen) (Ac : Option Addr) (nc cc : Nat) (lc : List UInt8) (hnc : nc = lc.length) (hcc : nc ≤ cc) (hccm : cc ≤ 9223372036854775807) (w : World) (hp : Rd w w.heap.size Ap lp) (hc : Rd w w.heap.size Ac lc) : Calls Try.prog 6 #[.int .u8 (U x0), .int .u8 (U x1), .slice Ap np cp, .slice Ac nc cc] w fun e w' => e = .returned (.bool true) ∧ Below w.heap.size w w' := by
  have h12 : Int.tmod (U x0) 12 = ((x0.toNat % 12 : Nat) : Int) := tmod_u8 x0 12
  have h10 : Int.tmod (U x1) 10 = ((x1.toNat % 10 : Nat) : Int) := tmod_u8 x1 10
  have la := Nat.mod_lt x0.toNat (show 0 < 12 by decide)
  have lb := Nat.mod_lt x1.toNat (show 0 < 10 by decide)
  obtain ⟨a, ha⟩ : ∃ a, x0.toNat % 12 = a := ⟨_, rfl⟩
  obtain ⟨b, hb⟩ : ∃ b, x1.toNat % 10 = b := ⟨_, rfl⟩
  rw [ha] at h12 la
  rw [hb] at h10 lb
  obtain ⟨kk, hkk⟩ : ∃ kk, a + 1 = kk := ⟨_, rfl⟩
  obtain ⟨nn, hnn⟩ : ∃ nn, kk + b = nn := ⟨_, rfl⟩
  have e1 : (1 : Int) + (a : Int) = (kk : Int) := by omega
  have e2 : (kk : Int) + (b : Int) = (nn : Int) := by omega
  have k1 : 1 ≤ kk := by omega
  have k12 : kk ≤ 12 := by omega
  have kn : kk ≤ nn := by omega
  have n21 : nn ≤ 21 := by omega
  have hcode : Hid (∀ W, Calls Try.prog 37 #[.int .i64 kk, .int .i64 nn] W fun e w' => ∃ u, e = .returned u ∧ Tbl (tabM nn kk (codeE kk)) u w' ∧ Below W.heap.size W w') := Lib.hid (fun W => code_tbl kk nn k1 kn (by omega) W)
  have hp0 := Lib.hid hp
  have hc0 := Lib.hid hc
  clear hp hc
  replace ha := Lib.hid ha
  replace hb := Lib.hid hb
  replace hkk := Lib.hid hkk
  replace hnn := Lib.hid hnn
  replace hnp := Lib.hid hnp
  replace hnc := Lib.hid hnc
  have hq : Hid (Gr w w) := Lib.hid (Below.refl _ _)
  go_enter Try.func6, Try.ntmps6
  go_wp2_with fail
  refine (hcode.out _).mono ?_
  rintro e w1 ⟨u1, rfl, hu1, hr⟩
  replace hq := Gr.go hq hr
  replace hu1 := Lib.hid hu1
  clear hr hcode
  go_wp2_with fail
  refine (chosen_p kk (by rw [tabM_length]; exact kn) (by rw [tabM_length]; omega) (fun i l hl => by
    have hi := (List.getElem?_eq_some_iff.mp hl).1
    rw [tabM_length] at hi
    rw [tabM_get hi] at hl
    injection hl with hl
    rw [← hl, row_length]; omega) Ap np cp lp hnp.out hpc hcp w1 hu1 (hp0.out.up hq.out)).mono ?_
  rintro e w2 ⟨u2, rs, rfl, hu2, hrs, hr⟩
  replace hq := Gr.go hq hr
  clear hr hu1
  obtain ⟨hnd, hrl, hrlt⟩ := hrs.out
  rw [tabM_length] at hrlt
  rw [pick_tab rs hrlt, hrl] at hu2
  obtain ⟨M, hM⟩ : ∃ M : Mx, (fun i => codeE kk (rs.getD i 0)) = M := ⟨_, rfl⟩
  have hno : NoKer kk M := by rw [← hM]; exact pick_noKer kk nn (by omega) kn rs hnd hrl hrlt
  rw [hM] at hu2
  obtain ⟨T, hT⟩ : ∃ T, tabM kk kk M = T := ⟨_, rfl⟩
  have hno2 : Hid (NoKer kk (ent T)) := Lib.hid (by rw [← hT]; exact noKer_ent hno)
  have hsq : Hid (square T = true) := Lib.hid (by rw [← hT]; exact sq_tabM k1 (by omega) M)
  have hTl : T.length = kk := by rw [← hT]; exact tabM_length _ _ _
  rw [hT] at hu2
  obtain ⟨A2, c2, e9⟩ := hu2.out.form
  rw [hTl] at e9
  subst e9
  replace hT := Lib.hid hT
  replace hM := Lib.hid hM
  replace hTl := Lib.hid hTl
  clear hno hnd hrl hrlt hrs
  go_wp2_with fail
  refine (inv_p hu2).mono ?_
  rintro e w3 ⟨u3, L3, b3, rfl, hu3, hans, hr⟩
  replace hq := Gr.go hq hr
  replace hu2 := Tbl.gr hr hu2
  rcases hans with ⟨rfl, -, X, rfl, h1, h2⟩ | ⟨rfl, -, hk⟩
  rotate_left
  · exact (not_both (by rw [hTl.out]; exact hno2.out) (hk hsq.out)).elim
  replace h1 := Lib.hid h1
  clear h2 hr hno2
  have hat := Lib.hid (AT.empty w3 w3.heap.size (Nat.le_refl _))
  have hb3 := Lib.hid ((Below.refl w3.heap.size w3).alloc (Nat.le_refl _) (.cells #[] 29))
  obtain ⟨colf, hcolf⟩ : ∃ colf : Nat → UInt8, (fun t => if t < nc then lc.getD t 0 else UInt8.ofNat t) = colf := ⟨_, rfl⟩
  go_wp2_with fail
  obtain ⟨w4, hw4⟩ : ∃ x, w3.alloc (.cells #[] 29) = x := ⟨_, rfl⟩
  rw [hw4] at hat hb3 ⊢
  replace hw4 := Lib.hid hw4
  replace hcolf := Lib.hid hcolf
  go_loopw [14, 15] (fun v i wr => ∃ (t : Nat) (A1 : Option Addr) (c1 : Nat), t ≤ kk ∧ i = .int .i64 t ∧ v = .slice A1 t c1 ∧ Hid (AT wr w3.heap.size (.slice A1 t c1) (tabM t 1 (fun i _ => colf i))) ∧ Hid (Below w3.heap.size w3 wr)) (fun _ i _ => kk - (intOf i).toNat)
  case atStart => exact ⟨0, _, _, Nat.zero_le _, rfl, rfl, hat, hb3⟩
  case round =>
    obtain ⟨t, A1, c1, ht, rfl, rfl, hat1, hb1⟩ := hrel
    clear hat hb3
    obtain ⟨wo, hwo⟩ : ∃ wo, wo = wr := ⟨_, rfl⟩
    subst hwo
    by_cases hlt : t < kk
    · have ik : (t : Int) < (kk : Int) := by omega
      by_cases htc : t < nc
      · have it : (t : Int) < (nc : Int) := by omega
        have htl : t < lc.length := by rw [← hnc.out]; exact htc
        obtain ⟨ad, rfl, hadb, hpx⟩ := ((hc0.out.up hq.out).up hb1.out).get (List.getElem?_eq_getElem htl)
        obtain ⟨x, hx⟩ : ∃ x, lc[t] = x := ⟨_, rfl⟩
        rw [hx] at hpx
        have hcx : Hid (colf t = x) := Lib.hid (by
          rw [← hcolf.out]
          show (if t < nc then lc.getD t 0 else _) = x
          rw [if_pos htc, List.getD_eq_getElem?_getD, List.getElem?_eq_getElem htl, ← hx]; rfl)
        replace hx := Lib.hid hx
        replace htl := Lib.hid htl
        have hb4 : Below wo.heap.size wo ((wo.alloc (.cells #[.int .u8 (U x)] 5)).alloc (.cells #[.slice (some ⟨wo.heap.size, 0, none⟩) 1 1] 29)) := ((Below.refl _ _).alloc (Nat.le_refl _) _).alloc (by simp) _
        have hob := ob_lit1 wo w3.heap.size hb1.out.size x
        have hat5 := Lib.hid (hat1.out.below hb4 hb1.out.size)
        have hb5 := Lib.hid (hb1.out.trans (hb4.mono hb1.out.size))
        have hrok := Lib.hid (RowOk.below (.inl hob : RowOk (wo.alloc (.cells #[.int .u8 (U x)] 5)) w3.heap.size (some ⟨wo.heap.size, 0, none⟩) 1 [x]) ((Below.refl _ _).alloc (Nat.le_refl _) (.cells #[.slice (some ⟨wo.heap.size, 0, none⟩) 1 1] 29)) (by have := hb1.out.size; simp; omega))
        have hrd9 : Hid (Reads ((wo.alloc (.cells #[.int .u8 (U x)] 5)).alloc (.cells #[.slice (some ⟨wo.heap.size, 0, none⟩) 1 1] 29)) ((wo.alloc (.cells #[.int .u8 (U x)] 5)).alloc (.cells #[.slice (some ⟨wo.heap.size, 0, none⟩) 1 1] 29)).heap.size 1 (some ⟨wo.heap.size + 1, 0, none⟩) 1 [.slice (some ⟨wo.heap.size, 0, none⟩) ([x] : List UInt8).length 1]) := Lib.hid (by
          have h0 := reads_one (wo.alloc (.cells #[.int .u8 (U x)] 5)) 29 (.slice (some ⟨wo.heap.size, 0, none⟩) 1 1)
          rw [show wo.heap.size + 1 = (wo.alloc (.cells #[.int .u8 (U x)] 5)).heap.size from by simp]
          exact h0)
        clear hb4 hob
        go_wp2_with (at_builtin; go_must (refine wpl_append_row rfl (.tmp 63) (.tmp 66) rfl w3.heap.size (.slice A1 t c1) (tabM t 1 (fun i _ => colf i)) rfl hat5.out (some ⟨wo.heap.size, 0, none⟩) 1 [x] hrok.out _ _ 1 rfl hrd9.out (by rw [tabM_length]; omega) hb5.out.size ?_); intro v8 w8 hat8 hg8; have hb8 := Lib.hid (hb5.out.grown hg8 hb5.out.size hat5.out.up); rw [← hcx.out, tabM1_snoc] at hat8; obtain ⟨A8, c8, rfl, -, -, -⟩ := hat8.form hb8.out.size; rw [tabM_length] at hat8 ⊢; replace hat8 := Lib.hid hat8; clear hg8)
        go_roundw
        case rel => first | exact ⟨t + 1, A8, c8, by omega, by go_num, rfl, hat8, hb8⟩ | ((repeat apply Exists.intro); exact ⟨⟨t + 1, A8, c8, by omega, by go_num, rfl, hat8, hb8⟩, rfl⟩)
        case measure => simp [intOf]; omega
      · have it : decide ((t : Int) < (nc : Int)) = false := decide_eq_false (by omega)
        obtain ⟨x, hx⟩ : ∃ x, UInt8.ofNat t = x := ⟨_, rfl⟩
        have hcx : Hid (colf t = x) := Lib.hid (by
          rw [← hcolf.out]
          show (if t < nc then _ else UInt8.ofNat t) = x
          rw [if_neg htc, hx])
        replace htc := Lib.hid htc
        have hb4 : Below wo.heap.size wo ((wo.alloc (.cells #[.int .u8 (U x)] 5)).alloc (.cells #[.slice (some ⟨wo.heap.size, 0, none⟩) 1 1] 29)) := ((Below.refl _ _).alloc (Nat.le_refl _) _).alloc (by simp) _
        have hob := ob_lit1 wo w3.heap.size hb1.out.size x
        have hat5 := Lib.hid (hat1.out.below hb4 hb1.out.size)
        have hb5 := Lib.hid (hb1.out.trans (hb4.mono hb1.out.size))
        have hrok := Lib.hid (RowOk.below (.inl hob : RowOk (wo.alloc (.cells #[.int .u8 (U x)] 5)) w3.heap.size (some ⟨wo.heap.size, 0, none⟩) 1 [x]) ((Below.refl _ _).alloc (Nat.le_refl _) (.cells #[.slice (some ⟨wo.heap.size, 0, none⟩) 1 1] 29)) (by have := hb1.out.size; simp; omega))
        have hrd9 : Hid (Reads ((wo.alloc (.cells #[.int .u8 (U x)] 5)).alloc (.cells #[.slice (some ⟨wo.heap.size, 0, none⟩) 1 1] 29)) ((wo.alloc (.cells #[.int .u8 (U x)] 5)).alloc (.cells #[.slice (some ⟨wo.heap.size, 0, none⟩) 1 1] 29)).heap.size 1 (some ⟨wo.heap.size + 1, 0, none⟩) 1 [.slice (some ⟨wo.heap.size, 0, none⟩) ([x] : List UInt8).length 1]) := Lib.hid (by
          have h0 := reads_one (wo.alloc (.cells #[.int .u8 (U x)] 5)) 29 (.slice (some ⟨wo.heap.size, 0, none⟩) 1 1)
          rw [show wo.heap.size + 1 = (wo.alloc (.cells #[.int .u8 (U x)] 5)).heap.size from by simp]
          exact h0)
        clear hb4 hob
        go_wp2_with (at_builtin; go_must (refine wpl_append_row rfl (.tmp 63) (.tmp 66) rfl w3.heap.size (.slice A1 t c1) (tabM t 1 (fun i _ => colf i)) rfl hat5.out (some ⟨wo.heap.size, 0, none⟩) 1 [x] hrok.out _ _ 1 rfl hrd9.out (by rw [tabM_length]; omega) hb5.out.size ?_); intro v8 w8 hat8 hg8; have hb8 := Lib.hid (hb5.out.grown hg8 hb5.out.size hat5.out.up); rw [← hcx.out, tabM1_snoc] at hat8; obtain ⟨A8, c8, rfl, -, -, -⟩ := hat8.form hb8.out.size; rw [tabM_length] at hat8 ⊢; replace hat8 := Lib.hid hat8; clear hg8)
        go_roundw
        case rel => first | exact ⟨t + 1, A8, c8, by omega, by go_num, rfl, hat8, hb8⟩ | ((repeat apply Exists.intro); exact ⟨⟨t + 1, A8, c8, by omega, by go_num, rfl, hat8, hb8⟩, rfl⟩)
        case measure => simp [intOf]; omega
    · obtain rfl : t = kk := by omega
      have ik : decide ((t : Int) < (t : Int)) = false := decide_eq_false (by omega)
      have hr : Gr w3 wo := hb1.out
      replace hq := Gr.go hq hr
      replace hu2 := Tbl.gr hr hu2
      replace hu3 := Tbl.gr hr hu3
      obtain ⟨A8, c8, e8, h8, h9, h10⟩ := hat1.out.form hb1.out.size
      have hcT : Hid (Tbl (tabM t 1 (fun i _ => colf i)) (.slice A1 t c1) wo) := Lib.hid ⟨A8, c8, e8, h8, h9, h10⟩
      obtain ⟨i1, i2⟩ := isTab_tabM (n := t) (m := 1) (by omega) (by omega) (by omega) (by omega) (fun i _ => colf i)
      obtain ⟨f1, f2, p3⟩ := back_col hsq.out h1.out i1 (by rw [tabM_length, hTl.out])
      obtain ⟨CL, hCL⟩ : ∃ CL, tabM t 1 (fun i _ => colf i) = CL := ⟨_, rfl⟩
      rw [hCL] at f1 f2 p3 hcT
      replace f1 := Lib.hid f1
      replace f2 := Lib.hid f2
      replace p3 := Lib.hid p3
      replace hCL := Lib.hid hCL
      clear e8 h8 h9 h10 i1 i2 hr hat1 hb1
      go_wp2_with fail
      refine (times_p hu2 hcT).mono ?_
      rintro e w5 ⟨u5, rfl, hu5, hr⟩
      replace hcT := Tbl.gr hr hcT
      replace hu3 := Tbl.gr hr hu3
      replace hq := Gr.go hq hr
      clear hr
      rw [f1.out]
      go_wp2_with fail
      refine (times_p hu3 hu5).mono ?_
      rintro e w6 ⟨u6, rfl, hu6, hr⟩
      replace hcT := Tbl.gr hr hcT
      replace hq := Gr.go hq hr
      clear hr
      rw [f2.out]
      rw [p3.out] at hu6
      go_wp2_with fail
      refine (awake_p _).mono ?_
      rintro e w7 ⟨rfl, hr⟩
      replace hcT := Tbl.gr hr hcT
      replace hu6 := Tbl.gr hr hu6
      replace hq := Gr.go hq hr
      clear hr
      go_wp2_with fail
      refine (same_p hu6 hcT).mono ?_
      rintro e w8 ⟨rfl, hr⟩
      replace hq := Gr.go hq hr
      clear hr
      rw [beqTT]
      go_wp2_with fail
      go_ret
      exact ⟨rfl, hq.out⟩
end Go.Proofs.Ytpeilgeloaogfaa
