/- plan: First. -/
import Derived.Test.YtpeilgeloaogfaaPl4
import Derived.Deep.DeepCutAuto
namespace Go.Proofs.Ytpeilgeloaogfaa
set_option linter.unusedVariables false
set_option linter.unusedSimpArgs false
open Go Go.RowKit
def catF (bad : List Bool) (G : Nat) : List Nat := (List.range G).flatMap (fg bad)
def okF (bad : List Bool) (G : Nat) : Bool := (List.range G).all (fun g => (fg bad g).length == 8)
def firstV (bad : List Bool) (G : Nat) : List Nat × Bool := if okF bad G = true then (catF bad G, decide (0 < (catF bad G).length)) else ([], false)
theorem catF_succ (bad : List Bool) (g : Nat) : catF bad (g + 1) = catF bad g ++ fg bad g := by unfold catF; rw [List.range_succ, List.flatMap_append]; simp
theorem okF_true {bad : List Bool} {G : Nat} (h : ∀ g, g < G → (fg bad g).length = 8) : okF bad G = true := by unfold okF; rw [List.all_eq_true]; intro g hg; rw [h g (List.mem_range.mp hg)]; rfl
theorem okF_false {bad : List Bool} {G g : Nat} (hg : g < G) (h : (fg bad g).length < 8) : okF bad G = false := by
  cases hk : okF bad G with
  | false => rfl
  | true =>
    unfold okF at hk
    rw [List.all_eq_true] at hk
    have := hk g (List.mem_range.mpr hg)
    rw [beq_iff_eq] at this
    omega
theorem firstV_true {bad : List Bool} {G : Nat} {l : List Nat} (h : ∀ g, g < G → (fg bad g).length = 8) (hl : l = catF bad G) : (l, decide (0 < l.length)) = firstV bad G := by unfold firstV; rw [if_pos (okF_true h), hl]
theorem firstV_false {bad : List Bool} {G g : Nat} (hg : g < G) (h : (fg bad g).length < 8) : (([] : List Nat), false) = firstV bad G := by unfold firstV; rw [if_neg (by rw [okF_false hg h]; decide)]
theorem catF_len {bad : List Bool} : ∀ {G : Nat}, (∀ g, g < G → (fg bad g).length = 8) → (catF bad G).length = 8 * G
  | 0, _ => rfl
  | G + 1, h => by rw [catF_succ, List.length_append, catF_len (fun g hg => h g (by omega)), h G (by omega)]; omega
def FirstPost (bad : List Bool) (G : Nat) (w : World) (r : Ending) (w' : World) : Prop := ∃ (A' : Option Addr) (c' : Nat) (l : List Nat) (b : Bool), r = .returned (.tuple #[.slice A' l.length c', .bool b]) ∧ Hid ((l, b) = firstV bad G) ∧ l.length ≤ c' ∧ l.length ≤ 1000 ∧ Hid (Reads w' w'.heap.size 1 A' l.length (icells l)) ∧ Gr w w'
set_option maxHeartbeats 4000000 in
set_option maxRecDepth 10000 in
theorem first_any (e : En) (A : Option Addr) (n c : Nat) (hn : n ≤ 1000) (A2 : Option Addr) (n2 c2 : Nat) (bad : List Bool) (w : World) (h : Hid (Bl w A2 n2 bad)) :
    Calls Try.prog 71 #[.agg #[.string (bs e.key), .int .i64 e.gen, .int .i64 e.size, .string (bs e.sum), .slice A n c], .slice A2 n2 c2] w fun r w' => FirstPost bad (n / 10) w r w' := by
  have hb1 : Gr w (w.alloc (.cells #[.string (bs e.key), .int .i64 e.gen, .int .i64 e.size, .string (bs e.sum), .slice A n c] 79)) := (Below.refl _ _).alloc (Nat.le_refl _) _
  have c4 := blk_cell (j := 4) (heap_alloc_new w (.cells #[.string (bs e.key), .int .i64 e.gen, .int .i64 e.size, .string (bs e.sum), .slice A n c] 79)) rfl
  have h1 := Bl.gr hb1 h
  have t3 := tdiv10 n
  obtain ⟨G, hG⟩ : ∃ G, n / 10 = G := ⟨_, rfl⟩
  rw [hG] at t3 ⊢
  have u3 := wrap64_nat G (by omega)
  have hG100 : G ≤ 100 := by omega
  replace hG := Lib.hid hG
  go_enter Try.func71, Try.ntmps71
  go_upto_region 1 with (fail)
  generalize hB1 : w.heap.size = B1 at c4 ⊢
  generalize w.alloc (.cells #[.string (bs e.key), .int .i64 e.gen, .int .i64 e.size, .string (bs e.sum), .slice A n c] 79) = w1 at c4 hb1 h1 ⊢
  replace hB1 := Lib.hid hB1
  obtain ⟨B, hB⟩ : ∃ B, w1.heap.size = B := ⟨_, rfl⟩
  have hq0 : Hid (Below B w1 w1) := Lib.hid (Below.refl _ _)
  have hsz0 : Hid (B ≤ w1.heap.size) := Lib.hid (Nat.le_of_eq hB.symm)
  replace hb1 := Lib.hid hb1
  replace hB := Lib.hid hB
  go_wp2_with fail
  clear c4
  go_loopw [6, 13] (fun u v wr => ∃ (g : Nat) (l : List Nat) (A4 : Option Addr) (c4 : Nat), g ≤ G ∧ u = .slice A4 l.length c4 ∧ v = .int .i64 g ∧ Hid (l = catF bad g) ∧ Hid (∀ k, k < g → (fg bad k).length = 8) ∧ Hid (OI wr B (.slice A4 l.length c4) l) ∧ Hid (Below B w1 wr) ∧ Hid (B ≤ wr.heap.size)) (fun _ v _ => (G - intOf v).toNat)
  case atStart => exact ⟨0, [], none, 0, by omega, rfl, rfl, Lib.hid rfl, Lib.hid (fun k hk => absurd hk (by omega)), Lib.hid (OI.nil_ _ _), hq0, hsz0⟩
  case round =>
    obtain ⟨g, l, A4, c4, hg, rfl, rfl, hl, hall, ho, hq, hsz⟩ := hrel
    clear hq0 hsz0
    by_cases hgG : g < G
    · have i1 : (g : Int) < (G : Int) := by omega
      have hbl : Hid (Bl wr A2 n2 bad) := Bl.gr (show Gr w1 wr from by show Below w1.heap.size w1 wr; rw [hB.out]; exact hq.out) h1
      go_wp2_with fail
      refine (group_slots g (by omega) A2 n2 c2 bad _ hbl).mono ?_
      rintro r w3 ⟨v, rfl, hv, hr⟩
      obtain ⟨A5, c5, rfl, hc5, -, hrd⟩ := hv.out.form
      have h8 := fgT_le bad (10 * g) 10
      have hlen := catF_len hall.out
      rw [← hl.out] at hlen
      replace ho := OI.gr hr ho
      replace hq := Lib.hid (hq.out.trans (Below.mono hr hsz.out))
      replace hsz := Lib.hid (Nat.le_trans hsz.out hr.size)
      clear hr hv
      have hsucc := Lib.hid (catF_succ bad g)
      have hf := Lib.hid (fun h9 => firstV_false (bad := bad) (G := G) hgG h9)
      replace hlen := Lib.hid hlen
      have hall2 : ∀ _ : (fg bad g).length = 8, ∀ k, k < g + 1 → (fg bad k).length = 8 := fun h9 k hk => by
        by_cases e : k = g
        · rw [e]; exact h9
        · exact hall.out k (by omega)
      replace hall2 := Lib.hid hall2
      replace hrd := Lib.hid hrd
      have h8' : (fg bad g).length ≤ 8 := h8
      clear h8
      generalize fg bad g = x at hc5 hrd hsucc h8' hf hall2 ⊢
      by_cases hx8 : x.length < 8
      · have i2 : (x.length : Int) < 8 := by omega
        go_wp2_with fail
        go_ret2
        unfold FirstPost
        refine ⟨none, 0, [], false, rfl, Lib.hid (hf.out hx8), Nat.le_refl _, by decide, Lib.hid ⟨rfl, fun h => absurd h (by decide)⟩, ?_⟩
        exact hb1.out.trans (by show Below w1.heap.size w1 _; rw [hB.out]; exact hq.out)
      · have i2 : decide ((x.length : Int) < 8) = false := decide_eq_false (by omega)
        have i2' : ¬ ((x.length : Int) < 8) := by omega
        have hxl : Hid (x.length = 8) := Lib.hid (by omega)
        have hx9 : x.length ≤ 8 := h8'
        have hl9 : l.length + x.length ≤ 100000 := by have := hlen.out; omega
        go_wp2_with (at_builtin; go_must (refine wpl_appI rfl (.tmp 22) (.tmp 23) rfl B (.slice A4 l.length c4) l rfl ho.out A5 x.length c5 x rfl hrd.out hl9 hsz.out ?_); intro v8 w8 ho8 hb8; obtain ⟨A8, c8, rfl, -, -, -⟩ := ho8.form; replace ho8 := Lib.hid ho8; have hq8 := Lib.hid (hq.out.trans hb8); have hsz8 := Lib.hid (Nat.le_trans hsz.out hb8.size); clear hb8)
        go_roundw
        case rel => exact ⟨g + 1, l ++ x, A8, c8, by omega, by rw [List.length_append], by go_num, Lib.hid (by rw [hsucc.out, hl.out]), Lib.hid (hall2.out hxl.out), ho8, hq8, hsz8⟩
        case measure => simp [intOf]; omega
    · obtain rfl : g = G := by omega
      have i1 : decide ((g : Int) < (g : Int)) = false := decide_eq_false (by omega)
      clear hgG
      have hfin := Lib.hid (firstV_true hall.out hl.out)
      have hlen := catF_len hall.out
      rw [← hl.out] at hlen
      have hll : l.length ≤ 1000 := by omega
      replace hlen := Lib.hid hlen
      obtain ⟨A9, c9, e9, hc9, -, hrd9⟩ := ho.out.form
      injection e9 with e1 _ e2
      subst e1
      subst e2
      replace hrd9 := Lib.hid hrd9
      go_wp2_with fail
      go_ret2
      unfold FirstPost
      refine ⟨_, _, l, decide (0 < l.length), ?_, hfin, hc9, hll, hrd9, hb1.out.trans (by show Below w1.heap.size w1 _; rw [hB.out]; exact hq.out)⟩
      simp
end Go.Proofs.Ytpeilgeloaogfaa
