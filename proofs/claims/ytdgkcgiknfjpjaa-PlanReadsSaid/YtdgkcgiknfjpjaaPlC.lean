/- plan: the slots that are read first. -/
import Derived.Test.YtdgkcgiknfjpjaaPlA
import Derived.Deep.DeepCutAuto
namespace Go.Proofs.Ytdgkcgiknfjpjaa
set_option linter.unusedVariables false
set_option linter.unusedSimpArgs false
open Go Go.RowKit
def unm (bad : List Bool) (s j : Nat) : Bool := !markB bad (s + j)
def fgT (bad : List Bool) (s t : Nat) : List Nat := (((List.range t).filter (unm bad s)).take 8).map (s + ·)
def fg (bad : List Bool) (g : Nat) : List Nat := fgT bad (10 * g) 10
theorem fgT_le (bad : List Bool) (s t : Nat) : (fgT bad s t).length ≤ 8 := by unfold fgT; rw [List.length_map, List.length_take]; omega
theorem fgT_succ (bad : List Bool) (s t : Nat) (h : (fgT bad s t).length < 8) : fgT bad s (t + 1) = fgT bad s t ++ (if markB bad (s + t) = true then [] else [s + t]) := by
  unfold fgT at h ⊢
  rw [List.length_map, List.length_take] at h
  rw [List.range_succ, List.filter_append]
  have e1 : ((List.range t).filter (unm bad s)).take 8 = (List.range t).filter (unm bad s) := List.take_of_length_le (by omega)
  cases hb : markB bad (s + t) with
  | true =>
    rw [List.filter_cons_of_neg (by unfold unm; rw [hb]; decide), List.filter_nil, List.append_nil, if_pos rfl, List.append_nil]
  | false =>
    rw [List.filter_cons_of_pos (by unfold unm; rw [hb]; rfl), List.filter_nil, if_neg (by decide), e1, List.take_of_length_le (by rw [List.length_append, List.length_singleton]; omega), List.map_append]
    rfl
theorem fgT_full (bad : List Bool) (s t : Nat) (ht : t ≤ 10) (h : (fgT bad s t).length = 8) : fgT bad s t = fgT bad s 10 := by
  unfold fgT at h ⊢
  rw [List.length_map, List.length_take] at h
  have e : List.range 10 = List.range t ++ (List.range (10 - t)).map (t + ·) := by rw [← List.range_add]; congr 1; omega
  rw [e, List.filter_append, List.take_append, show 8 - ((List.range t).filter (unm bad s)).length = 0 from by omega, List.take_zero, List.append_nil]
set_option maxHeartbeats 4000000 in
set_option maxRecDepth 10000 in
theorem group_slots (g : Nat) (hg : g ≤ 1000) (A : Option Addr) (n c : Nat) (bad : List Bool) (w : World) (h : Hid (Bl w A n bad)) :
    Calls Try.prog 60 #[.int .i64 g, .slice A n c] w fun r w' => ∃ v, r = .returned v ∧ Hid (OIp w' w.heap.size v (fg bad g)) ∧ Gr w w' := by
  obtain ⟨B, hB⟩ : ∃ B, w.heap.size = B := ⟨_, rfl⟩
  obtain ⟨s, hs⟩ : ∃ s, 10 * g = s := ⟨_, rfl⟩
  have e1 : IntKind.i64.wrap ((g : Int) * 10) = (s : Int) := by rw [i64_wrap_idP (by omega) (by omega)]; omega
  have e2 : IntKind.i64.wrap ((g : Int) + 1) = ((g + 1 : Nat) : Int) := by rw [i64_wrap_idP (by omega) (by omega)]; omega
  have e3 : IntKind.i64.wrap (((g + 1 : Nat) : Int) * 10) = ((s + 10 : Nat) : Int) := by rw [i64_wrap_idP (by omega) (by omega)]; omega
  have e2' : (g : Int) + 1 = ((g + 1 : Nat) : Int) := by omega
  obtain ⟨g1, hg1⟩ : ∃ x, g + 1 = x := ⟨_, rfl⟩
  obtain ⟨s1, hs1⟩ : ∃ x, s + 10 = x := ⟨_, rfl⟩
  rw [hg1] at e2 e3 e2'
  rw [hs1] at e3
  have hsb : s1 ≤ 20000 := by omega
  replace hg1 := Lib.hid hg1
  replace hs1 := Lib.hid hs1
  have hfg : Hid (fg bad g = fgT bad s 10) := Lib.hid (by unfold fg; rw [hs])
  replace hs := Lib.hid hs
  have hq0 : Hid (Below B w w) := Lib.hid (Below.refl _ _)
  have hsz0 : Hid (B ≤ w.heap.size) := Lib.hid (Nat.le_of_eq hB.symm)
  rw [hB]
  go_enter Try.func60, Try.ntmps60
  go_wp2_with fail
  go_loopw [5, 6] (fun u v wr => ∃ (t : Nat) (l : List Nat) (A4 : Option Addr) (c4 : Nat), t ≤ 10 ∧ u = .slice A4 l.length c4 ∧ v = .int .i64 ((s + t : Nat) : Int) ∧ l.length ≤ 8 ∧ Hid (l = fgT bad s t) ∧ Hid (OIp wr B (.slice A4 l.length c4) l) ∧ Hid (Below B w wr) ∧ Hid (B ≤ wr.heap.size)) (fun _ v _ => (s + 10 - (intOf v).toNat))
  case atStart => exact ⟨0, [], none, 0, by omega, rfl, rfl, by decide, Lib.hid rfl, Lib.hid (OIp.nil_ _ _), hq0, hsz0⟩
  case round =>
    obtain ⟨t, l, A4, c4, ht, rfl, rfl, hl8, hl, ho, hq, hsz⟩ := hrel
    clear hq0 hsz0
    obtain ⟨k, hk⟩ : ∃ k, s + t = k := ⟨_, rfl⟩
    rw [hk]
    have fin : ∀ (_ : t = 10 ∨ l.length = 8), fg bad g = l := fun hh => by
      rw [hfg.out, hl.out]
      rcases hh with hh | hh
      · rw [hh]
      · exact (fgT_full bad s t ht (by rw [← hl.out]; exact hh)).symm
    by_cases ht10 : t < 10
    · have i1 : (k : Int) < (s1 : Int) := by have := hs1.out; omega
      by_cases h8 : l.length < 8
      · have i2 : (l.length : Int) < 8 := by omega
        replace fin := Lib.hid fin
        have hbl : Hid (Bl wr A n bad) := Bl.gr (show Gr w wr from by show Below w.heap.size w wr; rw [hB]; exact hq.out) h
        have hnext := fgT_succ bad s t (by rw [← hl.out]; exact h8)
        rw [hk, ← hl.out] at hnext
        go_wp2_with fail
        refine (marked_any A n c bad k (by omega) _ hbl).mono ?_
        rintro r wr ⟨rfl, rfl⟩
        cases hm : markB bad k with
        | true =>
          rw [hm, if_pos rfl, List.append_nil] at hnext
          replace hnext := Lib.hid hnext
          replace hm := Lib.hid hm
          go_wp2_with fail
          go_roundw
          case rel => exact ⟨t + 1, l, A4, c4, by omega, rfl, by rw [← Nat.add_assoc, hk]; go_num, hl8, Lib.hid hnext.out.symm, ho, hq, hsz⟩
          case measure => simp [intOf]; omega
        | false =>
          rw [hm, if_neg (by decide)] at hnext
          replace hnext := Lib.hid hnext
          replace hm := Lib.hid hm
          have hlit : Hid (Reads (wr.alloc (.cells #[.int .i64 k] 3)) (wr.alloc (.cells #[.int .i64 k] 3)).heap.size 1 (some ⟨wr.heap.size, 0, none⟩) 1 (icells [k])) := Lib.hid ⟨rfl, fun _ => ⟨_, rfl, by simp, World.news_of_block (heap_alloc_new wr _)⟩⟩
          have hgr : Gr wr (wr.alloc (.cells #[.int .i64 k] 3)) := (Below.refl _ _).alloc (Nat.le_refl _) _
          have ho7 := OIp.gr hgr ho
          have hq7 : Hid (Below B w (wr.alloc (.cells #[.int .i64 k] 3))) := Lib.hid (hq.out.trans (Below.mono hgr hsz.out))
          have hsz7 : B ≤ (wr.alloc (.cells #[.int .i64 k] 3)).heap.size := Nat.le_trans hsz.out hgr.size
          clear hgr ho hq hsz
          go_wp2_with (at_builtin; go_must (refine wpl_appI rfl (.tmp 25) (.tmp 27) rfl B (.slice A4 l.length c4) l rfl ho7.out _ 1 _ [k] rfl hlit.out (by omega) hsz7 ?_); intro v8 w8 ho8 hb8; obtain ⟨A8, c8, rfl, -, -, -⟩ := ho8.form; replace ho8 := Lib.hid ho8; have hq8 := Lib.hid (hq7.out.trans hb8); have hsz8 := Lib.hid (Nat.le_trans hsz7 hb8.size); clear hb8)
          have hl9 : (l ++ [k]).length ≤ 8 := by rw [List.length_append, List.length_singleton]; omega
          go_roundw
          case rel => exact ⟨t + 1, l ++ [k], A8, c8, by omega, by rw [List.length_append]; rfl, by rw [← Nat.add_assoc, hk]; go_num, hl9, Lib.hid hnext.out.symm, ho8, hq8, hsz8⟩
          case measure => simp [intOf]; omega
      · have i2 : decide ((l.length : Int) < 8) = false := decide_eq_false (by omega)
        have i2' : ¬ ((l.length : Int) < 8) := by omega
        have hfin := Lib.hid (fin (.inr (by omega)))
        clear fin
        go_wp2_with fail
        go_ret
        refine ⟨_, rfl, by rw [hfin.out]; exact ho, ?_⟩
        show Below w.heap.size w _
        rw [hB]
        exact hq.out
    · have i1 : decide ((k : Int) < (s1 : Int)) = false := decide_eq_false (by have := hs1.out; omega)
      have i1' : ¬ ((k : Int) < (s1 : Int)) := by have := hs1.out; omega
      have hfin := Lib.hid (fin (.inl (by omega)))
      clear fin
      go_wp2_with fail
      go_ret
      refine ⟨_, rfl, by rw [hfin.out]; exact ho, ?_⟩
      show Below w.heap.size w _
      rw [hB]
      exact hq.out
end Go.Proofs.Ytdgkcgiknfjpjaa
/- plan: First. -/
namespace Go.Proofs.Ytdgkcgiknfjpjaa
set_option linter.unusedVariables false
set_option linter.unusedSimpArgs false
open Go Go.RowKit
def catF (bad : List Bool) (G : Nat) : List Nat := (List.range G).flatMap (fg bad)
def okF (bad : List Bool) (G : Nat) : Bool := (List.range G).all (fun g => (fg bad g).length == 8)
def firstV (bad : List Bool) (G : Nat) : List Nat × Bool := if okF bad G = true then (catF bad G, decide (0 < (catF bad G).length)) else ([], false)
theorem catF_succ (bad : List Bool) (g : Nat) : catF bad (g + 1) = catF bad g ++ fg bad g := by unfold catF; rw [List.range_succ, List.flatMap_append]; simp
theorem okF_true {bad : List Bool} {G : Nat} (h : ∀ g, g < G → (fg bad g).length = 8) : okF bad G = true := by unfold okF; rw [List.all_eq_true]; intro g hg; rw [h g (List.mem_range.mp hg)]; rfl
theorem okF_false {bad : List Bool} {G g : Nat} (hg : g < G) (h : (fg bad g).length < 8) : okF bad G = false := by
  cases hk : okF bad G with
  | false => rfl
  | true =>
    unfold okF at hk
    rw [List.all_eq_true] at hk
    have := hk g (List.mem_range.mpr hg)
    rw [beq_iff_eq] at this
    omega
theorem firstV_true {bad : List Bool} {G : Nat} {l : List Nat} (h : ∀ g, g < G → (fg bad g).length = 8) (hl : l = catF bad G) : (l, decide (0 < l.length)) = firstV bad G := by unfold firstV; rw [if_pos (okF_true h), hl]
theorem firstV_false {bad : List Bool} {G g : Nat} (hg : g < G) (h : (fg bad g).length < 8) : (([] : List Nat), false) = firstV bad G := by unfold firstV; rw [if_neg (by rw [okF_false hg h]; decide)]
theorem catF_len {bad : List Bool} : ∀ {G : Nat}, (∀ g, g < G → (fg bad g).length = 8) → (catF bad G).length = 8 * G
  | 0, _ => rfl
  | G + 1, h => by rw [catF_succ, List.length_append, catF_len (fun g hg => h g (by omega)), h G (by omega)]; omega
def FirstPost (bad : List Bool) (G : Nat) (w : World) (r : Ending) (w' : World) : Prop := ∃ (A' : Option Addr) (c' : Nat) (l : List Nat) (b : Bool), r = .returned (.tuple #[.slice A' l.length c', .bool b]) ∧ Hid ((l, b) = firstV bad G) ∧ l.length ≤ c' ∧ l.length ≤ 1000 ∧ Hid (Reads w' w'.heap.size 1 A' l.length (icells l)) ∧ Gr w w'
set_option maxHeartbeats 4000000 in
set_option maxRecDepth 10000 in
theorem first_any (e : En) (A : Option Addr) (n c : Nat) (hn : n ≤ 1000) (A2 : Option Addr) (n2 c2 : Nat) (bad : List Bool) (w : World) (h : Hid (Bl w A2 n2 bad)) :
    Calls Try.prog 36 #[.agg #[.string (bs e.key), .int .i64 e.gen, .int .i64 e.size, .string (bs e.sum), .slice A n c], .slice A2 n2 c2] w fun r w' => FirstPost bad (n / 10) w r w' := by
  have hb1 : Gr w (w.alloc (.cells #[.string (bs e.key), .int .i64 e.gen, .int .i64 e.size, .string (bs e.sum), .slice A n c] 55)) := (Below.refl _ _).alloc (Nat.le_refl _) _
  have c4 := blk_cell (j := 4) (heap_alloc_new w (.cells #[.string (bs e.key), .int .i64 e.gen, .int .i64 e.size, .string (bs e.sum), .slice A n c] 55)) rfl
  have h1 := Bl.gr hb1 h
  have t3 := tdiv10 n
  obtain ⟨G, hG⟩ : ∃ G, n / 10 = G := ⟨_, rfl⟩
  rw [hG] at t3 ⊢
  have u3 := wrap64_nat G (by omega)
  have hG100 : G ≤ 100 := by omega
  replace hG := Lib.hid hG
  go_enter Try.func36, Try.ntmps36
  go_upto_region 1 with (fail)
  generalize hB1 : w.heap.size = B1 at c4 ⊢
  generalize w.alloc (.cells #[.string (bs e.key), .int .i64 e.gen, .int .i64 e.size, .string (bs e.sum), .slice A n c] 55) = w1 at c4 hb1 h1 ⊢
  replace hB1 := Lib.hid hB1
  obtain ⟨B, hB⟩ : ∃ B, w1.heap.size = B := ⟨_, rfl⟩
  have hq0 : Hid (Below B w1 w1) := Lib.hid (Below.refl _ _)
  have hsz0 : Hid (B ≤ w1.heap.size) := Lib.hid (Nat.le_of_eq hB.symm)
  replace hb1 := Lib.hid hb1
  replace hB := Lib.hid hB
  go_wp2_with fail
  clear c4
  go_loopw [6, 13] (fun u v wr => ∃ (g : Nat) (l : List Nat) (A4 : Option Addr) (c4 : Nat), g ≤ G ∧ u = .slice A4 l.length c4 ∧ v = .int .i64 g ∧ Hid (l = catF bad g) ∧ Hid (∀ k, k < g → (fg bad k).length = 8) ∧ Hid (OIp wr B (.slice A4 l.length c4) l) ∧ Hid (Below B w1 wr) ∧ Hid (B ≤ wr.heap.size)) (fun _ v _ => (G - intOf v).toNat)
  case atStart => exact ⟨0, [], none, 0, by omega, rfl, rfl, Lib.hid rfl, Lib.hid (fun k hk => absurd hk (by omega)), Lib.hid (OIp.nil_ _ _), hq0, hsz0⟩
  case round =>
    obtain ⟨g, l, A4, c4, hg, rfl, rfl, hl, hall, ho, hq, hsz⟩ := hrel
    clear hq0 hsz0
    by_cases hgG : g < G
    · have i1 : (g : Int) < (G : Int) := by omega
      have hbl : Hid (Bl wr A2 n2 bad) := Bl.gr (show Gr w1 wr from by show Below w1.heap.size w1 wr; rw [hB.out]; exact hq.out) h1
      go_wp2_with fail
      refine (group_slots g (by omega) A2 n2 c2 bad _ hbl).mono ?_
      rintro r w3 ⟨v, rfl, hv, hr⟩
      obtain ⟨A5, c5, rfl, hc5, -, hrd⟩ := hv.out.form
      have h8 := fgT_le bad (10 * g) 10
      have hlen := catF_len hall.out
      rw [← hl.out] at hlen
      replace ho := OIp.gr hr ho
      replace hq := Lib.hid (hq.out.trans (Below.mono hr hsz.out))
      replace hsz := Lib.hid (Nat.le_trans hsz.out hr.size)
      clear hr hv
      have hsucc := Lib.hid (catF_succ bad g)
      have hf := Lib.hid (fun h9 => firstV_false (bad := bad) (G := G) hgG h9)
      replace hlen := Lib.hid hlen
      have hall2 : ∀ _ : (fg bad g).length = 8, ∀ k, k < g + 1 → (fg bad k).length = 8 := fun h9 k hk => by
        by_cases e : k = g
        · rw [e]; exact h9
        · exact hall.out k (by omega)
      replace hall2 := Lib.hid hall2
      replace hrd := Lib.hid hrd
      have h8' : (fg bad g).length ≤ 8 := h8
      clear h8
      generalize fg bad g = x at hc5 hrd hsucc h8' hf hall2 ⊢
      by_cases hx8 : x.length < 8
      · have i2 : (x.length : Int) < 8 := by omega
        go_wp2_with fail
        go_ret2
        unfold FirstPost
        refine ⟨none, 0, [], false, rfl, Lib.hid (hf.out hx8), Nat.le_refl _, by decide, Lib.hid ⟨rfl, fun h => absurd h (by decide)⟩, ?_⟩
        exact hb1.out.trans (by show Below w1.heap.size w1 _; rw [hB.out]; exact hq.out)
      · have i2 : decide ((x.length : Int) < 8) = false := decide_eq_false (by omega)
        have i2' : ¬ ((x.length : Int) < 8) := by omega
        have hxl : Hid (x.length = 8) := Lib.hid (by omega)
        have hx9 : x.length ≤ 8 := h8'
        have hl9 : l.length + x.length ≤ 100000 := by have := hlen.out; omega
        go_wp2_with (at_builtin; go_must (refine wpl_appI rfl (.tmp 22) (.tmp 23) rfl B (.slice A4 l.length c4) l rfl ho.out A5 x.length c5 x rfl hrd.out hl9 hsz.out ?_); intro v8 w8 ho8 hb8; obtain ⟨A8, c8, rfl, -, -, -⟩ := ho8.form; replace ho8 := Lib.hid ho8; have hq8 := Lib.hid (hq.out.trans hb8); have hsz8 := Lib.hid (Nat.le_trans hsz.out hb8.size); clear hb8)
        go_roundw
        case rel => exact ⟨g + 1, l ++ x, A8, c8, by omega, by rw [List.length_append], by go_num, Lib.hid (by rw [hsucc.out, hl.out]), Lib.hid (hall2.out hxl.out), ho8, hq8, hsz8⟩
        case measure => simp [intOf]; omega
    · obtain rfl : g = G := by omega
      have i1 : decide ((g : Int) < (g : Int)) = false := decide_eq_false (by omega)
      clear hgG
      have hfin := Lib.hid (firstV_true hall.out hl.out)
      have hlen := catF_len hall.out
      rw [← hl.out] at hlen
      have hll : l.length ≤ 1000 := by omega
      replace hlen := Lib.hid hlen
      obtain ⟨A9, c9, e9, hc9, -, hrd9⟩ := ho.out.form
      injection e9 with e1 _ e2
      subst e1
      subst e2
      replace hrd9 := Lib.hid hrd9
      go_wp2_with fail
      go_ret2
      unfold FirstPost
      refine ⟨_, _, l, decide (0 < l.length), ?_, hfin, hc9, hll, hrd9, hb1.out.trans (by show Below w1.heap.size w1 _; rw [hB.out]; exact hq.out)⟩
      simp
end Go.Proofs.Ytdgkcgiknfjpjaa
/- plan: More, the program's and the reference's. -/
namespace Go.Proofs.Ytdgkcgiknfjpjaa
set_option linter.unusedVariables false
set_option linter.unusedSimpArgs false
open Go Go.RowKit
/-- the first of the ten of s that is not asked -/
def MoreIs (asked : List Bool) (n s : Nat) (r : Nat) (b : Bool) : Prop :=
  (b = true → r < n ∧ r / 10 = s / 10 ∧ markB asked r = false ∧ ∀ k, k < r → k / 10 = s / 10 → markB asked k = true) ∧ (b = false → r = 0 ∧ ∀ k, k < n → k / 10 = s / 10 → markB asked k = true)
theorem MoreIs.one {asked : List Bool} {n s r r2 : Nat} {b b2 : Bool} (h : MoreIs asked n s r b) (h2 : MoreIs asked n s r2 b2) : r = r2 ∧ b = b2 := by
  cases b <;> cases b2
  · exact ⟨(h.2 rfl).1.trans (h2.2 rfl).1.symm, rfl⟩
  · obtain ⟨a1, a2, a3, a4⟩ := h2.1 rfl
    have := (h.2 rfl).2 r2 a1 a2
    rw [a3] at this
    cases this
  · obtain ⟨a1, a2, a3, a4⟩ := h.1 rfl
    have := (h2.2 rfl).2 r a1 a2
    rw [a3] at this
    cases this
  · obtain ⟨a1, a2, a3, a4⟩ := h.1 rfl
    obtain ⟨b1, b2, b3, b4⟩ := h2.1 rfl
    refine ⟨?_, rfl⟩
    rcases Nat.lt_trichotomy r r2 with hlt | heq | hgt
    · have := b4 r hlt a2
      rw [a3] at this
      cases this
    · exact heq
    · have := a4 r2 hgt b2
      rw [b3] at this
      cases this
/-- what More says of a slot -/
def MoreOf (asked : List Bool) (n : Nat) (z : Int) (r : Nat) (b : Bool) : Prop := if slotB z n = true then MoreIs asked n z.toNat r b else r = 0 ∧ b = false
theorem MoreOf.one {asked : List Bool} {n r r2 : Nat} {z : Int} {b b2 : Bool} (h : MoreOf asked n z r b) (h2 : MoreOf asked n z r2 b2) : r = r2 ∧ b = b2 := by
  unfold MoreOf at h h2
  by_cases hs : slotB z n = true
  · rw [if_pos hs] at h h2
    exact h.one h2
  · rw [if_neg hs] at h h2
    exact ⟨h.1.trans h2.1.symm, h.2.trans h2.2.symm⟩
set_option maxHeartbeats 4000000 in
set_option maxRecDepth 10000 in
theorem more_any (e : En) (A : Option Addr) (n c : Nat) (hn : n ≤ 1000) (A2 : Option Addr) (n2 c2 : Nat) (asked : List Bool) (z : Int) (w : World) (h : Hid (Bl w A2 n2 asked)) :
    Calls Try.prog 37 #[.agg #[.string (bs e.key), .int .i64 e.gen, .int .i64 e.size, .string (bs e.sum), .slice A n c], .slice A2 n2 c2, .int .i64 z] w fun r w' => ∃ (k : Nat) (b : Bool), r = .returned (.tuple #[.int .i64 k, .bool b]) ∧ Hid (MoreOf asked n z k b) ∧ Gr w w' := by
  have hb1 : Gr w (w.alloc (.cells #[.string (bs e.key), .int .i64 e.gen, .int .i64 e.size, .string (bs e.sum), .slice A n c] 55)) := (Below.refl _ _).alloc (Nat.le_refl _) _
  have x1 := Lib.hid (heap_alloc_new w (.cells #[.string (bs e.key), .int .i64 e.gen, .int .i64 e.size, .string (bs e.sum), .slice A n c] 55))
  have h1 := Bl.gr hb1 h
  have c0 := blk_cell (j := 0) x1.out rfl
  have c1 := blk_cell (j := 1) x1.out rfl
  have c2' := blk_cell (j := 2) x1.out rfl
  have c3 := blk_cell (j := 3) x1.out rfl
  have c4 := blk_cell (j := 4) x1.out rfl
  replace hb1 := Lib.hid hb1
  go_enter Try.func37, Try.ntmps37
  go_wp2_with fail
  refine (hasSlot_any e A n c z _).mono ?_
  rintro r w3 ⟨rfl, hr⟩
  clear c0 c1 c2' c3 c4
  replace x1 := Lib.hid ((hr.block _ (Array.getElem?_eq_some_iff.mp x1.out).1).trans x1.out)
  replace h1 := Bl.gr hr h1
  have hq := Lib.hid (hb1.out.trans hr)
  clear hr hb1
  have c4 := blk_cell (j := 4) x1.out rfl
  cases hs : slotB z n with
  | false =>
    have hfin : MoreOf asked n z 0 false := by unfold MoreOf; rw [if_neg (by rw [hs]; decide)]; exact ⟨rfl, rfl⟩
    replace hs := Lib.hid hs
    replace hfin := Lib.hid hfin
    go_wp2_with fail
    go_ret2
    first | exact ⟨0, false, rfl, hfin, hq.out⟩ | exact ⟨0, .inl ⟨rfl, hfin, hq.out⟩⟩
  | true =>
    have hz : 0 ≤ z ∧ z < n := by unfold slotB at hs; simpa using hs
    obtain ⟨s, rfl⟩ := Int.eq_ofNat_of_zero_le hz.1
    have hsn : s < n := by omega
    have hof : ∀ k b, MoreIs asked n s k b → MoreOf asked n (s : Int) k b := fun k b hk => by unfold MoreOf; rw [if_pos hs, Int.toNat_natCast]; exact hk
    replace hs := Lib.hid hs
    replace hof := Lib.hid hof
    have t2 := tmod10 s
    obtain ⟨p, hp⟩ : ∃ p, s % 10 = p := ⟨_, rfl⟩
    rw [hp] at t2
    obtain ⟨a, ha⟩ : ∃ a, s - p = a := ⟨_, rfl⟩
    have e1 : IntKind.i64.wrap ((s : Int) - (p : Int)) = (a : Int) := by rw [i64_wrap_idP (by omega) (by omega)]; omega
    have e1' : (s : Int) - (p : Int) = (a : Int) := by omega
    obtain ⟨a1, ha1⟩ : ∃ x, a + 10 = x := ⟨_, rfl⟩
    have e2 : IntKind.i64.wrap ((a : Int) + 10) = (a1 : Int) := by rw [i64_wrap_idP (by omega) (by omega)]; omega
    have e2' : (a : Int) + 10 = (a1 : Int) := by omega
    obtain ⟨m, hm⟩ : ∃ x, min a1 n = x := ⟨_, rfl⟩
    have hmin : (if n < a1 then (n : Int) else (a1 : Int)) = (m : Int) := by split <;> omega
    have hmin2 : (if a1 < n then (a1 : Int) else (n : Int)) = (m : Int) := by split <;> omega
    have hmin3 : (if a1 ≤ n then (a1 : Int) else (n : Int)) = (m : Int) := by split <;> omega
    have ha10 : ∀ k, k / 10 = s / 10 ↔ a ≤ k ∧ k < a1 := fun k => by omega
    have hms : m ≤ n ∧ m ≤ a1 ∧ (m = n ∨ m = a1) ∧ a ≤ m := by omega
    replace hp := Lib.hid hp
    replace ha := Lib.hid ha
    replace ha1 := Lib.hid ha1
    replace hm := Lib.hid hm
    replace ha10 := Lib.hid ha10
    replace hms := Lib.hid hms
    go_wp2_with fail
    go_loopw [9] (fun v wr => ∃ k : Nat, a ≤ k ∧ k ≤ m ∧ v = .int .i64 k ∧ Hid (∀ j, a ≤ j → j < k → markB asked j = true) ∧ wr = w3) (fun v _ => (m - intOf v).toNat)
    case atStart => exact ⟨a, Nat.le_refl _, by have := hms.out; omega, rfl, Lib.hid (fun j h1 h2 => absurd h2 (by omega)), rfl⟩
    case round =>
      obtain ⟨k, hk1, hk2, rfl, hall, rfl⟩ := hrel
      by_cases hkm : k < m
      · have i1 : (k : Int) < (m : Int) := by omega
        have hm2 := hms.out
        go_wp2_with fail
        refine (marked_any A2 n2 c2 asked k (by omega) _ h1).mono ?_
        rintro r wr ⟨rfl, rfl⟩
        cases hmk : markB asked k with
        | true =>
          have hnext : Hid (∀ j, a ≤ j → j < k + 1 → markB asked j = true) := Lib.hid (fun j h1 h2 => by
            by_cases e : j = k
            · rw [e]; exact hmk
            · exact hall.out j h1 (by omega))
          replace hmk := Lib.hid hmk
          go_wp2_with fail
          go_roundw
          case rel => exact ⟨k + 1, by omega, by omega, by go_num, hnext, by first | trivial | rfl⟩
          case measure => simp [intOf]; omega
        | false =>
          have hfin := hof.out k true ⟨fun _ => ⟨by omega, (ha10.out k).mpr ⟨hk1, by omega⟩, hmk, fun j hj hj2 => hall.out j ((ha10.out j).mp hj2).1 hj⟩, fun h => by cases h⟩
          replace hmk := Lib.hid hmk
          replace hfin := Lib.hid hfin
          go_wp2_with fail
          go_ret2
          first | exact ⟨k, true, rfl, hfin, hq.out⟩ | exact ⟨k, .inr ⟨rfl, hfin, hq.out⟩⟩
      · have i1 : decide ((k : Int) < (m : Int)) = false := decide_eq_false (by omega)
        have i1' : ¬ ((k : Int) < (m : Int)) := by omega
        have hfin := hof.out 0 false ⟨fun h => (by cases h), fun _ => ⟨rfl, fun j hj hj2 => hall.out j ((ha10.out j).mp hj2).1 (by have := (ha10.out j).mp hj2; have := hms.out; omega)⟩⟩
        replace hfin := Lib.hid hfin
        go_wp2_with fail
        go_ret2
        first | exact ⟨0, false, rfl, hfin, hq.out⟩ | exact ⟨0, .inl ⟨rfl, hfin, hq.out⟩⟩
end Go.Proofs.Ytdgkcgiknfjpjaa
/- plan: nothing of no shards; an entry's first sixty places; the fixed fact. -/
namespace Go.Proofs.Ytdgkcgiknfjpjaa
set_option linter.unusedVariables false
set_option linter.unusedSimpArgs false
open Go Go.RowKit
set_option maxHeartbeats 4000000 in
theorem whole_none (e : En) (A : Option Addr) (n c : Nat) (w : World) :
    Calls Try.prog 30 #[.agg #[.string (bs e.key), .int .i64 e.gen, .int .i64 e.size, .string (bs e.sum), .slice A n c], .slice none 0 0] w fun r w' => r = .returned (.tuple #[.slice none 0 0, .int .i64 1]) ∧ Gr w w' := by
  have hb1 : Gr w (w.alloc (.cells #[.string (bs e.key), .int .i64 e.gen, .int .i64 e.size, .string (bs e.sum), .slice A n c] 55)) := (Below.refl _ _).alloc (Nat.le_refl _) _
  replace hb1 := Lib.hid hb1
  go_enter Try.func30, Try.ntmps30
  go_wp2_with fail
  go_ret2
  exact ⟨rfl, hb1.out⟩
set_option maxHeartbeats 4000000 in
set_option maxRecDepth 10000 in
theorem slots_any (e : En) (A : Option Addr) (n c : Nat) (hc : n ≤ c) (hcm : c ≤ 9223372036854775807) (w : World) :
    Calls Try.prog 29 #[.agg #[.string (bs e.key), .int .i64 e.gen, .int .i64 e.size, .string (bs e.sum), .slice A n c]] w fun r w' => r = .returned (.agg #[.string (bs e.key), .int .i64 e.gen, .int .i64 e.size, .string (bs e.sum), .slice A (min n 60) c]) ∧ Gr w w' := by
  have x1 := heap_alloc_new w (.cells #[.string (bs e.key), .int .i64 e.gen, .int .i64 e.size, .string (bs e.sum), .slice A n c] 55)
  have c0 := blk_cell (j := 0) x1 rfl
  have c1 := blk_cell (j := 1) x1 rfl
  have c2 := blk_cell (j := 2) x1 rfl
  have c3 := blk_cell (j := 3) x1 rfl
  have c4 := blk_cell (j := 4) x1 rfl
  have hb1 : Gr w (w.alloc (.cells #[.string (bs e.key), .int .i64 e.gen, .int .i64 e.size, .string (bs e.sum), .slice A n c] 55)) := (Below.refl _ _).alloc (Nat.le_refl _) _
  replace x1 := Lib.hid x1
  replace hb1 := Lib.hid hb1
  by_cases h60 : 60 < n
  · have i1 : (60 : Int) < (n : Int) := by omega
    have hmin : Hid (min n 60 = 60) := Lib.hid (by omega)
    rw [hmin.out]
    have hc60 : 60 ≤ c := by omega
    go_enter Try.func29, Try.ntmps29
    go_wp2_with fail
    have y1 := heap_alloc_new (w.alloc (.cells #[.string (bs e.key), .int .i64 e.gen, .int .i64 e.size, .string (bs e.sum), .slice A 60 c] 55)) (.cells #[.string (bs e.key), .int .i64 e.gen, .int .i64 e.size, .string (bs e.sum), .slice A 60 c] 55)
    rw [World.size_alloc] at y1
    have hg1 : Gr w (w.alloc (.cells #[.string (bs e.key), .int .i64 e.gen, .int .i64 e.size, .string (bs e.sum), .slice A 60 c] 55)) := (Below.refl _ _).alloc (Nat.le_refl _) _
    have hg2 : Gr (w.alloc (.cells #[.string (bs e.key), .int .i64 e.gen, .int .i64 e.size, .string (bs e.sum), .slice A 60 c] 55)) ((w.alloc (.cells #[.string (bs e.key), .int .i64 e.gen, .int .i64 e.size, .string (bs e.sum), .slice A 60 c] 55)).alloc (.cells #[.string (bs e.key), .int .i64 e.gen, .int .i64 e.size, .string (bs e.sum), .slice A 60 c] 55)) := (Below.refl _ _).alloc (Nat.le_refl _) _
    have hg := hg1.trans hg2
    have r0 := blk_cell (j := 0) y1 rfl
    have r1 := blk_cell (j := 1) y1 rfl
    have r2 := blk_cell (j := 2) y1 rfl
    have r3 := blk_cell (j := 3) y1 rfl
    have r4 := blk_cell (j := 4) y1 rfl
    exact bodyPost_ret (v := .agg #[.string (bs e.key), .int .i64 e.gen, .int .i64 e.size, .string (bs e.sum), .slice A 60 c]) (by simp [results, Try.results29, go_sem, r0, r1, r2, r3, r4]) rfl ⟨rfl, hg⟩
  · have i1 : decide ((60 : Int) < (n : Int)) = false := decide_eq_false (by omega)
    have i1' : (n : Int) ≤ 60 := by omega
    have hmin : Hid (min n 60 = n) := Lib.hid (by omega)
    rw [hmin.out]
    go_enter Try.func29, Try.ntmps29
    go_wp2_with fail
    have y1 := heap_alloc_new (w.alloc (.cells #[.string (bs e.key), .int .i64 e.gen, .int .i64 e.size, .string (bs e.sum), .slice A n c] 55)) (.cells #[.string (bs e.key), .int .i64 e.gen, .int .i64 e.size, .string (bs e.sum), .slice A n c] 55)
    rw [World.size_alloc] at y1
    have hg1 : Gr w (w.alloc (.cells #[.string (bs e.key), .int .i64 e.gen, .int .i64 e.size, .string (bs e.sum), .slice A n c] 55)) := (Below.refl _ _).alloc (Nat.le_refl _) _
    have hg2 : Gr (w.alloc (.cells #[.string (bs e.key), .int .i64 e.gen, .int .i64 e.size, .string (bs e.sum), .slice A n c] 55)) ((w.alloc (.cells #[.string (bs e.key), .int .i64 e.gen, .int .i64 e.size, .string (bs e.sum), .slice A n c] 55)).alloc (.cells #[.string (bs e.key), .int .i64 e.gen, .int .i64 e.size, .string (bs e.sum), .slice A n c] 55)) := (Below.refl _ _).alloc (Nat.le_refl _) _
    have hg := hg1.trans hg2
    have r0 := blk_cell (j := 0) y1 rfl
    have r1 := blk_cell (j := 1) y1 rfl
    have r2 := blk_cell (j := 2) y1 rfl
    have r3 := blk_cell (j := 3) y1 rfl
    have r4 := blk_cell (j := 4) y1 rfl
    exact bodyPost_ret (v := .agg #[.string (bs e.key), .int .i64 e.gen, .int .i64 e.size, .string (bs e.sum), .slice A n c]) (by simp [results, Try.results29, go_sem, r0, r1, r2, r3, r4]) rfl ⟨rfl, hg⟩
/-- the flags of ten, all asked but one -/
theorem first_a : firstV [false, false, true] 1 = ([0, 1, 3, 4, 5, 6, 7, 8], true) := by decide
theorem first_b : firstV [true, true, true] 1 = ([], false) := by decide
theorem more_a : MoreOf [true, true, true, true, true, true, true, true, false, true] 10 5 8 true := by
  unfold MoreOf
  rw [if_pos (by decide)]
  exact ⟨fun _ => ⟨by decide, by decide, by decide, by decide⟩, fun h => by cases h⟩
theorem bl_lit (w : World) (cs : Array Value) (l : List Bool) (n : Nat) (hn : l.length = n) (h : cs.toList = l.map Value.bool) : Bl (w.alloc (.cells cs 4)) (some ⟨w.heap.size, 0, none⟩) n l :=
  ⟨by rw [List.length_map]; omega, fun _ => ⟨_, rfl, by simp, by rw [← h]; exact World.news_of_block (heap_alloc_new w _)⟩⟩
def Ri (w : World) (A : Option Addr) (n : Nat) (l : List Nat) : Prop := Reads w w.heap.size 1 A n (icells l)
theorem Ri.gr {w w' : World} {A : Option Addr} {n : Nat} {l : List Nat} (hr : Gr w w') (h : Hid (Ri w A n l)) : Hid (Ri w' A n l) := Lib.hid (Reads.more (Reads.below h.out hr) (Below.size hr))
theorem addr_flatP {w : World} {ad : Addr} {v : Value} (h0 : w.cell? (ad.add 0) = some v) : ∃ b o, ad = ⟨b, o, none⟩ := by
  obtain ⟨b, o, s⟩ := ad
  cases s with
  | none => exact ⟨b, o, rfl⟩
  | some s =>
    exfalso
    have e : (⟨b, o, some s⟩ : Addr).add 0 = ⟨b, o, some s⟩ := by unfold Addr.add; rw [if_pos rfl]
    rw [e] at h0
    unfold World.cell? at h0
    simp only [Option.isSome_some, if_true] at h0
    split at h0 <;> cases h0
theorem addr_addP (b o k : Nat) : (⟨b, o, none⟩ : Addr).add k = ⟨b, o + k, none⟩ := by unfold Addr.add; split <;> simp_all
theorem info_place : (Try.prog.info? 98).map (fun i => (i.zero, i.size, i.bytes)) = some (some (.agg #[.int .i64 0, .int .i64 0]), 2, 16) := by kernel_rfl
theorem pairs_make (w : World) : ∃ cs : Array Value, (Instr.makeSlice 53 (.int .i64 10) (.int .i64 10)).run Try.prog w = .ok (.slice (some ⟨w.heap.size, 0, none⟩) 10 10) (w.alloc (.cells cs 98)) := by
  obtain ⟨i0, hi, hz0, hz1, hz2⟩ := info_parts info_place
  have h := run_make (P := Try.prog) w 53 98 i0 _ Try.underlying53 hi hz0 .i64 .i64 10 10 (by decide) (by decide) (by rw [hz2]; decide) (by decide)
  exact ⟨_, h⟩
set_option maxHeartbeats 8000000 in
set_option maxRecDepth 10000 in
theorem awake19_any (w : World) : Calls Try.prog 32 #[] w fun r w' => r = .returned (.bool true) ∧ Gr w w' := by
  obtain ⟨cs, hmk⟩ := pairs_make w
  have hb1 : Gr w (w.alloc (.cells cs 98)) := (Below.refl _ _).alloc (Nat.le_refl _) _
  go_enter Try.func32, Try.ntmps32
  go_upto_region 2 with (fail)
  clear hmk
  have x1 := heap_alloc_new (w.alloc (.cells cs 98)) (.cells #[.string { data := #[] }, .int .i64 0, .int .i64 0, .string { data := #[] }, .slice (some ⟨w.heap.size, 0, none⟩) 10 10] 55)
  rw [World.size_alloc] at x1
  have hb2 : Gr w ((w.alloc (.cells cs 98)).alloc (.cells #[.string { data := #[] }, .int .i64 0, .int .i64 0, .string { data := #[] }, .slice (some ⟨w.heap.size, 0, none⟩) 10 10] 55)) := hb1.trans ((Below.refl _ _).alloc (Nat.le_refl _) _)
  clear hb1
  generalize (w.alloc (.cells cs 98)).alloc (.cells #[.string { data := #[] }, .int .i64 0, .int .i64 0, .string { data := #[] }, .slice (some ⟨w.heap.size, 0, none⟩) 10 10] 55) = w2 at x1 hb2 ⊢
  generalize hA : (some ⟨w.heap.size, 0, none⟩ : Option Addr) = A at x1 ⊢
  generalize hg : w.heap.size + 1 = g at x1 ⊢
  replace hA := Lib.hid hA
  replace hg := Lib.hid hg
  replace x1 := Lib.hid x1
  have hq : Hid (Gr w w2) := Lib.hid hb2
  clear hb2
  have hg1 : Gr w2 (w2.alloc (.cells #[.bool false, .bool false, .bool true] 4)) := (Below.refl _ _).alloc (Nat.le_refl _) _
  have hlit := Lib.hid (bl_lit w2 #[.bool false, .bool false, .bool true] [false, false, true] 3 rfl rfl)
  replace hg1 := Lib.hid hg1
  have c0 := blk_cell (j := 0) x1.out rfl
  have c1 := blk_cell (j := 1) x1.out rfl
  have c2 := blk_cell (j := 2) x1.out rfl
  have c3 := blk_cell (j := 3) x1.out rfl
  have c4 := blk_cell (j := 4) x1.out rfl
  go_wp2_with fail
  clear c0 c1 c2 c3 c4
  refine (first_any ⟨[], 0, 0, []⟩ A 10 10 (by decide) _ 3 3 [false, false, true] _ hlit).mono ?_
  rintro r wn hp
  obtain ⟨A3, c3, l, b, rfl, hv, hc3, -, hrd, hr⟩ := hp
  replace hr := hg1.out.trans hr
  clear hg1 hlit
  have hv2 := hv.out
  rw [show (10 / 10 : Nat) = 1 from rfl, first_a] at hv2
  obtain ⟨rfl, rfl⟩ := Prod.mk.inj hv2
  clear hv hv2 hc3
  replace x1 := Lib.hid ((hr.block _ (Array.getElem?_eq_some_iff.mp x1.out).1).trans x1.out)
  replace hq := Gr.onP hr hq
  clear hr
  have hg1 : Gr wn (wn.alloc (.cells #[.bool true, .bool true, .bool true] 4)) := (Below.refl _ _).alloc (Nat.le_refl _) _
  have hlit := Lib.hid (bl_lit wn #[.bool true, .bool true, .bool true] [true, true, true] 3 rfl rfl)
  replace hg1 := Lib.hid hg1
  have hri : Hid (Ri wn A3 8 [0, 1, 3, 4, 5, 6, 7, 8]) := hrd
  clear hrd
  have c0 := blk_cell (j := 0) x1.out rfl
  have c1 := blk_cell (j := 1) x1.out rfl
  have c2 := blk_cell (j := 2) x1.out rfl
  have c3 := blk_cell (j := 3) x1.out rfl
  have c4 := blk_cell (j := 4) x1.out rfl
  go_wp2_with fail
  clear c0 c1 c2 c3 c4
  refine (first_any ⟨[], 0, 0, []⟩ A 10 10 (by decide) _ 3 3 [true, true, true] _ hlit).mono ?_
  rintro r w3 hp
  obtain ⟨A4, c4, l, b, rfl, hv, hc4, -, -, hr⟩ := hp
  replace hr := hg1.out.trans hr
  clear hg1 hlit
  have hv2 := hv.out
  rw [show (10 / 10 : Nat) = 1 from rfl, first_b] at hv2
  obtain ⟨rfl, rfl⟩ := Prod.mk.inj hv2
  clear hv hv2 hc4
  replace x1 := Lib.hid ((hr.block _ (Array.getElem?_eq_some_iff.mp x1.out).1).trans x1.out)
  replace hq := Gr.onP hr hq
  replace hri := Ri.gr hr hri
  clear hr
  have hg1 : Gr w3 (w3.alloc (.cells #[.bool true, .bool true, .bool true, .bool true, .bool true, .bool true, .bool true, .bool true, .bool false, .bool true] 4)) := (Below.refl _ _).alloc (Nat.le_refl _) _
  have hlit := Lib.hid (bl_lit w3 #[.bool true, .bool true, .bool true, .bool true, .bool true, .bool true, .bool true, .bool true, .bool false, .bool true] [true, true, true, true, true, true, true, true, false, true] 10 rfl rfl)
  replace hg1 := Lib.hid hg1
  have c0 := blk_cell (j := 0) x1.out rfl
  have c1 := blk_cell (j := 1) x1.out rfl
  have c2 := blk_cell (j := 2) x1.out rfl
  have c3 := blk_cell (j := 3) x1.out rfl
  have c4 := blk_cell (j := 4) x1.out rfl
  go_wp2_with fail
  clear c0 c1 c2 c3 c4
  refine (more_any ⟨[], 0, 0, []⟩ A 10 10 (by decide) _ 10 10 [true, true, true, true, true, true, true, true, false, true] 5 _ hlit).mono ?_
  rintro r w4 hp
  obtain ⟨k, b, rfl, hv, hr⟩ := hp
  replace hr := hg1.out.trans hr
  clear hg1 hlit
  obtain ⟨rfl, rfl⟩ := MoreOf.one hv.out more_a
  clear hv
  replace x1 := Lib.hid ((hr.block _ (Array.getElem?_eq_some_iff.mp x1.out).1).trans x1.out)
  replace hq := Gr.onP hr hq
  replace hri := Ri.gr hr hri
  clear hr
  have c0 := blk_cell (j := 0) x1.out rfl
  have c1 := blk_cell (j := 1) x1.out rfl
  have c2 := blk_cell (j := 2) x1.out rfl
  have c3 := blk_cell (j := 3) x1.out rfl
  have c4 := blk_cell (j := 4) x1.out rfl
  go_wp2_with fail
  clear c0 c1 c2 c3 c4
  refine (whole_none ⟨[], 0, 0, []⟩ A 10 10 _).mono ?_
  rintro r w5 hp
  obtain ⟨rfl, hr⟩ := hp
  replace x1 := Lib.hid ((hr.block _ (Array.getElem?_eq_some_iff.mp x1.out).1).trans x1.out)
  replace hq := Gr.onP hr hq
  replace hri := Ri.gr hr hri
  clear hr
  obtain ⟨ad, u0, rfl, -, -, d0⟩ := Reads.at_ hri.out (k := 0) (by decide)
  obtain ⟨ad2, u, e2, -, hu2, d2⟩ := Reads.at_ hri.out (k := 2) (by decide)
  injection e2 with e2
  subst e2
  obtain ⟨ad', u', e7, -, hu7, d7⟩ := Reads.at_ hri.out (k := 7) (by decide)
  injection e7 with e7
  subst e7
  have hu2' : u = .int .i64 3 := by injection hu2 with h; exact h.symm
  have hu7' : u' = .int .i64 8 := by injection hu7 with h; exact h.symm
  subst hu2'
  subst hu7'
  clear hu2 hu7
  obtain ⟨b9, o9, rfl⟩ := addr_flatP d0
  rw [addr_addP] at d2 d7
  clear d0
  go_wp2_with fail
  go_ret
  exact ⟨rfl, hq.out⟩
end Go.Proofs.Ytdgkcgiknfjpjaa
