/- The reference cartridge: its other methods. -/
import Derived.Test.YtppclmidnomkjaaCartRef
namespace Go.Proofs.Ytppclmidnomkjaa
set_option linter.unusedVariables false
set_option linter.unusedSimpArgs false
open Go Go.RowKit
theorem Rt.lt {w : World} {lo g : Nat} {s : CS} (h : Rt w lo g s) : g < w.heap.size := by obtain ⟨v1, v2, a, -⟩ := h; exact blk_lt a
set_option maxRecDepth 10000 in
theorem ris_true (lo g : Nat) (s : CS) (p : Int) (hl : s.lost = false) (h0 : 0 ≤ p) (h1 : p < s.recs.length) (w : World) (h : Rt w lo g s) :
    Calls Try.prog 49 #[.pointer (some ⟨g, 0, none⟩), .int .i64 p] w fun e w' => e = .returned (.bool true) ∧ w' = w := by
  obtain ⟨A1, c1, A2, c2, hh, hg, hs, hz, q0, q1, q2, q3, hc1, hm1, hc2, hm2⟩ := h.open_
  have hrl := h.ok.recs
  have hmo := h.ok.most
  rw [hl] at q3
  replace hl := Lib.hid hl
  replace hh := Lib.hid hh
  replace hs := Lib.hid hs
  replace hz := Lib.hid hz
  replace h := Lib.hid h
  go_enter Try.func49, Try.ntmps49
  go_wp2
  go_ret
  exact ⟨rfl, rfl⟩
set_option maxRecDepth 10000 in
theorem ris_false (lo g : Nat) (s : CS) (p : Int) (hf : s.lost = true ∨ p < 0 ∨ (s.recs.length : Int) ≤ p) (w : World) (h : Rt w lo g s) :
    Calls Try.prog 49 #[.pointer (some ⟨g, 0, none⟩), .int .i64 p] w fun e w' => e = .returned (.bool false) ∧ w' = w := by
  obtain ⟨A1, c1, A2, c2, hh, hg, hs, hz, q0, q1, q2, q3, hc1, hm1, hc2, hm2⟩ := h.open_
  have hrl := h.ok.recs
  have hmo := h.ok.most
  replace hh := Lib.hid hh
  replace hs := Lib.hid hs
  replace hz := Lib.hid hz
  replace h := Lib.hid h
  cases hl : s.lost with
  | true =>
    rw [hl] at q3
    clear hf
    replace hl := Lib.hid hl
    go_enter Try.func49, Try.ntmps49
    go_wp2
    go_ret
    exact ⟨rfl, rfl⟩
  | false =>
    rw [hl] at q3 hf
    replace hl := Lib.hid hl
    by_cases h0 : p < 0
    · clear hf
      go_enter Try.func49, Try.ntmps49
      go_wp2
      go_ret
      exact ⟨rfl, rfl⟩
    · have h1 : (s.recs.length : Int) ≤ p := by rcases hf with hf | hf | hf <;> first | cases hf | omega
      have hd : decide (p < (s.recs.length : Int)) = false := decide_eq_false (by omega)
      clear hf
      go_enter Try.func49, Try.ntmps49
      go_wp2
      go_ret
      exact ⟨rfl, rfl⟩
set_option maxHeartbeats 1000000 in
set_option maxRecDepth 10000 in
theorem rread_any (lo g : Nat) (s : CS) (p : Int) (w : World) (h : Rt w lo g s) :
    Calls Try.prog 20 #[.pointer (some ⟨g, 0, none⟩), .int .i64 p] w fun e w' => e = .returned (.tuple #[.string (bs (s.read p).1), .int .i64 (s.read p).2]) ∧ w' = w := by
  obtain ⟨A1, c1, A2, c2, hh, hg, hs, hz, q0, q1, q2, q3, hc1, hm1, hc2, hm2⟩ := h.open_
  have hrl := h.ok.recs
  have hmo := h.ok.most
  replace hh := Lib.hid hh
  obtain ⟨x, hx⟩ : ∃ x, s.read p = x := ⟨_, rfl⟩
  rw [hx]
  unfold CS.read at hx
  cases hlo : s.lost with
  | true =>
    rw [if_pos hlo] at hx
    rw [hlo] at q3
    replace hlo := Lib.hid hlo
    subst hx
    replace h := Lib.hid h
    replace hs := Lib.hid hs
    replace hz := Lib.hid hz
    go_enter Try.func20, Try.ntmps20
    go_wp2
    go_ret2
    exact ⟨rfl, rfl⟩
  | false =>
    rw [if_neg (by rw [hlo]; decide)] at hx
    rw [hlo] at q3
    by_cases ho : p < 0 ∨ (s.recs.length : Int) ≤ p
    · rw [if_pos ho] at hx
      subst hx
      have hf := Lib.hid (Or.inr ho : s.lost = true ∨ p < 0 ∨ (s.recs.length : Int) ≤ p)
      replace hlo := Lib.hid hlo
      replace ho := Lib.hid ho
      replace h := Lib.hid h
      replace hs := Lib.hid hs
      replace hz := Lib.hid hz
      go_enter Try.func20, Try.ntmps20
      go_wp2_with fail
      refine (ris_false lo g s p hf.out w h.out).mono ?_
      rintro e w' ⟨rfl, rfl⟩
      go_wp2
      go_ret2
      exact ⟨rfl, rfl⟩
    · rw [if_neg ho] at hx
      obtain ⟨i, hi'⟩ : ∃ i : Nat, p = i := ⟨p.toNat, by omega⟩
      have hil : i < s.recs.length := by omega
      obtain ⟨r, hr⟩ : ∃ r, s.recs[i]? = some r := ⟨_, List.getElem?_eq_getElem hil⟩
      have hpi : p.toNat = i := by omega
      rw [hpi, getD_some hr] at hx
      obtain ⟨gs, rfl, hgs1, hgs2, cs, -, -, -⟩ := hs.at_ (j := i) (l := r.1) (by rw [List.getElem?_map, hr]; rfl)
      obtain ⟨gz, rfl, hgz1, hgz2, -, cz, -, -, -⟩ := hz.at_ (j := i) (z := r.2) (by rw [List.getElem?_map, hr]; rfl)
      subst hi'
      have hi0 : (0 : Int) ≤ i := by omega
      have hi1 : (i : Int) < s.recs.length := by omega
      clear ho hpi
      replace hlo := Lib.hid hlo
      replace hr := Lib.hid hr
      replace h := Lib.hid h
      replace hs := Lib.hid hs
      replace hz := Lib.hid hz
      obtain ⟨bytes, rot⟩ := r
      try simp only at hx cs cz
      cases rot with
      | true =>
        rw [if_pos rfl] at hx
        subst hx
        go_enter Try.func20, Try.ntmps20
        go_wp2_with fail
        refine (ris_true lo g s i hlo.out hi0 hi1 w h.out).mono ?_
        rintro e w' ⟨rfl, rfl⟩
        go_wp2
        go_ret2
        exact ⟨rfl, rfl⟩
      | false =>
        rw [if_neg (by decide)] at hx
        subst hx
        go_enter Try.func20, Try.ntmps20
        go_wp2_with fail
        refine (ris_true lo g s i hlo.out hi0 hi1 w h.out).mono ?_
        rintro e w' ⟨rfl, rfl⟩
        go_wp2
        go_ret2
        exact ⟨rfl, rfl⟩
theorem Rt.rotted {w : World} {lo g i gz : Nat} {s : CS} {r : List UInt8 × Bool} (h : Rt w lo g s) (hr : s.recs[i]? = some r) {c2 : Nat} (h1 : w.cell? ⟨g, 1, none⟩ = some (.slice (some ⟨gz, 0, none⟩) s.recs.length c2)) :
    Rt (w.setCell ⟨gz, i, none⟩ (.bool true)) lo g { s with recs := s.recs.set i (r.1, true) } ∧ TChg lo RT w (w.setCell ⟨gz, i, none⟩ (.bool true)) := by
  obtain ⟨A1, c1, A2, c2', hh, hg, hs, hz, q0, q1, q2, q3, -⟩ := h.open_
  have hok := h.ok
  rw [q1] at h1
  injection h1 with h1
  injection h1 with h1 _ h2
  subst h1
  subst h2
  obtain ⟨_, e, hl1, hl2, ⟨cs, hcs⟩, -, -, hst, -⟩ := hz.at_ (j := i) (z := r.2) (by rw [List.getElem?_map, hr]; rfl)
  injection e with e
  injection e with e
  subst e
  have hne : g ≠ gz := fun e => by
    subst e
    rw [hh] at hcs
    injection hcs with hcs
    injection hcs with _ hcs _
    exact absurd hcs (by decide)
  refine ⟨⟨_, _, (blk_other hne _ _).trans hh, hg, ?_, ?_, ⟨by show (s.recs.set i _).length ≤ _; rw [List.length_set]; exact hok.recs, hok.most, fun q hq => ?_⟩⟩, TChg.of_set hcs (by decide) hl1 _ _⟩
  · have e : (s.recs.set i (r.1, true)).map (·.1) = s.recs.map (·.1) := by
      rw [List.map_set]
      obtain ⟨hlt, he⟩ := List.getElem?_eq_some_iff.1 hr
      refine List.ext_getElem? fun k => ?_
      rw [List.getElem?_set]
      split
      · rename_i hk; subst hk
        rw [List.length_map, if_pos hlt, List.getElem?_map, hr]; rfl
      · rfl
    show SRow _ lo _ ((s.recs.set i (r.1, true)).map (·.1))
    rw [e]
    exact row_set_other hs _ _ _ (row_ne hs hcs (by decide))
  · show BRow _ lo _ ((s.recs.set i (r.1, true)).map (·.2))
    rw [List.map_set]
    exact hst true
  · rcases List.mem_or_eq_of_mem_set hq with hq | rfl
    · exact hok.len q hq
    · exact hok.len r (List.mem_of_getElem? hr)
theorem Rt.torn {w : World} {lo g i gs : Nat} {s : CS} {r : List UInt8 × Bool} (h : Rt w lo g s) (hr : s.recs[i]? = some r) {c1 : Nat} (h1 : w.cell? ⟨g, 0, none⟩ = some (.slice (some ⟨gs, 0, none⟩) s.recs.length c1)) (k : Nat) :
    Rt (w.setCell ⟨gs, i, none⟩ (.string (bs (r.1.take k)))) lo g { s with recs := s.recs.set i (r.1.take k, r.2) } ∧ TChg lo RT w (w.setCell ⟨gs, i, none⟩ (.string (bs (r.1.take k)))) := by
  obtain ⟨A1, c1', A2, c2', hh, hg, hs, hz, q0, q1, q2, q3, -⟩ := h.open_
  have hok := h.ok
  rw [q0] at h1
  injection h1 with h1
  injection h1 with h1 _ h2
  subst h1
  subst h2
  have hlt := (List.getElem?_eq_some_iff.1 hr).1
  have hs' := hs
  unfold SRow at hs'
  rw [List.length_map] at hs'
  obtain ⟨_, c, e, -, -, hl1, -, ⟨cs, hcs⟩, -, -, hst⟩ := row_at hs' (by omega)
  injection e with e _ _
  injection e with e
  injection e with e
  subst e
  have hne : g ≠ gs := fun e => by
    subst e
    rw [hh] at hcs
    injection hcs with hcs
    injection hcs with _ hcs _
    exact absurd hcs (by decide)
  refine ⟨⟨_, _, (blk_other hne _ _).trans hh, hg, ?_, ?_, ⟨by show (s.recs.set i _).length ≤ _; rw [List.length_set]; exact hok.recs, hok.most, fun q hq => ?_⟩⟩, TChg.of_set hcs (by decide) hl1 _ _⟩
  · show World.ownsRow _ lo _ 1 _ ((s.recs.set i (r.1.take k, r.2)).map (·.1)).length (((s.recs.set i (r.1.take k, r.2)).map (·.1)).map sv)
    rw [List.map_set, List.map_set, List.length_set, List.length_map]
    exact hst i _
  · show BRow _ lo _ ((s.recs.set i (r.1.take k, r.2)).map (·.2))
    have e : (s.recs.set i (r.1.take k, r.2)).map (·.2) = s.recs.map (·.2) := by
      rw [List.map_set]
      refine List.ext_getElem? fun j => ?_
      rw [List.getElem?_set]
      split
      · rename_i hk; subst hk
        rw [List.length_map, if_pos hlt, List.getElem?_map, hr]; rfl
      · rfl
    rw [e]
    exact row_set_other hz _ _ _ (row_ne hz hcs (by decide))
  · rcases List.mem_or_eq_of_mem_set hq with hq | rfl
    · exact hok.len q hq
    · have := hok.len r (List.mem_of_getElem? hr)
      show (r.1.take k).length ≤ 256
      rw [List.length_take]; omega
set_option maxHeartbeats 1000000 in
set_option maxRecDepth 10000 in
theorem rrot_any (lo g : Nat) (s : CS) (p : Int) (w : World) (h : Rt w lo g s) :
    Calls Try.prog 42 #[.pointer (some ⟨g, 0, none⟩), .int .i64 p] w fun e w' => e = .returned (.bool (s.rot p).1) ∧ Rt w' lo g (s.rot p).2 ∧ TChg lo RT w w' := by
  obtain ⟨A1, c1, A2, c2, hh, hg, hs, hz, q0, q1, q2, q3, hc1, hm1, hc2, hm2⟩ := h.open_
  have hrl := h.ok.recs
  have hmo := h.ok.most
  replace hh := Lib.hid hh
  obtain ⟨x, hx⟩ : ∃ x, s.rot p = x := ⟨_, rfl⟩
  rw [hx]
  unfold CS.rot at hx
  by_cases ho : s.lost = true ∨ p < 0 ∨ (s.recs.length : Int) ≤ p
  · rw [if_pos ho] at hx
    subst hx
    replace ho := Lib.hid ho
    replace h := Lib.hid h
    replace hs := Lib.hid hs
    replace hz := Lib.hid hz
    clear q0 q1 q2 q3
    go_enter Try.func42, Try.ntmps42
    go_wp2_with fail
    refine (ris_false lo g s p ho.out w h.out).mono ?_
    rintro e w' ⟨rfl, rfl⟩
    go_wp2
    go_ret
    exact ⟨rfl, h.out, TChg.refl _ _ _⟩
  · rw [if_neg ho] at hx
    have hlo : s.lost = false := by cases hl : s.lost with
      | true => exact absurd (.inl hl) ho
      | false => rfl
    obtain ⟨i, hi'⟩ : ∃ i : Nat, p = i := ⟨p.toNat, by omega⟩
    have hil : i < s.recs.length := by omega
    obtain ⟨r, hr⟩ : ∃ r, s.recs[i]? = some r := ⟨_, List.getElem?_eq_getElem hil⟩
    have hpi : p.toNat = i := by omega
    rw [hpi, getD_some hr] at hx
    obtain ⟨gz, rfl, hgz1, hgz2, -, cz, fz, -, -⟩ := hz.at_ (j := i) (z := r.2) (by rw [List.getElem?_map, hr]; rfl)
    have hrot := Lib.hid (h.rotted hr q1)
    subst hi'
    have hi0 : (0 : Int) ≤ i := by omega
    have hi1 : (i : Int) < s.recs.length := by omega
    clear ho hpi
    replace hlo := Lib.hid hlo
    replace hr := Lib.hid hr
    replace h := Lib.hid h
    replace hs := Lib.hid hs
    replace hz := Lib.hid hz
    obtain ⟨bytes, rot⟩ := r
    try simp only at hx cz hrot
    cases rot with
    | true =>
      rw [if_pos rfl] at hx
      subst hx
      go_enter Try.func42, Try.ntmps42
      go_wp2_with fail
      refine (ris_true lo g s i hlo.out hi0 hi1 w h.out).mono ?_
      rintro e w' ⟨rfl, rfl⟩
      go_wp2
      go_ret
      exact ⟨rfl, h.out, TChg.refl _ _ _⟩
    | false =>
      rw [if_neg (by decide)] at hx
      subst hx
      go_enter Try.func42, Try.ntmps42
      go_wp2_with fail
      refine (ris_true lo g s i hlo.out hi0 hi1 w h.out).mono ?_
      rintro e w' ⟨rfl, rfl⟩
      go_wp2
      go_ret
      exact ⟨rfl, hrot.out.1, hrot.out.2⟩
theorem Rt.lostd {w : World} {lo g : Nat} {s : CS} (h : Rt w lo g s) : Rt (w.setCell ⟨g, 3, none⟩ (.bool true)) lo g { s with lost := true } ∧ TChg lo RT w (w.setCell ⟨g, 3, none⟩ (.bool true)) := by
  obtain ⟨v1, v2, a, b, c, d, e⟩ := h
  exact ⟨⟨v1, v2, blk_set a 3 _, b, row_set_other c _ _ _ (row_ne c a (by decide)), row_set_other d _ _ _ (row_ne d a (by decide)), ⟨e.recs, e.most, e.len⟩⟩, TChg.of_set a (by decide) b _ _⟩
set_option maxHeartbeats 1000000 in
set_option maxRecDepth 10000 in
theorem rlose_any (lo g : Nat) (s : CS) (w : World) (h : Rt w lo g s) :
    Calls Try.prog 44 #[.pointer (some ⟨g, 0, none⟩)] w fun e w' => e = .returned (.bool s.lose.1) ∧ Rt w' lo g s.lose.2 ∧ TChg lo RT w w' := by
  obtain ⟨A1, c1, A2, c2, hh, hg, hs, hz, q0, q1, q2, q3, hc1, hm1, hc2, hm2⟩ := h.open_
  have f3 := blk_free hh 3
  have hset := Lib.hid h.lostd
  replace hh := Lib.hid hh
  replace hs := Lib.hid hs
  replace hz := Lib.hid hz
  obtain ⟨x, hx⟩ : ∃ x, s.lose = x := ⟨_, rfl⟩
  rw [hx]
  unfold CS.lose at hx
  replace h := Lib.hid h
  cases hlo : s.lost with
  | true =>
    rw [if_pos hlo] at hx
    rw [hlo] at q3
    replace hlo := Lib.hid hlo
    subst hx
    go_enter Try.func44, Try.ntmps44
    go_wp2
    go_ret
    exact ⟨rfl, h.out, TChg.refl _ _ _⟩
  | false =>
    rw [if_neg (by rw [hlo]; decide)] at hx
    rw [hlo] at q3
    replace hlo := Lib.hid hlo
    subst hx
    go_enter Try.func44, Try.ntmps44
    go_wp2
    go_ret
    exact ⟨rfl, hset.out.1, hset.out.2⟩
set_option maxHeartbeats 1000000 in
set_option maxRecDepth 10000 in
theorem rroom_any (lo g : Nat) (s : CS) (w : World) (h : Rt w lo g s) :
    Calls Try.prog 46 #[.pointer (some ⟨g, 0, none⟩)] w fun e w' => e = .returned (.int .i64 s.room) ∧ ∃ n, w' = w.drewN n := by
  obtain ⟨A1, c1, A2, c2, hh, hg, hs, hz, q0, q1, q2, q3, hc1, hm1, hc2, hm2⟩ := h.open_
  have hrl := h.ok.recs
  have hmo := h.ok.most
  replace hh := Lib.hid hh
  replace hs := Lib.hid hs
  replace hz := Lib.hid hz
  obtain ⟨x, hx⟩ : ∃ x, s.room = x := ⟨_, rfl⟩
  rw [hx]
  unfold CS.room at hx
  replace h := Lib.hid h
  cases hlo : s.lost with
  | true =>
    rw [if_pos hlo] at hx
    rw [hlo] at q3
    replace hlo := Lib.hid hlo
    subst hx
    go_enter Try.func46, Try.ntmps46
    go_wp2
    go_ret
    exact ⟨rfl, 0, rfl⟩
  | false =>
    rw [if_neg (by rw [hlo]; decide)] at hx
    rw [hlo] at q3
    replace hlo := Lib.hid hlo
    subst hx
    go_enter Try.func46, Try.ntmps46
    go_wp2_with fail
    go_quiet (fail)
    go_wp2
    go_ret
    exact ⟨rfl, _, rfl⟩
@[go_sem] theorem bs_take (l : List UInt8) (k : Nat) : (bs l).extract 0 k = bs (l.take k) := by
  unfold bs
  apply ByteArray.ext
  simp [ByteArray.data_extract]
set_option maxHeartbeats 1000000 in
set_option maxRecDepth 10000 in
theorem rtear_any (lo g : Nat) (s : CS) (p : Int) (hp : I64 p) (w : World) (h : Rt w lo g s) :
    Calls Try.prog 43 #[.pointer (some ⟨g, 0, none⟩), .int .i64 p] w fun e w' => e = .returned (.bool (s.tear p).1) ∧ Rt w' lo g (s.tear p).2 ∧ TChg lo RT w w' := by
  obtain ⟨A1, c1, A2, c2, hh, hg, hs, hz, q0, q1, q2, q3, hc1, hm1, hc2, hm2⟩ := h.open_
  have hrl := h.ok.recs
  have hmo := h.ok.most
  have hgs := Lib.hid (blk_lt hh)
  replace hh := Lib.hid hh
  replace hz := Lib.hid hz
  obtain ⟨x, hx⟩ : ∃ x, s.tear p = x := ⟨_, rfl⟩
  rw [hx]
  unfold CS.tear at hx
  by_cases ho : s.lost = true ∨ s.recs.length = 0
  · rw [if_pos ho] at hx
    subst hx
    have hf : Hid (s.lost = true ∨ (s.recs.length : Int) - 1 < 0 ∨ (s.recs.length : Int) ≤ (s.recs.length : Int) - 1) := Lib.hid (by rcases ho with ho | ho; exact .inl ho; exact .inr (.inl (by omega)))
    clear ho
    replace h := Lib.hid h
    replace hs := Lib.hid hs
    clear q1 q2 q3
    go_enter Try.func43, Try.ntmps43
    go_wp2_with fail
    refine (ris_false lo g s _ hf.out w h.out).mono ?_
    rintro e w' ⟨rfl, rfl⟩
    go_wp2
    go_ret
    exact ⟨rfl, h.out, TChg.refl _ _ _⟩
  · rw [if_neg ho] at hx
    have hlo : s.lost = false := by cases hl : s.lost with
      | true => exact absurd (.inl hl) ho
      | false => rfl
    obtain ⟨i, hi'⟩ : ∃ i : Nat, s.recs.length - 1 = i := ⟨_, rfl⟩
    have hil : i < s.recs.length := by omega
    have hNi : (s.recs.length : Int) - 1 = i := by omega
    obtain ⟨r, hr⟩ : ∃ r, s.recs[i]? = some r := ⟨_, List.getElem?_eq_getElem hil⟩
    rw [hi', getD_some hr] at hx
    obtain ⟨gs, rfl, hgs1, hgs2, cs, -, -, -⟩ := hs.at_ (j := i) (l := r.1) (by rw [List.getElem?_map, hr]; rfl)
    have hgss := Lib.hid hgs2
    obtain ⟨c', hfs⟩ : ∃ c', Hid (w.frozen? ⟨gs, i, none⟩ = false) := ⟨0, by
      have hs' := hs
      unfold SRow at hs'
      obtain ⟨_, c, e, -, -, -, -, -, hfz, -⟩ := row_at hs' (by rw [List.length_map]; omega)
      injection e with e _ _
      injection e with e
      injection e with e
      subst e
      exact Lib.hid (hfz i)⟩
    have fs := hfs.out
    have htorn := Lib.hid (fun k => h.torn hr q0 k)
    have hlen : r.1.length ≤ 256 := h.ok.len r (List.mem_of_getElem? hr)
    have hi0 : (0 : Int) ≤ i := by omega
    have hi1 : (i : Int) < s.recs.length := by omega
    clear ho hi'
    replace hNi := Lib.hid hNi
    replace hlo := Lib.hid hlo
    replace hr := Lib.hid hr
    replace h := Lib.hid h
    replace hs := Lib.hid hs
    obtain ⟨bytes, rot⟩ := r
    try simp only at hx cs htorn hlen
    by_cases h1 : p < 0
    · rw [if_pos (.inl h1)] at hx
      subst hx
      go_enter Try.func43, Try.ntmps43
      go_wp2_with fail
      rw [hNi.out]
      refine (ris_true lo g s i hlo.out hi0 hi1 w h.out).mono ?_
      rintro e w' ⟨rfl, rfl⟩
      go_wp2
      go_ret
      exact ⟨rfl, h.out, TChg.refl _ _ _⟩
    · by_cases h2 : (bytes.length : Int) ≤ p
      · rw [if_pos (.inr h2)] at hx
        subst hx
        go_enter Try.func43, Try.ntmps43
        go_wp2_with fail
        rw [hNi.out]
        refine (ris_true lo g s i hlo.out hi0 hi1 w h.out).mono ?_
        rintro e w' ⟨rfl, rfl⟩
        go_wp2
        go_ret
        exact ⟨rfl, h.out, TChg.refl _ _ _⟩
      · rw [if_neg (by omega)] at hx
        obtain ⟨q, hq⟩ : ∃ q : Nat, p = q := ⟨p.toNat, by omega⟩
        subst hq
        rw [Int.toNat_natCast] at hx
        have ht2 := Lib.hid (htorn.out q)
        subst hx
        have hql : q ≤ bytes.length := by omega
        go_enter Try.func43, Try.ntmps43
        go_wp2_with fail
        rw [hNi.out]
        refine (ris_true lo g s i hlo.out hi0 hi1 w h.out).mono ?_
        rintro e w' ⟨rfl, rfl⟩
        go_wp2_with fail
        refine wpR_region (Upd (fun _ => False)) 15 (by kernel_rfl) ?_
        refine wpR_take (i := 0) (v := ?_) (Upd.road _) (some 32) rfl (by kernel_rfl) (by kernel_rfl) (by kernel_rfl) (by kernel_rfl) (by kernel_rfl) (fun _ _ _ h => h) (by kernel_rfl) (fun w' hw' => ?_) ?_
        rotate_left
        · go_simp; with_reducible rfl
        simp only [Act.put, List.setIfInBounds_toArray, List.set_cons_zero, List.set_cons_succ]
        refine wpR_take (i := 1) (v := ?_) (Upd.road _) (some 33) rfl (by kernel_rfl) (by kernel_rfl) (by kernel_rfl) (by kernel_rfl) (by kernel_rfl) (fun _ _ _ h => h) (by kernel_rfl) (fun w' hw' => ?_) ?_
        rotate_left
        · go_simp; with_reducible rfl
        simp only [Act.put, List.setIfInBounds_toArray, List.set_cons_zero, List.set_cons_succ]
        refine wpR_take (i := 2) (v := ?_) (Upd.road _) (some 34) rfl (by kernel_rfl) (by kernel_rfl) (by kernel_rfl) (by kernel_rfl) (by kernel_rfl) (fun _ _ _ h => h) (by kernel_rfl) (fun w' hw' => ?_) ?_
        rotate_left
        · go_simp; with_reducible rfl
        simp only [Act.put, List.setIfInBounds_toArray, List.set_cons_zero, List.set_cons_succ]
        refine wpR_take (i := 3) (v := ?_) (Upd.road _) (some 35) rfl (by kernel_rfl) (by kernel_rfl) (by kernel_rfl) (by kernel_rfl) (by kernel_rfl) (fun _ _ _ h => h) (by kernel_rfl) (fun w' hw' => ?_) ?_
        rotate_left
        · have q := (World.cell?_of_block (a := ⟨g, 0, none⟩) (hw'.2.2.2.2 g hgs.out (fun h => h))).trans q0; go_simp; with_reducible rfl
        simp only [Act.put, List.setIfInBounds_toArray, List.set_cons_zero, List.set_cons_succ]
        refine wpR_take (i := 4) (v := ?_) (Upd.road _) (some 36) rfl (by kernel_rfl) (by kernel_rfl) (by kernel_rfl) (by kernel_rfl) (by kernel_rfl) (fun _ _ _ h => h) (by kernel_rfl) (fun w' hw' => ?_) ?_
        rotate_left
        · go_simp; with_reducible rfl
        simp only [Act.put, List.setIfInBounds_toArray, List.set_cons_zero, List.set_cons_succ]
        refine wpR_take (i := 5) (v := ?_) (Upd.road _) (some 37) rfl (by kernel_rfl) (by kernel_rfl) (by kernel_rfl) (by kernel_rfl) (by kernel_rfl) (fun _ _ _ h => h) (by kernel_rfl) (fun w' hw' => ?_) ?_
        rotate_left
        · go_simp; with_reducible rfl
        simp only [Act.put, List.setIfInBounds_toArray, List.set_cons_zero, List.set_cons_succ]
        refine wpR_take (i := 6) (v := ?_) (Upd.road _) (some 38) rfl (by kernel_rfl) (by kernel_rfl) (by kernel_rfl) (by kernel_rfl) (by kernel_rfl) (fun _ _ _ h => h) (by kernel_rfl) (fun w' hw' => ?_) ?_
        rotate_left
        · go_simp; with_reducible rfl
        simp only [Act.put, List.setIfInBounds_toArray, List.set_cons_zero, List.set_cons_succ]
        refine wpR_take (i := 7) (v := ?_) (Upd.road _) (some 39) rfl (by kernel_rfl) (by kernel_rfl) (by kernel_rfl) (by kernel_rfl) (by kernel_rfl) (fun _ _ _ h => h) (by kernel_rfl) (fun w' hw' => ?_) ?_
        rotate_left
        · go_simp; with_reducible rfl
        simp only [Act.put, List.setIfInBounds_toArray, List.set_cons_zero, List.set_cons_succ]
        refine wpR_take (i := 8) (v := ?_) (Upd.road _) (some 40) rfl (by kernel_rfl) (by kernel_rfl) (by kernel_rfl) (by kernel_rfl) (by kernel_rfl) (fun _ _ _ h => h) (by kernel_rfl) (fun w' hw' => ?_) ?_
        rotate_left
        · have q := (World.cell?_of_block (a := ⟨g, 0, none⟩) (hw'.2.2.2.2 g hgs.out (fun h => h))).trans q0; go_simp; with_reducible rfl
        simp only [Act.put, List.setIfInBounds_toArray, List.set_cons_zero, List.set_cons_succ]
        refine wpR_take (i := 9) (v := ?_) (Upd.road _) (some 41) rfl (by kernel_rfl) (by kernel_rfl) (by kernel_rfl) (by kernel_rfl) (by kernel_rfl) (fun _ _ _ h => h) (by kernel_rfl) (fun w' hw' => ?_) ?_
        rotate_left
        · go_simp; with_reducible rfl
        simp only [Act.put, List.setIfInBounds_toArray, List.set_cons_zero, List.set_cons_succ]
        refine wpR_take (i := 10) (v := ?_) (Upd.road _) (some 42) rfl (by kernel_rfl) (by kernel_rfl) (by kernel_rfl) (by kernel_rfl) (by kernel_rfl) (fun _ _ _ h => h) (by kernel_rfl) (fun w' hw' => ?_) ?_
        rotate_left
        · go_simp; with_reducible rfl
        simp only [Act.put, List.setIfInBounds_toArray, List.set_cons_zero, List.set_cons_succ]
        refine wpR_take (i := 11) (v := ?_) (Upd.road _) (some 43) rfl (by kernel_rfl) (by kernel_rfl) (by kernel_rfl) (by kernel_rfl) (by kernel_rfl) (fun _ _ _ h => h) (by kernel_rfl) (fun w' hw' => ?_) ?_
        rotate_left
        · have q := (World.cell?_of_block (a := ⟨gs, i, none⟩) (hw'.2.2.2.2 gs hgss.out (fun h => h))).trans cs; go_simp; with_reducible rfl
        simp only [Act.put, List.setIfInBounds_toArray, List.set_cons_zero, List.set_cons_succ]
        refine wpR_take (i := 12) (v := ?_) (Upd.road _) (some 44) rfl (by kernel_rfl) (by kernel_rfl) (by kernel_rfl) (by kernel_rfl) (by kernel_rfl) (fun _ _ _ h => h) (by kernel_rfl) (fun w' hw' => ?_) ?_
        rotate_left
        · go_simp; with_reducible rfl
        simp only [Act.put, List.setIfInBounds_toArray, List.set_cons_zero, List.set_cons_succ]
        refine wpR_take (i := 13) (v := ?_) (Upd.road _) (some 45) rfl (by kernel_rfl) (by kernel_rfl) (by kernel_rfl) (by kernel_rfl) (by kernel_rfl) (fun _ _ _ h => h) (by kernel_rfl) (fun w' hw' => ?_) ?_
        rotate_left
        · go_simp; with_reducible rfl
        simp only [Act.put, List.setIfInBounds_toArray, List.set_cons_zero, List.set_cons_succ]
        refine wpR_take (i := 14) (v := ?_) (Upd.road _) (some 46) rfl (by kernel_rfl) (by kernel_rfl) (by kernel_rfl) (by kernel_rfl) (by kernel_rfl) (fun _ _ _ h => h) (by kernel_rfl) (fun w' hw' => ?_) ?_
        rotate_left
        · go_simp; with_reducible rfl
        simp only [Act.put, List.setIfInBounds_toArray, List.set_cons_zero, List.set_cons_succ]
        refine wpR_one 15 rfl (by kernel_rfl) (by kernel_rfl) (fun K hK => ?_)
        go_simp
        refine hK _ _ (fun h => absurd rfl h) ?_
        clear hK K
        try simp only [Act.put, List.setIfInBounds_toArray, List.set_cons_zero, List.set_cons_succ]
        refine wpR_done (by kernel_rfl) ?_ _
        go_wp2
        go_ret
        exact ⟨rfl, ht2.out.1, ht2.out.2⟩
end Go.Proofs.Ytppclmidnomkjaa
