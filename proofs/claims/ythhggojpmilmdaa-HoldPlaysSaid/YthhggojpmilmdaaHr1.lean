/- hold: the reference in memory; New, Is, Used. -/
import Derived.Test.YthhggojpmilmdaaHrO
import Derived.Test.YthhggojpmilmdaaHo1
namespace Go.Proofs.Ythhggojpmilmdaa
set_option linter.unusedVariables false
set_option linter.unusedSimpArgs false
open Go Go.RowKit
abbrev Rt := (List UInt8 × List UInt8) × Nat
def iV (n : Nat) : Value := .int .i64 n
abbrev rowsR (vk vd vw : Value) (R : List Rt) : List Rw := [(9, vk, R.map (fun x => sV x.1.1)), (9, vd, R.map (fun x => sV x.1.2)), (3, vw, R.map (fun x => iV x.2))]
/-- block g is the reference: its rows, its clock, its quota -/
structure Rh (w : World) (lo g : Nat) (vk vd vw : Value) (now q : Nat) (R : List Rt) : Prop where
  blk : w.heap[g]? = some (.cells #[vk, vd, vw, .int .i64 now, .int .i64 q] 55 (0, 0))
  lg : lo ≤ g
  own : Own lo (rowsR vk vd vw R) w
/-- what the reference may turn -/
abbrev rts : List TypeId := [55, 9, 3]
theorem Rh.tchg {w w' : World} {lo g : Nat} {vk vd vw : Value} {now q lo' : Nat} {R : List Rt} {ts : List TypeId} (h : Rh w lo g vk vd vw now q R) (hc : TChg lo' ts w w') (h1 : ∀ t ∈ rts, t ∉ ts) : Rh w' lo g vk vd vw now q R where
  blk := hc.block h.blk (h1 _ (by simp))
  lg := h.lg
  own := h.own.tchg hc (fun i x hx => h1 _ (by
    match i, hx with
    | 0, hx => injection hx with hx; subst hx; simp
    | 1, hx => injection hx with hx; subst hx; simp
    | 2, hx => injection hx with hx; subst hx; simp
    | _ + 3, hx => cases hx))
theorem Rh.gr {w w' : World} {lo g : Nat} {vk vd vw : Value} {now q : Nat} {R : List Rt} (hg : GrM w w') (h : Hid (Rh w lo g vk vd vw now q R)) : Hid (Rh w' lo g vk vd vw now q R) := Lib.hid (h.out.tchg (lo' := 0) (ts := []) (TChg.of_below hg) (by simp))
/-- the rows, as slices -/
theorem Rh.form {w : World} {lo g : Nat} {vk vd vw : Value} {now q : Nat} {R : List Rt} (h : Rh w lo g vk vd vw now q R) : ∃ Ak ck Ad cd Aw cw, vk = .slice Ak R.length ck ∧ vd = .slice Ad R.length cd ∧ vw = .slice Aw R.length cw := by
  obtain ⟨Ak, ck, e1, -, -⟩ := row_form (h.own.1 0 _ rfl)
  obtain ⟨Ad, cd, e2, -, -⟩ := row_form (h.own.1 1 _ rfl)
  obtain ⟨Aw, cw, e3, -, -⟩ := row_form (h.own.1 2 _ rfl)
  simp only [List.length_map] at e1 e2 e3
  exact ⟨Ak, ck, Ad, cd, Aw, cw, e1, e2, e3⟩
/-- the rows' cells -/
theorem Rh.cells {w : World} {lo g n : Nat} {Ak Ad Aw : Option Addr} {ck cd cw now q : Nat} {R : List Rt} (h : Rh w lo g (.slice Ak n ck) (.slice Ad n cd) (.slice Aw n cw) now q R) (hn : 0 < n) :
    ∃ bk bd bw, Ak = some ⟨bk, 0, none⟩ ∧ Ad = some ⟨bd, 0, none⟩ ∧ Aw = some ⟨bw, 0, none⟩ ∧ bk < w.heap.size ∧ bd < w.heap.size ∧ bw < w.heap.size ∧ lo ≤ bw ∧ (∃ cs, w.heap[bw]? = some (.cells cs 3 (0, 0))) ∧ ∀ i x, R[i]? = some x → w.cell? ⟨bk, i, none⟩ = some (.string (bs x.1.1)) ∧ w.cell? ⟨bd, i, none⟩ = some (.string (bs x.1.2)) ∧ w.cell? ⟨bw, i, none⟩ = some (.int .i64 x.2) := by
  have h0 := h.own.1 0 _ rfl
  have h1 := h.own.1 1 _ rfl
  have h2 := h.own.1 2 _ rfl
  obtain ⟨Ak', ck', Ad', cd', Aw', cw', e1, e2, e3⟩ := h.form
  injection e1 with _ hnn _
  simp only [List.length_map] at h0 h1 h2
  rw [← hnn] at h0 h1 h2
  obtain ⟨bk, c1, f1, -, -, -, l1, -, -, k1, -⟩ := row_at h0 hn
  obtain ⟨bd, c2, f2, -, -, -, l2, -, -, k2, -⟩ := row_at h1 hn
  obtain ⟨bw, c3, f3, -, -, b3, l3, hb3, -, k3, -⟩ := row_at h2 hn
  injection f1 with f1 _ _
  injection f2 with f2 _ _
  injection f3 with f3 _ _
  exact ⟨bk, bd, bw, f1, f2, f3, l1, l2, l3, b3, hb3, fun i x hx => ⟨k1 i _ (by rw [List.getElem?_map, hx]; rfl), k2 i _ (by rw [List.getElem?_map, hx]; rfl), k3 i _ (by rw [List.getElem?_map, hx]; rfl)⟩⟩
theorem rnew_hd {w : World} {q : Int} (x : Int) (qn : Nat) (hx : x = (qn : Int)) :
    Hid (Rh (w.alloc (.cells #[.slice none 0 0, .slice none 0 0, .slice none 0 0, .int .i64 0, .int .i64 x] 55)) w.heap.size w.heap.size (.slice none 0 0) (.slice none 0 0) (.slice none 0 0) 0 qn []) := by
  subst hx
  refine Lib.hid ⟨heap_alloc_new w _, Nat.le_refl _, ⟨fun i x hx => ?_, fun i j x y hij hx hy b hb => ?_⟩⟩
  · match i, hx with
    | 0, hx => injection hx with hx; subst hx; exact World.ownsRow_nil _ _ _ 1
    | 1, hx => injection hx with hx; subst hx; exact World.ownsRow_nil _ _ _ 1
    | 2, hx => injection hx with hx; subst hx; exact World.ownsRow_nil _ _ _ 1
    | _ + 3, hx => cases hx
  · match i, hx with
    | 0, hx => injection hx with hx; subst hx; cases hb
    | 1, hx => injection hx with hx; subst hx; cases hb
    | 2, hx => injection hx with hx; subst hx; cases hb
    | _ + 3, hx => cases hx
def quotaR (q : Int) : Nat := (min (max q 0) 32768).toNat
set_option maxRecDepth 10000 in
theorem rnew_any (q : Int) (w : World) : Calls Try.prog 9 #[.int .i64 q] w fun e w' => ∃ g, e = .returned (.pointer (some ⟨g, 0, none⟩)) ∧ Hid (Rh w' w.heap.size g (.slice none 0 0) (.slice none 0 0) (.slice none 0 0) 0 (quotaR q) []) ∧ GrM w w' := by
  by_cases h1 : q < 0
  · have h2 : decide ((32768 : Int) < 0) = false := by decide
    go_enter Try.func9, Try.ntmps9
    go_wp2_with fail
    go_ret
    exact ⟨_, rfl, rnew_hd (q := q) _ _ (by unfold quotaR; omega), GrM.alloc _ _⟩
  · have i1 : decide (q < 0) = false := decide_eq_false h1
    by_cases h2 : 32768 < q
    · clear h1
      go_enter Try.func9, Try.ntmps9
      go_wp2_with fail
      go_ret
      exact ⟨_, rfl, rnew_hd (q := q) _ _ (by unfold quotaR; omega), GrM.alloc _ _⟩
    · have i2 : decide (32768 < q) = false := decide_eq_false h2
      have h1' := Lib.hid h1
      have h2' := Lib.hid h2
      clear h1 h2
      go_enter Try.func9, Try.ntmps9
      go_wp2_with fail
      go_ret
      exact ⟨_, rfl, rnew_hd (q := q) _ _ (by have := h1'.out; have := h2'.out; unfold quotaR; omega), GrM.alloc _ _⟩
def posK (R : List Rt) (k : List UInt8) : Nat := R.findIdx (fun x => x.1.1 == k)
def isK (R : List Rt) (k : List UInt8) : Int := if posK R k < R.length then (posK R k : Int) else -1
theorem posK_hit {R : List Rt} {k : List UInt8} {i : Nat} {x : Rt} (hi : i ≤ posK R k) (hx : R[i]? = some x) (hk : (x.1.1 == k) = true) : isK R k = i := by
  obtain ⟨hl, hx⟩ := List.getElem?_eq_some_iff.1 hx
  have he : i = posK R k := by
    rcases Nat.lt_or_eq_of_le hi with h | h
    · have := List.not_of_lt_findIdx (p := fun x : Rt => x.1.1 == k) h
      rw [hx] at this
      exact absurd hk (by rw [this]; simp)
    · exact h
  unfold isK
  rw [← he, if_pos hl]
theorem posK_miss {R : List Rt} {k : List UInt8} {i : Nat} {x : Rt} (hi : i ≤ posK R k) (hx : R[i]? = some x) (hk : (x.1.1 == k) = false) : i + 1 ≤ posK R k := by
  obtain ⟨hl, hx⟩ := List.getElem?_eq_some_iff.1 hx
  rcases Nat.lt_or_eq_of_le hi with h | h
  · exact h
  · have hl2 : R.findIdx (fun x : Rt => x.1.1 == k) < R.length := by unfold posK at h; omega
    have := List.findIdx_getElem (p := fun x : Rt => x.1.1 == k) (xs := R) (w := hl2)
    have h3 : R.findIdx (fun x : Rt => x.1.1 == k) = i := h.symm
    simp only [h3, hx] at this
    rw [this] at hk
    cases hk
set_option maxHeartbeats 1000000 in
set_option maxRecDepth 10000 in
theorem ris17_any (lo g : Nat) (vk vd vw : Value) (now q : Nat) (R : List Rt) (hR : R.length ≤ 1000000) (k : List UInt8) (w : World) (h : Hid (Rh w lo g vk vd vw now q R)) :
    Calls Try.prog 28 #[.pointer (some ⟨g, 0, none⟩), .string (bs k)] w fun e w' => e = .returned (.int .i64 (isK R k)) ∧ w' = w := by
  obtain ⟨Ak, ck, Ad, cd, Aw, cw, rfl, rfl, rfl⟩ := h.out.form
  obtain ⟨n, hn⟩ : ∃ n, R.length = n := ⟨_, rfl⟩
  have h' := h.out
  rw [hn] at h' hR
  have cg := blk_cell (j := 0) h'.blk rfl
  obtain ⟨res, hres⟩ : ∃ res, isK R k = res := ⟨_, rfl⟩
  rw [hres]
  replace h := Lib.hid h'
  replace hres := Lib.hid hres
  replace hn := Lib.hid hn
  clear h'
  go_enter Try.func28, Try.ntmps28
  go_wp2_with fail
  go_loopw [5] (fun z wr => ∃ i : Nat, z = .int .i64 i ∧ i ≤ n ∧ Hid (i ≤ posK R k) ∧ wr = w) (fun z _ => n - (intOf z).toNat)
  case atStart => exact ⟨0, rfl, Nat.zero_le _, Lib.hid (Nat.zero_le _), rfl⟩
  case round =>
    obtain ⟨i, rfl, hi, hp, rfl⟩ := hrel
    by_cases hlt : i < n
    · have ii : (i : Int) < (n : Int) := by omega
      obtain ⟨bk, bd, bw, rfl, -, -, -, -, -, -, -, hc⟩ := h.out.cells (by omega)
      obtain ⟨x, hx⟩ : ∃ x, R[i]? = some x := ⟨_, List.getElem?_eq_getElem (by rw [hn.out]; exact hlt)⟩
      have ck := (hc i x hx).1
      replace hx := Lib.hid hx
      clear hc
      cases hcmp : (x.1.1 == k) with
      | true =>
        go_wp2_with fail
        go_ret
        exact ⟨by rw [← hres.out, posK_hit hp.out hx.out hcmp]; rfl, rfl⟩
      | false =>
        go_wp2_with fail
        go_roundw
        case rel => exact ⟨i + 1, by go_num, by omega, Lib.hid (posK_miss hp.out hx.out hcmp), by trivial⟩
        case measure => simp [intOf]; omega
    · obtain rfl : i = n := by omega
      have ii : decide ((i : Int) < (i : Int)) = false := decide_eq_false (by omega)
      go_wp2_with fail
      go_ret
      refine ⟨?_, rfl⟩
      rw [← hres.out]
      unfold isK
      rw [if_neg (by have := hp.out; have := hn.out; omega)]
      rfl
def sumR (R : List Rt) : Nat := (R.map (fun x => x.1.2.length)).sum
theorem sumR_take {R : List Rt} {i : Nat} {x : Rt} (hx : R[i]? = some x) : sumR (R.take (i + 1)) = sumR (R.take i) + x.1.2.length := by
  rw [List.take_add_one, hx]
  unfold sumR
  simp
theorem sumR_le (R : List Rt) (i : Nat) : sumR (R.take i) ≤ sumR R := by
  have : sumR R = sumR (R.take i) + sumR (R.drop i) := by
    unfold sumR
    rw [← List.sum_append, ← List.map_append, List.take_append_drop]
  omega
set_option maxHeartbeats 1000000 in
set_option maxRecDepth 10000 in
theorem rused17_any (lo g : Nat) (vk vd vw : Value) (now q : Nat) (R : List Rt) (hR : R.length ≤ 1000000) (hs : sumR R ≤ 1000000) (w : World) (h : Hid (Rh w lo g vk vd vw now q R)) :
    Calls Try.prog 17 #[.pointer (some ⟨g, 0, none⟩)] w fun e w' => e = .returned (.int .i64 (sumR R)) ∧ w' = w := by
  obtain ⟨Ak, ck, Ad, cd, Aw, cw, rfl, rfl, rfl⟩ := h.out.form
  obtain ⟨n, hn⟩ : ∃ n, R.length = n := ⟨_, rfl⟩
  have h' := h.out
  rw [hn] at h' hR
  have cg := blk_cell (j := 1) h'.blk rfl
  obtain ⟨res, hres⟩ : ∃ res, sumR R = res := ⟨_, rfl⟩
  rw [hres] at hs ⊢
  replace h := Lib.hid h'
  replace hres := Lib.hid hres
  replace hn := Lib.hid hn
  clear h'
  go_enter Try.func17, Try.ntmps17
  go_wp2_with fail
  go_loopw [3, 4] (fun s z wr => ∃ i t : Nat, s = .int .i64 t ∧ z = .int .i64 i ∧ i ≤ n ∧ t ≤ 1000000 ∧ Hid (t = sumR (R.take i)) ∧ wr = w) (fun _ z _ => n - (intOf z).toNat)
  case atStart => exact ⟨0, 0, rfl, rfl, Nat.zero_le _, Nat.zero_le _, Lib.hid rfl, rfl⟩
  case round =>
    obtain ⟨i, t, rfl, rfl, hi, ht, hts, rfl⟩ := hrel
    by_cases hlt : i < n
    · have ii : (i : Int) < (n : Int) := by omega
      obtain ⟨bk, bd, bw, -, rfl, -, -, -, -, -, -, hc⟩ := h.out.cells (by omega)
      obtain ⟨x, hx⟩ : ∃ x, R[i]? = some x := ⟨_, List.getElem?_eq_getElem (by rw [hn.out]; exact hlt)⟩
      have ck := (hc i x hx).2.1
      have hst := sumR_take hx
      rw [← hts.out] at hst
      have hle := sumR_le R (i + 1)
      rw [hst, hres.out] at hle
      obtain ⟨d, hd⟩ : ∃ d, x.1.2.length = d := ⟨_, rfl⟩
      have hsz : (bs x.1.2).size = d := hd
      rw [hd] at hle hst
      have hw : IntKind.i64.wrap ((t : Int) + (d : Int)) = (t : Int) + (d : Int) := by rw [IntKind.wrap_i64]; omega
      replace hst := Lib.hid hst
      replace hx := Lib.hid hx
      replace hd := Lib.hid hd
      clear hc
      go_wp2_with fail
      go_roundw
      case rel => exact ⟨i + 1, t + d, by go_num, by go_num, by omega, by omega, Lib.hid hst.out.symm, by trivial⟩
      case measure => simp [intOf]; omega
    · obtain rfl : i = n := by omega
      have ii : decide ((i : Int) < (i : Int)) = false := decide_eq_false (by omega)
      have : t = res := by rw [hts.out, ← hres.out, List.take_of_length_le (by rw [hn.out]; exact Nat.le_refl _)]
      subst this
      go_wp2_with fail
      go_ret
      exact ⟨rfl, rfl⟩
end Go.Proofs.Ythhggojpmilmdaa
