/- lib: a drive turned; nextToLoad. -/
import Derived.Test.YtfjhdcppehfiiaaLb2
namespace Go.Proofs.Ytfjhdcppehfiiaa
set_option linter.unusedVariables false
set_option linter.unusedSimpArgs false
open Go Go.RowKit
theorem flatD_set {D : List Dr} {i k : Nat} {d d' : Dr} {u : Value} (hd : D[i]? = some d) (hk : k < 4) (he : (encD d).set k u = encD d') : flatD (D.set i d') = (flatD D).set (i * 4 + k) u := by
  obtain ⟨hl, rfl⟩ := List.getElem?_eq_some_iff.1 hd
  have h1 : D = D.take i ++ D[i] :: D.drop (i + 1) := by rw [← List.drop_eq_getElem_cons hl, List.take_append_drop]
  have h3 : (flatD (D.take i)).length = i * 4 := by rw [flatD_len, List.length_take]; omega
  have h4 : flatD D = flatD (D.take i) ++ (encD D[i] ++ flatD (D.drop (i + 1))) := by
    have := congrArg flatD h1
    rw [flatD_app] at this
    exact this
  have h5 : D.set i d' = D.take i ++ d' :: D.drop (i + 1) := by rw [List.set_eq_take_append_cons_drop, if_pos hl]
  rw [h5, flatD_app, h4, List.set_append, if_neg (by omega), h3, show i * 4 + k - i * 4 = k from by omega, List.set_append, if_pos (show k < (encD D[i]).length from hk), he]
  rfl
theorem Lb.setD {w : World} {lo g bd n cd calls i k : Nat} {vc : Value} {C : List Nat} {D : List Dr} {d d' : Dr} {u : Value} (h : Lb w lo g vc (.slice (some ⟨bd, 0, none⟩) n cd) C D calls) (hd : D[i]? = some d) (hk : k < 4) (he : (encD d).set k u = encD d') :
    Lb (w.setCell ⟨bd, i * 4 + k, none⟩ u) lo g vc (.slice (some ⟨bd, 0, none⟩) n cd) C (D.set i d') calls ∧ TChg lo [59] w (w.setCell ⟨bd, i * 4 + k, none⟩ u) ∧ w.frozen? ⟨bd, i * 4 + k, none⟩ = false := by
  obtain ⟨bz, c, e, -, -, hlo, hlt, ⟨cs, hbd⟩, hf, hc, hst⟩ := row_at h.drives (by have := (List.getElem?_eq_some_iff.1 hd).1; omega)
  injection e with e _ _
  injection e with e
  injection e with e
  subst e
  have hg : g ≠ bd := fun e => by
    have := h.blk
    rw [e, hbd] at this
    injection this with this
    injection this with _ hT _
    exact absurd hT (by decide)
  refine ⟨⟨(blk_other hg _ _).trans h.blk, h.lg, row_set_other h.carts bd _ _ (row_ne h.carts hbd (by decide)), ?_, h.lc, by rw [List.length_set]; exact h.ld⟩, TChg.of_set hbd (by simp) hlo _ _, hf _⟩
  rw [List.length_set, flatD_set hd hk he]
  exact hst _ _
theorem Lb.tick {w : World} {lo g calls : Nat} {vc vd : Value} {C : List Nat} {D : List Dr} (h : Lb w lo g vc vd C D calls) (t : Nat) : Lb (w.setCell ⟨g, 2, none⟩ (.int .i64 t)) lo g vc vd C D t ∧ TChg lo [57] w (w.setCell ⟨g, 2, none⟩ (.int .i64 t)) := by
  have tc : TChg lo [57] w (w.setCell ⟨g, 2, none⟩ (.int .i64 t)) := TChg.of_set h.blk (by simp) h.lg 2 _
  exact ⟨⟨blk_set h.blk 2 _, h.lg, row_tchg h.carts tc (by decide), row_tchg h.drives tc (by decide), h.lc, h.ld⟩, tc⟩
/-- the drive that was named longest ago, of the first i, none of them free -/
def oldN (D : List Dr) : Nat → Option Nat
  | 0 => none
  | i + 1 => match D[i]? with
    | none => oldN D i
    | some d => if d.broken = true then oldN D i else match oldN D i with
      | none => some i
      | some j => match D[j]? with
        | some e => if d.named < e.named then some i else some j
        | none => some j
theorem oldN_lt {D : List Dr} : ∀ {i j : Nat}, oldN D i = some j → j < i ∧ ∃ e, D[j]? = some e ∧ e.broken = false
  | 0, j, h => by cases h
  | i + 1, j, h => by
    rw [oldN] at h
    cases hd : D[i]? with
    | none =>
      rw [hd] at h
      obtain ⟨h1, h2⟩ := oldN_lt h
      exact ⟨by omega, h2⟩
    | some d =>
      rw [hd] at h
      simp only at h
      split at h
      · obtain ⟨h1, h2⟩ := oldN_lt h
        exact ⟨by omega, h2⟩
      · rename_i hb
        have hb : d.broken = false := by simpa using hb
        split at h
        · injection h with h
          subst h
          exact ⟨by omega, d, hd, hb⟩
        · rename_i j' hj'
          obtain ⟨h1, h2⟩ := oldN_lt hj'
          split at h
          · split at h
            · injection h with h
              subst h
              exact ⟨by omega, d, hd, hb⟩
            · injection h with h
              subst h
              exact ⟨by omega, h2⟩
          · injection h with h
            subst h
            exact ⟨by omega, h2⟩
def ptrO (bd : Nat) : Option Nat → Value
  | none => .pointer none
  | some j => .pointer (some ⟨bd, j * 4, none⟩)
/-- a drive that takes no cartridge as it stands: broken, or with one in it -/
def busyD (d : Dr) : Prop := d.broken = true ∨ d.cart ≠ -1
def NextPost (vd : Value) (D : List Dr) (w : World) (e : Ending) (w' : World) : Prop :=
  ((D = [] ∧ e = .returned (.pointer none)) ∨ ∃ bd cd, vd = .slice (some ⟨bd, 0, none⟩) D.length cd ∧ ((∃ i d, e = .returned (ptrO bd (some i)) ∧ D[i]? = some d ∧ d.broken = false ∧ d.cart = -1 ∧ ∀ (j : Nat) (d' : Dr), j < i → D[j]? = some d' → busyD d') ∨ (e = .returned (ptrO bd (oldN D D.length)) ∧ ∀ d ∈ D, busyD d))) ∧ Below w.heap.size w w'
section
variable (lo g : Nat) (vc vd : Value) (C : List Nat) (D : List Dr) (calls : Nat) (w : World) (h : Hid (Lb w lo g vc vd C D calls))
include h
set_option maxHeartbeats 2000000 in
set_option maxRecDepth 10000 in
theorem next_any : Calls Try.prog 49 #[.pointer (some ⟨g, 0, none⟩)] w (NextPost vd D w) := by
  obtain ⟨Ac, cc, Ad, cd, rfl, rfl⟩ := h.out.form
  have c1 := blk_cell (j := 1) h.out.blk rfl
  obtain ⟨n, hn⟩ : ∃ n, D.length = n := ⟨_, rfl⟩
  have hn4 : n ≤ 4 := by rw [← hn]; exact h.out.ld
  rw [hn] at c1
  have h' := h.out
  rw [hn] at h'
  by_cases hn0 : n = 0
  · subst hn0
    have hD : D = [] := List.eq_nil_of_length_eq_zero hn
    have hpost : Hid (NextPost (.slice Ad D.length cd) D w (.returned (.pointer none)) w) := Lib.hid ⟨.inl ⟨hD, rfl⟩, Below.refl _ _⟩
    generalize NextPost (.slice Ad D.length cd) D w = PP at hpost ⊢
    replace hn := Lib.hid hn
    replace hD := Lib.hid hD
    clear h h'
    go_enter Try.func49, Try.ntmps49
    go_wp2_with fail
    go_loopw [3, 11] (fun o q wr => o = .pointer none ∧ q = .int .i64 0 ∧ wr = w) (fun _ _ _ => 0)
    case atStart => exact ⟨rfl, rfl, rfl⟩
    case round =>
      obtain ⟨rfl, rfl, rfl⟩ := hrel
      go_wp2_with fail
      exact hpost.out
  obtain ⟨bd, rfl, -, -, -⟩ := h'.driveAt (by omega)
  have hpost : Hid (∀ e w', (((∃ i d, e = .returned (ptrO bd (some i)) ∧ D[i]? = some d ∧ d.broken = false ∧ d.cart = -1 ∧ ∀ (j : Nat) (d' : Dr), j < i → D[j]? = some d' → busyD d') ∨ (e = .returned (ptrO bd (oldN D n)) ∧ ∀ d ∈ D, busyD d)) ∧ Below w.heap.size w w') → NextPost (.slice (some ⟨bd, 0, none⟩) D.length cd) D w e w') := Lib.hid (fun e w' hh => ⟨.inr ⟨bd, cd, rfl, by rw [hn]; exact hh.1⟩, hh.2⟩)
  generalize NextPost (.slice (some ⟨bd, 0, none⟩) D.length cd) D w = PP at hpost ⊢
  have hcells : Hid (∀ wr, Below w.heap.size w wr → wr.cell? ⟨g, 1, none⟩ = some (.slice (some ⟨bd, 0, none⟩) n cd) ∧ ∀ i d, D[i]? = some d → wr.cell? ⟨bd, i * 4, none⟩ = some (.bool d.broken) ∧ wr.cell? ⟨bd, i * 4 + 1, none⟩ = some (.int .i64 d.cart) ∧ wr.cell? ⟨bd, i * 4 + 3, none⟩ = some (.int .i64 d.named)) := Lib.hid (fun wr hb => by
    have h2 := (Lb.gr hb (Lib.hid h')).out
    obtain ⟨bz, e, -, -, hc⟩ := h2.driveAt (by omega)
    injection e with e
    injection e with e
    subst e
    exact ⟨blk_cell (j := 1) (v := .slice (some ⟨bd, 0, none⟩) n cd) h2.blk rfl, fun i d hd => ⟨(hc i d hd).1, (hc i d hd).2.1, (hc i d hd).2.2.2⟩⟩)
  replace hn := Lib.hid hn
  clear h h'
  go_enter Try.func49, Try.ntmps49
  go_wp2_with fail
  clear c1
  go_loopw [3, 11] (fun o q wr => ∃ i : Nat, o = ptrO bd (oldN D i) ∧ q = .int .i64 i ∧ i ≤ n ∧ Hid (∀ (j : Nat) (d' : Dr), j < i → D[j]? = some d' → busyD d') ∧ Hid (Below w.heap.size w wr)) (fun _ q _ => n - (intOf q).toNat)
  case atStart => exact ⟨0, rfl, rfl, Nat.zero_le _, Lib.hid (fun j d' hj => by omega), Lib.hid (Below.refl _ _)⟩
  case round =>
    obtain ⟨i, rfl, rfl, hi, hno, hgr⟩ := hrel
    by_cases hlt : i < n
    · have ii : (i : Int) < (n : Int) := by omega
      have iip : (0 : Int) ≤ (i : Int) := by omega
      obtain ⟨c1, hc⟩ := hcells.out wr hgr.out
      obtain ⟨d, hd⟩ : ∃ d, D[i]? = some d := ⟨_, List.getElem?_eq_getElem (by rw [hn.out]; exact hlt)⟩
      obtain ⟨a1, a2, -⟩ := hc i d hd
      have hstep : oldN D (i + 1) = if d.broken = true then oldN D i else match oldN D i with
        | none => some i
        | some j => match D[j]? with
          | some e => if d.named < e.named then some i else some j
          | none => some j := by rw [oldN, hd]
      clear hc
      cases hb : d.broken with
      | true =>
        rw [hb] at a1 hstep
        rw [if_pos rfl] at hstep
        replace hstep := Lib.hid hstep
        replace hd := Lib.hid hd
        generalize oldN D i = oo at hstep
        cases oo with
        | none =>
          go_wp2_with fail
          go_roundw
          case rel => exact ⟨i + 1, by first | (rw [hstep.out]; done) | (rw [hstep.out]; rfl), by go_num, by omega, Lib.hid (fun j d' hj hd' => by
            rcases Nat.lt_succ_iff_lt_or_eq.1 hj with hj | rfl
            · exact hno.out j d' hj hd'
            · rw [hd.out] at hd'
              injection hd' with hd'
              rw [← hd']
              exact .inl hb), hgr⟩
          case measure => simp [intOf]; omega
        | some j0 =>
          go_wp2_with fail
          go_roundw
          case rel => exact ⟨i + 1, by first | (rw [hstep.out]; done) | (rw [hstep.out]; rfl), by go_num, by omega, Lib.hid (fun j d' hj hd' => by
            rcases Nat.lt_succ_iff_lt_or_eq.1 hj with hj | rfl
            · exact hno.out j d' hj hd'
            · rw [hd.out] at hd'
              injection hd' with hd'
              rw [← hd']
              exact .inl hb), hgr⟩
          case measure => simp [intOf]; omega
      | false =>
        rw [hb] at a1 hstep
        rw [if_neg (by simp)] at hstep
        by_cases hm1 : d.cart = -1
        · rw [hm1] at a2
          have hp := hpost.out (.returned (ptrO bd (some i))) wr ⟨.inl ⟨i, d, rfl, hd, hb, hm1, hno.out⟩, hgr.out⟩
          replace hp := Lib.hid hp
          replace hstep := Lib.hid hstep
          replace hd := Lib.hid hd
          replace hm1 := Lib.hid hm1
          generalize oldN D i = oo at hstep ⊢
          cases oo with
          | none =>
            go_wp2_with fail
            exact hp.out
          | some j0 =>
            go_wp2_with fail
            exact hp.out
        · have im1 : (d.cart == -1) = false := beq_false_of_ne hm1
          have hnob : Hid (∀ (j : Nat) (d' : Dr), j < i + 1 → D[j]? = some d' → busyD d') := Lib.hid (fun j d' hj hd' => by
            rcases Nat.lt_succ_iff_lt_or_eq.1 hj with hj | rfl
            · exact hno.out j d' hj hd'
            · rw [hd] at hd'
              injection hd' with hd'
              rw [← hd']
              exact .inr hm1)
          have hm1' := Lib.hid hm1
          clear hm1
          generalize hdc : d.cart = dc at *
          replace hdc := Lib.hid hdc
          obtain ⟨wd, hwd⟩ : ∃ wd, wd = wr.drew := ⟨_, rfl⟩
          have hgd : Hid (Below w.heap.size w wd) := Lib.hid (by rw [hwd]; exact hgr.out.trans (Below.refl _ _).drew)
          obtain ⟨-, hc2⟩ := hcells.out wd hgd.out
          obtain ⟨-, -, b3⟩ := hc2 i d hd
          cases ho : oldN D i with
          | none =>
            rw [ho] at hstep
            simp only at hstep
            replace hstep := Lib.hid hstep
            replace ho := Lib.hid ho
            replace hd := Lib.hid hd
            clear hc2 b3
            show Code.wp _ _ _ _ _
            rw [show ptrO bd none = .pointer none from rfl]
            go_upto_region 9 with (fail)
            refine wpR_region (Eq) 9999 (by kernel_rfl) ?_
            (rw [← hwd]; replace hwd := Lib.hid hwd)
            refine wpR_take (i := 0) (v := ?_) (⟨fun _ => rfl, Eq.trans⟩) (some 33) rfl (by kernel_rfl) (by kernel_rfl) (by kernel_rfl) (by kernel_rfl) (by kernel_rfl) (fun _ _ _ h => h) (by kernel_rfl) (fun w' hw' => ?_) ?_
            rotate_left
            · go_simp; with_reducible rfl
            simp only [Act.put, List.setIfInBounds_toArray, List.set_cons_zero, List.set_cons_succ]
            refine wpR_take (i := 1) (v := ?_) (⟨fun _ => rfl, Eq.trans⟩) (some 34) rfl (by kernel_rfl) (by kernel_rfl) (by kernel_rfl) (by kernel_rfl) (by kernel_rfl) (fun _ _ _ h => h) (by kernel_rfl) (fun w' hw' => ?_) ?_
            rotate_left
            · go_simp; with_reducible rfl
            simp only [Act.put, List.setIfInBounds_toArray, List.set_cons_zero, List.set_cons_succ]
            refine wpR_take (i := 2) (v := ?_) (⟨fun _ => rfl, Eq.trans⟩) (some 35) rfl (by kernel_rfl) (by kernel_rfl) (by kernel_rfl) (by kernel_rfl) (by kernel_rfl) (fun _ _ _ h => h) (by kernel_rfl) (fun w' hw' => ?_) ?_
            rotate_left
            · go_simp; with_reducible rfl
            simp only [Act.put, List.setIfInBounds_toArray, List.set_cons_zero, List.set_cons_succ]
            refine wpR_skip (i := 3) (⟨fun _ => rfl, Eq.trans⟩) (some 36) rfl (by kernel_rfl) (by kernel_rfl) (by kernel_rfl) (by kernel_rfl) (by kernel_rfl) (fun _ _ _ h => h) (by kernel_rfl) ?_
            simp only [Act.put, List.setIfInBounds_toArray, List.set_cons_zero, List.set_cons_succ]
            refine wpR_skip (i := 4) (⟨fun _ => rfl, Eq.trans⟩) (some 37) rfl (by kernel_rfl) (by kernel_rfl) (by kernel_rfl) (by kernel_rfl) (by kernel_rfl) (fun _ _ _ h => h) (by kernel_rfl) ?_
            simp only [Act.put, List.setIfInBounds_toArray, List.set_cons_zero, List.set_cons_succ]
            refine wpR_skip (i := 5) (⟨fun _ => rfl, Eq.trans⟩) (some 38) rfl (by kernel_rfl) (by kernel_rfl) (by kernel_rfl) (by kernel_rfl) (by kernel_rfl) (fun _ _ _ h => h) (by kernel_rfl) ?_
            simp only [Act.put, List.setIfInBounds_toArray, List.set_cons_zero, List.set_cons_succ]
            refine wpR_skip (i := 6) (⟨fun _ => rfl, Eq.trans⟩) (some 39) rfl (by kernel_rfl) (by kernel_rfl) (by kernel_rfl) (by kernel_rfl) (by kernel_rfl) (fun _ _ _ h => h) (by kernel_rfl) ?_
            simp only [Act.put, List.setIfInBounds_toArray, List.set_cons_zero, List.set_cons_succ]
            refine wpR_skip (i := 7) (⟨fun _ => rfl, Eq.trans⟩) (some 40) rfl (by kernel_rfl) (by kernel_rfl) (by kernel_rfl) (by kernel_rfl) (by kernel_rfl) (fun _ _ _ h => h) (by kernel_rfl) ?_
            simp only [Act.put, List.setIfInBounds_toArray, List.set_cons_zero, List.set_cons_succ]
            refine wpR_skip (i := 8) (⟨fun _ => rfl, Eq.trans⟩) (some 41) rfl (by kernel_rfl) (by kernel_rfl) (by kernel_rfl) (by kernel_rfl) (by kernel_rfl) (fun _ _ _ h => h) (by kernel_rfl) ?_
            simp only [Act.put, List.setIfInBounds_toArray, List.set_cons_zero, List.set_cons_succ]
            refine wpR_skip (i := 9) (⟨fun _ => rfl, Eq.trans⟩) (some 42) rfl (by kernel_rfl) (by kernel_rfl) (by kernel_rfl) (by kernel_rfl) (by kernel_rfl) (fun _ _ _ h => h) (by kernel_rfl) ?_
            simp only [Act.put, List.setIfInBounds_toArray, List.set_cons_zero, List.set_cons_succ]
            refine wpR_skip (i := 10) (⟨fun _ => rfl, Eq.trans⟩) (some 43) rfl (by kernel_rfl) (by kernel_rfl) (by kernel_rfl) (by kernel_rfl) (by kernel_rfl) (fun _ _ _ h => h) (by kernel_rfl) ?_
            simp only [Act.put, List.setIfInBounds_toArray, List.set_cons_zero, List.set_cons_succ]
            refine wpR_skip (i := 11) (⟨fun _ => rfl, Eq.trans⟩) (some 44) rfl (by kernel_rfl) (by kernel_rfl) (by kernel_rfl) (by kernel_rfl) (by kernel_rfl) (fun _ _ _ h => h) (by kernel_rfl) ?_
            simp only [Act.put, List.setIfInBounds_toArray, List.set_cons_zero, List.set_cons_succ]
            refine wpR_take (i := 12) (v := ?_) (⟨fun _ => rfl, Eq.trans⟩) (some 45) rfl (by kernel_rfl) (by kernel_rfl) (by kernel_rfl) (by kernel_rfl) (by kernel_rfl) (fun _ _ _ h => h) (by kernel_rfl) (fun w' hw' => ?_) ?_
            rotate_left
            · go_simp; with_reducible rfl
            simp only [Act.put, List.setIfInBounds_toArray, List.set_cons_zero, List.set_cons_succ]
            refine wpR_take (i := 13) (v := ?_) (⟨fun _ => rfl, Eq.trans⟩) (some 32) rfl (by kernel_rfl) (by kernel_rfl) (by kernel_rfl) (by kernel_rfl) (by kernel_rfl) (fun _ _ _ h => h) (by kernel_rfl) (fun w' hw' => ?_) ?_
            rotate_left
            · go_simp; with_reducible rfl
            simp only [Act.put, List.setIfInBounds_toArray, List.set_cons_zero, List.set_cons_succ]
            refine wpR_done (by kernel_rfl) ?_ _
            go_wp2_with fail
            go_roundw
            case rel => exact ⟨i + 1, by first | (rw [hstep.out]; done) | (rw [hstep.out]; rfl), by go_num, by omega, hnob, hgd⟩
            case measure => simp [intOf]; omega
          | some j0 =>
            obtain ⟨hj0, e0, he0, -⟩ := oldN_lt ho
            rw [ho] at hstep
            simp only [he0] at hstep
            obtain ⟨-, -, f3⟩ := hc2 j0 e0 he0
            replace ho := Lib.hid ho
            replace hd := Lib.hid hd
            replace he0 := Lib.hid he0
            clear hc2
            rw [show ptrO bd (some j0) = .pointer (some ⟨bd, j0 * 4, none⟩) from rfl]
            obtain ⟨cmp, hcmp⟩ : ∃ cmp, decide (d.named < e0.named) = cmp := ⟨_, rfl⟩
            have hstep2 : oldN D (i + 1) = if cmp = true then some i else some j0 := by rw [hstep, ← hcmp]; simp
            replace hstep := Lib.hid hstep2
            clear hstep2
            cases cmp with
            | true =>
              go_upto_region 9 with (fail)
              refine wpR_region (Eq) 9999 (by kernel_rfl) ?_
              (rw [← hwd]; replace hwd := Lib.hid hwd)
              refine wpR_take (i := 0) (v := ?_) (⟨fun _ => rfl, Eq.trans⟩) (some 33) rfl (by kernel_rfl) (by kernel_rfl) (by kernel_rfl) (by kernel_rfl) (by kernel_rfl) (fun _ _ _ h => h) (by kernel_rfl) (fun w' hw' => ?_) ?_
              rotate_left
              · go_simp; with_reducible rfl
              simp only [Act.put, List.setIfInBounds_toArray, List.set_cons_zero, List.set_cons_succ]
              refine wpR_take (i := 1) (v := ?_) (⟨fun _ => rfl, Eq.trans⟩) (some 34) rfl (by kernel_rfl) (by kernel_rfl) (by kernel_rfl) (by kernel_rfl) (by kernel_rfl) (fun _ _ _ h => h) (by kernel_rfl) (fun w' hw' => ?_) ?_
              rotate_left
              · go_simp; with_reducible rfl
              simp only [Act.put, List.setIfInBounds_toArray, List.set_cons_zero, List.set_cons_succ]
              refine wpR_take (i := 2) (v := ?_) (⟨fun _ => rfl, Eq.trans⟩) (some 35) rfl (by kernel_rfl) (by kernel_rfl) (by kernel_rfl) (by kernel_rfl) (by kernel_rfl) (fun _ _ _ h => h) (by kernel_rfl) (fun w' hw' => ?_) ?_
              rotate_left
              · go_simp; with_reducible rfl
              simp only [Act.put, List.setIfInBounds_toArray, List.set_cons_zero, List.set_cons_succ]
              refine wpR_take (i := 3) (v := ?_) (⟨fun _ => rfl, Eq.trans⟩) (some 36) rfl (by kernel_rfl) (by kernel_rfl) (by kernel_rfl) (by kernel_rfl) (by kernel_rfl) (fun _ _ _ h => h) (by kernel_rfl) (fun w' hw' => ?_) ?_
              rotate_left
              · go_simp; with_reducible rfl
              simp only [Act.put, List.setIfInBounds_toArray, List.set_cons_zero, List.set_cons_succ]
              refine wpR_take (i := 4) (v := ?_) (⟨fun _ => rfl, Eq.trans⟩) (some 37) rfl (by kernel_rfl) (by kernel_rfl) (by kernel_rfl) (by kernel_rfl) (by kernel_rfl) (fun _ _ _ h => h) (by kernel_rfl) (fun w' hw' => ?_) ?_
              rotate_left
              · go_simp; with_reducible rfl
              simp only [Act.put, List.setIfInBounds_toArray, List.set_cons_zero, List.set_cons_succ]
              refine wpR_take (i := 5) (v := ?_) (⟨fun _ => rfl, Eq.trans⟩) (some 38) rfl (by kernel_rfl) (by kernel_rfl) (by kernel_rfl) (by kernel_rfl) (by kernel_rfl) (fun _ _ _ h => h) (by kernel_rfl) (fun w' hw' => ?_) ?_
              rotate_left
              · go_simp; with_reducible rfl
              simp only [Act.put, List.setIfInBounds_toArray, List.set_cons_zero, List.set_cons_succ]
              refine wpR_take (i := 6) (v := ?_) (⟨fun _ => rfl, Eq.trans⟩) (some 39) rfl (by kernel_rfl) (by kernel_rfl) (by kernel_rfl) (by kernel_rfl) (by kernel_rfl) (fun _ _ _ h => h) (by kernel_rfl) (fun w' hw' => ?_) ?_
              rotate_left
              · subst hw'; go_simp; with_reducible rfl
              simp only [Act.put, List.setIfInBounds_toArray, List.set_cons_zero, List.set_cons_succ]
              refine wpR_take (i := 7) (v := ?_) (⟨fun _ => rfl, Eq.trans⟩) (some 40) rfl (by kernel_rfl) (by kernel_rfl) (by kernel_rfl) (by kernel_rfl) (by kernel_rfl) (fun _ _ _ h => h) (by kernel_rfl) (fun w' hw' => ?_) ?_
              rotate_left
              · go_simp; with_reducible rfl
              simp only [Act.put, List.setIfInBounds_toArray, List.set_cons_zero, List.set_cons_succ]
              refine wpR_take (i := 8) (v := ?_) (⟨fun _ => rfl, Eq.trans⟩) (some 41) rfl (by kernel_rfl) (by kernel_rfl) (by kernel_rfl) (by kernel_rfl) (by kernel_rfl) (fun _ _ _ h => h) (by kernel_rfl) (fun w' hw' => ?_) ?_
              rotate_left
              · go_simp; with_reducible rfl
              simp only [Act.put, List.setIfInBounds_toArray, List.set_cons_zero, List.set_cons_succ]
              refine wpR_take (i := 9) (v := ?_) (⟨fun _ => rfl, Eq.trans⟩) (some 42) rfl (by kernel_rfl) (by kernel_rfl) (by kernel_rfl) (by kernel_rfl) (by kernel_rfl) (fun _ _ _ h => h) (by kernel_rfl) (fun w' hw' => ?_) ?_
              rotate_left
              · go_simp; with_reducible rfl
              simp only [Act.put, List.setIfInBounds_toArray, List.set_cons_zero, List.set_cons_succ]
              refine wpR_take (i := 10) (v := ?_) (⟨fun _ => rfl, Eq.trans⟩) (some 43) rfl (by kernel_rfl) (by kernel_rfl) (by kernel_rfl) (by kernel_rfl) (by kernel_rfl) (fun _ _ _ h => h) (by kernel_rfl) (fun w' hw' => ?_) ?_
              rotate_left
              · subst hw'; go_simp; with_reducible rfl
              simp only [Act.put, List.setIfInBounds_toArray, List.set_cons_zero, List.set_cons_succ]
              refine wpR_take (i := 11) (v := ?_) (⟨fun _ => rfl, Eq.trans⟩) (some 44) rfl (by kernel_rfl) (by kernel_rfl) (by kernel_rfl) (by kernel_rfl) (by kernel_rfl) (fun _ _ _ h => h) (by kernel_rfl) (fun w' hw' => ?_) ?_
              rotate_left
              · go_simp; with_reducible rfl
              simp only [Act.put, List.setIfInBounds_toArray, List.set_cons_zero, List.set_cons_succ]
              refine wpR_take (i := 12) (v := ?_) (⟨fun _ => rfl, Eq.trans⟩) (some 45) rfl (by kernel_rfl) (by kernel_rfl) (by kernel_rfl) (by kernel_rfl) (by kernel_rfl) (fun _ _ _ h => h) (by kernel_rfl) (fun w' hw' => ?_) ?_
              rotate_left
              · go_simp; with_reducible rfl
              simp only [Act.put, List.setIfInBounds_toArray, List.set_cons_zero, List.set_cons_succ]
              refine wpR_take (i := 13) (v := ?_) (⟨fun _ => rfl, Eq.trans⟩) (some 32) rfl (by kernel_rfl) (by kernel_rfl) (by kernel_rfl) (by kernel_rfl) (by kernel_rfl) (fun _ _ _ h => h) (by kernel_rfl) (fun w' hw' => ?_) ?_
              rotate_left
              · go_simp; with_reducible rfl
              simp only [Act.put, List.setIfInBounds_toArray, List.set_cons_zero, List.set_cons_succ]
              refine wpR_done (by kernel_rfl) ?_ _
              go_wp2_with fail
              go_roundw
              case rel => exact ⟨i + 1, by first | (rw [hstep.out]; done) | (rw [hstep.out]; rfl), by go_num, by omega, hnob, hgd⟩
              case measure => simp [intOf]; omega
            | false =>
              go_upto_region 9 with (fail)
              refine wpR_region (Eq) 9999 (by kernel_rfl) ?_
              (rw [← hwd]; replace hwd := Lib.hid hwd)
              refine wpR_take (i := 0) (v := ?_) (⟨fun _ => rfl, Eq.trans⟩) (some 33) rfl (by kernel_rfl) (by kernel_rfl) (by kernel_rfl) (by kernel_rfl) (by kernel_rfl) (fun _ _ _ h => h) (by kernel_rfl) (fun w' hw' => ?_) ?_
              rotate_left
              · go_simp; with_reducible rfl
              simp only [Act.put, List.setIfInBounds_toArray, List.set_cons_zero, List.set_cons_succ]
              refine wpR_take (i := 1) (v := ?_) (⟨fun _ => rfl, Eq.trans⟩) (some 34) rfl (by kernel_rfl) (by kernel_rfl) (by kernel_rfl) (by kernel_rfl) (by kernel_rfl) (fun _ _ _ h => h) (by kernel_rfl) (fun w' hw' => ?_) ?_
              rotate_left
              · go_simp; with_reducible rfl
              simp only [Act.put, List.setIfInBounds_toArray, List.set_cons_zero, List.set_cons_succ]
              refine wpR_take (i := 2) (v := ?_) (⟨fun _ => rfl, Eq.trans⟩) (some 35) rfl (by kernel_rfl) (by kernel_rfl) (by kernel_rfl) (by kernel_rfl) (by kernel_rfl) (fun _ _ _ h => h) (by kernel_rfl) (fun w' hw' => ?_) ?_
              rotate_left
              · go_simp; with_reducible rfl
              simp only [Act.put, List.setIfInBounds_toArray, List.set_cons_zero, List.set_cons_succ]
              refine wpR_take (i := 3) (v := ?_) (⟨fun _ => rfl, Eq.trans⟩) (some 36) rfl (by kernel_rfl) (by kernel_rfl) (by kernel_rfl) (by kernel_rfl) (by kernel_rfl) (fun _ _ _ h => h) (by kernel_rfl) (fun w' hw' => ?_) ?_
              rotate_left
              · go_simp; with_reducible rfl
              simp only [Act.put, List.setIfInBounds_toArray, List.set_cons_zero, List.set_cons_succ]
              refine wpR_take (i := 4) (v := ?_) (⟨fun _ => rfl, Eq.trans⟩) (some 37) rfl (by kernel_rfl) (by kernel_rfl) (by kernel_rfl) (by kernel_rfl) (by kernel_rfl) (fun _ _ _ h => h) (by kernel_rfl) (fun w' hw' => ?_) ?_
              rotate_left
              · go_simp; with_reducible rfl
              simp only [Act.put, List.setIfInBounds_toArray, List.set_cons_zero, List.set_cons_succ]
              refine wpR_take (i := 5) (v := ?_) (⟨fun _ => rfl, Eq.trans⟩) (some 38) rfl (by kernel_rfl) (by kernel_rfl) (by kernel_rfl) (by kernel_rfl) (by kernel_rfl) (fun _ _ _ h => h) (by kernel_rfl) (fun w' hw' => ?_) ?_
              rotate_left
              · go_simp; with_reducible rfl
              simp only [Act.put, List.setIfInBounds_toArray, List.set_cons_zero, List.set_cons_succ]
              refine wpR_take (i := 6) (v := ?_) (⟨fun _ => rfl, Eq.trans⟩) (some 39) rfl (by kernel_rfl) (by kernel_rfl) (by kernel_rfl) (by kernel_rfl) (by kernel_rfl) (fun _ _ _ h => h) (by kernel_rfl) (fun w' hw' => ?_) ?_
              rotate_left
              · subst hw'; go_simp; with_reducible rfl
              simp only [Act.put, List.setIfInBounds_toArray, List.set_cons_zero, List.set_cons_succ]
              refine wpR_take (i := 7) (v := ?_) (⟨fun _ => rfl, Eq.trans⟩) (some 40) rfl (by kernel_rfl) (by kernel_rfl) (by kernel_rfl) (by kernel_rfl) (by kernel_rfl) (fun _ _ _ h => h) (by kernel_rfl) (fun w' hw' => ?_) ?_
              rotate_left
              · go_simp; with_reducible rfl
              simp only [Act.put, List.setIfInBounds_toArray, List.set_cons_zero, List.set_cons_succ]
              refine wpR_take (i := 8) (v := ?_) (⟨fun _ => rfl, Eq.trans⟩) (some 41) rfl (by kernel_rfl) (by kernel_rfl) (by kernel_rfl) (by kernel_rfl) (by kernel_rfl) (fun _ _ _ h => h) (by kernel_rfl) (fun w' hw' => ?_) ?_
              rotate_left
              · go_simp; with_reducible rfl
              simp only [Act.put, List.setIfInBounds_toArray, List.set_cons_zero, List.set_cons_succ]
              refine wpR_take (i := 9) (v := ?_) (⟨fun _ => rfl, Eq.trans⟩) (some 42) rfl (by kernel_rfl) (by kernel_rfl) (by kernel_rfl) (by kernel_rfl) (by kernel_rfl) (fun _ _ _ h => h) (by kernel_rfl) (fun w' hw' => ?_) ?_
              rotate_left
              · go_simp; with_reducible rfl
              simp only [Act.put, List.setIfInBounds_toArray, List.set_cons_zero, List.set_cons_succ]
              refine wpR_take (i := 10) (v := ?_) (⟨fun _ => rfl, Eq.trans⟩) (some 43) rfl (by kernel_rfl) (by kernel_rfl) (by kernel_rfl) (by kernel_rfl) (by kernel_rfl) (fun _ _ _ h => h) (by kernel_rfl) (fun w' hw' => ?_) ?_
              rotate_left
              · subst hw'; go_simp; with_reducible rfl
              simp only [Act.put, List.setIfInBounds_toArray, List.set_cons_zero, List.set_cons_succ]
              refine wpR_take (i := 11) (v := ?_) (⟨fun _ => rfl, Eq.trans⟩) (some 44) rfl (by kernel_rfl) (by kernel_rfl) (by kernel_rfl) (by kernel_rfl) (by kernel_rfl) (fun _ _ _ h => h) (by kernel_rfl) (fun w' hw' => ?_) ?_
              rotate_left
              · go_simp; with_reducible rfl
              simp only [Act.put, List.setIfInBounds_toArray, List.set_cons_zero, List.set_cons_succ]
              refine wpR_take (i := 12) (v := ?_) (⟨fun _ => rfl, Eq.trans⟩) (some 45) rfl (by kernel_rfl) (by kernel_rfl) (by kernel_rfl) (by kernel_rfl) (by kernel_rfl) (fun _ _ _ h => h) (by kernel_rfl) (fun w' hw' => ?_) ?_
              rotate_left
              · go_simp; with_reducible rfl
              simp only [Act.put, List.setIfInBounds_toArray, List.set_cons_zero, List.set_cons_succ]
              refine wpR_take (i := 13) (v := ?_) (⟨fun _ => rfl, Eq.trans⟩) (some 32) rfl (by kernel_rfl) (by kernel_rfl) (by kernel_rfl) (by kernel_rfl) (by kernel_rfl) (fun _ _ _ h => h) (by kernel_rfl) (fun w' hw' => ?_) ?_
              rotate_left
              · go_simp; with_reducible rfl
              simp only [Act.put, List.setIfInBounds_toArray, List.set_cons_zero, List.set_cons_succ]
              refine wpR_done (by kernel_rfl) ?_ _
              go_wp2_with fail
              go_roundw
              case rel => exact ⟨i + 1, by first | (rw [hstep.out]; done) | (rw [hstep.out]; rfl), by go_num, by omega, hnob, hgd⟩
              case measure => simp [intOf]; omega
    · obtain rfl : i = n := by omega
      have ii : decide ((i : Int) < (i : Int)) = false := decide_eq_false (by omega)
      have hp := hpost.out (.returned (ptrO bd (oldN D i))) wr ⟨.inr ⟨rfl, fun d hd => by
        obtain ⟨j, hj⟩ := List.mem_iff_getElem?.1 hd
        exact hno.out j d (by rw [← hn.out]; exact (List.getElem?_eq_some_iff.1 hj).1) hj⟩, hgr.out⟩
      replace hp := Lib.hid hp
      generalize oldN D i = oo at hp ⊢
      cases oo with
      | none =>
        go_wp2_with fail
        exact hp.out
      | some j0 =>
        go_wp2_with fail
        exact hp.out
end
end Go.Proofs.Ytfjhdcppehfiiaa
