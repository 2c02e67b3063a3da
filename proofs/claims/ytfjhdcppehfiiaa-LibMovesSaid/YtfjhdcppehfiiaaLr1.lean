/- lib: the reference's library in memory; Is, With, takes. -/
import Derived.Test.YtfjhdcppehfiiaaRfO
import Derived.Test.YtfjhdcppehfiiaaLb11
namespace Go.Proofs.Ytfjhdcppehfiiaa
set_option linter.unusedVariables false
set_option linter.unusedSimpArgs false
open Go Go.RowKit
/-- a drive of the reference -/
structure RD where
  cart : Int
  pos : Int
  works : Bool
def encR (d : RD) : List Value := [.int .i64 d.cart, .int .i64 d.pos, .bool d.works]
def flatR (l : List RD) : List Value := l.flatMap encR
theorem flatR_len (l : List RD) : (flatR l).length = l.length * 3 := by
  induction l with
  | nil => rfl
  | cons d l ih => unfold flatR at ih ⊢; rw [List.flatMap_cons, List.length_append, ih, List.length_cons]; show 3 + _ = _; omega
theorem flatR_app (l m : List RD) : flatR (l ++ m) = flatR l ++ flatR m := by simp [flatR]
theorem flatR_parts {l : List RD} {i : Nat} {d : RD} (h : l[i]? = some d) : flatR l = flatR (l.take i) ++ (encR d ++ flatR (l.drop (i + 1))) ∧ (flatR (l.take i)).length = i * 3 := by
  obtain ⟨hl, rfl⟩ := List.getElem?_eq_some_iff.1 h
  have h1 : l = l.take i ++ l[i] :: l.drop (i + 1) := by rw [← List.drop_eq_getElem_cons hl, List.take_append_drop]
  refine ⟨?_, by rw [flatR_len, List.length_take]; omega⟩
  have := congrArg flatR h1
  rw [flatR_app] at this
  exact this
theorem flatR_at {l : List RD} {i : Nat} {d : RD} (h : l[i]? = some d) : (flatR l)[i * 3]? = some (.int .i64 d.cart) ∧ (flatR l)[i * 3 + 1]? = some (.int .i64 d.pos) ∧ (flatR l)[i * 3 + 2]? = some (.bool d.works) := by
  obtain ⟨h2, h3⟩ := flatR_parts h
  rw [h2]
  refine ⟨?_, ?_, ?_⟩
  · rw [List.getElem?_append_right (by omega), h3, Nat.sub_self]; rfl
  · rw [List.getElem?_append_right (by omega), h3, show i * 3 + 1 - i * 3 = 1 from by omega]; rfl
  · rw [List.getElem?_append_right (by omega), h3, show i * 3 + 2 - i * 3 = 2 from by omega]; rfl
theorem flatR_set {l : List RD} {i : Nat} {d d' : RD} (h : l[i]? = some d) : flatR (l.set i d') = (((flatR l).set (i * 3) (.int .i64 d'.cart)).set (i * 3 + 1) (.int .i64 d'.pos)).set (i * 3 + 2) (.bool d'.works) := by
  obtain ⟨h2, h3⟩ := flatR_parts h
  have hl := (List.getElem?_eq_some_iff.1 h).1
  have h4 : (l.set i d')[i]? = some d' := List.getElem?_set_self hl
  obtain ⟨h5, -⟩ := flatR_parts h4
  rw [h5, h2, List.take_set_of_le (Nat.le_refl _), List.drop_set_of_lt (by omega)]
  simp [List.set_append_right, h3, encR]
/-- block g is the reference's library: its cartridges' blocks C, its drives D, the drives asked for L -/
structure Lr (w : World) (lo g : Nat) (vc vd va : Value) (C : List Nat) (D : List RD) (L : List Nat) : Prop where
  blk : w.heap[g]? = some (.cells #[vc, vd, va] 80 (0, 0))
  lg : lo ≤ g
  carts : w.ownsRow lo 82 1 vc C.length (C.map (fun b => .pointer (some ⟨b, 0, none⟩)))
  drives : w.ownsRow lo 85 3 vd D.length (flatR D)
  asked : w.ownsRow lo 3 1 va L.length (L.map (fun k => Value.int .i64 (k : Nat)))
  lc : C.length ≤ 32
  ld : D.length ≤ 4
  la : ∀ k ∈ L, k < D.length
abbrev rlts : List TypeId := [80, 82, 85, 3]
section
variable {w w' : World} {lo g : Nat} {vc vd va : Value} {C : List Nat} {D : List RD} {L : List Nat}
theorem Lr.tchg {lo' : Nat} {ts : List TypeId} (h : Lr w lo g vc vd va C D L) (hc : TChg lo' ts w w') (h1 : ∀ t ∈ rlts, t ∉ ts) : Lr w' lo g vc vd va C D L where
  blk := hc.block h.blk (h1 _ (by simp))
  lg := h.lg
  carts := row_tchg h.carts hc (h1 _ (by simp))
  drives := row_tchg h.drives hc (h1 _ (by simp))
  asked := row_tchg h.asked hc (h1 _ (by simp))
  lc := h.lc
  ld := h.ld
  la := h.la
theorem Lr.gr (hg : Below w.heap.size w w') (h : Hid (Lr w lo g vc vd va C D L)) : Hid (Lr w' lo g vc vd va C D L) := Lib.hid (h.out.tchg (lo' := 0) (ts := []) (TChg.of_below hg) (by simp))
theorem Lr.form (h : Lr w lo g vc vd va C D L) : ∃ Ac cc Ad cd Aa ca, vc = .slice Ac C.length cc ∧ vd = .slice Ad D.length cd ∧ va = .slice Aa L.length ca := by
  obtain ⟨Ac, cc, e1, -, -⟩ := row_form h.carts
  obtain ⟨Ad, cd, e2, -, -⟩ := row_form h.drives
  obtain ⟨Aa, ca, e3, -, -⟩ := row_form h.asked
  exact ⟨Ac, cc, Ad, cd, Aa, ca, e1, e2, e3⟩
theorem Lr.cartAt {n cc i b : Nat} {Ac : Option Addr} (h : Lr w lo g (.slice Ac n cc) vd va C D L) (hb : C[i]? = some b) : ∃ bc, Ac = some ⟨bc, 0, none⟩ ∧ w.cell? ⟨bc, i, none⟩ = some (.pointer (some ⟨b, 0, none⟩)) := by
  obtain ⟨bc, c, e, -, -, -, -, -, -, hc, -⟩ := row_at h.carts (by have := (List.getElem?_eq_some_iff.1 hb).1; omega)
  injection e with e _ _
  exact ⟨bc, e, hc i _ (by rw [List.getElem?_map, hb]; rfl)⟩
theorem Lr.askAt {n cc i k : Nat} {Aa : Option Addr} (h : Lr w lo g vc vd (.slice Aa n cc) C D L) (hb : L[i]? = some k) : ∃ bc, Aa = some ⟨bc, 0, none⟩ ∧ bc < w.heap.size ∧ w.cell? ⟨bc, i, none⟩ = some (.int .i64 k) := by
  obtain ⟨bc, c, e, -, -, -, hlt, -, -, hc, -⟩ := row_at h.asked (by have := (List.getElem?_eq_some_iff.1 hb).1; omega)
  injection e with e _ _
  exact ⟨bc, e, hlt, hc i _ (by rw [List.getElem?_map, hb]; rfl)⟩
theorem Lr.driveAt {n cd : Nat} {Ad : Option Addr} (h : Lr w lo g vc (.slice Ad n cd) va C D L) (hn : 0 < D.length) : ∃ bd, Ad = some ⟨bd, 0, none⟩ ∧ bd < w.heap.size ∧ lo ≤ bd ∧ ∀ i d, D[i]? = some d → w.cell? ⟨bd, i * 3, none⟩ = some (.int .i64 d.cart) ∧ w.cell? ⟨bd, i * 3 + 1, none⟩ = some (.int .i64 d.pos) ∧ w.cell? ⟨bd, i * 3 + 2, none⟩ = some (.bool d.works) := by
  obtain ⟨bd, c, e, -, -, hlo, hlt, -, -, hc, -⟩ := row_at h.drives hn
  injection e with e _ _
  refine ⟨bd, e, hlt, hlo, fun i d hd => ?_⟩
  obtain ⟨a1, a2, a3⟩ := flatR_at hd
  exact ⟨hc _ _ a1, hc _ _ a2, hc _ _ a3⟩
end
section
variable (lo g : Nat) (vc vd va : Value) (C : List Nat) (D : List RD) (L : List Nat) (w : World) (h : Hid (Lr w lo g vc vd va C D L))
include h
set_option maxRecDepth 10000 in
theorem ris_any (z : Int) : Calls Try.prog 40 #[.pointer (some ⟨g, 0, none⟩), .int .i64 z] w fun e w' => e = .returned (.bool (decide (0 ≤ z ∧ z < C.length))) ∧ w' = w := by
  obtain ⟨Ac, cc, Ad, cd, Aa, ca, rfl, rfl, rfl⟩ := h.out.form
  have c0 := blk_cell (j := 0) h.out.blk rfl
  generalize C.length = n at *
  clear h
  by_cases h0 : 0 ≤ z
  · by_cases h1 : z < n
    · have i1 : decide (0 ≤ z ∧ z < n) = true := decide_eq_true ⟨h0, h1⟩
      rw [i1]
      go_enter Try.func40, Try.ntmps40
      go_wp2_with fail
      go_ret
      exact ⟨rfl, rfl⟩
    · have i1 : decide (0 ≤ z ∧ z < n) = false := decide_eq_false (by omega)
      have i2 : decide (z < n) = false := decide_eq_false h1
      rw [i1]
      go_enter Try.func40, Try.ntmps40
      go_wp2_with fail
      go_ret
      exact ⟨rfl, rfl⟩
  · have i1 : decide (0 ≤ z ∧ z < n) = false := decide_eq_false (by omega)
    have i2 : decide (0 ≤ z) = false := decide_eq_false h0
    rw [i1]
    go_enter Try.func40, Try.ntmps40
    go_wp2_with fail
    go_ret
    exact ⟨rfl, rfl⟩
set_option maxHeartbeats 1000000 in
set_option maxRecDepth 10000 in
theorem rwith_any (z : Int) : Calls Try.prog 52 #[.pointer (some ⟨g, 0, none⟩), .int .i64 z] w fun e w' => (e = .returned (.int .i64 (-1)) ∨ ∃ i : Nat, e = .returned (.int .i64 i) ∧ i < D.length) ∧ w' = w := by
  obtain ⟨Ac, cc, Ad, cd, Aa, ca, rfl, rfl, rfl⟩ := h.out.form
  have c1 := blk_cell (j := 1) h.out.blk rfl
  obtain ⟨n, hn⟩ : ∃ n, D.length = n := ⟨_, rfl⟩
  have hn4 : n ≤ 4 := by rw [← hn]; exact h.out.ld
  rw [hn] at c1
  have h' := h.out
  rw [hn] at h' ⊢
  replace h := Lib.hid h'
  replace hn := Lib.hid hn
  clear h'
  go_enter Try.func52, Try.ntmps52
  go_wp2_with fail
  go_loopw [5] (fun q wr => ∃ i : Nat, q = .int .i64 i ∧ i ≤ n ∧ wr = w) (fun q _ => n - (intOf q).toNat)
  case atStart => exact ⟨0, rfl, Nat.zero_le _, rfl⟩
  case round =>
    obtain ⟨i, rfl, hi, rfl⟩ := hrel
    by_cases hlt : i < n
    · have ii : (i : Int) < (n : Int) := by omega
      have iip : (0 : Int) ≤ (i : Int) := by omega
      obtain ⟨bd, rfl, -, -, hc⟩ := h.out.driveAt (by rw [hn.out]; omega)
      obtain ⟨d, hd⟩ : ∃ d, D[i]? = some d := ⟨_, List.getElem?_eq_getElem (by rw [hn.out]; exact hlt)⟩
      obtain ⟨a1, -, a3⟩ := hc i d hd
      obtain ⟨c, p, wk⟩ := d
      replace hd := Lib.hid hd
      clear hc
      simp only at a1 a3
      cases wk with
      | true =>
        by_cases hz : c = z
        · subst hz
          go_wp2_with fail
          go_ret
          exact ⟨.inr ⟨i, rfl, hlt⟩, rfl⟩
        · have hzb : (c == z) = false := beq_false_of_ne hz
          replace hz := Lib.hid hz
          go_wp2_with fail
          go_roundw
          case rel => exact ⟨i + 1, by go_num, by omega, by trivial⟩
          case measure => simp [intOf]; omega
      | false =>
        go_wp2_with fail
        go_roundw
        case rel => exact ⟨i + 1, by go_num, by omega, by trivial⟩
        case measure => simp [intOf]; omega
    · obtain rfl : i = n := by omega
      have ii : decide ((i : Int) < (i : Int)) = false := decide_eq_false (by omega)
      go_wp2_with fail
      go_ret
      exact ⟨.inl rfl, rfl⟩
end
end Go.Proofs.Ytfjhdcppehfiiaa
