/- lib: the library in memory; Carts, Drives, Cart, drive, Working, Drive, holder. -/
import Derived.Test.YtfjhdcppehfiiaaTyp
import Derived.Test.YtfjhdcppehfiiaaReg2
import Derived.Deep.DeepCutAuto
import Derived.LoopTactic
import Derived.WalkSpells
namespace Go.Proofs.Ytfjhdcppehfiiaa
set_option linter.unusedVariables false
set_option linter.unusedSimpArgs false
open Go Go.RowKit
/-- a drive -/
structure Dr where
  broken : Bool
  cart : Int
  pos : Int
  named : Int
def encD (d : Dr) : List Value := [.bool d.broken, .int .i64 d.cart, .int .i64 d.pos, .int .i64 d.named]
def flatD (l : List Dr) : List Value := l.flatMap encD
theorem flatD_len (l : List Dr) : (flatD l).length = l.length * 4 := by
  induction l with
  | nil => rfl
  | cons d l ih => unfold flatD at ih ⊢; rw [List.flatMap_cons, List.length_append, ih, List.length_cons]; show 4 + _ = _; omega
theorem flatD_app (l m : List Dr) : flatD (l ++ m) = flatD l ++ flatD m := by simp [flatD]
theorem flatD_at {l : List Dr} {i : Nat} {d : Dr} (h : l[i]? = some d) : (flatD l)[i * 4]? = some (.bool d.broken) ∧ (flatD l)[i * 4 + 1]? = some (.int .i64 d.cart) ∧ (flatD l)[i * 4 + 2]? = some (.int .i64 d.pos) ∧ (flatD l)[i * 4 + 3]? = some (.int .i64 d.named) := by
  obtain ⟨hl, rfl⟩ := List.getElem?_eq_some_iff.1 h
  have h1 : l = l.take i ++ l[i] :: l.drop (i + 1) := by rw [← List.drop_eq_getElem_cons hl, List.take_append_drop]
  have h2 : flatD l = flatD (l.take i) ++ (encD l[i] ++ flatD (l.drop (i + 1))) := by
    have := congrArg flatD h1
    rw [flatD_app] at this
    exact this
  have h3 : (flatD (l.take i)).length = i * 4 := by rw [flatD_len, List.length_take]; omega
  rw [h2]
  refine ⟨?_, ?_, ?_, ?_⟩
  · rw [List.getElem?_append_right (by omega), h3, Nat.sub_self]; rfl
  · rw [List.getElem?_append_right (by omega), h3, show i * 4 + 1 - i * 4 = 1 from by omega]; rfl
  · rw [List.getElem?_append_right (by omega), h3, show i * 4 + 2 - i * 4 = 2 from by omega]; rfl
  · rw [List.getElem?_append_right (by omega), h3, show i * 4 + 3 - i * 4 = 3 from by omega]; rfl
/-- block g is a library: its cartridges' blocks C, its drives D -/
structure Lb (w : World) (lo g : Nat) (vc vd : Value) (C : List Nat) (D : List Dr) (calls : Nat) : Prop where
  blk : w.heap[g]? = some (.cells #[vc, vd, .int .i64 calls] 57 (0, 0))
  lg : lo ≤ g
  carts : w.ownsRow lo 27 1 vc C.length (C.map (fun b => .pointer (some ⟨b, 0, none⟩)))
  drives : w.ownsRow lo 59 4 vd D.length (flatD D)
  lc : C.length ≤ 32
  ld : D.length ≤ 4
/-- what the library itself may turn -/
abbrev lts : List TypeId := [57, 27, 59]
theorem Lb.tchg {w w' : World} {lo g : Nat} {vc vd : Value} {C : List Nat} {D : List Dr} {calls lo' : Nat} {ts : List TypeId} (h : Lb w lo g vc vd C D calls) (hc : TChg lo' ts w w') (h1 : ∀ t ∈ lts, t ∉ ts) : Lb w' lo g vc vd C D calls where
  blk := hc.block h.blk (h1 _ (by simp))
  lg := h.lg
  carts := row_tchg h.carts hc (h1 _ (by simp))
  drives := row_tchg h.drives hc (h1 _ (by simp))
  lc := h.lc
  ld := h.ld
theorem Lb.gr {w w' : World} {lo g : Nat} {vc vd : Value} {C : List Nat} {D : List Dr} {calls : Nat} (hg : Below w.heap.size w w') (h : Hid (Lb w lo g vc vd C D calls)) : Hid (Lb w' lo g vc vd C D calls) := Lib.hid (h.out.tchg (lo' := 0) (ts := []) (TChg.of_below hg) (by simp))
theorem Lb.form {w : World} {lo g : Nat} {vc vd : Value} {C : List Nat} {D : List Dr} {calls : Nat} (h : Lb w lo g vc vd C D calls) : ∃ Ac cc Ad cd, vc = .slice Ac C.length cc ∧ vd = .slice Ad D.length cd := by
  obtain ⟨Ac, cc, e1, -, -⟩ := row_form h.carts
  obtain ⟨Ad, cd, e2, -, -⟩ := row_form h.drives
  exact ⟨Ac, cc, Ad, cd, e1, e2⟩
theorem Lb.cartAt {w : World} {lo g n cc calls i b : Nat} {Ac : Option Addr} {vd : Value} {C : List Nat} {D : List Dr} (h : Lb w lo g (.slice Ac n cc) vd C D calls) (hb : C[i]? = some b) : ∃ bc, Ac = some ⟨bc, 0, none⟩ ∧ w.cell? ⟨bc, i, none⟩ = some (.pointer (some ⟨b, 0, none⟩)) := by
  obtain ⟨bc, c, e, -, -, -, -, -, -, hc, -⟩ := row_at h.carts (by have := (List.getElem?_eq_some_iff.1 hb).1; omega)
  injection e with e _ _
  exact ⟨bc, e, hc i _ (by rw [List.getElem?_map, hb]; rfl)⟩
theorem Lb.driveAt {w : World} {lo g n cd calls : Nat} {Ad : Option Addr} {vc : Value} {C : List Nat} {D : List Dr} (h : Lb w lo g vc (.slice Ad n cd) C D calls) (hn : 0 < D.length) : ∃ bd, Ad = some ⟨bd, 0, none⟩ ∧ bd < w.heap.size ∧ lo ≤ bd ∧ ∀ i d, D[i]? = some d → w.cell? ⟨bd, i * 4, none⟩ = some (.bool d.broken) ∧ w.cell? ⟨bd, i * 4 + 1, none⟩ = some (.int .i64 d.cart) ∧ w.cell? ⟨bd, i * 4 + 2, none⟩ = some (.int .i64 d.pos) ∧ w.cell? ⟨bd, i * 4 + 3, none⟩ = some (.int .i64 d.named) := by
  obtain ⟨bd, c, e, -, -, hlo, hlt, -, -, hc, -⟩ := row_at h.drives hn
  injection e with e _ _
  refine ⟨bd, e, hlt, hlo, fun i d hd => ?_⟩
  obtain ⟨a1, a2, a3, a4⟩ := flatD_at hd
  exact ⟨hc _ _ a1, hc _ _ a2, hc _ _ a3, hc _ _ a4⟩
section
variable (lo g : Nat) (vc vd : Value) (C : List Nat) (D : List Dr) (calls : Nat) (w : World) (h : Hid (Lb w lo g vc vd C D calls))
include h
set_option maxRecDepth 10000 in
theorem carts_any : Calls Try.prog 8 #[.pointer (some ⟨g, 0, none⟩)] w fun e w' => e = .returned (.int .i64 C.length) ∧ w' = w := by
  obtain ⟨Ac, cc, Ad, cd, rfl, rfl⟩ := h.out.form
  have c0 := blk_cell (j := 0) h.out.blk rfl
  generalize C.length = n at *
  clear h
  go_enter Try.func8, Try.ntmps8
  go_wp2_with fail
  go_ret
  exact ⟨rfl, rfl⟩
set_option maxRecDepth 10000 in
theorem drives_any : Calls Try.prog 16 #[.pointer (some ⟨g, 0, none⟩)] w fun e w' => e = .returned (.int .i64 D.length) ∧ w' = w := by
  obtain ⟨Ac, cc, Ad, cd, rfl, rfl⟩ := h.out.form
  have c0 := blk_cell (j := 1) h.out.blk rfl
  generalize D.length = n at *
  clear h
  go_enter Try.func16, Try.ntmps16
  go_wp2_with fail
  go_ret
  exact ⟨rfl, rfl⟩
set_option maxRecDepth 10000 in
theorem cart_no (z : Int) (hz : z < 0 ∨ (C.length : Int) ≤ z) : Calls Try.prog 11 #[.pointer (some ⟨g, 0, none⟩), .int .i64 z] w fun e w' => e = .returned (.pointer none) ∧ w' = w := by
  obtain ⟨Ac, cc, Ad, cd, rfl, rfl⟩ := h.out.form
  have c0 := blk_cell (j := 0) h.out.blk rfl
  obtain ⟨n, hn⟩ : ∃ n, C.length = n := ⟨_, rfl⟩
  rw [hn] at c0 hz h
  replace hn := Lib.hid hn
  clear h
  by_cases h1 : z < 0
  · clear hz
    go_enter Try.func11, Try.ntmps11
    go_wp2_with fail
    go_ret
    exact ⟨rfl, rfl⟩
  · have i1 : decide (z < 0) = false := decide_eq_false h1
    have i2 : (n : Int) ≤ z := by omega
    clear hz h1
    go_enter Try.func11, Try.ntmps11
    go_wp2_with fail
    go_ret
    exact ⟨rfl, rfl⟩
set_option maxRecDepth 10000 in
theorem cart_yes (i b : Nat) (hb : C[i]? = some b) : Calls Try.prog 11 #[.pointer (some ⟨g, 0, none⟩), .int .i64 i] w fun e w' => e = .returned (.pointer (some ⟨b, 0, none⟩)) ∧ w' = w := by
  obtain ⟨Ac, cc, Ad, cd, rfl, rfl⟩ := h.out.form
  have c0 := blk_cell (j := 0) h.out.blk rfl
  obtain ⟨n, hn⟩ : ∃ n, C.length = n := ⟨_, rfl⟩
  have hin : i < n := by rw [← hn]; exact (List.getElem?_eq_some_iff.1 hb).1
  obtain ⟨bc, rfl, hc⟩ := h.out.cartAt hb
  rw [hn] at c0 h
  replace hn := Lib.hid hn
  replace hb := Lib.hid hb
  have i1 : decide ((i : Int) < 0) = false := decide_eq_false (by omega)
  have i2 : decide ((n : Int) ≤ (i : Int)) = false := decide_eq_false (by omega)
  have i3 : (i : Int) < (n : Int) := by omega
  have i4 : (0 : Int) ≤ (i : Int) := by omega
  clear h
  go_enter Try.func11, Try.ntmps11
  go_wp2_with fail
  go_ret
  exact ⟨rfl, rfl⟩
set_option maxRecDepth 10000 in
theorem drive_no (z : Int) (hz : z < 0 ∨ (D.length : Int) ≤ z) : Calls Try.prog 32 #[.pointer (some ⟨g, 0, none⟩), .int .i64 z] w fun e w' => e = .returned (.pointer none) ∧ w' = w := by
  obtain ⟨Ac, cc, Ad, cd, rfl, rfl⟩ := h.out.form
  have c0 := blk_cell (j := 1) h.out.blk rfl
  obtain ⟨n, hn⟩ : ∃ n, D.length = n := ⟨_, rfl⟩
  rw [hn] at c0 hz h
  replace hn := Lib.hid hn
  clear h
  by_cases h1 : z < 0
  · clear hz
    go_enter Try.func32, Try.ntmps32
    go_wp2_with fail
    go_ret
    exact ⟨rfl, rfl⟩
  · have i1 : decide (z < 0) = false := decide_eq_false h1
    have i2 : (n : Int) ≤ z := by omega
    clear hz h1
    go_enter Try.func32, Try.ntmps32
    go_wp2_with fail
    go_ret
    exact ⟨rfl, rfl⟩
set_option maxRecDepth 10000 in
theorem drive_yes (i : Nat) (hi : i < D.length) : Calls Try.prog 32 #[.pointer (some ⟨g, 0, none⟩), .int .i64 i] w fun e w' => (∃ bd cd, vd = .slice (some ⟨bd, 0, none⟩) D.length cd ∧ e = .returned (.pointer (some ⟨bd, i * 4, none⟩))) ∧ w' = w := by
  obtain ⟨Ac, cc, Ad, cd, rfl, rfl⟩ := h.out.form
  have c0 := blk_cell (j := 1) h.out.blk rfl
  obtain ⟨bd, rfl, -, -, -⟩ := h.out.driveAt (by omega)
  obtain ⟨n, hn⟩ : ∃ n, D.length = n := ⟨_, rfl⟩
  rw [hn] at c0 h hi ⊢
  replace hn := Lib.hid hn
  have i1 : decide ((i : Int) < 0) = false := decide_eq_false (by omega)
  have i2 : decide ((n : Int) ≤ (i : Int)) = false := decide_eq_false (by omega)
  have i3 : (i : Int) < (n : Int) := by omega
  have i4 : (0 : Int) ≤ (i : Int) := by omega
  clear h
  go_enter Try.func32, Try.ntmps32
  go_wp2_with fail
  go_ret
  exact ⟨⟨bd, cd, rfl, rfl⟩, rfl⟩
end
end Go.Proofs.Ytfjhdcppehfiiaa
