/- The laws of queue: the fixed fact, no queue. -/
import Derived.Test.YtppclmidnomkjabQueue6
namespace Go.Proofs.Ytppclmidnomkjab
set_option linter.unusedVariables false
set_option linter.unusedSimpArgs false
open Go Go.RowKit
theorem below_dn {B : Nat} {w w' : World} (h : Below B w w') (n : Nat) : Below B w (w'.drewN n) := ⟨h.os, h.tape, h.output, h.size, h.block⟩
theorem Qu.from_ {w w' w0 : World} {lo g most : Nat} {v : Value} {l : List AskR} (h : Qu w lo g v l most) (hu : Upd (QS g v) w w') (hb : Below w0.heap.size w0 w) (hl : w0.heap.size ≤ lo) : Below w0.heap.size w0 w' := hb.trans ((h.frame hu).mono hl)
theorem qw0 : (min (max 2 0) 4096 : Int).toNat = 2 := rfl
def qa : AskR := ⟨1, 0, 0, 0, 0, 0⟩
def qb : AskR := ⟨2, 0, 0, 0, 7, 0⟩
def qc : AskR := ⟨3, 0, 0, 0, 0, 0⟩
theorem qa_ok : qa.Ok := by unfold qa AskR.Ok I64; decide
theorem qb_ok : qb.Ok := by unfold qb AskR.Ok I64; decide
theorem qd_ok : ask0.Ok := by unfold ask0 AskR.Ok I64; decide
theorem qw1 : fil 1 ([] ++ [qa] ++ [qb]) = [qb] := by simp [fil, qa, qb]
set_option maxHeartbeats 2000000 in
set_option maxRecDepth 10000 in
theorem awake15_any (w : World) :
    Calls Try.prog 24 #[] w fun e w' => e = .returned (.bool true) ∧ Below w.heap.size w w' := by
  go_enter Try.func24, Try.ntmps24
  go_wp2_with fail
  refine (qnew_any 2 (by unfold I64; decide) w).mono ?_
  rw [qw0]
  rintro e w1 ⟨rfl, h1, hb1⟩
  obtain ⟨lo, hlo⟩ : ∃ lo, lo = w.heap.size := ⟨_, rfl⟩
  rw [← hlo] at h1
  rw [← hlo]
  have hl : w.heap.size ≤ lo := by omega
  replace hlo := Lib.hid hlo
  replace h1 := Lib.hid h1
  replace hb1 := Lib.hid hb1
  go_wp2_with fail
  refine (qpush_ok lo lo _ [] 2 qa qa_ok (by decide) _ h1.out).mono ?_
  rintro e w2 ⟨rfl, v2, h2, -, hu⟩
  have hb2 := Lib.hid (h1.out.from_ hu hb1.out hl)
  replace h2 := Lib.hid h2
  clear hu h1 hb1
  go_wp2_with fail
  refine (qpush_ok lo lo v2 _ 2 qb qb_ok (by decide) _ h2.out).mono ?_
  rintro e w3 ⟨rfl, v3, h3, -, hu⟩
  have hb3 := Lib.hid (h2.out.from_ hu hb2.out hl)
  replace h3 := Lib.hid h3
  clear hu h2 hb2
  go_wp2_with fail
  refine (qpush_full lo lo v3 _ 2 qc (by decide) _ h3.out).mono ?_
  rintro e w4 ⟨rfl, hbb⟩
  have hb4 := Lib.hid (hb3.out.trans (hbb.mono hb3.out.size))
  have h4 := Lib.hid (h3.out.below hbb)
  clear hbb h3 hb3
  go_wp2_with fail
  refine (qdrop_any lo lo 1 v3 _ 2 _ h4.out).mono ?_
  rw [qw1]
  rintro e w5 ⟨rfl, v5, h5, -, hu⟩
  have hb5 := Lib.hid (h4.out.from_ hu hb4.out hl)
  replace h5 := Lib.hid h5
  clear hu h4 hb4
  go_wp2_with fail
  refine (qtake_some lo lo v5 [qb] 2 0 qb rfl _ h5.out).mono ?_
  unfold AskR.agg qb
  rintro e w6 ⟨rfl, v6, h6, -, hu⟩
  have hb6 := Lib.hid (h5.out.from_ hu hb5.out hl)
  replace h6 := Lib.hid (show Qu w6 lo lo v6 [] 2 from h6)
  clear hu h5 hb5
  have hb7 : Hid (Below w.heap.size w (w6.alloc (.cells #[.int .i64 2, .int .i64 0, .int .i64 0, .int .i64 0, .int .i64 7, .int .i64 0] 28))) := Lib.hid (hb6.out.alloc hb6.out.size _)
  have h7 := Lib.hid (h6.out.below ((Below.refl _ _).alloc (Nat.le_refl _) (.cells #[.int .i64 2, .int .i64 0, .int .i64 0, .int .i64 0, .int .i64 7, .int .i64 0] 28)))
  go_wp2_with fail
  refine (qlen_any lo lo v6 [] 2 _ h7.out).mono ?_
  rintro e w8 ⟨rfl, rfl⟩
  go_wp2
  go_ret
  exact ⟨rfl, hb7.out⟩
end Go.Proofs.Ytppclmidnomkjab
