/- The law of blob: any groups joined. -/
import Derived.Test.YtdgkcgiknfjpjaaBl4
namespace Go.Proofs.Ytdgkcgiknfjpjaa
set_option linter.unusedVariables false
set_option linter.unusedSimpArgs false
open Go Go.RowKit
set_option maxHeartbeats 4000000 in
set_option maxRecDepth 20000 in
theorem blobJoins_any (L : List (List UInt8)) (v : Value) (z : Int) (hz : R64 z) (w : World) (hL : Tbl L v w) :
    Calls Try.prog 4 #[v, .int .i64 z] w fun e w' => e = .returned (.bool true) ∧ Gr w w' := by
  have h1 := Lib.hid (join_any z hz w (Lib.hid hL))
  have hT := Lib.hid hL
  obtain ⟨A, c, rfl, -, -, -⟩ := hL
  obtain ⟨n, hn⟩ : ∃ n, L.length = n := ⟨_, rfl⟩
  rw [hn] at h1 hT ⊢
  replace hn := Lib.hid hn
  replace hz := Lib.hid hz
  go_enter Try.func4, Try.ntmps4
  go_wp2_with fail
  refine h1.out.mono ?_
  clear h1
  rintro e w1 hp
  rcases hp with ⟨hj, A1, n1, c1, rfl, hn1, ho1, hg1⟩ | ⟨hj, rfl, hg1⟩
  · have h2 := Lib.hid (rjoin_any z hz.out w1 (Tbl.gr hg1 hT))
    replace hj := Lib.hid hj
    replace hg1 := Lib.hid hg1
    go_wp2_with fail
    refine h2.out.mono ?_
    clear h2
    rintro e w2 hp
    rcases hp with ⟨-, A2, n2, c2, rfl, hn2, ho2, hg2⟩ | ⟨hf, -⟩
    case inr => rw [hj.out] at hf; cases hf
    have ho1' := row_below ho1.out hg2
    replace hg2 := Lib.hid (hg1.out.trans hg2)
    replace ho1' := Lib.hid ho1'
    clear hg1 ho1
    go_wp2_with fail
    refine (awake18_any _).mono ?_
    rintro e w3 ⟨rfl, hg3⟩
    have hb1 : OB w3 w.heap.size (.slice A1 n1 c1) (joinV L z) := row_below ho1'.out hg3
    have hb2 : OB w3 w1.heap.size (.slice A2 n2 c2) (joinV L z) := row_below ho2.out hg3
    have cv1 := run_str_at c1 hb1.rd.1 hb1.len_
    have cv2 := run_str_at c2 hb2.rd.1 hb2.len_
    replace hg3 := Lib.hid (hg2.out.trans hg3)
    obtain ⟨J, hJ⟩ : ∃ J, joinV L z = J := ⟨_, rfl⟩
    rw [hJ] at cv1 cv2
    clear hb1 hb2 hg2 ho1' ho2 hJ
    go_wp2_with fail
    go_ret
    exact ⟨rfl, hg3.out⟩
  · have h2 := Lib.hid (rjoin_any z hz.out w1 (Tbl.gr hg1 hT))
    replace hj := Lib.hid hj
    replace hg1 := Lib.hid hg1
    go_wp2_with fail
    refine h2.out.mono ?_
    clear h2
    rintro e w2 hp
    rcases hp with ⟨hf, -⟩ | ⟨-, rfl, hg2⟩
    case inl => rw [hj.out] at hf; cases hf
    replace hg2 := Lib.hid (hg1.out.trans hg2)
    clear hg1
    go_wp2_with fail
    refine (awake18_any _).mono ?_
    rintro e w3 ⟨rfl, hg3⟩
    have cv1 := run_str_at (w := w3) (B := w3.heap.size) (n := 0) (A := none) (l := []) 0 Rd.nil_ rfl
    replace hg3 := Lib.hid (hg2.out.trans hg3)
    go_wp2_with fail
    go_ret
    exact ⟨rfl, hg3.out⟩
end Go.Proofs.Ytdgkcgiknfjpjaa
