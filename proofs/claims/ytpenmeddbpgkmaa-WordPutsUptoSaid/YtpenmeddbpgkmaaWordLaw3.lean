/- The laws of word: WordPuts. -/
import Derived.Test.YtpenmeddbpgkmaaWordLaw
import Derived.Deep.RegionWith
namespace Go.Proofs.Ytpenmeddbpgkmaa
set_option linter.unusedVariables false
open Go Go.RowKit

set_option maxHeartbeats 8000000 in
set_option maxRecDepth 10000 in
theorem wordPuts_walk (A : Option Addr) (k c : Nat) (l : List UInt8) (hk : l.length = k) (hl : k ≤ 1000000000) (n : Int) (hn : -9223372036854775808 ≤ n ∧ n ≤ 9223372036854775807) (m : List UInt8) (hm : m.length ≤ 1000000000) (w : World) (hr : Rd w w.heap.size A l) :
    Calls Try.prog 11 #[.slice A k c, .int .i64 n, .string (bs m)] w fun e w' => e = .returned (.bool true) ∧ Below w.heap.size w w' := by
  obtain ⟨lp, hlp⟩ : ∃ lp, l ++ enc n.toNat = lp := ⟨_, rfl⟩
  obtain ⟨lt, hlt⟩ : ∃ lt, (l ++ enc m.length) ++ m = lt := ⟨_, rfl⟩
  have hb0 := Lib.hid (Below.refl w.heap.size w).drew
  replace hr : Hid (Rd w.drew w.drew.heap.size A l) := hr
  replace hk := Lib.hid hk
  replace hlp := Lib.hid hlp
  replace hlt := Lib.hid hlt
  go_enter Try.func11, Try.ntmps11
  go_upto_region 1 with (fail)
  go_region_with (first
    | (go_at_call 26; refine (awake_any _).mono ?_; rintro e w1 ⟨rfl, hb1⟩; replace hb0 := Lib.hid (hb0.out.trans (hb1.mono hb0.out.size)); replace hr := Lib.hid (hr.out.up hb1); clear hb1)
    | (go_at_call 27; refine (put_any A k c l hk.out n hn.1 hn.2 (by omega) _ hr.out).mono ?_; rw [hlp.out]; rintro e w1 ⟨v1, rfl, ho1, hb1⟩; obtain ⟨Ap, cp, rfl, -, -, hR1, -⟩ := ho1.form; clear ho1; replace hb0 := Lib.hid (hb0.out.trans (hb1.mono hb0.out.size)); replace hr := Lib.hid (hr.out.up hb1); have hRp := Lib.hid hR1; have hcp := run_str_at (n := lp.length) cp hR1 rfl;  (try (replace hRq := Lib.hid (hRq.out.up hb1); replace hcq := run_str_at (n := lp.length) cq hRq.out rfl));  (try (replace hRt := Lib.hid (hRt.out.up hb1); replace hct := run_str_at (n := lt.length) ct hRt.out rfl));  (try (replace hRu := Lib.hid (hRu.out.up hb1); replace hcu := run_str_at (n := lt.length) cu hRu.out rfl)); clear hb1 hR1)
    | (go_at_call 28; refine (rput_any A k c l hk.out n hn.1 hn.2 (by omega) _ hr.out).mono ?_; rw [hlp.out]; rintro e w1 ⟨v1, rfl, ho1, hb1⟩; obtain ⟨Aq, cq, rfl, -, -, hR1, -⟩ := ho1.form; clear ho1; replace hb0 := Lib.hid (hb0.out.trans (hb1.mono hb0.out.size)); replace hr := Lib.hid (hr.out.up hb1); (try (replace hRp := Lib.hid (hRp.out.up hb1); replace hcp := run_str_at (n := lp.length) cp hRp.out rfl));  have hRq := Lib.hid hR1; have hcq := run_str_at (n := lp.length) cq hR1 rfl;  (try (replace hRt := Lib.hid (hRt.out.up hb1); replace hct := run_str_at (n := lt.length) ct hRt.out rfl));  (try (replace hRu := Lib.hid (hRu.out.up hb1); replace hcu := run_str_at (n := lt.length) cu hRu.out rfl)); clear hb1 hR1)
    | (go_at_call 29; refine (text_any A k c l hk.out m (by omega) _ hr.out).mono ?_; rw [hlt.out]; rintro e w1 ⟨v1, rfl, ho1, hb1⟩; obtain ⟨At, ct, rfl, -, -, hR1, -⟩ := ho1.form; clear ho1; replace hb0 := Lib.hid (hb0.out.trans (hb1.mono hb0.out.size)); replace hr := Lib.hid (hr.out.up hb1); (try (replace hRp := Lib.hid (hRp.out.up hb1); replace hcp := run_str_at (n := lp.length) cp hRp.out rfl));  (try (replace hRq := Lib.hid (hRq.out.up hb1); replace hcq := run_str_at (n := lp.length) cq hRq.out rfl));  have hRt := Lib.hid hR1; have hct := run_str_at (n := lt.length) ct hR1 rfl;  (try (replace hRu := Lib.hid (hRu.out.up hb1); replace hcu := run_str_at (n := lt.length) cu hRu.out rfl)); clear hb1 hR1)
    | (go_at_call 30; refine (rtextput_any A k c l hk.out m (by omega) _ hr.out).mono ?_; rw [hlt.out]; rintro e w1 ⟨v1, rfl, ho1, hb1⟩; obtain ⟨Au, cu, rfl, -, -, hR1, -⟩ := ho1.form; clear ho1; replace hb0 := Lib.hid (hb0.out.trans (hb1.mono hb0.out.size)); replace hr := Lib.hid (hr.out.up hb1); (try (replace hRp := Lib.hid (hRp.out.up hb1); replace hcp := run_str_at (n := lp.length) cp hRp.out rfl));  (try (replace hRq := Lib.hid (hRq.out.up hb1); replace hcq := run_str_at (n := lp.length) cq hRq.out rfl));  (try (replace hRt := Lib.hid (hRt.out.up hb1); replace hct := run_str_at (n := lt.length) ct hRt.out rfl));  have hRu := Lib.hid hR1; have hcu := run_str_at (n := lt.length) cu hR1 rfl; clear hb1 hR1))
  all_goals
    go_wp2_with fail
    go_ret
    exact ⟨rfl, hb0.out⟩
end Go.Proofs.Ytpenmeddbpgkmaa

