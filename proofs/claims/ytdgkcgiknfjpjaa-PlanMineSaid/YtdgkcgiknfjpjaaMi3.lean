/- The law PlanMine, the key as it comes in. -/
import Derived.Test.YtdgkcgiknfjpjaaMi2
namespace Go.Proofs.Ytdgkcgiknfjpjaa
open Go Go.RowKit
theorem planMine_str (s : ByteArray) (hs : s.size ≤ maxLen) (gn : Nat) (hgn : gn < 65536) (A : Option Addr) (n c : Nat) (l : List UInt8) (hn : l.length = n) (hnc : n ≤ c) (hcm : c ≤ maxLen) (x y : UInt8) (w : World) (hr : Rd w w.heap.size A l) :
    Calls Try.prog 9 #[.string s, .int .u16 gn, .slice A n c, .int .u8 (U x), .int .u8 (U y)] w fun e w' => e = .returned (.bool true) ∧ Gr w w' := by
  have h := planMine_any s.data.toList (by rw [Array.length_toList]; exact hs) gn hgn A n c l hn hnc hcm x y w hr
  rw [bs_backR] at h
  exact h
end Go.Proofs.Ytdgkcgiknfjpjaa
