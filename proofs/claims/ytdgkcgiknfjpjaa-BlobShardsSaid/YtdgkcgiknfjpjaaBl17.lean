/- The law BlobShards, the key as it comes in. -/
import Derived.Test.YtdgkcgiknfjpjaaBl16
namespace Go.Proofs.Ytdgkcgiknfjpjaa
open Go Go.RowKit
theorem blobShards_str (s : ByteArray) (hs : s.size ≤ maxLen) (gn : Nat) (hgn : gn < 65536) (A : Option Addr) (n c : Nat) (l : List UInt8) (hn : l.length = n) (hnc : n ≤ c) (hcm : c ≤ maxLen) (lk : Nat) (hlk : lk < 65536) (w : World) (hr : Rd w w.heap.size A l) :
    Calls Try.prog 7 #[.string s, .int .u16 gn, .slice A n c, .int .u16 lk] w fun e w' => e = .returned (.bool true) ∧ Gr w w' := by
  have h := blobShards_any s.data.toList (by rw [Array.length_toList]; exact hs) gn hgn A n c l hn hnc hcm lk hlk w hr
  rw [bs_backR] at h
  exact h
end Go.Proofs.Ytdgkcgiknfjpjaa
