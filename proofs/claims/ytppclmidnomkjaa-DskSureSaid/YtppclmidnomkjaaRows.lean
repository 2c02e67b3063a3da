/-
  No cell of these rows narrows 'for every input' (looked for: loops, veiled, ifaces, maps, wideKeys, modest, calm, conditions, laid).
  DERIVED. THE GIVEN ROWS OF THIS SEAT. 12 by the template 'for every input the law returns true; each argument reads behind the call as it read before'; 0 by the template 'total and deterministic' (their statements: YtppclmidnomkjaaTotals.lean).
  GIVEN WITH THE SEED: the statements are not yours to turn. If you find one false, say at which input.
  Laid BY PROGRAM, IN A SANDBOX (cutbox-rows.mjs): the forced cells as the released guide's own fill.sh prints them over the translation cfc6e37e614c552e… (all of the seat's roots in one cut). By AI agents, Wed Nov 11 2026. No macro, syntax, notation, axiom, sorry.
-/
import Derived.Test.YtppclmidnomkjaaChecked
import GoSem.Claim
import GoSem.ClaimJoined
import GoSem.ClaimMapViews
import Derived.JoinedTies
import Derived.KernelRfl
namespace Go.Proofs.Ytppclmidnomkjaa
/- THE CELL 'sum', in the pinned program and in every row, IS THE sha256 OF THE DUMP (.gsa) THAT YtppclmidnomkjaaProg.lean LOADS. Nothing in Lean hashes anything: it is a label: what it is worth is what the hold of that sum in a sandbox is worth. -/
noncomputable def Try.pinned : Pinned := { name := "ytppclmidnomkjaa", sum := "cfc6e37e614c552e83318e46a9d779e4e150402d40ed83a0d0d4265aea2dfe25", checked := Try.checked }
namespace Rows
def none {H : Type} : Left H := { results := [], args := [] }

/-- 'kistlaw07.CartPlays': WHATEVER THE INPUT: true; the input reads as it did. -/
def cartPlaysSpec : ChangeSpec := { name := "cartPlays", fn := fun _ => fun
  | [d1, d2] => { results := [.lit (.bool true)], args := [d1, d2] }
  | _ => none }
def cartPlaysRow : OpenClaim := { program := "ytppclmidnomkjaa", sum := "cfc6e37e614c552e83318e46a9d779e4e150402d40ed83a0d0d4265aea2dfe25", func := "kist/kistlaw07.CartPlays", spec := "cartPlays", apart := false }
def CartPlaysSaid : Prop := cartPlaysRow.holds Try.pinned (OpenSpec.ofChange cartPlaysSpec)

/-- ITS FALSE NEIGHBOUR: 'it returns false'. Refute it at one input. -/
def cartPlaysWrong : ChangeSpec := { name := "cartPlays", fn := fun _ => fun
  | [d1, d2] => { results := [.lit (.bool false)], args := [d1, d2] }
  | _ => none }
def CartPlaysWrongFalsely : Prop := cartPlaysRow.holds Try.pinned (OpenSpec.ofChange cartPlaysWrong)

/-- 'kistlaw07.CartKeeps': WHATEVER THE INPUT: true; the input reads as it did. -/
def cartKeepsSpec : ChangeSpec := { name := "cartKeeps", fn := fun _ => fun
  | [d1, d2] => { results := [.lit (.bool true)], args := [d1, d2] }
  | _ => none }
def cartKeepsRow : OpenClaim := { program := "ytppclmidnomkjaa", sum := "cfc6e37e614c552e83318e46a9d779e4e150402d40ed83a0d0d4265aea2dfe25", func := "kist/kistlaw07.CartKeeps", spec := "cartKeeps", apart := false }
def CartKeepsSaid : Prop := cartKeepsRow.holds Try.pinned (OpenSpec.ofChange cartKeepsSpec)

/-- ITS FALSE NEIGHBOUR: 'it returns false'. Refute it at one input. -/
def cartKeepsWrong : ChangeSpec := { name := "cartKeeps", fn := fun _ => fun
  | [d1, d2] => { results := [.lit (.bool false)], args := [d1, d2] }
  | _ => none }
def CartKeepsWrongFalsely : Prop := cartKeepsRow.holds Try.pinned (OpenSpec.ofChange cartKeepsWrong)

/-- 'kistlaw07.CartOwn': WHATEVER THE INPUT: true; the input reads as it did. -/
def cartOwnSpec : ChangeSpec := { name := "cartOwn", fn := fun _ => fun
  | [d1, d2] => { results := [.lit (.bool true)], args := [d1, d2] }
  | _ => none }
def cartOwnRow : OpenClaim := { program := "ytppclmidnomkjaa", sum := "cfc6e37e614c552e83318e46a9d779e4e150402d40ed83a0d0d4265aea2dfe25", func := "kist/kistlaw07.CartOwn", spec := "cartOwn", apart := false }
def CartOwnSaid : Prop := cartOwnRow.holds Try.pinned (OpenSpec.ofChange cartOwnSpec)

/-- ITS FALSE NEIGHBOUR: 'it returns false'. Refute it at one input. -/
def cartOwnWrong : ChangeSpec := { name := "cartOwn", fn := fun _ => fun
  | [d1, d2] => { results := [.lit (.bool false)], args := [d1, d2] }
  | _ => none }
def CartOwnWrongFalsely : Prop := cartOwnRow.holds Try.pinned (OpenSpec.ofChange cartOwnWrong)

/-- 'kistlaw07.CartTears': WHATEVER THE INPUT: true; the input reads as it did. -/
def cartTearsSpec : ChangeSpec := { name := "cartTears", fn := fun _ => fun
  | [d1, d2, d3] => { results := [.lit (.bool true)], args := [d1, d2, d3] }
  | _ => none }
def cartTearsRow : OpenClaim := { program := "ytppclmidnomkjaa", sum := "cfc6e37e614c552e83318e46a9d779e4e150402d40ed83a0d0d4265aea2dfe25", func := "kist/kistlaw07.CartTears", spec := "cartTears", apart := false }
def CartTearsSaid : Prop := cartTearsRow.holds Try.pinned (OpenSpec.ofChange cartTearsSpec)

/-- ITS FALSE NEIGHBOUR: 'it returns false'. Refute it at one input. -/
def cartTearsWrong : ChangeSpec := { name := "cartTears", fn := fun _ => fun
  | [d1, d2, d3] => { results := [.lit (.bool false)], args := [d1, d2, d3] }
  | _ => none }
def CartTearsWrongFalsely : Prop := cartTearsRow.holds Try.pinned (OpenSpec.ofChange cartTearsWrong)

/-- 'kistlaw07.CartLost': WHATEVER THE INPUT: true; the input reads as it did. -/
def cartLostSpec : ChangeSpec := { name := "cartLost", fn := fun _ => fun
  | [d1, d2, d3] => { results := [.lit (.bool true)], args := [d1, d2, d3] }
  | _ => none }
def cartLostRow : OpenClaim := { program := "ytppclmidnomkjaa", sum := "cfc6e37e614c552e83318e46a9d779e4e150402d40ed83a0d0d4265aea2dfe25", func := "kist/kistlaw07.CartLost", spec := "cartLost", apart := false }
def CartLostSaid : Prop := cartLostRow.holds Try.pinned (OpenSpec.ofChange cartLostSpec)

/-- ITS FALSE NEIGHBOUR: 'it returns false'. Refute it at one input. -/
def cartLostWrong : ChangeSpec := { name := "cartLost", fn := fun _ => fun
  | [d1, d2, d3] => { results := [.lit (.bool false)], args := [d1, d2, d3] }
  | _ => none }
def CartLostWrongFalsely : Prop := cartLostRow.holds Try.pinned (OpenSpec.ofChange cartLostWrong)

/-- 'kistlaw07.CartNone': WHATEVER THE INPUT: true; the input reads as it did. -/
def cartNoneSpec : ChangeSpec := { name := "cartNone", fn := fun _ => fun
  | [d1, d2] => { results := [.lit (.bool true)], args := [d1, d2] }
  | _ => none }
def cartNoneRow : OpenClaim := { program := "ytppclmidnomkjaa", sum := "cfc6e37e614c552e83318e46a9d779e4e150402d40ed83a0d0d4265aea2dfe25", func := "kist/kistlaw07.CartNone", spec := "cartNone", apart := false }
def CartNoneSaid : Prop := cartNoneRow.holds Try.pinned (OpenSpec.ofChange cartNoneSpec)

/-- ITS FALSE NEIGHBOUR: 'it returns false'. Refute it at one input. -/
def cartNoneWrong : ChangeSpec := { name := "cartNone", fn := fun _ => fun
  | [d1, d2] => { results := [.lit (.bool false)], args := [d1, d2] }
  | _ => none }
def CartNoneWrongFalsely : Prop := cartNoneRow.holds Try.pinned (OpenSpec.ofChange cartNoneWrong)

/-- 'kistlaw11.DskPlays': WHATEVER THE INPUT: true; the input reads as it did. -/
def dskPlaysSpec : ChangeSpec := { name := "dskPlays", fn := fun _ => fun
  | [d] => { results := [.lit (.bool true)], args := [d] }
  | _ => none }
def dskPlaysRow : OpenClaim := { program := "ytppclmidnomkjaa", sum := "cfc6e37e614c552e83318e46a9d779e4e150402d40ed83a0d0d4265aea2dfe25", func := "kist/kistlaw11.DskPlays", spec := "dskPlays", apart := false }
def DskPlaysSaid : Prop := dskPlaysRow.holds Try.pinned (OpenSpec.ofChange dskPlaysSpec)

/-- ITS FALSE NEIGHBOUR: 'it returns false'. Refute it at one input. -/
def dskPlaysWrong : ChangeSpec := { name := "dskPlays", fn := fun _ => fun
  | [d] => { results := [.lit (.bool false)], args := [d] }
  | _ => none }
def DskPlaysWrongFalsely : Prop := dskPlaysRow.holds Try.pinned (OpenSpec.ofChange dskPlaysWrong)

/-- 'kistlaw11.DskSure': WHATEVER THE INPUT: true; the input reads as it did. -/
def dskSureSpec : ChangeSpec := { name := "dskSure", fn := fun _ => fun
  | [d1, d2, d3] => { results := [.lit (.bool true)], args := [d1, d2, d3] }
  | _ => none }
def dskSureRow : OpenClaim := { program := "ytppclmidnomkjaa", sum := "cfc6e37e614c552e83318e46a9d779e4e150402d40ed83a0d0d4265aea2dfe25", func := "kist/kistlaw11.DskSure", spec := "dskSure", apart := false }
def DskSureSaid : Prop := dskSureRow.holds Try.pinned (OpenSpec.ofChange dskSureSpec)

/-- ITS FALSE NEIGHBOUR: 'it returns false'. Refute it at one input. -/
def dskSureWrong : ChangeSpec := { name := "dskSure", fn := fun _ => fun
  | [d1, d2, d3] => { results := [.lit (.bool false)], args := [d1, d2, d3] }
  | _ => none }
def DskSureWrongFalsely : Prop := dskSureRow.holds Try.pinned (OpenSpec.ofChange dskSureWrong)

/-- 'kistlaw11.DskFuse': WHATEVER THE INPUT: true; the input reads as it did. -/
def dskFuseSpec : ChangeSpec := { name := "dskFuse", fn := fun _ => fun
  | [d1, d2] => { results := [.lit (.bool true)], args := [d1, d2] }
  | _ => none }
def dskFuseRow : OpenClaim := { program := "ytppclmidnomkjaa", sum := "cfc6e37e614c552e83318e46a9d779e4e150402d40ed83a0d0d4265aea2dfe25", func := "kist/kistlaw11.DskFuse", spec := "dskFuse", apart := false }
def DskFuseSaid : Prop := dskFuseRow.holds Try.pinned (OpenSpec.ofChange dskFuseSpec)

/-- ITS FALSE NEIGHBOUR: 'it returns false'. Refute it at one input. -/
def dskFuseWrong : ChangeSpec := { name := "dskFuse", fn := fun _ => fun
  | [d1, d2] => { results := [.lit (.bool false)], args := [d1, d2] }
  | _ => none }
def DskFuseWrongFalsely : Prop := dskFuseRow.holds Try.pinned (OpenSpec.ofChange dskFuseWrong)

/-- 'kistlaw11.DskOver': WHATEVER THE INPUT: true; the input reads as it did. -/
def dskOverSpec : ChangeSpec := { name := "dskOver", fn := fun _ => fun
  | [d1, d2] => { results := [.lit (.bool true)], args := [d1, d2] }
  | _ => none }
def dskOverRow : OpenClaim := { program := "ytppclmidnomkjaa", sum := "cfc6e37e614c552e83318e46a9d779e4e150402d40ed83a0d0d4265aea2dfe25", func := "kist/kistlaw11.DskOver", spec := "dskOver", apart := false }
def DskOverSaid : Prop := dskOverRow.holds Try.pinned (OpenSpec.ofChange dskOverSpec)

/-- ITS FALSE NEIGHBOUR: 'it returns false'. Refute it at one input. -/
def dskOverWrong : ChangeSpec := { name := "dskOver", fn := fun _ => fun
  | [d1, d2] => { results := [.lit (.bool false)], args := [d1, d2] }
  | _ => none }
def DskOverWrongFalsely : Prop := dskOverRow.holds Try.pinned (OpenSpec.ofChange dskOverWrong)

/-- 'kistlaw11.DskOwn': WHATEVER THE INPUT: true; the input reads as it did. -/
def dskOwnSpec : ChangeSpec := { name := "dskOwn", fn := fun _ => fun
  | [d1, d2, d3] => { results := [.lit (.bool true)], args := [d1, d2, d3] }
  | _ => none }
def dskOwnRow : OpenClaim := { program := "ytppclmidnomkjaa", sum := "cfc6e37e614c552e83318e46a9d779e4e150402d40ed83a0d0d4265aea2dfe25", func := "kist/kistlaw11.DskOwn", spec := "dskOwn", apart := false }
def DskOwnSaid : Prop := dskOwnRow.holds Try.pinned (OpenSpec.ofChange dskOwnSpec)

/-- ITS FALSE NEIGHBOUR: 'it returns false'. Refute it at one input. -/
def dskOwnWrong : ChangeSpec := { name := "dskOwn", fn := fun _ => fun
  | [d1, d2, d3] => { results := [.lit (.bool false)], args := [d1, d2, d3] }
  | _ => none }
def DskOwnWrongFalsely : Prop := dskOwnRow.holds Try.pinned (OpenSpec.ofChange dskOwnWrong)

/-- 'kistlaw11.DskNone': WHATEVER THE INPUT: true; the input reads as it did. -/
def dskNoneSpec : ChangeSpec := { name := "dskNone", fn := fun _ => fun
  | [d1, d2] => { results := [.lit (.bool true)], args := [d1, d2] }
  | _ => none }
def dskNoneRow : OpenClaim := { program := "ytppclmidnomkjaa", sum := "cfc6e37e614c552e83318e46a9d779e4e150402d40ed83a0d0d4265aea2dfe25", func := "kist/kistlaw11.DskNone", spec := "dskNone", apart := false }
def DskNoneSaid : Prop := dskNoneRow.holds Try.pinned (OpenSpec.ofChange dskNoneSpec)

/-- ITS FALSE NEIGHBOUR: 'it returns false'. Refute it at one input. -/
def dskNoneWrong : ChangeSpec := { name := "dskNone", fn := fun _ => fun
  | [d1, d2] => { results := [.lit (.bool false)], args := [d1, d2] }
  | _ => none }
def DskNoneWrongFalsely : Prop := dskNoneRow.holds Try.pinned (OpenSpec.ofChange dskNoneWrong)

/- THE SECOND FORM. 'bulk': how many values and letters a reading holds, each counted each time it is reached (what is shared counts as often as it is met; a slice's spare places count too). A statement '..UptoSaid' is the law's where the arguments, and the package variables that the reading takes, are together of bulk at most 1048576: NARROWER than '..Said'. Prove '..Said' where nothing that the law and all that it calls make is longer than what came in: it says more and counts as full. Else prove '..UptoSaid'. A law counts once. -/
mutual
def uptoBulk {H : Type} : DataW H → Nat
  | .lit (.string bytes) => bytes.length + 1
  | .lit _ => 1
  | .nil => 1
  | .ptr d => uptoBulk d + 1
  | .slice elems spare => uptoBulkAll elems + uptoBulkAll spare + 1
  | .agg parts => uptoBulkAll parts + 1
  | .iface _ d => uptoBulk d + 1
  | .map entries => uptoBulkEntries entries + 1
  | .held _ => 1
def uptoBulkAll {H : Type} : List (DataW H) → Nat
  | [] => 0
  | d :: r => uptoBulk d + uptoBulkAll r
def uptoBulkEntries {H : Type} : List (Lit × DataW H) → Nat
  | [] => 0
  | x :: r => uptoBulkEntry x + uptoBulkEntries r
def uptoBulkEntry {H : Type} : Lit × DataW H → Nat
  | (.string bytes, d) => bytes.length + uptoBulk d + 1
  | (_, d) => uptoBulk d + 1
 end
def uptoSmall : (H : Type) → List (DataW H) → Bool := fun _ ds => decide (uptoBulkAll ds ≤ 1048576)
def OpenSpec.upto (s : _root_.Go.ChangeSpec) : _root_.Go.OpenSpec := { _root_.Go.OpenSpec.ofChange s with cond := some uptoSmall }

/-- 'kistlaw07.CartPlays', WHERE WHAT IT READS IS OF BULK AT MOST 1048576: true; the input reads as it did. -/
def cartPlaysUptoRow : OpenClaim := { program := "ytppclmidnomkjaa", sum := "cfc6e37e614c552e83318e46a9d779e4e150402d40ed83a0d0d4265aea2dfe25", func := "kist/kistlaw07.CartPlays", spec := "cartPlays", apart := false, narrowed := true }
def CartPlaysUptoSaid : Prop := cartPlaysUptoRow.holds Try.pinned (OpenSpec.upto cartPlaysSpec)

/-- 'kistlaw07.CartKeeps', WHERE WHAT IT READS IS OF BULK AT MOST 1048576: true; the input reads as it did. -/
def cartKeepsUptoRow : OpenClaim := { program := "ytppclmidnomkjaa", sum := "cfc6e37e614c552e83318e46a9d779e4e150402d40ed83a0d0d4265aea2dfe25", func := "kist/kistlaw07.CartKeeps", spec := "cartKeeps", apart := false, narrowed := true }
def CartKeepsUptoSaid : Prop := cartKeepsUptoRow.holds Try.pinned (OpenSpec.upto cartKeepsSpec)

/-- 'kistlaw07.CartOwn', WHERE WHAT IT READS IS OF BULK AT MOST 1048576: true; the input reads as it did. -/
def cartOwnUptoRow : OpenClaim := { program := "ytppclmidnomkjaa", sum := "cfc6e37e614c552e83318e46a9d779e4e150402d40ed83a0d0d4265aea2dfe25", func := "kist/kistlaw07.CartOwn", spec := "cartOwn", apart := false, narrowed := true }
def CartOwnUptoSaid : Prop := cartOwnUptoRow.holds Try.pinned (OpenSpec.upto cartOwnSpec)

/-- 'kistlaw07.CartTears', WHERE WHAT IT READS IS OF BULK AT MOST 1048576: true; the input reads as it did. -/
def cartTearsUptoRow : OpenClaim := { program := "ytppclmidnomkjaa", sum := "cfc6e37e614c552e83318e46a9d779e4e150402d40ed83a0d0d4265aea2dfe25", func := "kist/kistlaw07.CartTears", spec := "cartTears", apart := false, narrowed := true }
def CartTearsUptoSaid : Prop := cartTearsUptoRow.holds Try.pinned (OpenSpec.upto cartTearsSpec)

/-- 'kistlaw07.CartLost', WHERE WHAT IT READS IS OF BULK AT MOST 1048576: true; the input reads as it did. -/
def cartLostUptoRow : OpenClaim := { program := "ytppclmidnomkjaa", sum := "cfc6e37e614c552e83318e46a9d779e4e150402d40ed83a0d0d4265aea2dfe25", func := "kist/kistlaw07.CartLost", spec := "cartLost", apart := false, narrowed := true }
def CartLostUptoSaid : Prop := cartLostUptoRow.holds Try.pinned (OpenSpec.upto cartLostSpec)

/-- 'kistlaw07.CartNone', WHERE WHAT IT READS IS OF BULK AT MOST 1048576: true; the input reads as it did. -/
def cartNoneUptoRow : OpenClaim := { program := "ytppclmidnomkjaa", sum := "cfc6e37e614c552e83318e46a9d779e4e150402d40ed83a0d0d4265aea2dfe25", func := "kist/kistlaw07.CartNone", spec := "cartNone", apart := false, narrowed := true }
def CartNoneUptoSaid : Prop := cartNoneUptoRow.holds Try.pinned (OpenSpec.upto cartNoneSpec)

/-- 'kistlaw11.DskPlays', WHERE WHAT IT READS IS OF BULK AT MOST 1048576: true; the input reads as it did. -/
def dskPlaysUptoRow : OpenClaim := { program := "ytppclmidnomkjaa", sum := "cfc6e37e614c552e83318e46a9d779e4e150402d40ed83a0d0d4265aea2dfe25", func := "kist/kistlaw11.DskPlays", spec := "dskPlays", apart := false, narrowed := true }
def DskPlaysUptoSaid : Prop := dskPlaysUptoRow.holds Try.pinned (OpenSpec.upto dskPlaysSpec)

/-- 'kistlaw11.DskSure', WHERE WHAT IT READS IS OF BULK AT MOST 1048576: true; the input reads as it did. -/
def dskSureUptoRow : OpenClaim := { program := "ytppclmidnomkjaa", sum := "cfc6e37e614c552e83318e46a9d779e4e150402d40ed83a0d0d4265aea2dfe25", func := "kist/kistlaw11.DskSure", spec := "dskSure", apart := false, narrowed := true }
def DskSureUptoSaid : Prop := dskSureUptoRow.holds Try.pinned (OpenSpec.upto dskSureSpec)

/-- 'kistlaw11.DskFuse', WHERE WHAT IT READS IS OF BULK AT MOST 1048576: true; the input reads as it did. -/
def dskFuseUptoRow : OpenClaim := { program := "ytppclmidnomkjaa", sum := "cfc6e37e614c552e83318e46a9d779e4e150402d40ed83a0d0d4265aea2dfe25", func := "kist/kistlaw11.DskFuse", spec := "dskFuse", apart := false, narrowed := true }
def DskFuseUptoSaid : Prop := dskFuseUptoRow.holds Try.pinned (OpenSpec.upto dskFuseSpec)

/-- 'kistlaw11.DskOver', WHERE WHAT IT READS IS OF BULK AT MOST 1048576: true; the input reads as it did. -/
def dskOverUptoRow : OpenClaim := { program := "ytppclmidnomkjaa", sum := "cfc6e37e614c552e83318e46a9d779e4e150402d40ed83a0d0d4265aea2dfe25", func := "kist/kistlaw11.DskOver", spec := "dskOver", apart := false, narrowed := true }
def DskOverUptoSaid : Prop := dskOverUptoRow.holds Try.pinned (OpenSpec.upto dskOverSpec)

/-- 'kistlaw11.DskOwn', WHERE WHAT IT READS IS OF BULK AT MOST 1048576: true; the input reads as it did. -/
def dskOwnUptoRow : OpenClaim := { program := "ytppclmidnomkjaa", sum := "cfc6e37e614c552e83318e46a9d779e4e150402d40ed83a0d0d4265aea2dfe25", func := "kist/kistlaw11.DskOwn", spec := "dskOwn", apart := false, narrowed := true }
def DskOwnUptoSaid : Prop := dskOwnUptoRow.holds Try.pinned (OpenSpec.upto dskOwnSpec)

/-- 'kistlaw11.DskNone', WHERE WHAT IT READS IS OF BULK AT MOST 1048576: true; the input reads as it did. -/
def dskNoneUptoRow : OpenClaim := { program := "ytppclmidnomkjaa", sum := "cfc6e37e614c552e83318e46a9d779e4e150402d40ed83a0d0d4265aea2dfe25", func := "kist/kistlaw11.DskNone", spec := "dskNone", apart := false, narrowed := true }
def DskNoneUptoSaid : Prop := dskNoneUptoRow.holds Try.pinned (OpenSpec.upto dskNoneSpec)

end Rows
end Go.Proofs.Ytppclmidnomkjaa
