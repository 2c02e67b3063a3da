/-
  No cell of these rows narrows 'for every input' (looked for: loops, veiled, ifaces, maps, wideKeys, modest, calm, conditions, laid).
  DERIVED. THE GIVEN ROWS OF THIS SEAT. 4 by the template 'for every input the law returns true; each argument reads behind the call as it read before'; 0 by the template 'total and deterministic' (their statements: YtfjhdcppehfiiaaTotals.lean).
  GIVEN WITH THE SEED: the statements are not yours to turn. If you find one false, say at which input.
  Laid BY PROGRAM, IN A SANDBOX (cutbox-rows.mjs): the forced cells as the released guide's own fill.sh prints them over the translation f5dc35f0cf1fc43b… (all of the seat's roots in one cut). By AI agents, Wed Nov 11 2026. No macro, syntax, notation, axiom, sorry.
-/
import Derived.Test.YtfjhdcppehfiiaaChecked
import GoSem.Claim
import GoSem.ClaimJoined
import GoSem.ClaimMapViews
import Derived.JoinedTies
import Derived.KernelRfl
namespace Go.Proofs.Ytfjhdcppehfiiaa
/- THE CELL 'sum', in the pinned program and in every row, IS THE sha256 OF THE DUMP (.gsa) THAT YtfjhdcppehfiiaaProg.lean LOADS. Nothing in Lean hashes anything: it is a label: what it is worth is what the hold of that sum in a sandbox is worth. -/
noncomputable def Try.pinned : Pinned := { name := "ytfjhdcppehfiiaa", sum := "f5dc35f0cf1fc43b54cbfb1f4bb1542b078efd26fc69e819794094bcd2c11f4c", checked := Try.checked }
namespace Rows
def none {H : Type} : Left H := { results := [], args := [] }

/-- 'kistlaw08.LibThree': WHATEVER THE INPUT: true; the input reads as it did. -/
def libThreeSpec : ChangeSpec := { name := "libThree", fn := fun _ => fun
  | [d1, d2, d3, d4, d5] => { results := [.lit (.bool true)], args := [d1, d2, d3, d4, d5] }
  | _ => none }
def libThreeRow : OpenClaim := { program := "ytfjhdcppehfiiaa", sum := "f5dc35f0cf1fc43b54cbfb1f4bb1542b078efd26fc69e819794094bcd2c11f4c", func := "kist/kistlaw08.LibThree", spec := "libThree", apart := false }
def LibThreeSaid : Prop := libThreeRow.holds Try.pinned (OpenSpec.ofChange libThreeSpec)

/-- ITS FALSE NEIGHBOUR: 'it returns false'. Refute it at one input. -/
def libThreeWrong : ChangeSpec := { name := "libThree", fn := fun _ => fun
  | [d1, d2, d3, d4, d5] => { results := [.lit (.bool false)], args := [d1, d2, d3, d4, d5] }
  | _ => none }
def LibThreeWrongFalsely : Prop := libThreeRow.holds Try.pinned (OpenSpec.ofChange libThreeWrong)

/-- 'kistlaw08.LibOnce': WHATEVER THE INPUT: true; the input reads as it did. -/
def libOnceSpec : ChangeSpec := { name := "libOnce", fn := fun _ => fun
  | [d1, d2, d3] => { results := [.lit (.bool true)], args := [d1, d2, d3] }
  | _ => none }
def libOnceRow : OpenClaim := { program := "ytfjhdcppehfiiaa", sum := "f5dc35f0cf1fc43b54cbfb1f4bb1542b078efd26fc69e819794094bcd2c11f4c", func := "kist/kistlaw08.LibOnce", spec := "libOnce", apart := false }
def LibOnceSaid : Prop := libOnceRow.holds Try.pinned (OpenSpec.ofChange libOnceSpec)

/-- ITS FALSE NEIGHBOUR: 'it returns false'. Refute it at one input. -/
def libOnceWrong : ChangeSpec := { name := "libOnce", fn := fun _ => fun
  | [d1, d2, d3] => { results := [.lit (.bool false)], args := [d1, d2, d3] }
  | _ => none }
def LibOnceWrongFalsely : Prop := libOnceRow.holds Try.pinned (OpenSpec.ofChange libOnceWrong)

/-- 'kistlaw08.LibMoves': WHATEVER THE INPUT: true; the input reads as it did. -/
def libMovesSpec : ChangeSpec := { name := "libMoves", fn := fun _ => fun
  | [d1, d2, d3, d4, d5] => { results := [.lit (.bool true)], args := [d1, d2, d3, d4, d5] }
  | _ => none }
def libMovesRow : OpenClaim := { program := "ytfjhdcppehfiiaa", sum := "f5dc35f0cf1fc43b54cbfb1f4bb1542b078efd26fc69e819794094bcd2c11f4c", func := "kist/kistlaw08.LibMoves", spec := "libMoves", apart := false }
def LibMovesSaid : Prop := libMovesRow.holds Try.pinned (OpenSpec.ofChange libMovesSpec)

/-- ITS FALSE NEIGHBOUR: 'it returns false'. Refute it at one input. -/
def libMovesWrong : ChangeSpec := { name := "libMoves", fn := fun _ => fun
  | [d1, d2, d3, d4, d5] => { results := [.lit (.bool false)], args := [d1, d2, d3, d4, d5] }
  | _ => none }
def LibMovesWrongFalsely : Prop := libMovesRow.holds Try.pinned (OpenSpec.ofChange libMovesWrong)

/-- 'kistlaw08.LibNone': WHATEVER THE INPUT: true; the input reads as it did. -/
def libNoneSpec : ChangeSpec := { name := "libNone", fn := fun _ => fun
  | [d1, d2, d3] => { results := [.lit (.bool true)], args := [d1, d2, d3] }
  | _ => none }
def libNoneRow : OpenClaim := { program := "ytfjhdcppehfiiaa", sum := "f5dc35f0cf1fc43b54cbfb1f4bb1542b078efd26fc69e819794094bcd2c11f4c", func := "kist/kistlaw08.LibNone", spec := "libNone", apart := false }
def LibNoneSaid : Prop := libNoneRow.holds Try.pinned (OpenSpec.ofChange libNoneSpec)

/-- ITS FALSE NEIGHBOUR: 'it returns false'. Refute it at one input. -/
def libNoneWrong : ChangeSpec := { name := "libNone", fn := fun _ => fun
  | [d1, d2, d3] => { results := [.lit (.bool false)], args := [d1, d2, d3] }
  | _ => none }
def LibNoneWrongFalsely : Prop := libNoneRow.holds Try.pinned (OpenSpec.ofChange libNoneWrong)

/- THE SECOND FORM. 'bulk': how many values and letters a reading holds, each counted each time it is reached (what is shared counts as often as it is met; a slice's spare places count too). A statement '..UptoSaid' is the law's where the arguments, and the package variables that the reading takes, are together of bulk at most 1048576: NARROWER than '..Said'. Prove '..Said' where nothing that the law and all that it calls make is longer than what came in: it says more and counts as full. Else prove '..UptoSaid'. A law counts once. -/
mutual
def uptoBulk {H : Type} : DataW H → Nat
  | .lit (.string bytes) => bytes.length + 1
  | .lit _ => 1
  | .nil => 1
  | .ptr d => uptoBulk d + 1
  | .slice elems spare => uptoBulkAll elems + uptoBulkAll spare + 1
  | .agg parts => uptoBulkAll parts + 1
  | .iface _ d => uptoBulk d + 1
  | .map entries => uptoBulkEntries entries + 1
  | .held _ => 1
def uptoBulkAll {H : Type} : List (DataW H) → Nat
  | [] => 0
  | d :: r => uptoBulk d + uptoBulkAll r
def uptoBulkEntries {H : Type} : List (Lit × DataW H) → Nat
  | [] => 0
  | x :: r => uptoBulkEntry x + uptoBulkEntries r
def uptoBulkEntry {H : Type} : Lit × DataW H → Nat
  | (.string bytes, d) => bytes.length + uptoBulk d + 1
  | (_, d) => uptoBulk d + 1
 end
def uptoSmall : (H : Type) → List (DataW H) → Bool := fun _ ds => decide (uptoBulkAll ds ≤ 1048576)
def OpenSpec.upto (s : _root_.Go.ChangeSpec) : _root_.Go.OpenSpec := { _root_.Go.OpenSpec.ofChange s with cond := some uptoSmall }

/-- 'kistlaw08.LibThree', WHERE WHAT IT READS IS OF BULK AT MOST 1048576: true; the input reads as it did. -/
def libThreeUptoRow : OpenClaim := { program := "ytfjhdcppehfiiaa", sum := "f5dc35f0cf1fc43b54cbfb1f4bb1542b078efd26fc69e819794094bcd2c11f4c", func := "kist/kistlaw08.LibThree", spec := "libThree", apart := false, narrowed := true }
def LibThreeUptoSaid : Prop := libThreeUptoRow.holds Try.pinned (OpenSpec.upto libThreeSpec)

/-- 'kistlaw08.LibOnce', WHERE WHAT IT READS IS OF BULK AT MOST 1048576: true; the input reads as it did. -/
def libOnceUptoRow : OpenClaim := { program := "ytfjhdcppehfiiaa", sum := "f5dc35f0cf1fc43b54cbfb1f4bb1542b078efd26fc69e819794094bcd2c11f4c", func := "kist/kistlaw08.LibOnce", spec := "libOnce", apart := false, narrowed := true }
def LibOnceUptoSaid : Prop := libOnceUptoRow.holds Try.pinned (OpenSpec.upto libOnceSpec)

/-- 'kistlaw08.LibMoves', WHERE WHAT IT READS IS OF BULK AT MOST 1048576: true; the input reads as it did. -/
def libMovesUptoRow : OpenClaim := { program := "ytfjhdcppehfiiaa", sum := "f5dc35f0cf1fc43b54cbfb1f4bb1542b078efd26fc69e819794094bcd2c11f4c", func := "kist/kistlaw08.LibMoves", spec := "libMoves", apart := false, narrowed := true }
def LibMovesUptoSaid : Prop := libMovesUptoRow.holds Try.pinned (OpenSpec.upto libMovesSpec)

/-- 'kistlaw08.LibNone', WHERE WHAT IT READS IS OF BULK AT MOST 1048576: true; the input reads as it did. -/
def libNoneUptoRow : OpenClaim := { program := "ytfjhdcppehfiiaa", sum := "f5dc35f0cf1fc43b54cbfb1f4bb1542b078efd26fc69e819794094bcd2c11f4c", func := "kist/kistlaw08.LibNone", spec := "libNone", apart := false, narrowed := true }
def LibNoneUptoSaid : Prop := libNoneUptoRow.holds Try.pinned (OpenSpec.upto libNoneSpec)

end Rows
end Go.Proofs.Ytfjhdcppehfiiaa
