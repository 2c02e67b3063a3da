/-
  No cell of these rows narrows 'for every input' (looked for: loops, veiled, ifaces, maps, wideKeys, modest, calm, conditions, laid).
  DERIVED. THE GIVEN ROWS OF THIS SEAT. 6 by the template 'for every input the law returns true; each argument reads behind the call as it read before'; 0 by the template 'total and deterministic' (their statements: YthboeoidgglcgaaTotals.lean).
  GIVEN WITH THE SEED: the statements are not yours to turn. If you find one false, say at which input.
  Laid BY PROGRAM, IN A SANDBOX (cutbox-rows.mjs): the forced cells as the released guide's own fill.sh prints them over the translation 66ec4f1df3a36ad1… (all of the seat's roots in one cut). By AI agents, Wed Nov 11 2026. No macro, syntax, notation, axiom, sorry.
-/
import Derived.Test.YthboeoidgglcgaaChecked
import GoSem.Claim
import GoSem.ClaimJoined
import GoSem.ClaimMapViews
import Derived.JoinedTies
import Derived.KernelRfl
namespace Go.Proofs.Ythboeoidgglcgaa
/- THE CELL 'sum', in the pinned program and in every row, IS THE sha256 OF THE DUMP (.gsa) THAT YthboeoidgglcgaaProg.lean LOADS. Nothing in Lean hashes anything: it is a label: what it is worth is what the hold of that sum in a sandbox is worth. -/
noncomputable def Try.pinned : Pinned := { name := "ythboeoidgglcgaa", sum := "66ec4f1df3a36ad13f8ff58723114298cce1c30fa059595b0c62672d9f76ee4b", checked := Try.checked }
namespace Rows
def none {H : Type} : Left H := { results := [], args := [] }

/-- 'kistlaw13.CatNotes': WHATEVER THE INPUT: true; the input reads as it did. -/
def catNotesSpec : ChangeSpec := { name := "catNotes", fn := fun _ => fun
  | [d1, d2] => { results := [.lit (.bool true)], args := [d1, d2] }
  | _ => none }
def catNotesRow : OpenClaim := { program := "ythboeoidgglcgaa", sum := "66ec4f1df3a36ad13f8ff58723114298cce1c30fa059595b0c62672d9f76ee4b", func := "kist/kistlaw13.CatNotes", spec := "catNotes", unfollowed := true, recurses := true, apart := false }
def CatNotesSaid : Prop := catNotesRow.holds Try.pinned (OpenSpec.ofChange catNotesSpec)

/-- ITS FALSE NEIGHBOUR: 'it returns false'. Refute it at one input. -/
def catNotesWrong : ChangeSpec := { name := "catNotes", fn := fun _ => fun
  | [d1, d2] => { results := [.lit (.bool false)], args := [d1, d2] }
  | _ => none }
def CatNotesWrongFalsely : Prop := catNotesRow.holds Try.pinned (OpenSpec.ofChange catNotesWrong)

/-- 'kistlaw13.CatRefuses': WHATEVER THE INPUT: true; the input reads as it did. -/
def catRefusesSpec : ChangeSpec := { name := "catRefuses", fn := fun _ => fun
  | [d1, d2] => { results := [.lit (.bool true)], args := [d1, d2] }
  | _ => none }
def catRefusesRow : OpenClaim := { program := "ythboeoidgglcgaa", sum := "66ec4f1df3a36ad13f8ff58723114298cce1c30fa059595b0c62672d9f76ee4b", func := "kist/kistlaw13.CatRefuses", spec := "catRefuses", unfollowed := true, recurses := true, apart := false }
def CatRefusesSaid : Prop := catRefusesRow.holds Try.pinned (OpenSpec.ofChange catRefusesSpec)

/-- ITS FALSE NEIGHBOUR: 'it returns false'. Refute it at one input. -/
def catRefusesWrong : ChangeSpec := { name := "catRefuses", fn := fun _ => fun
  | [d1, d2] => { results := [.lit (.bool false)], args := [d1, d2] }
  | _ => none }
def CatRefusesWrongFalsely : Prop := catRefusesRow.holds Try.pinned (OpenSpec.ofChange catRefusesWrong)

/-- 'kistlaw13.CatHad': WHATEVER THE INPUT: true; the input reads as it did. -/
def catHadSpec : ChangeSpec := { name := "catHad", fn := fun _ => fun
  | [d] => { results := [.lit (.bool true)], args := [d] }
  | _ => none }
def catHadRow : OpenClaim := { program := "ythboeoidgglcgaa", sum := "66ec4f1df3a36ad13f8ff58723114298cce1c30fa059595b0c62672d9f76ee4b", func := "kist/kistlaw13.CatHad", spec := "catHad", unfollowed := true, recurses := true, apart := false }
def CatHadSaid : Prop := catHadRow.holds Try.pinned (OpenSpec.ofChange catHadSpec)

/-- ITS FALSE NEIGHBOUR: 'it returns false'. Refute it at one input. -/
def catHadWrong : ChangeSpec := { name := "catHad", fn := fun _ => fun
  | [d] => { results := [.lit (.bool false)], args := [d] }
  | _ => none }
def CatHadWrongFalsely : Prop := catHadRow.holds Try.pinned (OpenSpec.ofChange catHadWrong)

/-- 'kistlaw13.CatGone': WHATEVER THE INPUT: true; the input reads as it did. -/
def catGoneSpec : ChangeSpec := { name := "catGone", fn := fun _ => fun
  | [d1, d2, d3, d4] => { results := [.lit (.bool true)], args := [d1, d2, d3, d4] }
  | _ => none }
def catGoneRow : OpenClaim := { program := "ythboeoidgglcgaa", sum := "66ec4f1df3a36ad13f8ff58723114298cce1c30fa059595b0c62672d9f76ee4b", func := "kist/kistlaw13.CatGone", spec := "catGone", unfollowed := true, recurses := true, apart := false }
def CatGoneSaid : Prop := catGoneRow.holds Try.pinned (OpenSpec.ofChange catGoneSpec)

/-- ITS FALSE NEIGHBOUR: 'it returns false'. Refute it at one input. -/
def catGoneWrong : ChangeSpec := { name := "catGone", fn := fun _ => fun
  | [d1, d2, d3, d4] => { results := [.lit (.bool false)], args := [d1, d2, d3, d4] }
  | _ => none }
def CatGoneWrongFalsely : Prop := catGoneRow.holds Try.pinned (OpenSpec.ofChange catGoneWrong)

/-- 'kistlaw13.CatOwn': WHATEVER THE INPUT: true; the input reads as it did. -/
def catOwnSpec : ChangeSpec := { name := "catOwn", fn := fun _ => fun
  | [d1, d2, d3] => { results := [.lit (.bool true)], args := [d1, d2, d3] }
  | _ => none }
def catOwnRow : OpenClaim := { program := "ythboeoidgglcgaa", sum := "66ec4f1df3a36ad13f8ff58723114298cce1c30fa059595b0c62672d9f76ee4b", func := "kist/kistlaw13.CatOwn", spec := "catOwn", unfollowed := true, recurses := true, apart := false }
def CatOwnSaid : Prop := catOwnRow.holds Try.pinned (OpenSpec.ofChange catOwnSpec)

/-- ITS FALSE NEIGHBOUR: 'it returns false'. Refute it at one input. -/
def catOwnWrong : ChangeSpec := { name := "catOwn", fn := fun _ => fun
  | [d1, d2, d3] => { results := [.lit (.bool false)], args := [d1, d2, d3] }
  | _ => none }
def CatOwnWrongFalsely : Prop := catOwnRow.holds Try.pinned (OpenSpec.ofChange catOwnWrong)

/-- 'kistlaw13.CatNone': WHATEVER THE INPUT: true; the input reads as it did. -/
def catNoneSpec : ChangeSpec := { name := "catNone", fn := fun _ => fun
  | [d1, d2, d3] => { results := [.lit (.bool true)], args := [d1, d2, d3] }
  | _ => none }
def catNoneRow : OpenClaim := { program := "ythboeoidgglcgaa", sum := "66ec4f1df3a36ad13f8ff58723114298cce1c30fa059595b0c62672d9f76ee4b", func := "kist/kistlaw13.CatNone", spec := "catNone", unfollowed := true, recurses := true, apart := false }
def CatNoneSaid : Prop := catNoneRow.holds Try.pinned (OpenSpec.ofChange catNoneSpec)

/-- ITS FALSE NEIGHBOUR: 'it returns false'. Refute it at one input. -/
def catNoneWrong : ChangeSpec := { name := "catNone", fn := fun _ => fun
  | [d1, d2, d3] => { results := [.lit (.bool false)], args := [d1, d2, d3] }
  | _ => none }
def CatNoneWrongFalsely : Prop := catNoneRow.holds Try.pinned (OpenSpec.ofChange catNoneWrong)

/- THE SECOND FORM. 'bulk': how many values and letters a reading holds, each counted each time it is reached (what is shared counts as often as it is met; a slice's spare places count too). A statement '..UptoSaid' is the law's where the arguments, and the package variables that the reading takes, are together of bulk at most 1048576: NARROWER than '..Said'. Prove '..Said' where nothing that the law and all that it calls make is longer than what came in: it says more and counts as full. Else prove '..UptoSaid'. A law counts once. -/
mutual
def uptoBulk {H : Type} : DataW H → Nat
  | .lit (.string bytes) => bytes.length + 1
  | .lit _ => 1
  | .nil => 1
  | .ptr d => uptoBulk d + 1
  | .slice elems spare => uptoBulkAll elems + uptoBulkAll spare + 1
  | .agg parts => uptoBulkAll parts + 1
  | .iface _ d => uptoBulk d + 1
  | .map entries => uptoBulkEntries entries + 1
  | .held _ => 1
def uptoBulkAll {H : Type} : List (DataW H) → Nat
  | [] => 0
  | d :: r => uptoBulk d + uptoBulkAll r
def uptoBulkEntries {H : Type} : List (Lit × DataW H) → Nat
  | [] => 0
  | x :: r => uptoBulkEntry x + uptoBulkEntries r
def uptoBulkEntry {H : Type} : Lit × DataW H → Nat
  | (.string bytes, d) => bytes.length + uptoBulk d + 1
  | (_, d) => uptoBulk d + 1
 end
def uptoSmall : (H : Type) → List (DataW H) → Bool := fun _ ds => decide (uptoBulkAll ds ≤ 1048576)
def OpenSpec.upto (s : _root_.Go.ChangeSpec) : _root_.Go.OpenSpec := { _root_.Go.OpenSpec.ofChange s with cond := some uptoSmall }

/-- 'kistlaw13.CatNotes', WHERE WHAT IT READS IS OF BULK AT MOST 1048576: true; the input reads as it did. -/
def catNotesUptoRow : OpenClaim := { program := "ythboeoidgglcgaa", sum := "66ec4f1df3a36ad13f8ff58723114298cce1c30fa059595b0c62672d9f76ee4b", func := "kist/kistlaw13.CatNotes", spec := "catNotes", unfollowed := true, recurses := true, apart := false, narrowed := true }
def CatNotesUptoSaid : Prop := catNotesUptoRow.holds Try.pinned (OpenSpec.upto catNotesSpec)

/-- 'kistlaw13.CatRefuses', WHERE WHAT IT READS IS OF BULK AT MOST 1048576: true; the input reads as it did. -/
def catRefusesUptoRow : OpenClaim := { program := "ythboeoidgglcgaa", sum := "66ec4f1df3a36ad13f8ff58723114298cce1c30fa059595b0c62672d9f76ee4b", func := "kist/kistlaw13.CatRefuses", spec := "catRefuses", unfollowed := true, recurses := true, apart := false, narrowed := true }
def CatRefusesUptoSaid : Prop := catRefusesUptoRow.holds Try.pinned (OpenSpec.upto catRefusesSpec)

/-- 'kistlaw13.CatHad', WHERE WHAT IT READS IS OF BULK AT MOST 1048576: true; the input reads as it did. -/
def catHadUptoRow : OpenClaim := { program := "ythboeoidgglcgaa", sum := "66ec4f1df3a36ad13f8ff58723114298cce1c30fa059595b0c62672d9f76ee4b", func := "kist/kistlaw13.CatHad", spec := "catHad", unfollowed := true, recurses := true, apart := false, narrowed := true }
def CatHadUptoSaid : Prop := catHadUptoRow.holds Try.pinned (OpenSpec.upto catHadSpec)

/-- 'kistlaw13.CatGone', WHERE WHAT IT READS IS OF BULK AT MOST 1048576: true; the input reads as it did. -/
def catGoneUptoRow : OpenClaim := { program := "ythboeoidgglcgaa", sum := "66ec4f1df3a36ad13f8ff58723114298cce1c30fa059595b0c62672d9f76ee4b", func := "kist/kistlaw13.CatGone", spec := "catGone", unfollowed := true, recurses := true, apart := false, narrowed := true }
def CatGoneUptoSaid : Prop := catGoneUptoRow.holds Try.pinned (OpenSpec.upto catGoneSpec)

/-- 'kistlaw13.CatOwn', WHERE WHAT IT READS IS OF BULK AT MOST 1048576: true; the input reads as it did. -/
def catOwnUptoRow : OpenClaim := { program := "ythboeoidgglcgaa", sum := "66ec4f1df3a36ad13f8ff58723114298cce1c30fa059595b0c62672d9f76ee4b", func := "kist/kistlaw13.CatOwn", spec := "catOwn", unfollowed := true, recurses := true, apart := false, narrowed := true }
def CatOwnUptoSaid : Prop := catOwnUptoRow.holds Try.pinned (OpenSpec.upto catOwnSpec)

/-- 'kistlaw13.CatNone', WHERE WHAT IT READS IS OF BULK AT MOST 1048576: true; the input reads as it did. -/
def catNoneUptoRow : OpenClaim := { program := "ythboeoidgglcgaa", sum := "66ec4f1df3a36ad13f8ff58723114298cce1c30fa059595b0c62672d9f76ee4b", func := "kist/kistlaw13.CatNone", spec := "catNone", unfollowed := true, recurses := true, apart := false, narrowed := true }
def CatNoneUptoSaid : Prop := catNoneUptoRow.holds Try.pinned (OpenSpec.upto catNoneSpec)

end Rows
end Go.Proofs.Ythboeoidgglcgaa
