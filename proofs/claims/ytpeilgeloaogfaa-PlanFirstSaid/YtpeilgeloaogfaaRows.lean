/-
  No cell of these rows narrows 'for every input' (looked for: loops, veiled, ifaces, maps, wideKeys, modest, calm, conditions, laid).
  DERIVED. THE GIVEN ROWS OF THIS SEAT. 26 by the template 'for every input the law returns true; each argument reads behind the call as it read before'; 0 by the template 'total and deterministic' (their statements: YtpeilgeloaogfaaTotals.lean).
  GIVEN WITH THE SEED: the statements are not yours to turn. If you find one false, say at which input.
  Laid BY PROGRAM, IN A SANDBOX (cutbox-rows.mjs): the forced cells as the released guide's own fill.sh prints them over the translation 50d4dd4fa6317004… (all of the seat's roots in one cut). By AI agents, Wed Nov 11 2026. No macro, syntax, notation, axiom, sorry.
-/
import Derived.Test.YtpeilgeloaogfaaChecked
import GoSem.Claim
import GoSem.ClaimJoined
import GoSem.ClaimMapViews
import Derived.JoinedTies
import Derived.KernelRfl
namespace Go.Proofs.Ytpeilgeloaogfaa
/- THE CELL 'sum', in the pinned program and in every row, IS THE sha256 OF THE DUMP (.gsa) THAT YtpeilgeloaogfaaProg.lean LOADS. Nothing in Lean hashes anything: it is a label: what it is worth is what the hold of that sum in a sandbox is worth. -/
noncomputable def Try.pinned : Pinned := { name := "ytpeilgeloaogfaa", sum := "50d4dd4fa6317004f6562c264e416abbcbc89babdc2d986bed20e0e9631c18a5", checked := Try.checked }
namespace Rows
def none {H : Type} : Left H := { results := [], args := [] }

/-- 'kistlaw02.MatTimes': WHATEVER THE INPUT: true; the input reads as it did. -/
def matTimesSpec : ChangeSpec := { name := "matTimes", fn := fun _ => fun
  | [d1, d2] => { results := [.lit (.bool true)], args := [d1, d2] }
  | _ => none }
def matTimesRow : OpenClaim := { program := "ytpeilgeloaogfaa", sum := "50d4dd4fa6317004f6562c264e416abbcbc89babdc2d986bed20e0e9631c18a5", func := "kist/kistlaw02.MatTimes", spec := "matTimes", apart := false }
def MatTimesSaid : Prop := matTimesRow.holds Try.pinned (OpenSpec.ofChange matTimesSpec)

/-- ITS FALSE NEIGHBOUR: 'it returns false'. Refute it at one input. -/
def matTimesWrong : ChangeSpec := { name := "matTimes", fn := fun _ => fun
  | [d1, d2] => { results := [.lit (.bool false)], args := [d1, d2] }
  | _ => none }
def MatTimesWrongFalsely : Prop := matTimesRow.holds Try.pinned (OpenSpec.ofChange matTimesWrong)

/-- 'kistlaw02.MatInverts': WHATEVER THE INPUT: true; the input reads as it did. -/
def matInvertsSpec : ChangeSpec := { name := "matInverts", fn := fun _ => fun
  | [d] => { results := [.lit (.bool true)], args := [d] }
  | _ => none }
def matInvertsRow : OpenClaim := { program := "ytpeilgeloaogfaa", sum := "50d4dd4fa6317004f6562c264e416abbcbc89babdc2d986bed20e0e9631c18a5", func := "kist/kistlaw02.MatInverts", spec := "matInverts", apart := false }
def MatInvertsSaid : Prop := matInvertsRow.holds Try.pinned (OpenSpec.ofChange matInvertsSpec)

/-- ITS FALSE NEIGHBOUR: 'it returns false'. Refute it at one input. -/
def matInvertsWrong : ChangeSpec := { name := "matInverts", fn := fun _ => fun
  | [d] => { results := [.lit (.bool false)], args := [d] }
  | _ => none }
def MatInvertsWrongFalsely : Prop := matInvertsRow.holds Try.pinned (OpenSpec.ofChange matInvertsWrong)

/-- 'kistlaw02.MatCode': WHATEVER THE INPUT: true; the input reads as it did. -/
def matCodeSpec : ChangeSpec := { name := "matCode", fn := fun _ => fun
  | [d1, d2] => { results := [.lit (.bool true)], args := [d1, d2] }
  | _ => none }
def matCodeRow : OpenClaim := { program := "ytpeilgeloaogfaa", sum := "50d4dd4fa6317004f6562c264e416abbcbc89babdc2d986bed20e0e9631c18a5", func := "kist/kistlaw02.MatCode", spec := "matCode", apart := false }
def MatCodeSaid : Prop := matCodeRow.holds Try.pinned (OpenSpec.ofChange matCodeSpec)

/-- ITS FALSE NEIGHBOUR: 'it returns false'. Refute it at one input. -/
def matCodeWrong : ChangeSpec := { name := "matCode", fn := fun _ => fun
  | [d1, d2] => { results := [.lit (.bool false)], args := [d1, d2] }
  | _ => none }
def MatCodeWrongFalsely : Prop := matCodeRow.holds Try.pinned (OpenSpec.ofChange matCodeWrong)

/-- 'kistlaw02.MatAny': WHATEVER THE INPUT: true; the input reads as it did. -/
def matAnySpec : ChangeSpec := { name := "matAny", fn := fun _ => fun
  | [d1, d2, d3, d4] => { results := [.lit (.bool true)], args := [d1, d2, d3, d4] }
  | _ => none }
def matAnyRow : OpenClaim := { program := "ytpeilgeloaogfaa", sum := "50d4dd4fa6317004f6562c264e416abbcbc89babdc2d986bed20e0e9631c18a5", func := "kist/kistlaw02.MatAny", spec := "matAny", apart := false }
def MatAnySaid : Prop := matAnyRow.holds Try.pinned (OpenSpec.ofChange matAnySpec)

/-- ITS FALSE NEIGHBOUR: 'it returns false'. Refute it at one input. -/
def matAnyWrong : ChangeSpec := { name := "matAny", fn := fun _ => fun
  | [d1, d2, d3, d4] => { results := [.lit (.bool false)], args := [d1, d2, d3, d4] }
  | _ => none }
def MatAnyWrongFalsely : Prop := matAnyRow.holds Try.pinned (OpenSpec.ofChange matAnyWrong)

/-- 'kistlaw02.MatGroups': WHATEVER THE INPUT: true; the input reads as it did. -/
def matGroupsSpec : ChangeSpec := { name := "matGroups", fn := fun _ => fun
  | [d1, d2, d3] => { results := [.lit (.bool true)], args := [d1, d2, d3] }
  | _ => none }
def matGroupsRow : OpenClaim := { program := "ytpeilgeloaogfaa", sum := "50d4dd4fa6317004f6562c264e416abbcbc89babdc2d986bed20e0e9631c18a5", func := "kist/kistlaw02.MatGroups", spec := "matGroups", apart := false }
def MatGroupsSaid : Prop := matGroupsRow.holds Try.pinned (OpenSpec.ofChange matGroupsSpec)

/-- ITS FALSE NEIGHBOUR: 'it returns false'. Refute it at one input. -/
def matGroupsWrong : ChangeSpec := { name := "matGroups", fn := fun _ => fun
  | [d1, d2, d3] => { results := [.lit (.bool false)], args := [d1, d2, d3] }
  | _ => none }
def MatGroupsWrongFalsely : Prop := matGroupsRow.holds Try.pinned (OpenSpec.ofChange matGroupsWrong)

/-- 'kistlaw02.MatBack': WHATEVER THE INPUT: true; the input reads as it did. -/
def matBackSpec : ChangeSpec := { name := "matBack", fn := fun _ => fun
  | [d1, d2] => { results := [.lit (.bool true)], args := [d1, d2] }
  | _ => none }
def matBackRow : OpenClaim := { program := "ytpeilgeloaogfaa", sum := "50d4dd4fa6317004f6562c264e416abbcbc89babdc2d986bed20e0e9631c18a5", func := "kist/kistlaw02.MatBack", spec := "matBack", apart := false }
def MatBackSaid : Prop := matBackRow.holds Try.pinned (OpenSpec.ofChange matBackSpec)

/-- ITS FALSE NEIGHBOUR: 'it returns false'. Refute it at one input. -/
def matBackWrong : ChangeSpec := { name := "matBack", fn := fun _ => fun
  | [d1, d2] => { results := [.lit (.bool false)], args := [d1, d2] }
  | _ => none }
def MatBackWrongFalsely : Prop := matBackRow.holds Try.pinned (OpenSpec.ofChange matBackWrong)

/-- 'kistlaw03.RsEncodes': WHATEVER THE INPUT: true; the input reads as it did. -/
def rsEncodesSpec : ChangeSpec := { name := "rsEncodes", fn := fun _ => fun
  | [d] => { results := [.lit (.bool true)], args := [d] }
  | _ => none }
def rsEncodesRow : OpenClaim := { program := "ytpeilgeloaogfaa", sum := "50d4dd4fa6317004f6562c264e416abbcbc89babdc2d986bed20e0e9631c18a5", func := "kist/kistlaw03.RsEncodes", spec := "rsEncodes", unfollowed := true, recurses := true, apart := false }
def RsEncodesSaid : Prop := rsEncodesRow.holds Try.pinned (OpenSpec.ofChange rsEncodesSpec)

/-- ITS FALSE NEIGHBOUR: 'it returns false'. Refute it at one input. -/
def rsEncodesWrong : ChangeSpec := { name := "rsEncodes", fn := fun _ => fun
  | [d] => { results := [.lit (.bool false)], args := [d] }
  | _ => none }
def RsEncodesWrongFalsely : Prop := rsEncodesRow.holds Try.pinned (OpenSpec.ofChange rsEncodesWrong)

/-- 'kistlaw03.RsDecodes': WHATEVER THE INPUT: true; the input reads as it did. -/
def rsDecodesSpec : ChangeSpec := { name := "rsDecodes", fn := fun _ => fun
  | [d] => { results := [.lit (.bool true)], args := [d] }
  | _ => none }
def rsDecodesRow : OpenClaim := { program := "ytpeilgeloaogfaa", sum := "50d4dd4fa6317004f6562c264e416abbcbc89babdc2d986bed20e0e9631c18a5", func := "kist/kistlaw03.RsDecodes", spec := "rsDecodes", unfollowed := true, recurses := true, apart := false }
def RsDecodesSaid : Prop := rsDecodesRow.holds Try.pinned (OpenSpec.ofChange rsDecodesSpec)

/-- ITS FALSE NEIGHBOUR: 'it returns false'. Refute it at one input. -/
def rsDecodesWrong : ChangeSpec := { name := "rsDecodes", fn := fun _ => fun
  | [d] => { results := [.lit (.bool false)], args := [d] }
  | _ => none }
def RsDecodesWrongFalsely : Prop := rsDecodesRow.holds Try.pinned (OpenSpec.ofChange rsDecodesWrong)

/-- 'kistlaw03.RsFills': WHATEVER THE INPUT: true; the input reads as it did. -/
def rsFillsSpec : ChangeSpec := { name := "rsFills", fn := fun _ => fun
  | [d] => { results := [.lit (.bool true)], args := [d] }
  | _ => none }
def rsFillsRow : OpenClaim := { program := "ytpeilgeloaogfaa", sum := "50d4dd4fa6317004f6562c264e416abbcbc89babdc2d986bed20e0e9631c18a5", func := "kist/kistlaw03.RsFills", spec := "rsFills", unfollowed := true, recurses := true, apart := false }
def RsFillsSaid : Prop := rsFillsRow.holds Try.pinned (OpenSpec.ofChange rsFillsSpec)

/-- ITS FALSE NEIGHBOUR: 'it returns false'. Refute it at one input. -/
def rsFillsWrong : ChangeSpec := { name := "rsFills", fn := fun _ => fun
  | [d] => { results := [.lit (.bool false)], args := [d] }
  | _ => none }
def RsFillsWrongFalsely : Prop := rsFillsRow.holds Try.pinned (OpenSpec.ofChange rsFillsWrong)

/-- 'kistlaw03.RsAny': WHATEVER THE INPUT: true; the input reads as it did. -/
def rsAnySpec : ChangeSpec := { name := "rsAny", fn := fun _ => fun
  | [d1, d2] => { results := [.lit (.bool true)], args := [d1, d2] }
  | _ => none }
def rsAnyRow : OpenClaim := { program := "ytpeilgeloaogfaa", sum := "50d4dd4fa6317004f6562c264e416abbcbc89babdc2d986bed20e0e9631c18a5", func := "kist/kistlaw03.RsAny", spec := "rsAny", unfollowed := true, recurses := true, apart := false }
def RsAnySaid : Prop := rsAnyRow.holds Try.pinned (OpenSpec.ofChange rsAnySpec)

/-- ITS FALSE NEIGHBOUR: 'it returns false'. Refute it at one input. -/
def rsAnyWrong : ChangeSpec := { name := "rsAny", fn := fun _ => fun
  | [d1, d2] => { results := [.lit (.bool false)], args := [d1, d2] }
  | _ => none }
def RsAnyWrongFalsely : Prop := rsAnyRow.holds Try.pinned (OpenSpec.ofChange rsAnyWrong)

/-- 'kistlaw03.RsSums': WHATEVER THE INPUT: true; the input reads as it did. -/
def rsSumsSpec : ChangeSpec := { name := "rsSums", fn := fun _ => fun
  | [d1, d2] => { results := [.lit (.bool true)], args := [d1, d2] }
  | _ => none }
def rsSumsRow : OpenClaim := { program := "ytpeilgeloaogfaa", sum := "50d4dd4fa6317004f6562c264e416abbcbc89babdc2d986bed20e0e9631c18a5", func := "kist/kistlaw03.RsSums", spec := "rsSums", unfollowed := true, recurses := true, apart := false }
def RsSumsSaid : Prop := rsSumsRow.holds Try.pinned (OpenSpec.ofChange rsSumsSpec)

/-- ITS FALSE NEIGHBOUR: 'it returns false'. Refute it at one input. -/
def rsSumsWrong : ChangeSpec := { name := "rsSums", fn := fun _ => fun
  | [d1, d2] => { results := [.lit (.bool false)], args := [d1, d2] }
  | _ => none }
def RsSumsWrongFalsely : Prop := rsSumsRow.holds Try.pinned (OpenSpec.ofChange rsSumsWrong)

/-- 'kistlaw03.RsWrong': WHATEVER THE INPUT: true; the input reads as it did. -/
def rsWrongSpec : ChangeSpec := { name := "rsWrong", fn := fun _ => fun
  | [d1, d2] => { results := [.lit (.bool true)], args := [d1, d2] }
  | _ => none }
def rsWrongRow : OpenClaim := { program := "ytpeilgeloaogfaa", sum := "50d4dd4fa6317004f6562c264e416abbcbc89babdc2d986bed20e0e9631c18a5", func := "kist/kistlaw03.RsWrong", spec := "rsWrong", unfollowed := true, recurses := true, apart := false }
def RsWrongSaid : Prop := rsWrongRow.holds Try.pinned (OpenSpec.ofChange rsWrongSpec)

/-- ITS FALSE NEIGHBOUR: 'it returns false'. Refute it at one input. -/
def rsWrongWrong : ChangeSpec := { name := "rsWrong", fn := fun _ => fun
  | [d1, d2] => { results := [.lit (.bool false)], args := [d1, d2] }
  | _ => none }
def RsWrongWrongFalsely : Prop := rsWrongRow.holds Try.pinned (OpenSpec.ofChange rsWrongWrong)

/-- 'kistlaw05.DigOf': WHATEVER THE INPUT: true; the input reads as it did. -/
def digOfSpec : ChangeSpec := { name := "digOf", fn := fun _ => fun
  | [d] => { results := [.lit (.bool true)], args := [d] }
  | _ => none }
def digOfRow : OpenClaim := { program := "ytpeilgeloaogfaa", sum := "50d4dd4fa6317004f6562c264e416abbcbc89babdc2d986bed20e0e9631c18a5", func := "kist/kistlaw05.DigOf", spec := "digOf", unfollowed := true, recurses := true, apart := false }
def DigOfSaid : Prop := digOfRow.holds Try.pinned (OpenSpec.ofChange digOfSpec)

/-- ITS FALSE NEIGHBOUR: 'it returns false'. Refute it at one input. -/
def digOfWrong : ChangeSpec := { name := "digOf", fn := fun _ => fun
  | [d] => { results := [.lit (.bool false)], args := [d] }
  | _ => none }
def DigOfWrongFalsely : Prop := digOfRow.holds Try.pinned (OpenSpec.ofChange digOfWrong)

/-- 'kistlaw05.DigRow': WHATEVER THE INPUT: true; the input reads as it did. -/
def digRowSpec : ChangeSpec := { name := "digRow", fn := fun _ => fun
  | [d1, d2] => { results := [.lit (.bool true)], args := [d1, d2] }
  | _ => none }
def digRowRow : OpenClaim := { program := "ytpeilgeloaogfaa", sum := "50d4dd4fa6317004f6562c264e416abbcbc89babdc2d986bed20e0e9631c18a5", func := "kist/kistlaw05.DigRow", spec := "digRow", unfollowed := true, recurses := true, apart := false }
def DigRowSaid : Prop := digRowRow.holds Try.pinned (OpenSpec.ofChange digRowSpec)

/-- ITS FALSE NEIGHBOUR: 'it returns false'. Refute it at one input. -/
def digRowWrong : ChangeSpec := { name := "digRow", fn := fun _ => fun
  | [d1, d2] => { results := [.lit (.bool false)], args := [d1, d2] }
  | _ => none }
def DigRowWrongFalsely : Prop := digRowRow.holds Try.pinned (OpenSpec.ofChange digRowWrong)

/-- 'kistlaw05.DigKeeps': WHATEVER THE INPUT: true; the input reads as it did. -/
def digKeepsSpec : ChangeSpec := { name := "digKeeps", fn := fun _ => fun
  | [d1, d2] => { results := [.lit (.bool true)], args := [d1, d2] }
  | _ => none }
def digKeepsRow : OpenClaim := { program := "ytpeilgeloaogfaa", sum := "50d4dd4fa6317004f6562c264e416abbcbc89babdc2d986bed20e0e9631c18a5", func := "kist/kistlaw05.DigKeeps", spec := "digKeeps", unfollowed := true, recurses := true, apart := false }
def DigKeepsSaid : Prop := digKeepsRow.holds Try.pinned (OpenSpec.ofChange digKeepsSpec)

/-- ITS FALSE NEIGHBOUR: 'it returns false'. Refute it at one input. -/
def digKeepsWrong : ChangeSpec := { name := "digKeeps", fn := fun _ => fun
  | [d1, d2] => { results := [.lit (.bool false)], args := [d1, d2] }
  | _ => none }
def DigKeepsWrongFalsely : Prop := digKeepsRow.holds Try.pinned (OpenSpec.ofChange digKeepsWrong)

/-- 'kistlaw18.BlobSplits': WHATEVER THE INPUT: true; the input reads as it did. -/
def blobSplitsSpec : ChangeSpec := { name := "blobSplits", fn := fun _ => fun
  | [d1, d2] => { results := [.lit (.bool true)], args := [d1, d2] }
  | _ => none }
def blobSplitsRow : OpenClaim := { program := "ytpeilgeloaogfaa", sum := "50d4dd4fa6317004f6562c264e416abbcbc89babdc2d986bed20e0e9631c18a5", func := "kist/kistlaw18.BlobSplits", spec := "blobSplits", unfollowed := true, recurses := true, apart := false }
def BlobSplitsSaid : Prop := blobSplitsRow.holds Try.pinned (OpenSpec.ofChange blobSplitsSpec)

/-- ITS FALSE NEIGHBOUR: 'it returns false'. Refute it at one input. -/
def blobSplitsWrong : ChangeSpec := { name := "blobSplits", fn := fun _ => fun
  | [d1, d2] => { results := [.lit (.bool false)], args := [d1, d2] }
  | _ => none }
def BlobSplitsWrongFalsely : Prop := blobSplitsRow.holds Try.pinned (OpenSpec.ofChange blobSplitsWrong)

/-- 'kistlaw18.BlobJoins': WHATEVER THE INPUT: true; the input reads as it did. -/
def blobJoinsSpec : ChangeSpec := { name := "blobJoins", fn := fun _ => fun
  | [d1, d2] => { results := [.lit (.bool true)], args := [d1, d2] }
  | _ => none }
def blobJoinsRow : OpenClaim := { program := "ytpeilgeloaogfaa", sum := "50d4dd4fa6317004f6562c264e416abbcbc89babdc2d986bed20e0e9631c18a5", func := "kist/kistlaw18.BlobJoins", spec := "blobJoins", unfollowed := true, recurses := true, apart := false }
def BlobJoinsSaid : Prop := blobJoinsRow.holds Try.pinned (OpenSpec.ofChange blobJoinsSpec)

/-- ITS FALSE NEIGHBOUR: 'it returns false'. Refute it at one input. -/
def blobJoinsWrong : ChangeSpec := { name := "blobJoins", fn := fun _ => fun
  | [d1, d2] => { results := [.lit (.bool false)], args := [d1, d2] }
  | _ => none }
def BlobJoinsWrongFalsely : Prop := blobJoinsRow.holds Try.pinned (OpenSpec.ofChange blobJoinsWrong)

/-- 'kistlaw18.BlobRecords': WHATEVER THE INPUT: true; the input reads as it did. -/
def blobRecordsSpec : ChangeSpec := { name := "blobRecords", fn := fun _ => fun
  | [d1, d2, d3] => { results := [.lit (.bool true)], args := [d1, d2, d3] }
  | _ => none }
def blobRecordsRow : OpenClaim := { program := "ytpeilgeloaogfaa", sum := "50d4dd4fa6317004f6562c264e416abbcbc89babdc2d986bed20e0e9631c18a5", func := "kist/kistlaw18.BlobRecords", spec := "blobRecords", unfollowed := true, recurses := true, apart := false }
def BlobRecordsSaid : Prop := blobRecordsRow.holds Try.pinned (OpenSpec.ofChange blobRecordsSpec)

/-- ITS FALSE NEIGHBOUR: 'it returns false'. Refute it at one input. -/
def blobRecordsWrong : ChangeSpec := { name := "blobRecords", fn := fun _ => fun
  | [d1, d2, d3] => { results := [.lit (.bool false)], args := [d1, d2, d3] }
  | _ => none }
def BlobRecordsWrongFalsely : Prop := blobRecordsRow.holds Try.pinned (OpenSpec.ofChange blobRecordsWrong)

/-- 'kistlaw18.BlobBack': WHATEVER THE INPUT: true; the input reads as it did. -/
def blobBackSpec : ChangeSpec := { name := "blobBack", fn := fun _ => fun
  | [d1, d2] => { results := [.lit (.bool true)], args := [d1, d2] }
  | _ => none }
def blobBackRow : OpenClaim := { program := "ytpeilgeloaogfaa", sum := "50d4dd4fa6317004f6562c264e416abbcbc89babdc2d986bed20e0e9631c18a5", func := "kist/kistlaw18.BlobBack", spec := "blobBack", unfollowed := true, recurses := true, apart := false }
def BlobBackSaid : Prop := blobBackRow.holds Try.pinned (OpenSpec.ofChange blobBackSpec)

/-- ITS FALSE NEIGHBOUR: 'it returns false'. Refute it at one input. -/
def blobBackWrong : ChangeSpec := { name := "blobBack", fn := fun _ => fun
  | [d1, d2] => { results := [.lit (.bool false)], args := [d1, d2] }
  | _ => none }
def BlobBackWrongFalsely : Prop := blobBackRow.holds Try.pinned (OpenSpec.ofChange blobBackWrong)

/-- 'kistlaw18.BlobShards': WHATEVER THE INPUT: true; the input reads as it did. -/
def blobShardsSpec : ChangeSpec := { name := "blobShards", fn := fun _ => fun
  | [d1, d2, d3, d4] => { results := [.lit (.bool true)], args := [d1, d2, d3, d4] }
  | _ => none }
def blobShardsRow : OpenClaim := { program := "ytpeilgeloaogfaa", sum := "50d4dd4fa6317004f6562c264e416abbcbc89babdc2d986bed20e0e9631c18a5", func := "kist/kistlaw18.BlobShards", spec := "blobShards", unfollowed := true, recurses := true, apart := false }
def BlobShardsSaid : Prop := blobShardsRow.holds Try.pinned (OpenSpec.ofChange blobShardsSpec)

/-- ITS FALSE NEIGHBOUR: 'it returns false'. Refute it at one input. -/
def blobShardsWrong : ChangeSpec := { name := "blobShards", fn := fun _ => fun
  | [d1, d2, d3, d4] => { results := [.lit (.bool false)], args := [d1, d2, d3, d4] }
  | _ => none }
def BlobShardsWrongFalsely : Prop := blobShardsRow.holds Try.pinned (OpenSpec.ofChange blobShardsWrong)

/-- 'kistlaw19.PlanGood': WHATEVER THE INPUT: true; the input reads as it did. -/
def planGoodSpec : ChangeSpec := { name := "planGood", fn := fun _ => fun
  | [d1, d2, d3] => { results := [.lit (.bool true)], args := [d1, d2, d3] }
  | _ => none }
def planGoodRow : OpenClaim := { program := "ytpeilgeloaogfaa", sum := "50d4dd4fa6317004f6562c264e416abbcbc89babdc2d986bed20e0e9631c18a5", func := "kist/kistlaw19.PlanGood", spec := "planGood", unfollowed := true, recurses := true, apart := false }
def PlanGoodSaid : Prop := planGoodRow.holds Try.pinned (OpenSpec.ofChange planGoodSpec)

/-- ITS FALSE NEIGHBOUR: 'it returns false'. Refute it at one input. -/
def planGoodWrong : ChangeSpec := { name := "planGood", fn := fun _ => fun
  | [d1, d2, d3] => { results := [.lit (.bool false)], args := [d1, d2, d3] }
  | _ => none }
def PlanGoodWrongFalsely : Prop := planGoodRow.holds Try.pinned (OpenSpec.ofChange planGoodWrong)

/-- 'kistlaw19.PlanFirst': WHATEVER THE INPUT: true; the input reads as it did. -/
def planFirstSpec : ChangeSpec := { name := "planFirst", fn := fun _ => fun
  | [d1, d2, d3] => { results := [.lit (.bool true)], args := [d1, d2, d3] }
  | _ => none }
def planFirstRow : OpenClaim := { program := "ytpeilgeloaogfaa", sum := "50d4dd4fa6317004f6562c264e416abbcbc89babdc2d986bed20e0e9631c18a5", func := "kist/kistlaw19.PlanFirst", spec := "planFirst", unfollowed := true, recurses := true, apart := false }
def PlanFirstSaid : Prop := planFirstRow.holds Try.pinned (OpenSpec.ofChange planFirstSpec)

/-- ITS FALSE NEIGHBOUR: 'it returns false'. Refute it at one input. -/
def planFirstWrong : ChangeSpec := { name := "planFirst", fn := fun _ => fun
  | [d1, d2, d3] => { results := [.lit (.bool false)], args := [d1, d2, d3] }
  | _ => none }
def PlanFirstWrongFalsely : Prop := planFirstRow.holds Try.pinned (OpenSpec.ofChange planFirstWrong)

/-- 'kistlaw19.PlanWhole': WHATEVER THE INPUT: true; the input reads as it did. -/
def planWholeSpec : ChangeSpec := { name := "planWhole", fn := fun _ => fun
  | [d1, d2] => { results := [.lit (.bool true)], args := [d1, d2] }
  | _ => none }
def planWholeRow : OpenClaim := { program := "ytpeilgeloaogfaa", sum := "50d4dd4fa6317004f6562c264e416abbcbc89babdc2d986bed20e0e9631c18a5", func := "kist/kistlaw19.PlanWhole", spec := "planWhole", unfollowed := true, recurses := true, apart := false }
def PlanWholeSaid : Prop := planWholeRow.holds Try.pinned (OpenSpec.ofChange planWholeSpec)

/-- ITS FALSE NEIGHBOUR: 'it returns false'. Refute it at one input. -/
def planWholeWrong : ChangeSpec := { name := "planWhole", fn := fun _ => fun
  | [d1, d2] => { results := [.lit (.bool false)], args := [d1, d2] }
  | _ => none }
def PlanWholeWrongFalsely : Prop := planWholeRow.holds Try.pinned (OpenSpec.ofChange planWholeWrong)

/-- 'kistlaw19.PlanMine': WHATEVER THE INPUT: true; the input reads as it did. -/
def planMineSpec : ChangeSpec := { name := "planMine", fn := fun _ => fun
  | [d1, d2, d3, d4, d5] => { results := [.lit (.bool true)], args := [d1, d2, d3, d4, d5] }
  | _ => none }
def planMineRow : OpenClaim := { program := "ytpeilgeloaogfaa", sum := "50d4dd4fa6317004f6562c264e416abbcbc89babdc2d986bed20e0e9631c18a5", func := "kist/kistlaw19.PlanMine", spec := "planMine", unfollowed := true, recurses := true, apart := false }
def PlanMineSaid : Prop := planMineRow.holds Try.pinned (OpenSpec.ofChange planMineSpec)

/-- ITS FALSE NEIGHBOUR: 'it returns false'. Refute it at one input. -/
def planMineWrong : ChangeSpec := { name := "planMine", fn := fun _ => fun
  | [d1, d2, d3, d4, d5] => { results := [.lit (.bool false)], args := [d1, d2, d3, d4, d5] }
  | _ => none }
def PlanMineWrongFalsely : Prop := planMineRow.holds Try.pinned (OpenSpec.ofChange planMineWrong)

/-- 'kistlaw19.PlanReads': WHATEVER THE INPUT: true; the input reads as it did. -/
def planReadsSpec : ChangeSpec := { name := "planReads", fn := fun _ => fun
  | [d1, d2] => { results := [.lit (.bool true)], args := [d1, d2] }
  | _ => none }
def planReadsRow : OpenClaim := { program := "ytpeilgeloaogfaa", sum := "50d4dd4fa6317004f6562c264e416abbcbc89babdc2d986bed20e0e9631c18a5", func := "kist/kistlaw19.PlanReads", spec := "planReads", unfollowed := true, recurses := true, apart := false }
def PlanReadsSaid : Prop := planReadsRow.holds Try.pinned (OpenSpec.ofChange planReadsSpec)

/-- ITS FALSE NEIGHBOUR: 'it returns false'. Refute it at one input. -/
def planReadsWrong : ChangeSpec := { name := "planReads", fn := fun _ => fun
  | [d1, d2] => { results := [.lit (.bool false)], args := [d1, d2] }
  | _ => none }
def PlanReadsWrongFalsely : Prop := planReadsRow.holds Try.pinned (OpenSpec.ofChange planReadsWrong)

/-- 'kistlaw19.PlanWrong': WHATEVER THE INPUT: true; the input reads as it did. -/
def planWrongSpec : ChangeSpec := { name := "planWrong", fn := fun _ => fun
  | [d1, d2, d3] => { results := [.lit (.bool true)], args := [d1, d2, d3] }
  | _ => none }
def planWrongRow : OpenClaim := { program := "ytpeilgeloaogfaa", sum := "50d4dd4fa6317004f6562c264e416abbcbc89babdc2d986bed20e0e9631c18a5", func := "kist/kistlaw19.PlanWrong", spec := "planWrong", unfollowed := true, recurses := true, apart := false }
def PlanWrongSaid : Prop := planWrongRow.holds Try.pinned (OpenSpec.ofChange planWrongSpec)

/-- ITS FALSE NEIGHBOUR: 'it returns false'. Refute it at one input. -/
def planWrongWrong : ChangeSpec := { name := "planWrong", fn := fun _ => fun
  | [d1, d2, d3] => { results := [.lit (.bool false)], args := [d1, d2, d3] }
  | _ => none }
def PlanWrongWrongFalsely : Prop := planWrongRow.holds Try.pinned (OpenSpec.ofChange planWrongWrong)

/- THE SECOND FORM. 'bulk': how many values and letters a reading holds, each counted each time it is reached (what is shared counts as often as it is met; a slice's spare places count too). A statement '..UptoSaid' is the law's where the arguments, and the package variables that the reading takes, are together of bulk at most 1048576: NARROWER than '..Said'. Prove '..Said' where nothing that the law and all that it calls make is longer than what came in: it says more and counts as full. Else prove '..UptoSaid'. A law counts once. -/
mutual
def uptoBulk {H : Type} : DataW H → Nat
  | .lit (.string bytes) => bytes.length + 1
  | .lit _ => 1
  | .nil => 1
  | .ptr d => uptoBulk d + 1
  | .slice elems spare => uptoBulkAll elems + uptoBulkAll spare + 1
  | .agg parts => uptoBulkAll parts + 1
  | .iface _ d => uptoBulk d + 1
  | .map entries => uptoBulkEntries entries + 1
  | .held _ => 1
def uptoBulkAll {H : Type} : List (DataW H) → Nat
  | [] => 0
  | d :: r => uptoBulk d + uptoBulkAll r
def uptoBulkEntries {H : Type} : List (Lit × DataW H) → Nat
  | [] => 0
  | x :: r => uptoBulkEntry x + uptoBulkEntries r
def uptoBulkEntry {H : Type} : Lit × DataW H → Nat
  | (.string bytes, d) => bytes.length + uptoBulk d + 1
  | (_, d) => uptoBulk d + 1
 end
def uptoSmall : (H : Type) → List (DataW H) → Bool := fun _ ds => decide (uptoBulkAll ds ≤ 1048576)
def OpenSpec.upto (s : _root_.Go.ChangeSpec) : _root_.Go.OpenSpec := { _root_.Go.OpenSpec.ofChange s with cond := some uptoSmall }

/-- 'kistlaw02.MatTimes', WHERE WHAT IT READS IS OF BULK AT MOST 1048576: true; the input reads as it did. -/
def matTimesUptoRow : OpenClaim := { program := "ytpeilgeloaogfaa", sum := "50d4dd4fa6317004f6562c264e416abbcbc89babdc2d986bed20e0e9631c18a5", func := "kist/kistlaw02.MatTimes", spec := "matTimes", apart := false, narrowed := true }
def MatTimesUptoSaid : Prop := matTimesUptoRow.holds Try.pinned (OpenSpec.upto matTimesSpec)

/-- 'kistlaw02.MatInverts', WHERE WHAT IT READS IS OF BULK AT MOST 1048576: true; the input reads as it did. -/
def matInvertsUptoRow : OpenClaim := { program := "ytpeilgeloaogfaa", sum := "50d4dd4fa6317004f6562c264e416abbcbc89babdc2d986bed20e0e9631c18a5", func := "kist/kistlaw02.MatInverts", spec := "matInverts", apart := false, narrowed := true }
def MatInvertsUptoSaid : Prop := matInvertsUptoRow.holds Try.pinned (OpenSpec.upto matInvertsSpec)

/-- 'kistlaw02.MatCode', WHERE WHAT IT READS IS OF BULK AT MOST 1048576: true; the input reads as it did. -/
def matCodeUptoRow : OpenClaim := { program := "ytpeilgeloaogfaa", sum := "50d4dd4fa6317004f6562c264e416abbcbc89babdc2d986bed20e0e9631c18a5", func := "kist/kistlaw02.MatCode", spec := "matCode", apart := false, narrowed := true }
def MatCodeUptoSaid : Prop := matCodeUptoRow.holds Try.pinned (OpenSpec.upto matCodeSpec)

/-- 'kistlaw02.MatAny', WHERE WHAT IT READS IS OF BULK AT MOST 1048576: true; the input reads as it did. -/
def matAnyUptoRow : OpenClaim := { program := "ytpeilgeloaogfaa", sum := "50d4dd4fa6317004f6562c264e416abbcbc89babdc2d986bed20e0e9631c18a5", func := "kist/kistlaw02.MatAny", spec := "matAny", apart := false, narrowed := true }
def MatAnyUptoSaid : Prop := matAnyUptoRow.holds Try.pinned (OpenSpec.upto matAnySpec)

/-- 'kistlaw02.MatGroups', WHERE WHAT IT READS IS OF BULK AT MOST 1048576: true; the input reads as it did. -/
def matGroupsUptoRow : OpenClaim := { program := "ytpeilgeloaogfaa", sum := "50d4dd4fa6317004f6562c264e416abbcbc89babdc2d986bed20e0e9631c18a5", func := "kist/kistlaw02.MatGroups", spec := "matGroups", apart := false, narrowed := true }
def MatGroupsUptoSaid : Prop := matGroupsUptoRow.holds Try.pinned (OpenSpec.upto matGroupsSpec)

/-- 'kistlaw02.MatBack', WHERE WHAT IT READS IS OF BULK AT MOST 1048576: true; the input reads as it did. -/
def matBackUptoRow : OpenClaim := { program := "ytpeilgeloaogfaa", sum := "50d4dd4fa6317004f6562c264e416abbcbc89babdc2d986bed20e0e9631c18a5", func := "kist/kistlaw02.MatBack", spec := "matBack", apart := false, narrowed := true }
def MatBackUptoSaid : Prop := matBackUptoRow.holds Try.pinned (OpenSpec.upto matBackSpec)

/-- 'kistlaw03.RsEncodes', WHERE WHAT IT READS IS OF BULK AT MOST 1048576: true; the input reads as it did. -/
def rsEncodesUptoRow : OpenClaim := { program := "ytpeilgeloaogfaa", sum := "50d4dd4fa6317004f6562c264e416abbcbc89babdc2d986bed20e0e9631c18a5", func := "kist/kistlaw03.RsEncodes", spec := "rsEncodes", unfollowed := true, recurses := true, apart := false, narrowed := true }
def RsEncodesUptoSaid : Prop := rsEncodesUptoRow.holds Try.pinned (OpenSpec.upto rsEncodesSpec)

/-- 'kistlaw03.RsDecodes', WHERE WHAT IT READS IS OF BULK AT MOST 1048576: true; the input reads as it did. -/
def rsDecodesUptoRow : OpenClaim := { program := "ytpeilgeloaogfaa", sum := "50d4dd4fa6317004f6562c264e416abbcbc89babdc2d986bed20e0e9631c18a5", func := "kist/kistlaw03.RsDecodes", spec := "rsDecodes", unfollowed := true, recurses := true, apart := false, narrowed := true }
def RsDecodesUptoSaid : Prop := rsDecodesUptoRow.holds Try.pinned (OpenSpec.upto rsDecodesSpec)

/-- 'kistlaw03.RsFills', WHERE WHAT IT READS IS OF BULK AT MOST 1048576: true; the input reads as it did. -/
def rsFillsUptoRow : OpenClaim := { program := "ytpeilgeloaogfaa", sum := "50d4dd4fa6317004f6562c264e416abbcbc89babdc2d986bed20e0e9631c18a5", func := "kist/kistlaw03.RsFills", spec := "rsFills", unfollowed := true, recurses := true, apart := false, narrowed := true }
def RsFillsUptoSaid : Prop := rsFillsUptoRow.holds Try.pinned (OpenSpec.upto rsFillsSpec)

/-- 'kistlaw03.RsAny', WHERE WHAT IT READS IS OF BULK AT MOST 1048576: true; the input reads as it did. -/
def rsAnyUptoRow : OpenClaim := { program := "ytpeilgeloaogfaa", sum := "50d4dd4fa6317004f6562c264e416abbcbc89babdc2d986bed20e0e9631c18a5", func := "kist/kistlaw03.RsAny", spec := "rsAny", unfollowed := true, recurses := true, apart := false, narrowed := true }
def RsAnyUptoSaid : Prop := rsAnyUptoRow.holds Try.pinned (OpenSpec.upto rsAnySpec)

/-- 'kistlaw03.RsSums', WHERE WHAT IT READS IS OF BULK AT MOST 1048576: true; the input reads as it did. -/
def rsSumsUptoRow : OpenClaim := { program := "ytpeilgeloaogfaa", sum := "50d4dd4fa6317004f6562c264e416abbcbc89babdc2d986bed20e0e9631c18a5", func := "kist/kistlaw03.RsSums", spec := "rsSums", unfollowed := true, recurses := true, apart := false, narrowed := true }
def RsSumsUptoSaid : Prop := rsSumsUptoRow.holds Try.pinned (OpenSpec.upto rsSumsSpec)

/-- 'kistlaw03.RsWrong', WHERE WHAT IT READS IS OF BULK AT MOST 1048576: true; the input reads as it did. -/
def rsWrongUptoRow : OpenClaim := { program := "ytpeilgeloaogfaa", sum := "50d4dd4fa6317004f6562c264e416abbcbc89babdc2d986bed20e0e9631c18a5", func := "kist/kistlaw03.RsWrong", spec := "rsWrong", unfollowed := true, recurses := true, apart := false, narrowed := true }
def RsWrongUptoSaid : Prop := rsWrongUptoRow.holds Try.pinned (OpenSpec.upto rsWrongSpec)

/-- 'kistlaw05.DigOf', WHERE WHAT IT READS IS OF BULK AT MOST 1048576: true; the input reads as it did. -/
def digOfUptoRow : OpenClaim := { program := "ytpeilgeloaogfaa", sum := "50d4dd4fa6317004f6562c264e416abbcbc89babdc2d986bed20e0e9631c18a5", func := "kist/kistlaw05.DigOf", spec := "digOf", unfollowed := true, recurses := true, apart := false, narrowed := true }
def DigOfUptoSaid : Prop := digOfUptoRow.holds Try.pinned (OpenSpec.upto digOfSpec)

/-- 'kistlaw05.DigRow', WHERE WHAT IT READS IS OF BULK AT MOST 1048576: true; the input reads as it did. -/
def digRowUptoRow : OpenClaim := { program := "ytpeilgeloaogfaa", sum := "50d4dd4fa6317004f6562c264e416abbcbc89babdc2d986bed20e0e9631c18a5", func := "kist/kistlaw05.DigRow", spec := "digRow", unfollowed := true, recurses := true, apart := false, narrowed := true }
def DigRowUptoSaid : Prop := digRowUptoRow.holds Try.pinned (OpenSpec.upto digRowSpec)

/-- 'kistlaw05.DigKeeps', WHERE WHAT IT READS IS OF BULK AT MOST 1048576: true; the input reads as it did. -/
def digKeepsUptoRow : OpenClaim := { program := "ytpeilgeloaogfaa", sum := "50d4dd4fa6317004f6562c264e416abbcbc89babdc2d986bed20e0e9631c18a5", func := "kist/kistlaw05.DigKeeps", spec := "digKeeps", unfollowed := true, recurses := true, apart := false, narrowed := true }
def DigKeepsUptoSaid : Prop := digKeepsUptoRow.holds Try.pinned (OpenSpec.upto digKeepsSpec)

/-- 'kistlaw18.BlobSplits', WHERE WHAT IT READS IS OF BULK AT MOST 1048576: true; the input reads as it did. -/
def blobSplitsUptoRow : OpenClaim := { program := "ytpeilgeloaogfaa", sum := "50d4dd4fa6317004f6562c264e416abbcbc89babdc2d986bed20e0e9631c18a5", func := "kist/kistlaw18.BlobSplits", spec := "blobSplits", unfollowed := true, recurses := true, apart := false, narrowed := true }
def BlobSplitsUptoSaid : Prop := blobSplitsUptoRow.holds Try.pinned (OpenSpec.upto blobSplitsSpec)

/-- 'kistlaw18.BlobJoins', WHERE WHAT IT READS IS OF BULK AT MOST 1048576: true; the input reads as it did. -/
def blobJoinsUptoRow : OpenClaim := { program := "ytpeilgeloaogfaa", sum := "50d4dd4fa6317004f6562c264e416abbcbc89babdc2d986bed20e0e9631c18a5", func := "kist/kistlaw18.BlobJoins", spec := "blobJoins", unfollowed := true, recurses := true, apart := false, narrowed := true }
def BlobJoinsUptoSaid : Prop := blobJoinsUptoRow.holds Try.pinned (OpenSpec.upto blobJoinsSpec)

/-- 'kistlaw18.BlobRecords', WHERE WHAT IT READS IS OF BULK AT MOST 1048576: true; the input reads as it did. -/
def blobRecordsUptoRow : OpenClaim := { program := "ytpeilgeloaogfaa", sum := "50d4dd4fa6317004f6562c264e416abbcbc89babdc2d986bed20e0e9631c18a5", func := "kist/kistlaw18.BlobRecords", spec := "blobRecords", unfollowed := true, recurses := true, apart := false, narrowed := true }
def BlobRecordsUptoSaid : Prop := blobRecordsUptoRow.holds Try.pinned (OpenSpec.upto blobRecordsSpec)

/-- 'kistlaw18.BlobBack', WHERE WHAT IT READS IS OF BULK AT MOST 1048576: true; the input reads as it did. -/
def blobBackUptoRow : OpenClaim := { program := "ytpeilgeloaogfaa", sum := "50d4dd4fa6317004f6562c264e416abbcbc89babdc2d986bed20e0e9631c18a5", func := "kist/kistlaw18.BlobBack", spec := "blobBack", unfollowed := true, recurses := true, apart := false, narrowed := true }
def BlobBackUptoSaid : Prop := blobBackUptoRow.holds Try.pinned (OpenSpec.upto blobBackSpec)

/-- 'kistlaw18.BlobShards', WHERE WHAT IT READS IS OF BULK AT MOST 1048576: true; the input reads as it did. -/
def blobShardsUptoRow : OpenClaim := { program := "ytpeilgeloaogfaa", sum := "50d4dd4fa6317004f6562c264e416abbcbc89babdc2d986bed20e0e9631c18a5", func := "kist/kistlaw18.BlobShards", spec := "blobShards", unfollowed := true, recurses := true, apart := false, narrowed := true }
def BlobShardsUptoSaid : Prop := blobShardsUptoRow.holds Try.pinned (OpenSpec.upto blobShardsSpec)

/-- 'kistlaw19.PlanGood', WHERE WHAT IT READS IS OF BULK AT MOST 1048576: true; the input reads as it did. -/
def planGoodUptoRow : OpenClaim := { program := "ytpeilgeloaogfaa", sum := "50d4dd4fa6317004f6562c264e416abbcbc89babdc2d986bed20e0e9631c18a5", func := "kist/kistlaw19.PlanGood", spec := "planGood", unfollowed := true, recurses := true, apart := false, narrowed := true }
def PlanGoodUptoSaid : Prop := planGoodUptoRow.holds Try.pinned (OpenSpec.upto planGoodSpec)

/-- 'kistlaw19.PlanFirst', WHERE WHAT IT READS IS OF BULK AT MOST 1048576: true; the input reads as it did. -/
def planFirstUptoRow : OpenClaim := { program := "ytpeilgeloaogfaa", sum := "50d4dd4fa6317004f6562c264e416abbcbc89babdc2d986bed20e0e9631c18a5", func := "kist/kistlaw19.PlanFirst", spec := "planFirst", unfollowed := true, recurses := true, apart := false, narrowed := true }
def PlanFirstUptoSaid : Prop := planFirstUptoRow.holds Try.pinned (OpenSpec.upto planFirstSpec)

/-- 'kistlaw19.PlanWhole', WHERE WHAT IT READS IS OF BULK AT MOST 1048576: true; the input reads as it did. -/
def planWholeUptoRow : OpenClaim := { program := "ytpeilgeloaogfaa", sum := "50d4dd4fa6317004f6562c264e416abbcbc89babdc2d986bed20e0e9631c18a5", func := "kist/kistlaw19.PlanWhole", spec := "planWhole", unfollowed := true, recurses := true, apart := false, narrowed := true }
def PlanWholeUptoSaid : Prop := planWholeUptoRow.holds Try.pinned (OpenSpec.upto planWholeSpec)

/-- 'kistlaw19.PlanMine', WHERE WHAT IT READS IS OF BULK AT MOST 1048576: true; the input reads as it did. -/
def planMineUptoRow : OpenClaim := { program := "ytpeilgeloaogfaa", sum := "50d4dd4fa6317004f6562c264e416abbcbc89babdc2d986bed20e0e9631c18a5", func := "kist/kistlaw19.PlanMine", spec := "planMine", unfollowed := true, recurses := true, apart := false, narrowed := true }
def PlanMineUptoSaid : Prop := planMineUptoRow.holds Try.pinned (OpenSpec.upto planMineSpec)

/-- 'kistlaw19.PlanReads', WHERE WHAT IT READS IS OF BULK AT MOST 1048576: true; the input reads as it did. -/
def planReadsUptoRow : OpenClaim := { program := "ytpeilgeloaogfaa", sum := "50d4dd4fa6317004f6562c264e416abbcbc89babdc2d986bed20e0e9631c18a5", func := "kist/kistlaw19.PlanReads", spec := "planReads", unfollowed := true, recurses := true, apart := false, narrowed := true }
def PlanReadsUptoSaid : Prop := planReadsUptoRow.holds Try.pinned (OpenSpec.upto planReadsSpec)

/-- 'kistlaw19.PlanWrong', WHERE WHAT IT READS IS OF BULK AT MOST 1048576: true; the input reads as it did. -/
def planWrongUptoRow : OpenClaim := { program := "ytpeilgeloaogfaa", sum := "50d4dd4fa6317004f6562c264e416abbcbc89babdc2d986bed20e0e9631c18a5", func := "kist/kistlaw19.PlanWrong", spec := "planWrong", unfollowed := true, recurses := true, apart := false, narrowed := true }
def PlanWrongUptoSaid : Prop := planWrongUptoRow.holds Try.pinned (OpenSpec.upto planWrongSpec)

end Rows
end Go.Proofs.Ytpeilgeloaogfaa
