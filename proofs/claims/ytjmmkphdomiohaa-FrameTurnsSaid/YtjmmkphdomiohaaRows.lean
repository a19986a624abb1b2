/-
  No cell of these rows narrows 'for every input' (looked for: loops, veiled, ifaces, maps, wideKeys, modest, calm, conditions, laid).
  DERIVED. THE GIVEN ROWS OF THIS SEAT. 12 by the template 'for every input the law returns true; each argument reads behind the call as it read before'; 0 by the template 'total and deterministic' (their statements: YtjmmkphdomiohaaTotals.lean).
  GIVEN WITH THE SEED: the statements are not yours to turn. If you find one false, say at which input.
  Laid BY PROGRAM, IN A SANDBOX (cutbox-rows.mjs): the forced cells as the released guide's own fill.sh prints them over the translation ef1f488f8cedb976… (all of the seat's roots in one cut). By AI agents, Wed Nov 11 2026. No macro, syntax, notation, axiom, sorry.
-/
import Derived.Test.YtjmmkphdomiohaaChecked
import GoSem.Claim
import GoSem.ClaimJoined
import GoSem.ClaimMapViews
import Derived.JoinedTies
import Derived.KernelRfl
namespace Go.Proofs.Ytjmmkphdomiohaa
/- THE CELL 'sum', in the pinned program and in every row, IS THE sha256 OF THE DUMP (.gsa) THAT YtjmmkphdomiohaaProg.lean LOADS. Nothing in Lean hashes anything: it is a label: what it is worth is what the hold of that sum in a sandbox is worth. -/
noncomputable def Try.pinned : Pinned := { name := "ytjmmkphdomiohaa", sum := "ef1f488f8cedb97600ae83cd48d369c33c4c762479eb238801089cb434461c2a", checked := Try.checked }
namespace Rows
def none {H : Type} : Left H := { results := [], args := [] }

/-- 'dynposlaw02.AngleTurns': WHATEVER THE INPUT: true; the input reads as it did. -/
def angleTurnsSpec : ChangeSpec := { name := "angleTurns", fn := fun _ => fun
  | [d1, d2] => { results := [.lit (.bool true)], args := [d1, d2] }
  | _ => none }
def angleTurnsRow : OpenClaim := { program := "ytjmmkphdomiohaa", sum := "ef1f488f8cedb97600ae83cd48d369c33c4c762479eb238801089cb434461c2a", func := "dynpos/dynposlaw02.AngleTurns", spec := "angleTurns", unfollowed := true, recurses := true, apart := false }
def AngleTurnsSaid : Prop := angleTurnsRow.holds Try.pinned (OpenSpec.ofChange angleTurnsSpec)

/-- ITS FALSE NEIGHBOUR: 'it returns false'. Refute it at one input. -/
def angleTurnsWrong : ChangeSpec := { name := "angleTurns", fn := fun _ => fun
  | [d1, d2] => { results := [.lit (.bool false)], args := [d1, d2] }
  | _ => none }
def AngleTurnsWrongFalsely : Prop := angleTurnsRow.holds Try.pinned (OpenSpec.ofChange angleTurnsWrong)

/-- 'dynposlaw02.AngleSides': WHATEVER THE INPUT: true; the input reads as it did. -/
def angleSidesSpec : ChangeSpec := { name := "angleSides", fn := fun _ => fun
  | [d1, d2, d3, d4] => { results := [.lit (.bool true)], args := [d1, d2, d3, d4] }
  | _ => none }
def angleSidesRow : OpenClaim := { program := "ytjmmkphdomiohaa", sum := "ef1f488f8cedb97600ae83cd48d369c33c4c762479eb238801089cb434461c2a", func := "dynpos/dynposlaw02.AngleSides", spec := "angleSides", unfollowed := true, recurses := true, apart := false }
def AngleSidesSaid : Prop := angleSidesRow.holds Try.pinned (OpenSpec.ofChange angleSidesSpec)

/-- ITS FALSE NEIGHBOUR: 'it returns false'. Refute it at one input. -/
def angleSidesWrong : ChangeSpec := { name := "angleSides", fn := fun _ => fun
  | [d1, d2, d3, d4] => { results := [.lit (.bool false)], args := [d1, d2, d3, d4] }
  | _ => none }
def AngleSidesWrongFalsely : Prop := angleSidesRow.holds Try.pinned (OpenSpec.ofChange angleSidesWrong)

/-- 'dynposlaw02.AngleExact': WHATEVER THE INPUT: true; the input reads as it did. -/
def angleExactSpec : ChangeSpec := { name := "angleExact", fn := fun _ => fun
  | [d1, d2, d3, d4, d5, d6] => { results := [.lit (.bool true)], args := [d1, d2, d3, d4, d5, d6] }
  | _ => none }
def angleExactRow : OpenClaim := { program := "ytjmmkphdomiohaa", sum := "ef1f488f8cedb97600ae83cd48d369c33c4c762479eb238801089cb434461c2a", func := "dynpos/dynposlaw02.AngleExact", spec := "angleExact", unfollowed := true, recurses := true, apart := false }
def AngleExactSaid : Prop := angleExactRow.holds Try.pinned (OpenSpec.ofChange angleExactSpec)

/-- ITS FALSE NEIGHBOUR: 'it returns false'. Refute it at one input. -/
def angleExactWrong : ChangeSpec := { name := "angleExact", fn := fun _ => fun
  | [d1, d2, d3, d4, d5, d6] => { results := [.lit (.bool false)], args := [d1, d2, d3, d4, d5, d6] }
  | _ => none }
def AngleExactWrongFalsely : Prop := angleExactRow.holds Try.pinned (OpenSpec.ofChange angleExactWrong)

/-- 'dynposlaw02.AngleSines': WHATEVER THE INPUT: true; the input reads as it did. -/
def angleSinesSpec : ChangeSpec := { name := "angleSines", fn := fun _ => fun
  | [d] => { results := [.lit (.bool true)], args := [d] }
  | _ => none }
def angleSinesRow : OpenClaim := { program := "ytjmmkphdomiohaa", sum := "ef1f488f8cedb97600ae83cd48d369c33c4c762479eb238801089cb434461c2a", func := "dynpos/dynposlaw02.AngleSines", spec := "angleSines", unfollowed := true, recurses := true, apart := false }
def AngleSinesSaid : Prop := angleSinesRow.holds Try.pinned (OpenSpec.ofChange angleSinesSpec)

/-- ITS FALSE NEIGHBOUR: 'it returns false'. Refute it at one input. -/
def angleSinesWrong : ChangeSpec := { name := "angleSines", fn := fun _ => fun
  | [d] => { results := [.lit (.bool false)], args := [d] }
  | _ => none }
def AngleSinesWrongFalsely : Prop := angleSinesRow.holds Try.pinned (OpenSpec.ofChange angleSinesWrong)

/-- 'dynposlaw02.AngleDiffs': WHATEVER THE INPUT: true; the input reads as it did. -/
def angleDiffsSpec : ChangeSpec := { name := "angleDiffs", fn := fun _ => fun
  | [d1, d2, d3] => { results := [.lit (.bool true)], args := [d1, d2, d3] }
  | _ => none }
def angleDiffsRow : OpenClaim := { program := "ytjmmkphdomiohaa", sum := "ef1f488f8cedb97600ae83cd48d369c33c4c762479eb238801089cb434461c2a", func := "dynpos/dynposlaw02.AngleDiffs", spec := "angleDiffs", unfollowed := true, recurses := true, apart := false }
def AngleDiffsSaid : Prop := angleDiffsRow.holds Try.pinned (OpenSpec.ofChange angleDiffsSpec)

/-- ITS FALSE NEIGHBOUR: 'it returns false'. Refute it at one input. -/
def angleDiffsWrong : ChangeSpec := { name := "angleDiffs", fn := fun _ => fun
  | [d1, d2, d3] => { results := [.lit (.bool false)], args := [d1, d2, d3] }
  | _ => none }
def AngleDiffsWrongFalsely : Prop := angleDiffsRow.holds Try.pinned (OpenSpec.ofChange angleDiffsWrong)

/-- 'dynposlaw02.AngleArcs': WHATEVER THE INPUT: true; the input reads as it did. -/
def angleArcsSpec : ChangeSpec := { name := "angleArcs", fn := fun _ => fun
  | [d1, d2] => { results := [.lit (.bool true)], args := [d1, d2] }
  | _ => none }
def angleArcsRow : OpenClaim := { program := "ytjmmkphdomiohaa", sum := "ef1f488f8cedb97600ae83cd48d369c33c4c762479eb238801089cb434461c2a", func := "dynpos/dynposlaw02.AngleArcs", spec := "angleArcs", unfollowed := true, recurses := true, apart := false }
def AngleArcsSaid : Prop := angleArcsRow.holds Try.pinned (OpenSpec.ofChange angleArcsSpec)

/-- ITS FALSE NEIGHBOUR: 'it returns false'. Refute it at one input. -/
def angleArcsWrong : ChangeSpec := { name := "angleArcs", fn := fun _ => fun
  | [d1, d2] => { results := [.lit (.bool false)], args := [d1, d2] }
  | _ => none }
def AngleArcsWrongFalsely : Prop := angleArcsRow.holds Try.pinned (OpenSpec.ofChange angleArcsWrong)

/-- 'dynposlaw03.FrameLimits': WHATEVER THE INPUT: true; the input reads as it did. -/
def frameLimitsSpec : ChangeSpec := { name := "frameLimits", fn := fun _ => fun
  | [d] => { results := [.lit (.bool true)], args := [d] }
  | _ => none }
def frameLimitsRow : OpenClaim := { program := "ytjmmkphdomiohaa", sum := "ef1f488f8cedb97600ae83cd48d369c33c4c762479eb238801089cb434461c2a", func := "dynpos/dynposlaw03.FrameLimits", spec := "frameLimits", unfollowed := true, recurses := true, apart := false }
def FrameLimitsSaid : Prop := frameLimitsRow.holds Try.pinned (OpenSpec.ofChange frameLimitsSpec)

/-- ITS FALSE NEIGHBOUR: 'it returns false'. Refute it at one input. -/
def frameLimitsWrong : ChangeSpec := { name := "frameLimits", fn := fun _ => fun
  | [d] => { results := [.lit (.bool false)], args := [d] }
  | _ => none }
def FrameLimitsWrongFalsely : Prop := frameLimitsRow.holds Try.pinned (OpenSpec.ofChange frameLimitsWrong)

/-- 'dynposlaw03.FrameExact': WHATEVER THE INPUT: true; the input reads as it did. -/
def frameExactSpec : ChangeSpec := { name := "frameExact", fn := fun _ => fun
  | [d1, d2, d3, d4, d5, d6] => { results := [.lit (.bool true)], args := [d1, d2, d3, d4, d5, d6] }
  | _ => none }
def frameExactRow : OpenClaim := { program := "ytjmmkphdomiohaa", sum := "ef1f488f8cedb97600ae83cd48d369c33c4c762479eb238801089cb434461c2a", func := "dynpos/dynposlaw03.FrameExact", spec := "frameExact", unfollowed := true, recurses := true, apart := false }
def FrameExactSaid : Prop := frameExactRow.holds Try.pinned (OpenSpec.ofChange frameExactSpec)

/-- ITS FALSE NEIGHBOUR: 'it returns false'. Refute it at one input. -/
def frameExactWrong : ChangeSpec := { name := "frameExact", fn := fun _ => fun
  | [d1, d2, d3, d4, d5, d6] => { results := [.lit (.bool false)], args := [d1, d2, d3, d4, d5, d6] }
  | _ => none }
def FrameExactWrongFalsely : Prop := frameExactRow.holds Try.pinned (OpenSpec.ofChange frameExactWrong)

/-- 'dynposlaw03.FrameDistances': WHATEVER THE INPUT: true; the input reads as it did. -/
def frameDistancesSpec : ChangeSpec := { name := "frameDistances", fn := fun _ => fun
  | [d] => { results := [.lit (.bool true)], args := [d] }
  | _ => none }
def frameDistancesRow : OpenClaim := { program := "ytjmmkphdomiohaa", sum := "ef1f488f8cedb97600ae83cd48d369c33c4c762479eb238801089cb434461c2a", func := "dynpos/dynposlaw03.FrameDistances", spec := "frameDistances", unfollowed := true, recurses := true, apart := false }
def FrameDistancesSaid : Prop := frameDistancesRow.holds Try.pinned (OpenSpec.ofChange frameDistancesSpec)

/-- ITS FALSE NEIGHBOUR: 'it returns false'. Refute it at one input. -/
def frameDistancesWrong : ChangeSpec := { name := "frameDistances", fn := fun _ => fun
  | [d] => { results := [.lit (.bool false)], args := [d] }
  | _ => none }
def FrameDistancesWrongFalsely : Prop := frameDistancesRow.holds Try.pinned (OpenSpec.ofChange frameDistancesWrong)

/-- 'dynposlaw03.FrameTurns': WHATEVER THE INPUT: true; the input reads as it did. -/
def frameTurnsSpec : ChangeSpec := { name := "frameTurns", fn := fun _ => fun
  | [d1, d2] => { results := [.lit (.bool true)], args := [d1, d2] }
  | _ => none }
def frameTurnsRow : OpenClaim := { program := "ytjmmkphdomiohaa", sum := "ef1f488f8cedb97600ae83cd48d369c33c4c762479eb238801089cb434461c2a", func := "dynpos/dynposlaw03.FrameTurns", spec := "frameTurns", unfollowed := true, recurses := true, apart := false }
def FrameTurnsSaid : Prop := frameTurnsRow.holds Try.pinned (OpenSpec.ofChange frameTurnsSpec)

/-- ITS FALSE NEIGHBOUR: 'it returns false'. Refute it at one input. -/
def frameTurnsWrong : ChangeSpec := { name := "frameTurns", fn := fun _ => fun
  | [d1, d2] => { results := [.lit (.bool false)], args := [d1, d2] }
  | _ => none }
def FrameTurnsWrongFalsely : Prop := frameTurnsRow.holds Try.pinned (OpenSpec.ofChange frameTurnsWrong)

/-- 'dynposlaw03.FrameFrames': WHATEVER THE INPUT: true; the input reads as it did. -/
def frameFramesSpec : ChangeSpec := { name := "frameFrames", fn := fun _ => fun
  | [d] => { results := [.lit (.bool true)], args := [d] }
  | _ => none }
def frameFramesRow : OpenClaim := { program := "ytjmmkphdomiohaa", sum := "ef1f488f8cedb97600ae83cd48d369c33c4c762479eb238801089cb434461c2a", func := "dynpos/dynposlaw03.FrameFrames", spec := "frameFrames", unfollowed := true, recurses := true, apart := false }
def FrameFramesSaid : Prop := frameFramesRow.holds Try.pinned (OpenSpec.ofChange frameFramesSpec)

/-- ITS FALSE NEIGHBOUR: 'it returns false'. Refute it at one input. -/
def frameFramesWrong : ChangeSpec := { name := "frameFrames", fn := fun _ => fun
  | [d] => { results := [.lit (.bool false)], args := [d] }
  | _ => none }
def FrameFramesWrongFalsely : Prop := frameFramesRow.holds Try.pinned (OpenSpec.ofChange frameFramesWrong)

/-- 'dynposlaw24.ControlSigned': WHATEVER THE INPUT: true; the input reads as it did. -/
def controlSignedSpec : ChangeSpec := { name := "controlSigned", fn := fun _ => fun
  | [d] => { results := [.lit (.bool true)], args := [d] }
  | _ => none }
def controlSignedRow : OpenClaim := { program := "ytjmmkphdomiohaa", sum := "ef1f488f8cedb97600ae83cd48d369c33c4c762479eb238801089cb434461c2a", func := "dynpos/dynposlaw24.ControlSigned", spec := "controlSigned", unfollowed := true, recurses := true, apart := false }
def ControlSignedSaid : Prop := controlSignedRow.holds Try.pinned (OpenSpec.ofChange controlSignedSpec)

/-- ITS FALSE NEIGHBOUR: 'it returns false'. Refute it at one input. -/
def controlSignedWrong : ChangeSpec := { name := "controlSigned", fn := fun _ => fun
  | [d] => { results := [.lit (.bool false)], args := [d] }
  | _ => none }
def ControlSignedWrongFalsely : Prop := controlSignedRow.holds Try.pinned (OpenSpec.ofChange controlSignedWrong)

/- THE SECOND FORM. 'bulk': how many values and letters a reading holds, each counted each time it is reached (what is shared counts as often as it is met; a slice's spare places count too). A statement '..UptoSaid' is the law's where the arguments, and the package variables that the reading takes, are together of bulk at most 1048576: NARROWER than '..Said'. Prove '..Said' where nothing that the law and all that it calls make is longer than what came in: it says more and counts as full. Else prove '..UptoSaid'. A law counts once. -/
mutual
def uptoBulk {H : Type} : DataW H → Nat
  | .lit (.string bytes) => bytes.length + 1
  | .lit _ => 1
  | .nil => 1
  | .ptr d => uptoBulk d + 1
  | .slice elems spare => uptoBulkAll elems + uptoBulkAll spare + 1
  | .agg parts => uptoBulkAll parts + 1
  | .iface _ d => uptoBulk d + 1
  | .map entries => uptoBulkEntries entries + 1
  | .held _ => 1
def uptoBulkAll {H : Type} : List (DataW H) → Nat
  | [] => 0
  | d :: r => uptoBulk d + uptoBulkAll r
def uptoBulkEntries {H : Type} : List (Lit × DataW H) → Nat
  | [] => 0
  | x :: r => uptoBulkEntry x + uptoBulkEntries r
def uptoBulkEntry {H : Type} : Lit × DataW H → Nat
  | (.string bytes, d) => bytes.length + uptoBulk d + 1
  | (_, d) => uptoBulk d + 1
 end
def uptoSmall : (H : Type) → List (DataW H) → Bool := fun _ ds => decide (uptoBulkAll ds ≤ 1048576)
def OpenSpec.upto (s : _root_.Go.ChangeSpec) : _root_.Go.OpenSpec := { _root_.Go.OpenSpec.ofChange s with cond := some uptoSmall }

/-- 'dynposlaw02.AngleTurns', WHERE WHAT IT READS IS OF BULK AT MOST 1048576: true; the input reads as it did. -/
def angleTurnsUptoRow : OpenClaim := { program := "ytjmmkphdomiohaa", sum := "ef1f488f8cedb97600ae83cd48d369c33c4c762479eb238801089cb434461c2a", func := "dynpos/dynposlaw02.AngleTurns", spec := "angleTurns", unfollowed := true, recurses := true, apart := false, narrowed := true }
def AngleTurnsUptoSaid : Prop := angleTurnsUptoRow.holds Try.pinned (OpenSpec.upto angleTurnsSpec)

/-- 'dynposlaw02.AngleSides', WHERE WHAT IT READS IS OF BULK AT MOST 1048576: true; the input reads as it did. -/
def angleSidesUptoRow : OpenClaim := { program := "ytjmmkphdomiohaa", sum := "ef1f488f8cedb97600ae83cd48d369c33c4c762479eb238801089cb434461c2a", func := "dynpos/dynposlaw02.AngleSides", spec := "angleSides", unfollowed := true, recurses := true, apart := false, narrowed := true }
def AngleSidesUptoSaid : Prop := angleSidesUptoRow.holds Try.pinned (OpenSpec.upto angleSidesSpec)

/-- 'dynposlaw02.AngleExact', WHERE WHAT IT READS IS OF BULK AT MOST 1048576: true; the input reads as it did. -/
def angleExactUptoRow : OpenClaim := { program := "ytjmmkphdomiohaa", sum := "ef1f488f8cedb97600ae83cd48d369c33c4c762479eb238801089cb434461c2a", func := "dynpos/dynposlaw02.AngleExact", spec := "angleExact", unfollowed := true, recurses := true, apart := false, narrowed := true }
def AngleExactUptoSaid : Prop := angleExactUptoRow.holds Try.pinned (OpenSpec.upto angleExactSpec)

/-- 'dynposlaw02.AngleSines', WHERE WHAT IT READS IS OF BULK AT MOST 1048576: true; the input reads as it did. -/
def angleSinesUptoRow : OpenClaim := { program := "ytjmmkphdomiohaa", sum := "ef1f488f8cedb97600ae83cd48d369c33c4c762479eb238801089cb434461c2a", func := "dynpos/dynposlaw02.AngleSines", spec := "angleSines", unfollowed := true, recurses := true, apart := false, narrowed := true }
def AngleSinesUptoSaid : Prop := angleSinesUptoRow.holds Try.pinned (OpenSpec.upto angleSinesSpec)

/-- 'dynposlaw02.AngleDiffs', WHERE WHAT IT READS IS OF BULK AT MOST 1048576: true; the input reads as it did. -/
def angleDiffsUptoRow : OpenClaim := { program := "ytjmmkphdomiohaa", sum := "ef1f488f8cedb97600ae83cd48d369c33c4c762479eb238801089cb434461c2a", func := "dynpos/dynposlaw02.AngleDiffs", spec := "angleDiffs", unfollowed := true, recurses := true, apart := false, narrowed := true }
def AngleDiffsUptoSaid : Prop := angleDiffsUptoRow.holds Try.pinned (OpenSpec.upto angleDiffsSpec)

/-- 'dynposlaw02.AngleArcs', WHERE WHAT IT READS IS OF BULK AT MOST 1048576: true; the input reads as it did. -/
def angleArcsUptoRow : OpenClaim := { program := "ytjmmkphdomiohaa", sum := "ef1f488f8cedb97600ae83cd48d369c33c4c762479eb238801089cb434461c2a", func := "dynpos/dynposlaw02.AngleArcs", spec := "angleArcs", unfollowed := true, recurses := true, apart := false, narrowed := true }
def AngleArcsUptoSaid : Prop := angleArcsUptoRow.holds Try.pinned (OpenSpec.upto angleArcsSpec)

/-- 'dynposlaw03.FrameLimits', WHERE WHAT IT READS IS OF BULK AT MOST 1048576: true; the input reads as it did. -/
def frameLimitsUptoRow : OpenClaim := { program := "ytjmmkphdomiohaa", sum := "ef1f488f8cedb97600ae83cd48d369c33c4c762479eb238801089cb434461c2a", func := "dynpos/dynposlaw03.FrameLimits", spec := "frameLimits", unfollowed := true, recurses := true, apart := false, narrowed := true }
def FrameLimitsUptoSaid : Prop := frameLimitsUptoRow.holds Try.pinned (OpenSpec.upto frameLimitsSpec)

/-- 'dynposlaw03.FrameExact', WHERE WHAT IT READS IS OF BULK AT MOST 1048576: true; the input reads as it did. -/
def frameExactUptoRow : OpenClaim := { program := "ytjmmkphdomiohaa", sum := "ef1f488f8cedb97600ae83cd48d369c33c4c762479eb238801089cb434461c2a", func := "dynpos/dynposlaw03.FrameExact", spec := "frameExact", unfollowed := true, recurses := true, apart := false, narrowed := true }
def FrameExactUptoSaid : Prop := frameExactUptoRow.holds Try.pinned (OpenSpec.upto frameExactSpec)

/-- 'dynposlaw03.FrameDistances', WHERE WHAT IT READS IS OF BULK AT MOST 1048576: true; the input reads as it did. -/
def frameDistancesUptoRow : OpenClaim := { program := "ytjmmkphdomiohaa", sum := "ef1f488f8cedb97600ae83cd48d369c33c4c762479eb238801089cb434461c2a", func := "dynpos/dynposlaw03.FrameDistances", spec := "frameDistances", unfollowed := true, recurses := true, apart := false, narrowed := true }
def FrameDistancesUptoSaid : Prop := frameDistancesUptoRow.holds Try.pinned (OpenSpec.upto frameDistancesSpec)

/-- 'dynposlaw03.FrameTurns', WHERE WHAT IT READS IS OF BULK AT MOST 1048576: true; the input reads as it did. -/
def frameTurnsUptoRow : OpenClaim := { program := "ytjmmkphdomiohaa", sum := "ef1f488f8cedb97600ae83cd48d369c33c4c762479eb238801089cb434461c2a", func := "dynpos/dynposlaw03.FrameTurns", spec := "frameTurns", unfollowed := true, recurses := true, apart := false, narrowed := true }
def FrameTurnsUptoSaid : Prop := frameTurnsUptoRow.holds Try.pinned (OpenSpec.upto frameTurnsSpec)

/-- 'dynposlaw03.FrameFrames', WHERE WHAT IT READS IS OF BULK AT MOST 1048576: true; the input reads as it did. -/
def frameFramesUptoRow : OpenClaim := { program := "ytjmmkphdomiohaa", sum := "ef1f488f8cedb97600ae83cd48d369c33c4c762479eb238801089cb434461c2a", func := "dynpos/dynposlaw03.FrameFrames", spec := "frameFrames", unfollowed := true, recurses := true, apart := false, narrowed := true }
def FrameFramesUptoSaid : Prop := frameFramesUptoRow.holds Try.pinned (OpenSpec.upto frameFramesSpec)

/-- 'dynposlaw24.ControlSigned', WHERE WHAT IT READS IS OF BULK AT MOST 1048576: true; the input reads as it did. -/
def controlSignedUptoRow : OpenClaim := { program := "ytjmmkphdomiohaa", sum := "ef1f488f8cedb97600ae83cd48d369c33c4c762479eb238801089cb434461c2a", func := "dynpos/dynposlaw24.ControlSigned", spec := "controlSigned", unfollowed := true, recurses := true, apart := false, narrowed := true }
def ControlSignedUptoSaid : Prop := controlSignedUptoRow.holds Try.pinned (OpenSpec.upto controlSignedSpec)

end Rows
end Go.Proofs.Ytjmmkphdomiohaa
