/-
  No cell of these rows narrows 'for every input' (looked for: loops, veiled, ifaces, maps, wideKeys, modest, calm, conditions, laid).
  DERIVED. THE GIVEN ROWS OF THIS SEAT. 12 by the template 'for every input the law returns true; each argument reads behind the call as it read before'; 0 by the template 'total and deterministic' (their statements: YthfagiihfkjamaaTotals.lean).
  GIVEN WITH THE SEED: the statements are not yours to turn. If you find one false, say at which input.
  Laid BY PROGRAM, IN A SANDBOX (cutbox-rows.mjs): the forced cells as the released guide's own fill.sh prints them over the translation 0aaa00f4efd26ffc… (all of the seat's roots in one cut). By AI agents, Wed Nov 11 2026. No macro, syntax, notation, axiom, sorry.
-/
import Derived.Test.YthfagiihfkjamaaChecked
import GoSem.Claim
import GoSem.ClaimJoined
import GoSem.ClaimMapViews
import Derived.JoinedTies
import Derived.KernelRfl
namespace Go.Proofs.Ythfagiihfkjamaa
/- THE CELL 'sum', in the pinned program and in every row, IS THE sha256 OF THE DUMP (.gsa) THAT YthfagiihfkjamaaProg.lean LOADS. Nothing in Lean hashes anything: it is a label: what it is worth is what the hold of that sum in a sandbox is worth. -/
noncomputable def Try.pinned : Pinned := { name := "ythfagiihfkjamaa", sum := "0aaa00f4efd26ffc86e29a43268dac98a1beb92698d928ae1fa410fe19e843f5", checked := Try.checked }
namespace Rows
def none {H : Type} : Left H := { results := [], args := [] }

/-- 'dynposlaw24.ControlExact': WHATEVER THE INPUT: true; the input reads as it did. -/
def controlExactSpec : ChangeSpec := { name := "controlExact", fn := fun _ => fun
  | [d1, d2, d3, d4, d5, d6] => { results := [.lit (.bool true)], args := [d1, d2, d3, d4, d5, d6] }
  | _ => none }
def controlExactRow : OpenClaim := { program := "ythfagiihfkjamaa", sum := "0aaa00f4efd26ffc86e29a43268dac98a1beb92698d928ae1fa410fe19e843f5", func := "dynpos/dynposlaw24.ControlExact", spec := "controlExact", unfollowed := true, recurses := true, apart := false }
def ControlExactSaid : Prop := controlExactRow.holds Try.pinned (OpenSpec.ofChange controlExactSpec)

/-- ITS FALSE NEIGHBOUR: 'it returns false'. Refute it at one input. -/
def controlExactWrong : ChangeSpec := { name := "controlExact", fn := fun _ => fun
  | [d1, d2, d3, d4, d5, d6] => { results := [.lit (.bool false)], args := [d1, d2, d3, d4, d5, d6] }
  | _ => none }
def ControlExactWrongFalsely : Prop := controlExactRow.holds Try.pinned (OpenSpec.ofChange controlExactWrong)

/-- 'dynposlaw24.ControlRests': WHATEVER THE INPUT: true; the input reads as it did. -/
def controlRestsSpec : ChangeSpec := { name := "controlRests", fn := fun _ => fun
  | [d] => { results := [.lit (.bool true)], args := [d] }
  | _ => none }
def controlRestsRow : OpenClaim := { program := "ythfagiihfkjamaa", sum := "0aaa00f4efd26ffc86e29a43268dac98a1beb92698d928ae1fa410fe19e843f5", func := "dynpos/dynposlaw24.ControlRests", spec := "controlRests", unfollowed := true, recurses := true, apart := false }
def ControlRestsSaid : Prop := controlRestsRow.holds Try.pinned (OpenSpec.ofChange controlRestsSpec)

/-- ITS FALSE NEIGHBOUR: 'it returns false'. Refute it at one input. -/
def controlRestsWrong : ChangeSpec := { name := "controlRests", fn := fun _ => fun
  | [d] => { results := [.lit (.bool false)], args := [d] }
  | _ => none }
def ControlRestsWrongFalsely : Prop := controlRestsRow.holds Try.pinned (OpenSpec.ofChange controlRestsWrong)

/-- 'dynposlaw24.ControlBounds': WHATEVER THE INPUT: true; the input reads as it did. -/
def controlBoundsSpec : ChangeSpec := { name := "controlBounds", fn := fun _ => fun
  | [d] => { results := [.lit (.bool true)], args := [d] }
  | _ => none }
def controlBoundsRow : OpenClaim := { program := "ythfagiihfkjamaa", sum := "0aaa00f4efd26ffc86e29a43268dac98a1beb92698d928ae1fa410fe19e843f5", func := "dynpos/dynposlaw24.ControlBounds", spec := "controlBounds", unfollowed := true, recurses := true, apart := false }
def ControlBoundsSaid : Prop := controlBoundsRow.holds Try.pinned (OpenSpec.ofChange controlBoundsSpec)

/-- ITS FALSE NEIGHBOUR: 'it returns false'. Refute it at one input. -/
def controlBoundsWrong : ChangeSpec := { name := "controlBounds", fn := fun _ => fun
  | [d] => { results := [.lit (.bool false)], args := [d] }
  | _ => none }
def ControlBoundsWrongFalsely : Prop := controlBoundsRow.holds Try.pinned (OpenSpec.ofChange controlBoundsWrong)

/-- 'dynposlaw24.ControlShifts': WHATEVER THE INPUT: true; the input reads as it did. -/
def controlShiftsSpec : ChangeSpec := { name := "controlShifts", fn := fun _ => fun
  | [d1, d2, d3] => { results := [.lit (.bool true)], args := [d1, d2, d3] }
  | _ => none }
def controlShiftsRow : OpenClaim := { program := "ythfagiihfkjamaa", sum := "0aaa00f4efd26ffc86e29a43268dac98a1beb92698d928ae1fa410fe19e843f5", func := "dynpos/dynposlaw24.ControlShifts", spec := "controlShifts", unfollowed := true, recurses := true, apart := false }
def ControlShiftsSaid : Prop := controlShiftsRow.holds Try.pinned (OpenSpec.ofChange controlShiftsSpec)

/-- ITS FALSE NEIGHBOUR: 'it returns false'. Refute it at one input. -/
def controlShiftsWrong : ChangeSpec := { name := "controlShifts", fn := fun _ => fun
  | [d1, d2, d3] => { results := [.lit (.bool false)], args := [d1, d2, d3] }
  | _ => none }
def ControlShiftsWrongFalsely : Prop := controlShiftsRow.holds Try.pinned (OpenSpec.ofChange controlShiftsWrong)

/-- 'dynposlaw24.ControlDirects': WHATEVER THE INPUT: true; the input reads as it did. -/
def controlDirectsSpec : ChangeSpec := { name := "controlDirects", fn := fun _ => fun
  | [d] => { results := [.lit (.bool true)], args := [d] }
  | _ => none }
def controlDirectsRow : OpenClaim := { program := "ythfagiihfkjamaa", sum := "0aaa00f4efd26ffc86e29a43268dac98a1beb92698d928ae1fa410fe19e843f5", func := "dynpos/dynposlaw24.ControlDirects", spec := "controlDirects", unfollowed := true, recurses := true, apart := false }
def ControlDirectsSaid : Prop := controlDirectsRow.holds Try.pinned (OpenSpec.ofChange controlDirectsSpec)

/-- ITS FALSE NEIGHBOUR: 'it returns false'. Refute it at one input. -/
def controlDirectsWrong : ChangeSpec := { name := "controlDirects", fn := fun _ => fun
  | [d] => { results := [.lit (.bool false)], args := [d] }
  | _ => none }
def ControlDirectsWrongFalsely : Prop := controlDirectsRow.holds Try.pinned (OpenSpec.ofChange controlDirectsWrong)

/-- 'dynposlaw24.ControlSigned': WHATEVER THE INPUT: true; the input reads as it did. -/
def controlSignedSpec : ChangeSpec := { name := "controlSigned", fn := fun _ => fun
  | [d] => { results := [.lit (.bool true)], args := [d] }
  | _ => none }
def controlSignedRow : OpenClaim := { program := "ythfagiihfkjamaa", sum := "0aaa00f4efd26ffc86e29a43268dac98a1beb92698d928ae1fa410fe19e843f5", func := "dynpos/dynposlaw24.ControlSigned", spec := "controlSigned", unfollowed := true, recurses := true, apart := false }
def ControlSignedSaid : Prop := controlSignedRow.holds Try.pinned (OpenSpec.ofChange controlSignedSpec)

/-- ITS FALSE NEIGHBOUR: 'it returns false'. Refute it at one input. -/
def controlSignedWrong : ChangeSpec := { name := "controlSigned", fn := fun _ => fun
  | [d] => { results := [.lit (.bool false)], args := [d] }
  | _ => none }
def ControlSignedWrongFalsely : Prop := controlSignedRow.holds Try.pinned (OpenSpec.ofChange controlSignedWrong)

/-- 'dynposlaw29.CircleExact': WHATEVER THE INPUT: true; the input reads as it did. -/
def circleExactSpec : ChangeSpec := { name := "circleExact", fn := fun _ => fun
  | [d1, d2, d3, d4] => { results := [.lit (.bool true)], args := [d1, d2, d3, d4] }
  | _ => none }
def circleExactRow : OpenClaim := { program := "ythfagiihfkjamaa", sum := "0aaa00f4efd26ffc86e29a43268dac98a1beb92698d928ae1fa410fe19e843f5", func := "dynpos/dynposlaw29.CircleExact", spec := "circleExact", unfollowed := true, recurses := true, apart := false }
def CircleExactSaid : Prop := circleExactRow.holds Try.pinned (OpenSpec.ofChange circleExactSpec)

/-- ITS FALSE NEIGHBOUR: 'it returns false'. Refute it at one input. -/
def circleExactWrong : ChangeSpec := { name := "circleExact", fn := fun _ => fun
  | [d1, d2, d3, d4] => { results := [.lit (.bool false)], args := [d1, d2, d3, d4] }
  | _ => none }
def CircleExactWrongFalsely : Prop := circleExactRow.holds Try.pinned (OpenSpec.ofChange circleExactWrong)

/-- 'dynposlaw29.CircleCovers': WHATEVER THE INPUT: true; the input reads as it did. -/
def circleCoversSpec : ChangeSpec := { name := "circleCovers", fn := fun _ => fun
  | [d1, d2, d3] => { results := [.lit (.bool true)], args := [d1, d2, d3] }
  | _ => none }
def circleCoversRow : OpenClaim := { program := "ythfagiihfkjamaa", sum := "0aaa00f4efd26ffc86e29a43268dac98a1beb92698d928ae1fa410fe19e843f5", func := "dynpos/dynposlaw29.CircleCovers", spec := "circleCovers", unfollowed := true, recurses := true, apart := false }
def CircleCoversSaid : Prop := circleCoversRow.holds Try.pinned (OpenSpec.ofChange circleCoversSpec)

/-- ITS FALSE NEIGHBOUR: 'it returns false'. Refute it at one input. -/
def circleCoversWrong : ChangeSpec := { name := "circleCovers", fn := fun _ => fun
  | [d1, d2, d3] => { results := [.lit (.bool false)], args := [d1, d2, d3] }
  | _ => none }
def CircleCoversWrongFalsely : Prop := circleCoversRow.holds Try.pinned (OpenSpec.ofChange circleCoversWrong)

/-- 'dynposlaw29.CircleGrows': WHATEVER THE INPUT: true; the input reads as it did. -/
def circleGrowsSpec : ChangeSpec := { name := "circleGrows", fn := fun _ => fun
  | [d1, d2] => { results := [.lit (.bool true)], args := [d1, d2] }
  | _ => none }
def circleGrowsRow : OpenClaim := { program := "ythfagiihfkjamaa", sum := "0aaa00f4efd26ffc86e29a43268dac98a1beb92698d928ae1fa410fe19e843f5", func := "dynpos/dynposlaw29.CircleGrows", spec := "circleGrows", unfollowed := true, recurses := true, apart := false }
def CircleGrowsSaid : Prop := circleGrowsRow.holds Try.pinned (OpenSpec.ofChange circleGrowsSpec)

/-- ITS FALSE NEIGHBOUR: 'it returns false'. Refute it at one input. -/
def circleGrowsWrong : ChangeSpec := { name := "circleGrows", fn := fun _ => fun
  | [d1, d2] => { results := [.lit (.bool false)], args := [d1, d2] }
  | _ => none }
def CircleGrowsWrongFalsely : Prop := circleGrowsRow.holds Try.pinned (OpenSpec.ofChange circleGrowsWrong)

/-- 'dynposlaw29.CircleLeft': WHATEVER THE INPUT: true; the input reads as it did. -/
def circleLeftSpec : ChangeSpec := { name := "circleLeft", fn := fun _ => fun
  | [d1, d2] => { results := [.lit (.bool true)], args := [d1, d2] }
  | _ => none }
def circleLeftRow : OpenClaim := { program := "ythfagiihfkjamaa", sum := "0aaa00f4efd26ffc86e29a43268dac98a1beb92698d928ae1fa410fe19e843f5", func := "dynpos/dynposlaw29.CircleLeft", spec := "circleLeft", unfollowed := true, recurses := true, apart := false }
def CircleLeftSaid : Prop := circleLeftRow.holds Try.pinned (OpenSpec.ofChange circleLeftSpec)

/-- ITS FALSE NEIGHBOUR: 'it returns false'. Refute it at one input. -/
def circleLeftWrong : ChangeSpec := { name := "circleLeft", fn := fun _ => fun
  | [d1, d2] => { results := [.lit (.bool false)], args := [d1, d2] }
  | _ => none }
def CircleLeftWrongFalsely : Prop := circleLeftRow.holds Try.pinned (OpenSpec.ofChange circleLeftWrong)

/-- 'dynposlaw29.CircleMoves': WHATEVER THE INPUT: true; the input reads as it did. -/
def circleMovesSpec : ChangeSpec := { name := "circleMoves", fn := fun _ => fun
  | [d1, d2, d3] => { results := [.lit (.bool true)], args := [d1, d2, d3] }
  | _ => none }
def circleMovesRow : OpenClaim := { program := "ythfagiihfkjamaa", sum := "0aaa00f4efd26ffc86e29a43268dac98a1beb92698d928ae1fa410fe19e843f5", func := "dynpos/dynposlaw29.CircleMoves", spec := "circleMoves", unfollowed := true, recurses := true, apart := false }
def CircleMovesSaid : Prop := circleMovesRow.holds Try.pinned (OpenSpec.ofChange circleMovesSpec)

/-- ITS FALSE NEIGHBOUR: 'it returns false'. Refute it at one input. -/
def circleMovesWrong : ChangeSpec := { name := "circleMoves", fn := fun _ => fun
  | [d1, d2, d3] => { results := [.lit (.bool false)], args := [d1, d2, d3] }
  | _ => none }
def CircleMovesWrongFalsely : Prop := circleMovesRow.holds Try.pinned (OpenSpec.ofChange circleMovesWrong)

/-- 'dynposlaw29.CircleNowhere': WHATEVER THE INPUT: true; the input reads as it did. -/
def circleNowhereSpec : ChangeSpec := { name := "circleNowhere", fn := fun _ => fun
  | [d] => { results := [.lit (.bool true)], args := [d] }
  | _ => none }
def circleNowhereRow : OpenClaim := { program := "ythfagiihfkjamaa", sum := "0aaa00f4efd26ffc86e29a43268dac98a1beb92698d928ae1fa410fe19e843f5", func := "dynpos/dynposlaw29.CircleNowhere", spec := "circleNowhere", unfollowed := true, recurses := true, apart := false }
def CircleNowhereSaid : Prop := circleNowhereRow.holds Try.pinned (OpenSpec.ofChange circleNowhereSpec)

/-- ITS FALSE NEIGHBOUR: 'it returns false'. Refute it at one input. -/
def circleNowhereWrong : ChangeSpec := { name := "circleNowhere", fn := fun _ => fun
  | [d] => { results := [.lit (.bool false)], args := [d] }
  | _ => none }
def CircleNowhereWrongFalsely : Prop := circleNowhereRow.holds Try.pinned (OpenSpec.ofChange circleNowhereWrong)

/- THE SECOND FORM. 'bulk': how many values and letters a reading holds, each counted each time it is reached (what is shared counts as often as it is met; a slice's spare places count too). A statement '..UptoSaid' is the law's where the arguments, and the package variables that the reading takes, are together of bulk at most 1048576: NARROWER than '..Said'. Prove '..Said' where nothing that the law and all that it calls make is longer than what came in: it says more and counts as full. Else prove '..UptoSaid'. A law counts once. -/
mutual
def uptoBulk {H : Type} : DataW H → Nat
  | .lit (.string bytes) => bytes.length + 1
  | .lit _ => 1
  | .nil => 1
  | .ptr d => uptoBulk d + 1
  | .slice elems spare => uptoBulkAll elems + uptoBulkAll spare + 1
  | .agg parts => uptoBulkAll parts + 1
  | .iface _ d => uptoBulk d + 1
  | .map entries => uptoBulkEntries entries + 1
  | .held _ => 1
def uptoBulkAll {H : Type} : List (DataW H) → Nat
  | [] => 0
  | d :: r => uptoBulk d + uptoBulkAll r
def uptoBulkEntries {H : Type} : List (Lit × DataW H) → Nat
  | [] => 0
  | x :: r => uptoBulkEntry x + uptoBulkEntries r
def uptoBulkEntry {H : Type} : Lit × DataW H → Nat
  | (.string bytes, d) => bytes.length + uptoBulk d + 1
  | (_, d) => uptoBulk d + 1
 end
def uptoSmall : (H : Type) → List (DataW H) → Bool := fun _ ds => decide (uptoBulkAll ds ≤ 1048576)
def OpenSpec.upto (s : _root_.Go.ChangeSpec) : _root_.Go.OpenSpec := { _root_.Go.OpenSpec.ofChange s with cond := some uptoSmall }

/-- 'dynposlaw24.ControlExact', WHERE WHAT IT READS IS OF BULK AT MOST 1048576: true; the input reads as it did. -/
def controlExactUptoRow : OpenClaim := { program := "ythfagiihfkjamaa", sum := "0aaa00f4efd26ffc86e29a43268dac98a1beb92698d928ae1fa410fe19e843f5", func := "dynpos/dynposlaw24.ControlExact", spec := "controlExact", unfollowed := true, recurses := true, apart := false, narrowed := true }
def ControlExactUptoSaid : Prop := controlExactUptoRow.holds Try.pinned (OpenSpec.upto controlExactSpec)

/-- 'dynposlaw24.ControlRests', WHERE WHAT IT READS IS OF BULK AT MOST 1048576: true; the input reads as it did. -/
def controlRestsUptoRow : OpenClaim := { program := "ythfagiihfkjamaa", sum := "0aaa00f4efd26ffc86e29a43268dac98a1beb92698d928ae1fa410fe19e843f5", func := "dynpos/dynposlaw24.ControlRests", spec := "controlRests", unfollowed := true, recurses := true, apart := false, narrowed := true }
def ControlRestsUptoSaid : Prop := controlRestsUptoRow.holds Try.pinned (OpenSpec.upto controlRestsSpec)

/-- 'dynposlaw24.ControlBounds', WHERE WHAT IT READS IS OF BULK AT MOST 1048576: true; the input reads as it did. -/
def controlBoundsUptoRow : OpenClaim := { program := "ythfagiihfkjamaa", sum := "0aaa00f4efd26ffc86e29a43268dac98a1beb92698d928ae1fa410fe19e843f5", func := "dynpos/dynposlaw24.ControlBounds", spec := "controlBounds", unfollowed := true, recurses := true, apart := false, narrowed := true }
def ControlBoundsUptoSaid : Prop := controlBoundsUptoRow.holds Try.pinned (OpenSpec.upto controlBoundsSpec)

/-- 'dynposlaw24.ControlShifts', WHERE WHAT IT READS IS OF BULK AT MOST 1048576: true; the input reads as it did. -/
def controlShiftsUptoRow : OpenClaim := { program := "ythfagiihfkjamaa", sum := "0aaa00f4efd26ffc86e29a43268dac98a1beb92698d928ae1fa410fe19e843f5", func := "dynpos/dynposlaw24.ControlShifts", spec := "controlShifts", unfollowed := true, recurses := true, apart := false, narrowed := true }
def ControlShiftsUptoSaid : Prop := controlShiftsUptoRow.holds Try.pinned (OpenSpec.upto controlShiftsSpec)

/-- 'dynposlaw24.ControlDirects', WHERE WHAT IT READS IS OF BULK AT MOST 1048576: true; the input reads as it did. -/
def controlDirectsUptoRow : OpenClaim := { program := "ythfagiihfkjamaa", sum := "0aaa00f4efd26ffc86e29a43268dac98a1beb92698d928ae1fa410fe19e843f5", func := "dynpos/dynposlaw24.ControlDirects", spec := "controlDirects", unfollowed := true, recurses := true, apart := false, narrowed := true }
def ControlDirectsUptoSaid : Prop := controlDirectsUptoRow.holds Try.pinned (OpenSpec.upto controlDirectsSpec)

/-- 'dynposlaw24.ControlSigned', WHERE WHAT IT READS IS OF BULK AT MOST 1048576: true; the input reads as it did. -/
def controlSignedUptoRow : OpenClaim := { program := "ythfagiihfkjamaa", sum := "0aaa00f4efd26ffc86e29a43268dac98a1beb92698d928ae1fa410fe19e843f5", func := "dynpos/dynposlaw24.ControlSigned", spec := "controlSigned", unfollowed := true, recurses := true, apart := false, narrowed := true }
def ControlSignedUptoSaid : Prop := controlSignedUptoRow.holds Try.pinned (OpenSpec.upto controlSignedSpec)

/-- 'dynposlaw29.CircleExact', WHERE WHAT IT READS IS OF BULK AT MOST 1048576: true; the input reads as it did. -/
def circleExactUptoRow : OpenClaim := { program := "ythfagiihfkjamaa", sum := "0aaa00f4efd26ffc86e29a43268dac98a1beb92698d928ae1fa410fe19e843f5", func := "dynpos/dynposlaw29.CircleExact", spec := "circleExact", unfollowed := true, recurses := true, apart := false, narrowed := true }
def CircleExactUptoSaid : Prop := circleExactUptoRow.holds Try.pinned (OpenSpec.upto circleExactSpec)

/-- 'dynposlaw29.CircleCovers', WHERE WHAT IT READS IS OF BULK AT MOST 1048576: true; the input reads as it did. -/
def circleCoversUptoRow : OpenClaim := { program := "ythfagiihfkjamaa", sum := "0aaa00f4efd26ffc86e29a43268dac98a1beb92698d928ae1fa410fe19e843f5", func := "dynpos/dynposlaw29.CircleCovers", spec := "circleCovers", unfollowed := true, recurses := true, apart := false, narrowed := true }
def CircleCoversUptoSaid : Prop := circleCoversUptoRow.holds Try.pinned (OpenSpec.upto circleCoversSpec)

/-- 'dynposlaw29.CircleGrows', WHERE WHAT IT READS IS OF BULK AT MOST 1048576: true; the input reads as it did. -/
def circleGrowsUptoRow : OpenClaim := { program := "ythfagiihfkjamaa", sum := "0aaa00f4efd26ffc86e29a43268dac98a1beb92698d928ae1fa410fe19e843f5", func := "dynpos/dynposlaw29.CircleGrows", spec := "circleGrows", unfollowed := true, recurses := true, apart := false, narrowed := true }
def CircleGrowsUptoSaid : Prop := circleGrowsUptoRow.holds Try.pinned (OpenSpec.upto circleGrowsSpec)

/-- 'dynposlaw29.CircleLeft', WHERE WHAT IT READS IS OF BULK AT MOST 1048576: true; the input reads as it did. -/
def circleLeftUptoRow : OpenClaim := { program := "ythfagiihfkjamaa", sum := "0aaa00f4efd26ffc86e29a43268dac98a1beb92698d928ae1fa410fe19e843f5", func := "dynpos/dynposlaw29.CircleLeft", spec := "circleLeft", unfollowed := true, recurses := true, apart := false, narrowed := true }
def CircleLeftUptoSaid : Prop := circleLeftUptoRow.holds Try.pinned (OpenSpec.upto circleLeftSpec)

/-- 'dynposlaw29.CircleMoves', WHERE WHAT IT READS IS OF BULK AT MOST 1048576: true; the input reads as it did. -/
def circleMovesUptoRow : OpenClaim := { program := "ythfagiihfkjamaa", sum := "0aaa00f4efd26ffc86e29a43268dac98a1beb92698d928ae1fa410fe19e843f5", func := "dynpos/dynposlaw29.CircleMoves", spec := "circleMoves", unfollowed := true, recurses := true, apart := false, narrowed := true }
def CircleMovesUptoSaid : Prop := circleMovesUptoRow.holds Try.pinned (OpenSpec.upto circleMovesSpec)

/-- 'dynposlaw29.CircleNowhere', WHERE WHAT IT READS IS OF BULK AT MOST 1048576: true; the input reads as it did. -/
def circleNowhereUptoRow : OpenClaim := { program := "ythfagiihfkjamaa", sum := "0aaa00f4efd26ffc86e29a43268dac98a1beb92698d928ae1fa410fe19e843f5", func := "dynpos/dynposlaw29.CircleNowhere", spec := "circleNowhere", unfollowed := true, recurses := true, apart := false, narrowed := true }
def CircleNowhereUptoSaid : Prop := circleNowhereUptoRow.holds Try.pinned (OpenSpec.upto circleNowhereSpec)

end Rows
end Go.Proofs.Ythfagiihfkjamaa
