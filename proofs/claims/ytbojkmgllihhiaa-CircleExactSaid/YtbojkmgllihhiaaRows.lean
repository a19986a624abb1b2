/-
  No cell of these rows narrows 'for every input' (looked for: loops, veiled, ifaces, maps, wideKeys, modest, calm, conditions, laid).
  DERIVED. THE GIVEN ROWS OF THIS SEAT. 12 by the template 'for every input the law returns true; each argument reads behind the call as it read before'; 0 by the template 'total and deterministic' (their statements: YtbojkmgllihhiaaTotals.lean).
  GIVEN WITH THE SEED: the statements are not yours to turn. If you find one false, say at which input.
  Laid BY PROGRAM, IN A SANDBOX (cutbox-rows.mjs): the forced cells as the released guide's own fill.sh prints them over the translation cb145fd1bc4bcb0b… (all of the seat's roots in one cut). By AI agents, Wed Nov 11 2026. No macro, syntax, notation, axiom, sorry.
-/
import Derived.Test.YtbojkmgllihhiaaChecked
import GoSem.Claim
import GoSem.ClaimJoined
import GoSem.ClaimMapViews
import Derived.JoinedTies
import Derived.KernelRfl
namespace Go.Proofs.Ytbojkmgllihhiaa
/- THE CELL 'sum', in the pinned program and in every row, IS THE sha256 OF THE DUMP (.gsa) THAT YtbojkmgllihhiaaProg.lean LOADS. Nothing in Lean hashes anything: it is a label: what it is worth is what the hold of that sum in a sandbox is worth. -/
noncomputable def Try.pinned : Pinned := { name := "ytbojkmgllihhiaa", sum := "cb145fd1bc4bcb0bb400b9beb94748e6cff6e93a3fe0d7394174f29ac3832fa6", checked := Try.checked }
namespace Rows
def none {H : Type} : Left H := { results := [], args := [] }

/-- 'dynposlaw02.AngleExact': WHATEVER THE INPUT: true; the input reads as it did. -/
def angleExactSpec : ChangeSpec := { name := "angleExact", fn := fun _ => fun
  | [d1, d2, d3, d4, d5, d6] => { results := [.lit (.bool true)], args := [d1, d2, d3, d4, d5, d6] }
  | _ => none }
def angleExactRow : OpenClaim := { program := "ytbojkmgllihhiaa", sum := "cb145fd1bc4bcb0bb400b9beb94748e6cff6e93a3fe0d7394174f29ac3832fa6", func := "dynpos/dynposlaw02.AngleExact", spec := "angleExact", unfollowed := true, recurses := true, apart := false }
def AngleExactSaid : Prop := angleExactRow.holds Try.pinned (OpenSpec.ofChange angleExactSpec)

/-- ITS FALSE NEIGHBOUR: 'it returns false'. Refute it at one input. -/
def angleExactWrong : ChangeSpec := { name := "angleExact", fn := fun _ => fun
  | [d1, d2, d3, d4, d5, d6] => { results := [.lit (.bool false)], args := [d1, d2, d3, d4, d5, d6] }
  | _ => none }
def AngleExactWrongFalsely : Prop := angleExactRow.holds Try.pinned (OpenSpec.ofChange angleExactWrong)

/-- 'dynposlaw03.FrameExact': WHATEVER THE INPUT: true; the input reads as it did. -/
def frameExactSpec : ChangeSpec := { name := "frameExact", fn := fun _ => fun
  | [d1, d2, d3, d4, d5, d6] => { results := [.lit (.bool true)], args := [d1, d2, d3, d4, d5, d6] }
  | _ => none }
def frameExactRow : OpenClaim := { program := "ytbojkmgllihhiaa", sum := "cb145fd1bc4bcb0bb400b9beb94748e6cff6e93a3fe0d7394174f29ac3832fa6", func := "dynpos/dynposlaw03.FrameExact", spec := "frameExact", unfollowed := true, recurses := true, apart := false }
def FrameExactSaid : Prop := frameExactRow.holds Try.pinned (OpenSpec.ofChange frameExactSpec)

/-- ITS FALSE NEIGHBOUR: 'it returns false'. Refute it at one input. -/
def frameExactWrong : ChangeSpec := { name := "frameExact", fn := fun _ => fun
  | [d1, d2, d3, d4, d5, d6] => { results := [.lit (.bool false)], args := [d1, d2, d3, d4, d5, d6] }
  | _ => none }
def FrameExactWrongFalsely : Prop := frameExactRow.holds Try.pinned (OpenSpec.ofChange frameExactWrong)

/-- 'dynposlaw29.CircleExact': WHATEVER THE INPUT: true; the input reads as it did. -/
def circleExactSpec : ChangeSpec := { name := "circleExact", fn := fun _ => fun
  | [d1, d2, d3, d4] => { results := [.lit (.bool true)], args := [d1, d2, d3, d4] }
  | _ => none }
def circleExactRow : OpenClaim := { program := "ytbojkmgllihhiaa", sum := "cb145fd1bc4bcb0bb400b9beb94748e6cff6e93a3fe0d7394174f29ac3832fa6", func := "dynpos/dynposlaw29.CircleExact", spec := "circleExact", unfollowed := true, recurses := true, apart := false }
def CircleExactSaid : Prop := circleExactRow.holds Try.pinned (OpenSpec.ofChange circleExactSpec)

/-- ITS FALSE NEIGHBOUR: 'it returns false'. Refute it at one input. -/
def circleExactWrong : ChangeSpec := { name := "circleExact", fn := fun _ => fun
  | [d1, d2, d3, d4] => { results := [.lit (.bool false)], args := [d1, d2, d3, d4] }
  | _ => none }
def CircleExactWrongFalsely : Prop := circleExactRow.holds Try.pinned (OpenSpec.ofChange circleExactWrong)

/-- 'dynposlaw28.StatusExact': WHATEVER THE INPUT: true; the input reads as it did. -/
def statusExactSpec : ChangeSpec := { name := "statusExact", fn := fun _ => fun
  | [d1, d2, d3, d4, d5, d6, d7, d8, d9] => { results := [.lit (.bool true)], args := [d1, d2, d3, d4, d5, d6, d7, d8, d9] }
  | _ => none }
def statusExactRow : OpenClaim := { program := "ytbojkmgllihhiaa", sum := "cb145fd1bc4bcb0bb400b9beb94748e6cff6e93a3fe0d7394174f29ac3832fa6", func := "dynpos/dynposlaw28.StatusExact", spec := "statusExact", unfollowed := true, recurses := true, apart := false }
def StatusExactSaid : Prop := statusExactRow.holds Try.pinned (OpenSpec.ofChange statusExactSpec)

/-- ITS FALSE NEIGHBOUR: 'it returns false'. Refute it at one input. -/
def statusExactWrong : ChangeSpec := { name := "statusExact", fn := fun _ => fun
  | [d1, d2, d3, d4, d5, d6, d7, d8, d9] => { results := [.lit (.bool false)], args := [d1, d2, d3, d4, d5, d6, d7, d8, d9] }
  | _ => none }
def StatusExactWrongFalsely : Prop := statusExactRow.holds Try.pinned (OpenSpec.ofChange statusExactWrong)

/-- 'dynposlaw13.ShareScales': WHATEVER THE INPUT: true; the input reads as it did. -/
def shareScalesSpec : ChangeSpec := { name := "shareScales", fn := fun _ => fun
  | [d] => { results := [.lit (.bool true)], args := [d] }
  | _ => none }
def shareScalesRow : OpenClaim := { program := "ytbojkmgllihhiaa", sum := "cb145fd1bc4bcb0bb400b9beb94748e6cff6e93a3fe0d7394174f29ac3832fa6", func := "dynpos/dynposlaw13.ShareScales", spec := "shareScales", unfollowed := true, recurses := true, apart := false }
def ShareScalesSaid : Prop := shareScalesRow.holds Try.pinned (OpenSpec.ofChange shareScalesSpec)

/-- ITS FALSE NEIGHBOUR: 'it returns false'. Refute it at one input. -/
def shareScalesWrong : ChangeSpec := { name := "shareScales", fn := fun _ => fun
  | [d] => { results := [.lit (.bool false)], args := [d] }
  | _ => none }
def ShareScalesWrongFalsely : Prop := shareScalesRow.holds Try.pinned (OpenSpec.ofChange shareScalesWrong)

/-- 'dynposlaw13.ShareRanges': WHATEVER THE INPUT: true; the input reads as it did. -/
def shareRangesSpec : ChangeSpec := { name := "shareRanges", fn := fun _ => fun
  | [d] => { results := [.lit (.bool true)], args := [d] }
  | _ => none }
def shareRangesRow : OpenClaim := { program := "ytbojkmgllihhiaa", sum := "cb145fd1bc4bcb0bb400b9beb94748e6cff6e93a3fe0d7394174f29ac3832fa6", func := "dynpos/dynposlaw13.ShareRanges", spec := "shareRanges", unfollowed := true, recurses := true, apart := false }
def ShareRangesSaid : Prop := shareRangesRow.holds Try.pinned (OpenSpec.ofChange shareRangesSpec)

/-- ITS FALSE NEIGHBOUR: 'it returns false'. Refute it at one input. -/
def shareRangesWrong : ChangeSpec := { name := "shareRanges", fn := fun _ => fun
  | [d] => { results := [.lit (.bool false)], args := [d] }
  | _ => none }
def ShareRangesWrongFalsely : Prop := shareRangesRow.holds Try.pinned (OpenSpec.ofChange shareRangesWrong)

/-- 'dynposlaw13.ShareLeast': WHATEVER THE INPUT: true; the input reads as it did. -/
def shareLeastSpec : ChangeSpec := { name := "shareLeast", fn := fun _ => fun
  | [d] => { results := [.lit (.bool true)], args := [d] }
  | _ => none }
def shareLeastRow : OpenClaim := { program := "ytbojkmgllihhiaa", sum := "cb145fd1bc4bcb0bb400b9beb94748e6cff6e93a3fe0d7394174f29ac3832fa6", func := "dynpos/dynposlaw13.ShareLeast", spec := "shareLeast", unfollowed := true, recurses := true, apart := false }
def ShareLeastSaid : Prop := shareLeastRow.holds Try.pinned (OpenSpec.ofChange shareLeastSpec)

/-- ITS FALSE NEIGHBOUR: 'it returns false'. Refute it at one input. -/
def shareLeastWrong : ChangeSpec := { name := "shareLeast", fn := fun _ => fun
  | [d] => { results := [.lit (.bool false)], args := [d] }
  | _ => none }
def ShareLeastWrongFalsely : Prop := shareLeastRow.holds Try.pinned (OpenSpec.ofChange shareLeastWrong)

/-- 'dynposlaw13.ShareNearest': WHATEVER THE INPUT: true; the input reads as it did. -/
def shareNearestSpec : ChangeSpec := { name := "shareNearest", fn := fun _ => fun
  | [d] => { results := [.lit (.bool true)], args := [d] }
  | _ => none }
def shareNearestRow : OpenClaim := { program := "ytbojkmgllihhiaa", sum := "cb145fd1bc4bcb0bb400b9beb94748e6cff6e93a3fe0d7394174f29ac3832fa6", func := "dynpos/dynposlaw13.ShareNearest", spec := "shareNearest", unfollowed := true, recurses := true, apart := false }
def ShareNearestSaid : Prop := shareNearestRow.holds Try.pinned (OpenSpec.ofChange shareNearestSpec)

/-- ITS FALSE NEIGHBOUR: 'it returns false'. Refute it at one input. -/
def shareNearestWrong : ChangeSpec := { name := "shareNearest", fn := fun _ => fun
  | [d] => { results := [.lit (.bool false)], args := [d] }
  | _ => none }
def ShareNearestWrongFalsely : Prop := shareNearestRow.holds Try.pinned (OpenSpec.ofChange shareNearestWrong)

/-- 'dynposlaw13.SharePrice': WHATEVER THE INPUT: true; the input reads as it did. -/
def sharePriceSpec : ChangeSpec := { name := "sharePrice", fn := fun _ => fun
  | [d] => { results := [.lit (.bool true)], args := [d] }
  | _ => none }
def sharePriceRow : OpenClaim := { program := "ytbojkmgllihhiaa", sum := "cb145fd1bc4bcb0bb400b9beb94748e6cff6e93a3fe0d7394174f29ac3832fa6", func := "dynpos/dynposlaw13.SharePrice", spec := "sharePrice", unfollowed := true, recurses := true, apart := false }
def SharePriceSaid : Prop := sharePriceRow.holds Try.pinned (OpenSpec.ofChange sharePriceSpec)

/-- ITS FALSE NEIGHBOUR: 'it returns false'. Refute it at one input. -/
def sharePriceWrong : ChangeSpec := { name := "sharePrice", fn := fun _ => fun
  | [d] => { results := [.lit (.bool false)], args := [d] }
  | _ => none }
def SharePriceWrongFalsely : Prop := sharePriceRow.holds Try.pinned (OpenSpec.ofChange sharePriceWrong)

/-- 'dynposlaw17.BalanceScales': WHATEVER THE INPUT: true; the input reads as it did. -/
def balanceScalesSpec : ChangeSpec := { name := "balanceScales", fn := fun _ => fun
  | [d] => { results := [.lit (.bool true)], args := [d] }
  | _ => none }
def balanceScalesRow : OpenClaim := { program := "ytbojkmgllihhiaa", sum := "cb145fd1bc4bcb0bb400b9beb94748e6cff6e93a3fe0d7394174f29ac3832fa6", func := "dynpos/dynposlaw17.BalanceScales", spec := "balanceScales", unfollowed := true, recurses := true, apart := false }
def BalanceScalesSaid : Prop := balanceScalesRow.holds Try.pinned (OpenSpec.ofChange balanceScalesSpec)

/-- ITS FALSE NEIGHBOUR: 'it returns false'. Refute it at one input. -/
def balanceScalesWrong : ChangeSpec := { name := "balanceScales", fn := fun _ => fun
  | [d] => { results := [.lit (.bool false)], args := [d] }
  | _ => none }
def BalanceScalesWrongFalsely : Prop := balanceScalesRow.holds Try.pinned (OpenSpec.ofChange balanceScalesWrong)

/-- 'dynposlaw17.BalanceShares': WHATEVER THE INPUT: true; the input reads as it did. -/
def balanceSharesSpec : ChangeSpec := { name := "balanceShares", fn := fun _ => fun
  | [d] => { results := [.lit (.bool true)], args := [d] }
  | _ => none }
def balanceSharesRow : OpenClaim := { program := "ytbojkmgllihhiaa", sum := "cb145fd1bc4bcb0bb400b9beb94748e6cff6e93a3fe0d7394174f29ac3832fa6", func := "dynpos/dynposlaw17.BalanceShares", spec := "balanceShares", unfollowed := true, recurses := true, apart := false }
def BalanceSharesSaid : Prop := balanceSharesRow.holds Try.pinned (OpenSpec.ofChange balanceSharesSpec)

/-- ITS FALSE NEIGHBOUR: 'it returns false'. Refute it at one input. -/
def balanceSharesWrong : ChangeSpec := { name := "balanceShares", fn := fun _ => fun
  | [d] => { results := [.lit (.bool false)], args := [d] }
  | _ => none }
def BalanceSharesWrongFalsely : Prop := balanceSharesRow.holds Try.pinned (OpenSpec.ofChange balanceSharesWrong)

/-- 'dynposlaw09.FuseExact': WHATEVER THE INPUT: true; the input reads as it did. -/
def fuseExactSpec : ChangeSpec := { name := "fuseExact", fn := fun _ => fun
  | [d1, d2, d3, d4, d5] => { results := [.lit (.bool true)], args := [d1, d2, d3, d4, d5] }
  | _ => none }
def fuseExactRow : OpenClaim := { program := "ytbojkmgllihhiaa", sum := "cb145fd1bc4bcb0bb400b9beb94748e6cff6e93a3fe0d7394174f29ac3832fa6", func := "dynpos/dynposlaw09.FuseExact", spec := "fuseExact", unfollowed := true, recurses := true, apart := false }
def FuseExactSaid : Prop := fuseExactRow.holds Try.pinned (OpenSpec.ofChange fuseExactSpec)

/-- ITS FALSE NEIGHBOUR: 'it returns false'. Refute it at one input. -/
def fuseExactWrong : ChangeSpec := { name := "fuseExact", fn := fun _ => fun
  | [d1, d2, d3, d4, d5] => { results := [.lit (.bool false)], args := [d1, d2, d3, d4, d5] }
  | _ => none }
def FuseExactWrongFalsely : Prop := fuseExactRow.holds Try.pinned (OpenSpec.ofChange fuseExactWrong)

/- THE SECOND FORM. 'bulk': how many values and letters a reading holds, each counted each time it is reached (what is shared counts as often as it is met; a slice's spare places count too). A statement '..UptoSaid' is the law's where the arguments, and the package variables that the reading takes, are together of bulk at most 1048576: NARROWER than '..Said'. Prove '..Said' where nothing that the law and all that it calls make is longer than what came in: it says more and counts as full. Else prove '..UptoSaid'. A law counts once. -/
mutual
def uptoBulk {H : Type} : DataW H → Nat
  | .lit (.string bytes) => bytes.length + 1
  | .lit _ => 1
  | .nil => 1
  | .ptr d => uptoBulk d + 1
  | .slice elems spare => uptoBulkAll elems + uptoBulkAll spare + 1
  | .agg parts => uptoBulkAll parts + 1
  | .iface _ d => uptoBulk d + 1
  | .map entries => uptoBulkEntries entries + 1
  | .held _ => 1
def uptoBulkAll {H : Type} : List (DataW H) → Nat
  | [] => 0
  | d :: r => uptoBulk d + uptoBulkAll r
def uptoBulkEntries {H : Type} : List (Lit × DataW H) → Nat
  | [] => 0
  | x :: r => uptoBulkEntry x + uptoBulkEntries r
def uptoBulkEntry {H : Type} : Lit × DataW H → Nat
  | (.string bytes, d) => bytes.length + uptoBulk d + 1
  | (_, d) => uptoBulk d + 1
 end
def uptoSmall : (H : Type) → List (DataW H) → Bool := fun _ ds => decide (uptoBulkAll ds ≤ 1048576)
def OpenSpec.upto (s : _root_.Go.ChangeSpec) : _root_.Go.OpenSpec := { _root_.Go.OpenSpec.ofChange s with cond := some uptoSmall }

/-- 'dynposlaw02.AngleExact', WHERE WHAT IT READS IS OF BULK AT MOST 1048576: true; the input reads as it did. -/
def angleExactUptoRow : OpenClaim := { program := "ytbojkmgllihhiaa", sum := "cb145fd1bc4bcb0bb400b9beb94748e6cff6e93a3fe0d7394174f29ac3832fa6", func := "dynpos/dynposlaw02.AngleExact", spec := "angleExact", unfollowed := true, recurses := true, apart := false, narrowed := true }
def AngleExactUptoSaid : Prop := angleExactUptoRow.holds Try.pinned (OpenSpec.upto angleExactSpec)

/-- 'dynposlaw03.FrameExact', WHERE WHAT IT READS IS OF BULK AT MOST 1048576: true; the input reads as it did. -/
def frameExactUptoRow : OpenClaim := { program := "ytbojkmgllihhiaa", sum := "cb145fd1bc4bcb0bb400b9beb94748e6cff6e93a3fe0d7394174f29ac3832fa6", func := "dynpos/dynposlaw03.FrameExact", spec := "frameExact", unfollowed := true, recurses := true, apart := false, narrowed := true }
def FrameExactUptoSaid : Prop := frameExactUptoRow.holds Try.pinned (OpenSpec.upto frameExactSpec)

/-- 'dynposlaw29.CircleExact', WHERE WHAT IT READS IS OF BULK AT MOST 1048576: true; the input reads as it did. -/
def circleExactUptoRow : OpenClaim := { program := "ytbojkmgllihhiaa", sum := "cb145fd1bc4bcb0bb400b9beb94748e6cff6e93a3fe0d7394174f29ac3832fa6", func := "dynpos/dynposlaw29.CircleExact", spec := "circleExact", unfollowed := true, recurses := true, apart := false, narrowed := true }
def CircleExactUptoSaid : Prop := circleExactUptoRow.holds Try.pinned (OpenSpec.upto circleExactSpec)

/-- 'dynposlaw28.StatusExact', WHERE WHAT IT READS IS OF BULK AT MOST 1048576: true; the input reads as it did. -/
def statusExactUptoRow : OpenClaim := { program := "ytbojkmgllihhiaa", sum := "cb145fd1bc4bcb0bb400b9beb94748e6cff6e93a3fe0d7394174f29ac3832fa6", func := "dynpos/dynposlaw28.StatusExact", spec := "statusExact", unfollowed := true, recurses := true, apart := false, narrowed := true }
def StatusExactUptoSaid : Prop := statusExactUptoRow.holds Try.pinned (OpenSpec.upto statusExactSpec)

/-- 'dynposlaw13.ShareScales', WHERE WHAT IT READS IS OF BULK AT MOST 1048576: true; the input reads as it did. -/
def shareScalesUptoRow : OpenClaim := { program := "ytbojkmgllihhiaa", sum := "cb145fd1bc4bcb0bb400b9beb94748e6cff6e93a3fe0d7394174f29ac3832fa6", func := "dynpos/dynposlaw13.ShareScales", spec := "shareScales", unfollowed := true, recurses := true, apart := false, narrowed := true }
def ShareScalesUptoSaid : Prop := shareScalesUptoRow.holds Try.pinned (OpenSpec.upto shareScalesSpec)

/-- 'dynposlaw13.ShareRanges', WHERE WHAT IT READS IS OF BULK AT MOST 1048576: true; the input reads as it did. -/
def shareRangesUptoRow : OpenClaim := { program := "ytbojkmgllihhiaa", sum := "cb145fd1bc4bcb0bb400b9beb94748e6cff6e93a3fe0d7394174f29ac3832fa6", func := "dynpos/dynposlaw13.ShareRanges", spec := "shareRanges", unfollowed := true, recurses := true, apart := false, narrowed := true }
def ShareRangesUptoSaid : Prop := shareRangesUptoRow.holds Try.pinned (OpenSpec.upto shareRangesSpec)

/-- 'dynposlaw13.ShareLeast', WHERE WHAT IT READS IS OF BULK AT MOST 1048576: true; the input reads as it did. -/
def shareLeastUptoRow : OpenClaim := { program := "ytbojkmgllihhiaa", sum := "cb145fd1bc4bcb0bb400b9beb94748e6cff6e93a3fe0d7394174f29ac3832fa6", func := "dynpos/dynposlaw13.ShareLeast", spec := "shareLeast", unfollowed := true, recurses := true, apart := false, narrowed := true }
def ShareLeastUptoSaid : Prop := shareLeastUptoRow.holds Try.pinned (OpenSpec.upto shareLeastSpec)

/-- 'dynposlaw13.ShareNearest', WHERE WHAT IT READS IS OF BULK AT MOST 1048576: true; the input reads as it did. -/
def shareNearestUptoRow : OpenClaim := { program := "ytbojkmgllihhiaa", sum := "cb145fd1bc4bcb0bb400b9beb94748e6cff6e93a3fe0d7394174f29ac3832fa6", func := "dynpos/dynposlaw13.ShareNearest", spec := "shareNearest", unfollowed := true, recurses := true, apart := false, narrowed := true }
def ShareNearestUptoSaid : Prop := shareNearestUptoRow.holds Try.pinned (OpenSpec.upto shareNearestSpec)

/-- 'dynposlaw13.SharePrice', WHERE WHAT IT READS IS OF BULK AT MOST 1048576: true; the input reads as it did. -/
def sharePriceUptoRow : OpenClaim := { program := "ytbojkmgllihhiaa", sum := "cb145fd1bc4bcb0bb400b9beb94748e6cff6e93a3fe0d7394174f29ac3832fa6", func := "dynpos/dynposlaw13.SharePrice", spec := "sharePrice", unfollowed := true, recurses := true, apart := false, narrowed := true }
def SharePriceUptoSaid : Prop := sharePriceUptoRow.holds Try.pinned (OpenSpec.upto sharePriceSpec)

/-- 'dynposlaw17.BalanceScales', WHERE WHAT IT READS IS OF BULK AT MOST 1048576: true; the input reads as it did. -/
def balanceScalesUptoRow : OpenClaim := { program := "ytbojkmgllihhiaa", sum := "cb145fd1bc4bcb0bb400b9beb94748e6cff6e93a3fe0d7394174f29ac3832fa6", func := "dynpos/dynposlaw17.BalanceScales", spec := "balanceScales", unfollowed := true, recurses := true, apart := false, narrowed := true }
def BalanceScalesUptoSaid : Prop := balanceScalesUptoRow.holds Try.pinned (OpenSpec.upto balanceScalesSpec)

/-- 'dynposlaw17.BalanceShares', WHERE WHAT IT READS IS OF BULK AT MOST 1048576: true; the input reads as it did. -/
def balanceSharesUptoRow : OpenClaim := { program := "ytbojkmgllihhiaa", sum := "cb145fd1bc4bcb0bb400b9beb94748e6cff6e93a3fe0d7394174f29ac3832fa6", func := "dynpos/dynposlaw17.BalanceShares", spec := "balanceShares", unfollowed := true, recurses := true, apart := false, narrowed := true }
def BalanceSharesUptoSaid : Prop := balanceSharesUptoRow.holds Try.pinned (OpenSpec.upto balanceSharesSpec)

/-- 'dynposlaw09.FuseExact', WHERE WHAT IT READS IS OF BULK AT MOST 1048576: true; the input reads as it did. -/
def fuseExactUptoRow : OpenClaim := { program := "ytbojkmgllihhiaa", sum := "cb145fd1bc4bcb0bb400b9beb94748e6cff6e93a3fe0d7394174f29ac3832fa6", func := "dynpos/dynposlaw09.FuseExact", spec := "fuseExact", unfollowed := true, recurses := true, apart := false, narrowed := true }
def FuseExactUptoSaid : Prop := fuseExactUptoRow.holds Try.pinned (OpenSpec.upto fuseExactSpec)

end Rows
end Go.Proofs.Ytbojkmgllihhiaa
