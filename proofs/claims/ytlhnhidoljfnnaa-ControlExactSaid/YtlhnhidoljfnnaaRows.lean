/-
  No cell of these rows narrows 'for every input' (looked for: loops, veiled, ifaces, maps, wideKeys, modest, calm, conditions, laid).
  DERIVED. THE GIVEN ROWS OF THIS SEAT. 11 by the template 'for every input the law returns true; each argument reads behind the call as it read before'; 0 by the template 'total and deterministic' (their statements: YtlhnhidoljfnnaaTotals.lean).
  GIVEN WITH THE SEED: the statements are not yours to turn. If you find one false, say at which input.
  Laid BY PROGRAM, IN A SANDBOX (cutbox-rows.mjs): the forced cells as the released guide's own fill.sh prints them over the translation e23d5edc8e15982e… (all of the seat's roots in one cut). By AI agents, Wed Nov 11 2026. No macro, syntax, notation, axiom, sorry.
-/
import Derived.Test.YtlhnhidoljfnnaaChecked
import GoSem.Claim
import GoSem.ClaimJoined
import GoSem.ClaimMapViews
import Derived.JoinedTies
import Derived.KernelRfl
namespace Go.Proofs.Ytlhnhidoljfnnaa
/- THE CELL 'sum', in the pinned program and in every row, IS THE sha256 OF THE DUMP (.gsa) THAT YtlhnhidoljfnnaaProg.lean LOADS. Nothing in Lean hashes anything: it is a label: what it is worth is what the hold of that sum in a sandbox is worth. -/
noncomputable def Try.pinned : Pinned := { name := "ytlhnhidoljfnnaa", sum := "e23d5edc8e15982ee9e3665e20df6872542641ad5ae9c16572d861281f8f9a8e", checked := Try.checked }
namespace Rows
def none {H : Type} : Left H := { results := [], args := [] }

/-- 'dynposlaw13.ShareExact': WHATEVER THE INPUT: true; the input reads as it did. -/
def shareExactSpec : ChangeSpec := { name := "shareExact", fn := fun _ => fun
  | [d1, d2, d3, d4] => { results := [.lit (.bool true)], args := [d1, d2, d3, d4] }
  | _ => none }
def shareExactRow : OpenClaim := { program := "ytlhnhidoljfnnaa", sum := "e23d5edc8e15982ee9e3665e20df6872542641ad5ae9c16572d861281f8f9a8e", func := "dynpos/dynposlaw13.ShareExact", spec := "shareExact", unfollowed := true, recurses := true, apart := false }
def ShareExactSaid : Prop := shareExactRow.holds Try.pinned (OpenSpec.ofChange shareExactSpec)

/-- ITS FALSE NEIGHBOUR: 'it returns false'. Refute it at one input. -/
def shareExactWrong : ChangeSpec := { name := "shareExact", fn := fun _ => fun
  | [d1, d2, d3, d4] => { results := [.lit (.bool false)], args := [d1, d2, d3, d4] }
  | _ => none }
def ShareExactWrongFalsely : Prop := shareExactRow.holds Try.pinned (OpenSpec.ofChange shareExactWrong)

/-- 'dynposlaw13.ShareLeast': WHATEVER THE INPUT: true; the input reads as it did. -/
def shareLeastSpec : ChangeSpec := { name := "shareLeast", fn := fun _ => fun
  | [d] => { results := [.lit (.bool true)], args := [d] }
  | _ => none }
def shareLeastRow : OpenClaim := { program := "ytlhnhidoljfnnaa", sum := "e23d5edc8e15982ee9e3665e20df6872542641ad5ae9c16572d861281f8f9a8e", func := "dynpos/dynposlaw13.ShareLeast", spec := "shareLeast", unfollowed := true, recurses := true, apart := false }
def ShareLeastSaid : Prop := shareLeastRow.holds Try.pinned (OpenSpec.ofChange shareLeastSpec)

/-- ITS FALSE NEIGHBOUR: 'it returns false'. Refute it at one input. -/
def shareLeastWrong : ChangeSpec := { name := "shareLeast", fn := fun _ => fun
  | [d] => { results := [.lit (.bool false)], args := [d] }
  | _ => none }
def ShareLeastWrongFalsely : Prop := shareLeastRow.holds Try.pinned (OpenSpec.ofChange shareLeastWrong)

/-- 'dynposlaw13.ShareNearest': WHATEVER THE INPUT: true; the input reads as it did. -/
def shareNearestSpec : ChangeSpec := { name := "shareNearest", fn := fun _ => fun
  | [d] => { results := [.lit (.bool true)], args := [d] }
  | _ => none }
def shareNearestRow : OpenClaim := { program := "ytlhnhidoljfnnaa", sum := "e23d5edc8e15982ee9e3665e20df6872542641ad5ae9c16572d861281f8f9a8e", func := "dynpos/dynposlaw13.ShareNearest", spec := "shareNearest", unfollowed := true, recurses := true, apart := false }
def ShareNearestSaid : Prop := shareNearestRow.holds Try.pinned (OpenSpec.ofChange shareNearestSpec)

/-- ITS FALSE NEIGHBOUR: 'it returns false'. Refute it at one input. -/
def shareNearestWrong : ChangeSpec := { name := "shareNearest", fn := fun _ => fun
  | [d] => { results := [.lit (.bool false)], args := [d] }
  | _ => none }
def ShareNearestWrongFalsely : Prop := shareNearestRow.holds Try.pinned (OpenSpec.ofChange shareNearestWrong)

/-- 'dynposlaw13.SharePrice': WHATEVER THE INPUT: true; the input reads as it did. -/
def sharePriceSpec : ChangeSpec := { name := "sharePrice", fn := fun _ => fun
  | [d] => { results := [.lit (.bool true)], args := [d] }
  | _ => none }
def sharePriceRow : OpenClaim := { program := "ytlhnhidoljfnnaa", sum := "e23d5edc8e15982ee9e3665e20df6872542641ad5ae9c16572d861281f8f9a8e", func := "dynpos/dynposlaw13.SharePrice", spec := "sharePrice", unfollowed := true, recurses := true, apart := false }
def SharePriceSaid : Prop := sharePriceRow.holds Try.pinned (OpenSpec.ofChange sharePriceSpec)

/-- ITS FALSE NEIGHBOUR: 'it returns false'. Refute it at one input. -/
def sharePriceWrong : ChangeSpec := { name := "sharePrice", fn := fun _ => fun
  | [d] => { results := [.lit (.bool false)], args := [d] }
  | _ => none }
def SharePriceWrongFalsely : Prop := sharePriceRow.holds Try.pinned (OpenSpec.ofChange sharePriceWrong)

/-- 'dynposlaw13.ShareScales': WHATEVER THE INPUT: true; the input reads as it did. -/
def shareScalesSpec : ChangeSpec := { name := "shareScales", fn := fun _ => fun
  | [d] => { results := [.lit (.bool true)], args := [d] }
  | _ => none }
def shareScalesRow : OpenClaim := { program := "ytlhnhidoljfnnaa", sum := "e23d5edc8e15982ee9e3665e20df6872542641ad5ae9c16572d861281f8f9a8e", func := "dynpos/dynposlaw13.ShareScales", spec := "shareScales", unfollowed := true, recurses := true, apart := false }
def ShareScalesSaid : Prop := shareScalesRow.holds Try.pinned (OpenSpec.ofChange shareScalesSpec)

/-- ITS FALSE NEIGHBOUR: 'it returns false'. Refute it at one input. -/
def shareScalesWrong : ChangeSpec := { name := "shareScales", fn := fun _ => fun
  | [d] => { results := [.lit (.bool false)], args := [d] }
  | _ => none }
def ShareScalesWrongFalsely : Prop := shareScalesRow.holds Try.pinned (OpenSpec.ofChange shareScalesWrong)

/-- 'dynposlaw13.ShareRanges': WHATEVER THE INPUT: true; the input reads as it did. -/
def shareRangesSpec : ChangeSpec := { name := "shareRanges", fn := fun _ => fun
  | [d] => { results := [.lit (.bool true)], args := [d] }
  | _ => none }
def shareRangesRow : OpenClaim := { program := "ytlhnhidoljfnnaa", sum := "e23d5edc8e15982ee9e3665e20df6872542641ad5ae9c16572d861281f8f9a8e", func := "dynpos/dynposlaw13.ShareRanges", spec := "shareRanges", unfollowed := true, recurses := true, apart := false }
def ShareRangesSaid : Prop := shareRangesRow.holds Try.pinned (OpenSpec.ofChange shareRangesSpec)

/-- ITS FALSE NEIGHBOUR: 'it returns false'. Refute it at one input. -/
def shareRangesWrong : ChangeSpec := { name := "shareRanges", fn := fun _ => fun
  | [d] => { results := [.lit (.bool false)], args := [d] }
  | _ => none }
def ShareRangesWrongFalsely : Prop := shareRangesRow.holds Try.pinned (OpenSpec.ofChange shareRangesWrong)

/-- 'dynposlaw09.FuseExact': WHATEVER THE INPUT: true; the input reads as it did. -/
def fuseExactSpec : ChangeSpec := { name := "fuseExact", fn := fun _ => fun
  | [d1, d2, d3, d4, d5] => { results := [.lit (.bool true)], args := [d1, d2, d3, d4, d5] }
  | _ => none }
def fuseExactRow : OpenClaim := { program := "ytlhnhidoljfnnaa", sum := "e23d5edc8e15982ee9e3665e20df6872542641ad5ae9c16572d861281f8f9a8e", func := "dynpos/dynposlaw09.FuseExact", spec := "fuseExact", unfollowed := true, recurses := true, apart := false }
def FuseExactSaid : Prop := fuseExactRow.holds Try.pinned (OpenSpec.ofChange fuseExactSpec)

/-- ITS FALSE NEIGHBOUR: 'it returns false'. Refute it at one input. -/
def fuseExactWrong : ChangeSpec := { name := "fuseExact", fn := fun _ => fun
  | [d1, d2, d3, d4, d5] => { results := [.lit (.bool false)], args := [d1, d2, d3, d4, d5] }
  | _ => none }
def FuseExactWrongFalsely : Prop := fuseExactRow.holds Try.pinned (OpenSpec.ofChange fuseExactWrong)

/-- 'dynposlaw09.FuseMean': WHATEVER THE INPUT: true; the input reads as it did. -/
def fuseMeanSpec : ChangeSpec := { name := "fuseMean", fn := fun _ => fun
  | [d] => { results := [.lit (.bool true)], args := [d] }
  | _ => none }
def fuseMeanRow : OpenClaim := { program := "ytlhnhidoljfnnaa", sum := "e23d5edc8e15982ee9e3665e20df6872542641ad5ae9c16572d861281f8f9a8e", func := "dynpos/dynposlaw09.FuseMean", spec := "fuseMean", unfollowed := true, recurses := true, apart := false }
def FuseMeanSaid : Prop := fuseMeanRow.holds Try.pinned (OpenSpec.ofChange fuseMeanSpec)

/-- ITS FALSE NEIGHBOUR: 'it returns false'. Refute it at one input. -/
def fuseMeanWrong : ChangeSpec := { name := "fuseMean", fn := fun _ => fun
  | [d] => { results := [.lit (.bool false)], args := [d] }
  | _ => none }
def FuseMeanWrongFalsely : Prop := fuseMeanRow.holds Try.pinned (OpenSpec.ofChange fuseMeanWrong)

/-- 'dynposlaw24.ControlExact': WHATEVER THE INPUT: true; the input reads as it did. -/
def controlExactSpec : ChangeSpec := { name := "controlExact", fn := fun _ => fun
  | [d1, d2, d3, d4, d5, d6] => { results := [.lit (.bool true)], args := [d1, d2, d3, d4, d5, d6] }
  | _ => none }
def controlExactRow : OpenClaim := { program := "ytlhnhidoljfnnaa", sum := "e23d5edc8e15982ee9e3665e20df6872542641ad5ae9c16572d861281f8f9a8e", func := "dynpos/dynposlaw24.ControlExact", spec := "controlExact", unfollowed := true, recurses := true, apart := false }
def ControlExactSaid : Prop := controlExactRow.holds Try.pinned (OpenSpec.ofChange controlExactSpec)

/-- ITS FALSE NEIGHBOUR: 'it returns false'. Refute it at one input. -/
def controlExactWrong : ChangeSpec := { name := "controlExact", fn := fun _ => fun
  | [d1, d2, d3, d4, d5, d6] => { results := [.lit (.bool false)], args := [d1, d2, d3, d4, d5, d6] }
  | _ => none }
def ControlExactWrongFalsely : Prop := controlExactRow.holds Try.pinned (OpenSpec.ofChange controlExactWrong)

/-- 'dynposlaw17.BalanceScales': WHATEVER THE INPUT: true; the input reads as it did. -/
def balanceScalesSpec : ChangeSpec := { name := "balanceScales", fn := fun _ => fun
  | [d] => { results := [.lit (.bool true)], args := [d] }
  | _ => none }
def balanceScalesRow : OpenClaim := { program := "ytlhnhidoljfnnaa", sum := "e23d5edc8e15982ee9e3665e20df6872542641ad5ae9c16572d861281f8f9a8e", func := "dynpos/dynposlaw17.BalanceScales", spec := "balanceScales", unfollowed := true, recurses := true, apart := false }
def BalanceScalesSaid : Prop := balanceScalesRow.holds Try.pinned (OpenSpec.ofChange balanceScalesSpec)

/-- ITS FALSE NEIGHBOUR: 'it returns false'. Refute it at one input. -/
def balanceScalesWrong : ChangeSpec := { name := "balanceScales", fn := fun _ => fun
  | [d] => { results := [.lit (.bool false)], args := [d] }
  | _ => none }
def BalanceScalesWrongFalsely : Prop := balanceScalesRow.holds Try.pinned (OpenSpec.ofChange balanceScalesWrong)

/-- 'dynposlaw17.BalanceShares': WHATEVER THE INPUT: true; the input reads as it did. -/
def balanceSharesSpec : ChangeSpec := { name := "balanceShares", fn := fun _ => fun
  | [d] => { results := [.lit (.bool true)], args := [d] }
  | _ => none }
def balanceSharesRow : OpenClaim := { program := "ytlhnhidoljfnnaa", sum := "e23d5edc8e15982ee9e3665e20df6872542641ad5ae9c16572d861281f8f9a8e", func := "dynpos/dynposlaw17.BalanceShares", spec := "balanceShares", unfollowed := true, recurses := true, apart := false }
def BalanceSharesSaid : Prop := balanceSharesRow.holds Try.pinned (OpenSpec.ofChange balanceSharesSpec)

/-- ITS FALSE NEIGHBOUR: 'it returns false'. Refute it at one input. -/
def balanceSharesWrong : ChangeSpec := { name := "balanceShares", fn := fun _ => fun
  | [d] => { results := [.lit (.bool false)], args := [d] }
  | _ => none }
def BalanceSharesWrongFalsely : Prop := balanceSharesRow.holds Try.pinned (OpenSpec.ofChange balanceSharesWrong)

/- THE SECOND FORM. 'bulk': how many values and letters a reading holds, each counted each time it is reached (what is shared counts as often as it is met; a slice's spare places count too). A statement '..UptoSaid' is the law's where the arguments, and the package variables that the reading takes, are together of bulk at most 1048576: NARROWER than '..Said'. Prove '..Said' where nothing that the law and all that it calls make is longer than what came in: it says more and counts as full. Else prove '..UptoSaid'. A law counts once. -/
mutual
def uptoBulk {H : Type} : DataW H → Nat
  | .lit (.string bytes) => bytes.length + 1
  | .lit _ => 1
  | .nil => 1
  | .ptr d => uptoBulk d + 1
  | .slice elems spare => uptoBulkAll elems + uptoBulkAll spare + 1
  | .agg parts => uptoBulkAll parts + 1
  | .iface _ d => uptoBulk d + 1
  | .map entries => uptoBulkEntries entries + 1
  | .held _ => 1
def uptoBulkAll {H : Type} : List (DataW H) → Nat
  | [] => 0
  | d :: r => uptoBulk d + uptoBulkAll r
def uptoBulkEntries {H : Type} : List (Lit × DataW H) → Nat
  | [] => 0
  | x :: r => uptoBulkEntry x + uptoBulkEntries r
def uptoBulkEntry {H : Type} : Lit × DataW H → Nat
  | (.string bytes, d) => bytes.length + uptoBulk d + 1
  | (_, d) => uptoBulk d + 1
 end
def uptoSmall : (H : Type) → List (DataW H) → Bool := fun _ ds => decide (uptoBulkAll ds ≤ 1048576)
def OpenSpec.upto (s : _root_.Go.ChangeSpec) : _root_.Go.OpenSpec := { _root_.Go.OpenSpec.ofChange s with cond := some uptoSmall }

/-- 'dynposlaw13.ShareExact', WHERE WHAT IT READS IS OF BULK AT MOST 1048576: true; the input reads as it did. -/
def shareExactUptoRow : OpenClaim := { program := "ytlhnhidoljfnnaa", sum := "e23d5edc8e15982ee9e3665e20df6872542641ad5ae9c16572d861281f8f9a8e", func := "dynpos/dynposlaw13.ShareExact", spec := "shareExact", unfollowed := true, recurses := true, apart := false, narrowed := true }
def ShareExactUptoSaid : Prop := shareExactUptoRow.holds Try.pinned (OpenSpec.upto shareExactSpec)

/-- 'dynposlaw13.ShareLeast', WHERE WHAT IT READS IS OF BULK AT MOST 1048576: true; the input reads as it did. -/
def shareLeastUptoRow : OpenClaim := { program := "ytlhnhidoljfnnaa", sum := "e23d5edc8e15982ee9e3665e20df6872542641ad5ae9c16572d861281f8f9a8e", func := "dynpos/dynposlaw13.ShareLeast", spec := "shareLeast", unfollowed := true, recurses := true, apart := false, narrowed := true }
def ShareLeastUptoSaid : Prop := shareLeastUptoRow.holds Try.pinned (OpenSpec.upto shareLeastSpec)

/-- 'dynposlaw13.ShareNearest', WHERE WHAT IT READS IS OF BULK AT MOST 1048576: true; the input reads as it did. -/
def shareNearestUptoRow : OpenClaim := { program := "ytlhnhidoljfnnaa", sum := "e23d5edc8e15982ee9e3665e20df6872542641ad5ae9c16572d861281f8f9a8e", func := "dynpos/dynposlaw13.ShareNearest", spec := "shareNearest", unfollowed := true, recurses := true, apart := false, narrowed := true }
def ShareNearestUptoSaid : Prop := shareNearestUptoRow.holds Try.pinned (OpenSpec.upto shareNearestSpec)

/-- 'dynposlaw13.SharePrice', WHERE WHAT IT READS IS OF BULK AT MOST 1048576: true; the input reads as it did. -/
def sharePriceUptoRow : OpenClaim := { program := "ytlhnhidoljfnnaa", sum := "e23d5edc8e15982ee9e3665e20df6872542641ad5ae9c16572d861281f8f9a8e", func := "dynpos/dynposlaw13.SharePrice", spec := "sharePrice", unfollowed := true, recurses := true, apart := false, narrowed := true }
def SharePriceUptoSaid : Prop := sharePriceUptoRow.holds Try.pinned (OpenSpec.upto sharePriceSpec)

/-- 'dynposlaw13.ShareScales', WHERE WHAT IT READS IS OF BULK AT MOST 1048576: true; the input reads as it did. -/
def shareScalesUptoRow : OpenClaim := { program := "ytlhnhidoljfnnaa", sum := "e23d5edc8e15982ee9e3665e20df6872542641ad5ae9c16572d861281f8f9a8e", func := "dynpos/dynposlaw13.ShareScales", spec := "shareScales", unfollowed := true, recurses := true, apart := false, narrowed := true }
def ShareScalesUptoSaid : Prop := shareScalesUptoRow.holds Try.pinned (OpenSpec.upto shareScalesSpec)

/-- 'dynposlaw13.ShareRanges', WHERE WHAT IT READS IS OF BULK AT MOST 1048576: true; the input reads as it did. -/
def shareRangesUptoRow : OpenClaim := { program := "ytlhnhidoljfnnaa", sum := "e23d5edc8e15982ee9e3665e20df6872542641ad5ae9c16572d861281f8f9a8e", func := "dynpos/dynposlaw13.ShareRanges", spec := "shareRanges", unfollowed := true, recurses := true, apart := false, narrowed := true }
def ShareRangesUptoSaid : Prop := shareRangesUptoRow.holds Try.pinned (OpenSpec.upto shareRangesSpec)

/-- 'dynposlaw09.FuseExact', WHERE WHAT IT READS IS OF BULK AT MOST 1048576: true; the input reads as it did. -/
def fuseExactUptoRow : OpenClaim := { program := "ytlhnhidoljfnnaa", sum := "e23d5edc8e15982ee9e3665e20df6872542641ad5ae9c16572d861281f8f9a8e", func := "dynpos/dynposlaw09.FuseExact", spec := "fuseExact", unfollowed := true, recurses := true, apart := false, narrowed := true }
def FuseExactUptoSaid : Prop := fuseExactUptoRow.holds Try.pinned (OpenSpec.upto fuseExactSpec)

/-- 'dynposlaw09.FuseMean', WHERE WHAT IT READS IS OF BULK AT MOST 1048576: true; the input reads as it did. -/
def fuseMeanUptoRow : OpenClaim := { program := "ytlhnhidoljfnnaa", sum := "e23d5edc8e15982ee9e3665e20df6872542641ad5ae9c16572d861281f8f9a8e", func := "dynpos/dynposlaw09.FuseMean", spec := "fuseMean", unfollowed := true, recurses := true, apart := false, narrowed := true }
def FuseMeanUptoSaid : Prop := fuseMeanUptoRow.holds Try.pinned (OpenSpec.upto fuseMeanSpec)

/-- 'dynposlaw24.ControlExact', WHERE WHAT IT READS IS OF BULK AT MOST 1048576: true; the input reads as it did. -/
def controlExactUptoRow : OpenClaim := { program := "ytlhnhidoljfnnaa", sum := "e23d5edc8e15982ee9e3665e20df6872542641ad5ae9c16572d861281f8f9a8e", func := "dynpos/dynposlaw24.ControlExact", spec := "controlExact", unfollowed := true, recurses := true, apart := false, narrowed := true }
def ControlExactUptoSaid : Prop := controlExactUptoRow.holds Try.pinned (OpenSpec.upto controlExactSpec)

/-- 'dynposlaw17.BalanceScales', WHERE WHAT IT READS IS OF BULK AT MOST 1048576: true; the input reads as it did. -/
def balanceScalesUptoRow : OpenClaim := { program := "ytlhnhidoljfnnaa", sum := "e23d5edc8e15982ee9e3665e20df6872542641ad5ae9c16572d861281f8f9a8e", func := "dynpos/dynposlaw17.BalanceScales", spec := "balanceScales", unfollowed := true, recurses := true, apart := false, narrowed := true }
def BalanceScalesUptoSaid : Prop := balanceScalesUptoRow.holds Try.pinned (OpenSpec.upto balanceScalesSpec)

/-- 'dynposlaw17.BalanceShares', WHERE WHAT IT READS IS OF BULK AT MOST 1048576: true; the input reads as it did. -/
def balanceSharesUptoRow : OpenClaim := { program := "ytlhnhidoljfnnaa", sum := "e23d5edc8e15982ee9e3665e20df6872542641ad5ae9c16572d861281f8f9a8e", func := "dynpos/dynposlaw17.BalanceShares", spec := "balanceShares", unfollowed := true, recurses := true, apart := false, narrowed := true }
def BalanceSharesUptoSaid : Prop := balanceSharesUptoRow.holds Try.pinned (OpenSpec.upto balanceSharesSpec)

end Rows
end Go.Proofs.Ytlhnhidoljfnnaa
