/-
  No cell of these rows narrows 'for every input' (looked for: loops, veiled, ifaces, maps, wideKeys, modest, calm, conditions, laid).
  DERIVED. THE GIVEN ROWS OF THIS SEAT. 3 by the template 'for every input the law returns true; each argument reads behind the call as it read before'; 0 by the template 'total and deterministic' (their statements: YtedhpkpmdmobcaaTotals.lean).
  GIVEN WITH THE SEED: the statements are not yours to turn. If you find one false, say at which input.
  Laid BY PROGRAM, IN A SANDBOX (cutbox-rows.mjs): the forced cells as the released guide's own fill.sh prints them over the translation 279f9af3ed73f809… (all of the seat's roots in one cut). By AI agents, Wed Nov 11 2026. No macro, syntax, notation, axiom, sorry.
-/
import Derived.Test.YtedhpkpmdmobcaaChecked
import GoSem.Claim
import GoSem.ClaimJoined
import GoSem.ClaimMapViews
import Derived.JoinedTies
import Derived.KernelRfl
namespace Go.Proofs.Ytedhpkpmdmobcaa
/- THE CELL 'sum', in the pinned program and in every row, IS THE sha256 OF THE DUMP (.gsa) THAT YtedhpkpmdmobcaaProg.lean LOADS. Nothing in Lean hashes anything: it is a label: what it is worth is what the hold of that sum in a sandbox is worth. -/
noncomputable def Try.pinned : Pinned := { name := "ytedhpkpmdmobcaa", sum := "279f9af3ed73f809d4cb61507eeca8daf22e15f8ffe2c22af084a351b03d9bc2", checked := Try.checked }
namespace Rows
def none {H : Type} : Left H := { results := [], args := [] }

/-- 'dynposlaw09.FuseGrows': WHATEVER THE INPUT: true; the input reads as it did. -/
def fuseGrowsSpec : ChangeSpec := { name := "fuseGrows", fn := fun _ => fun
  | [d1, d2, d3, d4, d5] => { results := [.lit (.bool true)], args := [d1, d2, d3, d4, d5] }
  | _ => none }
def fuseGrowsRow : OpenClaim := { program := "ytedhpkpmdmobcaa", sum := "279f9af3ed73f809d4cb61507eeca8daf22e15f8ffe2c22af084a351b03d9bc2", func := "dynpos/dynposlaw09.FuseGrows", spec := "fuseGrows", unfollowed := true, recurses := true, apart := false }
def FuseGrowsSaid : Prop := fuseGrowsRow.holds Try.pinned (OpenSpec.ofChange fuseGrowsSpec)

/-- ITS FALSE NEIGHBOUR: 'it returns false'. Refute it at one input. -/
def fuseGrowsWrong : ChangeSpec := { name := "fuseGrows", fn := fun _ => fun
  | [d1, d2, d3, d4, d5] => { results := [.lit (.bool false)], args := [d1, d2, d3, d4, d5] }
  | _ => none }
def FuseGrowsWrongFalsely : Prop := fuseGrowsRow.holds Try.pinned (OpenSpec.ofChange fuseGrowsWrong)

/-- 'dynposlaw09.FuseBound': WHATEVER THE INPUT: true; the input reads as it did. -/
def fuseBoundSpec : ChangeSpec := { name := "fuseBound", fn := fun _ => fun
  | [d] => { results := [.lit (.bool true)], args := [d] }
  | _ => none }
def fuseBoundRow : OpenClaim := { program := "ytedhpkpmdmobcaa", sum := "279f9af3ed73f809d4cb61507eeca8daf22e15f8ffe2c22af084a351b03d9bc2", func := "dynpos/dynposlaw09.FuseBound", spec := "fuseBound", unfollowed := true, recurses := true, apart := false }
def FuseBoundSaid : Prop := fuseBoundRow.holds Try.pinned (OpenSpec.ofChange fuseBoundSpec)

/-- ITS FALSE NEIGHBOUR: 'it returns false'. Refute it at one input. -/
def fuseBoundWrong : ChangeSpec := { name := "fuseBound", fn := fun _ => fun
  | [d] => { results := [.lit (.bool false)], args := [d] }
  | _ => none }
def FuseBoundWrongFalsely : Prop := fuseBoundRow.holds Try.pinned (OpenSpec.ofChange fuseBoundWrong)

/-- 'dynposlaw11.SectorRates': WHATEVER THE INPUT: true; the input reads as it did. -/
def sectorRatesSpec : ChangeSpec := { name := "sectorRates", fn := fun _ => fun
  | [d] => { results := [.lit (.bool true)], args := [d] }
  | _ => none }
def sectorRatesRow : OpenClaim := { program := "ytedhpkpmdmobcaa", sum := "279f9af3ed73f809d4cb61507eeca8daf22e15f8ffe2c22af084a351b03d9bc2", func := "dynpos/dynposlaw11.SectorRates", spec := "sectorRates", unfollowed := true, recurses := true, apart := false }
def SectorRatesSaid : Prop := sectorRatesRow.holds Try.pinned (OpenSpec.ofChange sectorRatesSpec)

/-- ITS FALSE NEIGHBOUR: 'it returns false'. Refute it at one input. -/
def sectorRatesWrong : ChangeSpec := { name := "sectorRates", fn := fun _ => fun
  | [d] => { results := [.lit (.bool false)], args := [d] }
  | _ => none }
def SectorRatesWrongFalsely : Prop := sectorRatesRow.holds Try.pinned (OpenSpec.ofChange sectorRatesWrong)

/- THE SECOND FORM. 'bulk': how many values and letters a reading holds, each counted each time it is reached (what is shared counts as often as it is met; a slice's spare places count too). A statement '..UptoSaid' is the law's where the arguments, and the package variables that the reading takes, are together of bulk at most 1048576: NARROWER than '..Said'. Prove '..Said' where nothing that the law and all that it calls make is longer than what came in: it says more and counts as full. Else prove '..UptoSaid'. A law counts once. -/
mutual
def uptoBulk {H : Type} : DataW H → Nat
  | .lit (.string bytes) => bytes.length + 1
  | .lit _ => 1
  | .nil => 1
  | .ptr d => uptoBulk d + 1
  | .slice elems spare => uptoBulkAll elems + uptoBulkAll spare + 1
  | .agg parts => uptoBulkAll parts + 1
  | .iface _ d => uptoBulk d + 1
  | .map entries => uptoBulkEntries entries + 1
  | .held _ => 1
def uptoBulkAll {H : Type} : List (DataW H) → Nat
  | [] => 0
  | d :: r => uptoBulk d + uptoBulkAll r
def uptoBulkEntries {H : Type} : List (Lit × DataW H) → Nat
  | [] => 0
  | x :: r => uptoBulkEntry x + uptoBulkEntries r
def uptoBulkEntry {H : Type} : Lit × DataW H → Nat
  | (.string bytes, d) => bytes.length + uptoBulk d + 1
  | (_, d) => uptoBulk d + 1
 end
def uptoSmall : (H : Type) → List (DataW H) → Bool := fun _ ds => decide (uptoBulkAll ds ≤ 1048576)
def OpenSpec.upto (s : _root_.Go.ChangeSpec) : _root_.Go.OpenSpec := { _root_.Go.OpenSpec.ofChange s with cond := some uptoSmall }

/-- 'dynposlaw09.FuseGrows', WHERE WHAT IT READS IS OF BULK AT MOST 1048576: true; the input reads as it did. -/
def fuseGrowsUptoRow : OpenClaim := { program := "ytedhpkpmdmobcaa", sum := "279f9af3ed73f809d4cb61507eeca8daf22e15f8ffe2c22af084a351b03d9bc2", func := "dynpos/dynposlaw09.FuseGrows", spec := "fuseGrows", unfollowed := true, recurses := true, apart := false, narrowed := true }
def FuseGrowsUptoSaid : Prop := fuseGrowsUptoRow.holds Try.pinned (OpenSpec.upto fuseGrowsSpec)

/-- 'dynposlaw09.FuseBound', WHERE WHAT IT READS IS OF BULK AT MOST 1048576: true; the input reads as it did. -/
def fuseBoundUptoRow : OpenClaim := { program := "ytedhpkpmdmobcaa", sum := "279f9af3ed73f809d4cb61507eeca8daf22e15f8ffe2c22af084a351b03d9bc2", func := "dynpos/dynposlaw09.FuseBound", spec := "fuseBound", unfollowed := true, recurses := true, apart := false, narrowed := true }
def FuseBoundUptoSaid : Prop := fuseBoundUptoRow.holds Try.pinned (OpenSpec.upto fuseBoundSpec)

/-- 'dynposlaw11.SectorRates', WHERE WHAT IT READS IS OF BULK AT MOST 1048576: true; the input reads as it did. -/
def sectorRatesUptoRow : OpenClaim := { program := "ytedhpkpmdmobcaa", sum := "279f9af3ed73f809d4cb61507eeca8daf22e15f8ffe2c22af084a351b03d9bc2", func := "dynpos/dynposlaw11.SectorRates", spec := "sectorRates", unfollowed := true, recurses := true, apart := false, narrowed := true }
def SectorRatesUptoSaid : Prop := sectorRatesUptoRow.holds Try.pinned (OpenSpec.upto sectorRatesSpec)

end Rows
end Go.Proofs.Ytedhpkpmdmobcaa
