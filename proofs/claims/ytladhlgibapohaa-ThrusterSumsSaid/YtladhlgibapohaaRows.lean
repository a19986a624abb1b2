/-
  No cell of these rows narrows 'for every input' (looked for: loops, veiled, ifaces, maps, wideKeys, modest, calm, conditions, laid).
  DERIVED. THE GIVEN ROWS OF THIS SEAT. 12 by the template 'for every input the law returns true; each argument reads behind the call as it read before'; 0 by the template 'total and deterministic' (their statements: YtladhlgibapohaaTotals.lean).
  GIVEN WITH THE SEED: the statements are not yours to turn. If you find one false, say at which input.
  Laid BY PROGRAM, IN A SANDBOX (cutbox-rows.mjs): the forced cells as the released guide's own fill.sh prints them over the translation 1dca342cdd9f3893… (all of the seat's roots in one cut). By AI agents, Wed Nov 11 2026. No macro, syntax, notation, axiom, sorry.
-/
import Derived.Test.YtladhlgibapohaaChecked
import GoSem.Claim
import GoSem.ClaimJoined
import GoSem.ClaimMapViews
import Derived.JoinedTies
import Derived.KernelRfl
namespace Go.Proofs.Ytladhlgibapohaa
/- THE CELL 'sum', in the pinned program and in every row, IS THE sha256 OF THE DUMP (.gsa) THAT YtladhlgibapohaaProg.lean LOADS. Nothing in Lean hashes anything: it is a label: what it is worth is what the hold of that sum in a sandbox is worth. -/
noncomputable def Try.pinned : Pinned := { name := "ytladhlgibapohaa", sum := "1dca342cdd9f3893aac4b1a723bd1e03fe9fddd950855e0a4e3dc52d8981994b", checked := Try.checked }
namespace Rows
def none {H : Type} : Left H := { results := [], args := [] }

/-- 'dynposlaw07.MonitorReturns': WHATEVER THE INPUT: true; the input reads as it did. -/
def monitorReturnsSpec : ChangeSpec := { name := "monitorReturns", fn := fun _ => fun
  | [d1, d2] => { results := [.lit (.bool true)], args := [d1, d2] }
  | _ => none }
def monitorReturnsRow : OpenClaim := { program := "ytladhlgibapohaa", sum := "1dca342cdd9f3893aac4b1a723bd1e03fe9fddd950855e0a4e3dc52d8981994b", func := "dynpos/dynposlaw07.MonitorReturns", spec := "monitorReturns", apart := false }
def MonitorReturnsSaid : Prop := monitorReturnsRow.holds Try.pinned (OpenSpec.ofChange monitorReturnsSpec)

/-- ITS FALSE NEIGHBOUR: 'it returns false'. Refute it at one input. -/
def monitorReturnsWrong : ChangeSpec := { name := "monitorReturns", fn := fun _ => fun
  | [d1, d2] => { results := [.lit (.bool false)], args := [d1, d2] }
  | _ => none }
def MonitorReturnsWrongFalsely : Prop := monitorReturnsRow.holds Try.pinned (OpenSpec.ofChange monitorReturnsWrong)

/-- 'dynposlaw07.MonitorTrue': WHATEVER THE INPUT: true; the input reads as it did. -/
def monitorTrueSpec : ChangeSpec := { name := "monitorTrue", fn := fun _ => fun
  | [d] => { results := [.lit (.bool true)], args := [d] }
  | _ => none }
def monitorTrueRow : OpenClaim := { program := "ytladhlgibapohaa", sum := "1dca342cdd9f3893aac4b1a723bd1e03fe9fddd950855e0a4e3dc52d8981994b", func := "dynpos/dynposlaw07.MonitorTrue", spec := "monitorTrue", apart := false }
def MonitorTrueSaid : Prop := monitorTrueRow.holds Try.pinned (OpenSpec.ofChange monitorTrueSpec)

/-- ITS FALSE NEIGHBOUR: 'it returns false'. Refute it at one input. -/
def monitorTrueWrong : ChangeSpec := { name := "monitorTrue", fn := fun _ => fun
  | [d] => { results := [.lit (.bool false)], args := [d] }
  | _ => none }
def MonitorTrueWrongFalsely : Prop := monitorTrueRow.holds Try.pinned (OpenSpec.ofChange monitorTrueWrong)

/-- 'dynposlaw07.MonitorFreezes': WHATEVER THE INPUT: true; the input reads as it did. -/
def monitorFreezesSpec : ChangeSpec := { name := "monitorFreezes", fn := fun _ => fun
  | [d1, d2] => { results := [.lit (.bool true)], args := [d1, d2] }
  | _ => none }
def monitorFreezesRow : OpenClaim := { program := "ytladhlgibapohaa", sum := "1dca342cdd9f3893aac4b1a723bd1e03fe9fddd950855e0a4e3dc52d8981994b", func := "dynpos/dynposlaw07.MonitorFreezes", spec := "monitorFreezes", apart := false }
def MonitorFreezesSaid : Prop := monitorFreezesRow.holds Try.pinned (OpenSpec.ofChange monitorFreezesSpec)

/-- ITS FALSE NEIGHBOUR: 'it returns false'. Refute it at one input. -/
def monitorFreezesWrong : ChangeSpec := { name := "monitorFreezes", fn := fun _ => fun
  | [d1, d2] => { results := [.lit (.bool false)], args := [d1, d2] }
  | _ => none }
def MonitorFreezesWrongFalsely : Prop := monitorFreezesRow.holds Try.pinned (OpenSpec.ofChange monitorFreezesWrong)

/-- 'dynposlaw07.MonitorTicks': WHATEVER THE INPUT: true; the input reads as it did. -/
def monitorTicksSpec : ChangeSpec := { name := "monitorTicks", fn := fun _ => fun
  | [d] => { results := [.lit (.bool true)], args := [d] }
  | _ => none }
def monitorTicksRow : OpenClaim := { program := "ytladhlgibapohaa", sum := "1dca342cdd9f3893aac4b1a723bd1e03fe9fddd950855e0a4e3dc52d8981994b", func := "dynpos/dynposlaw07.MonitorTicks", spec := "monitorTicks", apart := false }
def MonitorTicksSaid : Prop := monitorTicksRow.holds Try.pinned (OpenSpec.ofChange monitorTicksSpec)

/-- ITS FALSE NEIGHBOUR: 'it returns false'. Refute it at one input. -/
def monitorTicksWrong : ChangeSpec := { name := "monitorTicks", fn := fun _ => fun
  | [d] => { results := [.lit (.bool false)], args := [d] }
  | _ => none }
def MonitorTicksWrongFalsely : Prop := monitorTicksRow.holds Try.pinned (OpenSpec.ofChange monitorTicksWrong)

/-- 'dynposlaw12.ThrusterMore': WHATEVER THE INPUT: true; the input reads as it did. -/
def thrusterMoreSpec : ChangeSpec := { name := "thrusterMore", fn := fun _ => fun
  | [d1, d2, d3] => { results := [.lit (.bool true)], args := [d1, d2, d3] }
  | _ => none }
def thrusterMoreRow : OpenClaim := { program := "ytladhlgibapohaa", sum := "1dca342cdd9f3893aac4b1a723bd1e03fe9fddd950855e0a4e3dc52d8981994b", func := "dynpos/dynposlaw12.ThrusterMore", spec := "thrusterMore", unfollowed := true, recurses := true, apart := false }
def ThrusterMoreSaid : Prop := thrusterMoreRow.holds Try.pinned (OpenSpec.ofChange thrusterMoreSpec)

/-- ITS FALSE NEIGHBOUR: 'it returns false'. Refute it at one input. -/
def thrusterMoreWrong : ChangeSpec := { name := "thrusterMore", fn := fun _ => fun
  | [d1, d2, d3] => { results := [.lit (.bool false)], args := [d1, d2, d3] }
  | _ => none }
def ThrusterMoreWrongFalsely : Prop := thrusterMoreRow.holds Try.pinned (OpenSpec.ofChange thrusterMoreWrong)

/-- 'dynposlaw12.ThrusterPower': WHATEVER THE INPUT: true; the input reads as it did. -/
def thrusterPowerSpec : ChangeSpec := { name := "thrusterPower", fn := fun _ => fun
  | [d] => { results := [.lit (.bool true)], args := [d] }
  | _ => none }
def thrusterPowerRow : OpenClaim := { program := "ytladhlgibapohaa", sum := "1dca342cdd9f3893aac4b1a723bd1e03fe9fddd950855e0a4e3dc52d8981994b", func := "dynpos/dynposlaw12.ThrusterPower", spec := "thrusterPower", unfollowed := true, recurses := true, apart := false }
def ThrusterPowerSaid : Prop := thrusterPowerRow.holds Try.pinned (OpenSpec.ofChange thrusterPowerSpec)

/-- ITS FALSE NEIGHBOUR: 'it returns false'. Refute it at one input. -/
def thrusterPowerWrong : ChangeSpec := { name := "thrusterPower", fn := fun _ => fun
  | [d] => { results := [.lit (.bool false)], args := [d] }
  | _ => none }
def ThrusterPowerWrongFalsely : Prop := thrusterPowerRow.holds Try.pinned (OpenSpec.ofChange thrusterPowerWrong)

/-- 'dynposlaw12.ThrusterSums': WHATEVER THE INPUT: true; the input reads as it did. -/
def thrusterSumsSpec : ChangeSpec := { name := "thrusterSums", fn := fun _ => fun
  | [d] => { results := [.lit (.bool true)], args := [d] }
  | _ => none }
def thrusterSumsRow : OpenClaim := { program := "ytladhlgibapohaa", sum := "1dca342cdd9f3893aac4b1a723bd1e03fe9fddd950855e0a4e3dc52d8981994b", func := "dynpos/dynposlaw12.ThrusterSums", spec := "thrusterSums", unfollowed := true, recurses := true, apart := false }
def ThrusterSumsSaid : Prop := thrusterSumsRow.holds Try.pinned (OpenSpec.ofChange thrusterSumsSpec)

/-- ITS FALSE NEIGHBOUR: 'it returns false'. Refute it at one input. -/
def thrusterSumsWrong : ChangeSpec := { name := "thrusterSums", fn := fun _ => fun
  | [d] => { results := [.lit (.bool false)], args := [d] }
  | _ => none }
def ThrusterSumsWrongFalsely : Prop := thrusterSumsRow.holds Try.pinned (OpenSpec.ofChange thrusterSumsWrong)

/-- 'dynposlaw11.SectorMirror': WHATEVER THE INPUT: true; the input reads as it did. -/
def sectorMirrorSpec : ChangeSpec := { name := "sectorMirror", fn := fun _ => fun
  | [d] => { results := [.lit (.bool true)], args := [d] }
  | _ => none }
def sectorMirrorRow : OpenClaim := { program := "ytladhlgibapohaa", sum := "1dca342cdd9f3893aac4b1a723bd1e03fe9fddd950855e0a4e3dc52d8981994b", func := "dynpos/dynposlaw11.SectorMirror", spec := "sectorMirror", unfollowed := true, recurses := true, apart := false }
def SectorMirrorSaid : Prop := sectorMirrorRow.holds Try.pinned (OpenSpec.ofChange sectorMirrorSpec)

/-- ITS FALSE NEIGHBOUR: 'it returns false'. Refute it at one input. -/
def sectorMirrorWrong : ChangeSpec := { name := "sectorMirror", fn := fun _ => fun
  | [d] => { results := [.lit (.bool false)], args := [d] }
  | _ => none }
def SectorMirrorWrongFalsely : Prop := sectorMirrorRow.holds Try.pinned (OpenSpec.ofChange sectorMirrorWrong)

/-- 'dynposlaw11.SectorSmaller': WHATEVER THE INPUT: true; the input reads as it did. -/
def sectorSmallerSpec : ChangeSpec := { name := "sectorSmaller", fn := fun _ => fun
  | [d] => { results := [.lit (.bool true)], args := [d] }
  | _ => none }
def sectorSmallerRow : OpenClaim := { program := "ytladhlgibapohaa", sum := "1dca342cdd9f3893aac4b1a723bd1e03fe9fddd950855e0a4e3dc52d8981994b", func := "dynpos/dynposlaw11.SectorSmaller", spec := "sectorSmaller", unfollowed := true, recurses := true, apart := false }
def SectorSmallerSaid : Prop := sectorSmallerRow.holds Try.pinned (OpenSpec.ofChange sectorSmallerSpec)

/-- ITS FALSE NEIGHBOUR: 'it returns false'. Refute it at one input. -/
def sectorSmallerWrong : ChangeSpec := { name := "sectorSmaller", fn := fun _ => fun
  | [d] => { results := [.lit (.bool false)], args := [d] }
  | _ => none }
def SectorSmallerWrongFalsely : Prop := sectorSmallerRow.holds Try.pinned (OpenSpec.ofChange sectorSmallerWrong)

/-- 'dynposlaw11.SectorRanges': WHATEVER THE INPUT: true; the input reads as it did. -/
def sectorRangesSpec : ChangeSpec := { name := "sectorRanges", fn := fun _ => fun
  | [d] => { results := [.lit (.bool true)], args := [d] }
  | _ => none }
def sectorRangesRow : OpenClaim := { program := "ytladhlgibapohaa", sum := "1dca342cdd9f3893aac4b1a723bd1e03fe9fddd950855e0a4e3dc52d8981994b", func := "dynpos/dynposlaw11.SectorRanges", spec := "sectorRanges", unfollowed := true, recurses := true, apart := false }
def SectorRangesSaid : Prop := sectorRangesRow.holds Try.pinned (OpenSpec.ofChange sectorRangesSpec)

/-- ITS FALSE NEIGHBOUR: 'it returns false'. Refute it at one input. -/
def sectorRangesWrong : ChangeSpec := { name := "sectorRanges", fn := fun _ => fun
  | [d] => { results := [.lit (.bool false)], args := [d] }
  | _ => none }
def SectorRangesWrongFalsely : Prop := sectorRangesRow.holds Try.pinned (OpenSpec.ofChange sectorRangesWrong)

/-- 'dynposlaw09.FuseBound': WHATEVER THE INPUT: true; the input reads as it did. -/
def fuseBoundSpec : ChangeSpec := { name := "fuseBound", fn := fun _ => fun
  | [d] => { results := [.lit (.bool true)], args := [d] }
  | _ => none }
def fuseBoundRow : OpenClaim := { program := "ytladhlgibapohaa", sum := "1dca342cdd9f3893aac4b1a723bd1e03fe9fddd950855e0a4e3dc52d8981994b", func := "dynpos/dynposlaw09.FuseBound", spec := "fuseBound", unfollowed := true, recurses := true, apart := false }
def FuseBoundSaid : Prop := fuseBoundRow.holds Try.pinned (OpenSpec.ofChange fuseBoundSpec)

/-- ITS FALSE NEIGHBOUR: 'it returns false'. Refute it at one input. -/
def fuseBoundWrong : ChangeSpec := { name := "fuseBound", fn := fun _ => fun
  | [d] => { results := [.lit (.bool false)], args := [d] }
  | _ => none }
def FuseBoundWrongFalsely : Prop := fuseBoundRow.holds Try.pinned (OpenSpec.ofChange fuseBoundWrong)

/-- 'dynposlaw09.FuseMean': WHATEVER THE INPUT: true; the input reads as it did. -/
def fuseMeanSpec : ChangeSpec := { name := "fuseMean", fn := fun _ => fun
  | [d] => { results := [.lit (.bool true)], args := [d] }
  | _ => none }
def fuseMeanRow : OpenClaim := { program := "ytladhlgibapohaa", sum := "1dca342cdd9f3893aac4b1a723bd1e03fe9fddd950855e0a4e3dc52d8981994b", func := "dynpos/dynposlaw09.FuseMean", spec := "fuseMean", unfollowed := true, recurses := true, apart := false }
def FuseMeanSaid : Prop := fuseMeanRow.holds Try.pinned (OpenSpec.ofChange fuseMeanSpec)

/-- ITS FALSE NEIGHBOUR: 'it returns false'. Refute it at one input. -/
def fuseMeanWrong : ChangeSpec := { name := "fuseMean", fn := fun _ => fun
  | [d] => { results := [.lit (.bool false)], args := [d] }
  | _ => none }
def FuseMeanWrongFalsely : Prop := fuseMeanRow.holds Try.pinned (OpenSpec.ofChange fuseMeanWrong)

/- THE SECOND FORM. 'bulk': how many values and letters a reading holds, each counted each time it is reached (what is shared counts as often as it is met; a slice's spare places count too). A statement '..UptoSaid' is the law's where the arguments, and the package variables that the reading takes, are together of bulk at most 1048576: NARROWER than '..Said'. Prove '..Said' where nothing that the law and all that it calls make is longer than what came in: it says more and counts as full. Else prove '..UptoSaid'. A law counts once. -/
mutual
def uptoBulk {H : Type} : DataW H → Nat
  | .lit (.string bytes) => bytes.length + 1
  | .lit _ => 1
  | .nil => 1
  | .ptr d => uptoBulk d + 1
  | .slice elems spare => uptoBulkAll elems + uptoBulkAll spare + 1
  | .agg parts => uptoBulkAll parts + 1
  | .iface _ d => uptoBulk d + 1
  | .map entries => uptoBulkEntries entries + 1
  | .held _ => 1
def uptoBulkAll {H : Type} : List (DataW H) → Nat
  | [] => 0
  | d :: r => uptoBulk d + uptoBulkAll r
def uptoBulkEntries {H : Type} : List (Lit × DataW H) → Nat
  | [] => 0
  | x :: r => uptoBulkEntry x + uptoBulkEntries r
def uptoBulkEntry {H : Type} : Lit × DataW H → Nat
  | (.string bytes, d) => bytes.length + uptoBulk d + 1
  | (_, d) => uptoBulk d + 1
 end
def uptoSmall : (H : Type) → List (DataW H) → Bool := fun _ ds => decide (uptoBulkAll ds ≤ 1048576)
def OpenSpec.upto (s : _root_.Go.ChangeSpec) : _root_.Go.OpenSpec := { _root_.Go.OpenSpec.ofChange s with cond := some uptoSmall }

/-- 'dynposlaw07.MonitorReturns', WHERE WHAT IT READS IS OF BULK AT MOST 1048576: true; the input reads as it did. -/
def monitorReturnsUptoRow : OpenClaim := { program := "ytladhlgibapohaa", sum := "1dca342cdd9f3893aac4b1a723bd1e03fe9fddd950855e0a4e3dc52d8981994b", func := "dynpos/dynposlaw07.MonitorReturns", spec := "monitorReturns", apart := false, narrowed := true }
def MonitorReturnsUptoSaid : Prop := monitorReturnsUptoRow.holds Try.pinned (OpenSpec.upto monitorReturnsSpec)

/-- 'dynposlaw07.MonitorTrue', WHERE WHAT IT READS IS OF BULK AT MOST 1048576: true; the input reads as it did. -/
def monitorTrueUptoRow : OpenClaim := { program := "ytladhlgibapohaa", sum := "1dca342cdd9f3893aac4b1a723bd1e03fe9fddd950855e0a4e3dc52d8981994b", func := "dynpos/dynposlaw07.MonitorTrue", spec := "monitorTrue", apart := false, narrowed := true }
def MonitorTrueUptoSaid : Prop := monitorTrueUptoRow.holds Try.pinned (OpenSpec.upto monitorTrueSpec)

/-- 'dynposlaw07.MonitorFreezes', WHERE WHAT IT READS IS OF BULK AT MOST 1048576: true; the input reads as it did. -/
def monitorFreezesUptoRow : OpenClaim := { program := "ytladhlgibapohaa", sum := "1dca342cdd9f3893aac4b1a723bd1e03fe9fddd950855e0a4e3dc52d8981994b", func := "dynpos/dynposlaw07.MonitorFreezes", spec := "monitorFreezes", apart := false, narrowed := true }
def MonitorFreezesUptoSaid : Prop := monitorFreezesUptoRow.holds Try.pinned (OpenSpec.upto monitorFreezesSpec)

/-- 'dynposlaw07.MonitorTicks', WHERE WHAT IT READS IS OF BULK AT MOST 1048576: true; the input reads as it did. -/
def monitorTicksUptoRow : OpenClaim := { program := "ytladhlgibapohaa", sum := "1dca342cdd9f3893aac4b1a723bd1e03fe9fddd950855e0a4e3dc52d8981994b", func := "dynpos/dynposlaw07.MonitorTicks", spec := "monitorTicks", apart := false, narrowed := true }
def MonitorTicksUptoSaid : Prop := monitorTicksUptoRow.holds Try.pinned (OpenSpec.upto monitorTicksSpec)

/-- 'dynposlaw12.ThrusterMore', WHERE WHAT IT READS IS OF BULK AT MOST 1048576: true; the input reads as it did. -/
def thrusterMoreUptoRow : OpenClaim := { program := "ytladhlgibapohaa", sum := "1dca342cdd9f3893aac4b1a723bd1e03fe9fddd950855e0a4e3dc52d8981994b", func := "dynpos/dynposlaw12.ThrusterMore", spec := "thrusterMore", unfollowed := true, recurses := true, apart := false, narrowed := true }
def ThrusterMoreUptoSaid : Prop := thrusterMoreUptoRow.holds Try.pinned (OpenSpec.upto thrusterMoreSpec)

/-- 'dynposlaw12.ThrusterPower', WHERE WHAT IT READS IS OF BULK AT MOST 1048576: true; the input reads as it did. -/
def thrusterPowerUptoRow : OpenClaim := { program := "ytladhlgibapohaa", sum := "1dca342cdd9f3893aac4b1a723bd1e03fe9fddd950855e0a4e3dc52d8981994b", func := "dynpos/dynposlaw12.ThrusterPower", spec := "thrusterPower", unfollowed := true, recurses := true, apart := false, narrowed := true }
def ThrusterPowerUptoSaid : Prop := thrusterPowerUptoRow.holds Try.pinned (OpenSpec.upto thrusterPowerSpec)

/-- 'dynposlaw12.ThrusterSums', WHERE WHAT IT READS IS OF BULK AT MOST 1048576: true; the input reads as it did. -/
def thrusterSumsUptoRow : OpenClaim := { program := "ytladhlgibapohaa", sum := "1dca342cdd9f3893aac4b1a723bd1e03fe9fddd950855e0a4e3dc52d8981994b", func := "dynpos/dynposlaw12.ThrusterSums", spec := "thrusterSums", unfollowed := true, recurses := true, apart := false, narrowed := true }
def ThrusterSumsUptoSaid : Prop := thrusterSumsUptoRow.holds Try.pinned (OpenSpec.upto thrusterSumsSpec)

/-- 'dynposlaw11.SectorMirror', WHERE WHAT IT READS IS OF BULK AT MOST 1048576: true; the input reads as it did. -/
def sectorMirrorUptoRow : OpenClaim := { program := "ytladhlgibapohaa", sum := "1dca342cdd9f3893aac4b1a723bd1e03fe9fddd950855e0a4e3dc52d8981994b", func := "dynpos/dynposlaw11.SectorMirror", spec := "sectorMirror", unfollowed := true, recurses := true, apart := false, narrowed := true }
def SectorMirrorUptoSaid : Prop := sectorMirrorUptoRow.holds Try.pinned (OpenSpec.upto sectorMirrorSpec)

/-- 'dynposlaw11.SectorSmaller', WHERE WHAT IT READS IS OF BULK AT MOST 1048576: true; the input reads as it did. -/
def sectorSmallerUptoRow : OpenClaim := { program := "ytladhlgibapohaa", sum := "1dca342cdd9f3893aac4b1a723bd1e03fe9fddd950855e0a4e3dc52d8981994b", func := "dynpos/dynposlaw11.SectorSmaller", spec := "sectorSmaller", unfollowed := true, recurses := true, apart := false, narrowed := true }
def SectorSmallerUptoSaid : Prop := sectorSmallerUptoRow.holds Try.pinned (OpenSpec.upto sectorSmallerSpec)

/-- 'dynposlaw11.SectorRanges', WHERE WHAT IT READS IS OF BULK AT MOST 1048576: true; the input reads as it did. -/
def sectorRangesUptoRow : OpenClaim := { program := "ytladhlgibapohaa", sum := "1dca342cdd9f3893aac4b1a723bd1e03fe9fddd950855e0a4e3dc52d8981994b", func := "dynpos/dynposlaw11.SectorRanges", spec := "sectorRanges", unfollowed := true, recurses := true, apart := false, narrowed := true }
def SectorRangesUptoSaid : Prop := sectorRangesUptoRow.holds Try.pinned (OpenSpec.upto sectorRangesSpec)

/-- 'dynposlaw09.FuseBound', WHERE WHAT IT READS IS OF BULK AT MOST 1048576: true; the input reads as it did. -/
def fuseBoundUptoRow : OpenClaim := { program := "ytladhlgibapohaa", sum := "1dca342cdd9f3893aac4b1a723bd1e03fe9fddd950855e0a4e3dc52d8981994b", func := "dynpos/dynposlaw09.FuseBound", spec := "fuseBound", unfollowed := true, recurses := true, apart := false, narrowed := true }
def FuseBoundUptoSaid : Prop := fuseBoundUptoRow.holds Try.pinned (OpenSpec.upto fuseBoundSpec)

/-- 'dynposlaw09.FuseMean', WHERE WHAT IT READS IS OF BULK AT MOST 1048576: true; the input reads as it did. -/
def fuseMeanUptoRow : OpenClaim := { program := "ytladhlgibapohaa", sum := "1dca342cdd9f3893aac4b1a723bd1e03fe9fddd950855e0a4e3dc52d8981994b", func := "dynpos/dynposlaw09.FuseMean", spec := "fuseMean", unfollowed := true, recurses := true, apart := false, narrowed := true }
def FuseMeanUptoSaid : Prop := fuseMeanUptoRow.holds Try.pinned (OpenSpec.upto fuseMeanSpec)

end Rows
end Go.Proofs.Ytladhlgibapohaa
