/-
  No cell of these rows narrows 'for every input' (looked for: loops, veiled, ifaces, maps, wideKeys, modest, calm, conditions, laid).
  DERIVED. THE GIVEN ROWS OF THIS SEAT. 6 by the template 'for every input the law returns true; each argument reads behind the call as it read before'; 0 by the template 'total and deterministic' (their statements: YtdkamfkpmplaoaaTotals.lean).
  GIVEN WITH THE SEED: the statements are not yours to turn. If you find one false, say at which input.
  Laid BY PROGRAM, IN A SANDBOX (cutbox-rows.mjs): the forced cells as the released guide's own fill.sh prints them over the translation d28ebebe6b19e50e… (all of the seat's roots in one cut). By AI agents, Wed Nov 11 2026. No macro, syntax, notation, axiom, sorry.
-/
import Derived.Test.YtdkamfkpmplaoaaChecked
import GoSem.Claim
import GoSem.ClaimJoined
import GoSem.ClaimMapViews
import Derived.JoinedTies
import Derived.KernelRfl
namespace Go.Proofs.Ytdkamfkpmplaoaa
/- THE CELL 'sum', in the pinned program and in every row, IS THE sha256 OF THE DUMP (.gsa) THAT YtdkamfkpmplaoaaProg.lean LOADS. Nothing in Lean hashes anything: it is a label: what it is worth is what the hold of that sum in a sandbox is worth. -/
noncomputable def Try.pinned : Pinned := { name := "ytdkamfkpmplaoaa", sum := "d28ebebe6b19e50e0bd7f6e78421738c86bf7613b91b98a573f745fcf1c322e8", checked := Try.checked }
namespace Rows
def none {H : Type} : Left H := { results := [], args := [] }

/-- 'dynposlaw02.AngleExact': WHATEVER THE INPUT: true; the input reads as it did. -/
def angleExactSpec : ChangeSpec := { name := "angleExact", fn := fun _ => fun
  | [d1, d2, d3, d4, d5, d6] => { results := [.lit (.bool true)], args := [d1, d2, d3, d4, d5, d6] }
  | _ => none }
def angleExactRow : OpenClaim := { program := "ytdkamfkpmplaoaa", sum := "d28ebebe6b19e50e0bd7f6e78421738c86bf7613b91b98a573f745fcf1c322e8", func := "dynpos/dynposlaw02.AngleExact", spec := "angleExact", unfollowed := true, recurses := true, apart := false }
def AngleExactSaid : Prop := angleExactRow.holds Try.pinned (OpenSpec.ofChange angleExactSpec)

/-- ITS FALSE NEIGHBOUR: 'it returns false'. Refute it at one input. -/
def angleExactWrong : ChangeSpec := { name := "angleExact", fn := fun _ => fun
  | [d1, d2, d3, d4, d5, d6] => { results := [.lit (.bool false)], args := [d1, d2, d3, d4, d5, d6] }
  | _ => none }
def AngleExactWrongFalsely : Prop := angleExactRow.holds Try.pinned (OpenSpec.ofChange angleExactWrong)

/-- 'dynposlaw03.FrameExact': WHATEVER THE INPUT: true; the input reads as it did. -/
def frameExactSpec : ChangeSpec := { name := "frameExact", fn := fun _ => fun
  | [d1, d2, d3, d4, d5, d6] => { results := [.lit (.bool true)], args := [d1, d2, d3, d4, d5, d6] }
  | _ => none }
def frameExactRow : OpenClaim := { program := "ytdkamfkpmplaoaa", sum := "d28ebebe6b19e50e0bd7f6e78421738c86bf7613b91b98a573f745fcf1c322e8", func := "dynpos/dynposlaw03.FrameExact", spec := "frameExact", unfollowed := true, recurses := true, apart := false }
def FrameExactSaid : Prop := frameExactRow.holds Try.pinned (OpenSpec.ofChange frameExactSpec)

/-- ITS FALSE NEIGHBOUR: 'it returns false'. Refute it at one input. -/
def frameExactWrong : ChangeSpec := { name := "frameExact", fn := fun _ => fun
  | [d1, d2, d3, d4, d5, d6] => { results := [.lit (.bool false)], args := [d1, d2, d3, d4, d5, d6] }
  | _ => none }
def FrameExactWrongFalsely : Prop := frameExactRow.holds Try.pinned (OpenSpec.ofChange frameExactWrong)

/-- 'dynposlaw28.StatusExact': WHATEVER THE INPUT: true; the input reads as it did. -/
def statusExactSpec : ChangeSpec := { name := "statusExact", fn := fun _ => fun
  | [d1, d2, d3, d4, d5, d6, d7, d8, d9] => { results := [.lit (.bool true)], args := [d1, d2, d3, d4, d5, d6, d7, d8, d9] }
  | _ => none }
def statusExactRow : OpenClaim := { program := "ytdkamfkpmplaoaa", sum := "d28ebebe6b19e50e0bd7f6e78421738c86bf7613b91b98a573f745fcf1c322e8", func := "dynpos/dynposlaw28.StatusExact", spec := "statusExact", unfollowed := true, recurses := true, apart := false }
def StatusExactSaid : Prop := statusExactRow.holds Try.pinned (OpenSpec.ofChange statusExactSpec)

/-- ITS FALSE NEIGHBOUR: 'it returns false'. Refute it at one input. -/
def statusExactWrong : ChangeSpec := { name := "statusExact", fn := fun _ => fun
  | [d1, d2, d3, d4, d5, d6, d7, d8, d9] => { results := [.lit (.bool false)], args := [d1, d2, d3, d4, d5, d6, d7, d8, d9] }
  | _ => none }
def StatusExactWrongFalsely : Prop := statusExactRow.holds Try.pinned (OpenSpec.ofChange statusExactWrong)

/-- 'dynposlaw09.FuseMean': WHATEVER THE INPUT: true; the input reads as it did. -/
def fuseMeanSpec : ChangeSpec := { name := "fuseMean", fn := fun _ => fun
  | [d] => { results := [.lit (.bool true)], args := [d] }
  | _ => none }
def fuseMeanRow : OpenClaim := { program := "ytdkamfkpmplaoaa", sum := "d28ebebe6b19e50e0bd7f6e78421738c86bf7613b91b98a573f745fcf1c322e8", func := "dynpos/dynposlaw09.FuseMean", spec := "fuseMean", unfollowed := true, recurses := true, apart := false }
def FuseMeanSaid : Prop := fuseMeanRow.holds Try.pinned (OpenSpec.ofChange fuseMeanSpec)

/-- ITS FALSE NEIGHBOUR: 'it returns false'. Refute it at one input. -/
def fuseMeanWrong : ChangeSpec := { name := "fuseMean", fn := fun _ => fun
  | [d] => { results := [.lit (.bool false)], args := [d] }
  | _ => none }
def FuseMeanWrongFalsely : Prop := fuseMeanRow.holds Try.pinned (OpenSpec.ofChange fuseMeanWrong)

/-- 'dynposlaw22.WeatherExact': WHATEVER THE INPUT: true; the input reads as it did. -/
def weatherExactSpec : ChangeSpec := { name := "weatherExact", fn := fun _ => fun
  | [d1, d2, d3, d4, d5] => { results := [.lit (.bool true)], args := [d1, d2, d3, d4, d5] }
  | _ => none }
def weatherExactRow : OpenClaim := { program := "ytdkamfkpmplaoaa", sum := "d28ebebe6b19e50e0bd7f6e78421738c86bf7613b91b98a573f745fcf1c322e8", func := "dynpos/dynposlaw22.WeatherExact", spec := "weatherExact", unfollowed := true, recurses := true, apart := false }
def WeatherExactSaid : Prop := weatherExactRow.holds Try.pinned (OpenSpec.ofChange weatherExactSpec)

/-- ITS FALSE NEIGHBOUR: 'it returns false'. Refute it at one input. -/
def weatherExactWrong : ChangeSpec := { name := "weatherExact", fn := fun _ => fun
  | [d1, d2, d3, d4, d5] => { results := [.lit (.bool false)], args := [d1, d2, d3, d4, d5] }
  | _ => none }
def WeatherExactWrongFalsely : Prop := weatherExactRow.holds Try.pinned (OpenSpec.ofChange weatherExactWrong)

/-- 'dynposlaw23.VesselExact': WHATEVER THE INPUT: true; the input reads as it did. -/
def vesselExactSpec : ChangeSpec := { name := "vesselExact", fn := fun _ => fun
  | [d1, d2, d3, d4] => { results := [.lit (.bool true)], args := [d1, d2, d3, d4] }
  | _ => none }
def vesselExactRow : OpenClaim := { program := "ytdkamfkpmplaoaa", sum := "d28ebebe6b19e50e0bd7f6e78421738c86bf7613b91b98a573f745fcf1c322e8", func := "dynpos/dynposlaw23.VesselExact", spec := "vesselExact", unfollowed := true, recurses := true, apart := false }
def VesselExactSaid : Prop := vesselExactRow.holds Try.pinned (OpenSpec.ofChange vesselExactSpec)

/-- ITS FALSE NEIGHBOUR: 'it returns false'. Refute it at one input. -/
def vesselExactWrong : ChangeSpec := { name := "vesselExact", fn := fun _ => fun
  | [d1, d2, d3, d4] => { results := [.lit (.bool false)], args := [d1, d2, d3, d4] }
  | _ => none }
def VesselExactWrongFalsely : Prop := vesselExactRow.holds Try.pinned (OpenSpec.ofChange vesselExactWrong)

/- THE SECOND FORM. 'bulk': how many values and letters a reading holds, each counted each time it is reached (what is shared counts as often as it is met; a slice's spare places count too). A statement '..UptoSaid' is the law's where the arguments, and the package variables that the reading takes, are together of bulk at most 1048576: NARROWER than '..Said'. Prove '..Said' where nothing that the law and all that it calls make is longer than what came in: it says more and counts as full. Else prove '..UptoSaid'. A law counts once. -/
mutual
def uptoBulk {H : Type} : DataW H → Nat
  | .lit (.string bytes) => bytes.length + 1
  | .lit _ => 1
  | .nil => 1
  | .ptr d => uptoBulk d + 1
  | .slice elems spare => uptoBulkAll elems + uptoBulkAll spare + 1
  | .agg parts => uptoBulkAll parts + 1
  | .iface _ d => uptoBulk d + 1
  | .map entries => uptoBulkEntries entries + 1
  | .held _ => 1
def uptoBulkAll {H : Type} : List (DataW H) → Nat
  | [] => 0
  | d :: r => uptoBulk d + uptoBulkAll r
def uptoBulkEntries {H : Type} : List (Lit × DataW H) → Nat
  | [] => 0
  | x :: r => uptoBulkEntry x + uptoBulkEntries r
def uptoBulkEntry {H : Type} : Lit × DataW H → Nat
  | (.string bytes, d) => bytes.length + uptoBulk d + 1
  | (_, d) => uptoBulk d + 1
 end
def uptoSmall : (H : Type) → List (DataW H) → Bool := fun _ ds => decide (uptoBulkAll ds ≤ 1048576)
def OpenSpec.upto (s : _root_.Go.ChangeSpec) : _root_.Go.OpenSpec := { _root_.Go.OpenSpec.ofChange s with cond := some uptoSmall }

/-- 'dynposlaw02.AngleExact', WHERE WHAT IT READS IS OF BULK AT MOST 1048576: true; the input reads as it did. -/
def angleExactUptoRow : OpenClaim := { program := "ytdkamfkpmplaoaa", sum := "d28ebebe6b19e50e0bd7f6e78421738c86bf7613b91b98a573f745fcf1c322e8", func := "dynpos/dynposlaw02.AngleExact", spec := "angleExact", unfollowed := true, recurses := true, apart := false, narrowed := true }
def AngleExactUptoSaid : Prop := angleExactUptoRow.holds Try.pinned (OpenSpec.upto angleExactSpec)

/-- 'dynposlaw03.FrameExact', WHERE WHAT IT READS IS OF BULK AT MOST 1048576: true; the input reads as it did. -/
def frameExactUptoRow : OpenClaim := { program := "ytdkamfkpmplaoaa", sum := "d28ebebe6b19e50e0bd7f6e78421738c86bf7613b91b98a573f745fcf1c322e8", func := "dynpos/dynposlaw03.FrameExact", spec := "frameExact", unfollowed := true, recurses := true, apart := false, narrowed := true }
def FrameExactUptoSaid : Prop := frameExactUptoRow.holds Try.pinned (OpenSpec.upto frameExactSpec)

/-- 'dynposlaw28.StatusExact', WHERE WHAT IT READS IS OF BULK AT MOST 1048576: true; the input reads as it did. -/
def statusExactUptoRow : OpenClaim := { program := "ytdkamfkpmplaoaa", sum := "d28ebebe6b19e50e0bd7f6e78421738c86bf7613b91b98a573f745fcf1c322e8", func := "dynpos/dynposlaw28.StatusExact", spec := "statusExact", unfollowed := true, recurses := true, apart := false, narrowed := true }
def StatusExactUptoSaid : Prop := statusExactUptoRow.holds Try.pinned (OpenSpec.upto statusExactSpec)

/-- 'dynposlaw09.FuseMean', WHERE WHAT IT READS IS OF BULK AT MOST 1048576: true; the input reads as it did. -/
def fuseMeanUptoRow : OpenClaim := { program := "ytdkamfkpmplaoaa", sum := "d28ebebe6b19e50e0bd7f6e78421738c86bf7613b91b98a573f745fcf1c322e8", func := "dynpos/dynposlaw09.FuseMean", spec := "fuseMean", unfollowed := true, recurses := true, apart := false, narrowed := true }
def FuseMeanUptoSaid : Prop := fuseMeanUptoRow.holds Try.pinned (OpenSpec.upto fuseMeanSpec)

/-- 'dynposlaw22.WeatherExact', WHERE WHAT IT READS IS OF BULK AT MOST 1048576: true; the input reads as it did. -/
def weatherExactUptoRow : OpenClaim := { program := "ytdkamfkpmplaoaa", sum := "d28ebebe6b19e50e0bd7f6e78421738c86bf7613b91b98a573f745fcf1c322e8", func := "dynpos/dynposlaw22.WeatherExact", spec := "weatherExact", unfollowed := true, recurses := true, apart := false, narrowed := true }
def WeatherExactUptoSaid : Prop := weatherExactUptoRow.holds Try.pinned (OpenSpec.upto weatherExactSpec)

/-- 'dynposlaw23.VesselExact', WHERE WHAT IT READS IS OF BULK AT MOST 1048576: true; the input reads as it did. -/
def vesselExactUptoRow : OpenClaim := { program := "ytdkamfkpmplaoaa", sum := "d28ebebe6b19e50e0bd7f6e78421738c86bf7613b91b98a573f745fcf1c322e8", func := "dynpos/dynposlaw23.VesselExact", spec := "vesselExact", unfollowed := true, recurses := true, apart := false, narrowed := true }
def VesselExactUptoSaid : Prop := vesselExactUptoRow.holds Try.pinned (OpenSpec.upto vesselExactSpec)

end Rows
end Go.Proofs.Ytdkamfkpmplaoaa
