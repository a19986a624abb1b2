/- The example of law 7. -/
import Derived.Test.YtladhlgibapohaaPrg
set_option linter.unusedVariables false
namespace Go.Proofs.Ytladhlgibapohaa
open Go.RowKit Fx
def sane07_K : Con := ⟨19, [], [.val false [.bool]], []⟩
def sane07_T : T (List X) :=
  (.ret [(.B true)])
set_option maxRecDepth 100000 in
theorem sane07_t : runS Try.prog [] [] sane07_K = sane07_T := by kernel_rfl
theorem sane07_ok : ConOk Try.prog sane07_K fun _ => some [.b true] :=
  con_of follows (M := noM) no_cons sane07_t fun ds outs _ h => by
    injection h with h
    subst h
    exact ⟨fun i l h k => by simp [sane07_K] at k, 0, [.B true], ds, rfl, rfl⟩
end Go.Proofs.Ytladhlgibapohaa
