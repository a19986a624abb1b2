/- The example of law 23. -/
import Derived.Test.YtdkamfkpmplaoaaPrg
set_option linter.unusedVariables false
namespace Go.Proofs.Ytdkamfkpmplaoaa
open Go.RowKit Fx
def sane23_K : Con := ⟨87, [], [.val false [.bool]], []⟩
def sane23_T : T (List X) :=
  (.ret [(.B true)])
set_option maxRecDepth 100000 in
theorem sane23_t : runS Try.prog [] [] sane23_K = sane23_T := by kernel_rfl
theorem sane23_ok : ConOk Try.prog sane23_K fun _ => some [.b true] :=
  con_of follows (M := noM) no_cons sane23_t fun ds outs _ h => by
    injection h with h
    subst h
    exact ⟨fun i l h k => by simp [sane23_K] at k, 0, [.B true], ds, rfl, rfl⟩
end Go.Proofs.Ytdkamfkpmplaoaa
