/- The example of law 9. -/
import Derived.Test.YtedhpkpmdmobcaaPrg
set_option linter.unusedVariables false
namespace Go.Proofs.Ytedhpkpmdmobcaa
open Go.RowKit Fx
def sane09_K : Con := ⟨8, [], [.val false [.bool]], []⟩
def sane09_T : T (List X) :=
  (.ret [(.B true)])
set_option maxRecDepth 100000 in
theorem sane09_t : runS Try.prog [] [] sane09_K = sane09_T := by kernel_rfl
theorem sane09_ok : ConOk Try.prog sane09_K fun _ => some [.b true] :=
  con_of follows (M := noM) no_cons sane09_t fun ds outs _ h => by
    injection h with h
    subst h
    exact ⟨fun i l h k => by simp [sane09_K] at k, 0, [.B true], ds, rfl, rfl⟩
end Go.Proofs.Ytedhpkpmdmobcaa
