/- The example of law 24. -/
import Derived.Test.YtlhnhidoljfnnaaPrg
set_option linter.unusedVariables false
namespace Go.Proofs.Ytlhnhidoljfnnaa
open Go.RowKit Fx
def sane24_K : Con := ⟨48, [], [.val false [.bool]], []⟩
def sane24_T : T (List X) :=
  (.ret [(.beq (.B true) (.B true))])
set_option maxRecDepth 100000 in
theorem sane24_t : runS Try.prog [] [] sane24_K = sane24_T := by kernel_rfl
theorem sane24_ok : ConOk Try.prog sane24_K fun _ => some [.b true] :=
  con_of follows (M := noM) no_cons sane24_t fun ds outs _ h => by
    injection h with h
    subst h
    exact ⟨fun i l h k => by simp [sane24_K] at k, 0, [.beq (.B true) (.B true)], ds, rfl, rfl⟩
end Go.Proofs.Ytlhnhidoljfnnaa
