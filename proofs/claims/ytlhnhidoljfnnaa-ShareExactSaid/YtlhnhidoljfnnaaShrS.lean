/- Shares: the examples. -/
import Derived.Test.YtlhnhidoljfnnaaShrD
set_option linter.unusedVariables false
set_option linter.unusedSimpArgs false
namespace Go.Proofs.Ytlhnhidoljfnnaa
open Go.RowKit Fx Sh
def sane13_K : Con := ⟨14, [], [.val false [.bool]], []⟩
def sane13_T : T (List X) :=
  (.call 23 [(.rows [[(.N 0), (.N 10), (.N 1)], [(.N 0), (.N 10), (.N 2)]]), (.N 9)] 3
  (.call 23 [(.rows [[(.N 0), (.N 10), (.N 1)], [(.N 0), (.N 10), (.N 1)]]), (.N 5)] 3
   (.sub (.ite (.eq (.V 2) (.N 0))
     (.ite (.eq (.V 5) (.N 0))
      (.ite (.eq (.V 1) (.N 0))
       (.ite (.eq (.V 4) (.N 0))
        (.call 25 [(.V 0), (.rows [[(.N 6)], [(.N 3)]])] 1
         (.ite (.V 6)
          (.call 25 [(.V 3), (.rows [[(.N 3)], [(.N 2)]])] 1
           (.ret [(.V 7)]))
          (.ret [(.B false)])))
        (.ret [(.B false)]))
       (.ret [(.B false)]))
      (.ret [(.B false)]))
     (.ret [(.B false)])) 1
    (.ret [(.V 6)]))))
set_option maxRecDepth 100000 in
theorem sane13_t : runS Try.prog [shDivide_K.to [], rInts_K.to []] [] sane13_K = sane13_T := by kernel_rfl
theorem div_a : shDivide_T.run dvM 30 [.l [[.i 0, .i 10, .i 1], [.i 0, .i 10, .i 2]], .i 9] = some [.l [[.i 6], [.i 3]], .i 0, .i 0] := by kernel_rfl
theorem div_b : shDivide_T.run dvM 30 [.l [[.i 0, .i 10, .i 1], [.i 0, .i 10, .i 1]], .i 5] = some [.l [[.i 3], [.i 2]], .i 0, .i 0] := by kernel_rfl
theorem ints_a : rInts_T.run noM 30 [.l [[.i 6], [.i 3]], .l [[.i 6], [.i 3]]] = some [.b true] := by kernel_rfl
theorem ints_b : rInts_T.run noM 30 [.l [[.i 3], [.i 2]], .l [[.i 3], [.i 2]]] = some [.b true] := by kernel_rfl
def s13M : Models := Models.on shDivide_K.f (shDivide_T.run dvM 30) (Models.on rInts_K.f (rInts_T.run noM 30) noM)
theorem sane13_ok : ConOk Try.prog sane13_K fun _ => some [.b true] :=
  con_of follows (M := s13M) (one_con (shDivide_ok.to _) (one_con (rInts_ok.to _) no_cons)) sane13_t fun ds outs hl h => by
    injection h with h
    subst h
    obtain rfl : ds = [] := List.length_eq_zero_iff.1 hl
    refine ⟨fun i l h k => by simp [sane13_K] at k, 30, ?_⟩
    unfold sane13_T
    refine To.call (l := _) div_a rfl ?_
    simp only [List.cons_append, List.nil_append]
    refine To.call (l := _) div_b rfl ?_
    simp only [List.cons_append, List.nil_append]
    refine To.join (fun l => l = [.b true]) ?_ ?_
    · refine To.yes rfl (To.yes rfl (To.yes rfl (To.yes rfl ?_)))
      refine To.call (l := _) ints_a rfl ?_
      simp only [List.cons_append, List.nil_append]
      refine To.yes rfl ?_
      refine To.call (l := _) ints_b rfl ?_
      simp only [List.cons_append, List.nil_append]
      exact To.ret ⟨rfl, rfl⟩
    rintro l rfl
    exact To.ret rfl
/-- the models that the laws use -/
def l13M : Models := Models.on srcN_K.f (srcN_T.run noM 0) (Models.on srcShares_K.f (srcShares_T.run srcLM 30) (Models.on shReach_K.f (shReach_T.run reM 30) (Models.on shDivide_K.f (shDivide_T.run dvM 30) (Models.on shPrice_K.f (shPrice_T.run suM 30) (Models.on shSum_K.f (shSum_T.run suM 30) (Models.on shCheck_K.f (shCheck_T.run ckM 30) (Models.on rInts_K.f (rInts_T.run noM 30) (Models.on sane13_K.f (fun _ => some [.b true]) noM))))))))
end Go.Proofs.Ytlhnhidoljfnnaa
