/- What the source gives for the Exact law of control. -/
import Derived.Test.YtlhnhidoljfnnaaKeepF
set_option linter.unusedVariables false
set_option linter.unusedSimpArgs false
namespace Go.Proofs.Ytlhnhidoljfnnaa
open Go.RowKit Fx
def srcAng_K : Con := ⟨52, [.ptr [.sl [.int .i64], .int .i64]], [.val false [.int .i64]], []⟩
def srcAng_T : T (List X) :=
  (.call 26 [(.V 0), (.V 1), (.N 9)] 3
  (.need (.and (.not (.lt (.V 2) (.N 0))) (.lt (.V 2) (.N 9)))
   (.ret [(.at (.rows [[(.N 0)], [(.N 1)], [(.N 299)], [(.N 300)], [(.N 450)], [(.N 900)], [(.N 1800)], [(.N 2701)], [(.N 3599)]]) (.V 2) 0), (.V 3), (.V 4)])))
set_option maxRecDepth 100000 in
theorem srcAng_t : runS Try.prog [srcN_K.to []] [] srcAng_K = srcAng_T := by kernel_rfl
theorem srcAng_ok : ConOk Try.prog srcAng_K (srcAng_T.run srcM 0) := con_run follows (one_con (srcN_ok.to _) no_cons) srcAng_t rfl 0
theorem srcAng_to {rows : List (List D)} {at_ : Int} (h : SrcOk rows at_) :
    ∃ l, srcAng_T.run srcM 0 [.l rows, .i at_] = some l ∧ ∃ g at', l = [.i g, .l rows, .i at'] ∧ SrcOk rows at' := by
  refine run_to ?_
  unfold srcAng_T
  refine To.via (srcN_to h (by decide) (by decide)) ?_
  rintro l ⟨r0, at0, rfl, a0, b0, h0⟩
  refine ⟨rfl, ?_⟩
  simp only [List.cons_append, List.nil_append]
  refine To.need (by simp only [X.den, X.dens, X.denss, D.int_i, D.boo_b, D.str_s, D.rows_l, List.getD_cons_zero, List.getD_cons_succ, List.cons_append, List.nil_append, List.append_nil, List.length_cons, List.length_nil, Bool.and_eq_true, Bool.not_eq_true', decide_eq_true_eq, decide_eq_false_iff_not]; omega) ?_
  obtain ⟨g, _, e⟩ := pick_cell (zs := [0, 1, 299, 300, 450, 900, 1800, 2701, 3599]) a0 b0
  refine To.ret ?_
  simp only [List.map_cons, List.map_nil] at e
  simp only [X.den, X.dens, X.denss, D.int_i, D.boo_b, D.str_s, D.rows_l, List.getD_cons_zero, List.getD_cons_succ, List.cons_append, List.nil_append, List.append_nil, List.length_cons, List.length_nil, e]
  exact ⟨_, _, rfl, h0⟩
end Go.Proofs.Ytlhnhidoljfnnaa
