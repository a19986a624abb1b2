/- Keepers that the source gives. -/
import Derived.Test.YtlhnhidoljfnnaaSrcF
set_option linter.unusedVariables false
set_option linter.unusedSimpArgs false
namespace Go.Proofs.Ytlhnhidoljfnnaa
open Go.RowKit Fx
def srcKeeper_K : Con := ⟨50, [.ptr [.sl [.int .i64], .int .i64], .val true [.int .i64, .int .i64, .int .i64, .int .i64, .int .i64, .int .i64, .int .i64, .int .i64, .int .i64]], [.val true [.int .i64, .int .i64, .int .i64, .int .i64, .int .i64, .int .i64, .bool]], []⟩
def srcKeeper_T : T (List X) :=
  (.call 26 [(.V 0), (.V 1), (.wr .i64 (.add (.wr .i64 (.sub (.V 8) (.wr .i64 (.sub (.N 0) (.V 8))))) (.N 1)))] 3
  (.call 26 [(.V 12), (.V 13), (.wr .i64 (.add (.wr .i64 (.sub (.V 8) (.wr .i64 (.sub (.N 0) (.V 8))))) (.N 1)))] 3
   (.call 26 [(.V 15), (.V 16), (.wr .i64 (.add (.wr .i64 (.sub (.V 8) (.wr .i64 (.sub (.N 0) (.V 8))))) (.N 1)))] 3
    (.call 26 [(.V 18), (.V 19), (.N 1001)] 3
     (.call 26 [(.V 21), (.V 22), (.N 1001)] 3
      (.call 26 [(.V 24), (.V 25), (.N 3600)] 3
       (.call 26 [(.V 27), (.V 28), (.N 3)] 3
        (.ret [(.wr .i64 (.add (.wr .i64 (.sub (.N 0) (.V 8))) (.V 11))), (.wr .i64 (.add (.wr .i64 (.sub (.N 0) (.V 8))) (.V 14))), (.wr .i64 (.add (.wr .i64 (.sub (.N 0) (.V 8))) (.V 17))), (.wr .i64 (.add (.N (-500)) (.V 20))), (.wr .i64 (.add (.N (-500)) (.V 23))), (.V 26), (.lt (.N 0) (.V 29)), (.V 30), (.V 31)]))))))))
set_option maxRecDepth 100000 in
theorem srcKeeper_t : runS Try.prog [srcN_K.to []] [] srcKeeper_K = srcKeeper_T := by kernel_rfl
theorem srcKeeper_ok : ConOk Try.prog srcKeeper_K (srcKeeper_T.run srcM 0) := con_run follows (one_con (srcN_ok.to _) no_cons) srcKeeper_t rfl 0
theorem srcKeeper_to {rows : List (List D)} {at_ g0 g1 g2 g3 g4 g5 g6 g7 g8 : Int} (h : SrcOk rows at_) (m0 : 0 ≤ g6) (m1 : g6 ≤ 10000) :
    ∃ l, srcKeeper_T.run srcM 0 [.l rows, .i at_, .i g0, .i g1, .i g2, .i g3, .i g4, .i g5, .i g6, .i g7, .i g8] = some l ∧ ∃ sx sy sh lx ly hd sn at', l = [.i sx, .i sy, .i sh, .i lx, .i ly, .i hd, .b sn, .l rows, .i at'] ∧ -g6 ≤ sx ∧ sx ≤ g6 ∧ -g6 ≤ sy ∧ sy ≤ g6 ∧ -g6 ≤ sh ∧ sh ≤ g6 ∧ -500 ≤ lx ∧ lx ≤ 500 ∧ -500 ≤ ly ∧ ly ≤ 500 ∧ 0 ≤ hd ∧ hd < 3600 ∧ SrcOk rows at' := by
  refine run_to ?_
  unfold srcKeeper_T
  refine To.via (R := fun l => ∃ r at', l = [.i r, .l rows, .i at'] ∧ 0 ≤ r ∧ r < 2 * g6 + 1 ∧ SrcOk rows at') ?_ ?_
  · simp only [X.den, X.dens, X.denss, D.int_i, D.boo_b, D.str_s, D.rows_l, List.getD_cons_zero, List.getD_cons_succ, List.cons_append, List.nil_append, List.append_nil, List.length_cons, List.length_nil]
    rw [wr64 (z := 0 - g6) (by omega) (by omega), wr64 (z := g6 - (0 - g6)) (by omega) (by omega), wr64 (by omega) (by omega), show g6 - (0 - g6) + 1 = 2 * g6 + 1 by omega]
    exact srcN_to h (by omega) (by omega)
  rintro l ⟨r0, at0, rfl, a0, b0, h0⟩
  refine ⟨rfl, ?_⟩
  simp only [List.cons_append, List.nil_append]
  refine To.via (R := fun l => ∃ r at', l = [.i r, .l rows, .i at'] ∧ 0 ≤ r ∧ r < 2 * g6 + 1 ∧ SrcOk rows at') ?_ ?_
  · simp only [X.den, X.dens, X.denss, D.int_i, D.boo_b, D.str_s, D.rows_l, List.getD_cons_zero, List.getD_cons_succ, List.cons_append, List.nil_append, List.append_nil, List.length_cons, List.length_nil]
    rw [wr64 (z := 0 - g6) (by omega) (by omega), wr64 (z := g6 - (0 - g6)) (by omega) (by omega), wr64 (by omega) (by omega), show g6 - (0 - g6) + 1 = 2 * g6 + 1 by omega]
    exact srcN_to h0 (by omega) (by omega)
  rintro l ⟨r1, at1, rfl, a1, b1, h1⟩
  refine ⟨rfl, ?_⟩
  simp only [List.cons_append, List.nil_append]
  refine To.via (R := fun l => ∃ r at', l = [.i r, .l rows, .i at'] ∧ 0 ≤ r ∧ r < 2 * g6 + 1 ∧ SrcOk rows at') ?_ ?_
  · simp only [X.den, X.dens, X.denss, D.int_i, D.boo_b, D.str_s, D.rows_l, List.getD_cons_zero, List.getD_cons_succ, List.cons_append, List.nil_append, List.append_nil, List.length_cons, List.length_nil]
    rw [wr64 (z := 0 - g6) (by omega) (by omega), wr64 (z := g6 - (0 - g6)) (by omega) (by omega), wr64 (by omega) (by omega), show g6 - (0 - g6) + 1 = 2 * g6 + 1 by omega]
    exact srcN_to h1 (by omega) (by omega)
  rintro l ⟨r2, at2, rfl, a2, b2, h2⟩
  refine ⟨rfl, ?_⟩
  simp only [List.cons_append, List.nil_append]
  refine To.via (R := fun l => ∃ r at', l = [.i r, .l rows, .i at'] ∧ 0 ≤ r ∧ r < 1001 ∧ SrcOk rows at') ?_ ?_
  · simp only [X.den, X.dens, X.denss, D.int_i, D.boo_b, D.str_s, D.rows_l, List.getD_cons_zero, List.getD_cons_succ, List.cons_append, List.nil_append, List.append_nil, List.length_cons, List.length_nil]
    skip
    exact srcN_to h2 (by omega) (by omega)
  rintro l ⟨r3, at3, rfl, a3, b3, h3⟩
  refine ⟨rfl, ?_⟩
  simp only [List.cons_append, List.nil_append]
  refine To.via (R := fun l => ∃ r at', l = [.i r, .l rows, .i at'] ∧ 0 ≤ r ∧ r < 1001 ∧ SrcOk rows at') ?_ ?_
  · simp only [X.den, X.dens, X.denss, D.int_i, D.boo_b, D.str_s, D.rows_l, List.getD_cons_zero, List.getD_cons_succ, List.cons_append, List.nil_append, List.append_nil, List.length_cons, List.length_nil]
    skip
    exact srcN_to h3 (by omega) (by omega)
  rintro l ⟨r4, at4, rfl, a4, b4, h4⟩
  refine ⟨rfl, ?_⟩
  simp only [List.cons_append, List.nil_append]
  refine To.via (R := fun l => ∃ r at', l = [.i r, .l rows, .i at'] ∧ 0 ≤ r ∧ r < 3600 ∧ SrcOk rows at') ?_ ?_
  · simp only [X.den, X.dens, X.denss, D.int_i, D.boo_b, D.str_s, D.rows_l, List.getD_cons_zero, List.getD_cons_succ, List.cons_append, List.nil_append, List.append_nil, List.length_cons, List.length_nil]
    skip
    exact srcN_to h4 (by omega) (by omega)
  rintro l ⟨r5, at5, rfl, a5, b5, h5⟩
  refine ⟨rfl, ?_⟩
  simp only [List.cons_append, List.nil_append]
  refine To.via (R := fun l => ∃ r at', l = [.i r, .l rows, .i at'] ∧ 0 ≤ r ∧ r < 3 ∧ SrcOk rows at') ?_ ?_
  · simp only [X.den, X.dens, X.denss, D.int_i, D.boo_b, D.str_s, D.rows_l, List.getD_cons_zero, List.getD_cons_succ, List.cons_append, List.nil_append, List.append_nil, List.length_cons, List.length_nil]
    skip
    exact srcN_to h5 (by omega) (by omega)
  rintro l ⟨r6, at6, rfl, a6, b6, h6⟩
  refine ⟨rfl, ?_⟩
  simp only [List.cons_append, List.nil_append]
  refine To.ret ?_
  simp only [X.den, X.dens, X.denss, D.int_i, D.boo_b, D.str_s, D.rows_l, List.getD_cons_zero, List.getD_cons_succ, List.cons_append, List.nil_append, List.append_nil, List.length_cons, List.length_nil]
  rw [wr64 (z := 0 - g6) (by omega) (by omega), wr64 (z := 0 - g6 + r0) (by omega) (by omega), wr64 (z := 0 - g6 + r1) (by omega) (by omega), wr64 (z := 0 - g6 + r2) (by omega) (by omega), wr64 (z := -500 + r3) (by omega) (by omega), wr64 (z := -500 + r4) (by omega) (by omega)]
  exact ⟨_, _, _, _, _, _, _, _, rfl, by omega, by omega, by omega, by omega, by omega, by omega, by omega, by omega, by omega, by omega, a5, b5, h6⟩
end Go.Proofs.Ytlhnhidoljfnnaa
