/- Circles and estimates that the source gives; zones of a circle. -/
import Derived.Test.YtbojkmgllihhiaaSN
set_option linter.unusedVariables false
set_option linter.unusedSimpArgs false
namespace Go.Proofs.Ytbojkmgllihhiaa
open Go.RowKit Fx
def srcCircle_K : Con := ⟨58, [.ptr [.sl [.int .i64], .int .i64]], [.val true [.int .i64, .int .i64, .int .i64, .int .i64]], []⟩
def srcCircle_T : T (List X) :=
  (.call 16 [(.V 0), (.V 1), (.N 4)] 3
  (.need (.and (.not (.lt (.V 2) (.N 0))) (.lt (.V 2) (.N 4)))
   (.call 16 [(.V 3), (.V 4), (.N 3)] 3
    (.need (.and (.not (.lt (.V 5) (.N 0))) (.lt (.V 5) (.N 3)))
     (.call 16 [(.V 6), (.V 7), (.N 3)] 3
      (.need (.and (.not (.lt (.V 8) (.N 0))) (.lt (.V 8) (.N 3)))
       (.call 16 [(.V 9), (.V 10), (.N 3)] 3
        (.need (.and (.not (.lt (.V 11) (.N 0))) (.lt (.V 11) (.N 3)))
         (.ret [(.at (.rows [[(.N 0)], [(.N 0)], [(.N 200)]]) (.V 5) 0), (.at (.rows [[(.N 0)], [(.N 0)], [(.N (-100))]]) (.V 8) 0), (.at (.rows [[(.N 0)], [(.N 300)], [(.N 500)], [(.N 2000)]]) (.V 2) 0), (.wr .i64 (.add (.at (.rows [[(.N 0)], [(.N 300)], [(.N 500)], [(.N 2000)]]) (.V 2) 0) (.at (.rows [[(.N 0)], [(.N 500)], [(.N 3000)]]) (.V 11) 0))), (.V 12), (.V 13)])))))))))
set_option maxRecDepth 100000 in
theorem srcCircle_t : runS Try.prog [srcN_K.to []] [] srcCircle_K = srcCircle_T := by kernel_rfl
def srcEst_K : Con := ⟨61, [.ptr [.sl [.int .i64], .int .i64], .val false [.int .i64]], [.val true [.int .i64, .int .i64, .int .i64, .int .i64, .int .i64]], []⟩
def srcEst_T : T (List X) :=
  (.call 16 [(.V 0), (.V 1), (.N 4)] 3
  (.need (.and (.not (.lt (.V 3) (.N 0))) (.lt (.V 3) (.N 4)))
   (.call 16 [(.V 4), (.V 5), (.N 3)] 3
    (.need (.and (.not (.lt (.V 6) (.N 0))) (.lt (.V 6) (.N 3)))
     (.call 16 [(.V 7), (.V 8), (.N 4)] 3
      (.need (.and (.not (.lt (.V 9) (.N 0))) (.lt (.V 9) (.N 4)))
       (.call 16 [(.V 10), (.V 11), (.N 4)] 3
        (.need (.and (.not (.lt (.V 12) (.N 0))) (.lt (.V 12) (.N 4)))
         (.ret [(.at (.rows [[(.N 0)], [(.N 300)], [(.N (-700))], [(.N 5000)]]) (.V 3) 0), (.at (.rows [[(.N 0)], [(.N 400)], [(.N (-100))]]) (.V 6) 0), (.at (.rows [[(.N 0)], [(.N 10)], [(.N 100)], [(.N 900)]]) (.V 9) 0), (.V 2), (.at (.rows [[(.N 1)], [(.N 1)], [(.N 2)], [(.N 0)]]) (.V 12) 0), (.V 13), (.V 14)])))))))))
set_option maxRecDepth 100000 in
theorem srcEst_t : runS Try.prog [srcN_K.to []] [] srcEst_K = srcEst_T := by kernel_rfl
theorem srcCircle_ok : ConOk Try.prog srcCircle_K (srcCircle_T.run srcM 0) := con_run follows (one_con (srcN_ok.to _) no_cons) srcCircle_t rfl 0
theorem srcEst_ok : ConOk Try.prog srcEst_K (srcEst_T.run srcM 0) := con_run follows (one_con (srcN_ok.to _) no_cons) srcEst_t rfl 0
theorem srcCircle_to {rows : List (List D)} {at_ t : Int} (h : SrcOk rows at_) :
    ∃ l, srcCircle_T.run srcM 0 [.l rows, .i at_] = some l ∧ ∃ x y u v at', l = [.i x, .i y, .i u, .i v, .l rows, .i at'] ∧ 0 ≤ x ∧ x ≤ 200 ∧ -100 ≤ y ∧ y ≤ 0 ∧ 0 ≤ u ∧ u ≤ v ∧ v ≤ 5000 ∧ SrcOk rows at' := by
  refine run_to ?_
  unfold srcCircle_T
  refine To.via (srcN_to h (by decide) (by decide)) ?_
  rintro l ⟨r0, at0, rfl, a0, b0, h0⟩
  refine ⟨rfl, ?_⟩
  simp only [List.cons_append, List.nil_append]
  refine To.need (by simp only [X.den, X.dens, X.denss, D.int_i, D.boo_b, D.str_s, D.rows_l, List.getD_cons_zero, List.getD_cons_succ, List.cons_append, List.nil_append, List.append_nil, List.length_cons, List.length_nil, Bool.and_eq_true, Bool.not_eq_true', decide_eq_true_eq, decide_eq_false_iff_not]; omega) ?_
  obtain ⟨g0, e0, c0, d0⟩ := four (p := fun r => ∃ g : Int, (D.l [[.i 0], [.i 300], [.i 500], [.i 2000]]).cell r 0 = .i g ∧ 0 ≤ g ∧ g ≤ 2000) a0 b0 ⟨0, rfl, by decide⟩ ⟨300, rfl, by decide⟩ ⟨500, rfl, by decide⟩ ⟨2000, rfl, by decide⟩
  refine To.via (srcN_to h0 (by decide) (by decide)) ?_
  rintro l ⟨r1, at1, rfl, a1, b1, h1⟩
  refine ⟨rfl, ?_⟩
  simp only [List.cons_append, List.nil_append]
  refine To.need (by simp only [X.den, X.dens, X.denss, D.int_i, D.boo_b, D.str_s, D.rows_l, List.getD_cons_zero, List.getD_cons_succ, List.cons_append, List.nil_append, List.append_nil, List.length_cons, List.length_nil, Bool.and_eq_true, Bool.not_eq_true', decide_eq_true_eq, decide_eq_false_iff_not]; omega) ?_
  obtain ⟨g1, e1, c1, d1⟩ := three (p := fun r => ∃ g : Int, (D.l [[.i 0], [.i 0], [.i 200]]).cell r 0 = .i g ∧ 0 ≤ g ∧ g ≤ 200) a1 b1 ⟨0, rfl, by decide⟩ ⟨0, rfl, by decide⟩ ⟨200, rfl, by decide⟩
  refine To.via (srcN_to h1 (by decide) (by decide)) ?_
  rintro l ⟨r2, at2, rfl, a2, b2, h2⟩
  refine ⟨rfl, ?_⟩
  simp only [List.cons_append, List.nil_append]
  refine To.need (by simp only [X.den, X.dens, X.denss, D.int_i, D.boo_b, D.str_s, D.rows_l, List.getD_cons_zero, List.getD_cons_succ, List.cons_append, List.nil_append, List.append_nil, List.length_cons, List.length_nil, Bool.and_eq_true, Bool.not_eq_true', decide_eq_true_eq, decide_eq_false_iff_not]; omega) ?_
  obtain ⟨g2, e2, c2, d2⟩ := three (p := fun r => ∃ g : Int, (D.l [[.i 0], [.i 0], [.i (-100)]]).cell r 0 = .i g ∧ -100 ≤ g ∧ g ≤ 0) a2 b2 ⟨0, rfl, by decide⟩ ⟨0, rfl, by decide⟩ ⟨(-100), rfl, by decide⟩
  refine To.via (srcN_to h2 (by decide) (by decide)) ?_
  rintro l ⟨r3, at3, rfl, a3, b3, h3⟩
  refine ⟨rfl, ?_⟩
  simp only [List.cons_append, List.nil_append]
  refine To.need (by simp only [X.den, X.dens, X.denss, D.int_i, D.boo_b, D.str_s, D.rows_l, List.getD_cons_zero, List.getD_cons_succ, List.cons_append, List.nil_append, List.append_nil, List.length_cons, List.length_nil, Bool.and_eq_true, Bool.not_eq_true', decide_eq_true_eq, decide_eq_false_iff_not]; omega) ?_
  obtain ⟨g3, e3, c3, d3⟩ := three (p := fun r => ∃ g : Int, (D.l [[.i 0], [.i 500], [.i 3000]]).cell r 0 = .i g ∧ 0 ≤ g ∧ g ≤ 3000) a3 b3 ⟨0, rfl, by decide⟩ ⟨500, rfl, by decide⟩ ⟨3000, rfl, by decide⟩
  refine To.ret ?_
  simp only [X.den, X.dens, X.denss, D.int_i, D.boo_b, D.str_s, D.rows_l, List.getD_cons_zero, List.getD_cons_succ, List.cons_append, List.nil_append, List.append_nil, List.length_cons, List.length_nil, e0, e1, e2, e3]
  rw [wr64 (z := g0 + g3) (by omega) (by omega)]
  exact ⟨_, _, _, _, _, rfl, by omega, by omega, by omega, by omega, by omega, by omega, by omega, h3⟩
theorem srcEst_to {rows : List (List D)} {at_ t : Int} (h : SrcOk rows at_) :
    ∃ l, srcEst_T.run srcM 0 [.l rows, .i at_, .i t] = some l ∧ ∃ x y b s at', l = [.i x, .i y, .i b, .i t, .i s, .l rows, .i at'] ∧ -700 ≤ x ∧ x ≤ 5000 ∧ -100 ≤ y ∧ y ≤ 400 ∧ 0 ≤ b ∧ b ≤ 900 ∧ 0 ≤ s ∧ s ≤ 2 ∧ SrcOk rows at' := by
  refine run_to ?_
  unfold srcEst_T
  refine To.via (srcN_to h (by decide) (by decide)) ?_
  rintro l ⟨r0, at0, rfl, a0, b0, h0⟩
  refine ⟨rfl, ?_⟩
  simp only [List.cons_append, List.nil_append]
  refine To.need (by simp only [X.den, X.dens, X.denss, D.int_i, D.boo_b, D.str_s, D.rows_l, List.getD_cons_zero, List.getD_cons_succ, List.cons_append, List.nil_append, List.append_nil, List.length_cons, List.length_nil, Bool.and_eq_true, Bool.not_eq_true', decide_eq_true_eq, decide_eq_false_iff_not]; omega) ?_
  obtain ⟨g0, e0, c0, d0⟩ := four (p := fun r => ∃ g : Int, (D.l [[.i 0], [.i 300], [.i (-700)], [.i 5000]]).cell r 0 = .i g ∧ -700 ≤ g ∧ g ≤ 5000) a0 b0 ⟨0, rfl, by decide⟩ ⟨300, rfl, by decide⟩ ⟨(-700), rfl, by decide⟩ ⟨5000, rfl, by decide⟩
  refine To.via (srcN_to h0 (by decide) (by decide)) ?_
  rintro l ⟨r1, at1, rfl, a1, b1, h1⟩
  refine ⟨rfl, ?_⟩
  simp only [List.cons_append, List.nil_append]
  refine To.need (by simp only [X.den, X.dens, X.denss, D.int_i, D.boo_b, D.str_s, D.rows_l, List.getD_cons_zero, List.getD_cons_succ, List.cons_append, List.nil_append, List.append_nil, List.length_cons, List.length_nil, Bool.and_eq_true, Bool.not_eq_true', decide_eq_true_eq, decide_eq_false_iff_not]; omega) ?_
  obtain ⟨g1, e1, c1, d1⟩ := three (p := fun r => ∃ g : Int, (D.l [[.i 0], [.i 400], [.i (-100)]]).cell r 0 = .i g ∧ -100 ≤ g ∧ g ≤ 400) a1 b1 ⟨0, rfl, by decide⟩ ⟨400, rfl, by decide⟩ ⟨(-100), rfl, by decide⟩
  refine To.via (srcN_to h1 (by decide) (by decide)) ?_
  rintro l ⟨r2, at2, rfl, a2, b2, h2⟩
  refine ⟨rfl, ?_⟩
  simp only [List.cons_append, List.nil_append]
  refine To.need (by simp only [X.den, X.dens, X.denss, D.int_i, D.boo_b, D.str_s, D.rows_l, List.getD_cons_zero, List.getD_cons_succ, List.cons_append, List.nil_append, List.append_nil, List.length_cons, List.length_nil, Bool.and_eq_true, Bool.not_eq_true', decide_eq_true_eq, decide_eq_false_iff_not]; omega) ?_
  obtain ⟨g2, e2, c2, d2⟩ := four (p := fun r => ∃ g : Int, (D.l [[.i 0], [.i 10], [.i 100], [.i 900]]).cell r 0 = .i g ∧ 0 ≤ g ∧ g ≤ 900) a2 b2 ⟨0, rfl, by decide⟩ ⟨10, rfl, by decide⟩ ⟨100, rfl, by decide⟩ ⟨900, rfl, by decide⟩
  refine To.via (srcN_to h2 (by decide) (by decide)) ?_
  rintro l ⟨r3, at3, rfl, a3, b3, h3⟩
  refine ⟨rfl, ?_⟩
  simp only [List.cons_append, List.nil_append]
  refine To.need (by simp only [X.den, X.dens, X.denss, D.int_i, D.boo_b, D.str_s, D.rows_l, List.getD_cons_zero, List.getD_cons_succ, List.cons_append, List.nil_append, List.append_nil, List.length_cons, List.length_nil, Bool.and_eq_true, Bool.not_eq_true', decide_eq_true_eq, decide_eq_false_iff_not]; omega) ?_
  obtain ⟨g3, e3, c3, d3⟩ := four (p := fun r => ∃ g : Int, (D.l [[.i 1], [.i 1], [.i 2], [.i 0]]).cell r 0 = .i g ∧ 0 ≤ g ∧ g ≤ 2) a3 b3 ⟨1, rfl, by decide⟩ ⟨1, rfl, by decide⟩ ⟨2, rfl, by decide⟩ ⟨0, rfl, by decide⟩
  refine To.ret ?_
  simp only [X.den, X.dens, X.denss, D.int_i, D.boo_b, D.str_s, D.rows_l, List.getD_cons_zero, List.getD_cons_succ, List.cons_append, List.nil_append, List.append_nil, List.length_cons, List.length_nil, e0, e1, e2, e3]
  exact ⟨_, _, _, _, _, rfl, by omega, by omega, by omega, by omega, by omega, by omega, by omega, by omega, h3⟩
end Go.Proofs.Ytbojkmgllihhiaa
