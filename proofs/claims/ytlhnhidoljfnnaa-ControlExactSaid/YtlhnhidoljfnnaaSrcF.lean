/- What the source gives. -/
import Derived.Test.YtlhnhidoljfnnaaSN
set_option linter.unusedVariables false
set_option linter.unusedSimpArgs false
namespace Go.Proofs.Ytlhnhidoljfnnaa
open Go.RowKit Fx
def srcPoint_K : Con := ⟨51, [.ptr [.sl [.int .i64], .int .i64]], [.val true [.int .i64, .int .i64]], []⟩
def srcPoint_T : T (List X) :=
  (.call 26 [(.V 0), (.V 1), (.N 4)] 3
  (.need (.and (.not (.lt (.V 2) (.N 0))) (.lt (.V 2) (.N 4)))
   (.call 26 [(.V 3), (.V 4), (.wr .i64 (.add (.wr .i64 (.sub (.at (.rows [[(.N 10)], [(.N 100)], [(.N 1000)], [(.N 100000000)]]) (.V 2) 0) (.wr .i64 (.sub (.N 0) (.at (.rows [[(.N 10)], [(.N 100)], [(.N 1000)], [(.N 100000000)]]) (.V 2) 0))))) (.N 1)))] 3
    (.call 26 [(.V 6), (.V 7), (.wr .i64 (.add (.wr .i64 (.sub (.at (.rows [[(.N 10)], [(.N 100)], [(.N 1000)], [(.N 100000000)]]) (.V 2) 0) (.wr .i64 (.sub (.N 0) (.at (.rows [[(.N 10)], [(.N 100)], [(.N 1000)], [(.N 100000000)]]) (.V 2) 0))))) (.N 1)))] 3
     (.ret [(.wr .i64 (.add (.wr .i64 (.sub (.N 0) (.at (.rows [[(.N 10)], [(.N 100)], [(.N 1000)], [(.N 100000000)]]) (.V 2) 0))) (.V 5))), (.wr .i64 (.add (.wr .i64 (.sub (.N 0) (.at (.rows [[(.N 10)], [(.N 100)], [(.N 1000)], [(.N 100000000)]]) (.V 2) 0))) (.V 8))), (.V 9), (.V 10)])))))
set_option maxRecDepth 100000 in
theorem srcPoint_t : runS Try.prog [srcN_K.to []] [] srcPoint_K = srcPoint_T := by kernel_rfl
def srcGains_K : Con := ⟨49, [.ptr [.sl [.int .i64], .int .i64]], [.val true [.int .i64, .int .i64, .int .i64, .int .i64, .int .i64, .int .i64, .int .i64, .int .i64, .int .i64]], []⟩
def srcGains_T : T (List X) :=
  (.call 26 [(.V 0), (.V 1), (.N 4)] 3
  (.need (.and (.not (.lt (.V 2) (.N 0))) (.lt (.V 2) (.N 4)))
   (.call 26 [(.V 3), (.V 4), (.N 3)] 3
    (.need (.and (.not (.lt (.V 5) (.N 0))) (.lt (.V 5) (.N 3)))
     (.call 26 [(.V 6), (.V 7), (.N 3)] 3
      (.need (.and (.not (.lt (.V 8) (.N 0))) (.lt (.V 8) (.N 3)))
       (.call 26 [(.V 9), (.V 10), (.N 2)] 3
        (.need (.and (.not (.lt (.V 11) (.N 0))) (.lt (.V 11) (.N 2)))
         (.call 26 [(.V 12), (.V 13), (.N 2)] 3
          (.need (.and (.not (.lt (.V 14) (.N 0))) (.lt (.V 14) (.N 2)))
           (.call 26 [(.V 15), (.V 16), (.N 2)] 3
            (.need (.and (.not (.lt (.V 17) (.N 0))) (.lt (.V 17) (.N 2)))
             (.call 26 [(.V 18), (.V 19), (.N 3)] 3
              (.need (.and (.not (.lt (.V 20) (.N 0))) (.lt (.V 20) (.N 3)))
               (.call 26 [(.V 21), (.V 22), (.N 3)] 3
                (.need (.and (.not (.lt (.V 23) (.N 0))) (.lt (.V 23) (.N 3)))
                 (.call 26 [(.V 24), (.V 25), (.N 3)] 3
                  (.need (.and (.not (.lt (.V 26) (.N 0))) (.lt (.V 26) (.N 3)))
                   (.ret [(.at (.rows [[(.N 0)], [(.N 10)], [(.N 100)], [(.N 1000)]]) (.V 2) 0), (.at (.rows [[(.N 0)], [(.N 1)], [(.N 5)]]) (.V 5) 0), (.at (.rows [[(.N 0)], [(.N 50)], [(.N 500)]]) (.V 8) 0), (.at (.rows [[(.N 0)], [(.N 100)]]) (.V 11) 0), (.at (.rows [[(.N 0)], [(.N 3)]]) (.V 14) 0), (.at (.rows [[(.N 0)], [(.N 70)]]) (.V 17) 0), (.at (.rows [[(.N 0)], [(.N 500)], [(.N 10000)]]) (.V 20) 0), (.at (.rows [[(.N 0)], [(.N 20)], [(.N 60)]]) (.V 23) 0), (.at (.rows [[(.N 0)], [(.N 500)], [(.N 3000)]]) (.V 26) 0), (.V 27), (.V 28)])))))))))))))))))))
set_option maxRecDepth 100000 in
theorem srcGains_t : runS Try.prog [srcN_K.to []] [] srcGains_K = srcGains_T := by kernel_rfl
theorem srcPoint_ok : ConOk Try.prog srcPoint_K (srcPoint_T.run srcM 0) := con_run follows (one_con (srcN_ok.to _) no_cons) srcPoint_t rfl 0
theorem srcGains_ok : ConOk Try.prog srcGains_K (srcGains_T.run srcM 0) := con_run follows (one_con (srcN_ok.to _) no_cons) srcGains_t rfl 0
theorem srcPoint_to {rows : List (List D)} {at_ : Int} (h : SrcOk rows at_) :
    ∃ l, srcPoint_T.run srcM 0 [.l rows, .i at_] = some l ∧ ∃ x y at', l = [.i x, .i y, .l rows, .i at'] ∧ -100000000 ≤ x ∧ x ≤ 100000000 ∧ -100000000 ≤ y ∧ y ≤ 100000000 ∧ SrcOk rows at' := by
  refine run_to ?_
  unfold srcPoint_T
  refine To.via (srcN_to h (by decide) (by decide)) ?_
  rintro l ⟨r, at1, rfl, a1, a2, h1⟩
  refine ⟨rfl, ?_⟩
  simp only [List.cons_append, List.nil_append]
  refine To.need (by simp only [X.den, X.dens, X.denss, D.int_i, D.boo_b, D.str_s, D.rows_l, List.getD_cons_zero, List.getD_cons_succ, List.cons_append, List.nil_append, List.append_nil, List.length_cons, List.length_nil, Bool.and_eq_true, Bool.not_eq_true', decide_eq_true_eq, decide_eq_false_iff_not]; omega) ?_
  have hm : ∃ m : Int, ((D.l [[.i 10], [.i 100], [.i 1000], [.i 100000000]]).cell r 0).int = m ∧ 10 ≤ m ∧ m ≤ 100000000 := by
    revert r
    intro r a1 a2
    exact four (p := fun r => ∃ m : Int, ((D.l [[.i 10], [.i 100], [.i 1000], [.i 100000000]]).cell r 0).int = m ∧ 10 ≤ m ∧ m ≤ 100000000) a1 a2 ⟨10, rfl, by decide⟩ ⟨100, rfl, by decide⟩ ⟨1000, rfl, by decide⟩ ⟨100000000, rfl, by decide⟩
  obtain ⟨m, em, m1, m2⟩ := hm
  refine To.via (R := fun l => ∃ r at', l = [.i r, .l rows, .i at'] ∧ 0 ≤ r ∧ r < 2 * m + 1 ∧ SrcOk rows at') ?_ ?_
  · simp only [X.den, X.dens, X.denss, D.int_i, D.boo_b, D.str_s, D.rows_l, List.getD_cons_zero, List.getD_cons_succ, List.cons_append, List.nil_append, List.append_nil, List.length_cons, List.length_nil, em]
    rw [wr64 (z := 0 - m) (by omega) (by omega), wr64 (z := m - (0 - m)) (by omega) (by omega), wr64 (by omega) (by omega), show m - (0 - m) + 1 = 2 * m + 1 by omega]
    exact srcN_to h1 (by omega) (by omega)
  rintro l ⟨r1, at2, rfl, b1, b2, h2⟩
  refine ⟨rfl, ?_⟩
  simp only [List.cons_append, List.nil_append]
  refine To.via (R := fun l => ∃ r at', l = [.i r, .l rows, .i at'] ∧ 0 ≤ r ∧ r < 2 * m + 1 ∧ SrcOk rows at') ?_ ?_
  · simp only [X.den, X.dens, X.denss, D.int_i, D.boo_b, D.str_s, D.rows_l, List.getD_cons_zero, List.getD_cons_succ, List.cons_append, List.nil_append, List.append_nil, List.length_cons, List.length_nil, em]
    rw [wr64 (z := 0 - m) (by omega) (by omega), wr64 (z := m - (0 - m)) (by omega) (by omega), wr64 (by omega) (by omega), show m - (0 - m) + 1 = 2 * m + 1 by omega]
    exact srcN_to h2 (by omega) (by omega)
  rintro l ⟨r2, at3, rfl, c1, c2, h3⟩
  refine ⟨rfl, To.ret ?_⟩
  simp only [X.den, X.dens, X.denss, D.int_i, D.boo_b, D.str_s, D.rows_l, List.getD_cons_zero, List.getD_cons_succ, List.cons_append, List.nil_append, List.append_nil, List.length_cons, List.length_nil, em]
  rw [wr64 (z := 0 - m) (by omega) (by omega), wr64 (z := 0 - m + r1) (by omega) (by omega), wr64 (z := 0 - m + r2) (by omega) (by omega)]
  exact ⟨_, _, _, rfl, by omega, by omega, by omega, by omega, h3⟩
theorem srcGains_to {rows : List (List D)} {at_ : Int} (h : SrcOk rows at_) :
    ∃ l, srcGains_T.run srcM 0 [.l rows, .i at_] = some l ∧ ∃ g0 g1 g2 g3 g4 g5 g6 g7 g8 at', l = [.i g0, .i g1, .i g2, .i g3, .i g4, .i g5, .i g6, .i g7, .i g8, .l rows, .i at'] ∧ 0 ≤ g0 ∧ g0 ≤ 1000 ∧ 0 ≤ g1 ∧ g1 ≤ 5 ∧ 0 ≤ g2 ∧ g2 ≤ 500 ∧ 0 ≤ g3 ∧ g3 ≤ 100 ∧ 0 ≤ g4 ∧ g4 ≤ 3 ∧ 0 ≤ g5 ∧ g5 ≤ 70 ∧ 0 ≤ g6 ∧ g6 ≤ 10000 ∧ 0 ≤ g7 ∧ g7 ≤ 60 ∧ 0 ≤ g8 ∧ g8 ≤ 3000 ∧ SrcOk rows at' := by
  refine run_to ?_
  unfold srcGains_T
  refine To.via (srcN_to h (by decide) (by decide)) ?_
  rintro l ⟨r0, at0, rfl, a0, b0, h0⟩
  refine ⟨rfl, ?_⟩
  simp only [List.cons_append, List.nil_append]
  refine To.need (by simp only [X.den, X.dens, X.denss, D.int_i, D.boo_b, D.str_s, D.rows_l, List.getD_cons_zero, List.getD_cons_succ, List.cons_append, List.nil_append, List.append_nil, List.length_cons, List.length_nil, Bool.and_eq_true, Bool.not_eq_true', decide_eq_true_eq, decide_eq_false_iff_not]; omega) ?_
  obtain ⟨g0, e0, c0⟩ := four (p := fun r => ∃ g : Int, (D.l [[.i 0], [.i 10], [.i 100], [.i 1000]]).cell r 0 = .i g ∧ 0 ≤ g ∧ g ≤ 1000) a0 b0 ⟨0, rfl, by decide⟩ ⟨10, rfl, by decide⟩ ⟨100, rfl, by decide⟩ ⟨1000, rfl, by decide⟩
  refine To.via (srcN_to h0 (by decide) (by decide)) ?_
  rintro l ⟨r1, at1, rfl, a1, b1, h1⟩
  refine ⟨rfl, ?_⟩
  simp only [List.cons_append, List.nil_append]
  refine To.need (by simp only [X.den, X.dens, X.denss, D.int_i, D.boo_b, D.str_s, D.rows_l, List.getD_cons_zero, List.getD_cons_succ, List.cons_append, List.nil_append, List.append_nil, List.length_cons, List.length_nil, Bool.and_eq_true, Bool.not_eq_true', decide_eq_true_eq, decide_eq_false_iff_not]; omega) ?_
  obtain ⟨g1, e1, c1⟩ := three (p := fun r => ∃ g : Int, (D.l [[.i 0], [.i 1], [.i 5]]).cell r 0 = .i g ∧ 0 ≤ g ∧ g ≤ 5) a1 b1 ⟨0, rfl, by decide⟩ ⟨1, rfl, by decide⟩ ⟨5, rfl, by decide⟩
  refine To.via (srcN_to h1 (by decide) (by decide)) ?_
  rintro l ⟨r2, at2, rfl, a2, b2, h2⟩
  refine ⟨rfl, ?_⟩
  simp only [List.cons_append, List.nil_append]
  refine To.need (by simp only [X.den, X.dens, X.denss, D.int_i, D.boo_b, D.str_s, D.rows_l, List.getD_cons_zero, List.getD_cons_succ, List.cons_append, List.nil_append, List.append_nil, List.length_cons, List.length_nil, Bool.and_eq_true, Bool.not_eq_true', decide_eq_true_eq, decide_eq_false_iff_not]; omega) ?_
  obtain ⟨g2, e2, c2⟩ := three (p := fun r => ∃ g : Int, (D.l [[.i 0], [.i 50], [.i 500]]).cell r 0 = .i g ∧ 0 ≤ g ∧ g ≤ 500) a2 b2 ⟨0, rfl, by decide⟩ ⟨50, rfl, by decide⟩ ⟨500, rfl, by decide⟩
  refine To.via (srcN_to h2 (by decide) (by decide)) ?_
  rintro l ⟨r3, at3, rfl, a3, b3, h3⟩
  refine ⟨rfl, ?_⟩
  simp only [List.cons_append, List.nil_append]
  refine To.need (by simp only [X.den, X.dens, X.denss, D.int_i, D.boo_b, D.str_s, D.rows_l, List.getD_cons_zero, List.getD_cons_succ, List.cons_append, List.nil_append, List.append_nil, List.length_cons, List.length_nil, Bool.and_eq_true, Bool.not_eq_true', decide_eq_true_eq, decide_eq_false_iff_not]; omega) ?_
  obtain ⟨g3, e3, c3⟩ := two (p := fun r => ∃ g : Int, (D.l [[.i 0], [.i 100]]).cell r 0 = .i g ∧ 0 ≤ g ∧ g ≤ 100) a3 b3 ⟨0, rfl, by decide⟩ ⟨100, rfl, by decide⟩
  refine To.via (srcN_to h3 (by decide) (by decide)) ?_
  rintro l ⟨r4, at4, rfl, a4, b4, h4⟩
  refine ⟨rfl, ?_⟩
  simp only [List.cons_append, List.nil_append]
  refine To.need (by simp only [X.den, X.dens, X.denss, D.int_i, D.boo_b, D.str_s, D.rows_l, List.getD_cons_zero, List.getD_cons_succ, List.cons_append, List.nil_append, List.append_nil, List.length_cons, List.length_nil, Bool.and_eq_true, Bool.not_eq_true', decide_eq_true_eq, decide_eq_false_iff_not]; omega) ?_
  obtain ⟨g4, e4, c4⟩ := two (p := fun r => ∃ g : Int, (D.l [[.i 0], [.i 3]]).cell r 0 = .i g ∧ 0 ≤ g ∧ g ≤ 3) a4 b4 ⟨0, rfl, by decide⟩ ⟨3, rfl, by decide⟩
  refine To.via (srcN_to h4 (by decide) (by decide)) ?_
  rintro l ⟨r5, at5, rfl, a5, b5, h5⟩
  refine ⟨rfl, ?_⟩
  simp only [List.cons_append, List.nil_append]
  refine To.need (by simp only [X.den, X.dens, X.denss, D.int_i, D.boo_b, D.str_s, D.rows_l, List.getD_cons_zero, List.getD_cons_succ, List.cons_append, List.nil_append, List.append_nil, List.length_cons, List.length_nil, Bool.and_eq_true, Bool.not_eq_true', decide_eq_true_eq, decide_eq_false_iff_not]; omega) ?_
  obtain ⟨g5, e5, c5⟩ := two (p := fun r => ∃ g : Int, (D.l [[.i 0], [.i 70]]).cell r 0 = .i g ∧ 0 ≤ g ∧ g ≤ 70) a5 b5 ⟨0, rfl, by decide⟩ ⟨70, rfl, by decide⟩
  refine To.via (srcN_to h5 (by decide) (by decide)) ?_
  rintro l ⟨r6, at6, rfl, a6, b6, h6⟩
  refine ⟨rfl, ?_⟩
  simp only [List.cons_append, List.nil_append]
  refine To.need (by simp only [X.den, X.dens, X.denss, D.int_i, D.boo_b, D.str_s, D.rows_l, List.getD_cons_zero, List.getD_cons_succ, List.cons_append, List.nil_append, List.append_nil, List.length_cons, List.length_nil, Bool.and_eq_true, Bool.not_eq_true', decide_eq_true_eq, decide_eq_false_iff_not]; omega) ?_
  obtain ⟨g6, e6, c6⟩ := three (p := fun r => ∃ g : Int, (D.l [[.i 0], [.i 500], [.i 10000]]).cell r 0 = .i g ∧ 0 ≤ g ∧ g ≤ 10000) a6 b6 ⟨0, rfl, by decide⟩ ⟨500, rfl, by decide⟩ ⟨10000, rfl, by decide⟩
  refine To.via (srcN_to h6 (by decide) (by decide)) ?_
  rintro l ⟨r7, at7, rfl, a7, b7, h7⟩
  refine ⟨rfl, ?_⟩
  simp only [List.cons_append, List.nil_append]
  refine To.need (by simp only [X.den, X.dens, X.denss, D.int_i, D.boo_b, D.str_s, D.rows_l, List.getD_cons_zero, List.getD_cons_succ, List.cons_append, List.nil_append, List.append_nil, List.length_cons, List.length_nil, Bool.and_eq_true, Bool.not_eq_true', decide_eq_true_eq, decide_eq_false_iff_not]; omega) ?_
  obtain ⟨g7, e7, c7⟩ := three (p := fun r => ∃ g : Int, (D.l [[.i 0], [.i 20], [.i 60]]).cell r 0 = .i g ∧ 0 ≤ g ∧ g ≤ 60) a7 b7 ⟨0, rfl, by decide⟩ ⟨20, rfl, by decide⟩ ⟨60, rfl, by decide⟩
  refine To.via (srcN_to h7 (by decide) (by decide)) ?_
  rintro l ⟨r8, at8, rfl, a8, b8, h8⟩
  refine ⟨rfl, ?_⟩
  simp only [List.cons_append, List.nil_append]
  refine To.need (by simp only [X.den, X.dens, X.denss, D.int_i, D.boo_b, D.str_s, D.rows_l, List.getD_cons_zero, List.getD_cons_succ, List.cons_append, List.nil_append, List.append_nil, List.length_cons, List.length_nil, Bool.and_eq_true, Bool.not_eq_true', decide_eq_true_eq, decide_eq_false_iff_not]; omega) ?_
  obtain ⟨g8, e8, c8⟩ := three (p := fun r => ∃ g : Int, (D.l [[.i 0], [.i 500], [.i 3000]]).cell r 0 = .i g ∧ 0 ≤ g ∧ g ≤ 3000) a8 b8 ⟨0, rfl, by decide⟩ ⟨500, rfl, by decide⟩ ⟨3000, rfl, by decide⟩
  refine To.ret ?_
  simp only [X.den, X.dens, X.denss, D.int_i, D.boo_b, D.str_s, D.rows_l, List.getD_cons_zero, List.getD_cons_succ, List.cons_append, List.nil_append, List.append_nil, List.length_cons, List.length_nil, e0, e1, e2, e3, e4, e5, e6, e7, e8]
  exact ⟨_, _, _, _, _, _, _, _, _, _, rfl, c0.1, c0.2, c1.1, c1.2, c2.1, c2.2, c3.1, c3.2, c4.1, c4.2, c5.1, c5.2, c6.1, c6.2, c7.1, c7.2, c8.1, c8.2, h8⟩
end Go.Proofs.Ytlhnhidoljfnnaa
