/- Motions and forces that the source gives; the example of law 23. -/
import Derived.Test.YtdkamfkpmplaoaaVesS
set_option linter.unusedVariables false
set_option linter.unusedSimpArgs false
namespace Go.Proofs.Ytdkamfkpmplaoaa
open Go.RowKit Fx
theorem srcMotion_to {rows : List (List D)} {at_ : Int} (h : SrcOk rows at_) : ∃ l, srcMotion_T.run srcM 0 [.l rows, .i at_] = some l ∧ ∃ m0 m1 m2 m3 m4 m5 m6 at', l = [.i m0, .i m1, .i m2, .i m3, .i m4, .i m5, .i m6, .l rows, .i at'] ∧ 0 ≤ m0 ∧ m0 < 50 ∧ -99999 ≤ m1 ∧ m1 ≤ 12345 ∧ -149 ≤ m2 ∧ m2 ≤ 700 ∧ 0 ≤ m3 ∧ m3 < 360000 ∧ -3000 ≤ m4 ∧ m4 ≤ 3000 ∧ -900 ≤ m5 ∧ m5 ≤ 900 ∧ -500 ≤ m6 ∧ m6 ≤ 500 ∧ SrcOk rows at' := by
  refine run_to ?_
  unfold srcMotion_T
  refine To.via (srcN_to h (by decide) (by decide)) ?_
  rintro l ⟨r1, a1, rfl, p1, q1, h⟩
  refine ⟨rfl, ?_⟩
  simp only [List.cons_append, List.nil_append]
  refine To.via (srcN_to h (by decide) (by decide)) ?_
  rintro l ⟨r2, a2, rfl, p2, q2, h⟩
  refine ⟨rfl, ?_⟩
  simp only [List.cons_append, List.nil_append]
  refine To.need (by simp only [X.den, X.dens, X.denss, D.int_i, D.boo_b, D.str_s, D.rows_l, List.getD_cons_zero, List.getD_cons_succ, List.cons_append, List.nil_append, List.append_nil, List.length_cons, List.length_nil, decide_eq_true_eq, decide_eq_false_iff_not, Bool.not_eq_true', Bool.not_eq_false', Bool.and_eq_true, Bool.and_eq_false_iff, Bool.true_eq_false, Bool.false_eq_true, Bool.not_true, Bool.not_false, eq_self]; omega) ?_
  refine To.via (srcN_to h (by decide) (by decide)) ?_
  rintro l ⟨r3, a3, rfl, p3, q3, h⟩
  refine ⟨rfl, ?_⟩
  simp only [List.cons_append, List.nil_append]
  refine To.need (by simp only [X.den, X.dens, X.denss, D.int_i, D.boo_b, D.str_s, D.rows_l, List.getD_cons_zero, List.getD_cons_succ, List.cons_append, List.nil_append, List.append_nil, List.length_cons, List.length_nil, decide_eq_true_eq, decide_eq_false_iff_not, Bool.not_eq_true', Bool.not_eq_false', Bool.and_eq_true, Bool.and_eq_false_iff, Bool.true_eq_false, Bool.false_eq_true, Bool.not_true, Bool.not_false, eq_self]; omega) ?_
  refine To.via (srcN_to h (by decide) (by decide)) ?_
  rintro l ⟨r4, a4, rfl, p4, q4, h⟩
  refine ⟨rfl, ?_⟩
  simp only [List.cons_append, List.nil_append]
  refine To.via (srcN_to h (by decide) (by decide)) ?_
  rintro l ⟨r5, a5, rfl, p5, q5, h⟩
  refine ⟨rfl, ?_⟩
  simp only [List.cons_append, List.nil_append]
  refine To.via (srcN_to h (by decide) (by decide)) ?_
  rintro l ⟨r6, a6, rfl, p6, q6, h⟩
  refine ⟨rfl, ?_⟩
  simp only [List.cons_append, List.nil_append]
  refine To.via (srcN_to h (by decide) (by decide)) ?_
  rintro l ⟨r7, a7, rfl, p7, q7, h⟩
  refine ⟨rfl, ?_⟩
  simp only [List.cons_append, List.nil_append]
  obtain ⟨m, hm, em⟩ := pick_cell (zs := [0, 50, -50, 12345, -99999]) p2 q2
  have em : (D.l [[.i 0], [.i 50], [.i (-50)], [.i 12345], [.i (-99999)]]).cell r2 0 = .i m := em
  obtain ⟨n, hn, en⟩ := pick_cell (zs := [0, 1, -149, 700]) p3 q3
  have en : (D.l [[.i 0], [.i 1], [.i (-149)], [.i 700]]).cell r3 0 = .i n := en
  simp only [List.mem_cons, List.not_mem_nil, or_false] at hm hn
  refine To.ret ?_
  simp only [X.den, X.dens, X.denss, D.int_i, D.boo_b, D.str_s, D.rows_l, List.getD_cons_zero, List.getD_cons_succ, List.cons_append, List.nil_append, List.append_nil, List.length_cons, List.length_nil, em, en]
  rw [wr64 (z := -3000 + r5) (by omega) (by omega), wr64 (z := -900 + r6) (by omega) (by omega), wr64 (z := -500 + r7) (by omega) (by omega)]
  exact ⟨_, _, _, _, _, _, _, _, rfl, by omega, by omega, by omega, by omega, by omega, by omega, by omega, by omega, by omega, by omega, by omega, by omega, by omega, by omega, h⟩
theorem srcForce_to {rows : List (List D)} {at_ : Int} (h : SrcOk rows at_) : ∃ l, srcForce_T.run srcM 0 [.l rows, .i at_] = some l ∧ ∃ f0 f1 f2 at', l = [.i f0, .i f1, .i f2, .l rows, .i at'] ∧ -60 ≤ f0 ∧ f0 ≤ 60 ∧ -60 ≤ f1 ∧ f1 ≤ 60 ∧ -900 ≤ f2 ∧ f2 ≤ 900 ∧ SrcOk rows at' := by
  refine run_to ?_
  unfold srcForce_T
  refine To.via (srcN_to h (by decide) (by decide)) ?_
  rintro l ⟨r5, a1, rfl, p1, q1, h⟩
  refine ⟨rfl, ?_⟩
  simp only [List.cons_append, List.nil_append]
  refine To.via (srcN_to h (by decide) (by decide)) ?_
  rintro l ⟨r6, a2, rfl, p2, q2, h⟩
  refine ⟨rfl, ?_⟩
  simp only [List.cons_append, List.nil_append]
  refine To.via (srcN_to h (by decide) (by decide)) ?_
  rintro l ⟨r7, a3, rfl, p3, q3, h⟩
  refine ⟨rfl, To.ret ?_⟩
  simp only [X.den, X.dens, X.denss, D.int_i, D.boo_b, D.str_s, D.rows_l, List.getD_cons_zero, List.getD_cons_succ, List.cons_append, List.nil_append, List.append_nil, List.length_cons, List.length_nil]
  rw [wr64 (z := -60 + r5) (by omega) (by omega), wr64 (z := -60 + r6) (by omega) (by omega), wr64 (z := -900 + r7) (by omega) (by omega)]
  exact ⟨_, _, _, _, rfl, by omega, by omega, by omega, by omega, by omega, by omega, h⟩
theorem src0 {rows : List (List D)} (h : ¬ (600 : Int) < min (rows.length : Int) 9223372036854775807) : SrcOk (rows.take (min (min (rows.length : Int) 9223372036854775807) 600).toNat) 0 := ⟨by omega, by omega, by rw [List.length_take]; omega⟩
end Go.Proofs.Ytdkamfkpmplaoaa
