/- A step of a monitor in numbers. -/
import Derived.Test.YtladhlgibapohaaAuto
set_option linter.unusedVariables false
set_option linter.unusedSimpArgs false
namespace Go.Proofs.Ytladhlgibapohaa
open Go.RowKit Fx
def mStep_K : Con := ⟨18, [.val true [.int .i64, .int .i64, .int .i64, .int .i64], .val true [.int .i64, .int .i64, .int .i64, .int .i64, .int .i64, .int .i64, .int .i64, .int .i64, .bool, .int .i64, .int .i64], .val true [.int .i64, .int .i64, .int .i64, .int .i64]], [.val true [.int .i64, .int .i64, .int .i64, .int .i64, .int .i64, .int .i64, .int .i64, .int .i64, .bool, .int .i64, .int .i64], .val false [.int .i64]], []⟩
def mStep_T : T (List X) :=
  (.sub (.sub (.ite (.lt (.V 0) (.N 0))
    (.ret [(.B false)])
    (.ite (.lt (.V 0) (.N 8))
     (.ite (.lt (.V 1) (.N 0))
      (.ret [(.B false)])
      (.ite (.lt (.N 1000) (.V 1))
       (.ret [(.B false)])
       (.ite (.lt (.V 2) (.N 1))
        (.ret [(.B false)])
        (.ite (.lt (.N 600) (.V 2))
         (.ret [(.B false)])
         (.ite (.lt (.V 3) (.N 0))
          (.ret [(.B false)])
          (.ret [(.not (.lt (.N 600) (.V 3)))]))))))
     (.ret [(.B false)]))) 1
   (.ite (.V 19)
    (.sub (.sub (.ite (.lt (.V 15) (.N 0))
       (.ret [(.B false)])
       (.ret [(.not (.lt (.N 2147483648) (.V 15)))])) 1
      (.ite (.V 20)
       (.sub (.sub (.sub (.ite (.lt (.V 16) (.N (-100000000)))
           (.ret [(.B true)])
           (.ret [(.lt (.N 100000000) (.V 16))])) 1
          (.ite (.V 21)
           (.ret [(.N 0)])
           (.sub (.ite (.lt (.V 17) (.N (-100000000)))
             (.ret [(.B true)])
             (.ret [(.lt (.N 100000000) (.V 17))])) 1
            (.ite (.V 22)
             (.ret [(.N 0)])
             (.ret [(.N 1)]))))) 1
         (.ite (.eq (.V 21) (.N 0))
          (.ret [(.B false)])
          (.ret [(.B true)]))) 1
        (.ite (.V 21)
         (.ite (.lt (.V 18) (.N 1))
          (.ret [(.B false)])
          (.ret [(.not (.lt (.N 100000) (.V 18)))]))
         (.ret [(.B false)])))
       (.ret [(.B false)]))) 1
     (.ite (.V 20)
      (.sub (.ite (.V 12)
        (.sub (.sub (.ite (.lt (.V 4) (.N 0))
           (.ret [(.B false)])
           (.ret [(.not (.lt (.N 2147483648) (.V 4)))])) 1
          (.ite (.V 21)
           (.sub (.sub (.sub (.ite (.lt (.V 5) (.N (-100000000)))
               (.ret [(.B true)])
               (.ret [(.lt (.N 100000000) (.V 5))])) 1
              (.ite (.V 22)
               (.ret [(.N 0)])
               (.sub (.ite (.lt (.V 6) (.N (-100000000)))
                 (.ret [(.B true)])
                 (.ret [(.lt (.N 100000000) (.V 6))])) 1
                (.ite (.V 23)
                 (.ret [(.N 0)])
                 (.ret [(.N 1)]))))) 1
             (.ite (.eq (.V 22) (.N 0))
              (.ret [(.B false)])
              (.ret [(.B true)]))) 1
            (.ite (.V 22)
             (.ite (.lt (.V 7) (.N 1))
              (.ret [(.B false)])
              (.ret [(.not (.lt (.N 100000) (.V 7)))]))
             (.ret [(.B false)])))
           (.ret [(.B false)]))) 1
         (.ite (.V 21)
          (.sub (.sub (.ite (.lt (.V 8) (.N 0))
             (.ret [(.B false)])
             (.ret [(.not (.lt (.N 2147483648) (.V 8)))])) 1
            (.ite (.V 22)
             (.sub (.sub (.sub (.ite (.lt (.V 9) (.N (-100000000)))
                 (.ret [(.B true)])
                 (.ret [(.lt (.N 100000000) (.V 9))])) 1
                (.ite (.V 23)
                 (.ret [(.N 0)])
                 (.sub (.ite (.lt (.V 10) (.N (-100000000)))
                   (.ret [(.B true)])
                   (.ret [(.lt (.N 100000000) (.V 10))])) 1
                  (.ite (.V 24)
                   (.ret [(.N 0)])
                   (.ret [(.N 1)]))))) 1
               (.ite (.eq (.V 23) (.N 0))
                (.ret [(.B false)])
                (.ret [(.B true)]))) 1
              (.ite (.V 23)
               (.ite (.lt (.V 11) (.N 1))
                (.ret [(.B false)])
                (.ret [(.not (.lt (.N 100000) (.V 11)))]))
               (.ret [(.B false)])))
             (.ret [(.B false)]))) 1
           (.ite (.V 22)
            (.ite (.lt (.V 13) (.N 1))
             (.ret [(.B false)])
             (.ret [(.not (.lt (.N 2147483648) (.V 13)))]))
            (.ret [(.B false)])))
          (.ret [(.B false)])))
        (.ret [(.B true)])) 1
       (.ret [(.not (.V 21))]))
      (.ret [(.B true)])))
    (.ret [(.B true)]))) 1
  (.ite (.V 19)
   (.ret [(.N 0), (.N 0), (.N 0), (.N 0), (.N 0), (.N 0), (.N 0), (.N 0), (.B false), (.N 0), (.N 0), (.N 1)])
   (.ite (.V 12)
    (.ite (.lt (.V 4) (.V 15))
     (.sub (.ite (.and (.eq (.V 16) (.V 5)) (.eq (.V 17) (.V 6)))
       (.ret [(.wr .i64 (.add (.V 13) (.N 1)))])
       (.ret [(.N 1)])) 1
      (.sub (.sub (.sub (.sub (.sub (.sub (.ite (.lt (.V 16) (.N (-100000000)))
             (.ret [(.B true)])
             (.ret [(.lt (.N 100000000) (.V 16))])) 1
            (.ite (.V 21)
             (.ret [(.N 0)])
             (.sub (.ite (.lt (.V 17) (.N (-100000000)))
               (.ret [(.B true)])
               (.ret [(.lt (.N 100000000) (.V 17))])) 1
              (.ite (.V 22)
               (.ret [(.N 0)])
               (.ret [(.N 1)]))))) 1
           (.ite (.eq (.V 21) (.N 0))
            (.ret [(.B false)])
            (.ret [(.B true)]))) 1
          (.ite (.V 21)
           (.sub (.sub (.sub (.ite (.lt (.V 9) (.N (-100000000)))
               (.ret [(.B true)])
               (.ret [(.lt (.N 100000000) (.V 9))])) 1
              (.ite (.V 22)
               (.ret [(.N 0)])
               (.sub (.ite (.lt (.V 10) (.N (-100000000)))
                 (.ret [(.B true)])
                 (.ret [(.lt (.N 100000000) (.V 10))])) 1
                (.ite (.V 23)
                 (.ret [(.N 0)])
                 (.ret [(.N 1)]))))) 1
             (.ite (.eq (.V 22) (.N 0))
              (.ret [(.B false)])
              (.ret [(.B true)]))) 1
            (.ret [(.not (.V 22))]))
           (.ret [(.B true)]))) 1
         (.ite (.V 21)
          (.ret [(.N 0), (.N 0), (.N 1)])
          (.ret [(.mx (.wr .i64 (.sub (.V 16) (.V 9))) (.wr .i64 (.sub (.V 9) (.V 16)))), (.mx (.wr .i64 (.sub (.V 17) (.V 10))) (.wr .i64 (.sub (.V 10) (.V 17)))), (.N 0)]))) 3
        (.ite (.lt (.wr .i64 (.add (.wr .i64 (.add (.wr .i64 (.mul (.V 1) (.wr .i64 (.sub (.V 15) (.V 8))))) (.V 18))) (.V 11))) (.mx (.V 21) (.V 22)))
         (.ret [(.N 4)])
         (.sub (.ite (.eq (.V 3) (.N 0))
           (.ret [(.B false)])
           (.ret [(.not (.lt (.V 20) (.V 3)))])) 1
          (.ite (.V 24)
           (.ret [(.N 3)])
           (.ret [(.N 1)]))))) 1
       (.sub (.ite (.eq (.V 21) (.N 1))
         (.ret [(.V 15), (.V 16), (.V 17), (.V 18)])
         (.ret [(.V 8), (.V 9), (.V 10), (.V 11)])) 4
        (.ret [(.V 15), (.V 16), (.V 17), (.V 18), (.V 22), (.V 23), (.V 24), (.V 25), (.V 12), (.V 20), (.V 21), (.N 0)]))))
     (.ret [(.N 0), (.N 0), (.N 0), (.N 0), (.N 0), (.N 0), (.N 0), (.N 0), (.B false), (.N 0), (.N 0), (.N 16)]))
    (.ret [(.V 15), (.V 16), (.V 17), (.V 18), (.V 15), (.V 16), (.V 17), (.V 18), (.B true), (.N 1), (.N 1), (.N 0)]))))
set_option maxRecDepth 100000 in
theorem mStep_t : runS Try.prog [] [] mStep_K = mStep_T := by kernel_rfl
theorem mStep_ok : ConOk Try.prog mStep_K (mStep_T.run noM 0) := con_run follows no_cons mStep_t rfl 0
/-- a valid reference; a valid fix -/
def RefOk (c sp st fr : Int) : Prop := (0 ≤ c ∧ c < 8) ∧ (0 ≤ sp ∧ sp ≤ 1000) ∧ (1 ≤ st ∧ st ≤ 600) ∧ 0 ≤ fr ∧ fr ≤ 600
def FixOk (t x y e : Int) : Prop := (0 ≤ t ∧ t ≤ 2147483648) ∧ (-100000000 ≤ x ∧ x ≤ 100000000) ∧ (-100000000 ≤ y ∧ y ≤ 100000000) ∧ 1 ≤ e ∧ e ≤ 100000
theorem step_first {c sp st fr t x y e a0 a1 a2 a3 a4 a5 a6 a7 a9 a10 : Int} (hr : RefOk c sp st fr) (hf : FixOk t x y e) :
    ∃ l, mStep_T.run noM 0 [.i c, .i sp, .i st, .i fr, .i a0, .i a1, .i a2, .i a3, .i a4, .i a5, .i a6, .i a7, .b false, .i a9, .i a10, .i t, .i x, .i y, .i e] = some l ∧ l = [.i t, .i x, .i y, .i e, .i t, .i x, .i y, .i e, .b true, .i 1, .i 1, .i 0] := by
  unfold RefOk FixOk at *
  refine run_to ?_
  unfold mStep_T
  (repeat' (first
      | (refine To.subK (fun K hK => ?_))
      | (refine To.need (by simp (disch := omega) only [X.den, X.dens, X.denss, D.int_i, D.boo_b, D.str_s, D.rows_l, List.getD_cons_zero, List.getD_cons_succ, List.cons_append, List.nil_append, List.append_nil, List.length_cons, List.length_nil, decide_eq_true_eq, decide_eq_false_iff_not, Bool.not_eq_true', Bool.not_eq_false', Bool.and_eq_true, Bool.and_eq_false_iff, Bool.true_eq_false, Bool.false_eq_true, Bool.not_true, Bool.not_false, eq_self, D.len_l, wr64, not_true_eq_false, not_false_eq_true] <;> omega) ?_)
      | (refine To.ite (fun c => ?_) (fun c => ?_) <;> ((try simp (disch := omega) only [X.den, X.dens, X.denss, D.int_i, D.boo_b, D.str_s, D.rows_l, List.getD_cons_zero, List.getD_cons_succ, List.cons_append, List.nil_append, List.append_nil, List.length_cons, List.length_nil, decide_eq_true_eq, decide_eq_false_iff_not, Bool.not_eq_true', Bool.not_eq_false', Bool.and_eq_true, Bool.and_eq_false_iff, Bool.true_eq_false, Bool.false_eq_true, Bool.not_true, Bool.not_false, eq_self, D.len_l, wr64, not_true_eq_false, not_false_eq_true] at c) <;> (try (exfalso; omega))))
      | (refine To.ret ⟨rfl, ?_⟩; (try simp (disch := omega) only [X.den, X.dens, X.denss, D.int_i, D.boo_b, D.str_s, D.rows_l, List.getD_cons_zero, List.getD_cons_succ, List.cons_append, List.nil_append, List.append_nil, List.length_cons, List.length_nil, decide_eq_true_eq, decide_eq_false_iff_not, Bool.not_eq_true', Bool.not_eq_false', Bool.and_eq_true, Bool.and_eq_false_iff, Bool.true_eq_false, Bool.false_eq_true, Bool.not_true, Bool.not_false, eq_self, D.len_l, wr64, not_true_eq_false, not_false_eq_true]); refine hK _ _ (by simp only [List.cons_append, List.nil_append]; first | done | rfl) ?_; clear hK; clear K)))
  all_goals (refine To.ret ?_; simp only [X.den, X.dens, X.denss, D.int_i, D.boo_b, D.str_s, D.rows_l, List.getD_cons_zero, List.getD_cons_succ, List.cons_append, List.nil_append, List.append_nil, List.length_cons, List.length_nil])
theorem step_next {c sp st fr t x y e lt lx ly le gt gx gy ge sm ss : Int} (hr : RefOk c sp st fr) (hf : FixOk t x y e) (hl : FixOk lt lx ly le) (hg : FixOk gt gx gy ge) (hs : 1 ≤ sm ∧ sm ≤ 2147483648) (ht : lt < t) :
    ∃ l, mStep_T.run noM 0 [.i c, .i sp, .i st, .i fr, .i lt, .i lx, .i ly, .i le, .i gt, .i gx, .i gy, .i ge, .b true, .i sm, .i ss, .i t, .i x, .i y, .i e] = some l ∧
      ∃ sm' ss' g0 g1 g2 g3, l = [.i t, .i x, .i y, .i e, .i g0, .i g1, .i g2, .i g3, .b true, .i sm', .i ss', .i 0] ∧ ((x = lx ∧ y = ly ∧ sm' = sm + 1) ∨ (¬ (x = lx ∧ y = ly) ∧ sm' = 1)) ∧
        ((sp * (t - gt) + e + ge < max (max (x - gx) (gx - x)) (max (y - gy) (gy - y)) ∧ ss' = 4 ∧ g0 = gt ∧ g1 = gx ∧ g2 = gy ∧ g3 = ge) ∨
         (max (max (x - gx) (gx - x)) (max (y - gy) (gy - y)) ≤ sp * (t - gt) + e + ge ∧ (fr ≠ 0 ∧ fr ≤ sm') ∧ ss' = 3 ∧ g0 = gt ∧ g1 = gx ∧ g2 = gy ∧ g3 = ge) ∨
         (max (max (x - gx) (gx - x)) (max (y - gy) (gy - y)) ≤ sp * (t - gt) + e + ge ∧ ¬ (fr ≠ 0 ∧ fr ≤ sm') ∧ ss' = 1 ∧ g0 = t ∧ g1 = x ∧ g2 = y ∧ g3 = e)) := by
  unfold RefOk FixOk at *
  have hp : -2147483648000 ≤ sp * (t - gt) ∧ sp * (t - gt) ≤ 2147483648000 := by
    have a := Int.mul_le_mul_of_nonneg_left (show t - gt ≤ 2147483648 by omega) hr.2.1.1
    have b := Int.mul_le_mul_of_nonneg_left (show -2147483648 ≤ t - gt by omega) hr.2.1.1
    constructor <;> omega
  refine run_to ?_
  unfold mStep_T
  (repeat' (first
      | (refine To.subK (fun K hK => ?_))
      | (refine To.need (by simp (disch := omega) only [X.den, X.dens, X.denss, D.int_i, D.boo_b, D.str_s, D.rows_l, List.getD_cons_zero, List.getD_cons_succ, List.cons_append, List.nil_append, List.append_nil, List.length_cons, List.length_nil, decide_eq_true_eq, decide_eq_false_iff_not, Bool.not_eq_true', Bool.not_eq_false', Bool.and_eq_true, Bool.and_eq_false_iff, Bool.true_eq_false, Bool.false_eq_true, Bool.not_true, Bool.not_false, eq_self, D.len_l, wr64, not_true_eq_false, not_false_eq_true] <;> omega) ?_)
      | (refine To.ite (fun c => ?_) (fun c => ?_) <;> ((try simp (disch := omega) only [X.den, X.dens, X.denss, D.int_i, D.boo_b, D.str_s, D.rows_l, List.getD_cons_zero, List.getD_cons_succ, List.cons_append, List.nil_append, List.append_nil, List.length_cons, List.length_nil, decide_eq_true_eq, decide_eq_false_iff_not, Bool.not_eq_true', Bool.not_eq_false', Bool.and_eq_true, Bool.and_eq_false_iff, Bool.true_eq_false, Bool.false_eq_true, Bool.not_true, Bool.not_false, eq_self, D.len_l, wr64, not_true_eq_false, not_false_eq_true] at c) <;> (try (exfalso; omega))))
      | (refine To.ret ⟨rfl, ?_⟩; (try simp (disch := omega) only [X.den, X.dens, X.denss, D.int_i, D.boo_b, D.str_s, D.rows_l, List.getD_cons_zero, List.getD_cons_succ, List.cons_append, List.nil_append, List.append_nil, List.length_cons, List.length_nil, decide_eq_true_eq, decide_eq_false_iff_not, Bool.not_eq_true', Bool.not_eq_false', Bool.and_eq_true, Bool.and_eq_false_iff, Bool.true_eq_false, Bool.false_eq_true, Bool.not_true, Bool.not_false, eq_self, D.len_l, wr64, not_true_eq_false, not_false_eq_true]); refine hK _ _ (by simp only [List.cons_append, List.nil_append]; first | done | rfl) ?_; clear hK; clear K)))
  all_goals (refine To.ret ?_; simp only [X.den, X.dens, X.denss, D.int_i, D.boo_b, D.str_s, D.rows_l, List.getD_cons_zero, List.getD_cons_succ, List.cons_append, List.nil_append, List.append_nil, List.length_cons, List.length_nil]; refine ⟨_, _, _, _, _, _, rfl, ?_, ?_⟩ <;> (try omega))
theorem step_time {c sp st fr t x y e lt lx ly le gt gx gy ge sm ss : Int} (hr : RefOk c sp st fr) (hf : FixOk t x y e) (hl : FixOk lt lx ly le) (hg : FixOk gt gx gy ge) (hs : 1 ≤ sm ∧ sm ≤ 2147483648) (ht : t ≤ lt) :
    ∃ l, mStep_T.run noM 0 [.i c, .i sp, .i st, .i fr, .i lt, .i lx, .i ly, .i le, .i gt, .i gx, .i gy, .i ge, .b true, .i sm, .i ss, .i t, .i x, .i y, .i e] = some l ∧ l = [.i 0, .i 0, .i 0, .i 0, .i 0, .i 0, .i 0, .i 0, .b false, .i 0, .i 0, .i 16] := by
  unfold RefOk FixOk at *
  refine run_to ?_
  unfold mStep_T
  (repeat' (first
      | (refine To.subK (fun K hK => ?_))
      | (refine To.need (by simp (disch := omega) only [X.den, X.dens, X.denss, D.int_i, D.boo_b, D.str_s, D.rows_l, List.getD_cons_zero, List.getD_cons_succ, List.cons_append, List.nil_append, List.append_nil, List.length_cons, List.length_nil, decide_eq_true_eq, decide_eq_false_iff_not, Bool.not_eq_true', Bool.not_eq_false', Bool.and_eq_true, Bool.and_eq_false_iff, Bool.true_eq_false, Bool.false_eq_true, Bool.not_true, Bool.not_false, eq_self, D.len_l, wr64, not_true_eq_false, not_false_eq_true] <;> omega) ?_)
      | (refine To.ite (fun c => ?_) (fun c => ?_) <;> ((try simp (disch := omega) only [X.den, X.dens, X.denss, D.int_i, D.boo_b, D.str_s, D.rows_l, List.getD_cons_zero, List.getD_cons_succ, List.cons_append, List.nil_append, List.append_nil, List.length_cons, List.length_nil, decide_eq_true_eq, decide_eq_false_iff_not, Bool.not_eq_true', Bool.not_eq_false', Bool.and_eq_true, Bool.and_eq_false_iff, Bool.true_eq_false, Bool.false_eq_true, Bool.not_true, Bool.not_false, eq_self, D.len_l, wr64, not_true_eq_false, not_false_eq_true] at c) <;> (try (exfalso; omega))))
      | (refine To.ret ⟨rfl, ?_⟩; (try simp (disch := omega) only [X.den, X.dens, X.denss, D.int_i, D.boo_b, D.str_s, D.rows_l, List.getD_cons_zero, List.getD_cons_succ, List.cons_append, List.nil_append, List.append_nil, List.length_cons, List.length_nil, decide_eq_true_eq, decide_eq_false_iff_not, Bool.not_eq_true', Bool.not_eq_false', Bool.and_eq_true, Bool.and_eq_false_iff, Bool.true_eq_false, Bool.false_eq_true, Bool.not_true, Bool.not_false, eq_self, D.len_l, wr64, not_true_eq_false, not_false_eq_true]); refine hK _ _ (by simp only [List.cons_append, List.nil_append]; first | done | rfl) ?_; clear hK; clear K)))
  all_goals (refine To.ret ?_; simp only [X.den, X.dens, X.denss, D.int_i, D.boo_b, D.str_s, D.rows_l, List.getD_cons_zero, List.getD_cons_succ, List.cons_append, List.nil_append, List.append_nil, List.length_cons, List.length_nil])
end Go.Proofs.Ytladhlgibapohaa
