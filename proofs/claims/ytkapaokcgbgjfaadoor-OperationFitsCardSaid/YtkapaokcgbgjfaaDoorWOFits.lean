/- OperationFits. -/
import Derived.Test.YtkapaokcgbgjfaaDoorOpl
set_option linter.unusedVariables false
set_option linter.unusedSimpArgs false
namespace Go.Proofs.YtkapaokcgbgjfaaDoor
open Go.RowKit Fx
def opFits_K : Con := ⟨5, [.val false [.sl [.int .i64]]], [.val false [.bool]], []⟩
def opFits_T : T (List X) :=
  (.ite (.lt (.N 600) (.len (.V 0)))
  (.call 9 [] 1
   (.ret [(.V 1)]))
  (.need (.not (.lt (.len (.V 0)) (.mn (.len (.V 0)) (.N 600))))
   (.call 11 [(.take (.V 0) (.mn (.len (.V 0)) (.N 600))), (.N 0)] 9
    (.loop [(.V 8), (.V 9), (.N 0), (.N 0)]
     (.ite (.lt (.V 13) (.N 16))
      (.sub (.call 15 [(.V 10), (.V 11), (.N 5)] 3
        (.call 15 [(.V 15), (.V 16), (.N 3)] 3
         (.call 15 [(.V 18), (.V 19), (.N 3)] 3
          (.call 19 [(.V 1), (.V 2), (.V 3), (.V 4), (.V 5), (.V 6), (.V 7), (.V 12), (.wr .i64 (.add (.N 1) (.V 17))), (.wr .i64 (.add (.N 1) (.V 20))), (.V 14)] 2
           (.sub (.ite (.eq (.V 24) (.N 0))
             (.sub (.ite (.eq (.V 14) (.N 1))
               (.call 21 [(.V 1), (.V 2), (.V 3), (.V 4), (.V 5), (.V 6), (.V 7), (.wr .i64 (.add (.N 1) (.V 17))), (.wr .i64 (.add (.N 1) (.V 20)))] 1
                (.ret [(.B true), (.B true), (.not (.V 25))]))
               (.ite (.eq (.V 14) (.N 2))
                (.call 21 [(.V 1), (.V 2), (.V 3), (.V 4), (.V 5), (.V 6), (.V 7), (.wr .i64 (.add (.N 1) (.V 17))), (.wr .i64 (.add (.N 1) (.V 20)))] 1
                 (.ret [(.eq (.V 14) (.N 2)), (.eq (.V 14) (.N 2)), (.not (.V 25))]))
                (.ret [(.eq (.V 14) (.N 2)), (.eq (.V 14) (.N 2)), (.B false)]))) 3
              (.ite (.V 27)
               (.ret [(.N 0), (.V 25), (.V 26), (.V 27)])
               (.ret [(.N 1), (.V 23), (.N 0), (.N 0)])))
             (.ret [(.N 1), (.V 12), (.N 0), (.N 0)])) 4
            (.ite (.eq (.V 25) (.N 0))
             (.ret [(.N 0), (.V 21), (.V 22), (.V 12), (.V 14), (.wr .i64 (.add (.N 1) (.V 17))), (.wr .i64 (.add (.N 1) (.V 20))), (.V 23), (.V 24), (.V 14), (.wr .i64 (.add (.N 1) (.V 17))), (.wr .i64 (.add (.N 1) (.V 20))), (.V 23), (.V 24), (.wr .i64 (.add (.N 1) (.V 17))), (.wr .i64 (.add (.N 1) (.V 20))), (.V 14), (.V 23), (.V 24), (.V 23), (.V 24), (.V 24), (.eq (.V 24) (.N 0)), (.N 0), (.N 0), (.N 0), (.N 0), (.N 0), (.N 0), (.N 0), (.N 0), (.N 0), (.N 0), (.N 0), (.N 0), (.N 0), (.N 0), (.N 0), (.N 0), (.N 0)])
             (.call 15 [(.V 21), (.V 22), (.N 2)] 3
              (.call 17 [(.V 1), (.V 2), (.V 3), (.V 4), (.V 5), (.V 6), (.V 7), (.V 26), (.wr .i64 (.add (.N 1) (.V 17))), (.wr .i64 (.add (.N 1) (.V 20))), (.eq (.V 29) (.N 1))] 2
               (.sub (.ite (.eq (.V 33) (.N 0))
                 (.ite (.eq (.V 32) (.N 2))
                  (.call 21 [(.V 1), (.V 2), (.V 3), (.V 4), (.V 5), (.V 6), (.V 7), (.wr .i64 (.add (.N 1) (.V 17))), (.wr .i64 (.add (.N 1) (.V 20)))] 1
                   (.ite (.V 34)
                    (.ite (.eq (.V 32) (.N 3))
                     (.ite (.eq (.wr .i64 (.add (.N 1) (.V 17))) (.N 1))
                      (.ret [(.not (.V 34)), (.not (.V 34)), (.B true)])
                      (.ret [(.not (.V 34)), (.not (.V 34)), (.eq (.wr .i64 (.add (.N 1) (.V 20))) (.N 3))]))
                     (.ret [(.not (.V 34)), (.not (.V 34)), (.B false)]))
                    (.ret [(.not (.V 34)), (.not (.V 34)), (.B true)])))
                  (.ite (.eq (.V 32) (.N 1))
                   (.call 21 [(.V 1), (.V 2), (.V 3), (.V 4), (.V 5), (.V 6), (.V 7), (.wr .i64 (.add (.N 1) (.V 17))), (.wr .i64 (.add (.N 1) (.V 20)))] 1
                    (.ite (.V 34)
                     (.ite (.eq (.V 32) (.N 3))
                      (.ite (.eq (.wr .i64 (.add (.N 1) (.V 17))) (.N 1))
                       (.ret [(.not (.V 34)), (.not (.V 34)), (.B true)])
                       (.ret [(.not (.V 34)), (.not (.V 34)), (.eq (.wr .i64 (.add (.N 1) (.V 20))) (.N 3))]))
                      (.ret [(.not (.V 34)), (.not (.V 34)), (.B false)]))
                     (.ret [(.not (.V 34)), (.not (.V 34)), (.B true)])))
                   (.ite (.eq (.V 32) (.N 3))
                    (.ite (.eq (.wr .i64 (.add (.N 1) (.V 17))) (.N 1))
                     (.ret [(.B false), (.B false), (.B true)])
                     (.ret [(.B false), (.B false), (.eq (.wr .i64 (.add (.N 1) (.V 20))) (.N 3))]))
                    (.ret [(.B false), (.B false), (.B false)]))))
                 (.ret [(.B true), (.B true), (.B true)])) 3
                (.ite (.V 36)
                 (.ret [(.N 0), (.V 30), (.V 31), (.V 32), (.V 14), (.wr .i64 (.add (.N 1) (.V 17))), (.wr .i64 (.add (.N 1) (.V 20))), (.V 23), (.V 33), (.V 14), (.wr .i64 (.add (.N 1) (.V 17))), (.wr .i64 (.add (.N 1) (.V 20))), (.V 23), (.V 24), (.wr .i64 (.add (.N 1) (.V 17))), (.wr .i64 (.add (.N 1) (.V 20))), (.V 14), (.V 23), (.V 24), (.V 23), (.V 24), (.V 24), (.eq (.V 24) (.N 0)), (.N 0), (.N 0), (.N 0), (.N 0), (.N 0), (.N 0), (.N 0), (.N 0), (.N 0), (.N 0), (.N 0), (.N 0), (.N 0), (.N 0), (.N 0), (.N 0), (.N 0)])
                 (.ret [(.N 1), (.V 30), (.V 31), (.V 32), (.V 14), (.wr .i64 (.add (.N 1) (.V 17))), (.wr .i64 (.add (.N 1) (.V 20))), (.V 23), (.V 33), (.V 14), (.wr .i64 (.add (.N 1) (.V 17))), (.wr .i64 (.add (.N 1) (.V 20))), (.V 23), (.V 24), (.wr .i64 (.add (.N 1) (.V 17))), (.wr .i64 (.add (.N 1) (.V 20))), (.V 14), (.V 23), (.V 24), (.V 23), (.V 24), (.V 24), (.eq (.V 24) (.N 0)), (.V 32), (.V 33), (.V 26), (.wr .i64 (.add (.N 1) (.V 17))), (.wr .i64 (.add (.N 1) (.V 20))), (.V 29), (.eq (.V 29) (.N 1)), (.V 32), (.V 33), (.V 32), (.V 33), (.V 33), (.not (.eq (.V 33) (.N 0))), (.not (.eq (.V 33) (.N 0))), (.V 34), (.V 35), (.V 36)]))))))))))) 40
       (.ite (.eq (.V 14) (.N 0))
        (.ret (false, [(.N 0), (.V 15), (.V 16)]))
        (.ret (true, [(.V 15), (.V 16), (.V 17), (.add (.V 13) (.N 1))]))))
      (.ret (false, [(.N 1), (.V 10), (.V 11)]))) 3
     (.ite (.eq (.V 10) (.N 0))
      (.ret [(.B false)])
      (.call 9 [] 1
       (.ret [(.V 13)])))))))
set_option maxRecDepth 100000 in
theorem opFits_t : runS Tryd.prog [srcN_K.to [], srcOp_K.to [], opNext_K.to [], opAsk_K.to [], opFit_K.to [], sane30_K.to []] [5] opFits_K = opFits_T := by kernel_rfl
noncomputable def ofM : Models := Models.on srcN_K.f (srcN_T.run noM 0) (Models.on srcOp_K.f (srcOp_T.run srcM 0) (Models.on opNext_K.f (opNext_T.run nxM 0) (Models.on opAsk_K.f (opAsk_T.run akM 10) (Models.on opFit_K.f (opFit_T.run ckM1 0) (Models.on sane30_K.f (fun _ => some [.b true]) noM)))))
theorem next_fit {k s l z : Int} {d : Bool} (hs : 0 ≤ s ∧ s ≤ 5) : (0 ≤ nextV k s l z d ∧ nextV k s l z d ≤ 5) ∧ (nextV k s l z d = 1 ∨ nextV k s l z d = 2 → k ≤ l ∧ z = 1) ∧ (nextV k s l z d = 3 → ¬ l = 1 ∧ ¬ z = 3) := by
  unfold nextV
  (repeat' split) <;> omega
theorem ask_fit {k s l z r : Int} (hs : 0 ≤ s ∧ s ≤ 5) : (0 ≤ askV k s l z r ∧ askV k s l z r ≤ 5) ∧ (askE k s l z r = 0 → r = 1 ∨ r = 2 → k ≤ l ∧ z = 1) := by
  unfold askV askE
  constructor
  · (repeat' split) <;> omega
  · (repeat' split) <;> omega
set_option maxHeartbeats 8000000 in
theorem OperationFits_ok : ConOk Tryd.prog opFits_K fun ds => match ds with | [.l _] => some [.b true] | _ => none :=
  con_of follows (M := ofM) (one_con (srcN_ok.to _) (one_con (srcOp_ok.to _) (one_con (opNext_ok.to _) (one_con (opAsk_ok.to _) (one_con (opFit_ok.to _) (one_con (sane30_ok.to _) no_cons)))))) opFits_t fun ds outs hl h => by
    split at h
    · rename_i rows
      injection h with h
      subst h
      refine ⟨fun i l h k => by simp [opFits_K] at k, 20, ?_⟩
      unfold opFits_T
      refine To.ite (fun c => ?_) (fun c => ?_)
      · refine To.callK (l := [.b true]) rfl rfl _ (by simp only [List.cons_append, List.nil_append]; first | done | rfl) ?_
        exact To.ret (by simp only [X.den, X.dens, X.denss, D.int_i, D.boo_b, D.str_s, D.rows_l, List.getD_cons_zero, List.getD_cons_succ, List.cons_append, List.nil_append, List.append_nil, List.length_cons, List.length_nil])
      · refine To.need (by simp only [X.den, X.dens, X.denss, D.int_i, D.boo_b, D.str_s, D.rows_l, List.getD_cons_zero, List.getD_cons_succ, List.cons_append, List.nil_append, List.append_nil, List.length_cons, List.length_nil, decide_eq_true_eq, decide_eq_false_iff_not, Bool.not_eq_true', Bool.not_eq_false', Bool.and_eq_true, Bool.and_eq_false_iff, Bool.true_eq_false, Bool.false_eq_true, Bool.not_true, Bool.not_false, eq_self, D.len_l]; omega) ?_
        refine To.viaK (by (try simp (disch := omega) only [X.den, X.dens, X.denss, D.int_i, D.boo_b, D.str_s, D.rows_l, List.getD_cons_zero, List.getD_cons_succ, List.cons_append, List.nil_append, List.append_nil, List.length_cons, List.length_nil, decide_eq_true_eq, decide_eq_false_iff_not, Bool.not_eq_true', Bool.not_eq_false', Bool.and_eq_true, Bool.and_eq_false_iff, Bool.true_eq_false, Bool.false_eq_true, Bool.not_true, Bool.not_false, eq_self, D.len_l, wr64, not_true_eq_false, not_false_eq_true]); exact srcOp_to src_take30) ?_
        rintro _ ρ2 ⟨b, k, x, y, ye, re, dr, t0, rfl, ok, h0⟩ eρ
        refine ⟨rfl, ?_⟩
        simp only [List.cons_append, List.nil_append] at eρ
        subst eρ
        generalize (rows.take (min (min (rows.length : Int) 9223372036854775807) 600).toNat) = R at h0 ⊢
        refine To.loopK (fun m o => ∃ t s i : Int, o = [.l R, .i t, .i s, .i i] ∧ SrcOk R t ∧ (0 ≤ s ∧ s ≤ 5) ∧ 0 ≤ i ∧ i + m = 16) (fun o => ∃ t, o = [.i 1, .l R, .i t]) 16 (by omega) ?_ ?_ ?_
        · exact ⟨t0, 0, 0, by simp only [X.den, X.dens, X.denss, D.int_i, D.boo_b, D.str_s, D.rows_l, List.getD_cons_zero, List.getD_cons_succ, List.cons_append, List.nil_append, List.append_nil, List.length_cons, List.length_nil], h0, by omega, by omega, by omega⟩
        · rintro m o ρ2 ⟨t2, s, i, rfl, h2, hs, i0, i1⟩ eρ
          simp only [List.cons_append, List.nil_append] at eρ
          subst eρ
          refine To.ite (fun c => ?_) (fun c => ?_) <;> simp only [X.den, X.dens, X.denss, D.int_i, D.boo_b, D.str_s, D.rows_l, List.getD_cons_zero, List.getD_cons_succ, List.cons_append, List.nil_append, List.append_nil, List.length_cons, List.length_nil, decide_eq_true_eq, decide_eq_false_iff_not, Bool.not_eq_true', Bool.not_eq_false', Bool.and_eq_true, Bool.and_eq_false_iff, Bool.true_eq_false, Bool.false_eq_true, Bool.not_true, Bool.not_false, eq_self] at c
          · refine To.subK (fun K hK => ?_)
            refine To.viaK (by (try simp (disch := omega) only [X.den, X.dens, X.denss, D.int_i, D.boo_b, D.str_s, D.rows_l, List.getD_cons_zero, List.getD_cons_succ, List.cons_append, List.nil_append, List.append_nil, List.length_cons, List.length_nil, decide_eq_true_eq, decide_eq_false_iff_not, Bool.not_eq_true', Bool.not_eq_false', Bool.and_eq_true, Bool.and_eq_false_iff, Bool.true_eq_false, Bool.false_eq_true, Bool.not_true, Bool.not_false, eq_self, D.len_l, wr64, not_true_eq_false, not_false_eq_true]); exact srcN_to h2 (by omega) (by omega)) ?_
            rintro _ ρ2 ⟨r, t3, rfl, a3, b3, h3⟩ eρ
            refine ⟨rfl, ?_⟩
            simp only [List.cons_append, List.nil_append] at eρ
            subst eρ
            refine To.viaK (by (try simp (disch := omega) only [X.den, X.dens, X.denss, D.int_i, D.boo_b, D.str_s, D.rows_l, List.getD_cons_zero, List.getD_cons_succ, List.cons_append, List.nil_append, List.append_nil, List.length_cons, List.length_nil, decide_eq_true_eq, decide_eq_false_iff_not, Bool.not_eq_true', Bool.not_eq_false', Bool.and_eq_true, Bool.and_eq_false_iff, Bool.true_eq_false, Bool.false_eq_true, Bool.not_true, Bool.not_false, eq_self, D.len_l, wr64, not_true_eq_false, not_false_eq_true]); exact srcN_to h3 (by omega) (by omega)) ?_
            rintro _ ρ2 ⟨l, t4, rfl, a4, b4, h4⟩ eρ
            refine ⟨rfl, ?_⟩
            simp only [List.cons_append, List.nil_append] at eρ
            subst eρ
            refine To.viaK (by (try simp (disch := omega) only [X.den, X.dens, X.denss, D.int_i, D.boo_b, D.str_s, D.rows_l, List.getD_cons_zero, List.getD_cons_succ, List.cons_append, List.nil_append, List.append_nil, List.length_cons, List.length_nil, decide_eq_true_eq, decide_eq_false_iff_not, Bool.not_eq_true', Bool.not_eq_false', Bool.and_eq_true, Bool.and_eq_false_iff, Bool.true_eq_false, Bool.false_eq_true, Bool.not_true, Bool.not_false, eq_self, D.len_l, wr64, not_true_eq_false, not_false_eq_true]); exact srcN_to h4 (by omega) (by omega)) ?_
            rintro _ ρ2 ⟨z, t5, rfl, a5, b5, h5⟩ eρ
            refine ⟨rfl, ?_⟩
            simp only [List.cons_append, List.nil_append] at eρ
            subst eρ
            obtain ⟨la, lb⟩ := ask_fit (k := k) (l := 1 + l) (z := 1 + z) (r := r) hs
            generalize hE : askE k s (1 + l) (1 + z) r = e at lb
            generalize hV : askV k s (1 + l) (1 + z) r = v at la
            (repeat' (first
                | (refine To.viaK (by (try simp (disch := omega) only [X.den, X.dens, X.denss, D.int_i, D.boo_b, D.str_s, D.rows_l, List.getD_cons_zero, List.getD_cons_succ, List.cons_append, List.nil_append, List.append_nil, List.length_cons, List.length_nil, decide_eq_true_eq, decide_eq_false_iff_not, Bool.not_eq_true', Bool.not_eq_false', Bool.and_eq_true, Bool.and_eq_false_iff, Bool.true_eq_false, Bool.false_eq_true, Bool.not_true, Bool.not_false, eq_self, D.len_l, wr64, not_true_eq_false, not_false_eq_true, hE, hV]); first | exact ask_v ok (by omega) (by omega) (by omega) (by omega) | exact fit_v ok (by omega) (by omega)) ?_; rintro _ ρ2 rfl eρ; refine ⟨rfl, ?_⟩; simp only [List.cons_append, List.nil_append] at eρ; subst eρ)
                | (refine To.subK (fun K hK => ?_))
                | (refine To.need (by simp (disch := omega) only [X.den, X.dens, X.denss, D.int_i, D.boo_b, D.str_s, D.rows_l, List.getD_cons_zero, List.getD_cons_succ, List.cons_append, List.nil_append, List.append_nil, List.length_cons, List.length_nil, decide_eq_true_eq, decide_eq_false_iff_not, Bool.not_eq_true', Bool.not_eq_false', Bool.and_eq_true, Bool.and_eq_false_iff, Bool.true_eq_false, Bool.false_eq_true, Bool.not_true, Bool.not_false, eq_self, D.len_l, wr64, not_true_eq_false, not_false_eq_true, hE, hV] <;> omega) ?_)
                | (refine To.ite (fun c => ?_) (fun c => ?_) <;> ((try simp (disch := omega) only [X.den, X.dens, X.denss, D.int_i, D.boo_b, D.str_s, D.rows_l, List.getD_cons_zero, List.getD_cons_succ, List.cons_append, List.nil_append, List.append_nil, List.length_cons, List.length_nil, decide_eq_true_eq, decide_eq_false_iff_not, Bool.not_eq_true', Bool.not_eq_false', Bool.and_eq_true, Bool.and_eq_false_iff, Bool.true_eq_false, Bool.false_eq_true, Bool.not_true, Bool.not_false, eq_self, D.len_l, wr64, not_true_eq_false, not_false_eq_true, hE, hV] at c) <;> (try (exfalso; omega))))
                | (refine To.ret ⟨rfl, ?_⟩; (try simp (disch := omega) only [X.den, X.dens, X.denss, D.int_i, D.boo_b, D.str_s, D.rows_l, List.getD_cons_zero, List.getD_cons_succ, List.cons_append, List.nil_append, List.append_nil, List.length_cons, List.length_nil, decide_eq_true_eq, decide_eq_false_iff_not, Bool.not_eq_true', Bool.not_eq_false', Bool.and_eq_true, Bool.and_eq_false_iff, Bool.true_eq_false, Bool.false_eq_true, Bool.not_true, Bool.not_false, eq_self, D.len_l, wr64, not_true_eq_false, not_false_eq_true, hE, hV]); refine hK _ _ (by simp only [List.cons_append, List.nil_append]; first | done | rfl) ?_; clear hK; clear K)))
            all_goals
              refine To.viaK (by (try simp (disch := omega) only [X.den, X.dens, X.denss, D.int_i, D.boo_b, D.str_s, D.rows_l, List.getD_cons_zero, List.getD_cons_succ, List.cons_append, List.nil_append, List.append_nil, List.length_cons, List.length_nil, decide_eq_true_eq, decide_eq_false_iff_not, Bool.not_eq_true', Bool.not_eq_false', Bool.and_eq_true, Bool.and_eq_false_iff, Bool.true_eq_false, Bool.false_eq_true, Bool.not_true, Bool.not_false, eq_self, D.len_l, wr64, not_true_eq_false, not_false_eq_true]); exact srcN_to h5 (by omega) (by omega)) ?_
              rintro _ ρ2 ⟨d, t6, rfl, a6, b6, h6⟩ eρ
              refine ⟨rfl, ?_⟩
              simp only [List.cons_append, List.nil_append] at eρ
              subst eρ
              have n1 := next_fit (k := k) (l := 1 + l) (z := 1 + z) (d := decide (d = 1)) la
              have n2 := next_fit (k := k) (l := 1 + l) (z := 1 + z) (d := decide (d = 1)) hs
              generalize hN1 : nextV k v (1 + l) (1 + z) (decide (d = 1)) = x1 at n1
              generalize hN2 : nextV k s (1 + l) (1 + z) (decide (d = 1)) = x2 at n2
              (repeat' (first
                  | (refine To.viaK (by (try simp (disch := omega) only [X.den, X.dens, X.denss, D.int_i, D.boo_b, D.str_s, D.rows_l, List.getD_cons_zero, List.getD_cons_succ, List.cons_append, List.nil_append, List.append_nil, List.length_cons, List.length_nil, decide_eq_true_eq, decide_eq_false_iff_not, Bool.not_eq_true', Bool.not_eq_false', Bool.and_eq_true, Bool.and_eq_false_iff, Bool.true_eq_false, Bool.false_eq_true, Bool.not_true, Bool.not_false, eq_self, D.len_l, wr64, not_true_eq_false, not_false_eq_true, hN1, hN2]); first | exact next_v ok (by omega) (by omega) (by omega) | exact fit_v ok (by omega) (by omega)) ?_; rintro _ ρ2 rfl eρ; refine ⟨rfl, ?_⟩; simp only [List.cons_append, List.nil_append] at eρ; subst eρ)
                  | (refine To.subK (fun K hK => ?_))
                  | (refine To.need (by simp (disch := omega) only [X.den, X.dens, X.denss, D.int_i, D.boo_b, D.str_s, D.rows_l, List.getD_cons_zero, List.getD_cons_succ, List.cons_append, List.nil_append, List.append_nil, List.length_cons, List.length_nil, decide_eq_true_eq, decide_eq_false_iff_not, Bool.not_eq_true', Bool.not_eq_false', Bool.and_eq_true, Bool.and_eq_false_iff, Bool.true_eq_false, Bool.false_eq_true, Bool.not_true, Bool.not_false, eq_self, D.len_l, wr64, not_true_eq_false, not_false_eq_true, hN1, hN2] <;> omega) ?_)
                  | (refine To.ite (fun c => ?_) (fun c => ?_) <;> ((try simp (disch := omega) only [X.den, X.dens, X.denss, D.int_i, D.boo_b, D.str_s, D.rows_l, List.getD_cons_zero, List.getD_cons_succ, List.cons_append, List.nil_append, List.append_nil, List.length_cons, List.length_nil, decide_eq_true_eq, decide_eq_false_iff_not, Bool.not_eq_true', Bool.not_eq_false', Bool.and_eq_true, Bool.and_eq_false_iff, Bool.true_eq_false, Bool.false_eq_true, Bool.not_true, Bool.not_false, eq_self, D.len_l, wr64, not_true_eq_false, not_false_eq_true, hN1, hN2] at c) <;> (try (exfalso; omega))))
                  | (refine To.ret ⟨rfl, ?_⟩; (try simp (disch := omega) only [X.den, X.dens, X.denss, D.int_i, D.boo_b, D.str_s, D.rows_l, List.getD_cons_zero, List.getD_cons_succ, List.cons_append, List.nil_append, List.append_nil, List.length_cons, List.length_nil, decide_eq_true_eq, decide_eq_false_iff_not, Bool.not_eq_true', Bool.not_eq_false', Bool.and_eq_true, Bool.and_eq_false_iff, Bool.true_eq_false, Bool.false_eq_true, Bool.not_true, Bool.not_false, eq_self, D.len_l, wr64, not_true_eq_false, not_false_eq_true, hN1, hN2]); refine hK _ _ (by simp only [List.cons_append, List.nil_append]; first | done | rfl) ?_; clear hK; clear K)))
              all_goals first
                | (refine To.ret (.inl ⟨rfl, m - 1, by omega, ?_⟩); simp (disch := omega) only [X.den, X.dens, X.denss, D.int_i, D.boo_b, D.str_s, D.rows_l, List.getD_cons_zero, List.getD_cons_succ, List.cons_append, List.nil_append, List.append_nil, List.length_cons, List.length_nil, wr64]; exact ⟨_, _, _, rfl, h6, by omega, by omega, by omega⟩)
                | trace_state
          · exact To.ret (.inr ⟨rfl, ⟨t2, by simp only [X.den, X.dens, X.denss, D.int_i, D.boo_b, D.str_s, D.rows_l, List.getD_cons_zero, List.getD_cons_succ, List.cons_append, List.nil_append, List.append_nil, List.length_cons, List.length_nil]⟩⟩)
        · rintro o ρ2 ⟨t, rfl⟩ eρ
          simp only [List.cons_append, List.nil_append] at eρ
          subst eρ
          refine ⟨rfl, To.no rfl ?_⟩
          refine To.callK (l := [.b true]) rfl rfl _ (by simp only [List.cons_append, List.nil_append]; first | done | rfl) ?_
          exact To.ret (by simp only [X.den, X.dens, X.denss, D.int_i, D.boo_b, D.str_s, D.rows_l, List.getD_cons_zero, List.getD_cons_succ, List.cons_append, List.nil_append, List.append_nil, List.length_cons, List.length_nil])
    · cases h
theorem OperationFits_walk {w : World} (hgl : Gl w [] []) (v : Value) (zs : List Int) (h : IntsIn w w.heap.size v .i64 zs) (hz : ∀ z ∈ zs, (Lit.int .i64 z).wf = true) : Calls Tryd.prog 5 #[v] w fun e w' => e = .returned (.bool true) ∧ Below w.heap.size w w' :=
  con_law OperationFits_ok rfl (fun G hG => args_ints h hG (by trivial)) (by simp [opFits_K]) (ds := [numD zs]) rfl
end Go.Proofs.YtkapaokcgbgjfaaDoor
