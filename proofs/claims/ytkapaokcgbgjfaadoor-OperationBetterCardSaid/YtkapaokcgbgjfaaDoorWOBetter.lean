/- OperationBetter. -/
import Derived.Test.YtkapaokcgbgjfaaDoorOpl
set_option linter.unusedVariables false
set_option linter.unusedSimpArgs false
namespace Go.Proofs.YtkapaokcgbgjfaaDoor
open Go.RowKit Fx
def opBetter_K : Con := ⟨8, [.val false [.sl [.int .i64]]], [.val false [.bool]], []⟩
def opBetter_T : T (List X) :=
  (.ite (.lt (.N 600) (.len (.V 0)))
  (.call 9 [] 1
   (.ret [(.V 1)]))
  (.need (.not (.lt (.len (.V 0)) (.mn (.len (.V 0)) (.N 600))))
   (.call 11 [(.take (.V 0) (.mn (.len (.V 0)) (.N 600))), (.N 0)] 9
    (.call 15 [(.V 8), (.V 9), (.N 2)] 3
     (.call 15 [(.V 11), (.V 12), (.N 3)] 3
      (.call 15 [(.V 14), (.V 15), (.N 3)] 3
       (.call 17 [(.V 1), (.V 2), (.V 3), (.V 4), (.V 5), (.V 6), (.V 7), (.wr .i64 (.add (.N 2) (.V 10))), (.wr .i64 (.add (.N 1) (.V 13))), (.wr .i64 (.add (.N 1) (.V 16))), (.B false)] 2
        (.call 15 [(.V 17), (.V 18), (.N 3)] 3
         (.call 15 [(.V 22), (.V 23), (.N 3)] 3
          (.call 17 [(.V 1), (.V 2), (.V 3), (.V 4), (.V 5), (.V 6), (.V 7), (.wr .i64 (.add (.N 2) (.V 10))), (.mn (.N 3) (.wr .i64 (.add (.wr .i64 (.add (.N 1) (.V 13))) (.V 21)))), (.mx (.N 1) (.wr .i64 (.sub (.wr .i64 (.add (.N 1) (.V 16))) (.V 24)))), (.B false)] 2
           (.sub (.ite (.eq (.V 20) (.N 0))
             (.ite (.eq (.V 28) (.N 0))
              (.ite (.lt (.V 19) (.V 27))
               (.ret [(.B false)])
               (.call 9 [] 1
                (.ret [(.V 29)])))
              (.ret [(.B false)]))
             (.ret [(.B false)])) 1
            (.ret [(.V 29)]))))))))))))
set_option maxRecDepth 100000 in
theorem opBetter_t : runS Tryd.prog [srcN_K.to [], srcOp_K.to [], opNext_K.to [], sane30_K.to []] [] opBetter_K = opBetter_T := by kernel_rfl
noncomputable def obM : Models := Models.on srcN_K.f (srcN_T.run noM 0) (Models.on srcOp_K.f (srcOp_T.run srcM 0) (Models.on opNext_K.f (opNext_T.run nxM 0) (Models.on sane30_K.f (fun _ => some [.b true]) noM)))
theorem next_better {k s l z l' z' : Int} (hs : s = 2 ∨ s = 3) (h1 : l ≤ l') (h2 : z' ≤ z) (h3 : z ≤ 3) (h4 : 1 ≤ z') (h5 : 1 ≤ l) : nextV k s l' z' false ≤ nextV k s l z false := by
  unfold nextV
  (repeat' split) <;> omega
theorem OperationBetter_ok : ConOk Tryd.prog opBetter_K fun ds => match ds with | [.l _] => some [.b true] | _ => none :=
  con_of follows (M := obM) (one_con (srcN_ok.to _) (one_con (srcOp_ok.to _) (one_con (opNext_ok.to _) (one_con (sane30_ok.to _) no_cons)))) opBetter_t fun ds outs hl h => by
    split at h
    · rename_i rows
      injection h with h
      subst h
      refine ⟨fun i l h k => by simp [opBetter_K] at k, 0, ?_⟩
      unfold opBetter_T
      refine To.ite (fun c => ?_) (fun c => ?_)
      · refine To.callK (l := [.b true]) rfl rfl _ (by simp only [List.cons_append, List.nil_append]; first | done | rfl) ?_
        exact To.ret (by simp only [X.den, X.dens, X.denss, D.int_i, D.boo_b, D.str_s, D.rows_l, List.getD_cons_zero, List.getD_cons_succ, List.cons_append, List.nil_append, List.append_nil, List.length_cons, List.length_nil])
      · refine To.need (by simp only [X.den, X.dens, X.denss, D.int_i, D.boo_b, D.str_s, D.rows_l, List.getD_cons_zero, List.getD_cons_succ, List.cons_append, List.nil_append, List.append_nil, List.length_cons, List.length_nil, decide_eq_true_eq, decide_eq_false_iff_not, Bool.not_eq_true', Bool.not_eq_false', Bool.and_eq_true, Bool.and_eq_false_iff, Bool.true_eq_false, Bool.false_eq_true, Bool.not_true, Bool.not_false, eq_self, D.len_l]; omega) ?_
        refine To.viaK (by (try simp (disch := omega) only [X.den, X.dens, X.denss, D.int_i, D.boo_b, D.str_s, D.rows_l, List.getD_cons_zero, List.getD_cons_succ, List.cons_append, List.nil_append, List.append_nil, List.length_cons, List.length_nil, decide_eq_true_eq, decide_eq_false_iff_not, Bool.not_eq_true', Bool.not_eq_false', Bool.and_eq_true, Bool.and_eq_false_iff, Bool.true_eq_false, Bool.false_eq_true, Bool.not_true, Bool.not_false, eq_self, D.len_l, wr64, not_true_eq_false, not_false_eq_true]); exact srcOp_to src_take30) ?_
        rintro _ ρ2 ⟨b, k, x, y, ye, re, dr, t0, rfl, ok, h0⟩ eρ
        refine ⟨rfl, ?_⟩
        simp only [List.cons_append, List.nil_append] at eρ
        subst eρ
        refine To.viaK (by (try simp (disch := omega) only [X.den, X.dens, X.denss, D.int_i, D.boo_b, D.str_s, D.rows_l, List.getD_cons_zero, List.getD_cons_succ, List.cons_append, List.nil_append, List.append_nil, List.length_cons, List.length_nil, decide_eq_true_eq, decide_eq_false_iff_not, Bool.not_eq_true', Bool.not_eq_false', Bool.and_eq_true, Bool.and_eq_false_iff, Bool.true_eq_false, Bool.false_eq_true, Bool.not_true, Bool.not_false, eq_self, D.len_l, wr64, not_true_eq_false, not_false_eq_true]); exact srcN_to h0 (by omega) (by omega)) ?_
        rintro _ ρ2 ⟨s, t1, rfl, a1, b1, h1⟩ eρ
        refine ⟨rfl, ?_⟩
        simp only [List.cons_append, List.nil_append] at eρ
        subst eρ
        refine To.viaK (by (try simp (disch := omega) only [X.den, X.dens, X.denss, D.int_i, D.boo_b, D.str_s, D.rows_l, List.getD_cons_zero, List.getD_cons_succ, List.cons_append, List.nil_append, List.append_nil, List.length_cons, List.length_nil, decide_eq_true_eq, decide_eq_false_iff_not, Bool.not_eq_true', Bool.not_eq_false', Bool.and_eq_true, Bool.and_eq_false_iff, Bool.true_eq_false, Bool.false_eq_true, Bool.not_true, Bool.not_false, eq_self, D.len_l, wr64, not_true_eq_false, not_false_eq_true]); exact srcN_to h1 (by omega) (by omega)) ?_
        rintro _ ρ2 ⟨l, t2, rfl, a2, b2, h2⟩ eρ
        refine ⟨rfl, ?_⟩
        simp only [List.cons_append, List.nil_append] at eρ
        subst eρ
        refine To.viaK (by (try simp (disch := omega) only [X.den, X.dens, X.denss, D.int_i, D.boo_b, D.str_s, D.rows_l, List.getD_cons_zero, List.getD_cons_succ, List.cons_append, List.nil_append, List.append_nil, List.length_cons, List.length_nil, decide_eq_true_eq, decide_eq_false_iff_not, Bool.not_eq_true', Bool.not_eq_false', Bool.and_eq_true, Bool.and_eq_false_iff, Bool.true_eq_false, Bool.false_eq_true, Bool.not_true, Bool.not_false, eq_self, D.len_l, wr64, not_true_eq_false, not_false_eq_true]); exact srcN_to h2 (by omega) (by omega)) ?_
        rintro _ ρ2 ⟨z, t3, rfl, a3, b3, h3⟩ eρ
        refine ⟨rfl, ?_⟩
        simp only [List.cons_append, List.nil_append] at eρ
        subst eρ
        refine To.viaK (by (try simp (disch := omega) only [X.den, X.dens, X.denss, D.int_i, D.boo_b, D.str_s, D.rows_l, List.getD_cons_zero, List.getD_cons_succ, List.cons_append, List.nil_append, List.append_nil, List.length_cons, List.length_nil, decide_eq_true_eq, decide_eq_false_iff_not, Bool.not_eq_true', Bool.not_eq_false', Bool.and_eq_true, Bool.and_eq_false_iff, Bool.true_eq_false, Bool.false_eq_true, Bool.not_true, Bool.not_false, eq_self, D.len_l, wr64, not_true_eq_false, not_false_eq_true]); exact next_v ok (by omega) (by omega) (by omega)) ?_
        rintro _ ρ2 rfl eρ
        refine ⟨rfl, ?_⟩
        simp only [List.cons_append, List.nil_append] at eρ
        subst eρ
        refine To.viaK (by (try simp (disch := omega) only [X.den, X.dens, X.denss, D.int_i, D.boo_b, D.str_s, D.rows_l, List.getD_cons_zero, List.getD_cons_succ, List.cons_append, List.nil_append, List.append_nil, List.length_cons, List.length_nil, decide_eq_true_eq, decide_eq_false_iff_not, Bool.not_eq_true', Bool.not_eq_false', Bool.and_eq_true, Bool.and_eq_false_iff, Bool.true_eq_false, Bool.false_eq_true, Bool.not_true, Bool.not_false, eq_self, D.len_l, wr64, not_true_eq_false, not_false_eq_true]); exact srcN_to h3 (by omega) (by omega)) ?_
        rintro _ ρ2 ⟨l', t4, rfl, a4, b4, h4⟩ eρ
        refine ⟨rfl, ?_⟩
        simp only [List.cons_append, List.nil_append] at eρ
        subst eρ
        refine To.viaK (by (try simp (disch := omega) only [X.den, X.dens, X.denss, D.int_i, D.boo_b, D.str_s, D.rows_l, List.getD_cons_zero, List.getD_cons_succ, List.cons_append, List.nil_append, List.append_nil, List.length_cons, List.length_nil, decide_eq_true_eq, decide_eq_false_iff_not, Bool.not_eq_true', Bool.not_eq_false', Bool.and_eq_true, Bool.and_eq_false_iff, Bool.true_eq_false, Bool.false_eq_true, Bool.not_true, Bool.not_false, eq_self, D.len_l, wr64, not_true_eq_false, not_false_eq_true]); exact srcN_to h4 (by omega) (by omega)) ?_
        rintro _ ρ2 ⟨z', t5, rfl, a5, b5, h5⟩ eρ
        refine ⟨rfl, ?_⟩
        simp only [List.cons_append, List.nil_append] at eρ
        subst eρ
        refine To.viaK (by (try simp (disch := omega) only [X.den, X.dens, X.denss, D.int_i, D.boo_b, D.str_s, D.rows_l, List.getD_cons_zero, List.getD_cons_succ, List.cons_append, List.nil_append, List.append_nil, List.length_cons, List.length_nil, decide_eq_true_eq, decide_eq_false_iff_not, Bool.not_eq_true', Bool.not_eq_false', Bool.and_eq_true, Bool.and_eq_false_iff, Bool.true_eq_false, Bool.false_eq_true, Bool.not_true, Bool.not_false, eq_self, D.len_l, wr64, not_true_eq_false, not_false_eq_true]); exact next_v ok (by omega) (by omega) (by omega)) ?_
        rintro _ ρ2 rfl eρ
        refine ⟨rfl, ?_⟩
        simp only [List.cons_append, List.nil_append] at eρ
        subst eρ
        refine To.subK (fun K hK => ?_)
        refine To.yes rfl ?_
        refine To.yes rfl ?_
        refine To.no ?_ ?_
        · simp only [X.den, X.dens, X.denss, D.int_i, D.boo_b, D.str_s, D.rows_l, List.getD_cons_zero, List.getD_cons_succ, List.cons_append, List.nil_append, List.append_nil, List.length_cons, List.length_nil, decide_eq_true_eq, decide_eq_false_iff_not, Bool.not_eq_true', Bool.not_eq_false', Bool.and_eq_true, Bool.and_eq_false_iff, Bool.true_eq_false, Bool.false_eq_true, Bool.not_true, Bool.not_false, eq_self, Int.not_lt]
          exact next_better (by omega) (by omega) (by omega) (by omega) (by omega) (by omega)
        refine To.callK (l := [.b true]) rfl rfl _ (by simp only [List.cons_append, List.nil_append]; first | done | rfl) ?_
        refine To.ret ⟨rfl, hK _ _ (by simp only [X.den, X.dens, X.denss, D.int_i, D.boo_b, D.str_s, D.rows_l, List.getD_cons_zero, List.getD_cons_succ, List.cons_append, List.nil_append, List.append_nil, List.length_cons, List.length_nil]; rfl) ?_⟩
        exact To.ret (by simp only [X.den, X.dens, X.denss, D.int_i, D.boo_b, D.str_s, D.rows_l, List.getD_cons_zero, List.getD_cons_succ, List.cons_append, List.nil_append, List.append_nil, List.length_cons, List.length_nil])
    · cases h
theorem OperationBetter_walk {w : World} (hgl : Gl w [] []) (v : Value) (zs : List Int) (h : IntsIn w w.heap.size v .i64 zs) (hz : ∀ z ∈ zs, (Lit.int .i64 z).wf = true) : Calls Tryd.prog 8 #[v] w fun e w' => e = .returned (.bool true) ∧ Below w.heap.size w w' :=
  con_law OperationBetter_ok rfl (fun G hG => args_ints h hG (by trivial)) (by simp [opBetter_K]) (ds := [numD zs]) rfl
end Go.Proofs.YtkapaokcgbgjfaaDoor
