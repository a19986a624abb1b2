/- OperationRed. -/
import Derived.Test.YtkapaokcgbgjfaaDoorOpl
set_option linter.unusedVariables false
set_option linter.unusedSimpArgs false
namespace Go.Proofs.YtkapaokcgbgjfaaDoor
open Go.RowKit Fx
def opRed_K : Con := ⟨6, [.val false [.sl [.int .i64]]], [.val false [.bool]], []⟩
def opRed_T : T (List X) :=
  (.ite (.lt (.N 600) (.len (.V 0)))
  (.call 9 [] 1
   (.ret [(.V 1)]))
  (.need (.not (.lt (.len (.V 0)) (.mn (.len (.V 0)) (.N 600))))
   (.call 11 [(.take (.V 0) (.mn (.len (.V 0)) (.N 600))), (.N 0)] 9
    (.call 15 [(.V 8), (.V 9), (.N 3)] 3
     (.call 15 [(.V 11), (.V 12), (.N 3)] 3
      (.sub (.sub (.call 17 [(.V 1), (.V 2), (.V 3), (.V 4), (.V 5), (.V 6), (.V 7), (.N 2), (.wr .i64 (.add (.N 1) (.V 10))), (.wr .i64 (.add (.N 1) (.V 13))), (.B false)] 2
         (.sub (.ite (.eq (.V 17) (.N 0))
           (.ite (.eq (.wr .i64 (.add (.N 1) (.V 10))) (.N 1))
            (.ret [(.not (.beq (.eq (.V 16) (.N 4)) (.B true)))])
            (.ret [(.not (.beq (.eq (.V 16) (.N 4)) (.eq (.wr .i64 (.add (.N 1) (.V 13))) (.N 3))))]))
           (.ret [(.B true)])) 1
          (.ite (.V 18)
           (.ret [(.N 0), (.V 16), (.V 17), (.V 16), (.V 17), (.V 16), (.V 17), (.V 16), (.V 17), (.V 17), (.not (.eq (.V 17) (.N 0))), (.not (.eq (.V 17) (.N 0))), (.V 18), (.N 0), (.N 0), (.N 0), (.N 0), (.N 0), (.N 0), (.N 0), (.N 0), (.N 0), (.N 0), (.N 0), (.N 0)])
           (.call 19 [(.V 1), (.V 2), (.V 3), (.V 4), (.V 5), (.V 6), (.V 7), (.N 2), (.wr .i64 (.add (.N 1) (.V 10))), (.wr .i64 (.add (.N 1) (.V 13))), (.N 3)] 2
            (.sub (.ite (.eq (.V 20) (.N 0))
              (.ret [(.not (.eq (.V 19) (.N 4)))])
              (.ret [(.B true)])) 1
             (.ite (.V 21)
              (.ret [(.N 0), (.V 16), (.V 17), (.V 16), (.V 17), (.V 16), (.V 17), (.V 16), (.V 17), (.V 17), (.not (.eq (.V 17) (.N 0))), (.not (.eq (.V 17) (.N 0))), (.V 18), (.N 0), (.N 0), (.N 0), (.N 0), (.N 0), (.N 0), (.N 0), (.N 0), (.N 0), (.N 0), (.N 0), (.N 0)])
              (.ret [(.N 1), (.V 16), (.V 17), (.V 19), (.V 20), (.V 16), (.V 17), (.V 16), (.V 17), (.V 16), (.V 17), (.V 17), (.not (.eq (.V 17) (.N 0))), (.not (.eq (.V 17) (.N 0))), (.V 18), (.V 19), (.V 20), (.V 19), (.V 20), (.V 19), (.V 20), (.V 20), (.not (.eq (.V 20) (.N 0))), (.not (.eq (.V 20) (.N 0))), (.V 21)]))))))) 25
        (.ite (.eq (.V 16) (.N 0))
         (.ret [(.N 0)])
         (.sub (.call 17 [(.V 1), (.V 2), (.V 3), (.V 4), (.V 5), (.V 6), (.V 7), (.N 3), (.wr .i64 (.add (.N 1) (.V 10))), (.wr .i64 (.add (.N 1) (.V 13))), (.B false)] 2
           (.sub (.ite (.eq (.V 42) (.N 0))
             (.ite (.eq (.wr .i64 (.add (.N 1) (.V 10))) (.N 1))
              (.ret [(.not (.beq (.eq (.V 41) (.N 4)) (.B true)))])
              (.ret [(.not (.beq (.eq (.V 41) (.N 4)) (.eq (.wr .i64 (.add (.N 1) (.V 13))) (.N 3))))]))
             (.ret [(.B true)])) 1
            (.ite (.V 43)
             (.ret [(.N 0), (.V 41), (.V 42), (.V 19), (.V 20), (.V 41), (.V 42), (.V 41), (.V 42), (.V 41), (.V 42), (.V 42), (.not (.eq (.V 42) (.N 0))), (.not (.eq (.V 42) (.N 0))), (.V 43), (.V 31), (.V 32), (.N 2), (.V 33), (.V 34), (.V 35), (.V 36), (.V 37), (.V 38), (.V 39), (.V 40)])
             (.call 19 [(.V 1), (.V 2), (.V 3), (.V 4), (.V 5), (.V 6), (.V 7), (.N 3), (.wr .i64 (.add (.N 1) (.V 10))), (.wr .i64 (.add (.N 1) (.V 13))), (.N 3)] 2
              (.sub (.ite (.eq (.V 45) (.N 0))
                (.ret [(.not (.eq (.V 44) (.N 4)))])
                (.ret [(.B true)])) 1
               (.ite (.V 46)
                (.ret [(.N 0), (.V 41), (.V 42), (.V 44), (.V 45), (.V 41), (.V 42), (.V 41), (.V 42), (.V 41), (.V 42), (.V 42), (.not (.eq (.V 42) (.N 0))), (.not (.eq (.V 42) (.N 0))), (.V 43), (.V 44), (.V 45), (.N 3), (.V 44), (.V 45), (.V 44), (.V 45), (.V 45), (.not (.eq (.V 45) (.N 0))), (.not (.eq (.V 45) (.N 0))), (.V 46)])
                (.ret [(.N 1), (.V 41), (.V 42), (.V 44), (.V 45), (.V 41), (.V 42), (.V 41), (.V 42), (.V 41), (.V 42), (.V 42), (.not (.eq (.V 42) (.N 0))), (.not (.eq (.V 42) (.N 0))), (.V 43), (.V 44), (.V 45), (.V 44), (.V 45), (.V 44), (.V 45), (.V 45), (.not (.eq (.V 45) (.N 0))), (.not (.eq (.V 45) (.N 0))), (.V 46), (.N 0)]))))))) 26
          (.ite (.eq (.V 41) (.N 0))
           (.ret [(.N 0)])
           (.ret [(.N 1)]))))) 1
       (.ite (.eq (.V 16) (.N 0))
        (.ret [(.B false)])
        (.call 9 [] 1
         (.ret [(.V 17)])))))))))
set_option maxRecDepth 100000 in
theorem opRed_t : runS Tryd.prog [srcN_K.to [], srcOp_K.to [], opNext_K.to [], opAsk_K.to [], sane30_K.to []] [] opRed_K = opRed_T := by kernel_rfl
noncomputable def orM : Models := Models.on srcN_K.f (srcN_T.run noM 0) (Models.on srcOp_K.f (srcOp_T.run srcM 0) (Models.on opNext_K.f (opNext_T.run nxM 0) (Models.on opAsk_K.f (opAsk_T.run akM 10) (Models.on sane30_K.f (fun _ => some [.b true]) noM))))
theorem next_red {k s l z : Int} (hs : s = 2 ∨ s = 3) : nextV k s l z false = 4 ↔ l = 1 ∨ z = 3 := by
  unfold nextV
  (repeat' split) <;> omega
theorem ask_red {k s l z : Int} (hs : s = 2 ∨ s = 3) : askV k s l z 3 = 4 ∧ askE k s l z 3 = 0 := by
  unfold askV askE
  constructor <;> ((repeat' split) <;> omega)
theorem OperationRed_ok : ConOk Tryd.prog opRed_K fun ds => match ds with | [.l _] => some [.b true] | _ => none :=
  con_of follows (M := orM) (one_con (srcN_ok.to _) (one_con (srcOp_ok.to _) (one_con (opNext_ok.to _) (one_con (opAsk_ok.to _) (one_con (sane30_ok.to _) no_cons))))) opRed_t fun ds outs hl h => by
    split at h
    · rename_i rows
      injection h with h
      subst h
      refine ⟨fun i l h k => by simp [opRed_K] at k, 0, ?_⟩
      unfold opRed_T
      refine To.ite (fun c => ?_) (fun c => ?_)
      · refine To.callK (l := [.b true]) rfl rfl _ (by simp only [List.cons_append, List.nil_append]; first | done | rfl) ?_
        exact To.ret (by simp only [X.den, X.dens, X.denss, D.int_i, D.boo_b, D.str_s, D.rows_l, List.getD_cons_zero, List.getD_cons_succ, List.cons_append, List.nil_append, List.append_nil, List.length_cons, List.length_nil])
      · refine To.need (by simp only [X.den, X.dens, X.denss, D.int_i, D.boo_b, D.str_s, D.rows_l, List.getD_cons_zero, List.getD_cons_succ, List.cons_append, List.nil_append, List.append_nil, List.length_cons, List.length_nil, decide_eq_true_eq, decide_eq_false_iff_not, Bool.not_eq_true', Bool.not_eq_false', Bool.and_eq_true, Bool.and_eq_false_iff, Bool.true_eq_false, Bool.false_eq_true, Bool.not_true, Bool.not_false, eq_self, D.len_l]; omega) ?_
        refine To.viaK (by (try simp (disch := omega) only [X.den, X.dens, X.denss, D.int_i, D.boo_b, D.str_s, D.rows_l, List.getD_cons_zero, List.getD_cons_succ, List.cons_append, List.nil_append, List.append_nil, List.length_cons, List.length_nil, decide_eq_true_eq, decide_eq_false_iff_not, Bool.not_eq_true', Bool.not_eq_false', Bool.and_eq_true, Bool.and_eq_false_iff, Bool.true_eq_false, Bool.false_eq_true, Bool.not_true, Bool.not_false, eq_self, D.len_l, wr64, not_true_eq_false, not_false_eq_true]); exact srcOp_to src_take30) ?_
        rintro _ ρ2 ⟨b, k, x, y, ye, re, dr, t0, rfl, ok, h0⟩ eρ
        refine ⟨rfl, ?_⟩
        simp only [List.cons_append, List.nil_append] at eρ
        subst eρ
        refine To.viaK (by (try simp (disch := omega) only [X.den, X.dens, X.denss, D.int_i, D.boo_b, D.str_s, D.rows_l, List.getD_cons_zero, List.getD_cons_succ, List.cons_append, List.nil_append, List.append_nil, List.length_cons, List.length_nil, decide_eq_true_eq, decide_eq_false_iff_not, Bool.not_eq_true', Bool.not_eq_false', Bool.and_eq_true, Bool.and_eq_false_iff, Bool.true_eq_false, Bool.false_eq_true, Bool.not_true, Bool.not_false, eq_self, D.len_l, wr64, not_true_eq_false, not_false_eq_true]); exact srcN_to h0 (by omega) (by omega)) ?_
        rintro _ ρ2 ⟨l, t1, rfl, a1, b1, h1⟩ eρ
        refine ⟨rfl, ?_⟩
        simp only [List.cons_append, List.nil_append] at eρ
        subst eρ
        refine To.viaK (by (try simp (disch := omega) only [X.den, X.dens, X.denss, D.int_i, D.boo_b, D.str_s, D.rows_l, List.getD_cons_zero, List.getD_cons_succ, List.cons_append, List.nil_append, List.append_nil, List.length_cons, List.length_nil, decide_eq_true_eq, decide_eq_false_iff_not, Bool.not_eq_true', Bool.not_eq_false', Bool.and_eq_true, Bool.and_eq_false_iff, Bool.true_eq_false, Bool.false_eq_true, Bool.not_true, Bool.not_false, eq_self, D.len_l, wr64, not_true_eq_false, not_false_eq_true]); exact srcN_to h1 (by omega) (by omega)) ?_
        rintro _ ρ2 ⟨z, t2, rfl, a2, b2, h2⟩ eρ
        refine ⟨rfl, ?_⟩
        simp only [List.cons_append, List.nil_append] at eρ
        subst eρ
        have n2 := next_red (k := k) (s := 2) (l := 1 + l) (z := 1 + z) (by omega)
        have n3 := next_red (k := k) (s := 3) (l := 1 + l) (z := 1 + z) (by omega)
        obtain ⟨p2, e2⟩ := ask_red (k := k) (s := 2) (l := 1 + l) (z := 1 + z) (by omega)
        obtain ⟨p3, e3⟩ := ask_red (k := k) (s := 3) (l := 1 + l) (z := 1 + z) (by omega)
        have hs : ∃ o : List D, (fun _ => some [D.b true]) ([] : List D) = some o ∧ o = [.b true] := ⟨_, rfl, rfl⟩
        (repeat' (first
            | (refine To.viaK (by (try simp (disch := omega) only [X.den, X.dens, X.denss, D.int_i, D.boo_b, D.str_s, D.rows_l, List.getD_cons_zero, List.getD_cons_succ, List.cons_append, List.nil_append, List.append_nil, List.length_cons, List.length_nil, decide_eq_true_eq, decide_eq_false_iff_not, Bool.not_eq_true', Bool.not_eq_false', Bool.and_eq_true, Bool.and_eq_false_iff, Bool.true_eq_false, Bool.false_eq_true, Bool.not_true, Bool.not_false, eq_self, D.len_l, wr64, not_true_eq_false, not_false_eq_true, n2, n3, p2, e2, p3, e3, beq_iff_eq, beq_eq_false_iff_ne, ne_eq, decide_eq_decide]); first | exact next_v ok (by omega) (by omega) (by omega) | exact ask_v ok (by omega) (by omega) (by omega) (by omega) | exact hs) ?_; rintro _ ρ2 rfl eρ; refine ⟨rfl, ?_⟩; simp only [List.cons_append, List.nil_append] at eρ; subst eρ)
            | (refine To.subK (fun K hK => ?_))
            | (refine To.need (by simp (disch := omega) only [X.den, X.dens, X.denss, D.int_i, D.boo_b, D.str_s, D.rows_l, List.getD_cons_zero, List.getD_cons_succ, List.cons_append, List.nil_append, List.append_nil, List.length_cons, List.length_nil, decide_eq_true_eq, decide_eq_false_iff_not, Bool.not_eq_true', Bool.not_eq_false', Bool.and_eq_true, Bool.and_eq_false_iff, Bool.true_eq_false, Bool.false_eq_true, Bool.not_true, Bool.not_false, eq_self, D.len_l, wr64, not_true_eq_false, not_false_eq_true, n2, n3, p2, e2, p3, e3, beq_iff_eq, beq_eq_false_iff_ne, ne_eq, decide_eq_decide] <;> omega) ?_)
            | (refine To.ite (fun c => ?_) (fun c => ?_) <;> ((try simp (disch := omega) only [X.den, X.dens, X.denss, D.int_i, D.boo_b, D.str_s, D.rows_l, List.getD_cons_zero, List.getD_cons_succ, List.cons_append, List.nil_append, List.append_nil, List.length_cons, List.length_nil, decide_eq_true_eq, decide_eq_false_iff_not, Bool.not_eq_true', Bool.not_eq_false', Bool.and_eq_true, Bool.and_eq_false_iff, Bool.true_eq_false, Bool.false_eq_true, Bool.not_true, Bool.not_false, eq_self, D.len_l, wr64, not_true_eq_false, not_false_eq_true, n2, n3, p2, e2, p3, e3, beq_iff_eq, beq_eq_false_iff_ne, ne_eq, decide_eq_decide] at c) <;> (try (exfalso; omega))))
            | (refine To.ret ⟨rfl, ?_⟩; (try simp (disch := omega) only [X.den, X.dens, X.denss, D.int_i, D.boo_b, D.str_s, D.rows_l, List.getD_cons_zero, List.getD_cons_succ, List.cons_append, List.nil_append, List.append_nil, List.length_cons, List.length_nil, decide_eq_true_eq, decide_eq_false_iff_not, Bool.not_eq_true', Bool.not_eq_false', Bool.and_eq_true, Bool.and_eq_false_iff, Bool.true_eq_false, Bool.false_eq_true, Bool.not_true, Bool.not_false, eq_self, D.len_l, wr64, not_true_eq_false, not_false_eq_true, n2, n3, p2, e2, p3, e3, beq_iff_eq, beq_eq_false_iff_ne, ne_eq, decide_eq_decide]); refine hK _ _ (by simp only [List.cons_append, List.nil_append]; first | done | rfl) ?_; clear hK; clear K)))
        all_goals trace_state
        all_goals exact To.ret (by simp only [X.den, X.dens, X.denss, D.int_i, D.boo_b, D.str_s, D.rows_l, List.getD_cons_zero, List.getD_cons_succ, List.cons_append, List.nil_append, List.append_nil, List.length_cons, List.length_nil])
    · cases h
theorem OperationRed_walk {w : World} (hgl : Gl w [] []) (v : Value) (zs : List Int) (h : IntsIn w w.heap.size v .i64 zs) (hz : ∀ z ∈ zs, (Lit.int .i64 z).wf = true) : Calls Tryd.prog 6 #[v] w fun e w' => e = .returned (.bool true) ∧ Below w.heap.size w w' :=
  con_law OperationRed_ok rfl (fun G hG => args_ints h hG (by trivial)) (by simp [opRed_K]) (ds := [numD zs]) rfl
end Go.Proofs.YtkapaokcgbgjfaaDoor
