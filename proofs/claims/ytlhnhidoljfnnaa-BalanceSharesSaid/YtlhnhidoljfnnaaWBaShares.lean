/- BalanceShares. -/
import Derived.Test.YtlhnhidoljfnnaaBaL
set_option linter.unusedVariables false
set_option linter.unusedSimpArgs false
namespace Go.Proofs.Ytlhnhidoljfnnaa
open Go.RowKit Fx Sh
def baSha_H : List Hint := [
  ⟨1150669704814131739, 4, [], ⟨[.und, .und, .bool (.B false), .ptr 0 0, .var 2, .und, .und, .und, .und, .int .i64 (.V 4), .und, .und, .und, .und, .und, .und, .und, .und, .und, .und, .und, .und, .und, .und, .und, .und, .und, .und, .und, .und, .und, .und, .und, .und, .und, .und, .und, .und, .und, .und, .und, .und, .und, .und, .und, .und, .und, .und, .und, .und, .und, .var 2, .int .i64 (.len (.V 1)), .int .i64 (.V 5), .und, .und, .und, .und, .und, .und, .und, .und, .und, .und, .und, .und, .und, .und, .und, .und, .und, .und, .und, .und, .und, .und, .und, .und, .und, .und, .und, .und, .und, .und, .und, .und, .und, .und, .und, .und, .und, .und, .und, .und, .und, .und, .und, .und, .und, .und, .und, .und, .und, .und, .und, .und, .und, .und, .und, .und, .und, .und, .und, .und, .und, .und, .und, .und, .und, .und, .und, .und, .und, .und, .und, .und, .und, .und, .und, .und, .und, .und, .und, .und, .und, .und, .und, .und, .und, .und, .und, .und, .und, .und, .und, .und, .und, .und, .und, .und, .und, .und, .und, .und, .und, .und, .und, .und, .und, .und, .und, .und, .und, .und, .und, .und, .und, .und, .und, .und, .und, .und, .und, .und, .und, .und, .und, .und, .und, .und, .und, .und, .und, .und, .und, .und, .und, .und, .und, .und, .und, .und, .und, .und, .und, .und, .und, .und, .und, .und, .und, .und, .und, .und], [.fix [.var 3, .int .i64 (.V 3)] true], 6, 4, [none, none, none, none, none, none], [], [⟨0, [.int .i64], (.V 0)⟩, ⟨1, [.int .i64], (.take (.V 0) (.mn (.len (.V 0)) (.N 600)))⟩, ⟨2, [.int .i64], (.V 1)⟩, ⟨3, [.int .i64], (.V 2)⟩]⟩⟩,
  ⟨1152921504359363099, 11, [], ⟨[.und, .und, .bool (.B false), .ptr 0 0, .var 2, .und, .und, .und, .und, .int .i64 (.V 4), .und, .und, .int .i64 (.V 5), .var 5, .und, .int .i64 (.V 11), .und, .und, .und, .und, .und, .und, .und, .und, .und, .und, .und, .und, .und, .und, .und, .und, .und, .und, .und, .und, .und, .und, .und, .und, .und, .und, .und, .und, .und, .und, .und, .und, .und, .und, .und, .und, .und, .und, .und, .und, .und, .und, .und, .und, .und, .und, .und, .und, .und, .und, .und, .und, .und, .und, .und, .und, .und, .und, .und, .und, .und, .und, .und, .und, .und, .und, .und, .und, .und, .und, .und, .und, .var 5, .int .i64 (.len (.V 8)), .int .i64 (.V 12), .und, .und, .und, .und, .und, .und, .und, .und, .und, .und, .und, .und, .und, .und, .und, .und, .und, .und, .und, .und, .und, .und, .und, .und, .und, .und, .und, .und, .und, .und, .und, .und, .und, .und, .und, .und, .und, .und, .und, .und, .und, .und, .und, .und, .und, .und, .und, .und, .und, .und, .und, .und, .und, .und, .und, .und, .und, .und, .und, .und, .und, .und, .und, .und, .und, .und, .und, .und, .und, .und, .und, .und, .und, .und, .und, .und, .und, .und, .und, .und, .und, .und, .und, .und, .und, .und, .und, .und, .und, .und, .und, .und, .und, .und, .und, .und, .und, .und, .und, .und, .und, .und, .und, .und, .und, .und, .und, .und, .und, .und, .und, .und, .und], [.fix [.var 4, .int .i64 (.V 7)] true], 13, 6, [none, none, none, none, none, none, none, none, none, none, none, none, none], [], [⟨0, [.int .i64], (.V 0)⟩, ⟨1, [.int .i64], (.take (.V 0) (.mn (.len (.V 0)) (.N 600)))⟩, ⟨2, [.int .i64], (.V 1)⟩, ⟨3, [.int .i64], (.V 2)⟩, ⟨4, [.int .i64], (.V 6)⟩, ⟨5, [.int .i64], (.V 8)⟩]⟩⟩,
  ⟨1152921504359363099, 14, [], ⟨[.und, .und, .bool (.B false), .ptr 0 0, .var 2, .und, .und, .und, .und, .int .i64 (.V 4), .und, .und, .int .i64 (.V 5), .var 5, .und, .int .i64 (.wr .i64 (.add (.V 11) (.at (.V 8) (.V 12) 0))), .int .i64 (.V 12), .int .i64 (.at (.V 8) (.V 12) 0), .und, .und, .und, .und, .und, .und, .und, .und, .und, .und, .und, .und, .und, .und, .und, .und, .und, .und, .und, .und, .und, .und, .und, .und, .und, .und, .und, .und, .und, .und, .und, .und, .und, .und, .und, .und, .und, .und, .und, .und, .und, .und, .und, .und, .und, .und, .und, .und, .und, .und, .und, .und, .und, .und, .und, .und, .und, .und, .und, .und, .und, .und, .und, .und, .und, .und, .und, .und, .und, .und, .var 5, .int .i64 (.len (.V 8)), .int .i64 (.V 12), .bool (.lt (.V 12) (.len (.V 8))), .int .i64 (.V 12), .el 5 (.V 12) 1 0, .int .i64 (.at (.V 8) (.V 12) 0), .int .i64 (.V 11), .int .i64 (.at (.V 8) (.V 12) 0), .int .i64 (.wr .i64 (.add (.V 11) (.at (.V 8) (.V 12) 0))), .int .i64 (.at (.V 8) (.V 12) 0), .bool (.lt (.at (.V 8) (.V 12) 0) (.N 0)), .bool (.lt (.at (.V 8) (.V 12) 0) (.N 0)), .und, .und, .und, .und, .und, .und, .und, .und, .und, .und, .und, .bool (.V 13), .var 5, .int .i64 (.len (.V 8)), .int .i64 (.V 14), .und, .und, .und, .und, .und, .und, .und, .und, .und, .und, .und, .und, .und, .und, .und, .und, .und, .und, .und, .und, .und, .und, .und, .und, .und, .und, .und, .und, .und, .und, .und, .und, .und, .und, .und, .und, .und, .und, .und, .und, .und, .und, .und, .und, .und, .und, .und, .und, .und, .und, .und, .und, .und, .und, .und, .und, .und, .und, .und, .und, .und, .und, .und, .und, .und, .und, .und, .und, .und, .und, .und, .und, .und, .und, .und, .und, .und, .und, .und, .und, .und, .und, .und, .und, .und, .und, .und, .und], [.fix [.var 4, .int .i64 (.V 7)] true], 15, 6, [none, none, none, none, none, none, none, none, none, none, none, none, none, none, none], [], [⟨0, [.int .i64], (.V 0)⟩, ⟨1, [.int .i64], (.take (.V 0) (.mn (.len (.V 0)) (.N 600)))⟩, ⟨2, [.int .i64], (.V 1)⟩, ⟨3, [.int .i64], (.V 2)⟩, ⟨4, [.int .i64], (.V 6)⟩, ⟨5, [.int .i64], (.V 8)⟩]⟩⟩]
def baSha_K : Con := ⟨13, [.val false [.sl [.int .i64]]], [.val false [.bool]], []⟩
def baSha_T : T (List X) :=
  (.need (.not (.lt (.len (.V 0)) (.mn (.len (.V 0)) (.N 600))))
  (.call 63 [(.take (.V 0) (.mn (.len (.V 0)) (.N 600))), (.N 0)] 3
   (.ite (.eq (.len (.V 1)) (.N 0))
    (.call 65 [(.N 1), (.rows [])] 2
     (.call 65 [(.N 0), (.rows [])] 2
      (.sub (.ite (.eq (.V 5) (.N 9))
        (.ite (.eq (.V 7) (.N 0))
         (.ite (.eq (.len (.V 6)) (.N 0))
          (.call 64 [] 1
           (.ret [(.V 8)]))
          (.ret [(.B false)]))
         (.ret [(.B false)]))
        (.ret [(.B false)])) 1
       (.ret [(.V 8)]))))
    (.loop [(.N 0), (.N 0)]
     (.ite (.lt (.V 5) (.len (.V 1)))
      (.need (.and (.not (.lt (.V 5) (.N 0))) (.lt (.V 5) (.len (.V 1))))
       (.ret (true, [(.wr .i64 (.add (.V 4) (.at (.V 1) (.V 5) 0))), (.wr .i64 (.add (.V 5) (.N 1)))])))
      (.ret (false, [(.V 4)]))) 1
     (.call 26 [(.V 2), (.V 3), (.wr .i64 (.add (.wr .i64 (.mul (.N 2) (.V 4))) (.N 1)))] 3
      (.call 65 [(.V 5), (.V 1)] 2
       (.sub (.ite (.eq (.V 9) (.N 0))
         (.ite (.eq (.len (.V 8)) (.len (.V 1)))
          (.call 66 [(.V 5), (.V 1), (.V 8)] 1
           (.ret [(.not (.V 10))]))
          (.ret [(.B true)]))
         (.ret [(.B true)])) 1
        (.ite (.V 10)
         (.ret [(.B false)])
         (.loop [(.N 0), (.N 0)]
          (.ite (.lt (.V 12) (.len (.V 8)))
           (.sub (.need (.and (.not (.lt (.V 12) (.N 0))) (.lt (.V 12) (.len (.V 8))))
             (.sub (.ite (.lt (.at (.V 8) (.V 12) 0) (.N 0))
               (.ret [(.B true)])
               (.ite (.lt (.V 4) (.V 5))
                (.ret [(.B false)])
                (.need (.and (.not (.lt (.V 12) (.N 0))) (.lt (.V 12) (.len (.V 1))))
                 (.ret [(.lt (.at (.V 1) (.V 12) 0) (.at (.V 8) (.V 12) 0))])))) 1
              (.ite (.V 13)
               (.ret [(.N 0), (.V 13), (.N 0), (.N 0)])
               (.loop [(.N 0)]
                (.ite (.lt (.V 14) (.len (.V 8)))
                 (.sub (.need (.and (.not (.lt (.V 12) (.N 0))) (.lt (.V 12) (.len (.V 1))))
                   (.need (.and (.not (.lt (.V 14) (.N 0))) (.lt (.V 14) (.len (.V 1))))
                    (.ite (.eq (.at (.V 1) (.V 12) 0) (.at (.V 1) (.V 14) 0))
                     (.need (.and (.not (.lt (.V 14) (.N 0))) (.lt (.V 14) (.len (.V 8))))
                      (.ite (.lt (.N 1) (.wr .i64 (.sub (.at (.V 8) (.V 12) 0) (.at (.V 8) (.V 14) 0))))
                       (.ret [(.B true)])
                       (.ite (.lt (.N 1) (.wr .i64 (.sub (.at (.V 8) (.V 14) 0) (.at (.V 8) (.V 12) 0))))
                        (.ret [(.B true)])
                        (.ite (.lt (.V 12) (.V 14))
                         (.ret [(.lt (.at (.V 8) (.V 12) 0) (.at (.V 8) (.V 14) 0))])
                         (.ret [(.B false)])))))
                     (.ret [(.B false)])))) 1
                  (.ite (.V 15)
                   (.ret (false, [(.N 0), (.V 14), (.V 14), (.lt (.V 14) (.len (.V 8))), (.V 14), (.V 14), (.at (.V 1) (.V 14) 0), (.eq (.at (.V 1) (.V 12) 0) (.at (.V 1) (.V 14) 0)), (.eq (.at (.V 1) (.V 12) 0) (.at (.V 1) (.V 14) 0)), (.V 15)]))
                   (.ret (true, [(.wr .i64 (.add (.V 14) (.N 1)))]))))
                 (.ret (false, [(.N 1), (.V 14), (.lt (.V 14) (.len (.V 8))), (.N 0), (.N 0), (.N 0), (.N 0), (.N 0), (.N 0), (.N 0)]))) 10
                (.ite (.eq (.V 14) (.N 0))
                 (.ret [(.N 0), (.V 13), (.N 0), (.N 0)])
                 (.ret [(.N 1), (.V 13), (.V 15), (.V 16)])))))) 4
            (.ite (.eq (.V 13) (.N 0))
             (.ret (false, [(.N 0), (.wr .i64 (.add (.V 11) (.at (.V 8) (.V 12) 0)))]))
             (.ret (true, [(.wr .i64 (.add (.V 11) (.at (.V 8) (.V 12) 0))), (.wr .i64 (.add (.V 12) (.N 1)))]))))
           (.ret (false, [(.N 1), (.V 11)]))) 2
          (.ite (.eq (.V 11) (.N 0))
           (.ret [(.B false)])
           (.need (.not (.lt (.N 17592186044416) (.len (.V 8))))
            (.call 26 [(.V 6), (.V 7), (.len (.V 8))] 3
             (.call 26 [(.V 14), (.V 15), (.len (.V 8))] 3
              (.need (.and (.not (.lt (.V 13) (.N 0))) (.lt (.V 13) (.len (.V 8))))
               (.need (.and (.not (.lt (.V 16) (.N 0))) (.lt (.V 16) (.len (.V 8))))
                (.sub (.ite (.eq (.V 12) (.V 5))
                  (.ite (.eq (.V 13) (.V 16))
                   (.call 64 [] 1
                    (.ret [(.V 19)]))
                   (.call 66 [(.V 5), (.V 1), (.put (.put (.V 8) (.V 13) 0 (.wr .i64 (.add (.at (.V 8) (.V 13) 0) (.N 2)))) (.V 16) 0 (.wr .i64 (.sub (.at (.V 8) (.V 16) 0) (.N 2))))] 1
                    (.ite (.V 19)
                     (.ret [(.B false)])
                     (.call 64 [] 1
                      (.ret [(.V 20)])))))
                  (.ret [(.B false)])) 1
                 (.ret [(.V 19)])))))))))))))))))
set_option maxRecDepth 100000 in
theorem baSha_t : runS Try.prog [srcN_K.to [], baRat_K.to [], baSplit_K.to [], baCheck_K.to [], sane17_K.to []] [(13, baSha_H)] baSha_K = baSha_T := by kernel_rfl
def bshM : Models := Models.on srcN_K.f (srcN_T.run noM 0) (Models.on baRat_K.f (baRat_T.run srM 30) (Models.on baSplit_K.f (baSplit_T.run bsM 30) (Models.on baCheck_K.f (baCheck_T.run bcM 30) (Models.on sane17_K.f (fun _ => some [.b true]) noM))))
theorem BalanceShares_ok : ConOk Try.prog baSha_K fun ds => match ds with | [.l _] => some [.b true] | _ => none :=
  con_of follows (M := bshM) (one_con (srcN_ok.to _) (one_con (baRat_ok.to _) (one_con (baSplit_ok.to _) (one_con (baCheck_ok.to _) (one_con (sane17_ok.to _) no_cons))))) baSha_t fun ds outs hl h => by
    split at h
    · rename_i rows
      injection h with h
      subst h
      refine ⟨fun i l h k => by simp [baSha_K] at k, 30, ?_⟩
      unfold baSha_T
      refine To.need (by simp only [X.den, X.dens, X.denss, D.int_i, D.boo_b, D.str_s, D.rows_l, List.getD_cons_zero, List.getD_cons_succ, List.cons_append, List.nil_append, List.append_nil, List.length_cons, List.length_nil, decide_eq_true_eq, decide_eq_false_iff_not, Bool.not_eq_true', Bool.not_eq_false', Bool.and_eq_true, Bool.and_eq_false_iff, Bool.true_eq_false, Bool.false_eq_true, Bool.not_true, Bool.not_false, eq_self, D.len_l]; omega) ?_
      refine To.viaK (by (try simp (disch := omega) only [X.den, X.dens, X.denss, D.int_i, D.boo_b, D.str_s, D.rows_l, List.getD_cons_zero, List.getD_cons_succ, List.cons_append, List.nil_append, List.append_nil, List.length_cons, List.length_nil, decide_eq_true_eq, decide_eq_false_iff_not, Bool.not_eq_true', Bool.not_eq_false', Bool.and_eq_true, Bool.and_eq_false_iff, Bool.true_eq_false, Bool.false_eq_true, Bool.not_true, Bool.not_false, eq_self, D.len_l, wr64, not_true_eq_false, not_false_eq_true]); exact rat_to src_take17) ?_
      rintro _ ρ2 ⟨l, t1, rfl, hn, hf, h1⟩ eρ
      refine ⟨rfl, ?_⟩
      simp only [List.cons_append, List.nil_append] at eρ
      subst eρ
      generalize List.take (min (min (rows.length : Int) 9223372036854775807) 600).toNat rows = src at *
      refine To.ite (fun c => ?_) (fun c => ?_) <;> simp only [X.den, X.dens, X.denss, D.int_i, D.boo_b, D.str_s, D.rows_l, List.getD_cons_zero, List.getD_cons_succ, List.cons_append, List.nil_append, List.append_nil, List.length_cons, List.length_nil, decide_eq_true_eq, decide_eq_false_iff_not, Bool.not_eq_true', Bool.not_eq_false', Bool.and_eq_true, Bool.and_eq_false_iff, Bool.true_eq_false, Bool.false_eq_true, Bool.not_true, Bool.not_false, eq_self, D.len_l] at c
      · refine To.call (l := _) sp_a rfl ?_
        simp only [List.cons_append, List.nil_append]
        refine To.call (l := _) sp_b rfl ?_
        simp only [List.cons_append, List.nil_append]
        refine To.joinK (fun o => o = [.b true]) ?_ ?_
        · refine To.yes rfl (To.yes rfl (To.yes rfl ?_))
          refine To.callK (l := [.b true]) rfl rfl _ (by simp only [List.cons_append, List.nil_append]; first | done | rfl) ?_
          exact To.ret ⟨rfl, by simp only [X.den, X.dens, X.denss, D.int_i, D.boo_b, D.str_s, D.rows_l, List.getD_cons_zero, List.getD_cons_succ, List.cons_append, List.nil_append, List.append_nil, List.length_cons, List.length_nil]⟩
        rintro o ρ2 rfl eρ
        simp only [List.cons_append, List.nil_append] at eρ
        subst eρ
        exact To.ret (by simp only [X.den, X.dens, X.denss, D.int_i, D.boo_b, D.str_s, D.rows_l, List.getD_cons_zero, List.getD_cons_succ, List.cons_append, List.nil_append, List.append_nil, List.length_cons, List.length_nil])
      have h0 : 1 ≤ l.length := by omega
      have hv : ∀ i : Int, 0 ≤ i → i < l.length → okR l i := fun i a b => by have := rt_ok hf a b; unfold okR; omega
      have hr : ∀ i : Int, 0 ≤ i → i < l.length → 1 ≤ nf l i := fun i a b => (rt_ok hf a b).1
      have sr := fun (k : Nat) (hk : k ≤ l.length) => sumf_bound (f := nf l) (a := 1) (b := 100) (n := k) fun i a b => rt_ok hf a (by omega)
      have sn := sr l.length (Nat.le_refl _)
      refine To.loopK (fun m o => ∃ k : Nat, o = [.i (sumf (nf l) k), .i k] ∧ k + m = l.length) (fun o => o = [.i (sumf (nf l) l.length)]) l.length (by omega) ?_ ?_ ?_
      · exact ⟨0, rfl, by omega⟩
      · rintro m o ρ2 ⟨k, rfl, hk⟩ eρ
        simp only [List.cons_append, List.nil_append] at eρ
        subst eρ
        refine To.ite (fun c => ?_) (fun c => ?_) <;> simp only [X.den, X.dens, X.denss, D.int_i, D.boo_b, D.str_s, D.rows_l, List.getD_cons_zero, List.getD_cons_succ, List.cons_append, List.nil_append, List.append_nil, List.length_cons, List.length_nil, decide_eq_true_eq, decide_eq_false_iff_not, Bool.not_eq_true', Bool.not_eq_false', Bool.and_eq_true, Bool.and_eq_false_iff, Bool.true_eq_false, Bool.false_eq_true, Bool.not_true, Bool.not_false, eq_self, D.len_l] at c
        · refine To.need (by simp only [X.den, X.dens, X.denss, D.int_i, D.boo_b, D.str_s, D.rows_l, List.getD_cons_zero, List.getD_cons_succ, List.cons_append, List.nil_append, List.append_nil, List.length_cons, List.length_nil, decide_eq_true_eq, decide_eq_false_iff_not, Bool.not_eq_true', Bool.not_eq_false', Bool.and_eq_true, Bool.and_eq_false_iff, Bool.true_eq_false, Bool.false_eq_true, Bool.not_true, Bool.not_false, eq_self, D.len_l]; omega) ?_
          have s1 := sr k (by omega)
          have s2 := sr (k + 1) (by omega)
          simp only [sumf] at s2
          refine To.ret (.inl ⟨rfl, m - 1, by omega, k + 1, ?_, by omega⟩)
          simp (disch := omega) only [X.den, X.dens, X.denss, D.int_i, D.boo_b, D.str_s, D.rows_l, List.getD_cons_zero, List.getD_cons_succ, List.cons_append, List.nil_append, List.append_nil, List.length_cons, List.length_nil, wr64, nf_def, nat_suc, sumf]
        · obtain rfl : k = l.length := by omega
          exact To.ret (.inr ⟨rfl, by simp only [X.den, X.dens, X.denss, D.int_i, D.boo_b, D.str_s, D.rows_l, List.getD_cons_zero, List.getD_cons_succ, List.cons_append, List.nil_append, List.append_nil, List.length_cons, List.length_nil]⟩)
      rintro o ρ2 rfl eρ
      simp only [List.cons_append, List.nil_append] at eρ
      subst eρ
      refine ⟨rfl, ?_⟩
      refine To.viaK (by (try simp (disch := omega) only [X.den, X.dens, X.denss, D.int_i, D.boo_b, D.str_s, D.rows_l, List.getD_cons_zero, List.getD_cons_succ, List.cons_append, List.nil_append, List.append_nil, List.length_cons, List.length_nil, decide_eq_true_eq, decide_eq_false_iff_not, Bool.not_eq_true', Bool.not_eq_false', Bool.and_eq_true, Bool.and_eq_false_iff, Bool.true_eq_false, Bool.false_eq_true, Bool.not_true, Bool.not_false, eq_self, D.len_l, wr64, not_true_eq_false, not_false_eq_true]); exact srcN_to h1 (by omega) (by omega)) ?_
      rintro _ ρ2 ⟨t, t2, rfl, p2, q2, h2⟩ eρ
      refine ⟨rfl, ?_⟩
      simp only [List.cons_append, List.nil_append] at eρ
      subst eρ
      have bk : bck t l = 0 := bck_of h0 (by omega) p2 (by omega) hv
      refine To.viaK (by (try simp (disch := omega) only [X.den, X.dens, X.denss, D.int_i, D.boo_b, D.str_s, D.rows_l, List.getD_cons_zero, List.getD_cons_succ, List.cons_append, List.nil_append, List.append_nil, List.length_cons, List.length_nil, decide_eq_true_eq, decide_eq_false_iff_not, Bool.not_eq_true', Bool.not_eq_false', Bool.and_eq_true, Bool.and_eq_false_iff, Bool.true_eq_false, Bool.false_eq_true, Bool.not_true, Bool.not_false, eq_self, D.len_l, wr64, not_true_eq_false, not_false_eq_true]); exact split_gen bk h0) ?_
      rintro _ ρ2 ⟨z, rfl, z1, zl, sp⟩ eρ
      refine ⟨rfl, ?_⟩
      simp only [List.cons_append, List.nil_append] at eρ
      subst eρ
      have zq : ∀ i : Int, 0 ≤ i → i < l.length → nf z i = qF t l i ∨ nf z i = qF t l i + 1 := sp.1
      have zr : ∀ i : Int, 0 ≤ i → i < l.length → nf z i = qF t l i + 1 → 0 < rF t l i := fun i a b c => split_rest (by omega) sp i a b c
      have qr := fun (i : Int) (a : 0 ≤ i) (b : i < l.length) => (qr_rng p2 (by omega) (hv i a b) (by omega)).1
      have zb : ∀ i : Int, 0 ≤ i → i < l.length → -1000000000000 ≤ nf z i ∧ nf z i ≤ 1000000000000 := fun i a b => by have := qr i a b; have := zq i a b; omega
      have zp := share_pos (by omega) sp hr p2
      have zle := fun (h : t ≤ sumf (nf l) l.length) => share_le (by omega) sp hr p2 h
      have el : min (z.length : Int) 9223372036854775807 = l.length := by omega
      refine To.joinK (fun o => o = [.b false]) ?_ ?_
      · refine To.yes rfl (To.yes (by simp only [X.den, X.dens, X.denss, D.int_i, D.boo_b, D.str_s, D.rows_l, List.getD_cons_zero, List.getD_cons_succ, List.cons_append, List.nil_append, List.append_nil, List.length_cons, List.length_nil, decide_eq_true_eq, decide_eq_false_iff_not, Bool.not_eq_true', Bool.not_eq_false', Bool.and_eq_true, Bool.and_eq_false_iff, Bool.true_eq_false, Bool.false_eq_true, Bool.not_true, Bool.not_false, eq_self, D.len_l]; omega) ?_)
        refine To.viaK (by (try simp (disch := omega) only [X.den, X.dens, X.denss, D.int_i, D.boo_b, D.str_s, D.rows_l, List.getD_cons_zero, List.getD_cons_succ, List.cons_append, List.nil_append, List.append_nil, List.length_cons, List.length_nil, decide_eq_true_eq, decide_eq_false_iff_not, Bool.not_eq_true', Bool.not_eq_false', Bool.and_eq_true, Bool.and_eq_false_iff, Bool.true_eq_false, Bool.false_eq_true, Bool.not_true, Bool.not_false, eq_self, D.len_l, wr64, not_true_eq_false, not_false_eq_true]); exact check_to bk h0 zl zb) ?_
        rintro _ ρ2 ⟨b, rfl, hb⟩ eρ
        refine ⟨rfl, ?_⟩
        simp only [List.cons_append, List.nil_append] at eρ
        subst eρ
        have : b = true := hb.2 ⟨fun i a c => by
          rcases zq i a c with q | q
          · exact .inl q
          · exact .inr ⟨q, by have := zr i a c q; omega⟩, sp.2.1⟩
        subst this
        exact To.ret ⟨rfl, by simp only [X.den, X.dens, X.denss, D.int_i, D.boo_b, D.str_s, D.rows_l, List.getD_cons_zero, List.getD_cons_succ, List.cons_append, List.nil_append, List.append_nil, List.length_cons, List.length_nil]; rfl⟩
      rintro o ρ2 rfl eρ
      simp only [List.cons_append, List.nil_append] at eρ
      subst eρ
      refine To.no rfl ?_
      have zs := fun (k : Nat) (hk : k ≤ l.length) => sumf_bound (f := nf z) (a := -1000000000000) (b := 1000000000000) (n := k) fun i a b => zb i a (by omega)
      refine To.loopK (fun m o => ∃ k : Nat, o = [.i (sumf (nf z) k), .i k] ∧ k + m = l.length) (fun o => o = [.i 1, .i (sumf (nf z) l.length)]) l.length (by omega) ?_ ?_ ?_
      · exact ⟨0, rfl, by omega⟩
      · rintro m o ρ2 ⟨k, rfl, hk⟩ eρ
        simp only [List.cons_append, List.nil_append] at eρ
        subst eρ
        refine To.ite (fun c => ?_) (fun c => ?_) <;> simp only [X.den, X.dens, X.denss, D.int_i, D.boo_b, D.str_s, D.rows_l, List.getD_cons_zero, List.getD_cons_succ, List.cons_append, List.nil_append, List.append_nil, List.length_cons, List.length_nil, decide_eq_true_eq, decide_eq_false_iff_not, Bool.not_eq_true', Bool.not_eq_false', Bool.and_eq_true, Bool.and_eq_false_iff, Bool.true_eq_false, Bool.false_eq_true, Bool.not_true, Bool.not_false, eq_self, D.len_l] at c
        · have kn : (k : Int) < l.length := by omega
          have bk1 := zb k (by omega) kn
          have pk := zp k (by omega) kn
          refine To.joinK (fun o => ∃ r1 r2 r3 : D, o = [.i 1, r1, r2, r3]) ?_ ?_
          · refine To.need (by simp only [X.den, X.dens, X.denss, D.int_i, D.boo_b, D.str_s, D.rows_l, List.getD_cons_zero, List.getD_cons_succ, List.cons_append, List.nil_append, List.append_nil, List.length_cons, List.length_nil, decide_eq_true_eq, decide_eq_false_iff_not, Bool.not_eq_true', Bool.not_eq_false', Bool.and_eq_true, Bool.and_eq_false_iff, Bool.true_eq_false, Bool.false_eq_true, Bool.not_true, Bool.not_false, eq_self, D.len_l]; omega) ?_
            refine To.joinK (fun o => o = [.b false]) ?_ ?_
            · refine To.no (by simp only [X.den, X.dens, X.denss, D.int_i, D.boo_b, D.str_s, D.rows_l, List.getD_cons_zero, List.getD_cons_succ, List.cons_append, List.nil_append, List.append_nil, List.length_cons, List.length_nil, decide_eq_true_eq, decide_eq_false_iff_not, Bool.not_eq_true', Bool.not_eq_false', Bool.and_eq_true, Bool.and_eq_false_iff, Bool.true_eq_false, Bool.false_eq_true, Bool.not_true, Bool.not_false, eq_self, nf_def]; omega) ?_
              refine To.ite (fun c => ?_) (fun c => ?_) <;> simp only [X.den, X.dens, X.denss, D.int_i, D.boo_b, D.str_s, D.rows_l, List.getD_cons_zero, List.getD_cons_succ, List.cons_append, List.nil_append, List.append_nil, List.length_cons, List.length_nil, decide_eq_true_eq, decide_eq_false_iff_not, Bool.not_eq_true', Bool.not_eq_false', Bool.and_eq_true, Bool.and_eq_false_iff, Bool.true_eq_false, Bool.false_eq_true, Bool.not_true, Bool.not_false, eq_self] at c
              · exact To.ret ⟨rfl, by simp only [X.den, X.dens, X.denss, D.int_i, D.boo_b, D.str_s, D.rows_l, List.getD_cons_zero, List.getD_cons_succ, List.cons_append, List.nil_append, List.append_nil, List.length_cons, List.length_nil]⟩
              · refine To.need (by simp only [X.den, X.dens, X.denss, D.int_i, D.boo_b, D.str_s, D.rows_l, List.getD_cons_zero, List.getD_cons_succ, List.cons_append, List.nil_append, List.append_nil, List.length_cons, List.length_nil, decide_eq_true_eq, decide_eq_false_iff_not, Bool.not_eq_true', Bool.not_eq_false', Bool.and_eq_true, Bool.and_eq_false_iff, Bool.true_eq_false, Bool.false_eq_true, Bool.not_true, Bool.not_false, eq_self, D.len_l]; omega) ?_
                have := (zle (by omega) k (by omega) kn).2
                refine To.ret ⟨rfl, ?_⟩
                simp only [X.den, X.dens, X.denss, D.int_i, D.boo_b, D.str_s, D.rows_l, List.getD_cons_zero, List.getD_cons_succ, List.cons_append, List.nil_append, List.append_nil, List.length_cons, List.length_nil, nf_def]
                rw [decide_eq_false (by omega)]
            rintro o ρ2 rfl eρ
            simp only [List.cons_append, List.nil_append] at eρ
            subst eρ
            refine To.no rfl ?_
            refine To.loopK (fun m o => ∃ j : Int, o = [.i j] ∧ 0 ≤ j ∧ j + m = l.length) (fun o => ∃ r2 r3 : D, ∃ rest : List D, o = .i 1 :: r2 :: r3 :: rest ∧ rest.length = 7) l.length (by omega) ?_ ?_ ?_
            · exact ⟨0, by simp only [X.den, X.dens, X.denss, D.int_i, D.boo_b, D.str_s, D.rows_l, List.getD_cons_zero, List.getD_cons_succ, List.cons_append, List.nil_append, List.append_nil, List.length_cons, List.length_nil], by omega, by omega⟩
            · rintro m2 o ρ2 ⟨j, rfl, j0, jm⟩ eρ
              simp only [List.cons_append, List.nil_append] at eρ
              subst eρ
              refine To.ite (fun c => ?_) (fun c => ?_) <;> simp only [X.den, X.dens, X.denss, D.int_i, D.boo_b, D.str_s, D.rows_l, List.getD_cons_zero, List.getD_cons_succ, List.cons_append, List.nil_append, List.append_nil, List.length_cons, List.length_nil, decide_eq_true_eq, decide_eq_false_iff_not, Bool.not_eq_true', Bool.not_eq_false', Bool.and_eq_true, Bool.and_eq_false_iff, Bool.true_eq_false, Bool.false_eq_true, Bool.not_true, Bool.not_false, eq_self, D.len_l] at c
              · have jn : j < l.length := by omega
                have bj := zb j j0 jn
                refine To.joinK (fun o => o = [.b false]) ?_ ?_
                · refine To.need (by simp only [X.den, X.dens, X.denss, D.int_i, D.boo_b, D.str_s, D.rows_l, List.getD_cons_zero, List.getD_cons_succ, List.cons_append, List.nil_append, List.append_nil, List.length_cons, List.length_nil, decide_eq_true_eq, decide_eq_false_iff_not, Bool.not_eq_true', Bool.not_eq_false', Bool.and_eq_true, Bool.and_eq_false_iff, Bool.true_eq_false, Bool.false_eq_true, Bool.not_true, Bool.not_false, eq_self, D.len_l]; omega) ?_
                  refine To.need (by simp only [X.den, X.dens, X.denss, D.int_i, D.boo_b, D.str_s, D.rows_l, List.getD_cons_zero, List.getD_cons_succ, List.cons_append, List.nil_append, List.append_nil, List.length_cons, List.length_nil, decide_eq_true_eq, decide_eq_false_iff_not, Bool.not_eq_true', Bool.not_eq_false', Bool.and_eq_true, Bool.and_eq_false_iff, Bool.true_eq_false, Bool.false_eq_true, Bool.not_true, Bool.not_false, eq_self, D.len_l]; omega) ?_
                  refine To.ite (fun c => ?_) (fun c => ?_) <;> simp only [X.den, X.dens, X.denss, D.int_i, D.boo_b, D.str_s, D.rows_l, List.getD_cons_zero, List.getD_cons_succ, List.cons_append, List.nil_append, List.append_nil, List.length_cons, List.length_nil, decide_eq_true_eq, decide_eq_false_iff_not, Bool.not_eq_true', Bool.not_eq_false', Bool.and_eq_true, Bool.and_eq_false_iff, Bool.true_eq_false, Bool.false_eq_true, Bool.not_true, Bool.not_false, eq_self, nf_def] at c
                  · have se := share_eq sp (show (0 : Int) ≤ k by omega) kn j0 jn c
                    refine To.need (by simp only [X.den, X.dens, X.denss, D.int_i, D.boo_b, D.str_s, D.rows_l, List.getD_cons_zero, List.getD_cons_succ, List.cons_append, List.nil_append, List.append_nil, List.length_cons, List.length_nil, decide_eq_true_eq, decide_eq_false_iff_not, Bool.not_eq_true', Bool.not_eq_false', Bool.and_eq_true, Bool.and_eq_false_iff, Bool.true_eq_false, Bool.false_eq_true, Bool.not_true, Bool.not_false, eq_self, D.len_l]; omega) ?_
                    refine To.no (by simp (disch := omega) only [X.den, X.dens, X.denss, D.int_i, D.boo_b, D.str_s, D.rows_l, List.getD_cons_zero, List.getD_cons_succ, List.cons_append, List.nil_append, List.append_nil, List.length_cons, List.length_nil, decide_eq_true_eq, decide_eq_false_iff_not, Bool.not_eq_true', Bool.not_eq_false', Bool.and_eq_true, Bool.and_eq_false_iff, Bool.true_eq_false, Bool.false_eq_true, Bool.not_true, Bool.not_false, eq_self, nf_def, wr64]; omega) ?_
                    refine To.no (by simp (disch := omega) only [X.den, X.dens, X.denss, D.int_i, D.boo_b, D.str_s, D.rows_l, List.getD_cons_zero, List.getD_cons_succ, List.cons_append, List.nil_append, List.append_nil, List.length_cons, List.length_nil, decide_eq_true_eq, decide_eq_false_iff_not, Bool.not_eq_true', Bool.not_eq_false', Bool.and_eq_true, Bool.and_eq_false_iff, Bool.true_eq_false, Bool.false_eq_true, Bool.not_true, Bool.not_false, eq_self, nf_def, wr64]; omega) ?_
                    refine To.ite (fun c => ?_) (fun c => ?_) <;> simp only [X.den, X.dens, X.denss, D.int_i, D.boo_b, D.str_s, D.rows_l, List.getD_cons_zero, List.getD_cons_succ, List.cons_append, List.nil_append, List.append_nil, List.length_cons, List.length_nil, decide_eq_true_eq, decide_eq_false_iff_not, Bool.not_eq_true', Bool.not_eq_false', Bool.and_eq_true, Bool.and_eq_false_iff, Bool.true_eq_false, Bool.false_eq_true, Bool.not_true, Bool.not_false, eq_self] at c
                    · have := se.2.2 c
                      refine To.ret ⟨rfl, ?_⟩
                      simp only [X.den, X.dens, X.denss, D.int_i, D.boo_b, D.str_s, D.rows_l, List.getD_cons_zero, List.getD_cons_succ, List.cons_append, List.nil_append, List.append_nil, List.length_cons, List.length_nil, nf_def]
                      rw [decide_eq_false (by omega)]
                    · exact To.ret ⟨rfl, by simp only [X.den, X.dens, X.denss, D.int_i, D.boo_b, D.str_s, D.rows_l, List.getD_cons_zero, List.getD_cons_succ, List.cons_append, List.nil_append, List.append_nil, List.length_cons, List.length_nil]⟩
                  · exact To.ret ⟨rfl, by simp only [X.den, X.dens, X.denss, D.int_i, D.boo_b, D.str_s, D.rows_l, List.getD_cons_zero, List.getD_cons_succ, List.cons_append, List.nil_append, List.append_nil, List.length_cons, List.length_nil]⟩
                rintro o ρ2 rfl eρ
                simp only [List.cons_append, List.nil_append] at eρ
                subst eρ
                refine To.no rfl (To.ret (.inl ⟨rfl, m2 - 1, by omega, ?_⟩))
                simp (disch := omega) only [X.den, X.dens, X.denss, D.int_i, D.boo_b, D.str_s, D.rows_l, List.getD_cons_zero, List.getD_cons_succ, List.cons_append, List.nil_append, List.append_nil, List.length_cons, List.length_nil, wr64]
                exact ⟨_, rfl, by omega, by omega⟩
              · exact To.ret (.inr ⟨rfl, _, _, _, by simp only [X.den, X.dens, X.denss, D.int_i, D.boo_b, D.str_s, D.rows_l, List.getD_cons_zero, List.getD_cons_succ, List.cons_append, List.nil_append, List.append_nil, List.length_cons, List.length_nil]; rfl, rfl⟩)
            · rintro o ρ2 ⟨r2, r3, rest, rfl, hr7⟩ eρ
              simp only [List.cons_append, List.nil_append] at eρ
              subst eρ
              exact ⟨by simp only [List.length_cons, hr7], To.no rfl (To.ret ⟨rfl, _, _, _, by simp only [X.den, X.dens, X.denss, D.int_i, D.boo_b, D.str_s, D.rows_l, List.getD_cons_zero, List.getD_cons_succ, List.cons_append, List.nil_append, List.append_nil, List.length_cons, List.length_nil]; rfl⟩)⟩
          rintro o ρ2 ⟨r1, r2, r3, rfl⟩ eρ
          simp only [List.cons_append, List.nil_append] at eρ
          subst eρ
          have s1 := zs k (by omega)
          have s2 := zs (k + 1) (by omega)
          simp only [sumf] at s2
          refine To.no rfl (To.ret (.inl ⟨rfl, m - 1, by omega, k + 1, ?_, by omega⟩))
          simp (disch := omega) only [X.den, X.dens, X.denss, D.int_i, D.boo_b, D.str_s, D.rows_l, List.getD_cons_zero, List.getD_cons_succ, List.cons_append, List.nil_append, List.append_nil, List.length_cons, List.length_nil, wr64, nf_def, nat_suc, sumf]
        · obtain rfl : k = l.length := by omega
          exact To.ret (.inr ⟨rfl, by simp only [X.den, X.dens, X.denss, D.int_i, D.boo_b, D.str_s, D.rows_l, List.getD_cons_zero, List.getD_cons_succ, List.cons_append, List.nil_append, List.append_nil, List.length_cons, List.length_nil]⟩)
      rintro o ρ2 rfl eρ
      simp only [List.cons_append, List.nil_append] at eρ
      subst eρ
      refine ⟨rfl, To.no rfl ?_⟩
      refine To.need (by simp only [X.den, X.dens, X.denss, D.int_i, D.boo_b, D.str_s, D.rows_l, List.getD_cons_zero, List.getD_cons_succ, List.cons_append, List.nil_append, List.append_nil, List.length_cons, List.length_nil, decide_eq_true_eq, decide_eq_false_iff_not, Bool.not_eq_true', Bool.not_eq_false', Bool.and_eq_true, Bool.and_eq_false_iff, Bool.true_eq_false, Bool.false_eq_true, Bool.not_true, Bool.not_false, eq_self, D.len_l]; omega) ?_
      refine To.viaK (by (try simp (disch := omega) only [X.den, X.dens, X.denss, D.int_i, D.boo_b, D.str_s, D.rows_l, List.getD_cons_zero, List.getD_cons_succ, List.cons_append, List.nil_append, List.append_nil, List.length_cons, List.length_nil, decide_eq_true_eq, decide_eq_false_iff_not, Bool.not_eq_true', Bool.not_eq_false', Bool.and_eq_true, Bool.and_eq_false_iff, Bool.true_eq_false, Bool.false_eq_true, Bool.not_true, Bool.not_false, eq_self, D.len_l, wr64, not_true_eq_false, not_false_eq_true, el]); exact srcN_to h2 (by omega) (by omega)) ?_
      rintro _ ρ2 ⟨i, t3, rfl, i0, i1, h3⟩ eρ
      refine ⟨rfl, ?_⟩
      simp only [List.cons_append, List.nil_append] at eρ
      subst eρ
      refine To.viaK (by (try simp (disch := omega) only [X.den, X.dens, X.denss, D.int_i, D.boo_b, D.str_s, D.rows_l, List.getD_cons_zero, List.getD_cons_succ, List.cons_append, List.nil_append, List.append_nil, List.length_cons, List.length_nil, decide_eq_true_eq, decide_eq_false_iff_not, Bool.not_eq_true', Bool.not_eq_false', Bool.and_eq_true, Bool.and_eq_false_iff, Bool.true_eq_false, Bool.false_eq_true, Bool.not_true, Bool.not_false, eq_self, D.len_l, wr64, not_true_eq_false, not_false_eq_true, el]); exact srcN_to h3 (by omega) (by omega)) ?_
      rintro _ ρ2 ⟨k, t4, rfl, k0, k1, h4⟩ eρ
      refine ⟨rfl, ?_⟩
      simp only [List.cons_append, List.nil_append] at eρ
      subst eρ
      refine To.need (by simp only [X.den, X.dens, X.denss, D.int_i, D.boo_b, D.str_s, D.rows_l, List.getD_cons_zero, List.getD_cons_succ, List.cons_append, List.nil_append, List.append_nil, List.length_cons, List.length_nil, decide_eq_true_eq, decide_eq_false_iff_not, Bool.not_eq_true', Bool.not_eq_false', Bool.and_eq_true, Bool.and_eq_false_iff, Bool.true_eq_false, Bool.false_eq_true, Bool.not_true, Bool.not_false, eq_self, D.len_l]; omega) ?_
      refine To.need (by simp only [X.den, X.dens, X.denss, D.int_i, D.boo_b, D.str_s, D.rows_l, List.getD_cons_zero, List.getD_cons_succ, List.cons_append, List.nil_append, List.append_nil, List.length_cons, List.length_nil, decide_eq_true_eq, decide_eq_false_iff_not, Bool.not_eq_true', Bool.not_eq_false', Bool.and_eq_true, Bool.and_eq_false_iff, Bool.true_eq_false, Bool.false_eq_true, Bool.not_true, Bool.not_false, eq_self, D.len_l]; omega) ?_
      refine To.joinK (fun o => o = [.b true]) ?_ ?_
      · refine To.yes (by simp only [X.den, X.dens, X.denss, D.int_i, D.boo_b, D.str_s, D.rows_l, List.getD_cons_zero, List.getD_cons_succ, List.cons_append, List.nil_append, List.append_nil, List.length_cons, List.length_nil, decide_eq_true_eq, decide_eq_false_iff_not, Bool.not_eq_true', Bool.not_eq_false', Bool.and_eq_true, Bool.and_eq_false_iff, Bool.true_eq_false, Bool.false_eq_true, Bool.not_true, Bool.not_false, eq_self]; exact sp.2.1) ?_
        refine To.ite (fun c => ?_) (fun c => ?_) <;> simp only [X.den, X.dens, X.denss, D.int_i, D.boo_b, D.str_s, D.rows_l, List.getD_cons_zero, List.getD_cons_succ, List.cons_append, List.nil_append, List.append_nil, List.length_cons, List.length_nil, decide_eq_true_eq, decide_eq_false_iff_not, Bool.not_eq_true', Bool.not_eq_false', Bool.and_eq_true, Bool.and_eq_false_iff, Bool.true_eq_false, Bool.false_eq_true, Bool.not_true, Bool.not_false, eq_self] at c
        · refine To.callK (l := [.b true]) rfl rfl _ (by simp only [List.cons_append, List.nil_append]; first | done | rfl) ?_
          exact To.ret ⟨rfl, by simp only [X.den, X.dens, X.denss, D.int_i, D.boo_b, D.str_s, D.rows_l, List.getD_cons_zero, List.getD_cons_succ, List.cons_append, List.nil_append, List.append_nil, List.length_cons, List.length_nil]⟩
        · have bi := zb i i0 i1
          have bk1 := zb k k0 k1
          have qi := qr i i0 i1
          have qk := qr k k0 k1
          have zi := zq i i0 i1
          have zk := zq k k0 k1
          obtain ⟨w, ew⟩ : ∃ w, put1 (put1 z i (nf z i + 2)) k (nf z k - 2) = w := ⟨_, rfl⟩
          have w1 : OneI (put1 z i (nf z i + 2)) := put1_one z1 i0 (by omega)
          have wl : w.length = l.length := by rw [← ew, put1_len, put1_len]; exact zl
          have wn : ∀ a : Int, 0 ≤ a → nf w a = if a = k then nf z k - 2 else if a = i then nf z i + 2 else nf z a := fun a a0 => by
            rw [← ew, put1_nf w1 k0 (by rw [put1_len]; omega) a0, put1_nf z1 i0 (by omega) a0]
          have wb : ∀ a : Int, 0 ≤ a → a < l.length → -1000000000000 ≤ nf w a ∧ nf w a ≤ 1000000000000 := fun a a0 a1 => by
            rw [wn a a0]
            have := zb a a0 a1
            split
            · omega
            · split
              · omega
              · exact this
          refine To.viaK (by (try simp (disch := omega) only [X.den, X.dens, X.denss, D.int_i, D.boo_b, D.str_s, D.rows_l, List.getD_cons_zero, List.getD_cons_succ, List.cons_append, List.nil_append, List.append_nil, List.length_cons, List.length_nil, decide_eq_true_eq, decide_eq_false_iff_not, Bool.not_eq_true', Bool.not_eq_false', Bool.and_eq_true, Bool.and_eq_false_iff, Bool.true_eq_false, Bool.false_eq_true, Bool.not_true, Bool.not_false, eq_self, D.len_l, wr64, not_true_eq_false, not_false_eq_true, nf_def, put1_def, ew]); exact check_to bk h0 wl wb) ?_
          rintro _ ρ2 ⟨b, rfl, hb⟩ eρ
          refine ⟨rfl, ?_⟩
          simp only [List.cons_append, List.nil_append] at eρ
          subst eρ
          have : b = false := by
            rw [Bool.eq_false_iff]
            intro q
            have := (hb.1 q).1 i i0 i1
            unfold GoodR at this
            rw [wn i i0, if_neg c, if_pos rfl] at this
            omega
          subst this
          refine To.no rfl ?_
          refine To.callK (l := [.b true]) rfl rfl _ (by simp only [List.cons_append, List.nil_append]; first | done | rfl) ?_
          exact To.ret ⟨rfl, by simp only [X.den, X.dens, X.denss, D.int_i, D.boo_b, D.str_s, D.rows_l, List.getD_cons_zero, List.getD_cons_succ, List.cons_append, List.nil_append, List.append_nil, List.length_cons, List.length_nil]⟩
      rintro o ρ2 rfl eρ
      simp only [List.cons_append, List.nil_append] at eρ
      subst eρ
      exact To.ret (by simp only [X.den, X.dens, X.denss, D.int_i, D.boo_b, D.str_s, D.rows_l, List.getD_cons_zero, List.getD_cons_succ, List.cons_append, List.nil_append, List.append_nil, List.length_cons, List.length_nil])
    · cases h
theorem BalanceShares_walk {w : World} (v : Value) (zs : List Int) (h : IntsIn w w.heap.size v .i64 zs) (hz : ∀ z ∈ zs, (Lit.int .i64 z).wf = true) : Calls Try.prog 13 #[v] w fun e w' => e = .returned (.bool true) ∧ Below w.heap.size w w' :=
  con_law BalanceShares_ok rfl (fun G hG => args_ints h hG (by trivial)) (by simp [baSha_K]) (ds := [numD zs]) rfl
end Go.Proofs.Ytlhnhidoljfnnaa
