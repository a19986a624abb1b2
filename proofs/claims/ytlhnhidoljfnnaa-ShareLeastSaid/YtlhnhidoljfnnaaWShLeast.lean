/- ShareLeast. -/
import Derived.Test.YtlhnhidoljfnnaaShrS
set_option linter.unusedVariables false
set_option linter.unusedSimpArgs false
namespace Go.Proofs.Ytlhnhidoljfnnaa
open Go.RowKit Fx Sh
def shLea_H : List Hint := [
  ⟨1081989810477854459, 13, [], ⟨[.und, .und, .bool (.B false), .ptr 0 0, .var 2, .int .i64 (.wr .i64 (.add (.N (-30)) (.V 4))), .var 5, .int .i64 (.V 8), .und, .int .i64 (.V 11), .int .i64 (.V 12), .int .i64 (.V 13), .und, .und, .und, .und, .und, .und, .und, .und, .und, .und, .und, .und, .und, .und, .und, .und, .und, .und, .und, .und, .und, .und, .und, .und, .und, .und, .und, .und, .und, .und, .und, .und, .und, .und, .und, .und, .und, .und, .und, .und, .und, .und, .und, .und, .var 5, .int .i64 (.len (.V 7)), .int .i64 (.V 14), .und, .und, .und, .und, .und, .und, .und, .und, .und, .und, .und, .und, .und, .und, .und, .und, .und, .und, .und, .und, .und, .und, .und, .und, .und, .und, .und, .und, .und, .und, .und, .und, .und, .und, .und, .und, .und, .und, .und, .und, .und, .und, .und, .und, .und, .und, .und, .und, .und, .und, .und, .und, .und, .und, .und, .und, .und, .und, .und, .und, .und, .und, .und, .und, .und, .und, .und, .und, .und, .und, .und, .und, .und, .und, .und, .und, .und, .und, .und, .und, .und, .und, .und, .und, .und, .und, .und, .und, .und, .und, .und, .und, .und, .und, .und, .und, .und, .und, .und, .und, .und, .und, .und, .und, .und, .und, .und, .und, .und, .und, .und], [.fix [.var 4, .int .i64 (.V 6)] true], 15, 6, [none, none, none, none, none, none, none, none, none, none, none, none, none, none, none], [], [⟨0, [.int .i64], (.V 0)⟩, ⟨1, [.int .i64], (.take (.V 0) (.mn (.len (.V 0)) (.N 600)))⟩, ⟨2, [.int .i64, .int .i64, .int .i64], (.V 1)⟩, ⟨3, [.int .i64], (.V 2)⟩, ⟨4, [.int .i64], (.V 5)⟩, ⟨5, [.int .i64], (.V 7)⟩]⟩⟩,
  ⟨1125899908792892, 15, [], ⟨[.und, .und, .bool (.B false), .ptr 0 0, .var 2, .int .i64 (.wr .i64 (.add (.N (-30)) (.V 4))), .und, .und, .und, .int .i64 (.V 11), .und, .und, .und, .und, .var 6, .int .i64 (.V 18), .und, .und, .und, .und, .und, .und, .und, .und, .und, .und, .und, .und, .und, .und, .und, .und, .und, .und, .und, .und, .und, .und, .und, .und, .und, .und, .und, .und, .und, .und, .und, .und, .und, .und, .und, .und, .und, .und, .und, .und, .und, .und, .und, .und, .und, .und, .und, .und, .und, .und, .und, .und, .und, .und, .und, .und, .und, .und, .und, .und, .und, .und, .und, .und, .und, .und, .und, .und, .und, .und, .und, .und, .und, .und, .und, .und, .und, .und, .und, .und, .und, .und, .und, .und, .und, .und, .und, .und, .und, .und, .und, .und, .und, .und, .und, .und, .und, .und, .und, .und, .und, .und, .und, .und, .und, .und, .und, .und, .und, .und, .und, .und, .und, .und, .und, .und, .und, .und, .und, .und, .und, .und, .und, .und, .und, .und, .und, .und, .und, .und, .und, .und, .und, .und, .und, .und, .und, .und, .und, .und, .und, .und, .und, .und, .und, .und, .und, .und, .und, .und, .und, .und, .und, .und], [.fix [.var 7, .int .i64 (.V 17)] true, .rows [.int .i64] (.V 15) 6], 19, 8, [none, none, none, none, none, none, none, none, none, none, none, none, none, none, none, none, none, none, none], [], [⟨0, [.int .i64], (.V 0)⟩, ⟨1, [.int .i64], (.take (.V 0) (.mn (.len (.V 0)) (.N 600)))⟩, ⟨2, [.int .i64, .int .i64, .int .i64], (.V 1)⟩, ⟨3, [.int .i64], (.V 2)⟩, ⟨4, [.int .i64], (.V 5)⟩, ⟨5, [.int .i64], (.V 7)⟩, ⟨7, [.int .i64], (.V 16)⟩]⟩⟩]
def shLea_K : Con := ⟨4, [.val false [.sl [.int .i64]]], [.val false [.bool]], []⟩
def shLea_T : T (List X) :=
  (.need (.not (.lt (.len (.V 0)) (.mn (.len (.V 0)) (.N 600))))
  (.call 16 [(.take (.V 0) (.mn (.len (.V 0)) (.N 600))), (.N 0), (.N 4)] 3
   (.call 26 [(.V 2), (.V 3), (.N 71)] 3
    (.call 23 [(.V 1), (.wr .i64 (.add (.N (-30)) (.V 4)))] 3
     (.sub (.ite (.eq (.V 9) (.N 0))
       (.ite (.eq (.len (.V 7)) (.len (.V 1)))
        (.call 31 [(.V 1), (.wr .i64 (.add (.N (-30)) (.V 4))), (.V 7)] 1
         (.ret [(.not (.V 10))]))
        (.ret [(.B true)]))
       (.ret [(.B true)])) 1
      (.ite (.V 10)
       (.ret [(.B false)])
       (.call 27 [(.V 1), (.V 7)] 2
        (.loop [(.N 0), (.N 0)]
         (.ite (.lt (.V 14) (.len (.V 7)))
          (.need (.and (.not (.lt (.V 14) (.N 0))) (.lt (.V 14) (.len (.V 7))))
           (.ret (true, [(.wr .i64 (.add (.V 13) (.at (.V 7) (.V 14) 0))), (.wr .i64 (.add (.V 14) (.N 1)))])))
          (.ret (false, [(.V 13)]))) 1
         (.sub (.ite (.eq (.V 12) (.N 0))
           (.ret [(.not (.eq (.wr .i64 (.add (.V 13) (.V 8))) (.wr .i64 (.add (.N (-30)) (.V 4)))))])
           (.ret [(.B true)])) 1
          (.ite (.V 14)
           (.ret [(.B false)])
           (.need (.not (.lt (.N 17592186044416) (.len (.V 7))))
            (.loop [(.V 7), (.V 5), (.V 6), (.N 0)]
             (.sub (.ite (.lt (.V 18) (.N 12))
               (.ret [(.lt (.N 1) (.len (.V 1)))])
               (.ret [(.B false)])) 1
              (.ite (.V 19)
               (.sub (.call 26 [(.V 16), (.V 17), (.len (.V 1))] 3
                 (.call 26 [(.V 21), (.V 22), (.len (.V 1))] 3
                  (.call 26 [(.V 24), (.V 25), (.N 4)] 3
                   (.sub (.ite (.eq (.V 20) (.V 23))
                     (.ret [(.B true), (.B true), (.B true)])
                     (.need (.and (.not (.lt (.V 20) (.N 0))) (.lt (.V 20) (.len (.V 15))))
                      (.need (.and (.not (.lt (.V 20) (.N 0))) (.lt (.V 20) (.len (.V 1))))
                       (.ite (.lt (.wr .i64 (.sub (.at (.V 15) (.V 20) 0) (.V 26))) (.at (.V 1) (.V 20) 0))
                        (.ret [(.lt (.wr .i64 (.sub (.at (.V 15) (.V 20) 0) (.V 26))) (.at (.V 1) (.V 20) 0)), (.lt (.wr .i64 (.sub (.at (.V 15) (.V 20) 0) (.V 26))) (.at (.V 1) (.V 20) 0)), (.B true)])
                        (.need (.and (.not (.lt (.V 23) (.N 0))) (.lt (.V 23) (.len (.V 15))))
                         (.need (.and (.not (.lt (.V 23) (.N 0))) (.lt (.V 23) (.len (.V 1))))
                          (.ret [(.lt (.wr .i64 (.sub (.at (.V 15) (.V 20) 0) (.V 26))) (.at (.V 1) (.V 20) 0)), (.lt (.wr .i64 (.sub (.at (.V 15) (.V 20) 0) (.V 26))) (.at (.V 1) (.V 20) 0)), (.lt (.at (.V 1) (.V 23) 1) (.wr .i64 (.add (.at (.V 15) (.V 23) 0) (.V 26))))]))))))) 3
                    (.ite (.V 31)
                     (.ret [(.N 1), (.V 15), (.V 27), (.V 28), (.V 20), (.V 23), (.V 26), (.V 20), (.V 23), (.V 26), (.V 20), (.V 23), (.eq (.V 20) (.V 23)), (.eq (.V 20) (.V 23)), (.V 29), (.V 30), (.V 31), (.N 0), (.N 0), (.N 0), (.N 0), (.N 0), (.N 0), (.N 0), (.N 0), (.N 0), (.N 0), (.N 0), (.N 0), (.N 0), (.N 0), (.N 0), (.N 0), (.N 0), (.N 0), (.N 0), (.N 0), (.N 0), (.N 0), (.N 0), (.N 0)])
                     (.need (.and (.not (.lt (.V 20) (.N 0))) (.lt (.V 20) (.len (.V 15))))
                      (.need (.and (.not (.lt (.V 23) (.N 0))) (.lt (.V 23) (.len (.V 15))))
                       (.call 27 [(.V 1), (.put (.put (.V 15) (.V 20) 0 (.wr .i64 (.sub (.at (.V 15) (.V 20) 0) (.V 26)))) (.V 23) 0 (.wr .i64 (.add (.at (.V 15) (.V 23) 0) (.V 26))))] 2
                        (.sub (.ite (.eq (.V 33) (.N 0))
                          (.ite (.lt (.V 32) (.V 11))
                           (.ret [(.lt (.V 32) (.V 11)), (.lt (.V 32) (.V 11)), (.B true)])
                           (.call 31 [(.V 1), (.wr .i64 (.add (.N (-30)) (.V 4))), (.put (.put (.V 15) (.V 20) 0 (.wr .i64 (.sub (.at (.V 15) (.V 20) 0) (.V 26)))) (.V 23) 0 (.wr .i64 (.add (.at (.V 15) (.V 23) 0) (.V 26))))] 1
                            (.ite (.V 34)
                             (.ret [(.lt (.V 32) (.V 11)), (.lt (.V 32) (.V 11)), (.lt (.V 11) (.V 32))])
                             (.ret [(.lt (.V 32) (.V 11)), (.lt (.V 32) (.V 11)), (.B false)]))))
                          (.ret [(.B true), (.B true), (.B true)])) 3
                         (.ite (.V 36)
                          (.ret [(.N 0), (.put (.put (.V 15) (.V 20) 0 (.wr .i64 (.sub (.at (.V 15) (.V 20) 0) (.V 26)))) (.V 23) 0 (.wr .i64 (.add (.at (.V 15) (.V 23) 0) (.V 26)))), (.V 27), (.V 28), (.V 20), (.V 23), (.V 26), (.V 32), (.V 33), (.V 20), (.V 23), (.V 26), (.V 20), (.V 23), (.eq (.V 20) (.V 23)), (.eq (.V 20) (.V 23)), (.V 29), (.V 30), (.V 31), (.V 20), (.V 23), (.V 20), (.at (.V 15) (.V 20) 0), (.V 26), (.wr .i64 (.sub (.at (.V 15) (.V 20) 0) (.V 26))), (.V 23), (.at (.V 15) (.V 23) 0), (.V 26), (.wr .i64 (.add (.at (.V 15) (.V 23) 0) (.V 26))), (.V 32), (.V 33), (.V 32), (.V 33), (.V 32), (.V 33), (.V 33), (.not (.eq (.V 33) (.N 0))), (.not (.eq (.V 33) (.N 0))), (.V 34), (.V 35), (.V 36)])
                          (.ret [(.N 1), (.put (.put (.V 15) (.V 20) 0 (.wr .i64 (.sub (.at (.V 15) (.V 20) 0) (.V 26)))) (.V 23) 0 (.wr .i64 (.add (.at (.V 15) (.V 23) 0) (.V 26)))), (.V 27), (.V 28), (.V 20), (.V 23), (.V 26), (.V 20), (.V 23), (.V 26), (.V 20), (.V 23), (.eq (.V 20) (.V 23)), (.eq (.V 20) (.V 23)), (.V 29), (.V 30), (.V 31), (.N 0), (.N 0), (.N 0), (.N 0), (.N 0), (.N 0), (.N 0), (.N 0), (.N 0), (.N 0), (.N 0), (.N 0), (.N 0), (.N 0), (.N 0), (.N 0), (.N 0), (.N 0), (.N 0), (.N 0), (.N 0), (.N 0), (.N 0), (.N 0)]))))))))))) 41
                (.ite (.eq (.V 20) (.N 0))
                 (.ret (false, [(.N 0), (.V 21), (.V 22), (.V 23)]))
                 (.ret (true, [(.V 21), (.V 22), (.V 23), (.wr .i64 (.add (.V 18) (.N 1)))]))))
               (.ret (false, [(.N 1), (.V 15), (.V 16), (.V 17)])))) 4
             (.ite (.eq (.V 15) (.N 0))
              (.ret [(.B false)])
              (.call 14 [] 1
               (.ret [(.V 19)])))))))))))))))
set_option maxRecDepth 100000 in
theorem shLea_t : runS Try.prog [srcN_K.to [], srcShares_K.to [], shDivide_K.to [], shSum_K.to [], shCheck_K.to [], sane13_K.to []] [(4, shLea_H)] shLea_K = shLea_T := by kernel_rfl
theorem suS_in {l y : List (List D)} (hv : vd l = 0) (hy : InR l y) : suS l y = (sumf (cost l y) l.length, 0) := by rw [suS, if_pos hv, if_pos hy.1, if_pos (inr_true.2 hy)]
theorem ShareLeast_ok : ConOk Try.prog shLea_K fun ds => match ds with | [.l _] => some [.b true] | _ => none :=
  con_of follows (M := l13M) (one_con (srcN_ok.to _) (one_con (srcShares_ok.to _) (one_con (shDivide_ok.to _) (one_con (shSum_ok.to _) (one_con (shCheck_ok.to _) (one_con (sane13_ok.to _) no_cons)))))) shLea_t fun ds outs hl h => by
    split at h
    · rename_i rows
      injection h with h
      subst h
      refine ⟨fun i l h k => by simp [shLea_K] at k, 30, ?_⟩
      unfold shLea_T
      refine To.need (by simp only [X.den, X.dens, X.denss, D.int_i, D.boo_b, D.str_s, D.rows_l, List.getD_cons_zero, List.getD_cons_succ, List.cons_append, List.nil_append, List.append_nil, List.length_cons, List.length_nil, decide_eq_true_eq, decide_eq_false_iff_not, Bool.not_eq_true', Bool.not_eq_false', Bool.and_eq_true, Bool.and_eq_false_iff, Bool.true_eq_false, Bool.false_eq_true, Bool.not_true, Bool.not_false, eq_self, D.len_l]; omega) ?_
      refine To.viaK (by (try simp (disch := omega) only [X.den, X.dens, X.denss, D.int_i, D.boo_b, D.str_s, D.rows_l, List.getD_cons_zero, List.getD_cons_succ, List.cons_append, List.nil_append, List.append_nil, List.length_cons, List.length_nil, decide_eq_true_eq, decide_eq_false_iff_not, Bool.not_eq_true', Bool.not_eq_false', Bool.and_eq_true, Bool.and_eq_false_iff, Bool.true_eq_false, Bool.false_eq_true, Bool.not_true, Bool.not_false, eq_self, D.len_l, wr64, not_true_eq_false, not_false_eq_true]); exact srcShares_to src_take13 (by omega) (by omega)) ?_
      rintro _ ρ2 ⟨l, t1, rfl, hn, hf, h1⟩ eρ
      refine ⟨rfl, ?_⟩
      simp only [List.cons_append, List.nil_append] at eρ
      subst eρ
      generalize List.take (min (min (rows.length : Int) 9223372036854775807) 600).toNat rows = src at *
      have h8 : l.length ≤ 8 := by omega
      have hv := shRow_vd hf h8
      have hok : ∀ i : Int, 0 ≤ i → i < l.length → okS l i := fun i a b => (shRow_ok hf a b).1
      have hc : ∀ i : Int, 0 ≤ i → i < l.length → 1 ≤ ce l 2 i := fun i a b => by have := hok i a b; simp only [okS] at this; omega
      have lohi : sumf (ce l 0) l.length ≤ sumf (ce l 1) l.length := sumf_le fun i a b => by have := hok i a b; simp only [okS] at this; omega
      obtain ⟨b0, b1, b01⟩ := reS_rng hf h8
      refine To.viaK (by (try simp (disch := omega) only [X.den, X.dens, X.denss, D.int_i, D.boo_b, D.str_s, D.rows_l, List.getD_cons_zero, List.getD_cons_succ, List.cons_append, List.nil_append, List.append_nil, List.length_cons, List.length_nil, decide_eq_true_eq, decide_eq_false_iff_not, Bool.not_eq_true', Bool.not_eq_false', Bool.and_eq_true, Bool.and_eq_false_iff, Bool.true_eq_false, Bool.false_eq_true, Bool.not_true, Bool.not_false, eq_self, D.len_l, wr64, not_true_eq_false, not_false_eq_true]); exact srcN_to h1 (by omega) (by omega)) ?_
      rintro _ ρ2 ⟨n, t2, rfl, p2, q2, h2⟩ eρ
      refine ⟨rfl, ?_⟩
      simp only [List.cons_append, List.nil_append] at eρ
      subst eρ
      obtain ⟨t, et⟩ : ∃ t, -30 + n = t := ⟨_, rfl⟩
      refine To.viaK (by (try simp (disch := omega) only [X.den, X.dens, X.denss, D.int_i, D.boo_b, D.str_s, D.rows_l, List.getD_cons_zero, List.getD_cons_succ, List.cons_append, List.nil_append, List.append_nil, List.length_cons, List.length_nil, decide_eq_true_eq, decide_eq_false_iff_not, Bool.not_eq_true', Bool.not_eq_false', Bool.and_eq_true, Bool.and_eq_false_iff, Bool.true_eq_false, Bool.false_eq_true, Bool.not_true, Bool.not_false, eq_self, D.len_l, wr64, not_true_eq_false, not_false_eq_true, et]); exact divide_gen (t := t) hv (by omega) (by omega)) ?_
      rintro _ ρ2 ⟨x, rfl, x1, xl, xr, xs, xL⟩ eρ
      refine ⟨rfl, ?_⟩
      simp only [List.cons_append, List.nil_append] at eρ
      subst eρ
      have inx : InR l x := ⟨xl, xr⟩
      have hchk : chk l t x = true := chk_true.2 ⟨⟨hv, inx, xs⟩, xL.noMove⟩
      have gb : -100 ≤ goal l t ∧ goal l t ≤ 200 := by unfold goal; omega
      refine To.joinK (fun o => o = [.b false]) ?_ ?_
      · refine To.yes rfl (To.yes (by simp only [X.den, X.dens, X.denss, D.int_i, D.boo_b, D.str_s, D.rows_l, List.getD_cons_zero, List.getD_cons_succ, List.cons_append, List.nil_append, List.append_nil, List.length_cons, List.length_nil, decide_eq_true_eq, decide_eq_false_iff_not, Bool.not_eq_true', Bool.not_eq_false', Bool.and_eq_true, Bool.and_eq_false_iff, Bool.true_eq_false, Bool.false_eq_true, Bool.not_true, Bool.not_false, eq_self, D.len_l]; omega) ?_)
        refine To.viaK (by (try simp (disch := omega) only [X.den, X.dens, X.denss, D.int_i, D.boo_b, D.str_s, D.rows_l, List.getD_cons_zero, List.getD_cons_succ, List.cons_append, List.nil_append, List.append_nil, List.length_cons, List.length_nil, decide_eq_true_eq, decide_eq_false_iff_not, Bool.not_eq_true', Bool.not_eq_false', Bool.and_eq_true, Bool.and_eq_false_iff, Bool.true_eq_false, Bool.false_eq_true, Bool.not_true, Bool.not_false, eq_self, D.len_l, wr64, not_true_eq_false, not_false_eq_true, et]); exact check_gen (l := l) (x := x) (t := t)) ?_
        rintro _ ρ2 rfl eρ
        refine ⟨rfl, ?_⟩
        simp only [List.cons_append, List.nil_append] at eρ
        subst eρ
        refine To.ret ⟨rfl, ?_⟩
        simp only [X.den, X.dens, X.denss, D.int_i, D.boo_b, D.str_s, D.rows_l, List.getD_cons_zero, List.getD_cons_succ, List.cons_append, List.nil_append, List.append_nil, List.length_cons, List.length_nil, hchk]
        rfl
      rintro o ρ2 rfl eρ
      simp only [List.cons_append, List.nil_append] at eρ
      subst eρ
      refine To.no rfl ?_
      have su := suS_in hv inx
      refine To.viaK (by (try simp (disch := omega) only [X.den, X.dens, X.denss, D.int_i, D.boo_b, D.str_s, D.rows_l, List.getD_cons_zero, List.getD_cons_succ, List.cons_append, List.nil_append, List.append_nil, List.length_cons, List.length_nil, decide_eq_true_eq, decide_eq_false_iff_not, Bool.not_eq_true', Bool.not_eq_false', Bool.and_eq_true, Bool.and_eq_false_iff, Bool.true_eq_false, Bool.false_eq_true, Bool.not_true, Bool.not_false, eq_self, D.len_l, wr64, not_true_eq_false, not_false_eq_true]); exact sum_gen (l := l) (x := x)) ?_
      rintro _ ρ2 rfl eρ
      refine ⟨rfl, ?_⟩
      simp only [List.cons_append, List.nil_append] at eρ
      subst eρ
      rw [su]
      have cb := sumf_bound (f := cost l x) (a := 0) (b := 2500000000) (n := l.length) fun i a b => (cost_rng (hok i a b) (xr i a b)).2
      have sx : ∀ k : Nat, k ≤ l.length → -5000 * (k : Int) ≤ sumf (ce x 0) k ∧ sumf (ce x 0) k ≤ 5000 * k := fun k hk => sumf_bound fun i i0 i1 => by
        have a := hok i i0 (by omega)
        have b := xr i i0 (by omega)
        simp only [okS] at a
        omega
      refine To.loopK (fun m o => ∃ k : Nat, o = [.i (sumf (ce x 0) k), .i k] ∧ k + m = l.length) (fun o => o = [.i (sumf (ce x 0) l.length)]) l.length (by omega) ?_ ?_ ?_
      · exact ⟨0, rfl, by omega⟩
      · rintro m o ρ2 ⟨k, rfl, hk⟩ eρ
        simp only [List.cons_append, List.nil_append] at eρ
        subst eρ
        refine To.ite (fun c => ?_) (fun c => ?_) <;> simp only [X.den, X.dens, X.denss, D.int_i, D.boo_b, D.str_s, D.rows_l, List.getD_cons_zero, List.getD_cons_succ, List.cons_append, List.nil_append, List.append_nil, List.length_cons, List.length_nil, decide_eq_true_eq, decide_eq_false_iff_not, Bool.not_eq_true', Bool.not_eq_false', Bool.and_eq_true, Bool.and_eq_false_iff, Bool.true_eq_false, Bool.false_eq_true, Bool.not_true, Bool.not_false, eq_self, D.len_l] at c
        · refine To.need (by simp only [X.den, X.dens, X.denss, D.int_i, D.boo_b, D.str_s, D.rows_l, List.getD_cons_zero, List.getD_cons_succ, List.cons_append, List.nil_append, List.append_nil, List.length_cons, List.length_nil, decide_eq_true_eq, decide_eq_false_iff_not, Bool.not_eq_true', Bool.not_eq_false', Bool.and_eq_true, Bool.and_eq_false_iff, Bool.true_eq_false, Bool.false_eq_true, Bool.not_true, Bool.not_false, eq_self, D.len_l]; omega) ?_
          have b := sx k (by omega)
          have b2 := sx (k + 1) (by omega)
          simp only [sumf] at b2
          refine To.ret (.inl ⟨rfl, m - 1, by omega, k + 1, ?_, by omega⟩)
          simp (disch := omega) only [X.den, X.dens, X.denss, D.int_i, D.boo_b, D.str_s, D.rows_l, List.getD_cons_zero, List.getD_cons_succ, List.cons_append, List.nil_append, List.append_nil, List.length_cons, List.length_nil, wr64, ce_def, sumf, nat_succ]
        · obtain rfl : k = l.length := by omega
          exact To.ret (.inr ⟨rfl, by simp only [X.den, X.dens, X.denss, D.int_i, D.boo_b, D.str_s, D.rows_l, List.getD_cons_zero, List.getD_cons_succ, List.cons_append, List.nil_append, List.append_nil, List.length_cons, List.length_nil]⟩)
      rintro o ρ2 rfl eρ
      simp only [List.cons_append, List.nil_append] at eρ
      subst eρ
      refine ⟨rfl, ?_⟩
      rw [xs]
      refine To.joinK (fun o => o = [.b false]) ?_ ?_
      · refine To.yes rfl (To.ret ⟨rfl, ?_⟩)
        simp (disch := omega) only [X.den, X.dens, X.denss, D.int_i, D.boo_b, D.str_s, D.rows_l, List.getD_cons_zero, List.getD_cons_succ, List.cons_append, List.nil_append, List.append_nil, List.length_cons, List.length_nil, wr64, et]
        rw [decide_eq_true (by omega)]
        rfl
      rintro o ρ2 rfl eρ
      simp only [List.cons_append, List.nil_append] at eρ
      subst eρ
      refine To.no rfl (To.need (by simp only [X.den, X.dens, X.denss, D.int_i, D.boo_b, D.str_s, D.rows_l, List.getD_cons_zero, List.getD_cons_succ, List.cons_append, List.nil_append, List.append_nil, List.length_cons, List.length_nil, decide_eq_true_eq, decide_eq_false_iff_not, Bool.not_eq_true', Bool.not_eq_false', Bool.and_eq_true, Bool.and_eq_false_iff, Bool.true_eq_false, Bool.false_eq_true, Bool.not_true, Bool.not_false, eq_self, D.len_l]; omega) ?_)
      refine To.loopK (fun m o => ∃ (y : List (List D)) (at_ k : Int), o = [.l y, .l src, .i at_, .i k] ∧ SrcOk src at_ ∧ 0 ≤ k ∧ k + m = 12 ∧ One y ∧ InR l y ∧ sumf (ce y 0) l.length = goal l t) (fun o => ∃ a b c : D, o = [.i 1, a, b, c]) 12 (by omega) ?_ ?_ ?_
      · exact ⟨x, t2, 0, by simp only [X.den, X.dens, X.denss, D.int_i, D.boo_b, D.str_s, D.rows_l, List.getD_cons_zero, List.getD_cons_succ, List.cons_append, List.nil_append, List.append_nil, List.length_cons, List.length_nil, X.denss, List.nil_append, List.append_nil], h2, by omega, by omega, x1, inx, xs⟩
      · rintro m o ρ2 ⟨y, at_, k, rfl, hs, k0, k1, y1, iny, ys⟩ eρ
        simp only [List.cons_append, List.nil_append] at eρ
        subst eρ
        obtain ⟨yl, yr⟩ := iny
        refine To.joinK (fun o => ∃ b, o = [.b b] ∧ (b = true ↔ (k < 12 ∧ 1 < l.length))) ?_ ?_
        · refine To.ite (fun c => ?_) (fun c => ?_) <;> simp only [X.den, X.dens, X.denss, D.int_i, D.boo_b, D.str_s, D.rows_l, List.getD_cons_zero, List.getD_cons_succ, List.cons_append, List.nil_append, List.append_nil, List.length_cons, List.length_nil, decide_eq_true_eq, decide_eq_false_iff_not, Bool.not_eq_true', Bool.not_eq_false', Bool.and_eq_true, Bool.and_eq_false_iff, Bool.true_eq_false, Bool.false_eq_true, Bool.not_true, Bool.not_false, eq_self] at c
          · refine To.ret ⟨rfl, decide (1 < min (l.length : Int) 9223372036854775807), by simp only [X.den, X.dens, X.denss, D.int_i, D.boo_b, D.str_s, D.rows_l, List.getD_cons_zero, List.getD_cons_succ, List.cons_append, List.nil_append, List.append_nil, List.length_cons, List.length_nil, D.len_l], ?_⟩
            rw [decide_eq_true_eq]
            exact ⟨fun _ => ⟨c, by omega⟩, fun _ => by omega⟩
          · refine To.ret ⟨rfl, _, by simp only [X.den, X.dens, X.denss, D.int_i, D.boo_b, D.str_s, D.rows_l, List.getD_cons_zero, List.getD_cons_succ, List.cons_append, List.nil_append, List.append_nil, List.length_cons, List.length_nil]; rfl, ?_⟩
            simp only [decide_eq_true_eq, decide_eq_false_iff_not, Bool.not_eq_true', Bool.not_eq_false', Bool.and_eq_true, Bool.and_eq_false_iff, Bool.true_eq_false, Bool.false_eq_true, Bool.not_true, Bool.not_false, eq_self, false_iff]
            omega
        rintro o ρ2 ⟨b, rfl, hb⟩ eρ
        simp only [List.cons_append, List.nil_append] at eρ
        subst eρ
        refine To.ite (fun ct => ?_) (fun ct => ?_) <;> simp only [X.den, X.dens, X.denss, D.int_i, D.boo_b, D.str_s, D.rows_l, List.getD_cons_zero, List.getD_cons_succ, List.cons_append, List.nil_append, List.append_nil, List.length_cons, List.length_nil] at ct
        · obtain ⟨k12, l1⟩ := hb.1 ct
          have el : min (l.length : Int) 9223372036854775807 = l.length := by omega
          refine To.joinK (fun o => ∃ (y : List (List D)) (at_ : Int) (rest : List D), o = .i 1 :: .l y :: .l src :: .i at_ :: rest ∧ rest.length = 37 ∧ SrcOk src at_ ∧ One y ∧ InR l y ∧ sumf (ce y 0) l.length = goal l t) ?_ ?_
          · refine To.viaK (by (try simp (disch := omega) only [X.den, X.dens, X.denss, D.int_i, D.boo_b, D.str_s, D.rows_l, List.getD_cons_zero, List.getD_cons_succ, List.cons_append, List.nil_append, List.append_nil, List.length_cons, List.length_nil, decide_eq_true_eq, decide_eq_false_iff_not, Bool.not_eq_true', Bool.not_eq_false', Bool.and_eq_true, Bool.and_eq_false_iff, Bool.true_eq_false, Bool.false_eq_true, Bool.not_true, Bool.not_false, eq_self, D.len_l, wr64, not_true_eq_false, not_false_eq_true, el]); exact srcN_to hs (by omega) (by omega)) ?_
            rintro _ ρ2 ⟨i, t3, rfl, i0, i1, h3⟩ eρ
            refine ⟨rfl, ?_⟩
            simp only [List.cons_append, List.nil_append] at eρ
            subst eρ
            refine To.viaK (by (try simp (disch := omega) only [X.den, X.dens, X.denss, D.int_i, D.boo_b, D.str_s, D.rows_l, List.getD_cons_zero, List.getD_cons_succ, List.cons_append, List.nil_append, List.append_nil, List.length_cons, List.length_nil, decide_eq_true_eq, decide_eq_false_iff_not, Bool.not_eq_true', Bool.not_eq_false', Bool.and_eq_true, Bool.and_eq_false_iff, Bool.true_eq_false, Bool.false_eq_true, Bool.not_true, Bool.not_false, eq_self, D.len_l, wr64, not_true_eq_false, not_false_eq_true, el]); exact srcN_to h3 (by omega) (by omega)) ?_
            rintro _ ρ2 ⟨j, t4, rfl, j0, j1, h4⟩ eρ
            refine ⟨rfl, ?_⟩
            simp only [List.cons_append, List.nil_append] at eρ
            subst eρ
            refine To.viaK (by (try simp (disch := omega) only [X.den, X.dens, X.denss, D.int_i, D.boo_b, D.str_s, D.rows_l, List.getD_cons_zero, List.getD_cons_succ, List.cons_append, List.nil_append, List.append_nil, List.length_cons, List.length_nil, decide_eq_true_eq, decide_eq_false_iff_not, Bool.not_eq_true', Bool.not_eq_false', Bool.and_eq_true, Bool.and_eq_false_iff, Bool.true_eq_false, Bool.false_eq_true, Bool.not_true, Bool.not_false, eq_self, D.len_l, wr64, not_true_eq_false, not_false_eq_true]); exact srcN_to h4 (by omega) (by omega)) ?_
            rintro _ ρ2 ⟨d, t5, rfl, d0, d1, h5⟩ eρ
            refine ⟨rfl, ?_⟩
            simp only [List.cons_append, List.nil_append] at eρ
            subst eρ
            have oi := hok i i0 i1
            have oj := hok j j0 j1
            have ri := yr i i0 i1
            have rj := yr j j0 j1
            simp only [okS] at oi oj
            refine To.joinK (fun o => ∃ a b c, o = [a, b, .b c] ∧ (c = false → i ≠ j ∧ ce l 0 i ≤ ce y 0 i - d ∧ ce y 0 j + d ≤ ce l 1 j)) ?_ ?_
            · (repeat' (first
                | (refine To.need (by simp only [X.den, X.dens, X.denss, D.int_i, D.boo_b, D.str_s, D.rows_l, List.getD_cons_zero, List.getD_cons_succ, List.cons_append, List.nil_append, List.append_nil, List.length_cons, List.length_nil, decide_eq_true_eq, decide_eq_false_iff_not, Bool.not_eq_true', Bool.not_eq_false', Bool.and_eq_true, Bool.and_eq_false_iff, Bool.true_eq_false, Bool.false_eq_true, Bool.not_true, Bool.not_false, eq_self, D.len_l]; omega) ?_)
                | (refine To.ite (fun c => ?_) (fun c => ?_) <;> simp (disch := omega) only [X.den, X.dens, X.denss, D.int_i, D.boo_b, D.str_s, D.rows_l, List.getD_cons_zero, List.getD_cons_succ, List.cons_append, List.nil_append, List.append_nil, List.length_cons, List.length_nil, decide_eq_true_eq, decide_eq_false_iff_not, Bool.not_eq_true', Bool.not_eq_false', Bool.and_eq_true, Bool.and_eq_false_iff, Bool.true_eq_false, Bool.false_eq_true, Bool.not_true, Bool.not_false, eq_self, D.len_l, ce_def, wr64] at c)))
              all_goals (refine To.ret ⟨rfl, _, _, _, rfl, fun hc => ?_⟩; (try simp (disch := omega) only [X.den, X.dens, X.denss, D.int_i, D.boo_b, D.str_s, D.rows_l, List.getD_cons_zero, List.getD_cons_succ, List.cons_append, List.nil_append, List.append_nil, List.length_cons, List.length_nil, decide_eq_true_eq, decide_eq_false_iff_not, Bool.not_eq_true', Bool.not_eq_false', Bool.and_eq_true, Bool.and_eq_false_iff, Bool.true_eq_false, Bool.false_eq_true, Bool.not_true, Bool.not_false, eq_self, ce_def, wr64] at hc) <;> omega)
            rintro o ρ2 ⟨a1, a2, b1, rfl, hb1⟩ eρ
            simp only [List.cons_append, List.nil_append] at eρ
            subst eρ
            refine To.ite (fun c2 => ?_) (fun c2 => ?_) <;> simp only [X.den, X.dens, X.denss, D.int_i, D.boo_b, D.str_s, D.rows_l, List.getD_cons_zero, List.getD_cons_succ, List.cons_append, List.nil_append, List.append_nil, List.length_cons, List.length_nil] at c2
            · exact To.ret ⟨rfl, y, t5, _, by simp only [X.den, X.dens, X.denss, D.int_i, D.boo_b, D.str_s, D.rows_l, List.getD_cons_zero, List.getD_cons_succ, List.cons_append, List.nil_append, List.append_nil, List.length_cons, List.length_nil]; rfl, rfl, h5, y1, ⟨yl, yr⟩, ys⟩
            · obtain ⟨ij, li, hj⟩ := hb1 c2
              refine To.need (by simp only [X.den, X.dens, X.denss, D.int_i, D.boo_b, D.str_s, D.rows_l, List.getD_cons_zero, List.getD_cons_succ, List.cons_append, List.nil_append, List.append_nil, List.length_cons, List.length_nil, decide_eq_true_eq, decide_eq_false_iff_not, Bool.not_eq_true', Bool.not_eq_false', Bool.and_eq_true, Bool.and_eq_false_iff, Bool.true_eq_false, Bool.false_eq_true, Bool.not_true, Bool.not_false, eq_self, D.len_l]; omega) ?_
              refine To.need (by simp only [X.den, X.dens, X.denss, D.int_i, D.boo_b, D.str_s, D.rows_l, List.getD_cons_zero, List.getD_cons_succ, List.cons_append, List.nil_append, List.append_nil, List.length_cons, List.length_nil, decide_eq_true_eq, decide_eq_false_iff_not, Bool.not_eq_true', Bool.not_eq_false', Bool.and_eq_true, Bool.and_eq_false_iff, Bool.true_eq_false, Bool.false_eq_true, Bool.not_true, Bool.not_false, eq_self, D.len_l]; omega) ?_
              obtain ⟨u, eu⟩ : ∃ u, ce y 0 i - d = u := ⟨_, rfl⟩
              obtain ⟨v, ev⟩ : ∃ v, ce y 0 j + d = v := ⟨_, rfl⟩
              have w1 : One (putz y i u) := putz_one y1
              have wl : (putz y i u).length = y.length := putz_len
              have c1 : ∀ k : Int, 0 ≤ k → ce (putz y i u) 0 k = if k = i then u else ce y 0 k := fun k k0 => putz_ce y1 i0 (by omega) k0
              have c2 : ∀ k : Int, 0 ≤ k → ce (putz (putz y i u) j v) 0 k = if k = j then v else ce (putz y i u) 0 k := fun k k0 => putz_ce w1 j0 (by omega) k0
              obtain ⟨w, ew⟩ : ∃ w, putz (putz y i u) j v = w := ⟨_, rfl⟩
              rw [ew] at c2
              have ww : One w := by rw [← ew]; exact putz_one w1
              have wlen : w.length = l.length := by rw [← ew, putz_len, putz_len]; exact yl
              have wr : Rng l.length (ce l 0) (ce l 1) (ce w 0) := fun k k0 k1 => by
                have := yr k k0 k1
                rw [c2 k k0, c1 k k0]
                split
                · rename_i e; subst e; omega
                · split
                  · rename_i e; subst e; omega
                  · exact this
              have inw : InR l w := ⟨wlen, wr⟩
              have s1 := sumf_one (n := l.length) (f := ce y 0) (g := ce (putz y i u) 0) (k := i) (d := -d) i0 i1 (by rw [c1 i i0, if_pos rfl]; omega) fun k k0 k1 ne => by rw [c1 k k0, if_neg ne]
              have s2 := sumf_one (n := l.length) (f := ce (putz y i u) 0) (g := ce w 0) (k := j) (d := d) j0 j1 (by rw [c2 j j0, if_pos rfl, c1 j j0, if_neg (Ne.symm ij)]; omega) fun k k0 k1 ne => by rw [c2 k k0, if_neg ne]
              have ws : sumf (ce w 0) l.length = goal l t := by omega
              have sw := suS_in hv inw
              have cw := sumf_bound (f := cost l w) (a := 0) (b := 2500000000) (n := l.length) fun i a b => (cost_rng (hok i a b) (wr i a b)).2
              have best := noMove_least (n := l.length) (lo := ce l 0) (hi := ce l 1) (c := ce l 2) (x := ce x 0) (y := ce w 0) hc wr xL.noMove (by omega)
              have cost_x : sumf (fun i => ce l 2 i * ce x 0 i * ce x 0 i) l.length = sumf (cost l x) l.length := rfl
              have cost_w : sumf (fun i => ce l 2 i * ce w 0 i * ce w 0 i) l.length = sumf (cost l w) l.length := rfl
              rw [cost_x, cost_w] at best
              have back : chk l t w = true → sumf (cost l w) l.length ≤ sumf (cost l x) l.length := fun q => by
                have := noMove_least (n := l.length) (lo := ce l 0) (hi := ce l 1) (c := ce l 2) (x := ce w 0) (y := ce x 0) hc xr (chk_true.1 q).2 (by omega)
                rw [cost_x, cost_w] at this
                exact this
              have ev' : ce y 0 j + d = v := ev
              have cj : (D.put (D.l y) i 0 (.i u)).cell j 0 = (D.l (putz y i u)).cell j 0 := rfl
              refine To.viaK (by (try simp (disch := omega) only [X.den, X.dens, X.denss, D.int_i, D.boo_b, D.str_s, D.rows_l, List.getD_cons_zero, List.getD_cons_succ, List.cons_append, List.nil_append, List.append_nil, List.length_cons, List.length_nil, decide_eq_true_eq, decide_eq_false_iff_not, Bool.not_eq_true', Bool.not_eq_false', Bool.and_eq_true, Bool.and_eq_false_iff, Bool.true_eq_false, Bool.false_eq_true, Bool.not_true, Bool.not_false, eq_self, D.len_l, wr64, not_true_eq_false, not_false_eq_true, ce_def, eu, ev, putz_def, ew]); exact sum_gen (l := l) (x := w)) ?_
              rintro _ ρ2 rfl eρ
              refine ⟨rfl, ?_⟩
              simp only [List.cons_append, List.nil_append] at eρ
              subst eρ
              rw [sw]
              refine To.joinK (fun o => ∃ a b, o = [a, b, .b false]) ?_ ?_
              · refine To.yes rfl (To.no (by simp only [X.den, X.dens, X.denss, D.int_i, D.boo_b, D.str_s, D.rows_l, List.getD_cons_zero, List.getD_cons_succ, List.cons_append, List.nil_append, List.append_nil, List.length_cons, List.length_nil, decide_eq_true_eq, decide_eq_false_iff_not, Bool.not_eq_true', Bool.not_eq_false', Bool.and_eq_true, Bool.and_eq_false_iff, Bool.true_eq_false, Bool.false_eq_true, Bool.not_true, Bool.not_false, eq_self]; omega) ?_)
                refine To.viaK (by (try simp (disch := omega) only [X.den, X.dens, X.denss, D.int_i, D.boo_b, D.str_s, D.rows_l, List.getD_cons_zero, List.getD_cons_succ, List.cons_append, List.nil_append, List.append_nil, List.length_cons, List.length_nil, decide_eq_true_eq, decide_eq_false_iff_not, Bool.not_eq_true', Bool.not_eq_false', Bool.and_eq_true, Bool.and_eq_false_iff, Bool.true_eq_false, Bool.false_eq_true, Bool.not_true, Bool.not_false, eq_self, D.len_l, wr64, not_true_eq_false, not_false_eq_true, et, ce_def, eu, ev, putz_def, ew]); exact check_gen (l := l) (x := w) (t := t)) ?_
                rintro _ ρ2 rfl eρ
                refine ⟨rfl, ?_⟩
                simp only [List.cons_append, List.nil_append] at eρ
                subst eρ
                refine To.ite (fun c => ?_) (fun c => ?_) <;> simp only [X.den, X.dens, X.denss, D.int_i, D.boo_b, D.str_s, D.rows_l, List.getD_cons_zero, List.getD_cons_succ, List.cons_append, List.nil_append, List.append_nil, List.length_cons, List.length_nil] at c
                · have bc := back c
                  exact To.ret ⟨rfl, _, _, by simp only [X.den, X.dens, X.denss, D.int_i, D.boo_b, D.str_s, D.rows_l, List.getD_cons_zero, List.getD_cons_succ, List.cons_append, List.nil_append, List.append_nil, List.length_cons, List.length_nil]; rw [decide_eq_false (p := sumf (cost l x) l.length < sumf (cost l w) l.length) (by omega)]; first | done | rfl⟩
                · exact To.ret ⟨rfl, _, _, by simp only [X.den, X.dens, X.denss, D.int_i, D.boo_b, D.str_s, D.rows_l, List.getD_cons_zero, List.getD_cons_succ, List.cons_append, List.nil_append, List.append_nil, List.length_cons, List.length_nil]; rfl⟩
              rintro o ρ2 ⟨a3, a4, rfl⟩ eρ
              simp only [List.cons_append, List.nil_append] at eρ
              subst eρ
              exact To.no rfl (To.ret ⟨rfl, w, t5, _, by simp (disch := omega) only [X.den, X.dens, X.denss, D.int_i, D.boo_b, D.str_s, D.rows_l, List.getD_cons_zero, List.getD_cons_succ, List.cons_append, List.nil_append, List.append_nil, List.length_cons, List.length_nil, wr64, ce_def, eu, ev, putz_def, ew]; rfl, rfl, h5, ww, inw, ws⟩)
          rintro o ρ2 ⟨y', at', rest, rfl, hr, hs', y1', iny', ys'⟩ eρ
          simp only [List.cons_append, List.nil_append] at eρ
          subst eρ
          refine To.no rfl (To.ret (.inl ⟨rfl, m - 1, by omega, y', at', k + 1, ?_, hs', by omega, by omega, y1', iny', ys'⟩))
          simp (disch := omega) only [X.den, X.dens, X.denss, D.int_i, D.boo_b, D.str_s, D.rows_l, List.getD_cons_zero, List.getD_cons_succ, List.cons_append, List.nil_append, List.append_nil, List.length_cons, List.length_nil, wr64]
        · exact To.ret (.inr ⟨rfl, _, _, _, by simp only [X.den, X.dens, X.denss, D.int_i, D.boo_b, D.str_s, D.rows_l, List.getD_cons_zero, List.getD_cons_succ, List.cons_append, List.nil_append, List.append_nil, List.length_cons, List.length_nil]; rfl⟩)
      rintro o ρ2 ⟨a, b, c, rfl⟩ eρ
      simp only [List.cons_append, List.nil_append] at eρ
      subst eρ
      refine ⟨rfl, To.no rfl ?_⟩
      refine To.callK (l := [.b true]) rfl rfl _ (by simp only [List.cons_append, List.nil_append]; first | done | rfl) ?_
      exact To.ret (by simp only [X.den, X.dens, X.denss, D.int_i, D.boo_b, D.str_s, D.rows_l, List.getD_cons_zero, List.getD_cons_succ, List.cons_append, List.nil_append, List.append_nil, List.length_cons, List.length_nil])
    · cases h
theorem ShareLeast_walk {w : World} (v : Value) (zs : List Int) (h : IntsIn w w.heap.size v .i64 zs) (hz : ∀ z ∈ zs, (Lit.int .i64 z).wf = true) : Calls Try.prog 4 #[v] w fun e w' => e = .returned (.bool true) ∧ Below w.heap.size w w' :=
  con_law ShareLeast_ok rfl (fun G hG => args_ints h hG (by trivial)) (by simp [shLea_K]) (ds := [numD zs]) rfl
end Go.Proofs.Ytlhnhidoljfnnaa
