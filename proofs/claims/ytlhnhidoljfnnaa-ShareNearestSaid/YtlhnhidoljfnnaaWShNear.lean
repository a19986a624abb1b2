/- ShareNearest. -/
import Derived.Test.YtlhnhidoljfnnaaShrS
set_option linter.unusedVariables false
set_option linter.unusedSimpArgs false
namespace Go.Proofs.Ytlhnhidoljfnnaa
open Go.RowKit Fx Sh
def shNear_H : List Hint := [
  ⟨2197949552148, 17, [], ⟨[.und, .und, .bool (.B false), .und, .var 2, .und, .und, .und, .und, .var 5, .int .i64 (.V 11), .und, .var 6, .und, .und, .und, .und, .und, .und, .und, .und, .und, .und, .und, .und, .und, .und, .und, .und, .und, .und, .und, .und, .und, .und, .und, .und, .und, .und, .und, .und, .und, .und, .und, .und, .und, .und, .und, .und, .und, .und, .und, .und, .und, .und, .und, .und, .und, .und, .und, .und, .und, .und, .und, .und, .und, .und, .und, .und, .und, .und, .und, .und, .und, .und, .und, .und, .und, .und, .und, .und, .und, .und, .und, .und, .und, .und, .und, .und, .und, .int .i64 (.len (.V 10)), .int .i64 (.V 17), .und, .und, .und, .und, .und, .und, .und, .und, .und, .und, .und, .und, .und, .und, .und, .und, .und, .und, .und, .und, .und, .und, .und, .und, .und, .und, .und, .und, .und, .und, .und, .und, .und, .und, .und, .und, .und, .und, .und, .und, .und, .und, .und, .und, .und, .und, .und, .und, .und, .und, .und, .und, .und, .und, .und, .und, .und, .und, .und, .und, .und, .und, .und, .und, .und, .und, .und, .und, .und], [.fix [.var 4, .int .i64 (.V 9)] true], 18, 7, [none, none, none, none, none, none, none, none, none, none, none, none, none, none, none, none, none, none], [], [⟨0, [.int .i64], (.V 0)⟩, ⟨1, [.int .i64], (.take (.V 0) (.mn (.len (.V 0)) (.N 600)))⟩, ⟨2, [.int .i64, .int .i64, .int .i64], (.V 1)⟩, ⟨3, [.int .i64], (.V 2)⟩, ⟨4, [.int .i64], (.V 8)⟩, ⟨5, [.int .i64], (.V 10)⟩, ⟨6, [.int .i64], (.V 13)⟩]⟩⟩]
def shNear_K : Con := ⟨5, [.val false [.sl [.int .i64]]], [.val false [.bool]], []⟩
def shNear_T : T (List X) :=
  (.need (.not (.lt (.len (.V 0)) (.mn (.len (.V 0)) (.N 600))))
  (.call 16 [(.take (.V 0) (.mn (.len (.V 0)) (.N 600))), (.N 0), (.N 5)] 3
   (.call 18 [(.V 1)] 3
    (.call 26 [(.V 2), (.V 3), (.wr .i64 (.add (.wr .i64 (.sub (.wr .i64 (.add (.V 5) (.N 5))) (.wr .i64 (.sub (.V 4) (.N 5))))) (.N 1)))] 3
     (.call 23 [(.V 1), (.wr .i64 (.add (.wr .i64 (.sub (.V 4) (.N 5))) (.V 7)))] 3
      (.call 23 [(.V 1), (.wr .i64 (.add (.wr .i64 (.add (.wr .i64 (.sub (.V 4) (.N 5))) (.V 7))) (.N 1)))] 3
       (.sub (.ite (.eq (.V 6) (.N 0))
         (.ite (.eq (.V 12) (.N 0))
          (.ite (.eq (.V 15) (.N 0))
           (.ite (.eq (.len (.V 10)) (.len (.V 1)))
            (.ite (.eq (.len (.V 13)) (.len (.V 1)))
             (.ite (.lt (.wr .i64 (.add (.wr .i64 (.sub (.V 4) (.N 5))) (.V 7))) (.V 4))
              (.ite (.beq (.eq (.V 11) (.N 0)) (.B false))
               (.ret [(.lt (.V 14) (.V 11))])
               (.ret [(.B true)]))
              (.ite (.beq (.eq (.V 11) (.N 0)) (.not (.lt (.V 5) (.wr .i64 (.add (.wr .i64 (.sub (.V 4) (.N 5))) (.V 7))))))
               (.ret [(.lt (.V 14) (.V 11))])
               (.ret [(.B true)])))
             (.ret [(.B true)]))
            (.ret [(.B true)]))
           (.ret [(.B true)]))
          (.ret [(.B true)]))
         (.ret [(.B true)])) 1
        (.ite (.V 16)
         (.ret [(.B false)])
         (.loop [(.N 0)]
          (.ite (.lt (.V 17) (.len (.V 10)))
           (.sub (.need (.and (.not (.lt (.V 17) (.N 0))) (.lt (.V 17) (.len (.V 10))))
             (.need (.and (.not (.lt (.V 17) (.N 0))) (.lt (.V 17) (.len (.V 1))))
              (.ite (.lt (.at (.V 10) (.V 17) 0) (.at (.V 1) (.V 17) 0))
               (.ret [(.B true), (.B true), (.B true), (.B true), (.B true), (.B true), (.B true)])
               (.ite (.lt (.at (.V 1) (.V 17) 1) (.at (.V 10) (.V 17) 0))
                (.ret [(.lt (.at (.V 1) (.V 17) 1) (.at (.V 10) (.V 17) 0)), (.lt (.at (.V 1) (.V 17) 1) (.at (.V 10) (.V 17) 0)), (.B true), (.B true), (.B true), (.B true), (.B true)])
                (.need (.and (.not (.lt (.V 17) (.N 0))) (.lt (.V 17) (.len (.V 13))))
                 (.ite (.lt (.at (.V 13) (.V 17) 0) (.at (.V 10) (.V 17) 0))
                  (.ret [(.lt (.at (.V 1) (.V 17) 1) (.at (.V 10) (.V 17) 0)), (.lt (.at (.V 1) (.V 17) 1) (.at (.V 10) (.V 17) 0)), (.lt (.at (.V 13) (.V 17) 0) (.at (.V 10) (.V 17) 0)), (.lt (.at (.V 13) (.V 17) 0) (.at (.V 10) (.V 17) 0)), (.B true), (.B true), (.B true)])
                  (.ite (.lt (.N 0) (.V 11))
                   (.ite (.eq (.at (.V 10) (.V 17) 0) (.at (.V 1) (.V 17) 1))
                    (.ite (.lt (.V 11) (.N 0))
                     (.ret [(.lt (.at (.V 1) (.V 17) 1) (.at (.V 10) (.V 17) 0)), (.lt (.at (.V 1) (.V 17) 1) (.at (.V 10) (.V 17) 0)), (.lt (.at (.V 13) (.V 17) 0) (.at (.V 10) (.V 17) 0)), (.lt (.at (.V 13) (.V 17) 0) (.at (.V 10) (.V 17) 0)), (.not (.eq (.at (.V 10) (.V 17) 0) (.at (.V 1) (.V 17) 1))), (.not (.eq (.at (.V 10) (.V 17) 0) (.at (.V 1) (.V 17) 1))), (.not (.eq (.at (.V 10) (.V 17) 0) (.at (.V 1) (.V 17) 0)))])
                     (.ret [(.lt (.at (.V 1) (.V 17) 1) (.at (.V 10) (.V 17) 0)), (.lt (.at (.V 1) (.V 17) 1) (.at (.V 10) (.V 17) 0)), (.lt (.at (.V 13) (.V 17) 0) (.at (.V 10) (.V 17) 0)), (.lt (.at (.V 13) (.V 17) 0) (.at (.V 10) (.V 17) 0)), (.not (.eq (.at (.V 10) (.V 17) 0) (.at (.V 1) (.V 17) 1))), (.not (.eq (.at (.V 10) (.V 17) 0) (.at (.V 1) (.V 17) 1))), (.B false)]))
                    (.ret [(.lt (.at (.V 1) (.V 17) 1) (.at (.V 10) (.V 17) 0)), (.lt (.at (.V 1) (.V 17) 1) (.at (.V 10) (.V 17) 0)), (.lt (.at (.V 13) (.V 17) 0) (.at (.V 10) (.V 17) 0)), (.lt (.at (.V 13) (.V 17) 0) (.at (.V 10) (.V 17) 0)), (.not (.eq (.at (.V 10) (.V 17) 0) (.at (.V 1) (.V 17) 1))), (.not (.eq (.at (.V 10) (.V 17) 0) (.at (.V 1) (.V 17) 1))), (.B true)]))
                   (.ite (.lt (.V 11) (.N 0))
                    (.ret [(.lt (.at (.V 1) (.V 17) 1) (.at (.V 10) (.V 17) 0)), (.lt (.at (.V 1) (.V 17) 1) (.at (.V 10) (.V 17) 0)), (.lt (.at (.V 13) (.V 17) 0) (.at (.V 10) (.V 17) 0)), (.lt (.at (.V 13) (.V 17) 0) (.at (.V 10) (.V 17) 0)), (.B false), (.B false), (.not (.eq (.at (.V 10) (.V 17) 0) (.at (.V 1) (.V 17) 0)))])
                    (.ret [(.lt (.at (.V 1) (.V 17) 1) (.at (.V 10) (.V 17) 0)), (.lt (.at (.V 1) (.V 17) 1) (.at (.V 10) (.V 17) 0)), (.lt (.at (.V 13) (.V 17) 0) (.at (.V 10) (.V 17) 0)), (.lt (.at (.V 13) (.V 17) 0) (.at (.V 10) (.V 17) 0)), (.B false), (.B false), (.B false)]))))))))) 7
            (.ite (.V 24)
             (.ret (false, [(.N 0)]))
             (.ret (true, [(.wr .i64 (.add (.V 17) (.N 1)))]))))
           (.ret (false, [(.N 1)]))) 1
          (.ite (.eq (.V 17) (.N 0))
           (.ret [(.B false)])
           (.call 14 [] 1
            (.ret [(.V 18)]))))))))))))
set_option maxRecDepth 100000 in
theorem shNear_t : runS Try.prog [srcN_K.to [], srcShares_K.to [], shReach_K.to [], shDivide_K.to [], sane13_K.to []] [(5, shNear_H)] shNear_K = shNear_T := by kernel_rfl
theorem ShareNearest_ok : ConOk Try.prog shNear_K fun ds => match ds with | [.l _] => some [.b true] | _ => none :=
  con_of follows (M := l13M) (one_con (srcN_ok.to _) (one_con (srcShares_ok.to _) (one_con (shReach_ok.to _) (one_con (shDivide_ok.to _) (one_con (sane13_ok.to _) no_cons))))) shNear_t fun ds outs hl h => by
    split at h
    · rename_i rows
      injection h with h
      subst h
      refine ⟨fun i l h k => by simp [shNear_K] at k, 30, ?_⟩
      unfold shNear_T
      refine To.need (by simp only [X.den, X.dens, X.denss, D.int_i, D.boo_b, D.str_s, D.rows_l, List.getD_cons_zero, List.getD_cons_succ, List.cons_append, List.nil_append, List.append_nil, List.length_cons, List.length_nil, decide_eq_true_eq, decide_eq_false_iff_not, Bool.not_eq_true', Bool.not_eq_false', Bool.and_eq_true, Bool.and_eq_false_iff, Bool.true_eq_false, Bool.false_eq_true, Bool.not_true, Bool.not_false, eq_self, D.len_l]; omega) ?_
      refine To.viaK (by (try simp (disch := omega) only [X.den, X.dens, X.denss, D.int_i, D.boo_b, D.str_s, D.rows_l, List.getD_cons_zero, List.getD_cons_succ, List.cons_append, List.nil_append, List.append_nil, List.length_cons, List.length_nil, decide_eq_true_eq, decide_eq_false_iff_not, Bool.not_eq_true', Bool.not_eq_false', Bool.and_eq_true, Bool.and_eq_false_iff, Bool.true_eq_false, Bool.false_eq_true, Bool.not_true, Bool.not_false, eq_self, D.len_l, wr64, not_true_eq_false, not_false_eq_true]); exact srcShares_to src_take13 (by omega) (by omega)) ?_
      rintro _ ρ2 ⟨l, t1, rfl, hn, hf, h1⟩ eρ
      refine ⟨rfl, ?_⟩
      simp only [List.cons_append, List.nil_append] at eρ
      subst eρ
      have h8 : l.length ≤ 8 := by omega
      have hv := shRow_vd hf h8
      obtain ⟨b0, b1, b01⟩ := reS_rng hf h8
      refine To.viaK (by (try simp (disch := omega) only [X.den, X.dens, X.denss, D.int_i, D.boo_b, D.str_s, D.rows_l, List.getD_cons_zero, List.getD_cons_succ, List.cons_append, List.nil_append, List.append_nil, List.length_cons, List.length_nil, decide_eq_true_eq, decide_eq_false_iff_not, Bool.not_eq_true', Bool.not_eq_false', Bool.and_eq_true, Bool.and_eq_false_iff, Bool.true_eq_false, Bool.false_eq_true, Bool.not_true, Bool.not_false, eq_self, D.len_l, wr64, not_true_eq_false, not_false_eq_true]); exact reach_gen) ?_
      rintro _ ρ2 rfl eρ
      refine ⟨rfl, ?_⟩
      simp only [List.cons_append, List.nil_append] at eρ
      subst eρ
      rw [hv]
      obtain ⟨lo, elo⟩ : ∃ lo, reS l 0 = lo := ⟨_, rfl⟩
      obtain ⟨hi, ehi⟩ : ∃ hi, reS l 1 = hi := ⟨_, rfl⟩
      rw [elo] at b0 b01 ⊢
      rw [ehi] at b1 b01 ⊢
      refine To.viaK (by (try simp (disch := omega) only [X.den, X.dens, X.denss, D.int_i, D.boo_b, D.str_s, D.rows_l, List.getD_cons_zero, List.getD_cons_succ, List.cons_append, List.nil_append, List.append_nil, List.length_cons, List.length_nil, decide_eq_true_eq, decide_eq_false_iff_not, Bool.not_eq_true', Bool.not_eq_false', Bool.and_eq_true, Bool.and_eq_false_iff, Bool.true_eq_false, Bool.false_eq_true, Bool.not_true, Bool.not_false, eq_self, D.len_l, wr64, not_true_eq_false, not_false_eq_true]); exact srcN_to h1 (by omega) (by omega)) ?_
      rintro _ ρ2 ⟨n, t2, rfl, p2, q2, h2⟩ eρ
      refine ⟨rfl, ?_⟩
      simp only [List.cons_append, List.nil_append] at eρ
      subst eρ
      obtain ⟨t, et⟩ : ∃ t, lo - 5 + n = t := ⟨_, rfl⟩
      refine To.viaK (by (try simp (disch := omega) only [X.den, X.dens, X.denss, D.int_i, D.boo_b, D.str_s, D.rows_l, List.getD_cons_zero, List.getD_cons_succ, List.cons_append, List.nil_append, List.append_nil, List.length_cons, List.length_nil, decide_eq_true_eq, decide_eq_false_iff_not, Bool.not_eq_true', Bool.not_eq_false', Bool.and_eq_true, Bool.and_eq_false_iff, Bool.true_eq_false, Bool.false_eq_true, Bool.not_true, Bool.not_false, eq_self, D.len_l, wr64, not_true_eq_false, not_false_eq_true, et]); exact divide_gen (t := t) hv (by omega) (by omega)) ?_
      rintro _ ρ2 ⟨x, rfl, x1, xl, xr, xs, xL⟩ eρ
      refine ⟨rfl, ?_⟩
      simp only [List.cons_append, List.nil_append] at eρ
      subst eρ
      refine To.viaK (by (try simp (disch := omega) only [X.den, X.dens, X.denss, D.int_i, D.boo_b, D.str_s, D.rows_l, List.getD_cons_zero, List.getD_cons_succ, List.cons_append, List.nil_append, List.append_nil, List.length_cons, List.length_nil, decide_eq_true_eq, decide_eq_false_iff_not, Bool.not_eq_true', Bool.not_eq_false', Bool.and_eq_true, Bool.and_eq_false_iff, Bool.true_eq_false, Bool.false_eq_true, Bool.not_true, Bool.not_false, eq_self, D.len_l, wr64, not_true_eq_false, not_false_eq_true, et]); exact divide_gen (t := t + 1) hv (by omega) (by omega)) ?_
      rintro _ ρ2 ⟨y, rfl, y1, yl, yr, ys, yL⟩ eρ
      refine ⟨rfl, ?_⟩
      simp only [List.cons_append, List.nil_append] at eρ
      subst eρ
      have g0 : goal l t = max lo (min t hi) := by rw [goal, elo, ehi]
      have g1 : goal l (t + 1) = max lo (min (t + 1) hi) := by rw [goal, elo, ehi]
      have slo : sumf (ce l 0) l.length = lo := by rw [← elo, reS, if_pos hv]
      have shi : sumf (ce l 1) l.length = hi := by rw [← ehi, reS, if_pos hv]
      have hc : ∀ i : Int, 0 ≤ i → i < l.length → 1 ≤ ce l 2 i := fun i a b => by have := shRow_ok hf a b; simp only [okS] at this; omega
      have mono := lex_mono hc xr yr xL yL (by omega)
      have top : 0 < t - goal l t → ∀ i : Int, 0 ≤ i → i < l.length → ce x 0 i = ce l 1 i := fun h => sumf_eq (fun i a b => (xr i a b).2) (by omega)
      have bot : t - goal l t < 0 → ∀ i : Int, 0 ≤ i → i < l.length → ce l 0 i = ce x 0 i := fun h => sumf_eq (fun i a b => (xr i a b).1) (by omega)
      refine To.joinK (fun o => o = [.b false]) ?_ ?_
      · (repeat' (refine To.ite (fun c => ?_) (fun c => ?_) <;> simp (disch := omega) only [X.den, X.dens, X.denss, D.int_i, D.boo_b, D.str_s, D.rows_l, List.getD_cons_zero, List.getD_cons_succ, List.cons_append, List.nil_append, List.append_nil, List.length_cons, List.length_nil, decide_eq_true_eq, decide_eq_false_iff_not, Bool.not_eq_true', Bool.not_eq_false', Bool.and_eq_true, Bool.and_eq_false_iff, Bool.true_eq_false, Bool.false_eq_true, Bool.not_true, Bool.not_false, eq_self, D.len_l, wr64, et, beq_iff_eq, decide_eq_decide, xl, yl] at c))
        all_goals first
          | (exfalso; omega)
          | (exfalso; by_cases q : t - goal l t = 0 <;> by_cases q2 : hi < t <;> first | omega | (simp [q, q2] at c; done))
          | (refine To.ret ⟨rfl, ?_⟩; simp only [X.den, X.dens, X.denss, D.int_i, D.boo_b, D.str_s, D.rows_l, List.getD_cons_zero, List.getD_cons_succ, List.cons_append, List.nil_append, List.append_nil, List.length_cons, List.length_nil]; rw [decide_eq_false (by omega)])
      rintro o ρ2 rfl eρ
      simp only [List.cons_append, List.nil_append] at eρ
      subst eρ
      refine To.no rfl ?_
      refine To.loopK (fun m o => ∃ i, o = [.i i] ∧ 0 ≤ i ∧ i + m = l.length) (fun o => o = [.i 1]) l.length (by omega) ?_ ?_ ?_
      · exact ⟨0, by simp only [X.den, X.dens, X.denss, D.int_i, D.boo_b, D.str_s, D.rows_l, List.getD_cons_zero, List.getD_cons_succ, List.cons_append, List.nil_append, List.append_nil, List.length_cons, List.length_nil], by omega, by omega⟩
      · rintro m o ρ2 ⟨i, rfl, i0, i1⟩ eρ
        simp only [List.cons_append, List.nil_append] at eρ
        subst eρ
        refine To.ite (fun c => ?_) (fun c => ?_) <;> simp only [X.den, X.dens, X.denss, D.int_i, D.boo_b, D.str_s, D.rows_l, List.getD_cons_zero, List.getD_cons_succ, List.cons_append, List.nil_append, List.append_nil, List.length_cons, List.length_nil, decide_eq_true_eq, decide_eq_false_iff_not, Bool.not_eq_true', Bool.not_eq_false', Bool.and_eq_true, Bool.and_eq_false_iff, Bool.true_eq_false, Bool.false_eq_true, Bool.not_true, Bool.not_false, eq_self, D.len_l] at c
        · have ri := xr i i0 (by omega)
          have mi := mono i i0 (by omega)
          refine To.joinK (fun o => ∃ a1 a2 a3 a4 a5 a6, o = [a1, a2, a3, a4, a5, a6, .b false]) ?_ ?_
          · (repeat' (first
              | (refine To.need (by simp only [X.den, X.dens, X.denss, D.int_i, D.boo_b, D.str_s, D.rows_l, List.getD_cons_zero, List.getD_cons_succ, List.cons_append, List.nil_append, List.append_nil, List.length_cons, List.length_nil, decide_eq_true_eq, decide_eq_false_iff_not, Bool.not_eq_true', Bool.not_eq_false', Bool.and_eq_true, Bool.and_eq_false_iff, Bool.true_eq_false, Bool.false_eq_true, Bool.not_true, Bool.not_false, eq_self, D.len_l]; omega) ?_)
              | (refine To.ite (fun c => ?_) (fun c => ?_) <;> simp only [X.den, X.dens, X.denss, D.int_i, D.boo_b, D.str_s, D.rows_l, List.getD_cons_zero, List.getD_cons_succ, List.cons_append, List.nil_append, List.append_nil, List.length_cons, List.length_nil, decide_eq_true_eq, decide_eq_false_iff_not, Bool.not_eq_true', Bool.not_eq_false', Bool.and_eq_true, Bool.and_eq_false_iff, Bool.true_eq_false, Bool.false_eq_true, Bool.not_true, Bool.not_false, eq_self, D.len_l, ce_def] at c)))
            all_goals first
              | (exfalso; omega)
              | (refine To.ret ⟨rfl, _, _, _, _, _, _, by simp only [X.den, X.dens, X.denss, D.int_i, D.boo_b, D.str_s, D.rows_l, List.getD_cons_zero, List.getD_cons_succ, List.cons_append, List.nil_append, List.append_nil, List.length_cons, List.length_nil]; rfl⟩)
              | (exfalso; have := top (by omega) i i0 (by omega); omega)
              | (refine To.ret ⟨rfl, ?_⟩; simp only [X.den, X.dens, X.denss, D.int_i, D.boo_b, D.str_s, D.rows_l, List.getD_cons_zero, List.getD_cons_succ, List.cons_append, List.nil_append, List.append_nil, List.length_cons, List.length_nil, decide_eq_true_eq, decide_eq_false_iff_not, Bool.not_eq_true', Bool.not_eq_false', Bool.and_eq_true, Bool.and_eq_false_iff, Bool.true_eq_false, Bool.false_eq_true, Bool.not_true, Bool.not_false, eq_self, ce_def]; have := bot (by omega) i i0 (by omega); exact ⟨_, _, _, _, _, _, by rw [decide_eq_true (p := ce x 0 i = ce l 0 i) (by omega)]; rfl⟩)
          rintro o ρ2 ⟨a1, a2, a3, a4, a5, a6, rfl⟩ eρ
          simp only [List.cons_append, List.nil_append] at eρ
          subst eρ
          refine To.no rfl (To.ret (.inl ⟨rfl, m - 1, by omega, ?_⟩))
          simp (disch := omega) only [X.den, X.dens, X.denss, D.int_i, D.boo_b, D.str_s, D.rows_l, List.getD_cons_zero, List.getD_cons_succ, List.cons_append, List.nil_append, List.append_nil, List.length_cons, List.length_nil, wr64]
          exact ⟨_, rfl, by omega, by omega⟩
        · exact To.ret (.inr ⟨rfl, by simp only [X.den, X.dens, X.denss, D.int_i, D.boo_b, D.str_s, D.rows_l, List.getD_cons_zero, List.getD_cons_succ, List.cons_append, List.nil_append, List.append_nil, List.length_cons, List.length_nil]⟩)
      · rintro o ρ2 rfl eρ
        simp only [List.cons_append, List.nil_append] at eρ
        subst eρ
        refine ⟨rfl, To.no rfl ?_⟩
        refine To.callK (l := [.b true]) rfl rfl _ (by simp only [List.cons_append, List.nil_append]; first | done | rfl) ?_
        exact To.ret (by simp only [X.den, X.dens, X.denss, D.int_i, D.boo_b, D.str_s, D.rows_l, List.getD_cons_zero, List.getD_cons_succ, List.cons_append, List.nil_append, List.append_nil, List.length_cons, List.length_nil])
    · cases h
theorem ShareNearest_walk {w : World} (v : Value) (zs : List Int) (h : IntsIn w w.heap.size v .i64 zs) (hz : ∀ z ∈ zs, (Lit.int .i64 z).wf = true) : Calls Try.prog 5 #[v] w fun e w' => e = .returned (.bool true) ∧ Below w.heap.size w w' :=
  con_law ShareNearest_ok rfl (fun G hG => args_ints h hG (by trivial)) (by simp [shNear_K]) (ds := [numD zs]) rfl
end Go.Proofs.Ytlhnhidoljfnnaa
