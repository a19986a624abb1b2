/- Shares: the reference's functions. -/
import Derived.Test.YtlhnhidoljfnnaaShrD
set_option linter.unusedVariables false
set_option linter.unusedSimpArgs false
namespace Go.Proofs.Ytlhnhidoljfnnaa
open Go.RowKit Fx Sh
def rVal13_H : List Hint := [
  ⟨1099511627540, 1, [], ⟨[.und, .und, .int .i64 (.N 0), .und, .und, .und, .und, .und, .var 0, .int .i64 (.len (.V 0)), .int .i64 (.V 1), .und, .und, .und, .und, .und, .und, .und, .und, .und, .und, .und, .und, .und, .und, .und, .und, .und, .und, .und, .und, .und, .und, .und, .und, .und, .und, .und, .und, .und], [], 2, 1, [none, none], [], [⟨0, [.int .i64, .int .i64, .int .i64], (.V 0)⟩]⟩⟩]
def rVal13_K : Con := ⟨21, [.val false [.sl [.int .i64, .int .i64, .int .i64]]], [.val false [.int .i64]], []⟩
def rVal13_T : T (List X) :=
  (.ite (.lt (.N 8) (.len (.V 0)))
  (.ret [(.N 2)])
  (.loop [(.N 0)]
   (.ite (.lt (.V 1) (.len (.V 0)))
    (.need (.and (.not (.lt (.V 1) (.N 0))) (.lt (.V 1) (.len (.V 0))))
     (.sub (.ite (.lt (.at (.V 0) (.V 1) 0) (.N (-5000)))
       (.ret [(.B true), (.B true), (.B true), (.B true), (.B true), (.B true), (.B true)])
       (.ite (.lt (.at (.V 0) (.V 1) 1) (.at (.V 0) (.V 1) 0))
        (.ret [(.lt (.at (.V 0) (.V 1) 1) (.at (.V 0) (.V 1) 0)), (.lt (.at (.V 0) (.V 1) 1) (.at (.V 0) (.V 1) 0)), (.B true), (.B true), (.B true), (.B true), (.B true)])
        (.ite (.lt (.N 5000) (.at (.V 0) (.V 1) 1))
         (.ret [(.lt (.at (.V 0) (.V 1) 1) (.at (.V 0) (.V 1) 0)), (.lt (.at (.V 0) (.V 1) 1) (.at (.V 0) (.V 1) 0)), (.lt (.N 5000) (.at (.V 0) (.V 1) 1)), (.lt (.N 5000) (.at (.V 0) (.V 1) 1)), (.B true), (.B true), (.B true)])
         (.ite (.lt (.at (.V 0) (.V 1) 2) (.N 1))
          (.ret [(.lt (.at (.V 0) (.V 1) 1) (.at (.V 0) (.V 1) 0)), (.lt (.at (.V 0) (.V 1) 1) (.at (.V 0) (.V 1) 0)), (.lt (.N 5000) (.at (.V 0) (.V 1) 1)), (.lt (.N 5000) (.at (.V 0) (.V 1) 1)), (.lt (.at (.V 0) (.V 1) 2) (.N 1)), (.lt (.at (.V 0) (.V 1) 2) (.N 1)), (.B true)])
          (.ret [(.lt (.at (.V 0) (.V 1) 1) (.at (.V 0) (.V 1) 0)), (.lt (.at (.V 0) (.V 1) 1) (.at (.V 0) (.V 1) 0)), (.lt (.N 5000) (.at (.V 0) (.V 1) 1)), (.lt (.N 5000) (.at (.V 0) (.V 1) 1)), (.lt (.at (.V 0) (.V 1) 2) (.N 1)), (.lt (.at (.V 0) (.V 1) 2) (.N 1)), (.lt (.N 100) (.at (.V 0) (.V 1) 2))]))))) 7
      (.ite (.V 8)
       (.ret (false, [(.N 0), (.at (.V 0) (.V 1) 0), (.at (.V 0) (.V 1) 1), (.at (.V 0) (.V 1) 2)]))
       (.ret (true, [(.wr .i64 (.add (.V 1) (.N 1)))])))))
    (.ret (false, [(.N 1), (.N 0), (.N 0), (.N 0)]))) 4
   (.ite (.eq (.V 1) (.N 0))
    (.ret [(.N 1)])
    (.ret [(.N 0)]))))
set_option maxRecDepth 100000 in
theorem rVal13_t : runS Try.prog [] [(21, rVal13_H)] rVal13_K = rVal13_T := by kernel_rfl
def rRea13_H : List Hint := [
  ⟨4294935260, 2, [], ⟨[.und, .und, .int .i64 (.N 0), .int .i64 (.N 0), .int .i64 (.N 0), .und, .int .i64 (.V 2), .int .i64 (.V 3), .und, .und, .und, .und, .und, .und, .und, .var 0, .int .i64 (.len (.V 0)), .int .i64 (.V 4), .und, .und, .und, .und, .und, .und, .und, .und, .und, .und, .und, .und, .und, .und], [], 5, 1, [none, none, none, none, none], [], [⟨0, [.int .i64, .int .i64, .int .i64], (.V 0)⟩]⟩⟩]
def rRea13_K : Con := ⟨19, [.val false [.sl [.int .i64, .int .i64, .int .i64]]], [.val false [.int .i64], .val false [.int .i64], .val false [.int .i64]], []⟩
def rRea13_T : T (List X) :=
  (.call 21 [(.V 0)] 1
  (.ite (.eq (.V 1) (.N 0))
   (.loop [(.N 0), (.N 0), (.N 0)]
    (.ite (.lt (.V 4) (.len (.V 0)))
     (.need (.and (.not (.lt (.V 4) (.N 0))) (.lt (.V 4) (.len (.V 0))))
      (.ret (true, [(.wr .i64 (.add (.V 2) (.at (.V 0) (.V 4) 0))), (.wr .i64 (.add (.V 3) (.at (.V 0) (.V 4) 1))), (.wr .i64 (.add (.V 4) (.N 1)))])))
     (.ret (false, [(.V 2), (.V 3)]))) 2
    (.ret [(.V 2), (.V 3), (.N 0)]))
   (.ret [(.N 0), (.N 0), (.V 1)])))
set_option maxRecDepth 100000 in
theorem rRea13_t : runS Try.prog [rVal13_K.to []] [(19, rRea13_H)] rRea13_K = rRea13_T := by kernel_rfl
def rIns13_H : List Hint := [
  ⟨68719472754, 2, [], ⟨[.und, .var 1, .und, .und, .bool (.B false), .und, .und, .und, .und, .und, .und, .und, .var 0, .int .i64 (.len (.V 0)), .int .i64 (.V 2), .und, .und, .und, .und, .und, .und, .und, .und, .und, .und, .und, .und, .und, .und, .und, .und, .und, .und, .und, .und, .und], [], 3, 2, [none, none, none], [], [⟨0, [.int .i64, .int .i64, .int .i64], (.V 0)⟩, ⟨1, [.int .i64], (.V 1)⟩]⟩⟩]
def rIns13_K : Con := ⟨75, [.val false [.sl [.int .i64, .int .i64, .int .i64]], .val false [.sl [.int .i64]]], [.val false [.bool]], []⟩
def rIns13_T : T (List X) :=
  (.ite (.eq (.len (.V 1)) (.len (.V 0)))
  (.loop [(.N 0)]
   (.ite (.lt (.V 2) (.len (.V 0)))
    (.need (.and (.not (.lt (.V 2) (.N 0))) (.lt (.V 2) (.len (.V 0))))
     (.sub (.need (.and (.not (.lt (.V 2) (.N 0))) (.lt (.V 2) (.len (.V 1))))
       (.ite (.lt (.at (.V 1) (.V 2) 0) (.at (.V 0) (.V 2) 0))
        (.ret [(.B true)])
        (.ret [(.lt (.at (.V 0) (.V 2) 1) (.at (.V 1) (.V 2) 0))]))) 1
      (.ite (.V 3)
       (.ret (false, [(.N 0), (.at (.V 0) (.V 2) 0), (.at (.V 0) (.V 2) 1), (.at (.V 0) (.V 2) 2)]))
       (.ret (true, [(.wr .i64 (.add (.V 2) (.N 1)))])))))
    (.ret (false, [(.N 1), (.N 0), (.N 0), (.N 0)]))) 4
   (.ite (.eq (.V 2) (.N 0))
    (.ret [(.B false)])
    (.ret [(.B true)])))
  (.ret [(.B false)]))
set_option maxRecDepth 100000 in
theorem rIns13_t : runS Try.prog [] [(75, rIns13_H)] rIns13_K = rIns13_T := by kernel_rfl
def rSum13_H : List Hint := [
  ⟨140737471579058, 4, [], ⟨[.und, .var 1, .und, .und, .int .i64 (.N 0), .int .i64 (.N 0), .und, .int .i64 (.V 4), .und, .und, .und, .und, .und, .und, .und, .und, .und, .und, .und, .und, .und, .und, .und, .und, .var 0, .int .i64 (.len (.V 0)), .int .i64 (.V 5), .und, .und, .und, .und, .und, .und, .und, .und, .und, .und, .und, .und, .und, .und, .und, .und, .und, .und, .und, .und], [], 6, 2, [none, none, none, none, none, none], [], [⟨0, [.int .i64, .int .i64, .int .i64], (.V 0)⟩, ⟨1, [.int .i64], (.V 1)⟩]⟩⟩]
def rSum13_K : Con := ⟨28, [.val false [.sl [.int .i64, .int .i64, .int .i64]], .val false [.sl [.int .i64]]], [.val false [.int .i64], .val false [.int .i64]], []⟩
def rSum13_T : T (List X) :=
  (.call 21 [(.V 0)] 1
  (.ite (.eq (.V 2) (.N 0))
   (.ite (.eq (.len (.V 1)) (.len (.V 0)))
    (.call 75 [(.V 0), (.V 1)] 1
     (.ite (.V 3)
      (.loop [(.N 0), (.N 0)]
       (.ite (.lt (.V 5) (.len (.V 0)))
        (.need (.and (.not (.lt (.V 5) (.N 0))) (.lt (.V 5) (.len (.V 0))))
         (.need (.and (.not (.lt (.V 5) (.N 0))) (.lt (.V 5) (.len (.V 1))))
          (.ret (true, [(.wr .i64 (.add (.V 4) (.wr .i64 (.mul (.wr .i64 (.mul (.at (.V 0) (.V 5) 2) (.at (.V 1) (.V 5) 0))) (.at (.V 1) (.V 5) 0))))), (.wr .i64 (.add (.V 5) (.N 1)))]))))
        (.ret (false, [(.V 4)]))) 1
       (.ret [(.V 4), (.N 0)]))
      (.ret [(.N 0), (.N 1)])))
    (.ret [(.N 0), (.N 8)]))
   (.ret [(.N 0), (.V 2)])))
set_option maxRecDepth 100000 in
theorem rSum13_t : runS Try.prog [rVal13_K.to [], rIns13_K.to []] [(28, rSum13_H)] rSum13_K = rSum13_T := by kernel_rfl
theorem rvalid_gen {l : List (List D)} : ∃ o, rVal13_T.run noM 30 [.l l] = some o ∧ o = [.i (vd l)] := by
  refine run_to ?_
  unfold rVal13_T
  refine To.ite (fun c => ?_) (fun c => ?_) <;> simp only [X.den, X.dens, X.denss, D.int_i, D.boo_b, D.str_s, D.rows_l, List.getD_cons_zero, List.getD_cons_succ, List.cons_append, List.nil_append, List.append_nil, List.length_cons, List.length_nil, decide_eq_true_eq, decide_eq_false_iff_not, Bool.not_eq_true', Bool.not_eq_false', Bool.and_eq_true, Bool.and_eq_false_iff, Bool.true_eq_false, Bool.false_eq_true, Bool.not_true, Bool.not_false, eq_self, D.len_l] at c
  · refine To.ret ?_
    simp only [X.den, X.dens, X.denss, D.int_i, D.boo_b, D.str_s, D.rows_l, List.getD_cons_zero, List.getD_cons_succ, List.cons_append, List.nil_append, List.append_nil, List.length_cons, List.length_nil]
    unfold vd
    rw [if_pos (by omega)]
  refine To.loopK (fun m o => ∃ i, o = [.i i] ∧ 0 ≤ i ∧ i + m = l.length ∧ ∀ j : Int, 0 ≤ j → j < i → okS l j) (fun o => (∃ a b d, o = [.i 0, a, b, d] ∧ vd l = 1) ∨ (∃ a b d, o = [.i 1, a, b, d] ∧ vd l = 0)) l.length (by omega) ?_ ?_ ?_
  · exact ⟨0, by simp only [X.den, X.dens, X.denss, D.int_i, D.boo_b, D.str_s, D.rows_l, List.getD_cons_zero, List.getD_cons_succ, List.cons_append, List.nil_append, List.append_nil, List.length_cons, List.length_nil], by omega, by omega, by intro j; omega⟩
  · rintro m o ρ2 ⟨i, rfl, i0, i1, hj⟩ eρ
    simp only [List.cons_append, List.nil_append] at eρ
    subst eρ
    refine To.ite (fun c => ?_) (fun c => ?_) <;> simp only [X.den, X.dens, X.denss, D.int_i, D.boo_b, D.str_s, D.rows_l, List.getD_cons_zero, List.getD_cons_succ, List.cons_append, List.nil_append, List.append_nil, List.length_cons, List.length_nil, decide_eq_true_eq, decide_eq_false_iff_not, Bool.not_eq_true', Bool.not_eq_false', Bool.and_eq_true, Bool.and_eq_false_iff, Bool.true_eq_false, Bool.false_eq_true, Bool.not_true, Bool.not_false, eq_self, D.len_l] at c
    · refine To.need (by simp only [X.den, X.dens, X.denss, D.int_i, D.boo_b, D.str_s, D.rows_l, List.getD_cons_zero, List.getD_cons_succ, List.cons_append, List.nil_append, List.append_nil, List.length_cons, List.length_nil, decide_eq_true_eq, decide_eq_false_iff_not, Bool.not_eq_true', Bool.not_eq_false', Bool.and_eq_true, Bool.and_eq_false_iff, Bool.true_eq_false, Bool.false_eq_true, Bool.not_true, Bool.not_false, eq_self, D.len_l]; omega) ?_
      refine To.joinK (fun o => ∃ a1 a2 a3 a4 a5 a6 t, o = [a1, a2, a3, a4, a5, a6, .b t] ∧ (t = true ↔ ¬ okS l i)) ?_ ?_
      · (repeat' (refine To.ite (fun c => ?_) (fun c => ?_) <;> simp only [X.den, X.dens, X.denss, D.int_i, D.boo_b, D.str_s, D.rows_l, List.getD_cons_zero, List.getD_cons_succ, List.cons_append, List.nil_append, List.append_nil, List.length_cons, List.length_nil, decide_eq_true_eq, decide_eq_false_iff_not, Bool.not_eq_true', Bool.not_eq_false', Bool.and_eq_true, Bool.and_eq_false_iff, Bool.true_eq_false, Bool.false_eq_true, Bool.not_true, Bool.not_false, eq_self, D.len_l, ce_def] at c))
        all_goals (refine To.ret ⟨rfl, _, _, _, _, _, _, _, rfl, ?_⟩; simp only [X.den, X.dens, X.denss, D.int_i, D.boo_b, D.str_s, D.rows_l, List.getD_cons_zero, List.getD_cons_succ, List.cons_append, List.nil_append, List.append_nil, List.length_cons, List.length_nil, decide_eq_true_eq, decide_eq_false_iff_not, Bool.not_eq_true', Bool.not_eq_false', Bool.and_eq_true, Bool.and_eq_false_iff, Bool.true_eq_false, Bool.false_eq_true, Bool.not_true, Bool.not_false, eq_self, ce_def, okS, true_iff]; omega)
      rintro o ρ2 ⟨a1, a2, a3, a4, a5, a6, t, rfl, ht⟩ eρ
      simp only [List.cons_append, List.nil_append] at eρ
      subst eρ
      refine To.ite (fun ct => ?_) (fun ct => ?_) <;> simp only [X.den, X.dens, X.denss, D.int_i, D.boo_b, D.str_s, D.rows_l, List.getD_cons_zero, List.getD_cons_succ, List.cons_append, List.nil_append, List.append_nil, List.length_cons, List.length_nil] at ct
      · refine To.ret (.inr ⟨rfl, .inl ⟨_, _, _, rfl, ?_⟩⟩)
        unfold vd
        rw [if_neg (by omega), if_neg (fun h => ht.1 ct (h i i0 (by omega)))]
      · refine To.ret (.inl ⟨rfl, m - 1, by omega, ?_⟩)
        simp (disch := omega) only [X.den, X.dens, X.denss, D.int_i, D.boo_b, D.str_s, D.rows_l, List.getD_cons_zero, List.getD_cons_succ, List.cons_append, List.nil_append, List.append_nil, List.length_cons, List.length_nil, wr64]
        refine ⟨_, rfl, by omega, by omega, fun j j0 j1 => ?_⟩
        by_cases e : j = i
        · subst e
          exact Classical.byContradiction fun q => by rw [ht.2 q] at ct; cases ct
        · exact hj j j0 (by omega)
    · refine To.ret (.inr ⟨rfl, .inr ⟨_, _, _, rfl, vd_of (by omega) fun j j0 j1 => hj j j0 (by omega)⟩⟩)
  · rintro o ρ2 (⟨a, b, d, rfl, h⟩ | ⟨a, b, d, rfl, h⟩) eρ
    · simp only [List.cons_append, List.nil_append] at eρ
      subst eρ
      refine ⟨rfl, To.yes rfl (To.ret ?_)⟩
      simp only [X.den, X.dens, X.denss, D.int_i, D.boo_b, D.str_s, D.rows_l, List.getD_cons_zero, List.getD_cons_succ, List.cons_append, List.nil_append, List.append_nil, List.length_cons, List.length_nil, h]
    · simp only [List.cons_append, List.nil_append] at eρ
      subst eρ
      refine ⟨rfl, To.no rfl (To.ret ?_)⟩
      simp only [X.den, X.dens, X.denss, D.int_i, D.boo_b, D.str_s, D.rows_l, List.getD_cons_zero, List.getD_cons_succ, List.cons_append, List.nil_append, List.append_nil, List.length_cons, List.length_nil, h]
theorem rVal13_ok : ConOk Try.prog rVal13_K (rVal13_T.run noM 30) := con_run follows no_cons rVal13_t rfl 30
def rreM : Models := Models.on rVal13_K.f (rVal13_T.run noM 30) noM
theorem rreach_gen {l : List (List D)} : ∃ o, rRea13_T.run rreM 30 [.l l] = some o ∧ o = [.i (reS l 0), .i (reS l 1), .i (vd l)] := by
  refine run_to ?_
  unfold rRea13_T
  refine To.viaK (by (try simp (disch := omega) only [X.den, X.dens, X.denss, D.int_i, D.boo_b, D.str_s, D.rows_l, List.getD_cons_zero, List.getD_cons_succ, List.cons_append, List.nil_append, List.append_nil, List.length_cons, List.length_nil, decide_eq_true_eq, decide_eq_false_iff_not, Bool.not_eq_true', Bool.not_eq_false', Bool.and_eq_true, Bool.and_eq_false_iff, Bool.true_eq_false, Bool.false_eq_true, Bool.not_true, Bool.not_false, eq_self, D.len_l, wr64, not_true_eq_false, not_false_eq_true]); exact rvalid_gen) ?_
  rintro _ ρ2 rfl eρ
  refine ⟨rfl, ?_⟩
  simp only [List.cons_append, List.nil_append] at eρ
  subst eρ
  refine To.ite (fun c => ?_) (fun c => ?_) <;> simp only [X.den, X.dens, X.denss, D.int_i, D.boo_b, D.str_s, D.rows_l, List.getD_cons_zero, List.getD_cons_succ, List.cons_append, List.nil_append, List.append_nil, List.length_cons, List.length_nil, decide_eq_true_eq, decide_eq_false_iff_not, Bool.not_eq_true', Bool.not_eq_false', Bool.and_eq_true, Bool.and_eq_false_iff, Bool.true_eq_false, Bool.false_eq_true, Bool.not_true, Bool.not_false, eq_self] at c
  · obtain ⟨h8, hv⟩ := vd_zero c
    refine To.loopK (fun m o => ∃ k : Nat, o = [.i (sumf (ce l 0) k), .i (sumf (ce l 1) k), .i k] ∧ k + m = l.length) (fun o => o = [.i (sumf (ce l 0) l.length), .i (sumf (ce l 1) l.length)]) l.length (by omega) ?_ ?_ ?_
    · exact ⟨0, rfl, by omega⟩
    · rintro m o ρ2 ⟨k, rfl, hk⟩ eρ
      simp only [List.cons_append, List.nil_append] at eρ
      subst eρ
      refine To.ite (fun c => ?_) (fun c => ?_) <;> simp only [X.den, X.dens, X.denss, D.int_i, D.boo_b, D.str_s, D.rows_l, List.getD_cons_zero, List.getD_cons_succ, List.cons_append, List.nil_append, List.append_nil, List.length_cons, List.length_nil, decide_eq_true_eq, decide_eq_false_iff_not, Bool.not_eq_true', Bool.not_eq_false', Bool.and_eq_true, Bool.and_eq_false_iff, Bool.true_eq_false, Bool.false_eq_true, Bool.not_true, Bool.not_false, eq_self, D.len_l] at c
      · refine To.need (by simp only [X.den, X.dens, X.denss, D.int_i, D.boo_b, D.str_s, D.rows_l, List.getD_cons_zero, List.getD_cons_succ, List.cons_append, List.nil_append, List.append_nil, List.length_cons, List.length_nil, decide_eq_true_eq, decide_eq_false_iff_not, Bool.not_eq_true', Bool.not_eq_false', Bool.and_eq_true, Bool.and_eq_false_iff, Bool.true_eq_false, Bool.false_eq_true, Bool.not_true, Bool.not_false, eq_self, D.len_l]; omega) ?_
        have b := sum_rng hv k (by omega)
        have b2 := sum_rng hv (k + 1) (by omega)
        simp only [sumf] at b2
        refine To.ret (.inl ⟨rfl, m - 1, by omega, k + 1, ?_, by omega⟩)
        simp (disch := omega) only [X.den, X.dens, X.denss, D.int_i, D.boo_b, D.str_s, D.rows_l, List.getD_cons_zero, List.getD_cons_succ, List.cons_append, List.nil_append, List.append_nil, List.length_cons, List.length_nil, wr64, ce_def, sumf, nat_succ]
      · obtain rfl : k = l.length := by omega
        exact To.ret (.inr ⟨rfl, by simp only [X.den, X.dens, X.denss, D.int_i, D.boo_b, D.str_s, D.rows_l, List.getD_cons_zero, List.getD_cons_succ, List.cons_append, List.nil_append, List.append_nil, List.length_cons, List.length_nil]⟩)
    · rintro o ρ2 rfl eρ
      simp only [List.cons_append, List.nil_append] at eρ
      subst eρ
      refine ⟨rfl, To.ret ?_⟩
      simp only [X.den, X.dens, X.denss, D.int_i, D.boo_b, D.str_s, D.rows_l, List.getD_cons_zero, List.getD_cons_succ, List.cons_append, List.nil_append, List.append_nil, List.length_cons, List.length_nil, reS, c, eq_self, if_true]
  · refine To.ret ?_
    simp only [X.den, X.dens, X.denss, D.int_i, D.boo_b, D.str_s, D.rows_l, List.getD_cons_zero, List.getD_cons_succ, List.cons_append, List.nil_append, List.append_nil, List.length_cons, List.length_nil, reS, if_neg c]
theorem rRea13_ok : ConOk Try.prog rRea13_K (rRea13_T.run rreM 30) := con_run follows (one_con (rVal13_ok.to _) no_cons) rRea13_t rfl 30
theorem rinR_gen {l x : List (List D)} (h8 : l.length ≤ 8) : ∃ o, rIns13_T.run noM 30 [.l l, .l x] = some o ∧ o = [.b (inr l x)] := by
  refine run_to ?_
  unfold rIns13_T
  refine To.ite (fun c => ?_) (fun c => ?_) <;> simp only [X.den, X.dens, X.denss, D.int_i, D.boo_b, D.str_s, D.rows_l, List.getD_cons_zero, List.getD_cons_succ, List.cons_append, List.nil_append, List.append_nil, List.length_cons, List.length_nil, decide_eq_true_eq, decide_eq_false_iff_not, Bool.not_eq_true', Bool.not_eq_false', Bool.and_eq_true, Bool.and_eq_false_iff, Bool.true_eq_false, Bool.false_eq_true, Bool.not_true, Bool.not_false, eq_self, D.len_l] at c
  · refine To.loopK (fun m o => ∃ i, o = [.i i] ∧ 0 ≤ i ∧ i + m = l.length ∧ ∀ j : Int, 0 ≤ j → j < i → ce l 0 j ≤ ce x 0 j ∧ ce x 0 j ≤ ce l 1 j) (fun o => (∃ a b d, o = [.i 0, a, b, d] ∧ inr l x = false) ∨ (∃ a b d, o = [.i 1, a, b, d] ∧ inr l x = true)) l.length (by omega) ?_ ?_ ?_
    · exact ⟨0, by simp only [X.den, X.dens, X.denss, D.int_i, D.boo_b, D.str_s, D.rows_l, List.getD_cons_zero, List.getD_cons_succ, List.cons_append, List.nil_append, List.append_nil, List.length_cons, List.length_nil], by omega, by omega, by intro j; omega⟩
    · rintro m o ρ2 ⟨i, rfl, i0, i1, hj⟩ eρ
      simp only [List.cons_append, List.nil_append] at eρ
      subst eρ
      refine To.ite (fun c => ?_) (fun c => ?_) <;> simp only [X.den, X.dens, X.denss, D.int_i, D.boo_b, D.str_s, D.rows_l, List.getD_cons_zero, List.getD_cons_succ, List.cons_append, List.nil_append, List.append_nil, List.length_cons, List.length_nil, decide_eq_true_eq, decide_eq_false_iff_not, Bool.not_eq_true', Bool.not_eq_false', Bool.and_eq_true, Bool.and_eq_false_iff, Bool.true_eq_false, Bool.false_eq_true, Bool.not_true, Bool.not_false, eq_self, D.len_l] at c
      · refine To.need (by simp only [X.den, X.dens, X.denss, D.int_i, D.boo_b, D.str_s, D.rows_l, List.getD_cons_zero, List.getD_cons_succ, List.cons_append, List.nil_append, List.append_nil, List.length_cons, List.length_nil, decide_eq_true_eq, decide_eq_false_iff_not, Bool.not_eq_true', Bool.not_eq_false', Bool.and_eq_true, Bool.and_eq_false_iff, Bool.true_eq_false, Bool.false_eq_true, Bool.not_true, Bool.not_false, eq_self, D.len_l]; omega) ?_
        refine To.joinK (fun o => ∃ t, o = [.b t] ∧ (t = true ↔ ¬ (ce l 0 i ≤ ce x 0 i ∧ ce x 0 i ≤ ce l 1 i))) ?_ ?_
        · refine To.need (by simp only [X.den, X.dens, X.denss, D.int_i, D.boo_b, D.str_s, D.rows_l, List.getD_cons_zero, List.getD_cons_succ, List.cons_append, List.nil_append, List.append_nil, List.length_cons, List.length_nil, decide_eq_true_eq, decide_eq_false_iff_not, Bool.not_eq_true', Bool.not_eq_false', Bool.and_eq_true, Bool.and_eq_false_iff, Bool.true_eq_false, Bool.false_eq_true, Bool.not_true, Bool.not_false, eq_self, D.len_l]; omega) ?_
          (repeat' (refine To.ite (fun c => ?_) (fun c => ?_) <;> simp only [X.den, X.dens, X.denss, D.int_i, D.boo_b, D.str_s, D.rows_l, List.getD_cons_zero, List.getD_cons_succ, List.cons_append, List.nil_append, List.append_nil, List.length_cons, List.length_nil, decide_eq_true_eq, decide_eq_false_iff_not, Bool.not_eq_true', Bool.not_eq_false', Bool.and_eq_true, Bool.and_eq_false_iff, Bool.true_eq_false, Bool.false_eq_true, Bool.not_true, Bool.not_false, eq_self, D.len_l, ce_def] at c))
          all_goals (refine To.ret ⟨rfl, _, rfl, ?_⟩; simp only [X.den, X.dens, X.denss, D.int_i, D.boo_b, D.str_s, D.rows_l, List.getD_cons_zero, List.getD_cons_succ, List.cons_append, List.nil_append, List.append_nil, List.length_cons, List.length_nil, decide_eq_true_eq, decide_eq_false_iff_not, Bool.not_eq_true', Bool.not_eq_false', Bool.and_eq_true, Bool.and_eq_false_iff, Bool.true_eq_false, Bool.false_eq_true, Bool.not_true, Bool.not_false, eq_self, ce_def, true_iff]; omega)
        rintro o ρ2 ⟨t, rfl, ht⟩ eρ
        simp only [List.cons_append, List.nil_append] at eρ
        subst eρ
        refine To.ite (fun ct => ?_) (fun ct => ?_) <;> simp only [X.den, X.dens, X.denss, D.int_i, D.boo_b, D.str_s, D.rows_l, List.getD_cons_zero, List.getD_cons_succ, List.cons_append, List.nil_append, List.append_nil, List.length_cons, List.length_nil] at ct
        · refine To.ret (.inr ⟨rfl, .inl ⟨_, _, _, rfl, ?_⟩⟩)
          exact Bool.eq_false_iff.2 fun q => ht.1 ct ((inr_true.1 q).2 i i0 (by omega))
        · refine To.ret (.inl ⟨rfl, m - 1, by omega, ?_⟩)
          simp (disch := omega) only [X.den, X.dens, X.denss, D.int_i, D.boo_b, D.str_s, D.rows_l, List.getD_cons_zero, List.getD_cons_succ, List.cons_append, List.nil_append, List.append_nil, List.length_cons, List.length_nil, wr64]
          refine ⟨_, rfl, by omega, by omega, fun j j0 j1 => ?_⟩
          by_cases e : j = i
          · subst e
            exact Classical.byContradiction fun q => by rw [ht.2 q] at ct; cases ct
          · exact hj j j0 (by omega)
      · refine To.ret (.inr ⟨rfl, .inr ⟨_, _, _, rfl, inr_true.2 ⟨by omega, fun j j0 j1 => hj j j0 (by omega)⟩⟩⟩)
    · rintro o ρ2 (⟨a, b, d, rfl, h⟩ | ⟨a, b, d, rfl, h⟩) eρ
      · simp only [List.cons_append, List.nil_append] at eρ
        subst eρ
        refine ⟨rfl, To.yes rfl (To.ret ?_)⟩
        simp only [X.den, X.dens, X.denss, D.int_i, D.boo_b, D.str_s, D.rows_l, List.getD_cons_zero, List.getD_cons_succ, List.cons_append, List.nil_append, List.append_nil, List.length_cons, List.length_nil, h]
      · simp only [List.cons_append, List.nil_append] at eρ
        subst eρ
        refine ⟨rfl, To.no rfl (To.ret ?_)⟩
        simp only [X.den, X.dens, X.denss, D.int_i, D.boo_b, D.str_s, D.rows_l, List.getD_cons_zero, List.getD_cons_succ, List.cons_append, List.nil_append, List.append_nil, List.length_cons, List.length_nil, h]
  · refine To.ret ?_
    have : inr l x = false := Bool.eq_false_iff.2 fun q => by have := (inr_true.1 q).1; omega
    simp only [X.den, X.dens, X.denss, D.int_i, D.boo_b, D.str_s, D.rows_l, List.getD_cons_zero, List.getD_cons_succ, List.cons_append, List.nil_append, List.append_nil, List.length_cons, List.length_nil, this]
theorem rIns13_ok : ConOk Try.prog rIns13_K (rIns13_T.run noM 30) := con_run follows no_cons rIns13_t rfl 30
def rsuM : Models := Models.on rVal13_K.f (rVal13_T.run noM 30) (Models.on rIns13_K.f (rIns13_T.run noM 30) noM)
theorem rsum_gen {l x : List (List D)} : ∃ o, rSum13_T.run rsuM 30 [.l l, .l x] = some o ∧ o = [.i (suS l x).1, .i (suS l x).2] := by
  refine run_to ?_
  unfold rSum13_T
  refine To.viaK (by (try simp (disch := omega) only [X.den, X.dens, X.denss, D.int_i, D.boo_b, D.str_s, D.rows_l, List.getD_cons_zero, List.getD_cons_succ, List.cons_append, List.nil_append, List.append_nil, List.length_cons, List.length_nil, decide_eq_true_eq, decide_eq_false_iff_not, Bool.not_eq_true', Bool.not_eq_false', Bool.and_eq_true, Bool.and_eq_false_iff, Bool.true_eq_false, Bool.false_eq_true, Bool.not_true, Bool.not_false, eq_self, D.len_l, wr64, not_true_eq_false, not_false_eq_true]); exact rvalid_gen) ?_
  rintro _ ρ2 rfl eρ
  refine ⟨rfl, ?_⟩
  simp only [List.cons_append, List.nil_append] at eρ
  subst eρ
  refine To.ite (fun c => ?_) (fun c => ?_) <;> simp only [X.den, X.dens, X.denss, D.int_i, D.boo_b, D.str_s, D.rows_l, List.getD_cons_zero, List.getD_cons_succ, List.cons_append, List.nil_append, List.append_nil, List.length_cons, List.length_nil, decide_eq_true_eq, decide_eq_false_iff_not, Bool.not_eq_true', Bool.not_eq_false', Bool.and_eq_true, Bool.and_eq_false_iff, Bool.true_eq_false, Bool.false_eq_true, Bool.not_true, Bool.not_false, eq_self] at c
  · obtain ⟨h8, hv⟩ := vd_zero c
    refine To.ite (fun c2 => ?_) (fun c2 => ?_) <;> simp only [X.den, X.dens, X.denss, D.int_i, D.boo_b, D.str_s, D.rows_l, List.getD_cons_zero, List.getD_cons_succ, List.cons_append, List.nil_append, List.append_nil, List.length_cons, List.length_nil, decide_eq_true_eq, decide_eq_false_iff_not, Bool.not_eq_true', Bool.not_eq_false', Bool.and_eq_true, Bool.and_eq_false_iff, Bool.true_eq_false, Bool.false_eq_true, Bool.not_true, Bool.not_false, eq_self, D.len_l] at c2
    · have c2' : x.length = l.length := by omega
      refine To.viaK (by (try simp (disch := omega) only [X.den, X.dens, X.denss, D.int_i, D.boo_b, D.str_s, D.rows_l, List.getD_cons_zero, List.getD_cons_succ, List.cons_append, List.nil_append, List.append_nil, List.length_cons, List.length_nil, decide_eq_true_eq, decide_eq_false_iff_not, Bool.not_eq_true', Bool.not_eq_false', Bool.and_eq_true, Bool.and_eq_false_iff, Bool.true_eq_false, Bool.false_eq_true, Bool.not_true, Bool.not_false, eq_self, D.len_l, wr64, not_true_eq_false, not_false_eq_true]); exact rinR_gen h8) ?_
      rintro _ ρ2 rfl eρ
      refine ⟨rfl, ?_⟩
      simp only [List.cons_append, List.nil_append] at eρ
      subst eρ
      refine To.ite (fun c3 => ?_) (fun c3 => ?_) <;> simp only [X.den, X.dens, X.denss, D.int_i, D.boo_b, D.str_s, D.rows_l, List.getD_cons_zero, List.getD_cons_succ, List.cons_append, List.nil_append, List.append_nil, List.length_cons, List.length_nil] at c3
      · obtain ⟨_, hr⟩ := inr_true.1 c3
        have hb : ∀ k : Nat, k ≤ l.length → 0 * (k : Int) ≤ sumf (cost l x) k ∧ sumf (cost l x) k ≤ 2500000000 * k := fun k hk => sumf_bound fun i i0 i1 => (cost_rng (hv i i0 (by omega)) (hr i i0 (by omega))).2
        refine To.loopK (fun m o => ∃ k : Nat, o = [.i (sumf (cost l x) k), .i k] ∧ k + m = l.length) (fun o => o = [.i (sumf (cost l x) l.length)]) l.length (by omega) ?_ ?_ ?_
        · exact ⟨0, rfl, by omega⟩
        · rintro m o ρ2 ⟨k, rfl, hk⟩ eρ
          simp only [List.cons_append, List.nil_append] at eρ
          subst eρ
          refine To.ite (fun c => ?_) (fun c => ?_) <;> simp only [X.den, X.dens, X.denss, D.int_i, D.boo_b, D.str_s, D.rows_l, List.getD_cons_zero, List.getD_cons_succ, List.cons_append, List.nil_append, List.append_nil, List.length_cons, List.length_nil, decide_eq_true_eq, decide_eq_false_iff_not, Bool.not_eq_true', Bool.not_eq_false', Bool.and_eq_true, Bool.and_eq_false_iff, Bool.true_eq_false, Bool.false_eq_true, Bool.not_true, Bool.not_false, eq_self, D.len_l] at c
          · refine To.need (by simp only [X.den, X.dens, X.denss, D.int_i, D.boo_b, D.str_s, D.rows_l, List.getD_cons_zero, List.getD_cons_succ, List.cons_append, List.nil_append, List.append_nil, List.length_cons, List.length_nil, decide_eq_true_eq, decide_eq_false_iff_not, Bool.not_eq_true', Bool.not_eq_false', Bool.and_eq_true, Bool.and_eq_false_iff, Bool.true_eq_false, Bool.false_eq_true, Bool.not_true, Bool.not_false, eq_self, D.len_l]; omega) ?_
            refine To.need (by simp only [X.den, X.dens, X.denss, D.int_i, D.boo_b, D.str_s, D.rows_l, List.getD_cons_zero, List.getD_cons_succ, List.cons_append, List.nil_append, List.append_nil, List.length_cons, List.length_nil, decide_eq_true_eq, decide_eq_false_iff_not, Bool.not_eq_true', Bool.not_eq_false', Bool.and_eq_true, Bool.and_eq_false_iff, Bool.true_eq_false, Bool.false_eq_true, Bool.not_true, Bool.not_false, eq_self, D.len_l]; omega) ?_
            have b := hb k (by omega)
            have b2 := cost_rng (hv k (by omega) (by omega)) (hr k (by omega) (by omega))
            have e : ce l 2 k * ce x 0 k * ce x 0 k = cost l x k := rfl
            refine To.ret (.inl ⟨rfl, m - 1, by omega, k + 1, ?_, by omega⟩)
            simp (disch := omega) only [X.den, X.dens, X.denss, D.int_i, D.boo_b, D.str_s, D.rows_l, List.getD_cons_zero, List.getD_cons_succ, List.cons_append, List.nil_append, List.append_nil, List.length_cons, List.length_nil, wr64, ce_def, sumf, nat_succ, e]
          · obtain rfl : k = l.length := by omega
            exact To.ret (.inr ⟨rfl, by simp only [X.den, X.dens, X.denss, D.int_i, D.boo_b, D.str_s, D.rows_l, List.getD_cons_zero, List.getD_cons_succ, List.cons_append, List.nil_append, List.append_nil, List.length_cons, List.length_nil]⟩)
        · rintro o ρ2 rfl eρ
          simp only [List.cons_append, List.nil_append] at eρ
          subst eρ
          refine ⟨rfl, To.ret ?_⟩
          simp only [X.den, X.dens, X.denss, D.int_i, D.boo_b, D.str_s, D.rows_l, List.getD_cons_zero, List.getD_cons_succ, List.cons_append, List.nil_append, List.append_nil, List.length_cons, List.length_nil, suS, if_pos c, if_pos c2', if_pos c3]
      · refine To.ret ?_
        simp only [X.den, X.dens, X.denss, D.int_i, D.boo_b, D.str_s, D.rows_l, List.getD_cons_zero, List.getD_cons_succ, List.cons_append, List.nil_append, List.append_nil, List.length_cons, List.length_nil, suS, if_pos c, if_pos c2', c3, if_neg (show ¬ (false = true) by decide)]
    · refine To.ret ?_
      simp only [X.den, X.dens, X.denss, D.int_i, D.boo_b, D.str_s, D.rows_l, List.getD_cons_zero, List.getD_cons_succ, List.cons_append, List.nil_append, List.append_nil, List.length_cons, List.length_nil, suS, if_pos c, if_neg (show ¬ x.length = l.length by omega)]
  · refine To.ret ?_
    simp only [X.den, X.dens, X.denss, D.int_i, D.boo_b, D.str_s, D.rows_l, List.getD_cons_zero, List.getD_cons_succ, List.cons_append, List.nil_append, List.append_nil, List.length_cons, List.length_nil, suS, if_neg c]
theorem rSum13_ok : ConOk Try.prog rSum13_K (rSum13_T.run rsuM 30) := con_run follows (one_con (rVal13_ok.to _) (one_con (rIns13_ok.to _) no_cons)) rSum13_t rfl 30
end Go.Proofs.Ytlhnhidoljfnnaa
