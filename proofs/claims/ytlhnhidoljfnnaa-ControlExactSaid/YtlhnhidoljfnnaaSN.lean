/- A source of numbers: one number. -/
import Derived.Test.YtlhnhidoljfnnaaTot
set_option linter.unusedVariables false
set_option linter.unusedSimpArgs false
namespace Go.Proofs.Ytlhnhidoljfnnaa
open Go.RowKit Fx
def srcN_K : Con := ⟨26, [.ptr [.sl [.int .i64], .int .i64], .val false [.int .i64]], [.val false [.int .i64]], []⟩
def srcN_T : T (List X) :=
  (.ite (.lt (.V 1) (.len (.V 0)))
  (.need (.and (.not (.lt (.wr .i64 (.sub (.wr .i64 (.add (.V 1) (.N 1))) (.N 1))) (.N 0))) (.lt (.wr .i64 (.sub (.wr .i64 (.add (.V 1) (.N 1))) (.N 1))) (.len (.V 0))))
   (.sub (.ite (.lt (.V 2) (.N 1))
     (.ret [(.N 0)])
     (.need (.not (.eq (.V 2) (.N 0)))
      (.ret [(.rem (.wr .i64 (.add (.rem (.at (.V 0) (.wr .i64 (.sub (.wr .i64 (.add (.V 1) (.N 1))) (.N 1))) 0) (.V 2)) (.V 2))) (.V 2))]))) 1
    (.ret [(.V 3), (.V 0), (.wr .i64 (.add (.V 1) (.N 1)))])))
  (.ret [(.N 0), (.V 0), (.V 1)]))
set_option maxRecDepth 100000 in
theorem srcN_t : runS Try.prog [] [] srcN_K = srcN_T := by kernel_rfl
def srcM : Models := Models.on srcN_K.f (srcN_T.run noM 0) noM
theorem srcN_ok : ConOk Try.prog srcN_K (srcN_T.run noM 0) := con_run follows no_cons srcN_t rfl 0
/-- a source: its numbers, and how many have been given -/
def SrcOk (rows : List (List D)) (at_ : Int) : Prop := 0 ≤ at_ ∧ at_ ≤ rows.length ∧ rows.length ≤ 600
theorem srcN_to {rows : List (List D)} {at_ n : Int} (h : SrcOk rows at_) (h1 : 1 ≤ n) (h2 : n ≤ 4611686018427387904) :
    ∃ l, srcN_T.run noM 0 [.l rows, .i at_, .i n] = some l ∧ ∃ r at', l = [.i r, .l rows, .i at'] ∧ 0 ≤ r ∧ r < n ∧ SrcOk rows at' := by
  obtain ⟨a, b, c⟩ := h
  refine run_to ?_
  unfold srcN_T
  refine To.ite (fun c1 => ?_) fun c1 => ?_
  · simp only [X.den, X.dens, X.denss, D.int_i, D.boo_b, D.str_s, D.rows_l, List.getD_cons_zero, List.getD_cons_succ, List.cons_append, List.nil_append, List.append_nil, List.length_cons, List.length_nil, D.len_l, decide_eq_true_eq] at c1
    refine To.need ?_ (To.sub (To.no ?_ (To.need ?_ (To.ret ⟨rfl, To.ret ?_⟩))))
    · simp only [X.den, X.dens, X.denss, D.int_i, D.boo_b, D.str_s, D.rows_l, List.getD_cons_zero, List.getD_cons_succ, List.cons_append, List.nil_append, List.append_nil, List.length_cons, List.length_nil, D.len_l, Bool.and_eq_true, Bool.not_eq_true', decide_eq_true_eq, decide_eq_false_iff_not]
      rw [wr64 (z := at_ + 1) (by omega) (by omega), wr64 (by omega) (by omega)]
      omega
    · simp only [X.den, X.dens, X.denss, D.int_i, D.boo_b, D.str_s, D.rows_l, List.getD_cons_zero, List.getD_cons_succ, List.cons_append, List.nil_append, List.append_nil, List.length_cons, List.length_nil, decide_eq_false_iff_not]; omega
    · simp only [X.den, X.dens, X.denss, D.int_i, D.boo_b, D.str_s, D.rows_l, List.getD_cons_zero, List.getD_cons_succ, List.cons_append, List.nil_append, List.append_nil, List.length_cons, List.length_nil, Bool.not_eq_true', decide_eq_false_iff_not]; omega
    · simp only [X.den, X.dens, X.denss, D.int_i, D.boo_b, D.str_s, D.rows_l, List.getD_cons_zero, List.getD_cons_succ, List.cons_append, List.nil_append, List.append_nil, List.length_cons, List.length_nil]
      rw [wr64 (z := at_ + 1) (by omega) (by omega)]
      generalize (D.cell _ _ _).int = x
      obtain ⟨q1, q2, q3, q4⟩ := mod_rng x n h1
      rw [wr64 (z := x.tmod n + n) (by omega) (by omega)]
      exact ⟨_, _, rfl, q1, q2, by omega, by omega, c⟩
  · simp only [X.den, X.dens, X.denss, D.int_i, D.boo_b, D.str_s, D.rows_l, List.getD_cons_zero, List.getD_cons_succ, List.cons_append, List.nil_append, List.append_nil, List.length_cons, List.length_nil, D.len_l, decide_eq_false_iff_not] at c1
    refine To.ret ?_
    simp only [X.den, X.dens, X.denss, D.int_i, D.boo_b, D.str_s, D.rows_l, List.getD_cons_zero, List.getD_cons_succ, List.cons_append, List.nil_append, List.append_nil, List.length_cons, List.length_nil]
    exact ⟨_, _, rfl, by omega, by omega, a, b, c⟩
theorem cell_of {r : List (List D)} {i : Int} {c : Nat} : (D.l r).cell i c = (r.getD i.toNat []).getD c (.i 0) := rfl
theorem four {p : Int → Prop} {r : Int} (h0 : 0 ≤ r) (h1 : r < 4) (a : p 0) (b : p 1) (c : p 2) (d : p 3) : p r := by
  rcases (by omega : r = 0 ∨ r = 1 ∨ r = 2 ∨ r = 3) with e | e | e | e <;> subst e <;> assumption
theorem three {p : Int → Prop} {r : Int} (h0 : 0 ≤ r) (h1 : r < 3) (a : p 0) (b : p 1) (c : p 2) : p r := by
  rcases (by omega : r = 0 ∨ r = 1 ∨ r = 2) with e | e | e <;> subst e <;> assumption
theorem two {p : Int → Prop} {r : Int} (h0 : 0 ≤ r) (h1 : r < 2) (a : p 0) (b : p 1) : p r := by
  rcases (by omega : r = 0 ∨ r = 1) with e | e <;> subst e <;> assumption
end Go.Proofs.Ytlhnhidoljfnnaa
