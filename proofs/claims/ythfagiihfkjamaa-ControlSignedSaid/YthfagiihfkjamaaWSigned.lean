/- ControlSigned. -/
import Derived.Test.YthfagiihfkjamaaSane24
import Derived.Test.YthfagiihfkjamaaKit
set_option linter.unusedVariables false
set_option linter.unusedSimpArgs false
namespace Go.Proofs.Ythfagiihfkjamaa
open Go.RowKit Fx
def ctlSigned_K : Con := ⟨8, [.val false [.int .i64]], [.val false [.bool]], []⟩
def ctlSigned_T : T (List X) :=
  (.sub (.ite (.lt (.rem (.rem (.V 0) (.N 1099511627776)) (.N 3600)) (.N 0))
   (.ret [(.add (.rem (.rem (.V 0) (.N 1099511627776)) (.N 3600)) (.N 3600))])
   (.ret [(.rem (.rem (.V 0) (.N 1099511627776)) (.N 3600))])) 1
  (.sub (.ite (.lt (.V 1) (.N 1800))
    (.ret [(.V 1)])
    (.ret [(.sub (.V 1) (.N 3600))])) 1
   (.sub (.ite (.lt (.V 2) (.N (-1800)))
     (.ret [(.B false)])
     (.ite (.lt (.V 2) (.N 1800))
      (.ite (.eq (.rem (.sub (.rem (.V 0) (.N 1099511627776)) (.V 2)) (.N 3600)) (.N 0))
       (.sub (.ite (.lt (.rem (.V 2) (.N 3600)) (.N 0))
         (.ret [(.add (.rem (.V 2) (.N 3600)) (.N 3600))])
         (.ret [(.rem (.V 2) (.N 3600))])) 1
        (.sub (.ite (.lt (.V 3) (.N 1800))
          (.ret [(.V 3)])
          (.ret [(.sub (.V 3) (.N 3600))])) 1
         (.ite (.eq (.V 4) (.V 2))
          (.call 15 [] 1
           (.ret [(.V 5)]))
          (.ret [(.B false)]))))
       (.ret [(.B false)]))
      (.ret [(.B false)]))) 1
    (.ret [(.V 3)]))))
set_option maxRecDepth 100000 in
theorem ctlSigned_t : runS Try.prog [sane24_K.to []] [] ctlSigned_K = ctlSigned_T := by kernel_rfl
def law24M : Models := Models.on sane24_K.f (fun _ => some [.b true]) noM
def sgn (n : Int) : Int := if n < 1800 then n else n - 3600
theorem ctlSigned_ok : ConOk Try.prog ctlSigned_K fun _ => some [.b true] :=
  con_of follows (M := law24M) (one_con (sane24_ok.to _) no_cons) ctlSigned_t fun ds outs hl h => by
    injection h with h
    subst h
    refine ⟨fun i l h k => by simp [ctlSigned_K] at k, 0, ?_⟩
    match ds, hl with
    | [d], _ =>
    unfold ctlSigned_T
    refine To.pick1 (by simp only [X.den, X.dens, X.denss, D.int_i, D.boo_b, D.str_s, D.rows_l, List.getD_cons_zero, List.getD_cons_succ, List.cons_append, List.nil_append, List.append_nil, List.length_cons, List.length_nil]; rfl) (by simp only [X.den, X.dens, X.denss, D.int_i, D.boo_b, D.str_s, D.rows_l, List.getD_cons_zero, List.getD_cons_succ, List.cons_append, List.nil_append, List.append_nil, List.length_cons, List.length_nil]; rfl) (by simp only [X.den, X.dens, X.denss, D.int_i, D.boo_b, D.str_s, D.rows_l, List.getD_cons_zero, List.getD_cons_succ, List.cons_append, List.nil_append, List.append_nil, List.length_cons, List.length_nil]; rfl) ?_; simp only [List.cons_append, List.nil_append, norm_if]
    refine To.pick1 (by simp only [X.den, X.dens, X.denss, D.int_i, D.boo_b, D.str_s, D.rows_l, List.getD_cons_zero, List.getD_cons_succ, List.cons_append, List.nil_append, List.append_nil, List.length_cons, List.length_nil]; rfl) (by simp only [X.den, X.dens, X.denss, D.int_i, D.boo_b, D.str_s, D.rows_l, List.getD_cons_zero, List.getD_cons_succ, List.cons_append, List.nil_append, List.append_nil, List.length_cons, List.length_nil]; rfl) (by simp only [X.den, X.dens, X.denss, D.int_i, D.boo_b, D.str_s, D.rows_l, List.getD_cons_zero, List.getD_cons_succ, List.cons_append, List.nil_append, List.append_nil, List.length_cons, List.length_nil]; rfl) ?_; simp only [List.cons_append, List.nil_append, norm_if]
    generalize hb : (Int.tmod _ 1099511627776) = b
    generalize hn : b % 3600 = n
    have h0 : 0 ≤ n ∧ n < 3600 := by omega
    generalize hs : (if n < 1800 then n else n - 3600) = s
    have h1 : -1800 ≤ s ∧ s < 1800 := by split at hs <;> omega
    have h2 : (b - s).tmod 3600 = 0 := Int.tmod_eq_zero_of_dvd (by split at hs <;> omega)
    have h3 : (if s % 3600 < 1800 then s % 3600 else s % 3600 - 3600) = s := by split <;> omega
    refine To.join (fun l => l = [.b true]) ?_ fun l hl => ?_
    · refine To.no (by simp only [X.den, X.dens, X.denss, D.int_i, D.boo_b, D.str_s, D.rows_l, List.getD_cons_zero, List.getD_cons_succ, List.cons_append, List.nil_append, List.append_nil, List.length_cons, List.length_nil, decide_eq_false_iff_not]; omega) ?_
      refine To.yes (by simp only [X.den, X.dens, X.denss, D.int_i, D.boo_b, D.str_s, D.rows_l, List.getD_cons_zero, List.getD_cons_succ, List.cons_append, List.nil_append, List.append_nil, List.length_cons, List.length_nil, decide_eq_true_eq]; omega) ?_
      refine To.yes (by simp only [X.den, X.dens, X.denss, D.int_i, D.boo_b, D.str_s, D.rows_l, List.getD_cons_zero, List.getD_cons_succ, List.cons_append, List.nil_append, List.append_nil, List.length_cons, List.length_nil, decide_eq_true_eq, hb]; exact h2) ?_
      refine To.pick1 (by simp only [X.den, X.dens, X.denss, D.int_i, D.boo_b, D.str_s, D.rows_l, List.getD_cons_zero, List.getD_cons_succ, List.cons_append, List.nil_append, List.append_nil, List.length_cons, List.length_nil]; rfl) (by simp only [X.den, X.dens, X.denss, D.int_i, D.boo_b, D.str_s, D.rows_l, List.getD_cons_zero, List.getD_cons_succ, List.cons_append, List.nil_append, List.append_nil, List.length_cons, List.length_nil]; rfl) (by simp only [X.den, X.dens, X.denss, D.int_i, D.boo_b, D.str_s, D.rows_l, List.getD_cons_zero, List.getD_cons_succ, List.cons_append, List.nil_append, List.append_nil, List.length_cons, List.length_nil]; rfl) ?_; simp only [List.cons_append, List.nil_append, norm_if]
      refine To.pick1 (by simp only [X.den, X.dens, X.denss, D.int_i, D.boo_b, D.str_s, D.rows_l, List.getD_cons_zero, List.getD_cons_succ, List.cons_append, List.nil_append, List.append_nil, List.length_cons, List.length_nil]; rfl) (by simp only [X.den, X.dens, X.denss, D.int_i, D.boo_b, D.str_s, D.rows_l, List.getD_cons_zero, List.getD_cons_succ, List.cons_append, List.nil_append, List.append_nil, List.length_cons, List.length_nil]; rfl) (by simp only [X.den, X.dens, X.denss, D.int_i, D.boo_b, D.str_s, D.rows_l, List.getD_cons_zero, List.getD_cons_succ, List.cons_append, List.nil_append, List.append_nil, List.length_cons, List.length_nil]; rfl) ?_; simp only [List.cons_append, List.nil_append, norm_if]
      refine To.yes (by simp only [X.den, X.dens, X.denss, D.int_i, D.boo_b, D.str_s, D.rows_l, List.getD_cons_zero, List.getD_cons_succ, List.cons_append, List.nil_append, List.append_nil, List.length_cons, List.length_nil, decide_eq_true_eq]; exact h3) ?_
      refine To.call (l := [.b true]) rfl rfl (To.ret ⟨rfl, ?_⟩)
      simp only [X.den, X.dens, X.denss, D.int_i, D.boo_b, D.str_s, D.rows_l, List.getD_cons_zero, List.getD_cons_succ, List.cons_append, List.nil_append, List.append_nil, List.length_cons, List.length_nil]
    · subst hl
      refine To.ret ?_
      simp only [X.den, X.dens, X.denss, D.int_i, D.boo_b, D.str_s, D.rows_l, List.getD_cons_zero, List.getD_cons_succ, List.cons_append, List.nil_append, List.append_nil, List.length_cons, List.length_nil]
theorem ControlSigned_walk {w : World} (a : Int) (h : (Lit.int .i64 a).wf = true) : Calls Try.prog 8 #[.int .i64 a] w fun e w' => e = .returned (.bool true) ∧ Below w.heap.size w w' :=
  con_law ctlSigned_ok rfl (fun G hG => args_int (by trivial)) (by simp [ctlSigned_K]) (ds := [.i a]) rfl
end Go.Proofs.Ythfagiihfkjamaa
