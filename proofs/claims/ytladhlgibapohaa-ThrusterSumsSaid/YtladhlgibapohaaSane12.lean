/- The example of law 12. -/
import Derived.Test.YtladhlgibapohaaThr
import Derived.Test.YtladhlgibapohaaClone
set_option linter.unusedVariables false
set_option linter.unusedSimpArgs false
namespace Go.Proofs.Ytladhlgibapohaa
open Go.RowKit Fx
noncomputable def s12M : Models := Models.on tPower_K.f (tPower_T.run pwM 0) (Models.on tMost_K.f (tMost_T.run msM 0) (Models.on clone_K.f cloneR noM))
theorem sane12_ok : ConOk Try.prog sane12_K fun _ => some [.b true] :=
  con_of follows (M := s12M) (one_con (tPower_ok.to _) (one_con (tMost_ok.to _) (one_con (clone_ok.to _) no_cons))) sane12_t fun ds outs hl h => by
    injection h with h
    subst h
    obtain rfl : ds = [] := List.length_eq_zero_iff.1 hl
    refine ⟨fun i l h k => by simp [sane12_K] at k, 0, ?_⟩
    have th : ThrOk 2 0 500 0 3 [] := by refine ⟨by decide, .inl rfl, by decide, by decide, by decide, by decide, by simp⟩
    unfold sane12_T
    refine To.viaK (by (try simp (disch := omega) only [X.den, X.dens, X.denss, D.int_i, D.boo_b, D.str_s, D.rows_l, List.getD_cons_zero, List.getD_cons_succ, List.cons_append, List.nil_append, List.append_nil, List.length_cons, List.length_nil, decide_eq_true_eq, decide_eq_false_iff_not, Bool.not_eq_true', Bool.not_eq_false', Bool.and_eq_true, Bool.and_eq_false_iff, Bool.true_eq_false, Bool.false_eq_true, Bool.not_true, Bool.not_false, eq_self, D.len_l, wr64, not_true_eq_false, not_false_eq_true]); exact power_to th (x := 100) (y := 0) (by omega) (by omega) (by omega) (by omega)) ?_
    rintro _ ρ2 ⟨a, rfl, a0, a1, a2⟩ eρ
    refine ⟨rfl, ?_⟩
    simp only [List.cons_append, List.nil_append] at eρ
    subst eρ
    refine To.viaK (by (try simp (disch := omega) only [X.den, X.dens, X.denss, D.int_i, D.boo_b, D.str_s, D.rows_l, List.getD_cons_zero, List.getD_cons_succ, List.cons_append, List.nil_append, List.append_nil, List.length_cons, List.length_nil, decide_eq_true_eq, decide_eq_false_iff_not, Bool.not_eq_true', Bool.not_eq_false', Bool.and_eq_true, Bool.and_eq_false_iff, Bool.true_eq_false, Bool.false_eq_true, Bool.not_true, Bool.not_false, eq_self, D.len_l, wr64, not_true_eq_false, not_false_eq_true]); exact power_to th (x := 10) (y := 0) (by omega) (by omega) (by omega) (by omega)) ?_
    rintro _ ρ2 ⟨b, rfl, b0, b1, b2⟩ eρ
    refine ⟨rfl, ?_⟩
    simp only [List.cons_append, List.nil_append] at eρ
    subst eρ
    obtain rfl : a = 30 := by omega
    obtain rfl : b = 1 := by omega
    refine To.subK (fun K hK => ?_)
    refine To.yes rfl (To.yes rfl (To.yes rfl (To.yes rfl ?_)))
    refine To.viaK (by (try simp (disch := omega) only [X.den, X.dens, X.denss, D.int_i, D.boo_b, D.str_s, D.rows_l, List.getD_cons_zero, List.getD_cons_succ, List.cons_append, List.nil_append, List.append_nil, List.length_cons, List.length_nil, decide_eq_true_eq, decide_eq_false_iff_not, Bool.not_eq_true', Bool.not_eq_false', Bool.and_eq_true, Bool.and_eq_false_iff, Bool.true_eq_false, Bool.false_eq_true, Bool.not_true, Bool.not_false, eq_self, D.len_l, wr64, not_true_eq_false, not_false_eq_true]); exact most_to th (p := 30) (by omega) (by omega)) ?_
    rintro _ ρ2 ⟨m, rfl, e⟩ eρ
    refine ⟨rfl, ?_⟩
    simp only [List.cons_append, List.nil_append] at eρ
    subst eρ
    have e : m = 100 := by
      unfold MostOk at e
      apply Int.le_antisymm
      · apply Int.not_lt.1
        intro h
        have := Int.mul_le_mul (show 101 ≤ m by omega) (show 101 ≤ m by omega) (by decide) (by omega)
        omega
      · apply Int.not_lt.1
        intro h
        have := Int.mul_le_mul (show m + 1 ≤ 100 by omega) (show m + 1 ≤ 100 by omega) (by omega) (by decide)
        omega
    subst e
    refine To.yes rfl ?_
    refine To.callK (l := [.l []]) (show cloneR [.l []] = some [.l []] from cloneR_to (by decide)) rfl _ (by simp only [List.cons_append, List.nil_append]; first | done | rfl) ?_
    refine To.ret ⟨rfl, hK _ _ (by simp only [X.den, X.dens, X.denss, D.int_i, D.boo_b, D.str_s, D.rows_l, List.getD_cons_zero, List.getD_cons_succ, List.cons_append, List.nil_append, List.append_nil, List.length_cons, List.length_nil]; rfl) ?_⟩
    refine To.ret ?_
    simp only [X.den, X.dens, X.denss, D.int_i, D.boo_b, D.str_s, D.rows_l, List.getD_cons_zero, List.getD_cons_succ, List.cons_append, List.nil_append, List.append_nil, List.length_cons, List.length_nil]
end Go.Proofs.Ytladhlgibapohaa
