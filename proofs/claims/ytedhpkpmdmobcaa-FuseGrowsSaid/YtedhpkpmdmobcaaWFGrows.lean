/- FuseGrows: a bound grows by the speed for each tick, in one step or in two, never beyond its limit, and weights fall with the error. -/
import Derived.Test.YtedhpkpmdmobcaaFgT
set_option linter.unusedVariables false
set_option linter.unusedSimpArgs false
namespace Go.Proofs.Ytedhpkpmdmobcaa
open Go.RowKit Fx
def fgM : Models := Models.on sane09_K.f (fun _ => some [.b true]) noM
theorem quo_fall {k m : Int} (hk : 0 < k) (h : k ≤ m) : (1000000000 : Int) / m ≤ 1000000000 / k := by
  have m0 : 0 < m := by omega
  rw [Int.le_ediv_iff_mul_le hk]
  have a := Int.mul_ediv_self_le (x := 1000000000) (k := m) (by omega)
  have b := Int.ediv_nonneg (a := 1000000000) (b := m) (by decide) (by omega)
  have c := Int.mul_le_mul_of_nonneg_left h b
  have d := Int.mul_comm m (1000000000 / m)
  omega
theorem FuseGrows_ok : ConOk Try.prog fGrows_K fun ds => match ds with | [.i a, .i b, .i c, .i d, .i e] => if (0 ≤ a ∧ a ≤ 65535) ∧ (0 ≤ b ∧ b ≤ 255) ∧ (0 ≤ c ∧ c ≤ 65535) ∧ (0 ≤ d ∧ d ≤ 65535) ∧ 0 ≤ e ∧ e ≤ 65535 then some [.b true] else none | _ => none :=
  con_of follows (M := fgM) (one_con (sane09_ok.to _) no_cons) fGrows_t fun ds outs hl h => by
    split at h
    · rename_i a b c d e
      split at h
      · rename_i hb
        injection h with h
        subst h
        refine ⟨fun i l h k => ?_, 0, ?_⟩
        · match i, k with
          | 0, k | 1, k | 2, k | 3, k | 4, k => simp [fGrows_K] at k; obtain ⟨rfl, rfl⟩ := k; simp [D.int]; omega
          | i + 5, k => simp [fGrows_K] at k
        unfold fGrows_T
        have m1 := Int.mul_nonneg hb.2.1.1 hb.2.2.1.1
        have m2 := Int.mul_nonneg hb.2.1.1 hb.2.2.2.1.1
        have m3 := Int.mul_le_mul hb.2.1.2 hb.2.2.1.2 hb.2.2.1.1 (show (0 : Int) ≤ 255 by decide)
        have m4 := Int.mul_le_mul hb.2.1.2 hb.2.2.2.1.2 hb.2.2.2.1.1 (show (0 : Int) ≤ 255 by decide)
        have k1 : 0 < (1 + e) * (1 + e) := Int.mul_pos (by omega) (by omega)
        have k2 : (1 + e) * (1 + e) ≤ (1 + e + 1) * (1 + e + 1) := Int.mul_le_mul (by omega) (by omega) (by omega) (by omega)
        have q1 := quo_fall k1 k2
        have q2 := Int.ediv_nonneg (a := 1000000000) (b := (1 + e) * (1 + e)) (by decide) (by omega)
        have q3 := Int.ediv_nonneg (a := 1000000000) (b := (1 + e + 1) * (1 + e + 1)) (by decide) (by omega)
        have q4 := Int.ediv_le_self (a := 1000000000) ((1 + e) * (1 + e)) (by decide)
        have e1 : IntKind.i64.wrap ((1000000000 : Int).tdiv ((1 + e) * (1 + e))) = 1000000000 / ((1 + e) * (1 + e)) := by
          rw [Int.tdiv_eq_ediv_of_nonneg (by decide)]; exact wr64 (by omega) (by omega)
        have e2 : IntKind.i64.wrap ((1000000000 : Int).tdiv ((1 + e + 1) * (1 + e + 1))) = 1000000000 / ((1 + e + 1) * (1 + e + 1)) := by
          rw [Int.tdiv_eq_ediv_of_nonneg (by decide)]; exact wr64 (by omega) (by omega)
        have s : b * (c + d) = b * c + b * d := Int.mul_add b c d
        refine To.join (fun l => l = [.b true]) ?_ ?_
        · refine To.yes (by simp only [X.den, X.dens, X.denss, D.int_i, D.boo_b, D.str_s, D.rows_l, List.getD_cons_zero, List.getD_cons_succ, List.cons_append, List.nil_append, List.append_nil, List.length_cons, List.length_nil, decide_eq_true_eq, decide_eq_false_iff_not, Bool.not_eq_true', Bool.not_eq_false', Bool.and_eq_true, Bool.and_eq_false_iff, Bool.true_eq_false, Bool.false_eq_true, Bool.not_true, Bool.not_false, eq_self, s]; omega) (To.no (by simp only [X.den, X.dens, X.denss, D.int_i, D.boo_b, D.str_s, D.rows_l, List.getD_cons_zero, List.getD_cons_succ, List.cons_append, List.nil_append, List.append_nil, List.length_cons, List.length_nil, decide_eq_true_eq, decide_eq_false_iff_not, Bool.not_eq_true', Bool.not_eq_false', Bool.and_eq_true, Bool.and_eq_false_iff, Bool.true_eq_false, Bool.false_eq_true, Bool.not_true, Bool.not_false, eq_self, s]; omega) (To.no (by simp only [X.den, X.dens, X.denss, D.int_i, D.boo_b, D.str_s, D.rows_l, List.getD_cons_zero, List.getD_cons_succ, List.cons_append, List.nil_append, List.append_nil, List.length_cons, List.length_nil, decide_eq_true_eq, decide_eq_false_iff_not, Bool.not_eq_true', Bool.not_eq_false', Bool.and_eq_true, Bool.and_eq_false_iff, Bool.true_eq_false, Bool.false_eq_true, Bool.not_true, Bool.not_false, eq_self, e1, e2]; omega) (To.call (l := [.b true]) rfl rfl (To.ret ⟨rfl, rfl⟩))))
        rintro l rfl
        exact To.ret rfl
      · cases h
    · cases h
theorem FuseGrows_walk {w : World} (a : Int) (ha : (Lit.int .u16 a).wf = true) (b : Int) (hb : (Lit.int .u8 b).wf = true) (c : Int) (hc : (Lit.int .u16 c).wf = true) (d : Int) (hd : (Lit.int .u16 d).wf = true) (e : Int) (he : (Lit.int .u16 e).wf = true) : Calls Try.prog 3 #[.int .u16 a, .int .u8 b, .int .u16 c, .int .u16 d, .int .u16 e] w fun e w' => e = .returned (.bool true) ∧ Below w.heap.size w w' :=
  con_law FuseGrows_ok rfl (fun G hG => args_int (args_int (args_int (args_int (args_int (by trivial)))))) (by simp [fGrows_K]) (ds := [.i a, .i b, .i c, .i d, .i e]) (by
    have := bounds_u16 ha
    have := bounds_u8 hb
    have := bounds_u16 hc
    have := bounds_u16 hd
    have := bounds_u16 he
    exact if_pos (by omega))
end Go.Proofs.Ytedhpkpmdmobcaa
