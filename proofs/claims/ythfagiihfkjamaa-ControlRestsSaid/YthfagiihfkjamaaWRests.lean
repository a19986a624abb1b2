/- ControlRests. -/
import Derived.Test.YthfagiihfkjamaaRestsT
set_option linter.unusedVariables false
set_option linter.unusedSimpArgs false
namespace Go.Proofs.Ythfagiihfkjamaa
open Go.RowKit Fx
def ctlM : Models := Models.on srcGains_K.f (srcGains_T.run srcM 0) (Models.on srcPoint_K.f (srcPoint_T.run srcM 0) (Models.on fxSin_K.f (fxSin_T.run noM 0) (Models.on fxCos_K.f (fxCos_T.run noM 0) (Models.on sane24_K.f (fun _ => some [.b true]) noM))))
theorem rests_ok : ConOk Try.prog rests_K fun ds => match ds with | [.l _] => some [.b true] | _ => none :=
  con_of follows (M := ctlM) (one_con (srcGains_ok.to _) (one_con (srcPoint_ok.to _) (one_con (fxSin_ok.to _) (one_con (fxCos_ok.to _) (one_con (sane24_ok.to _) no_cons))))) rests_t fun ds outs hl h => by
    split at h
    · rename_i rows
      injection h with h
      subst h
      refine ⟨fun i l h k => by simp [rests_K] at k, 0, ?_⟩
      unfold rests_T
      refine To.ite (fun c => ?_) (fun c => ?_)
      · refine To.call (l := [.b true]) rfl rfl (To.ret ?_)
        simp only [X.den, X.dens, X.denss, D.int_i, D.boo_b, D.str_s, D.rows_l, List.getD_cons_zero, List.getD_cons_succ, List.cons_append, List.nil_append, List.append_nil, List.length_cons, List.length_nil]
      simp only [X.den, X.dens, X.denss, D.int_i, D.boo_b, D.str_s, D.rows_l, List.getD_cons_zero, List.getD_cons_succ, List.cons_append, List.nil_append, List.append_nil, List.length_cons, List.length_nil, D.len_l, decide_eq_false_iff_not] at c
      refine To.need (by simp only [X.den, X.dens, X.denss, D.int_i, D.boo_b, D.str_s, D.rows_l, List.getD_cons_zero, List.getD_cons_succ, List.cons_append, List.nil_append, List.append_nil, List.length_cons, List.length_nil, D.len_l, Bool.and_eq_true, Bool.not_eq_true', decide_eq_true_eq, decide_eq_false_iff_not]; omega) ?_
      have s0 : SrcOk (rows.take (min (min (rows.length : Int) 9223372036854775807) 600).toNat) 0 := ⟨by omega, by omega, by rw [List.length_take]; omega⟩
      refine To.via (srcGains_to s0) ?_
      rintro l ⟨g0, g1, g2, g3, g4, g5, g6, g7, g8, at1, rfl, b1, b2, b3, b4, b5, b6, b7, b8, b9, b10, b11, b12, b13, b14, b15, b16, b17, b18, s1⟩
      refine ⟨rfl, ?_⟩
      simp only [List.cons_append, List.nil_append]
      clear s0
      generalize (List.take _ _ : List (List D)) = rs at s1 ⊢
      have s1' := s1
      obtain ⟨t1, t2, t3⟩ := s1'
      refine To.need (by simp only [X.den, X.dens, X.denss, D.int_i, D.boo_b, D.str_s, D.rows_l, List.getD_cons_zero, List.getD_cons_succ, List.cons_append, List.nil_append, List.append_nil, List.length_cons, List.length_nil, D.len_l, Bool.and_eq_true, Bool.not_eq_true', decide_eq_true_eq, decide_eq_false_iff_not]; omega) ?_
      refine To.need (by simp only [X.den, X.dens, X.denss, D.int_i, D.boo_b, D.str_s, D.rows_l, List.getD_cons_zero, List.getD_cons_succ, List.cons_append, List.nil_append, List.append_nil, List.length_cons, List.length_nil, D.len_l, Bool.and_eq_true, Bool.not_eq_true', decide_eq_true_eq, decide_eq_false_iff_not]; omega) ?_
      refine To.need (by simp only [X.den, X.dens, X.denss, D.int_i, D.boo_b, D.str_s, D.rows_l, List.getD_cons_zero, List.getD_cons_succ, List.cons_append, List.nil_append, List.append_nil, List.length_cons, List.length_nil, D.len_l, Bool.and_eq_true, Bool.not_eq_true', decide_eq_true_eq, decide_eq_false_iff_not]; omega) ?_
      refine To.need (by simp only [X.den, X.dens, X.denss, D.int_i, D.boo_b, D.str_s, D.rows_l, List.getD_cons_zero, List.getD_cons_succ, List.cons_append, List.nil_append, List.append_nil, List.length_cons, List.length_nil, D.len_l, Bool.and_eq_true, Bool.not_eq_true', decide_eq_true_eq, decide_eq_false_iff_not]; omega) ?_
      refine To.need (by simp only [X.den, X.dens, X.denss, D.int_i, D.boo_b, D.str_s, D.rows_l, List.getD_cons_zero, List.getD_cons_succ, List.cons_append, List.nil_append, List.append_nil, List.length_cons, List.length_nil, D.len_l, Bool.and_eq_true, Bool.not_eq_true', decide_eq_true_eq, decide_eq_false_iff_not]; omega) ?_
      refine To.need (by simp only [X.den, X.dens, X.denss, D.int_i, D.boo_b, D.str_s, D.rows_l, List.getD_cons_zero, List.getD_cons_succ, List.cons_append, List.nil_append, List.append_nil, List.length_cons, List.length_nil, D.len_l, Bool.and_eq_true, Bool.not_eq_true', decide_eq_true_eq, decide_eq_false_iff_not]; omega) ?_
      refine To.need (by simp only [X.den, X.dens, X.denss, D.int_i, D.boo_b, D.str_s, D.rows_l, List.getD_cons_zero, List.getD_cons_succ, List.cons_append, List.nil_append, List.append_nil, List.length_cons, List.length_nil, D.len_l, Bool.and_eq_true, Bool.not_eq_true', decide_eq_true_eq, decide_eq_false_iff_not]; omega) ?_
      refine To.need (by simp only [X.den, X.dens, X.denss, D.int_i, D.boo_b, D.str_s, D.rows_l, List.getD_cons_zero, List.getD_cons_succ, List.cons_append, List.nil_append, List.append_nil, List.length_cons, List.length_nil, D.len_l, Bool.and_eq_true, Bool.not_eq_true', decide_eq_true_eq, decide_eq_false_iff_not]; omega) ?_
      refine To.need (by simp only [X.den, X.dens, X.denss, D.int_i, D.boo_b, D.str_s, D.rows_l, List.getD_cons_zero, List.getD_cons_succ, List.cons_append, List.nil_append, List.append_nil, List.length_cons, List.length_nil, D.len_l, Bool.and_eq_true, Bool.not_eq_true', decide_eq_true_eq, decide_eq_false_iff_not]; omega) ?_
      refine To.need (by simp only [X.den, X.dens, X.denss, D.int_i, D.boo_b, D.str_s, D.rows_l, List.getD_cons_zero, List.getD_cons_succ, List.cons_append, List.nil_append, List.append_nil, List.length_cons, List.length_nil, D.len_l, Bool.and_eq_true, Bool.not_eq_true', decide_eq_true_eq, decide_eq_false_iff_not]; omega) ?_
      refine To.via (srcPoint_to s1) ?_
      rintro l ⟨x, y, at2, rfl, c1, c2, c3, c4, s2⟩
      refine ⟨rfl, ?_⟩
      simp only [List.cons_append, List.nil_append]
      obtain ⟨t4, t5, t6⟩ := s2
      refine To.need (by simp only [X.den, X.dens, X.denss, D.int_i, D.boo_b, D.str_s, D.rows_l, List.getD_cons_zero, List.getD_cons_succ, List.cons_append, List.nil_append, List.append_nil, List.length_cons, List.length_nil, D.len_l, Bool.and_eq_true, Bool.not_eq_true', decide_eq_true_eq, decide_eq_false_iff_not]; omega) ?_
      refine To.need (by simp only [X.den, X.dens, X.denss, D.int_i, D.boo_b, D.str_s, D.rows_l, List.getD_cons_zero, List.getD_cons_succ, List.cons_append, List.nil_append, List.append_nil, List.length_cons, List.length_nil, D.len_l, Bool.and_eq_true, Bool.not_eq_true', decide_eq_true_eq, decide_eq_false_iff_not]; omega) ?_
      refine To.need (by simp only [X.den, X.dens, X.denss, D.int_i, D.boo_b, D.str_s, D.rows_l, List.getD_cons_zero, List.getD_cons_succ, List.cons_append, List.nil_append, List.append_nil, List.length_cons, List.length_nil, D.len_l, Bool.and_eq_true, Bool.not_eq_true', decide_eq_true_eq, decide_eq_false_iff_not]; omega) ?_
      refine To.join (fun l => ∃ a r, l = [.i a, .i r] ∧ 0 ≤ r ∧ r < 3600 ∧ 0 ≤ a ∧ a ≤ rs.length) (To.ite (fun c => ?_) (fun c => ?_)) ?_
      · simp only [X.den, X.dens, X.denss, D.int_i, D.boo_b, D.str_s, D.rows_l, List.getD_cons_zero, List.getD_cons_succ, List.cons_append, List.nil_append, List.append_nil, List.length_cons, List.length_nil, D.len_l, decide_eq_true_eq] at c
        refine To.need (by simp only [X.den, X.dens, X.denss, D.int_i, D.boo_b, D.str_s, D.rows_l, List.getD_cons_zero, List.getD_cons_succ, List.cons_append, List.nil_append, List.append_nil, List.length_cons, List.length_nil, D.len_l, decide_eq_true_eq]; omega) (To.ret ⟨rfl, ?_⟩)
        simp only [X.den, X.dens, X.denss, D.int_i, D.boo_b, D.str_s, D.rows_l, List.getD_cons_zero, List.getD_cons_succ, List.cons_append, List.nil_append, List.append_nil, List.length_cons, List.length_nil]
        generalize (D.cell _ _ _).int = z
        obtain ⟨q1, q2, _, _⟩ := mod_rng z 3600 (by decide)
        exact ⟨_, _, rfl, q1, q2, by omega, by omega⟩
      · refine To.ret ⟨rfl, ?_⟩
        simp only [X.den, X.dens, X.denss, D.int_i, D.boo_b, D.str_s, D.rows_l, List.getD_cons_zero, List.getD_cons_succ, List.cons_append, List.nil_append, List.append_nil, List.length_cons, List.length_nil]
        exact ⟨_, _, rfl, by decide, by decide, by omega, by omega⟩
      rintro l ⟨at3, h, rfl, h0, h1, at30, at31⟩
      simp only [List.cons_append, List.nil_append]
      refine To.join (fun l => ∃ a r, l = [.i a, .i r] ∧ 0 ≤ r ∧ r < 2 ∧ 0 ≤ a ∧ a ≤ rs.length) (To.ite (fun c => ?_) (fun c => ?_)) ?_
      · simp only [X.den, X.dens, X.denss, D.int_i, D.boo_b, D.str_s, D.rows_l, List.getD_cons_zero, List.getD_cons_succ, List.cons_append, List.nil_append, List.append_nil, List.length_cons, List.length_nil, D.len_l, decide_eq_true_eq] at c
        refine To.need (by simp only [X.den, X.dens, X.denss, D.int_i, D.boo_b, D.str_s, D.rows_l, List.getD_cons_zero, List.getD_cons_succ, List.cons_append, List.nil_append, List.append_nil, List.length_cons, List.length_nil, D.len_l, decide_eq_true_eq]; omega) (To.ret ⟨rfl, ?_⟩)
        simp only [X.den, X.dens, X.denss, D.int_i, D.boo_b, D.str_s, D.rows_l, List.getD_cons_zero, List.getD_cons_succ, List.cons_append, List.nil_append, List.append_nil, List.length_cons, List.length_nil]
        generalize (D.cell _ _ _).int = z
        obtain ⟨q1, q2, _, _⟩ := mod_rng z 2 (by decide)
        exact ⟨_, _, rfl, q1, q2, by omega, by omega⟩
      · refine To.ret ⟨rfl, ?_⟩
        simp only [X.den, X.dens, X.denss, D.int_i, D.boo_b, D.str_s, D.rows_l, List.getD_cons_zero, List.getD_cons_succ, List.cons_append, List.nil_append, List.append_nil, List.length_cons, List.length_nil]
        exact ⟨_, _, rfl, by decide, by decide, by omega, by omega⟩
      rintro l ⟨at4, b, rfl, b0, b1, at40, at41⟩
      simp only [List.cons_append, List.nil_append]
      refine To.via (sin_to h0 h1) ?_
      rintro l ⟨u, rfl, u0, u1⟩
      refine ⟨rfl, ?_⟩
      simp only [List.cons_append, List.nil_append]
      refine To.need (by simp only [X.den, X.dens, X.denss, D.int_i, D.boo_b, D.str_s, D.rows_l, List.getD_cons_zero, List.getD_cons_succ, List.cons_append, List.nil_append, List.append_nil, List.length_cons, List.length_nil, D.len_l, Bool.and_eq_true, Bool.not_eq_true', decide_eq_true_eq, decide_eq_false_iff_not]; omega) ?_
      refine To.via (cos_to h0 h1) ?_
      rintro l ⟨v, rfl, v0, v1⟩
      refine ⟨rfl, ?_⟩
      simp only [List.cons_append, List.nil_append]
      refine To.need (by simp only [X.den, X.dens, X.denss, D.int_i, D.boo_b, D.str_s, D.rows_l, List.getD_cons_zero, List.getD_cons_succ, List.cons_append, List.nil_append, List.append_nil, List.length_cons, List.length_nil, D.len_l, Bool.and_eq_true, Bool.not_eq_true', decide_eq_true_eq, decide_eq_false_iff_not]; omega) ?_
      refine To.join (fun l => l = []) (To.ite (fun c => ?_) (fun c => To.ret ⟨rfl, rfl⟩)) ?_
      · refine To.via (sin_to h0 h1) ?_
        rintro l ⟨p, rfl, p0, p1⟩
        refine ⟨rfl, ?_⟩
        simp only [List.cons_append, List.nil_append]
        refine To.need (by simp only [X.den, X.dens, X.denss, D.int_i, D.boo_b, D.str_s, D.rows_l, List.getD_cons_zero, List.getD_cons_succ, List.cons_append, List.nil_append, List.append_nil, List.length_cons, List.length_nil, D.len_l, Bool.and_eq_true, Bool.not_eq_true', decide_eq_true_eq, decide_eq_false_iff_not]; omega) ?_
        refine To.via (cos_to h0 h1) ?_
        rintro l ⟨q, rfl, q0, q1⟩
        refine ⟨rfl, ?_⟩
        simp only [List.cons_append, List.nil_append]
        refine To.need (by simp only [X.den, X.dens, X.denss, D.int_i, D.boo_b, D.str_s, D.rows_l, List.getD_cons_zero, List.getD_cons_succ, List.cons_append, List.nil_append, List.append_nil, List.length_cons, List.length_nil, D.len_l, Bool.and_eq_true, Bool.not_eq_true', decide_eq_true_eq, decide_eq_false_iff_not]; omega) ?_
        exact To.ret ⟨rfl, rfl⟩
      rintro l rfl
      simp only [List.append_nil]
      refine To.sub (To.yes rfl (To.call (l := [.b true]) rfl rfl (To.ret ⟨rfl, To.ret ?_⟩)))
      simp only [X.den, X.dens, X.denss, D.int_i, D.boo_b, D.str_s, D.rows_l, List.getD_cons_zero, List.getD_cons_succ, List.cons_append, List.nil_append, List.append_nil, List.length_cons, List.length_nil]
    · cases h
theorem ControlRests_walk {w : World} (v : Value) (zs : List Int) (h : IntsIn w w.heap.size v .i64 zs) (hz : ∀ z ∈ zs, (Lit.int .i64 z).wf = true) : Calls Try.prog 4 #[v] w fun e w' => e = .returned (.bool true) ∧ Below w.heap.size w w' :=
  con_law rests_ok rfl (fun G hG => args_ints h hG (by trivial)) (by simp [rests_K]) (ds := [numD zs]) rfl
end Go.Proofs.Ythfagiihfkjamaa
