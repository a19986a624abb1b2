/- ControlBounds. -/
import Derived.Test.YthfagiihfkjamaaBndT
import Derived.Test.YthfagiihfkjamaaLoopF
set_option linter.unusedVariables false
set_option linter.unusedSimpArgs false
namespace Go.Proofs.Ythfagiihfkjamaa
open Go.RowKit Fx
noncomputable def bndM : Models := Models.on srcGains_K.f (srcGains_T.run srcM 0) (Models.on srcKeeper_K.f (srcKeeper_T.run srcM 0) (Models.on srcPoint_K.f (srcPoint_T.run srcM 0) (Models.on demand_K.f demR (Models.on sane24_K.f (fun _ => some [.b true]) noM))))
theorem bounds_ok : ConOk Try.prog bounds_K fun ds => match ds with | [.l _] => some [.b true] | _ => none :=
  con_of follows (M := bndM) (one_con (srcGains_ok.to _) (one_con (srcKeeper_ok.to _) (one_con (srcPoint_ok.to _) (one_con (demand_ok.to _) (one_con (sane24_ok.to _) no_cons))))) bounds_t fun ds outs hl h => by
    split at h
    · rename_i rows
      injection h with h
      subst h
      refine ⟨fun i l h k => by simp [bounds_K] at k, 13, ?_⟩
      unfold bounds_T
      refine To.ite (fun c => ?_) (fun c => ?_)
      · refine To.call (l := [.b true]) rfl rfl (To.ret ?_)
        simp only [X.den, X.dens, X.denss, D.int_i, D.boo_b, D.str_s, D.rows_l, List.getD_cons_zero, List.getD_cons_succ, List.cons_append, List.nil_append, List.append_nil, List.length_cons, List.length_nil]
      simp only [X.den, X.dens, X.denss, D.int_i, D.boo_b, D.str_s, D.rows_l, List.getD_cons_zero, List.getD_cons_succ, List.cons_append, List.nil_append, List.append_nil, List.length_cons, List.length_nil, D.len_l, decide_eq_false_iff_not] at c
      refine To.need (by simp only [X.den, X.dens, X.denss, D.int_i, D.boo_b, D.str_s, D.rows_l, List.getD_cons_zero, List.getD_cons_succ, List.cons_append, List.nil_append, List.append_nil, List.length_cons, List.length_nil, D.len_l, Bool.and_eq_true, Bool.not_eq_true', decide_eq_true_eq, decide_eq_false_iff_not]; omega) ?_
      have s0 : SrcOk (rows.take (min (min (rows.length : Int) 9223372036854775807) 600).toNat) 0 := ⟨by omega, by omega, by rw [List.length_take]; omega⟩
      refine To.via (srcGains_to s0) ?_
      rintro l ⟨g0, g1, g2, g3, g4, g5, g6, g7, g8, at1, rfl, b1, b2, b3, b4, b5, b6, b7, b8, b9, b10, b11, b12, b13, b14, b15, b16, b17, b18, s1⟩
      refine ⟨rfl, ?_⟩
      simp only [List.cons_append, List.nil_append]
      clear s0
      generalize (List.take _ _ : List (List D)) = rs at s1 ⊢
      have s1' := s1
      obtain ⟨t1, t2, t3⟩ := s1'
      refine To.need (by simp only [X.den, X.dens, X.denss, D.int_i, D.boo_b, D.str_s, D.rows_l, List.getD_cons_zero, List.getD_cons_succ, List.cons_append, List.nil_append, List.append_nil, List.length_cons, List.length_nil, D.len_l, Bool.and_eq_true, Bool.not_eq_true', decide_eq_true_eq, decide_eq_false_iff_not]; omega) ?_
      refine To.need (by simp only [X.den, X.dens, X.denss, D.int_i, D.boo_b, D.str_s, D.rows_l, List.getD_cons_zero, List.getD_cons_succ, List.cons_append, List.nil_append, List.append_nil, List.length_cons, List.length_nil, D.len_l, Bool.and_eq_true, Bool.not_eq_true', decide_eq_true_eq, decide_eq_false_iff_not]; omega) ?_
      refine To.need (by simp only [X.den, X.dens, X.denss, D.int_i, D.boo_b, D.str_s, D.rows_l, List.getD_cons_zero, List.getD_cons_succ, List.cons_append, List.nil_append, List.append_nil, List.length_cons, List.length_nil, D.len_l, Bool.and_eq_true, Bool.not_eq_true', decide_eq_true_eq, decide_eq_false_iff_not]; omega) ?_
      refine To.need (by simp only [X.den, X.dens, X.denss, D.int_i, D.boo_b, D.str_s, D.rows_l, List.getD_cons_zero, List.getD_cons_succ, List.cons_append, List.nil_append, List.append_nil, List.length_cons, List.length_nil, D.len_l, Bool.and_eq_true, Bool.not_eq_true', decide_eq_true_eq, decide_eq_false_iff_not]; omega) ?_
      refine To.need (by simp only [X.den, X.dens, X.denss, D.int_i, D.boo_b, D.str_s, D.rows_l, List.getD_cons_zero, List.getD_cons_succ, List.cons_append, List.nil_append, List.append_nil, List.length_cons, List.length_nil, D.len_l, Bool.and_eq_true, Bool.not_eq_true', decide_eq_true_eq, decide_eq_false_iff_not]; omega) ?_
      refine To.need (by simp only [X.den, X.dens, X.denss, D.int_i, D.boo_b, D.str_s, D.rows_l, List.getD_cons_zero, List.getD_cons_succ, List.cons_append, List.nil_append, List.append_nil, List.length_cons, List.length_nil, D.len_l, Bool.and_eq_true, Bool.not_eq_true', decide_eq_true_eq, decide_eq_false_iff_not]; omega) ?_
      refine To.need (by simp only [X.den, X.dens, X.denss, D.int_i, D.boo_b, D.str_s, D.rows_l, List.getD_cons_zero, List.getD_cons_succ, List.cons_append, List.nil_append, List.append_nil, List.length_cons, List.length_nil, D.len_l, Bool.and_eq_true, Bool.not_eq_true', decide_eq_true_eq, decide_eq_false_iff_not]; omega) ?_
      refine To.need (by simp only [X.den, X.dens, X.denss, D.int_i, D.boo_b, D.str_s, D.rows_l, List.getD_cons_zero, List.getD_cons_succ, List.cons_append, List.nil_append, List.append_nil, List.length_cons, List.length_nil, D.len_l, Bool.and_eq_true, Bool.not_eq_true', decide_eq_true_eq, decide_eq_false_iff_not]; omega) ?_
      refine To.need (by simp only [X.den, X.dens, X.denss, D.int_i, D.boo_b, D.str_s, D.rows_l, List.getD_cons_zero, List.getD_cons_succ, List.cons_append, List.nil_append, List.append_nil, List.length_cons, List.length_nil, D.len_l, Bool.and_eq_true, Bool.not_eq_true', decide_eq_true_eq, decide_eq_false_iff_not]; omega) ?_
      refine To.need (by simp only [X.den, X.dens, X.denss, D.int_i, D.boo_b, D.str_s, D.rows_l, List.getD_cons_zero, List.getD_cons_succ, List.cons_append, List.nil_append, List.append_nil, List.length_cons, List.length_nil, D.len_l, Bool.and_eq_true, Bool.not_eq_true', decide_eq_true_eq, decide_eq_false_iff_not]; omega) ?_
      refine To.via (srcKeeper_to s1 b13 b14) ?_
      rintro l ⟨sx, sy, sh, lx, ly, lh, sn, at2, rfl, e1, e2, e3, e4, e5, e6, e7, e8, e9, e10, e11, e12, s2⟩
      refine ⟨rfl, ?_⟩
      simp only [List.cons_append, List.nil_append]
      have s2' := s2
      obtain ⟨t4, t5, t6⟩ := s2'
      refine To.need (by simp only [X.den, X.dens, X.denss, D.int_i, D.boo_b, D.str_s, D.rows_l, List.getD_cons_zero, List.getD_cons_succ, List.cons_append, List.nil_append, List.append_nil, List.length_cons, List.length_nil, D.len_l, Bool.and_eq_true, Bool.not_eq_true', decide_eq_true_eq, decide_eq_false_iff_not]; omega) ?_
      refine To.need (by simp only [X.den, X.dens, X.denss, D.int_i, D.boo_b, D.str_s, D.rows_l, List.getD_cons_zero, List.getD_cons_succ, List.cons_append, List.nil_append, List.append_nil, List.length_cons, List.length_nil, D.len_l, Bool.and_eq_true, Bool.not_eq_true', decide_eq_true_eq, decide_eq_false_iff_not]; omega) ?_
      refine To.need (by simp only [X.den, X.dens, X.denss, D.int_i, D.boo_b, D.str_s, D.rows_l, List.getD_cons_zero, List.getD_cons_succ, List.cons_append, List.nil_append, List.append_nil, List.length_cons, List.length_nil, D.len_l, Bool.and_eq_true, Bool.not_eq_true', decide_eq_true_eq, decide_eq_false_iff_not]; omega) ?_
      refine To.need (by simp only [X.den, X.dens, X.denss, D.int_i, D.boo_b, D.str_s, D.rows_l, List.getD_cons_zero, List.getD_cons_succ, List.cons_append, List.nil_append, List.append_nil, List.length_cons, List.length_nil, D.len_l, Bool.and_eq_true, Bool.not_eq_true', decide_eq_true_eq, decide_eq_false_iff_not]; omega) ?_
      refine To.need (by simp only [X.den, X.dens, X.denss, D.int_i, D.boo_b, D.str_s, D.rows_l, List.getD_cons_zero, List.getD_cons_succ, List.cons_append, List.nil_append, List.append_nil, List.length_cons, List.length_nil, D.len_l, Bool.and_eq_true, Bool.not_eq_true', decide_eq_true_eq, decide_eq_false_iff_not]; omega) ?_
      refine To.need (by simp only [X.den, X.dens, X.denss, D.int_i, D.boo_b, D.str_s, D.rows_l, List.getD_cons_zero, List.getD_cons_succ, List.cons_append, List.nil_append, List.append_nil, List.length_cons, List.length_nil, D.len_l, Bool.and_eq_true, Bool.not_eq_true', decide_eq_true_eq, decide_eq_false_iff_not]; omega) ?_
      refine To.need (by simp only [X.den, X.dens, X.denss, D.int_i, D.boo_b, D.str_s, D.rows_l, List.getD_cons_zero, List.getD_cons_succ, List.cons_append, List.nil_append, List.append_nil, List.length_cons, List.length_nil, D.len_l, Bool.and_eq_true, Bool.not_eq_true', decide_eq_true_eq, decide_eq_false_iff_not]; omega) ?_
      refine To.via (srcPoint_to s2) ?_
      rintro l ⟨tx, ty, at3, rfl, c1, c2, c3, c4, s3⟩
      refine ⟨rfl, ?_⟩
      simp only [List.cons_append, List.nil_append]
      obtain ⟨t7, t8, t9⟩ := s3
      refine To.need (by simp only [X.den, X.dens, X.denss, D.int_i, D.boo_b, D.str_s, D.rows_l, List.getD_cons_zero, List.getD_cons_succ, List.cons_append, List.nil_append, List.append_nil, List.length_cons, List.length_nil, D.len_l, Bool.and_eq_true, Bool.not_eq_true', decide_eq_true_eq, decide_eq_false_iff_not]; omega) ?_
      refine To.need (by simp only [X.den, X.dens, X.denss, D.int_i, D.boo_b, D.str_s, D.rows_l, List.getD_cons_zero, List.getD_cons_succ, List.cons_append, List.nil_append, List.append_nil, List.length_cons, List.length_nil, D.len_l, Bool.and_eq_true, Bool.not_eq_true', decide_eq_true_eq, decide_eq_false_iff_not]; omega) ?_
      refine To.need (by simp only [X.den, X.dens, X.denss, D.int_i, D.boo_b, D.str_s, D.rows_l, List.getD_cons_zero, List.getD_cons_succ, List.cons_append, List.nil_append, List.append_nil, List.length_cons, List.length_nil, D.len_l, Bool.and_eq_true, Bool.not_eq_true', decide_eq_true_eq, decide_eq_false_iff_not]; omega) ?_
      refine To.join (fun l => ∃ a r, l = [.i a, .i r] ∧ 0 ≤ r ∧ r < 3600 ∧ 0 ≤ a ∧ a ≤ rs.length) (To.ite (fun c => ?_) (fun c => ?_)) ?_
      · simp only [X.den, X.dens, X.denss, D.int_i, D.boo_b, D.str_s, D.rows_l, List.getD_cons_zero, List.getD_cons_succ, List.cons_append, List.nil_append, List.append_nil, List.length_cons, List.length_nil, D.len_l, decide_eq_true_eq] at c
        refine To.need (by simp only [X.den, X.dens, X.denss, D.int_i, D.boo_b, D.str_s, D.rows_l, List.getD_cons_zero, List.getD_cons_succ, List.cons_append, List.nil_append, List.append_nil, List.length_cons, List.length_nil, D.len_l, decide_eq_true_eq]; omega) (To.ret ⟨rfl, ?_⟩)
        simp only [X.den, X.dens, X.denss, D.int_i, D.boo_b, D.str_s, D.rows_l, List.getD_cons_zero, List.getD_cons_succ, List.cons_append, List.nil_append, List.append_nil, List.length_cons, List.length_nil]
        generalize (D.cell _ _ _).int = z
        obtain ⟨q1, q2, _, _⟩ := mod_rng z 3600 (by decide)
        exact ⟨_, _, rfl, q1, q2, by omega, by omega⟩
      · refine To.ret ⟨rfl, ?_⟩
        simp only [X.den, X.dens, X.denss, D.int_i, D.boo_b, D.str_s, D.rows_l, List.getD_cons_zero, List.getD_cons_succ, List.cons_append, List.nil_append, List.append_nil, List.length_cons, List.length_nil]
        exact ⟨_, _, rfl, by decide, by decide, by omega, by omega⟩
      rintro l ⟨at4, th, rfl, th0, th1, at40, at41⟩
      simp only [List.cons_append, List.nil_append]
      refine To.loop (fun m l => ∃ at_ sx sy sh lx ly lh sn i, l = [.l rs, .i at_, .i sx, .i sy, .i sh, .i lx, .i ly, .i lh, .b sn, .i i] ∧ SrcOk rs at_ ∧ -g6 ≤ sx ∧ sx ≤ g6 ∧ -g6 ≤ sy ∧ sy ≤ g6 ∧ -g6 ≤ sh ∧ sh ≤ g6 ∧ -100000000 ≤ lx ∧ lx ≤ 100000000 ∧ -100000000 ≤ ly ∧ ly ≤ 100000000 ∧ 0 ≤ lh ∧ lh < 3600 ∧ 0 ≤ i ∧ (m : Int) + i = 12)
        (fun l => ∃ z1 z2 z3 z4 z5 z6 z7 z8 z9, l = [.i 1, z1, z2, z3, z4, z5, z6, z7, z8, z9]) 12 (by decide) ?_ ?_ ?_
      · exact ⟨at4, sx, sy, sh, lx, ly, lh, sn, 0, by simp only [X.den, X.dens, X.denss, D.int_i, D.boo_b, D.str_s, D.rows_l, List.getD_cons_zero, List.getD_cons_succ, List.cons_append, List.nil_append, List.append_nil, List.length_cons, List.length_nil], ⟨at40, at41, t9⟩, e1, e2, e3, e4, e5, e6, by omega, by omega, by omega, by omega, e11, e12, by omega, by omega⟩
      · clear e1 e2 e3 e4 e5 e6 e7 e8 e9 e10 e11 e12
        rintro m l ⟨at_, sx, sy, sh, lx, ly, lh, sn, i, rfl, s3, e1, e2, e3, e4, e5, e6, e7, e8, e9, e10, e11, e12, i0, i1⟩
        simp only [List.cons_append, List.nil_append]
        refine To.ite (fun c => ?_) (fun c => ?_)
        · simp only [X.den, X.dens, X.denss, D.int_i, D.boo_b, D.str_s, D.rows_l, List.getD_cons_zero, List.getD_cons_succ, List.cons_append, List.nil_append, List.append_nil, List.length_cons, List.length_nil, decide_eq_true_eq] at c
          refine To.via (srcPoint_to s3) ?_
          rintro l ⟨px, py, at6, rfl, p1, p2, p3, p4, s4⟩
          refine ⟨rfl, ?_⟩
          simp only [List.cons_append, List.nil_append]
          obtain ⟨t10, t11, t12⟩ := s4
          refine To.need (by simp only [X.den, X.dens, X.denss, D.int_i, D.boo_b, D.str_s, D.rows_l, List.getD_cons_zero, List.getD_cons_succ, List.cons_append, List.nil_append, List.append_nil, List.length_cons, List.length_nil, D.len_l, Bool.and_eq_true, Bool.not_eq_true', decide_eq_true_eq, decide_eq_false_iff_not]; omega) ?_
          refine To.need (by simp only [X.den, X.dens, X.denss, D.int_i, D.boo_b, D.str_s, D.rows_l, List.getD_cons_zero, List.getD_cons_succ, List.cons_append, List.nil_append, List.append_nil, List.length_cons, List.length_nil, D.len_l, Bool.and_eq_true, Bool.not_eq_true', decide_eq_true_eq, decide_eq_false_iff_not]; omega) ?_
          refine To.need (by simp only [X.den, X.dens, X.denss, D.int_i, D.boo_b, D.str_s, D.rows_l, List.getD_cons_zero, List.getD_cons_succ, List.cons_append, List.nil_append, List.append_nil, List.length_cons, List.length_nil, D.len_l, Bool.and_eq_true, Bool.not_eq_true', decide_eq_true_eq, decide_eq_false_iff_not]; omega) ?_
          refine To.join (fun l => ∃ a r, l = [.i a, .i r] ∧ 0 ≤ r ∧ r < 3600 ∧ 0 ≤ a ∧ a ≤ rs.length) (To.ite (fun c => ?_) (fun c => ?_)) ?_
          · simp only [X.den, X.dens, X.denss, D.int_i, D.boo_b, D.str_s, D.rows_l, List.getD_cons_zero, List.getD_cons_succ, List.cons_append, List.nil_append, List.append_nil, List.length_cons, List.length_nil, D.len_l, decide_eq_true_eq] at c
            refine To.need (by simp only [X.den, X.dens, X.denss, D.int_i, D.boo_b, D.str_s, D.rows_l, List.getD_cons_zero, List.getD_cons_succ, List.cons_append, List.nil_append, List.append_nil, List.length_cons, List.length_nil, D.len_l, decide_eq_true_eq]; omega) (To.ret ⟨rfl, ?_⟩)
            simp only [X.den, X.dens, X.denss, D.int_i, D.boo_b, D.str_s, D.rows_l, List.getD_cons_zero, List.getD_cons_succ, List.cons_append, List.nil_append, List.append_nil, List.length_cons, List.length_nil]
            generalize (D.cell _ _ _).int = z
            obtain ⟨q1, q2, _, _⟩ := mod_rng z 3600 (by decide)
            exact ⟨_, _, rfl, q1, q2, by omega, by omega⟩
          · refine To.ret ⟨rfl, ?_⟩
            simp only [X.den, X.dens, X.denss, D.int_i, D.boo_b, D.str_s, D.rows_l, List.getD_cons_zero, List.getD_cons_succ, List.cons_append, List.nil_append, List.append_nil, List.length_cons, List.length_nil]
            exact ⟨_, _, rfl, by decide, by decide, by omega, by omega⟩
          rintro l ⟨at7, a, rfl, a0, a1, at70, at71⟩
          simp only [List.cons_append, List.nil_append]
          obtain ⟨F1, F2, F3, u, v, w, d1, d2, f1, f2, f3, f4, f5, f6, f7, f8, f9, f10, f11, f12⟩ := demand_two (g0 := g0) (g1 := g1) (g2 := g2) (g3 := g3) (g4 := g4) (g5 := g5) (S := g6) (F := g7) (Y := g8) (sx := sx) (sy := sy) (sh := sh) (lx := lx) (ly := ly) (lh := lh) (px := px) (py := py) (ph := a) (tx := tx) (ty := ty) (th := th) (x := 0) (y := 0) (seen := sn)
            (by simp only [BdAll, demand_K, D.int_i, and_true]; omega) (by simp only [BdAll, demand_K, D.int_i, and_true]; omega) e1 e2 e3 e4 e5 e6
          refine To.call (l := _) d1 rfl ?_
          simp only [List.cons_append, List.nil_append]
          refine To.need (by simp only [X.den, X.dens, X.denss, D.int_i, D.boo_b, D.str_s, D.rows_l, List.getD_cons_zero, List.getD_cons_succ, List.cons_append, List.nil_append, List.append_nil, List.length_cons, List.length_nil, D.len_l, Bool.and_eq_true, Bool.not_eq_true', decide_eq_true_eq, decide_eq_false_iff_not]; omega) ?_
          refine To.need (by simp only [X.den, X.dens, X.denss, D.int_i, D.boo_b, D.str_s, D.rows_l, List.getD_cons_zero, List.getD_cons_succ, List.cons_append, List.nil_append, List.append_nil, List.length_cons, List.length_nil, D.len_l, Bool.and_eq_true, Bool.not_eq_true', decide_eq_true_eq, decide_eq_false_iff_not]; omega) ?_
          refine To.need (by simp only [X.den, X.dens, X.denss, D.int_i, D.boo_b, D.str_s, D.rows_l, List.getD_cons_zero, List.getD_cons_succ, List.cons_append, List.nil_append, List.append_nil, List.length_cons, List.length_nil, D.len_l, Bool.and_eq_true, Bool.not_eq_true', decide_eq_true_eq, decide_eq_false_iff_not]; omega) ?_
          refine To.need (by simp only [X.den, X.dens, X.denss, D.int_i, D.boo_b, D.str_s, D.rows_l, List.getD_cons_zero, List.getD_cons_succ, List.cons_append, List.nil_append, List.append_nil, List.length_cons, List.length_nil, D.len_l, Bool.and_eq_true, Bool.not_eq_true', decide_eq_true_eq, decide_eq_false_iff_not]; omega) ?_
          refine To.need (by simp only [X.den, X.dens, X.denss, D.int_i, D.boo_b, D.str_s, D.rows_l, List.getD_cons_zero, List.getD_cons_succ, List.cons_append, List.nil_append, List.append_nil, List.length_cons, List.length_nil, D.len_l, Bool.and_eq_true, Bool.not_eq_true', decide_eq_true_eq, decide_eq_false_iff_not]; omega) ?_
          refine To.need (by simp only [X.den, X.dens, X.denss, D.int_i, D.boo_b, D.str_s, D.rows_l, List.getD_cons_zero, List.getD_cons_succ, List.cons_append, List.nil_append, List.append_nil, List.length_cons, List.length_nil, D.len_l, Bool.and_eq_true, Bool.not_eq_true', decide_eq_true_eq, decide_eq_false_iff_not]; omega) ?_
          refine To.need (by simp only [X.den, X.dens, X.denss, D.int_i, D.boo_b, D.str_s, D.rows_l, List.getD_cons_zero, List.getD_cons_succ, List.cons_append, List.nil_append, List.append_nil, List.length_cons, List.length_nil, D.len_l, Bool.and_eq_true, Bool.not_eq_true', decide_eq_true_eq, decide_eq_false_iff_not]; omega) ?_
          refine To.need (by simp only [X.den, X.dens, X.denss, D.int_i, D.boo_b, D.str_s, D.rows_l, List.getD_cons_zero, List.getD_cons_succ, List.cons_append, List.nil_append, List.append_nil, List.length_cons, List.length_nil, D.len_l, Bool.and_eq_true, Bool.not_eq_true', decide_eq_true_eq, decide_eq_false_iff_not]; omega) ?_
          refine To.need (by simp only [X.den, X.dens, X.denss, D.int_i, D.boo_b, D.str_s, D.rows_l, List.getD_cons_zero, List.getD_cons_succ, List.cons_append, List.nil_append, List.append_nil, List.length_cons, List.length_nil, D.len_l, Bool.and_eq_true, Bool.not_eq_true', decide_eq_true_eq, decide_eq_false_iff_not]; omega) ?_
          refine To.need (by simp only [X.den, X.dens, X.denss, D.int_i, D.boo_b, D.str_s, D.rows_l, List.getD_cons_zero, List.getD_cons_succ, List.cons_append, List.nil_append, List.append_nil, List.length_cons, List.length_nil, D.len_l, Bool.and_eq_true, Bool.not_eq_true', decide_eq_true_eq, decide_eq_false_iff_not]; omega) ?_
          refine To.join (fun l => ∃ z1 z2 z3 z4 z5 z6, l = [z1, z2, z3, z4, z5, z6, .b false]) ?_ ?_
          · refine To.join (fun l => l = [.b true]) ?_ ?_
            · refine To.join (fun l => l = [.b true]) (To.no (by simp only [X.den, X.dens, X.denss, D.int_i, D.boo_b, D.str_s, D.rows_l, List.getD_cons_zero, List.getD_cons_succ, List.cons_append, List.nil_append, List.append_nil, List.length_cons, List.length_nil, decide_eq_false_iff_not]; omega) (To.ret ⟨rfl, by simp only [X.den, X.dens, X.denss, D.int_i, D.boo_b, D.str_s, D.rows_l, List.getD_cons_zero, List.getD_cons_succ, List.cons_append, List.nil_append, List.append_nil, List.length_cons, List.length_nil, List.cons.injEq, D.b.injEq, and_true, Bool.not_eq_true', decide_eq_false_iff_not]; omega⟩)) ?_
              rintro l rfl
              simp only [List.cons_append, List.nil_append]
              refine To.yes rfl ?_
              refine To.join (fun l => l = [.b true]) (To.no (by simp only [X.den, X.dens, X.denss, D.int_i, D.boo_b, D.str_s, D.rows_l, List.getD_cons_zero, List.getD_cons_succ, List.cons_append, List.nil_append, List.append_nil, List.length_cons, List.length_nil, decide_eq_false_iff_not]; omega) (To.ret ⟨rfl, by simp only [X.den, X.dens, X.denss, D.int_i, D.boo_b, D.str_s, D.rows_l, List.getD_cons_zero, List.getD_cons_succ, List.cons_append, List.nil_append, List.append_nil, List.length_cons, List.length_nil, List.cons.injEq, D.b.injEq, and_true, Bool.not_eq_true', decide_eq_false_iff_not]; omega⟩)) ?_
              rintro l rfl
              simp only [List.cons_append, List.nil_append]
              refine To.yes rfl ?_
              refine To.join (fun l => l = [.b true]) (To.no (by simp only [X.den, X.dens, X.denss, D.int_i, D.boo_b, D.str_s, D.rows_l, List.getD_cons_zero, List.getD_cons_succ, List.cons_append, List.nil_append, List.append_nil, List.length_cons, List.length_nil, decide_eq_false_iff_not]; omega) (To.ret ⟨rfl, by simp only [X.den, X.dens, X.denss, D.int_i, D.boo_b, D.str_s, D.rows_l, List.getD_cons_zero, List.getD_cons_succ, List.cons_append, List.nil_append, List.append_nil, List.length_cons, List.length_nil, List.cons.injEq, D.b.injEq, and_true, Bool.not_eq_true', decide_eq_false_iff_not]; omega⟩)) ?_
              rintro l rfl
              simp only [List.cons_append, List.nil_append]
              refine To.yes rfl ?_
              exact To.ret ⟨rfl, by simp only [X.den, X.dens, X.denss, D.int_i, D.boo_b, D.str_s, D.rows_l, List.getD_cons_zero, List.getD_cons_succ, List.cons_append, List.nil_append, List.append_nil, List.length_cons, List.length_nil]⟩
            rintro l rfl
            simp only [List.cons_append, List.nil_append]
            refine To.yes rfl (To.no (by simp only [X.den, X.dens, X.denss, D.int_i, D.boo_b, D.str_s, D.rows_l, List.getD_cons_zero, List.getD_cons_succ, List.cons_append, List.nil_append, List.append_nil, List.length_cons, List.length_nil, decide_eq_false_iff_not]; omega) (To.ret ⟨rfl, ?_⟩))
            simp only [X.den, X.dens, X.denss, D.int_i, D.boo_b, D.str_s, D.rows_l, List.getD_cons_zero, List.getD_cons_succ, List.cons_append, List.nil_append, List.append_nil, List.length_cons, List.length_nil]
            rw [decide_eq_false (show ¬ g8 < max F3 (0 - F3) by omega)]
            exact ⟨_, _, _, _, _, _, rfl⟩
          rintro l ⟨z1, z2, z3, z4, z5, z6, rfl⟩
          simp only [List.cons_append, List.nil_append]
          refine To.no rfl (To.ret (.inl ⟨rfl, m - 1, by omega, at7, u, v, w, px, py, a, true, i + 1, by simp only [X.den, X.dens, X.denss, D.int_i, D.boo_b, D.str_s, D.rows_l, List.getD_cons_zero, List.getD_cons_succ, List.cons_append, List.nil_append, List.append_nil, List.length_cons, List.length_nil], ⟨at70, at71, t12⟩, f7, f8, f9, f10, f11, f12, p1, p2, p3, p4, a0, a1, by omega, by omega⟩))
        · simp only [X.den, X.dens, X.denss, D.int_i, D.boo_b, D.str_s, D.rows_l, List.getD_cons_zero, List.getD_cons_succ, List.cons_append, List.nil_append, List.append_nil, List.length_cons, List.length_nil, decide_eq_false_iff_not] at c
          exact To.ret (.inr ⟨rfl, .l rs, .i at_, .i sx, .i sy, .i sh, .i lx, .i ly, .i lh, .b sn, by simp only [X.den, X.dens, X.denss, D.int_i, D.boo_b, D.str_s, D.rows_l, List.getD_cons_zero, List.getD_cons_succ, List.cons_append, List.nil_append, List.append_nil, List.length_cons, List.length_nil]⟩)
      · rintro l ⟨z1, z2, z3, z4, z5, z6, z7, z8, z9, rfl⟩
        refine ⟨rfl, ?_⟩
        simp only [List.cons_append, List.nil_append]
        refine To.no rfl (To.call (l := [.b true]) rfl rfl (To.ret ?_))
        simp only [X.den, X.dens, X.denss, D.int_i, D.boo_b, D.str_s, D.rows_l, List.getD_cons_zero, List.getD_cons_succ, List.cons_append, List.nil_append, List.append_nil, List.length_cons, List.length_nil]
    · cases h
theorem ControlBounds_walk {w : World} (v : Value) (zs : List Int) (h : IntsIn w w.heap.size v .i64 zs) (hz : ∀ z ∈ zs, (Lit.int .i64 z).wf = true) : Calls Try.prog 5 #[v] w fun e w' => e = .returned (.bool true) ∧ Below w.heap.size w w' :=
  con_law bounds_ok rfl (fun G hG => args_ints h hG (by trivial)) (by simp [bounds_K]) (ds := [numD zs]) rfl
end Go.Proofs.Ythfagiihfkjamaa
