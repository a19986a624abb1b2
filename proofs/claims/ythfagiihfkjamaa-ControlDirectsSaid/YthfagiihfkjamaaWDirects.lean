/- ControlDirects. -/
import Derived.Test.YthfagiihfkjamaaDirT
import Derived.Test.YthfagiihfkjamaaHalfF
set_option linter.unusedVariables false
set_option linter.unusedSimpArgs false
namespace Go.Proofs.Ythfagiihfkjamaa
open Go.RowKit Fx
/-- a force points where the way points -/
theorem push {g s S m A F : Int} (hg : 0 ≤ g) (hs : 0 ≤ s) (hS : 0 ≤ S) (hm : 0 ≤ m) (hF : F = max (0 - m) (min ((2 * (g * A + s * max (0 - S) (min (0 + A) S) - 0) + 1000) / (2 * 1000)) m)) : F = 0 ∨ (0 < F ↔ 0 < A) ∧ ¬ A = 0 := by
  rcases Int.lt_trichotomy A 0 with h | h | h
  · have p1 : g * A ≤ 0 := Int.mul_nonpos_of_nonneg_of_nonpos hg (by omega)
    have p2 : s * max (0 - S) (min (0 + A) S) ≤ 0 := Int.mul_nonpos_of_nonneg_of_nonpos hs (by omega)
    generalize g * A = x at *
    generalize s * max (0 - S) (min (0 + A) S) = y at *
    omega
  · subst h
    have e : max (0 - S) (min (0 + 0) S) = 0 := by omega
    rw [e, Int.mul_zero, Int.mul_zero] at hF
    omega
  · have p1 : 0 ≤ g * A := Int.mul_nonneg hg (by omega)
    have p2 : 0 ≤ s * max (0 - S) (min (0 + A) S) := Int.mul_nonneg hs (by omega)
    generalize g * A = x at *
    generalize s * max (0 - S) (min (0 + A) S) = y at *
    omega
def dirM : Models := Models.on srcGains_K.f (srcGains_T.run srcM 0) (Models.on srcPoint_K.f (srcPoint_T.run srcM 0) (Models.on fxSin_K.f (fxSin_T.run noM 0) (Models.on fxCos_K.f (fxCos_T.run noM 0) (Models.on sane24_K.f (fun _ => some [.b true]) noM))))
theorem directs_ok : ConOk Try.prog directs_K fun ds => match ds with | [.l _] => some [.b true] | _ => none :=
  con_of follows (M := dirM) (one_con (srcGains_ok.to _) (one_con (srcPoint_ok.to _) (one_con (fxSin_ok.to _) (one_con (fxCos_ok.to _) (one_con (sane24_ok.to _) no_cons))))) directs_t fun ds outs hl h => by
    split at h
    · rename_i rows
      injection h with h
      subst h
      refine ⟨fun i l h k => by simp [directs_K] at k, 0, ?_⟩
      unfold directs_T
      refine To.ite (fun c => ?_) (fun c => ?_)
      · refine To.call (l := [.b true]) rfl rfl (To.ret ?_)
        simp only [X.den, X.dens, X.denss, D.int_i, D.boo_b, D.str_s, D.rows_l, List.getD_cons_zero, List.getD_cons_succ, List.cons_append, List.nil_append, List.append_nil, List.length_cons, List.length_nil]
      simp only [X.den, X.dens, X.denss, D.int_i, D.boo_b, D.str_s, D.rows_l, List.getD_cons_zero, List.getD_cons_succ, List.cons_append, List.nil_append, List.append_nil, List.length_cons, List.length_nil, D.len_l, decide_eq_false_iff_not] at c
      refine To.need (by simp only [X.den, X.dens, X.denss, D.int_i, D.boo_b, D.str_s, D.rows_l, List.getD_cons_zero, List.getD_cons_succ, List.cons_append, List.nil_append, List.append_nil, List.length_cons, List.length_nil, D.len_l, Bool.and_eq_true, Bool.not_eq_true', decide_eq_true_eq, decide_eq_false_iff_not]; omega) ?_
      have s0 : SrcOk (rows.take (min (min (rows.length : Int) 9223372036854775807) 600).toNat) 0 := ⟨by omega, by omega, by rw [List.length_take]; omega⟩
      refine To.via (srcGains_to s0) ?_
      rintro l ⟨g0, g1, g2, g3, g4, g5, g6, g7, g8, at1, rfl, b1, b2, b3, b4, b5, b6, b7, b8, b9, b10, b11, b12, b13, b14, b15, b16, b17, b18, s1⟩
      refine ⟨rfl, ?_⟩
      simp only [List.cons_append, List.nil_append]
      clear s0
      generalize (List.take _ _ : List (List D)) = rs at s1 ⊢
      have s1' := s1
      obtain ⟨t1, t2, t3⟩ := s1'
      refine To.need (by simp only [X.den, X.dens, X.denss, D.int_i, D.boo_b, D.str_s, D.rows_l, List.getD_cons_zero, List.getD_cons_succ, List.cons_append, List.nil_append, List.append_nil, List.length_cons, List.length_nil, D.len_l, Bool.and_eq_true, Bool.not_eq_true', decide_eq_true_eq, decide_eq_false_iff_not]; omega) ?_
      refine To.need (by simp only [X.den, X.dens, X.denss, D.int_i, D.boo_b, D.str_s, D.rows_l, List.getD_cons_zero, List.getD_cons_succ, List.cons_append, List.nil_append, List.append_nil, List.length_cons, List.length_nil, D.len_l, Bool.and_eq_true, Bool.not_eq_true', decide_eq_true_eq, decide_eq_false_iff_not]; omega) ?_
      refine To.need (by simp only [X.den, X.dens, X.denss, D.int_i, D.boo_b, D.str_s, D.rows_l, List.getD_cons_zero, List.getD_cons_succ, List.cons_append, List.nil_append, List.append_nil, List.length_cons, List.length_nil, D.len_l, Bool.and_eq_true, Bool.not_eq_true', decide_eq_true_eq, decide_eq_false_iff_not]; omega) ?_
      refine To.need (by simp only [X.den, X.dens, X.denss, D.int_i, D.boo_b, D.str_s, D.rows_l, List.getD_cons_zero, List.getD_cons_succ, List.cons_append, List.nil_append, List.append_nil, List.length_cons, List.length_nil, D.len_l, Bool.and_eq_true, Bool.not_eq_true', decide_eq_true_eq, decide_eq_false_iff_not]; omega) ?_
      refine To.need (by simp only [X.den, X.dens, X.denss, D.int_i, D.boo_b, D.str_s, D.rows_l, List.getD_cons_zero, List.getD_cons_succ, List.cons_append, List.nil_append, List.append_nil, List.length_cons, List.length_nil, D.len_l, Bool.and_eq_true, Bool.not_eq_true', decide_eq_true_eq, decide_eq_false_iff_not]; omega) ?_
      refine To.need (by simp only [X.den, X.dens, X.denss, D.int_i, D.boo_b, D.str_s, D.rows_l, List.getD_cons_zero, List.getD_cons_succ, List.cons_append, List.nil_append, List.append_nil, List.length_cons, List.length_nil, D.len_l, Bool.and_eq_true, Bool.not_eq_true', decide_eq_true_eq, decide_eq_false_iff_not]; omega) ?_
      refine To.need (by simp only [X.den, X.dens, X.denss, D.int_i, D.boo_b, D.str_s, D.rows_l, List.getD_cons_zero, List.getD_cons_succ, List.cons_append, List.nil_append, List.append_nil, List.length_cons, List.length_nil, D.len_l, Bool.and_eq_true, Bool.not_eq_true', decide_eq_true_eq, decide_eq_false_iff_not]; omega) ?_
      refine To.need (by simp only [X.den, X.dens, X.denss, D.int_i, D.boo_b, D.str_s, D.rows_l, List.getD_cons_zero, List.getD_cons_succ, List.cons_append, List.nil_append, List.append_nil, List.length_cons, List.length_nil, D.len_l, Bool.and_eq_true, Bool.not_eq_true', decide_eq_true_eq, decide_eq_false_iff_not]; omega) ?_
      refine To.need (by simp only [X.den, X.dens, X.denss, D.int_i, D.boo_b, D.str_s, D.rows_l, List.getD_cons_zero, List.getD_cons_succ, List.cons_append, List.nil_append, List.append_nil, List.length_cons, List.length_nil, D.len_l, Bool.and_eq_true, Bool.not_eq_true', decide_eq_true_eq, decide_eq_false_iff_not]; omega) ?_
      refine To.need (by simp only [X.den, X.dens, X.denss, D.int_i, D.boo_b, D.str_s, D.rows_l, List.getD_cons_zero, List.getD_cons_succ, List.cons_append, List.nil_append, List.append_nil, List.length_cons, List.length_nil, D.len_l, Bool.and_eq_true, Bool.not_eq_true', decide_eq_true_eq, decide_eq_false_iff_not]; omega) ?_
      refine To.via (srcPoint_to s1) ?_
      rintro l ⟨x, y, at2, rfl, c1, c2, c3, c4, s2⟩
      refine ⟨rfl, ?_⟩
      simp only [List.cons_append, List.nil_append]
      have s2' := s2
      obtain ⟨t4, t5, t6⟩ := s2'
      refine To.need (by simp only [X.den, X.dens, X.denss, D.int_i, D.boo_b, D.str_s, D.rows_l, List.getD_cons_zero, List.getD_cons_succ, List.cons_append, List.nil_append, List.append_nil, List.length_cons, List.length_nil, D.len_l, Bool.and_eq_true, Bool.not_eq_true', decide_eq_true_eq, decide_eq_false_iff_not]; omega) ?_
      refine To.need (by simp only [X.den, X.dens, X.denss, D.int_i, D.boo_b, D.str_s, D.rows_l, List.getD_cons_zero, List.getD_cons_succ, List.cons_append, List.nil_append, List.append_nil, List.length_cons, List.length_nil, D.len_l, Bool.and_eq_true, Bool.not_eq_true', decide_eq_true_eq, decide_eq_false_iff_not]; omega) ?_
      refine To.need (by simp only [X.den, X.dens, X.denss, D.int_i, D.boo_b, D.str_s, D.rows_l, List.getD_cons_zero, List.getD_cons_succ, List.cons_append, List.nil_append, List.append_nil, List.length_cons, List.length_nil, D.len_l, Bool.and_eq_true, Bool.not_eq_true', decide_eq_true_eq, decide_eq_false_iff_not]; omega) ?_
      refine To.via (srcPoint_to s2) ?_
      rintro l ⟨x2, y2, at3, rfl, d1, d2, d3, d4, s3⟩
      refine ⟨rfl, ?_⟩
      simp only [List.cons_append, List.nil_append]
      obtain ⟨t7, t8, t9⟩ := s3
      refine To.need (by simp only [X.den, X.dens, X.denss, D.int_i, D.boo_b, D.str_s, D.rows_l, List.getD_cons_zero, List.getD_cons_succ, List.cons_append, List.nil_append, List.append_nil, List.length_cons, List.length_nil, D.len_l, Bool.and_eq_true, Bool.not_eq_true', decide_eq_true_eq, decide_eq_false_iff_not]; omega) ?_
      refine To.need (by simp only [X.den, X.dens, X.denss, D.int_i, D.boo_b, D.str_s, D.rows_l, List.getD_cons_zero, List.getD_cons_succ, List.cons_append, List.nil_append, List.append_nil, List.length_cons, List.length_nil, D.len_l, Bool.and_eq_true, Bool.not_eq_true', decide_eq_true_eq, decide_eq_false_iff_not]; omega) ?_
      refine To.need (by simp only [X.den, X.dens, X.denss, D.int_i, D.boo_b, D.str_s, D.rows_l, List.getD_cons_zero, List.getD_cons_succ, List.cons_append, List.nil_append, List.append_nil, List.length_cons, List.length_nil, D.len_l, Bool.and_eq_true, Bool.not_eq_true', decide_eq_true_eq, decide_eq_false_iff_not]; omega) ?_
      refine To.join (fun l => ∃ a r, l = [.i a, .i r] ∧ 0 ≤ r ∧ r < 3600 ∧ 0 ≤ a ∧ a ≤ rs.length) (To.ite (fun c => ?_) (fun c => ?_)) ?_
      · simp only [X.den, X.dens, X.denss, D.int_i, D.boo_b, D.str_s, D.rows_l, List.getD_cons_zero, List.getD_cons_succ, List.cons_append, List.nil_append, List.append_nil, List.length_cons, List.length_nil, D.len_l, decide_eq_true_eq] at c
        refine To.need (by simp only [X.den, X.dens, X.denss, D.int_i, D.boo_b, D.str_s, D.rows_l, List.getD_cons_zero, List.getD_cons_succ, List.cons_append, List.nil_append, List.append_nil, List.length_cons, List.length_nil, D.len_l, decide_eq_true_eq]; omega) (To.ret ⟨rfl, ?_⟩)
        simp only [X.den, X.dens, X.denss, D.int_i, D.boo_b, D.str_s, D.rows_l, List.getD_cons_zero, List.getD_cons_succ, List.cons_append, List.nil_append, List.append_nil, List.length_cons, List.length_nil]
        generalize (D.cell _ _ _).int = z
        obtain ⟨q1, q2, _, _⟩ := mod_rng z 3600 (by decide)
        exact ⟨_, _, rfl, q1, q2, by omega, by omega⟩
      · refine To.ret ⟨rfl, ?_⟩
        simp only [X.den, X.dens, X.denss, D.int_i, D.boo_b, D.str_s, D.rows_l, List.getD_cons_zero, List.getD_cons_succ, List.cons_append, List.nil_append, List.append_nil, List.length_cons, List.length_nil]
        exact ⟨_, _, rfl, by decide, by decide, by omega, by omega⟩
      rintro l ⟨at4, h, rfl, h0, h1, at40, at41⟩
      simp only [List.cons_append, List.nil_append]
      refine To.join (fun l => ∃ a r, l = [.i a, .i r] ∧ 0 ≤ r ∧ r < 3600 ∧ 0 ≤ a ∧ a ≤ rs.length) (To.ite (fun c => ?_) (fun c => ?_)) ?_
      · simp only [X.den, X.dens, X.denss, D.int_i, D.boo_b, D.str_s, D.rows_l, List.getD_cons_zero, List.getD_cons_succ, List.cons_append, List.nil_append, List.append_nil, List.length_cons, List.length_nil, D.len_l, decide_eq_true_eq] at c
        refine To.need (by simp only [X.den, X.dens, X.denss, D.int_i, D.boo_b, D.str_s, D.rows_l, List.getD_cons_zero, List.getD_cons_succ, List.cons_append, List.nil_append, List.append_nil, List.length_cons, List.length_nil, D.len_l, decide_eq_true_eq]; omega) (To.ret ⟨rfl, ?_⟩)
        simp only [X.den, X.dens, X.denss, D.int_i, D.boo_b, D.str_s, D.rows_l, List.getD_cons_zero, List.getD_cons_succ, List.cons_append, List.nil_append, List.append_nil, List.length_cons, List.length_nil]
        generalize (D.cell _ _ _).int = z
        obtain ⟨q1, q2, _, _⟩ := mod_rng z 3600 (by decide)
        exact ⟨_, _, rfl, q1, q2, by omega, by omega⟩
      · refine To.ret ⟨rfl, ?_⟩
        simp only [X.den, X.dens, X.denss, D.int_i, D.boo_b, D.str_s, D.rows_l, List.getD_cons_zero, List.getD_cons_succ, List.cons_append, List.nil_append, List.append_nil, List.length_cons, List.length_nil]
        exact ⟨_, _, rfl, by decide, by decide, by omega, by omega⟩
      rintro l ⟨at5, a, rfl, a0, a1, at50, at51⟩
      simp only [List.cons_append, List.nil_append]
      obtain ⟨_, es, u, rfl, u0, u1⟩ := sin_to a0 a1
      obtain ⟨_, ec, v, rfl, v0, v1⟩ := cos_to a0 a1
      refine To.call (l := [.i u]) es rfl ?_
      simp only [List.cons_append, List.nil_append]
      refine To.need (by simp only [X.den, X.dens, X.denss, D.int_i, D.boo_b, D.str_s, D.rows_l, List.getD_cons_zero, List.getD_cons_succ, List.cons_append, List.nil_append, List.append_nil, List.length_cons, List.length_nil, D.len_l, Bool.and_eq_true, Bool.not_eq_true', decide_eq_true_eq, decide_eq_false_iff_not]; omega) ?_
      refine To.call (l := [.i v]) ec rfl ?_
      simp only [List.cons_append, List.nil_append]
      refine To.need (by simp only [X.den, X.dens, X.denss, D.int_i, D.boo_b, D.str_s, D.rows_l, List.getD_cons_zero, List.getD_cons_succ, List.cons_append, List.nil_append, List.append_nil, List.length_cons, List.length_nil, D.len_l, Bool.and_eq_true, Bool.not_eq_true', decide_eq_true_eq, decide_eq_false_iff_not]; omega) ?_
      refine To.half (by decide) (by simp only [X.den, X.dens, X.denss, D.int_i, D.boo_b, D.str_s, D.rows_l, List.getD_cons_zero, List.getD_cons_succ, List.cons_append, List.nil_append, List.append_nil, List.length_cons, List.length_nil]; rfl) rfl ?_
      simp only [List.cons_append, List.nil_append]
      generalize hA : (2 * ((x2 - x) * v + (y2 - y) * u) + 10000) / (2 * 10000) = A
      refine To.half (by decide) (by simp only [X.den, X.dens, X.denss, D.int_i, D.boo_b, D.str_s, D.rows_l, List.getD_cons_zero, List.getD_cons_succ, List.cons_append, List.nil_append, List.append_nil, List.length_cons, List.length_nil]; rfl) rfl ?_
      simp only [List.cons_append, List.nil_append]
      generalize hB : (2 * ((y2 - y) * v - (x2 - x) * u) + 10000) / (2 * 10000) = B
      refine To.pick1 (by simp only [X.den, X.dens, X.denss, D.int_i, D.boo_b, D.str_s, D.rows_l, List.getD_cons_zero, List.getD_cons_succ, List.cons_append, List.nil_append, List.append_nil, List.length_cons, List.length_nil]; rfl) (by simp only [X.den, X.dens, X.denss, D.int_i, D.boo_b, D.str_s, D.rows_l, List.getD_cons_zero, List.getD_cons_succ, List.cons_append, List.nil_append, List.append_nil, List.length_cons, List.length_nil]; rfl) (by simp only [X.den, X.dens, X.denss, D.int_i, D.boo_b, D.str_s, D.rows_l, List.getD_cons_zero, List.getD_cons_succ, List.cons_append, List.nil_append, List.append_nil, List.length_cons, List.length_nil]; rfl) ?_; simp only [List.cons_append, List.nil_append, norm_if]
      refine To.pick1 (by simp only [X.den, X.dens, X.denss, D.int_i, D.boo_b, D.str_s, D.rows_l, List.getD_cons_zero, List.getD_cons_succ, List.cons_append, List.nil_append, List.append_nil, List.length_cons, List.length_nil]; rfl) (by simp only [X.den, X.dens, X.denss, D.int_i, D.boo_b, D.str_s, D.rows_l, List.getD_cons_zero, List.getD_cons_succ, List.cons_append, List.nil_append, List.append_nil, List.length_cons, List.length_nil]; rfl) (by simp only [X.den, X.dens, X.denss, D.int_i, D.boo_b, D.str_s, D.rows_l, List.getD_cons_zero, List.getD_cons_succ, List.cons_append, List.nil_append, List.append_nil, List.length_cons, List.length_nil]; rfl) ?_; simp only [List.cons_append, List.nil_append, norm_if]
      generalize hC : (if (h - a) % 3600 < 1800 then (h - a) % 3600 else (h - a) % 3600 - 3600) = C
      refine To.half (by decide) (by simp only [X.den, X.dens, X.denss, D.int_i, D.boo_b, D.str_s, D.rows_l, List.getD_cons_zero, List.getD_cons_succ, List.cons_append, List.nil_append, List.append_nil, List.length_cons, List.length_nil]; rfl) rfl ?_
      simp only [List.cons_append, List.nil_append]
      refine To.half (by decide) (by simp only [X.den, X.dens, X.denss, D.int_i, D.boo_b, D.str_s, D.rows_l, List.getD_cons_zero, List.getD_cons_succ, List.cons_append, List.nil_append, List.append_nil, List.length_cons, List.length_nil]; rfl) rfl ?_
      simp only [List.cons_append, List.nil_append]
      refine To.half (by decide) (by simp only [X.den, X.dens, X.denss, D.int_i, D.boo_b, D.str_s, D.rows_l, List.getD_cons_zero, List.getD_cons_succ, List.cons_append, List.nil_append, List.append_nil, List.length_cons, List.length_nil]; rfl) rfl ?_
      simp only [List.cons_append, List.nil_append]
      refine To.call (l := [.i u]) es rfl ?_
      simp only [List.cons_append, List.nil_append]
      refine To.need (by simp only [X.den, X.dens, X.denss, D.int_i, D.boo_b, D.str_s, D.rows_l, List.getD_cons_zero, List.getD_cons_succ, List.cons_append, List.nil_append, List.append_nil, List.length_cons, List.length_nil, D.len_l, Bool.and_eq_true, Bool.not_eq_true', decide_eq_true_eq, decide_eq_false_iff_not]; omega) ?_
      refine To.call (l := [.i v]) ec rfl ?_
      simp only [List.cons_append, List.nil_append]
      refine To.need (by simp only [X.den, X.dens, X.denss, D.int_i, D.boo_b, D.str_s, D.rows_l, List.getD_cons_zero, List.getD_cons_succ, List.cons_append, List.nil_append, List.append_nil, List.length_cons, List.length_nil, D.len_l, Bool.and_eq_true, Bool.not_eq_true', decide_eq_true_eq, decide_eq_false_iff_not]; omega) ?_
      refine To.half (by decide) (by simp only [X.den, X.dens, X.denss, D.int_i, D.boo_b, D.str_s, D.rows_l, List.getD_cons_zero, List.getD_cons_succ, List.cons_append, List.nil_append, List.append_nil, List.length_cons, List.length_nil]; rfl) rfl ?_
      simp only [List.cons_append, List.nil_append]
      rw [hA]
      refine To.half (by decide) (by simp only [X.den, X.dens, X.denss, D.int_i, D.boo_b, D.str_s, D.rows_l, List.getD_cons_zero, List.getD_cons_succ, List.cons_append, List.nil_append, List.append_nil, List.length_cons, List.length_nil]; rfl) rfl ?_
      simp only [List.cons_append, List.nil_append]
      rw [hB]
      refine To.pick1 (by simp only [X.den, X.dens, X.denss, D.int_i, D.boo_b, D.str_s, D.rows_l, List.getD_cons_zero, List.getD_cons_succ, List.cons_append, List.nil_append, List.append_nil, List.length_cons, List.length_nil]; rfl) (by simp only [X.den, X.dens, X.denss, D.int_i, D.boo_b, D.str_s, D.rows_l, List.getD_cons_zero, List.getD_cons_succ, List.cons_append, List.nil_append, List.append_nil, List.length_cons, List.length_nil]; rfl) (by simp only [X.den, X.dens, X.denss, D.int_i, D.boo_b, D.str_s, D.rows_l, List.getD_cons_zero, List.getD_cons_succ, List.cons_append, List.nil_append, List.append_nil, List.length_cons, List.length_nil]; rfl) ?_; simp only [List.cons_append, List.nil_append, norm_if]
      refine To.pick1 (by simp only [X.den, X.dens, X.denss, D.int_i, D.boo_b, D.str_s, D.rows_l, List.getD_cons_zero, List.getD_cons_succ, List.cons_append, List.nil_append, List.append_nil, List.length_cons, List.length_nil]; rfl) (by simp only [X.den, X.dens, X.denss, D.int_i, D.boo_b, D.str_s, D.rows_l, List.getD_cons_zero, List.getD_cons_succ, List.cons_append, List.nil_append, List.append_nil, List.length_cons, List.length_nil]; rfl) (by simp only [X.den, X.dens, X.denss, D.int_i, D.boo_b, D.str_s, D.rows_l, List.getD_cons_zero, List.getD_cons_succ, List.cons_append, List.nil_append, List.append_nil, List.length_cons, List.length_nil]; rfl) ?_; simp only [List.cons_append, List.nil_append, norm_if]
      rw [hC]
      refine To.join (fun l => l = [.b true]) ?_ ?_
      · refine To.join (fun l => l = [.b true]) (To.ite (fun c => To.ret ⟨rfl, by simp only [X.den, X.dens, X.denss, D.int_i, D.boo_b, D.str_s, D.rows_l, List.getD_cons_zero, List.getD_cons_succ, List.cons_append, List.nil_append, List.append_nil, List.length_cons, List.length_nil]⟩) (fun c => ?_)) ?_
        · simp only [X.den, X.dens, X.denss, D.int_i, D.boo_b, D.str_s, D.rows_l, List.getD_cons_zero, List.getD_cons_succ, List.cons_append, List.nil_append, List.append_nil, List.length_cons, List.length_nil, decide_eq_false_iff_not] at c
          obtain ⟨k1, k2⟩ := (push b1 b3 b13 b15 (A := A) rfl).resolve_left c
          exact To.yes (by simp only [X.den, X.dens, X.denss, D.int_i, D.boo_b, D.str_s, D.rows_l, List.getD_cons_zero, List.getD_cons_succ, List.cons_append, List.nil_append, List.append_nil, List.length_cons, List.length_nil, beq_iff_eq, decide_eq_decide]; exact k1) (To.ret ⟨rfl, by simp only [X.den, X.dens, X.denss, D.int_i, D.boo_b, D.str_s, D.rows_l, List.getD_cons_zero, List.getD_cons_succ, List.cons_append, List.nil_append, List.append_nil, List.length_cons, List.length_nil, decide_eq_false k2, Bool.not_false]⟩)
        rintro l rfl
        simp only [List.cons_append, List.nil_append]
        refine To.yes rfl ?_
        refine To.join (fun l => l = [.b true]) (To.ite (fun c => To.ret ⟨rfl, by simp only [X.den, X.dens, X.denss, D.int_i, D.boo_b, D.str_s, D.rows_l, List.getD_cons_zero, List.getD_cons_succ, List.cons_append, List.nil_append, List.append_nil, List.length_cons, List.length_nil]⟩) (fun c => ?_)) ?_
        · simp only [X.den, X.dens, X.denss, D.int_i, D.boo_b, D.str_s, D.rows_l, List.getD_cons_zero, List.getD_cons_succ, List.cons_append, List.nil_append, List.append_nil, List.length_cons, List.length_nil, decide_eq_false_iff_not] at c
          obtain ⟨k1, k2⟩ := (push b1 b3 b13 b15 (A := B) rfl).resolve_left c
          exact To.yes (by simp only [X.den, X.dens, X.denss, D.int_i, D.boo_b, D.str_s, D.rows_l, List.getD_cons_zero, List.getD_cons_succ, List.cons_append, List.nil_append, List.append_nil, List.length_cons, List.length_nil, beq_iff_eq, decide_eq_decide]; exact k1) (To.ret ⟨rfl, by simp only [X.den, X.dens, X.denss, D.int_i, D.boo_b, D.str_s, D.rows_l, List.getD_cons_zero, List.getD_cons_succ, List.cons_append, List.nil_append, List.append_nil, List.length_cons, List.length_nil, decide_eq_false k2, Bool.not_false]⟩)
        rintro l rfl
        simp only [List.cons_append, List.nil_append]
        refine To.yes rfl ?_
        refine To.join (fun l => l = [.b true]) (To.ite (fun c => To.ret ⟨rfl, by simp only [X.den, X.dens, X.denss, D.int_i, D.boo_b, D.str_s, D.rows_l, List.getD_cons_zero, List.getD_cons_succ, List.cons_append, List.nil_append, List.append_nil, List.length_cons, List.length_nil]⟩) (fun c => ?_)) ?_
        · simp only [X.den, X.dens, X.denss, D.int_i, D.boo_b, D.str_s, D.rows_l, List.getD_cons_zero, List.getD_cons_succ, List.cons_append, List.nil_append, List.append_nil, List.length_cons, List.length_nil, decide_eq_false_iff_not] at c
          obtain ⟨k1, k2⟩ := (push b7 b9 b13 b17 (A := C) rfl).resolve_left c
          exact To.yes (by simp only [X.den, X.dens, X.denss, D.int_i, D.boo_b, D.str_s, D.rows_l, List.getD_cons_zero, List.getD_cons_succ, List.cons_append, List.nil_append, List.append_nil, List.length_cons, List.length_nil, beq_iff_eq, decide_eq_decide]; exact k1) (To.ret ⟨rfl, by simp only [X.den, X.dens, X.denss, D.int_i, D.boo_b, D.str_s, D.rows_l, List.getD_cons_zero, List.getD_cons_succ, List.cons_append, List.nil_append, List.append_nil, List.length_cons, List.length_nil, decide_eq_false k2, Bool.not_false]⟩)
        rintro l rfl
        simp only [List.cons_append, List.nil_append]
        refine To.yes rfl ?_
        refine To.call (l := [.b true]) rfl rfl (To.ret ⟨rfl, ?_⟩)
        simp only [X.den, X.dens, X.denss, D.int_i, D.boo_b, D.str_s, D.rows_l, List.getD_cons_zero, List.getD_cons_succ, List.cons_append, List.nil_append, List.append_nil, List.length_cons, List.length_nil]
      rintro l rfl
      refine To.ret ?_
      simp only [X.den, X.dens, X.denss, D.int_i, D.boo_b, D.str_s, D.rows_l, List.getD_cons_zero, List.getD_cons_succ, List.cons_append, List.nil_append, List.append_nil, List.length_cons, List.length_nil]
    · cases h
theorem ControlDirects_walk {w : World} (v : Value) (zs : List Int) (h : IntsIn w w.heap.size v .i64 zs) (hz : ∀ z ∈ zs, (Lit.int .i64 z).wf = true) : Calls Try.prog 7 #[v] w fun e w' => e = .returned (.bool true) ∧ Below w.heap.size w w' :=
  con_law directs_ok rfl (fun G hG => args_ints h hG (by trivial)) (by simp [directs_K]) (ds := [numD zs]) rfl
end Go.Proofs.Ythfagiihfkjamaa
