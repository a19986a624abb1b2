/- What a step of a ship's motion gives, in numbers. -/
import Derived.Test.YtdkamfkpmplaoaaVesM
import Derived.Test.YtdkamfkpmplaoaaRnd
set_option linter.unusedVariables false
set_option linter.unusedSimpArgs false
namespace Go.Proofs.Ytdkamfkpmplaoaa
open Go.RowKit Fx
theorem mul_abs {x y a b : Int} (h0 : -a ≤ x) (h1 : x ≤ a) (h2 : -b ≤ y) (h3 : y ≤ b) : -(a * b) ≤ x * y ∧ x * y ≤ a * b := by
  have ha : 0 ≤ a := by omega
  have hb : 0 ≤ b := by omega
  have r := mul_rng h0 h1 h2 h3
  have e1 : -a * -b = a * b := by rw [Int.neg_mul_neg]
  have e2 : -a * b = -(a * b) := Int.neg_mul a b
  have e3 : a * -b = -(a * b) := Int.mul_neg a b
  rw [e1, e2, e3] at r
  have := Int.mul_nonneg ha hb
  omega
/-- what is left of a step: the speeds -/
def spd (f s drag mass : Int) : Int := s + hdv (10000 * f - drag * s) mass
/-- a step, in numbers: sn and cn are the sine and the cosine of the new heading -/
theorem vStep_eq {h0 h1 h2 h3 h4 h5 h6 h7 h8 : D} {mass inertia drag spin m0 m1 m2 m3 m4 m5 m6 f0 f1 f2 : Int} (hu : HullOk h0 h1 h2 h3 h4 h5 h6 h7 h8 (.i mass) (.i inertia) (.i drag) (.i spin)) (mo : MotOk (.i m0) (.i m1) (.i m2) (.i m3) (.i m4) (.i m5) (.i m6)) (fr : FrcOk (.i f0) (.i f1) (.i f2))
    {sn cn : Int} (es : fxSin_T.run noM 0 [.i ((m3 + spd f2 m6 spin inertia) % 360000 / 100)] = some [.i sn]) (ec : fxCos_T.run noM 0 [.i ((m3 + spd f2 m6 spin inertia) % 360000 / 100)] = some [.i cn]) (sn0 : -10000 ≤ sn) (sn1 : sn ≤ 10000) (cn0 : -10000 ≤ cn) (cn1 : cn ≤ 10000) :
    let s := spd f0 m4 drag mass; let v := spd f1 m5 drag mass; let t := spd f2 m6 spin inertia
    let x := m1 + hdv (s * cn - v * sn) 10000; let y := m2 + hdv (s * sn + v * cn) 10000
    ∃ l, vStep_T.run vsM 0 [h0, h1, h2, h3, h4, h5, h6, h7, h8, .i mass, .i inertia, .i drag, .i spin, .i m0, .i m1, .i m2, .i m3, .i m4, .i m5, .i m6, .i f0, .i f1, .i f2] = some l ∧
      ((m0 + 1 ≤ 2147483648 ∧ -10000000000 ≤ x ∧ x ≤ 10000000000 ∧ -10000000000 ≤ y ∧ y ≤ 10000000000 ∧ -100000 ≤ s ∧ s ≤ 100000 ∧ -100000 ≤ v ∧ v ≤ 100000 ∧ -10000 ≤ t ∧ t ≤ 10000) → l = [.i (m0 + 1), .i x, .i y, .i ((m3 + t) % 360000), .i s, .i v, .i t, .i 0]) ∧
      (¬ (m0 + 1 ≤ 2147483648 ∧ -10000000000 ≤ x ∧ x ≤ 10000000000 ∧ -10000000000 ≤ y ∧ y ≤ 10000000000 ∧ -100000 ≤ s ∧ s ≤ 100000 ∧ -100000 ≤ v ∧ v ≤ 100000 ∧ -10000 ≤ t ∧ t ≤ 10000) → l = [.i 0, .i 0, .i 0, .i 0, .i 0, .i 0, .i 0, .i 2]) := by
  intro s v t x y
  obtain ⟨lc, kc, ev, rfl, hv⟩ := vCheck_to h0 h1 h2 h3 h4 h5 h6 h7 h8 (.i mass) (.i inertia) (.i drag) (.i spin) (.i m0) (.i m1) (.i m2) (.i m3) (.i m4) (.i m5) (.i m6) (.i f0) (.i f1) (.i f2)
  obtain rfl : ev = 0 := hv.2 ⟨hu, mo, fr⟩
  have hu' := hu
  unfold HullOk at hu'
  simp only [MotOk, FrcOk, D.int_i] at hu' mo fr
  obtain ⟨_, _, _, _, _, _, _, _, _, u1, u2, u3, u4, u5, u6, u7, u8⟩ := hu'
  have p1 := mul_abs (x := drag) (y := m4) (a := 1000000) (b := 100000) (by omega) (by omega) (by omega) (by omega)
  have p2 := mul_abs (x := drag) (y := m5) (a := 1000000) (b := 100000) (by omega) (by omega) (by omega) (by omega)
  have p3 := mul_abs (x := spin) (y := m6) (a := 1073741824) (b := 10000) (by omega) (by omega) (by omega) (by omega)
  have n1 := hdv_rng (n := 10000 * f0 - drag * m4) (d := mass) (a := 110000000000) u1 (by omega) (by omega)
  have n2 := hdv_rng (n := 10000 * f1 - drag * m5) (d := mass) (a := 110000000000) u1 (by omega) (by omega)
  have n3 := hdv_rng (n := 10000 * f2 - spin * m6) (d := inertia) (a := 10747418240000) u3 (by omega) (by omega)
  have es1 : s = m4 + hdv (10000 * f0 - drag * m4) mass := rfl
  have es2 : v = m5 + hdv (10000 * f1 - drag * m5) mass := rfl
  have es3 : t = m6 + hdv (10000 * f2 - spin * m6) inertia := rfl
  have s1 : -110000100000 ≤ s ∧ s ≤ 110000100000 := by omega
  have s2 : -110000100000 ≤ v ∧ v ≤ 110000100000 := by omega
  have s3 : -10747418250000 ≤ t ∧ t ≤ 10747418250000 := by omega
  have q1 := mul_abs (x := s) (y := cn) (a := 110000100000) (b := 10000) s1.1 s1.2 cn0 cn1
  have q2 := mul_abs (x := v) (y := sn) (a := 110000100000) (b := 10000) s2.1 s2.2 sn0 sn1
  have q3 := mul_abs (x := s) (y := sn) (a := 110000100000) (b := 10000) s1.1 s1.2 sn0 sn1
  have q4 := mul_abs (x := v) (y := cn) (a := 110000100000) (b := 10000) s2.1 s2.2 cn0 cn1
  have z1 := hdv_rng (n := s * cn - v * sn) (d := 10000) (a := 2200002000000000) (by decide) (by omega) (by omega)
  have z2 := hdv_rng (n := s * sn + v * cn) (d := 10000) (a := 2200002000000000) (by decide) (by omega) (by omega)
  have ex : x = m1 + hdv (s * cn - v * sn) 10000 := rfl
  have ey : y = m2 + hdv (s * sn + v * cn) 10000 := rfl
  refine run_to ?_
  unfold vStep_T
  refine To.call (l := [.i 0]) kc rfl ?_
  simp only [List.cons_append, List.nil_append]
  refine To.yes rfl ?_
  refine To.rounded (n := 10000 * f0 - drag * m4) (d := mass) ?_ rfl rfl rfl u1 (by omega) (by omega) (by omega) ?_
  · simp only [X.den, X.dens, X.denss, D.int_i, D.boo_b, D.str_s, D.rows_l, List.getD_cons_zero, List.getD_cons_succ, List.cons_append, List.nil_append, List.append_nil, List.length_cons, List.length_nil]
    rw [wr64 (z := 10000 * f0) (by omega) (by omega), wr64 (z := drag * m4) (by omega) (by omega), wr64 (by omega) (by omega)]
  simp only [List.cons_append, List.nil_append]
  refine To.rounded (n := 10000 * f1 - drag * m5) (d := mass) ?_ rfl rfl rfl u1 (by omega) (by omega) (by omega) ?_
  · simp only [X.den, X.dens, X.denss, D.int_i, D.boo_b, D.str_s, D.rows_l, List.getD_cons_zero, List.getD_cons_succ, List.cons_append, List.nil_append, List.append_nil, List.length_cons, List.length_nil]
    rw [wr64 (z := 10000 * f1) (by omega) (by omega), wr64 (z := drag * m5) (by omega) (by omega), wr64 (by omega) (by omega)]
  simp only [List.cons_append, List.nil_append]
  refine To.rounded (n := 10000 * f2 - spin * m6) (d := inertia) ?_ rfl rfl rfl u3 (by omega) (by omega) (by omega) ?_
  · simp only [X.den, X.dens, X.denss, D.int_i, D.boo_b, D.str_s, D.rows_l, List.getD_cons_zero, List.getD_cons_succ, List.cons_append, List.nil_append, List.append_nil, List.length_cons, List.length_nil]
    rw [wr64 (z := 10000 * f2) (by omega) (by omega), wr64 (z := spin * m6) (by omega) (by omega), wr64 (by omega) (by omega)]
  simp only [List.cons_append, List.nil_append]
  have w1 : IntKind.i64.wrap (m4 + hdv (10000 * f0 - drag * m4) mass) = s := wr64 (by omega) (by omega)
  have w2 : IntKind.i64.wrap (m5 + hdv (10000 * f1 - drag * m5) mass) = v := wr64 (by omega) (by omega)
  have w3 : IntKind.i64.wrap (m6 + hdv (10000 * f2 - spin * m6) inertia) = t := wr64 (by omega) (by omega)
  have w4 : IntKind.i64.wrap (m3 + t) = m3 + t := wr64 (by omega) (by omega)
  -- the course
  refine To.join (fun l => ∃ q, l = [q, .i ((m3 + t) % 360000)]) ?_ ?_
  · have k := (tdiv_down (n := m3 + t) (d := 360000) (by decide)).2
    refine To.ite (fun c => ?_) (fun c => ?_) <;> simp only [X.den, X.dens, X.denss, D.int_i, D.boo_b, D.str_s, D.rows_l, List.getD_cons_zero, List.getD_cons_succ, List.cons_append, List.nil_append, List.append_nil, List.length_cons, List.length_nil, decide_eq_true_eq, decide_eq_false_iff_not, Bool.not_eq_true', Bool.not_eq_false', Bool.and_eq_true, Bool.and_eq_false_iff, Bool.true_eq_false, Bool.false_eq_true, Bool.not_true, Bool.not_false, eq_self, w3, w4] at c
    · rw [if_pos c] at k
      exact To.ret ⟨rfl, _, by simp only [X.den, X.dens, X.denss, D.int_i, D.boo_b, D.str_s, D.rows_l, List.getD_cons_zero, List.getD_cons_succ, List.cons_append, List.nil_append, List.append_nil, List.length_cons, List.length_nil, w3, w4, k]; rfl⟩
    · rw [if_neg c] at k
      exact To.ret ⟨rfl, _, by simp only [X.den, X.dens, X.denss, D.int_i, D.boo_b, D.str_s, D.rows_l, List.getD_cons_zero, List.getD_cons_succ, List.cons_append, List.nil_append, List.append_nil, List.length_cons, List.length_nil, w3, w4, k]; rfl⟩
  rintro l ⟨qa, rfl⟩
  simp only [List.cons_append, List.nil_append]
  have c0 := Int.emod_nonneg (m3 + t) (show (360000 : Int) ≠ 0 by decide)
  have c1 := Int.emod_lt_of_pos (m3 + t) (show (0 : Int) < 360000 by decide)
  refine To.join (fun l => ∃ r, l = [.i ((m3 + t) % 360000 / 100), r]) ?_ ?_
  · have k := (tdiv_down (n := (m3 + t) % 360000) (d := 100) (by decide)).1
    refine To.ite (fun c => ?_) (fun c => ?_) <;> simp only [X.den, X.dens, X.denss, D.int_i, D.boo_b, D.str_s, D.rows_l, List.getD_cons_zero, List.getD_cons_succ, List.cons_append, List.nil_append, List.append_nil, List.length_cons, List.length_nil, decide_eq_true_eq, decide_eq_false_iff_not, Bool.not_eq_true', Bool.not_eq_false', Bool.and_eq_true, Bool.and_eq_false_iff, Bool.true_eq_false, Bool.false_eq_true, Bool.not_true, Bool.not_false, eq_self] at c
    · rw [if_pos c] at k
      exact To.ret ⟨rfl, _, by simp only [X.den, X.dens, X.denss, D.int_i, D.boo_b, D.str_s, D.rows_l, List.getD_cons_zero, List.getD_cons_succ, List.cons_append, List.nil_append, List.append_nil, List.length_cons, List.length_nil, k]; rfl⟩
    · rw [if_neg c] at k
      exact To.ret ⟨rfl, _, by simp only [X.den, X.dens, X.denss, D.int_i, D.boo_b, D.str_s, D.rows_l, List.getD_cons_zero, List.getD_cons_succ, List.cons_append, List.nil_append, List.append_nil, List.length_cons, List.length_nil, k]; rfl⟩
  rintro l ⟨qb, rfl⟩
  simp only [List.cons_append, List.nil_append]
  refine To.pick1 (by simp only [X.den, X.dens, X.denss, D.int_i, D.boo_b, D.str_s, D.rows_l, List.getD_cons_zero, List.getD_cons_succ, List.cons_append, List.nil_append, List.append_nil, List.length_cons, List.length_nil]; rfl) (by simp only [X.den, X.dens, X.denss, D.int_i, D.boo_b, D.str_s, D.rows_l, List.getD_cons_zero, List.getD_cons_succ, List.cons_append, List.nil_append, List.append_nil, List.length_cons, List.length_nil]; rfl) (by simp only [X.den, X.dens, X.denss, D.int_i, D.boo_b, D.str_s, D.rows_l, List.getD_cons_zero, List.getD_cons_succ, List.cons_append, List.nil_append, List.append_nil, List.length_cons, List.length_nil]; rfl) ?_; simp only [List.cons_append, List.nil_append, norm_if]
  rw [show (m3 + t) % 360000 / 100 % 3600 = (m3 + t) % 360000 / 100 by omega]
  refine To.call (l := [.i sn]) es rfl ?_
  simp only [List.cons_append, List.nil_append]
  refine To.call (l := [.i cn]) ec rfl ?_
  simp only [List.cons_append, List.nil_append]
  have o1 : IntKind.i64.wrap (s * cn) = s * cn := wr64 (by omega) (by omega)
  have o2 : IntKind.i64.wrap (v * sn) = v * sn := wr64 (by omega) (by omega)
  have o3 : IntKind.i64.wrap (s * sn) = s * sn := wr64 (by omega) (by omega)
  have o4 : IntKind.i64.wrap (v * cn) = v * cn := wr64 (by omega) (by omega)
  have o5 : IntKind.i64.wrap (s * cn - v * sn) = s * cn - v * sn := wr64 (by omega) (by omega)
  have o6 : IntKind.i64.wrap (s * sn + v * cn) = s * sn + v * cn := wr64 (by omega) (by omega)
  refine To.join (fun l => l = [.i (hdv (s * cn - v * sn) 10000), .i 0]) ?_ ?_
  · refine To.join (fun l => l = [.b false]) ?_ ?_
    · refine To.no (by simp only [X.den, X.dens, X.denss, D.int_i, D.boo_b, D.str_s, D.rows_l, List.getD_cons_zero, List.getD_cons_succ, List.cons_append, List.nil_append, List.append_nil, List.length_cons, List.length_nil, decide_eq_true_eq, decide_eq_false_iff_not, Bool.not_eq_true', Bool.not_eq_false', Bool.and_eq_true, Bool.and_eq_false_iff, Bool.true_eq_false, Bool.false_eq_true, Bool.not_true, Bool.not_false, eq_self, w1, w2, o1, o2, o5]; omega) (To.no (by simp only [X.den, X.dens, X.denss, D.int_i, D.boo_b, D.str_s, D.rows_l, List.getD_cons_zero, List.getD_cons_succ, List.cons_append, List.nil_append, List.append_nil, List.length_cons, List.length_nil, decide_eq_true_eq, decide_eq_false_iff_not, Bool.not_eq_true', Bool.not_eq_false', Bool.and_eq_true, Bool.and_eq_false_iff, Bool.true_eq_false, Bool.false_eq_true, Bool.not_true, Bool.not_false, eq_self, w1, w2, o1, o2, o5]; omega) (To.ret ⟨rfl, rfl⟩))
    rintro l rfl
    simp only [List.cons_append, List.nil_append]
    refine To.no rfl (To.half (n := s * cn - v * sn) (c := 10000) (by decide) ?_ rfl (To.ret ⟨rfl, ?_⟩))
    · simp only [X.den, X.dens, X.denss, D.int_i, D.boo_b, D.str_s, D.rows_l, List.getD_cons_zero, List.getD_cons_succ, List.cons_append, List.nil_append, List.append_nil, List.length_cons, List.length_nil, w1, w2, o1, o2, o5]
    · simp only [X.den, X.dens, X.denss, D.int_i, D.boo_b, D.str_s, D.rows_l, List.getD_cons_zero, List.getD_cons_succ, List.cons_append, List.nil_append, List.append_nil, List.length_cons, List.length_nil]; rfl
  rintro l rfl
  simp only [List.cons_append, List.nil_append]
  refine To.join (fun l => l = [.i (hdv (s * sn + v * cn) 10000), .i 0]) ?_ ?_
  · refine To.join (fun l => l = [.b false]) ?_ ?_
    · refine To.no (by simp only [X.den, X.dens, X.denss, D.int_i, D.boo_b, D.str_s, D.rows_l, List.getD_cons_zero, List.getD_cons_succ, List.cons_append, List.nil_append, List.append_nil, List.length_cons, List.length_nil, decide_eq_true_eq, decide_eq_false_iff_not, Bool.not_eq_true', Bool.not_eq_false', Bool.and_eq_true, Bool.and_eq_false_iff, Bool.true_eq_false, Bool.false_eq_true, Bool.not_true, Bool.not_false, eq_self, w1, w2, o3, o4, o6]; omega) (To.no (by simp only [X.den, X.dens, X.denss, D.int_i, D.boo_b, D.str_s, D.rows_l, List.getD_cons_zero, List.getD_cons_succ, List.cons_append, List.nil_append, List.append_nil, List.length_cons, List.length_nil, decide_eq_true_eq, decide_eq_false_iff_not, Bool.not_eq_true', Bool.not_eq_false', Bool.and_eq_true, Bool.and_eq_false_iff, Bool.true_eq_false, Bool.false_eq_true, Bool.not_true, Bool.not_false, eq_self, w1, w2, o3, o4, o6]; omega) (To.ret ⟨rfl, rfl⟩))
    rintro l rfl
    simp only [List.cons_append, List.nil_append]
    refine To.no rfl (To.half (n := s * sn + v * cn) (c := 10000) (by decide) ?_ rfl (To.ret ⟨rfl, ?_⟩))
    · simp only [X.den, X.dens, X.denss, D.int_i, D.boo_b, D.str_s, D.rows_l, List.getD_cons_zero, List.getD_cons_succ, List.cons_append, List.nil_append, List.append_nil, List.length_cons, List.length_nil, w1, w2, o3, o4, o6]
    · simp only [X.den, X.dens, X.denss, D.int_i, D.boo_b, D.str_s, D.rows_l, List.getD_cons_zero, List.getD_cons_succ, List.cons_append, List.nil_append, List.append_nil, List.length_cons, List.length_nil]; rfl
  rintro l rfl
  simp only [List.cons_append, List.nil_append]
  have w5 : IntKind.i64.wrap (m0 + 1) = m0 + 1 := wr64 (by omega) (by omega)
  have w6 : IntKind.i64.wrap (m1 + hdv (s * cn - v * sn) 10000) = x := wr64 (by omega) (by omega)
  have w7 : IntKind.i64.wrap (m2 + hdv (s * sn + v * cn) 10000) = y := wr64 (by omega) (by omega)
  clear_value x y s v t
  clear n1 n2 n3 es1 es2 es3 q1 q2 q3 q4 z1 z2 ex ey p1 p2 p3 o1 o2 o3 o4 o5 o6 es ec kc hv hu s1 s2 s3
  (repeat' (first
    | (refine To.sub ?_)
    | (refine To.ite (fun c => ?_) (fun c => ?_) <;> simp only [X.den, X.dens, X.denss, D.int_i, D.boo_b, D.str_s, D.rows_l, List.getD_cons_zero, List.getD_cons_succ, List.cons_append, List.nil_append, List.append_nil, List.length_cons, List.length_nil, decide_eq_true_eq, decide_eq_false_iff_not, Bool.not_eq_true', Bool.not_eq_false', Bool.and_eq_true, Bool.and_eq_false_iff, Bool.true_eq_false, Bool.false_eq_true, Bool.not_true, Bool.not_false, eq_self, w1, w2, w3, w5, w6, w7] at c)
    | (refine To.ret ?_)
    | (refine ⟨rfl, ?_⟩; simp only [X.den, X.dens, X.denss, D.int_i, D.boo_b, D.str_s, D.rows_l, List.getD_cons_zero, List.getD_cons_succ, List.cons_append, List.nil_append, List.append_nil, List.length_cons, List.length_nil, w1, w2, w3, w5, w6, w7])
    | fail))
  all_goals first
    | (refine ⟨fun _ => ?_, fun h => absurd (by omega) h⟩; simp only [X.den, X.dens, X.denss, D.int_i, D.boo_b, D.str_s, D.rows_l, List.getD_cons_zero, List.getD_cons_succ, List.cons_append, List.nil_append, List.append_nil, List.length_cons, List.length_nil, w1, w2, w3, w5, w6, w7]; done)
    | (refine ⟨fun h => absurd h (by omega), fun _ => ?_⟩; simp only [X.den, X.dens, X.denss, D.int_i, D.boo_b, D.str_s, D.rows_l, List.getD_cons_zero, List.getD_cons_succ, List.cons_append, List.nil_append, List.append_nil, List.length_cons, List.length_nil]; done)
end Go.Proofs.Ytdkamfkpmplaoaa
