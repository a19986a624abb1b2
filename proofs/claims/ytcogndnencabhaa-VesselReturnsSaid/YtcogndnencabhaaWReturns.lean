/- VesselReturns: without drag, a force and then its opposite bring the old speeds back, if the quotients are whole. -/
import Derived.Test.YtcogndnencabhaaVesL
set_option linter.unusedVariables false
set_option linter.unusedSimpArgs false
namespace Go.Proofs.Ytcogndnencabhaa
open Go.RowKit Fx
def zeroL : D := .l [[.i 0], [.i 0], [.i 0], [.i 0], [.i 0], [.i 0], [.i 0], [.i 0], [.i 0], [.i 0], [.i 0], [.i 0]]
theorem zeroL_ok : FacOk zeroL := ⟨rfl, fun i hi => by
  match i, hi with
  | 0, _ | 1, _ | 2, _ | 3, _ | 4, _ | 5, _ | 6, _ | 7, _ | 8, _ | 9, _ | 10, _ | 11, _ => simp [D.cell, D.rows, D.int, zeroL]⟩
theorem plain_step {mass m0 m1 m2 m3 m4 m5 m6 f0 f1 q0 q1 : Int} (h1 : 1 ≤ mass) (h2 : mass ≤ 1000) (b0 : 0 ≤ m0) (b1 : m0 < 100000) (b2 : -1000000 ≤ m1) (b3 : m1 ≤ 1000000) (b4 : -1000000 ≤ m2) (b5 : m2 ≤ 1000000) (b6 : 0 ≤ m3) (b7 : m3 < 360000) (b8 : -20000 ≤ m4) (b9 : m4 ≤ 20000) (b10 : -20000 ≤ m5) (b11 : m5 ≤ 20000) (b12 : -500 ≤ m6) (b13 : m6 ≤ 500)
    (k0 : 10000 * f0 = mass * q0) (k1 : 10000 * f1 = mass * q1) (f00 : -100 ≤ f0) (f01 : f0 ≤ 100) (f10 : -100 ≤ f1) (f11 : f1 ≤ 100) (c0 : -20000 ≤ m4 + q0) (c1 : m4 + q0 ≤ 20000) (c2 : -20000 ≤ m5 + q1) (c3 : m5 + q1 ≤ 20000) :
    ∃ x y c, vStep_T.run vsM 0 [zeroL, zeroL, zeroL, zeroL, zeroL, zeroL, zeroL, zeroL, zeroL, .i mass, .i 500, .i 0, .i 0, .i m0, .i m1, .i m2, .i m3, .i m4, .i m5, .i m6, .i f0, .i f1, .i 0] = some [.i (m0 + 1), .i x, .i y, .i c, .i (m4 + q0), .i (m5 + q1), .i m6, .i 0] ∧ m1 - 50000 ≤ x ∧ x ≤ m1 + 50000 ∧ m2 - 50000 ≤ y ∧ y ≤ m2 + 50000 ∧ 0 ≤ c ∧ c < 360000 := by
  have hu : HullOk zeroL zeroL zeroL zeroL zeroL zeroL zeroL zeroL zeroL (.i mass) (.i 500) (.i 0) (.i 0) := by
    refine ⟨zeroL_ok, zeroL_ok, zeroL_ok, zeroL_ok, zeroL_ok, zeroL_ok, zeroL_ok, zeroL_ok, zeroL_ok, ?_⟩
    simp only [D.int_i]; omega
  have s0 : spd f0 m4 0 mass = m4 + q0 := spd_none h1 k0
  have s1 : spd f1 m5 0 mass = m5 + q1 := spd_none h1 k1
  have s2 : spd 0 m6 0 500 = m6 := by rw [spd_none (q := 0) (by decide) (by decide), Int.add_zero]
  have e0 := Int.emod_nonneg (m3 + m6) (show (360000 : Int) ≠ 0 by decide)
  have e1 := Int.emod_lt_of_pos (m3 + m6) (show (0 : Int) < 360000 by decide)
  obtain ⟨sn, cn, g1, g2, g3, g4, g5, g6⟩ := sincos ((m3 + m6) % 360000) e0 e1
  have a := vStep_eq (m0 := m0) (m1 := m1) (m2 := m2) (m3 := m3) (m4 := m4) (m5 := m5) (m6 := m6) (f0 := f0) (f1 := f1) (f2 := 0) (sn := sn) (cn := cn) hu (by simp only [MotOk, D.int_i]; omega) (by simp only [FrcOk, D.int_i]; omega) (by rw [s2]; exact g1) (by rw [s2]; exact g2) g3 g4 g5 g6
  simp only [s0, s1, s2] at a
  obtain ⟨l, r, p, _⟩ := a
  have p1 := mul_abs (x := m4 + q0) (y := cn) (a := 20000) (b := 10000) (by omega) (by omega) g5 g6
  have p2 := mul_abs (x := m5 + q1) (y := sn) (a := 20000) (b := 10000) (by omega) (by omega) g3 g4
  have p3 := mul_abs (x := m4 + q0) (y := sn) (a := 20000) (b := 10000) (by omega) (by omega) g3 g4
  have p4 := mul_abs (x := m5 + q1) (y := cn) (a := 20000) (b := 10000) (by omega) (by omega) g5 g6
  have z : ∀ n : Int, -400000000 ≤ n → n ≤ 400000000 → -50000 ≤ hdv n 10000 ∧ hdv n 10000 ≤ 50000 := fun n ha hb => by
    have i1 := hdv_mono (n := 10000 * -50000) (n' := n) (d := 10000) (by decide) (by omega)
    have i2 := hdv_mono (n := n) (n' := 10000 * 50000) (d := 10000) (by decide) (by omega)
    rw [hdv_mul (by decide)] at i1 i2
    exact ⟨i1, i2⟩
  have z1 := z ((m4 + q0) * cn - (m5 + q1) * sn) (by omega) (by omega)
  have z2 := z ((m4 + q0) * sn + (m5 + q1) * cn) (by omega) (by omega)
  obtain rfl := p (by omega)
  exact ⟨_, _, _, r, by omega, by omega, by omega, by omega, e0, e1⟩
theorem VesselReturns_ok : ConOk Try.prog returns_K fun ds => match ds with | [.l _, .i _] => some [.b true] | _ => none :=
  con_of follows (M := lawM) (one_con (srcN_ok.to _) (one_con (srcMotion_ok.to _) (one_con (vStep_ok.to _) (one_con (sane23_ok.to _) no_cons)))) returns_t fun ds outs hl h => by
    split at h
    · rename_i rows n
      injection h with h
      subst h
      refine ⟨fun i l h k => by simp [returns_K] at k, 0, ?_⟩
      unfold returns_T
      refine To.ite (fun c => ?_) (fun c => ?_) <;> simp only [X.den, X.dens, X.denss, D.int_i, D.boo_b, D.str_s, D.rows_l, List.getD_cons_zero, List.getD_cons_succ, List.cons_append, List.nil_append, List.append_nil, List.length_cons, List.length_nil, decide_eq_true_eq, decide_eq_false_iff_not, Bool.not_eq_true', Bool.not_eq_false', Bool.and_eq_true, Bool.and_eq_false_iff, Bool.true_eq_false, Bool.false_eq_true, Bool.not_true, Bool.not_false, eq_self, D.len_l] at c
      · exact To.call (l := [.b true]) rfl rfl (To.ret (by simp only [X.den, X.dens, X.denss, D.int_i, D.boo_b, D.str_s, D.rows_l, List.getD_cons_zero, List.getD_cons_succ, List.cons_append, List.nil_append, List.append_nil, List.length_cons, List.length_nil]))
      refine To.need (by simp only [X.den, X.dens, X.denss, D.int_i, D.boo_b, D.str_s, D.rows_l, List.getD_cons_zero, List.getD_cons_succ, List.cons_append, List.nil_append, List.append_nil, List.length_cons, List.length_nil, decide_eq_true_eq, decide_eq_false_iff_not, Bool.not_eq_true', Bool.not_eq_false', Bool.and_eq_true, Bool.and_eq_false_iff, Bool.true_eq_false, Bool.false_eq_true, Bool.not_true, Bool.not_false, eq_self, D.len_l]; omega) ?_
      refine To.via (srcN_to (src0 c) (by decide) (by decide)) ?_
      rintro l ⟨r, at1, rfl, r0, r1, h⟩
      refine ⟨rfl, ?_⟩
      simp only [List.cons_append, List.nil_append]
      refine To.need (by simp only [X.den, X.dens, X.denss, D.int_i, D.boo_b, D.str_s, D.rows_l, List.getD_cons_zero, List.getD_cons_succ, List.cons_append, List.nil_append, List.append_nil, List.length_cons, List.length_nil, decide_eq_true_eq, decide_eq_false_iff_not, Bool.not_eq_true', Bool.not_eq_false', Bool.and_eq_true, Bool.and_eq_false_iff, Bool.true_eq_false, Bool.false_eq_true, Bool.not_true, Bool.not_false, eq_self]; omega) ?_
      refine To.via (srcMotion_to h) ?_
      rintro l ⟨m0, m1, m2, m3, m4, m5, m6, at2, rfl, b1, b2, b3, b4, b5, b6, b7, b8, b9, b10, b11, b12, b13, b14, h⟩
      refine ⟨rfl, ?_⟩
      simp only [List.cons_append, List.nil_append]
      obtain ⟨mass, hm, em⟩ := pick_cell (zs := [1, 10, 100, 1000]) r0 r1
      have em : (D.l [[.i 1], [.i 10], [.i 100], [.i 1000]]).cell r 0 = .i mass := em
      have km := mod_rng n 9 (by decide)
      generalize hk : (n.tmod 9 + 9).tmod 9 - 4 = k
      have k0 : -4 ≤ k ∧ k ≤ 4 := by omega
      have t4 : -100 < m4.tmod 100 ∧ m4.tmod 100 < 100 := ⟨Int.lt_tmod_of_pos m4 (by decide), Int.tmod_lt_of_pos m4 (by decide)⟩
      have t5 : -100 < m5.tmod 100 ∧ m5.tmod 100 < 100 := ⟨Int.lt_tmod_of_pos m5 (by decide), Int.tmod_lt_of_pos m5 (by decide)⟩
      have fin : ∃ f0 f1 q0 q1 : Int, (T.need (.not (.eq (.at (.rows [[.N 1], [.N 10], [.N 100], [.N 1000]]) (.V 2) 0) (.N 0))) (T.ite (.lt (.N 30000) (.wr .i64 (.quo (.N 40000) (.at (.rows [[.N 1], [.N 10], [.N 100], [.N 1000]]) (.V 2) 0)))) (.ret [.rem (.sub (.rem (.add (.rem (.V 1) (.N 9)) (.N 9)) (.N 9)) (.N 4)) (.N 2), .N 1]) (.ret [.sub (.rem (.add (.rem (.V 1) (.N 9)) (.N 9)) (.N 9)) (.N 4), .sub (.N 3) (.sub (.rem (.add (.rem (.V 1) (.N 9)) (.N 9)) (.N 9)) (.N 4))])) : T (List X)).To lawM 0 [.l rows, .i n, .i r, .l (List.take (min (min (rows.length : Int) 9223372036854775807) 600).toNat rows), .i at1, .i m0, .i m1, .i m2, .i m3, .i m4, .i m5, .i m6, .l (List.take (min (min (rows.length : Int) 9223372036854775807) 600).toNat rows), .i at2] (fun xs ρ' => xs.length = 2 ∧ X.dens ρ' xs = [.i f0, .i f1]) ∧
          1 ≤ mass ∧ mass ≤ 1000 ∧ 10000 * f0 = mass * q0 ∧ 10000 * f1 = mass * q1 ∧ -100 ≤ f0 ∧ f0 ≤ 100 ∧ -100 ≤ f1 ∧ f1 ≤ 100 ∧ -10000 ≤ q0 ∧ q0 ≤ 10000 ∧ -10000 ≤ q1 ∧ q1 ≤ 10000 := by
        have k2 : -2 < k.tmod 2 ∧ k.tmod 2 < 2 := ⟨Int.lt_tmod_of_pos k (by decide), Int.tmod_lt_of_pos k (by decide)⟩
        simp only [List.mem_cons, List.not_mem_nil, or_false] at hm
        rcases hm with rfl | rfl | rfl | rfl
        · refine ⟨k.tmod 2, 1, 10000 * k.tmod 2, 10000, To.need (by simp only [X.den, X.dens, X.denss, D.int_i, D.boo_b, D.str_s, D.rows_l, List.getD_cons_zero, List.getD_cons_succ, List.cons_append, List.nil_append, List.append_nil, List.length_cons, List.length_nil, decide_eq_true_eq, decide_eq_false_iff_not, Bool.not_eq_true', Bool.not_eq_false', Bool.and_eq_true, Bool.and_eq_false_iff, Bool.true_eq_false, Bool.false_eq_true, Bool.not_true, Bool.not_false, eq_self, em]; decide) (To.yes (by simp only [X.den, X.dens, X.denss, D.int_i, D.boo_b, D.str_s, D.rows_l, List.getD_cons_zero, List.getD_cons_succ, List.cons_append, List.nil_append, List.append_nil, List.length_cons, List.length_nil, decide_eq_true_eq, decide_eq_false_iff_not, Bool.not_eq_true', Bool.not_eq_false', Bool.and_eq_true, Bool.and_eq_false_iff, Bool.true_eq_false, Bool.false_eq_true, Bool.not_true, Bool.not_false, eq_self, em]; decide) (To.ret ⟨rfl, by simp only [X.den, X.dens, X.denss, D.int_i, D.boo_b, D.str_s, D.rows_l, List.getD_cons_zero, List.getD_cons_succ, List.cons_append, List.nil_append, List.append_nil, List.length_cons, List.length_nil, hk]⟩)), by decide, by decide, by omega, by decide, by omega, by omega, by decide, by decide, by omega, by omega, by decide, by decide⟩
        · refine ⟨k, 3 - k, 1000 * k, 1000 * (3 - k), To.need (by simp only [X.den, X.dens, X.denss, D.int_i, D.boo_b, D.str_s, D.rows_l, List.getD_cons_zero, List.getD_cons_succ, List.cons_append, List.nil_append, List.append_nil, List.length_cons, List.length_nil, decide_eq_true_eq, decide_eq_false_iff_not, Bool.not_eq_true', Bool.not_eq_false', Bool.and_eq_true, Bool.and_eq_false_iff, Bool.true_eq_false, Bool.false_eq_true, Bool.not_true, Bool.not_false, eq_self, em]; decide) (To.no (by simp only [X.den, X.dens, X.denss, D.int_i, D.boo_b, D.str_s, D.rows_l, List.getD_cons_zero, List.getD_cons_succ, List.cons_append, List.nil_append, List.append_nil, List.length_cons, List.length_nil, decide_eq_true_eq, decide_eq_false_iff_not, Bool.not_eq_true', Bool.not_eq_false', Bool.and_eq_true, Bool.and_eq_false_iff, Bool.true_eq_false, Bool.false_eq_true, Bool.not_true, Bool.not_false, eq_self, em]; decide) (To.ret ⟨rfl, by simp only [X.den, X.dens, X.denss, D.int_i, D.boo_b, D.str_s, D.rows_l, List.getD_cons_zero, List.getD_cons_succ, List.cons_append, List.nil_append, List.append_nil, List.length_cons, List.length_nil, hk]⟩)), by decide, by decide, by omega, by omega, by omega, by omega, by omega, by omega, by omega, by omega, by omega, by omega⟩
        · refine ⟨k, 3 - k, 100 * k, 100 * (3 - k), To.need (by simp only [X.den, X.dens, X.denss, D.int_i, D.boo_b, D.str_s, D.rows_l, List.getD_cons_zero, List.getD_cons_succ, List.cons_append, List.nil_append, List.append_nil, List.length_cons, List.length_nil, decide_eq_true_eq, decide_eq_false_iff_not, Bool.not_eq_true', Bool.not_eq_false', Bool.and_eq_true, Bool.and_eq_false_iff, Bool.true_eq_false, Bool.false_eq_true, Bool.not_true, Bool.not_false, eq_self, em]; decide) (To.no (by simp only [X.den, X.dens, X.denss, D.int_i, D.boo_b, D.str_s, D.rows_l, List.getD_cons_zero, List.getD_cons_succ, List.cons_append, List.nil_append, List.append_nil, List.length_cons, List.length_nil, decide_eq_true_eq, decide_eq_false_iff_not, Bool.not_eq_true', Bool.not_eq_false', Bool.and_eq_true, Bool.and_eq_false_iff, Bool.true_eq_false, Bool.false_eq_true, Bool.not_true, Bool.not_false, eq_self, em]; decide) (To.ret ⟨rfl, by simp only [X.den, X.dens, X.denss, D.int_i, D.boo_b, D.str_s, D.rows_l, List.getD_cons_zero, List.getD_cons_succ, List.cons_append, List.nil_append, List.append_nil, List.length_cons, List.length_nil, hk]⟩)), by decide, by decide, by omega, by omega, by omega, by omega, by omega, by omega, by omega, by omega, by omega, by omega⟩
        · refine ⟨k, 3 - k, 10 * k, 10 * (3 - k), To.need (by simp only [X.den, X.dens, X.denss, D.int_i, D.boo_b, D.str_s, D.rows_l, List.getD_cons_zero, List.getD_cons_succ, List.cons_append, List.nil_append, List.append_nil, List.length_cons, List.length_nil, decide_eq_true_eq, decide_eq_false_iff_not, Bool.not_eq_true', Bool.not_eq_false', Bool.and_eq_true, Bool.and_eq_false_iff, Bool.true_eq_false, Bool.false_eq_true, Bool.not_true, Bool.not_false, eq_self, em]; decide) (To.no (by simp only [X.den, X.dens, X.denss, D.int_i, D.boo_b, D.str_s, D.rows_l, List.getD_cons_zero, List.getD_cons_succ, List.cons_append, List.nil_append, List.append_nil, List.length_cons, List.length_nil, decide_eq_true_eq, decide_eq_false_iff_not, Bool.not_eq_true', Bool.not_eq_false', Bool.and_eq_true, Bool.and_eq_false_iff, Bool.true_eq_false, Bool.false_eq_true, Bool.not_true, Bool.not_false, eq_self, em]; decide) (To.ret ⟨rfl, by simp only [X.den, X.dens, X.denss, D.int_i, D.boo_b, D.str_s, D.rows_l, List.getD_cons_zero, List.getD_cons_succ, List.cons_append, List.nil_append, List.append_nil, List.length_cons, List.length_nil, hk]⟩)), by decide, by decide, by omega, by omega, by omega, by omega, by omega, by omega, by omega, by omega, by omega, by omega⟩
      obtain ⟨f0, f1, q0, q1, hto, g1, g2, g3, g4, g5, g6, g7, g8, g9, g10, g11, g12⟩ := fin
      refine To.join (fun l => l = [.i f0, .i f1]) hto ?_
      rintro l rfl
      simp only [List.cons_append, List.nil_append]
      obtain ⟨x, y, cc, s1, x0, x1, y0, y1, c0, c1⟩ := plain_step (mass := mass) (m0 := m0) (m1 := m1) (m2 := m2) (m3 := m3) (m4 := m4.tmod 100) (m5 := m5.tmod 100) (m6 := m6) (f0 := f0) (f1 := f1) (q0 := q0) (q1 := q1) g1 g2 (by omega) (by omega) (by omega) (by omega) (by omega) (by omega) (by omega) (by omega) (by omega) (by omega) (by omega) (by omega) (by omega) (by omega) g3 g4 g5 g6 g7 g8 (by omega) (by omega) (by omega) (by omega)
      obtain ⟨x', y', cc', s2, _⟩ := plain_step (mass := mass) (m0 := m0 + 1) (m1 := x) (m2 := y) (m3 := cc) (m4 := m4.tmod 100 + q0) (m5 := m5.tmod 100 + q1) (m6 := m6) (f0 := -f0) (f1 := -f1) (q0 := -q0) (q1 := -q1) g1 g2 (by omega) (by omega) (by omega) (by omega) (by omega) (by omega) (by omega) (by omega) (by omega) (by omega) (by omega) (by omega) (by omega) (by omega) (by rw [Int.mul_neg, Int.mul_neg, g3]) (by rw [Int.mul_neg, Int.mul_neg, g4]) (by omega) (by omega) (by omega) (by omega) (by omega) (by omega) (by omega) (by omega)
      refine To.call (l := [.i (m0 + 1), .i x, .i y, .i cc, .i (m4.tmod 100 + q0), .i (m5.tmod 100 + q1), .i m6, .i 0]) ?_ rfl ?_
      · simp only [X.den, X.dens, X.denss, D.int_i, D.boo_b, D.str_s, D.rows_l, List.getD_cons_zero, List.getD_cons_succ, List.cons_append, List.nil_append, List.append_nil, List.length_cons, List.length_nil, em]
        exact s1
      simp only [List.cons_append, List.nil_append]
      refine To.call (l := [.i (m0 + 1 + 1), .i x', .i y', .i cc', .i (m4.tmod 100 + q0 + -q0), .i (m5.tmod 100 + q1 + -q1), .i m6, .i 0]) ?_ rfl ?_
      · simp only [X.den, X.dens, X.denss, D.int_i, D.boo_b, D.str_s, D.rows_l, List.getD_cons_zero, List.getD_cons_succ, List.cons_append, List.nil_append, List.append_nil, List.length_cons, List.length_nil, em, Int.zero_sub]
        exact s2
      simp only [List.cons_append, List.nil_append]
      refine To.sub (To.yes rfl (To.yes rfl (To.yes ?_ (To.yes ?_ (To.yes ?_ (To.call (l := [.b true]) rfl rfl (To.ret ⟨rfl, To.ret (by simp only [X.den, X.dens, X.denss, D.int_i, D.boo_b, D.str_s, D.rows_l, List.getD_cons_zero, List.getD_cons_succ, List.cons_append, List.nil_append, List.append_nil, List.length_cons, List.length_nil])⟩)))))))
      · simp only [X.den, X.dens, X.denss, D.int_i, D.boo_b, D.str_s, D.rows_l, List.getD_cons_zero, List.getD_cons_succ, List.cons_append, List.nil_append, List.append_nil, List.length_cons, List.length_nil, decide_eq_true_eq, decide_eq_false_iff_not, Bool.not_eq_true', Bool.not_eq_false', Bool.and_eq_true, Bool.and_eq_false_iff, Bool.true_eq_false, Bool.false_eq_true, Bool.not_true, Bool.not_false, eq_self]; omega
      · simp only [X.den, X.dens, X.denss, D.int_i, D.boo_b, D.str_s, D.rows_l, List.getD_cons_zero, List.getD_cons_succ, List.cons_append, List.nil_append, List.append_nil, List.length_cons, List.length_nil, decide_eq_true_eq, decide_eq_false_iff_not, Bool.not_eq_true', Bool.not_eq_false', Bool.and_eq_true, Bool.and_eq_false_iff, Bool.true_eq_false, Bool.false_eq_true, Bool.not_true, Bool.not_false, eq_self]; omega
      · simp only [X.den, X.dens, X.denss, D.int_i, D.boo_b, D.str_s, D.rows_l, List.getD_cons_zero, List.getD_cons_succ, List.cons_append, List.nil_append, List.append_nil, List.length_cons, List.length_nil, decide_eq_true_eq, decide_eq_false_iff_not, Bool.not_eq_true', Bool.not_eq_false', Bool.and_eq_true, Bool.and_eq_false_iff, Bool.true_eq_false, Bool.false_eq_true, Bool.not_true, Bool.not_false, eq_self]
    · cases h
theorem VesselReturns_walk {w : World} (v : Value) (zs : List Int) (h : IntsIn w w.heap.size v .i64 zs) (hz : ∀ z ∈ zs, (Lit.int .i64 z).wf = true) (a : Int) (ha : (Lit.int .i64 a).wf = true) : Calls Try.prog 12 #[v, .int .i64 a] w fun e w' => e = .returned (.bool true) ∧ Below w.heap.size w w' :=
  con_law VesselReturns_ok rfl (fun G hG => args_ints h hG (args_int (by trivial))) (by simp [returns_K]) (ds := [numD zs, .i a]) rfl
end Go.Proofs.Ytcogndnencabhaa
