/- VesselRests: a ship that is still stays where it is if nothing acts on it. -/
import Derived.Test.YtcogndnencabhaaVesL
set_option linter.unusedVariables false
set_option linter.unusedSimpArgs false
namespace Go.Proofs.Ytcogndnencabhaa
open Go.RowKit Fx
theorem step_rest {h0 h1 h2 h3 h4 h5 h6 h7 h8 : D} {mass inertia drag spin m0 m1 m2 m3 : Int} (hu : HullOk h0 h1 h2 h3 h4 h5 h6 h7 h8 (.i mass) (.i inertia) (.i drag) (.i spin)) (b0 : 0 ≤ m0) (b1 : m0 < 100000) (b2 : -99999 ≤ m1) (b3 : m1 ≤ 12345) (b4 : -149 ≤ m2) (b5 : m2 ≤ 700) (b6 : 0 ≤ m3) (b7 : m3 < 360000) :
    stepM h0 h1 h2 h3 h4 h5 h6 h7 h8 (.i mass) (.i inertia) (.i drag) (.i spin) (.i 0) (.i 0) (.i 0) [.i m0, .i m1, .i m2, .i m3, .i 0, .i 0, .i 0] = ([.i (m0 + 1), .i m1, .i m2, .i m3, .i 0, .i 0, .i 0], 0) := by
  obtain ⟨u1, u2, u3, u4, u5, u6, u7, u8⟩ := hull_ints hu
  simp only [D.int_i] at u1 u2 u3 u4 u5 u6 u7 u8
  have z : ∀ d m : Int, 1 ≤ m → spd 0 0 d m = 0 := fun d m hm => by
    unfold spd
    rw [Int.mul_zero, Int.mul_zero, Int.sub_zero, hdv_zero hm]
    rfl
  obtain ⟨sn, cn, e1, e2, k1, k2, k3, k4⟩ := sincos m3 b6 b7
  have a1 := vStep_eq (m0 := m0) (m1 := m1) (m2 := m2) (m3 := m3) (m4 := 0) (m5 := 0) (m6 := 0) (f0 := 0) (f1 := 0) (f2 := 0) (sn := sn) (cn := cn) hu (by simp only [MotOk, D.int_i]; omega) (by simp only [FrcOk, D.int_i]; omega) (by rw [z _ _ u3, Int.add_zero, Int.emod_eq_of_lt b6 b7]; exact e1) (by rw [z _ _ u3, Int.add_zero, Int.emod_eq_of_lt b6 b7]; exact e2) k1 k2 k3 k4
  simp only [z _ _ u1, z _ _ u3, Int.zero_mul, Int.sub_zero, Int.add_zero, hdv_zero (d := 10000) (by decide), Int.emod_eq_of_lt b6 b7] at a1
  obtain ⟨l1, r1, q1, _⟩ := a1
  obtain rfl := q1 (by omega)
  have es : stepO h0 h1 h2 h3 h4 h5 h6 h7 h8 (.i mass) (.i inertia) (.i drag) (.i spin) (.i 0) (.i 0) (.i 0) [.i m0, .i m1, .i m2, .i m3, .i 0, .i 0, .i 0] = [.i (m0 + 1), .i m1, .i m2, .i m3, .i 0, .i 0, .i 0, .i 0] := by
    unfold stepO
    simp only [List.cons_append, List.nil_append]
    rw [r1, Option.getD_some]
  simp only [stepM, es]
  rfl
theorem iter_rest {h0 h1 h2 h3 h4 h5 h6 h7 h8 : D} {mass inertia drag spin m1 m2 m3 : Int} (hu : HullOk h0 h1 h2 h3 h4 h5 h6 h7 h8 (.i mass) (.i inertia) (.i drag) (.i spin)) (b2 : -99999 ≤ m1) (b3 : m1 ≤ 12345) (b4 : -149 ≤ m2) (b5 : m2 ≤ 700) (b6 : 0 ≤ m3) (b7 : m3 < 360000) : ∀ (n : Nat) (m0 : Int), 0 ≤ m0 → m0 + n < 100000 →
    iterM h0 h1 h2 h3 h4 h5 h6 h7 h8 (.i mass) (.i inertia) (.i drag) (.i spin) (.i 0) (.i 0) (.i 0) n ([.i m0, .i m1, .i m2, .i m3, .i 0, .i 0, .i 0], 0) = ([.i (m0 + n), .i m1, .i m2, .i m3, .i 0, .i 0, .i 0], 0)
  | 0, m0, _, _ => by simp [iterM]
  | n + 1, m0, h, k => by
    simp only [iterM, if_true]
    rw [step_rest hu h (by omega) b2 b3 b4 b5 b6 b7, iter_rest hu b2 b3 b4 b5 b6 b7 n (m0 + 1) (by omega) (by omega), show m0 + 1 + (n : Int) = m0 + ((n + 1 : Nat) : Int) by omega]
theorem VesselRests_ok : ConOk Try.prog rests_K fun ds => match ds with | [.l _, .i a] => if 0 ≤ a ∧ a ≤ 255 then some [.b true] else none | _ => none :=
  con_of follows (M := lawM) (one_con (srcHull_ok.to _) (one_con (srcMotion_ok.to _) (one_con (vRun_ok.to _) (one_con (sane23_ok.to _) no_cons)))) rests_t fun ds outs hl h => by
    split at h
    · rename_i rows a
      split at h
      · rename_i hab
        injection h with h
        subst h
        refine ⟨fun i l h k => by simp [rests_K] at k, 0, ?_⟩
        unfold rests_T
        refine To.ite (fun c => ?_) (fun c => ?_) <;> simp only [X.den, X.dens, X.denss, D.int_i, D.boo_b, D.str_s, D.rows_l, List.getD_cons_zero, List.getD_cons_succ, List.cons_append, List.nil_append, List.append_nil, List.length_cons, List.length_nil, decide_eq_true_eq, decide_eq_false_iff_not, Bool.not_eq_true', Bool.not_eq_false', Bool.and_eq_true, Bool.and_eq_false_iff, Bool.true_eq_false, Bool.false_eq_true, Bool.not_true, Bool.not_false, eq_self, D.len_l] at c
        · exact To.call (l := [.b true]) rfl rfl (To.ret (by simp only [X.den, X.dens, X.denss, D.int_i, D.boo_b, D.str_s, D.rows_l, List.getD_cons_zero, List.getD_cons_succ, List.cons_append, List.nil_append, List.append_nil, List.length_cons, List.length_nil]))
        refine To.need (by simp only [X.den, X.dens, X.denss, D.int_i, D.boo_b, D.str_s, D.rows_l, List.getD_cons_zero, List.getD_cons_succ, List.cons_append, List.nil_append, List.append_nil, List.length_cons, List.length_nil, decide_eq_true_eq, decide_eq_false_iff_not, Bool.not_eq_true', Bool.not_eq_false', Bool.and_eq_true, Bool.and_eq_false_iff, Bool.true_eq_false, Bool.false_eq_true, Bool.not_true, Bool.not_false, eq_self, D.len_l]; omega) ?_
        refine To.via (srcHull_to (src0 c)) ?_
        rintro l ⟨h0, h1, h2, h3, h4, h5, h6, h7, h8, mass, inertia, drag, spin, at1, rfl, hu, h⟩
        refine ⟨rfl, ?_⟩
        simp only [List.cons_append, List.nil_append]
        refine To.via (srcMotion_to h) ?_
        rintro l ⟨m0, m1, m2, m3, m4, m5, m6, at2, rfl, b1, b2, b3, b4, b5, b6, b7, b8, b9, b10, b11, b12, b13, b14, h⟩
        refine ⟨rfl, ?_⟩
        simp only [List.cons_append, List.nil_append]
        have wa : IntKind.i64.wrap a = a := wr64 (by omega) (by omega)
        obtain ⟨e0, k1, r1⟩ := vRun_to h0 h1 h2 h3 h4 h5 h6 h7 h8 (.i mass) (.i inertia) (.i drag) (.i spin) (.i 0) (.i 0) (.i 0) (m := [.i m0, .i m1, .i m2, .i m3, .i 0, .i 0, .i 0]) rfl (t := .i a) (by simp only [D.int_i]; omega) (by simp only [D.int_i]; omega)
        have mo : MotOkL [.i m0, .i m1, .i m2, .i m3, .i 0, .i 0, .i 0] := by simp only [MotOkL, MotOk, D.int_i]; omega
        have fr : FrcOk (.i 0) (.i 0) (.i 0) := by simp only [FrcOk, D.int_i]; omega
        obtain rfl : e0 = 0 := k1.2 ⟨hu, mo, fr⟩
        simp only [D.int_i] at r1
        rw [iter_rest hu b3 b4 b5 b6 b7 b8 a.toNat m0 b1 (by omega), show m0 + (a.toNat : Int) = m0 + a by omega] at r1
        refine To.call (l := outM ([.i (m0 + a), .i m1, .i m2, .i m3, .i 0, .i 0, .i 0], 0)) ?_ rfl ?_
        · simp only [X.den, X.dens, X.denss, D.int_i, D.boo_b, D.str_s, D.rows_l, List.getD_cons_zero, List.getD_cons_succ, List.cons_append, List.nil_append, List.append_nil, List.length_cons, List.length_nil, wa]
          exact r1
        have eo : outM ([.i (m0 + a), .i m1, .i m2, .i m3, .i 0, .i 0, .i 0], 0) = [.i (m0 + a), .i m1, .i m2, .i m3, .i 0, .i 0, .i 0, .i 0] := by simp [outM]
        rw [eo]
        simp only [List.cons_append, List.nil_append]
        have w0 : IntKind.i64.wrap (m0 + a) = m0 + a := wr64 (by omega) (by omega)
        refine To.sub (To.yes rfl (To.yes (by simp only [X.den, X.dens, X.denss, D.int_i, D.boo_b, D.str_s, D.rows_l, List.getD_cons_zero, List.getD_cons_succ, List.cons_append, List.nil_append, List.append_nil, List.length_cons, List.length_nil, decide_eq_true_eq, decide_eq_false_iff_not, Bool.not_eq_true', Bool.not_eq_false', Bool.and_eq_true, Bool.and_eq_false_iff, Bool.true_eq_false, Bool.false_eq_true, Bool.not_true, Bool.not_false, eq_self, wa, w0]; simp) ?_))
        refine To.sub (To.yes rfl (To.yes rfl (To.ret ⟨rfl, ?_⟩)))
        simp only [X.den, X.dens, X.denss, D.int_i, D.boo_b, D.str_s, D.rows_l, List.getD_cons_zero, List.getD_cons_succ, List.cons_append, List.nil_append, List.append_nil, List.length_cons, List.length_nil]
        exact To.yes rfl (To.call (l := [.b true]) rfl rfl (To.ret ⟨rfl, To.ret (by simp only [X.den, X.dens, X.denss, D.int_i, D.boo_b, D.str_s, D.rows_l, List.getD_cons_zero, List.getD_cons_succ, List.cons_append, List.nil_append, List.append_nil, List.length_cons, List.length_nil])⟩))
      · cases h
    · cases h
theorem VesselRests_walk {w : World} (v : Value) (zs : List Int) (h : IntsIn w w.heap.size v .i64 zs) (hz : ∀ z ∈ zs, (Lit.int .i64 z).wf = true) (a : Int) (ha : (Lit.int .u8 a).wf = true) : Calls Try.prog 11 #[v, .int .u8 a] w fun e w' => e = .returned (.bool true) ∧ Below w.heap.size w w' :=
  con_law VesselRests_ok rfl (fun G hG => args_ints h hG (args_int (by trivial))) (by simp [rests_K]) (ds := [numD zs, .i a]) (by
    have := bounds_u8 ha
    exact if_pos (by omega))
end Go.Proofs.Ytcogndnencabhaa
