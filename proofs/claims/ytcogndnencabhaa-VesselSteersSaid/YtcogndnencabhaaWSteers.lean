/- VesselSteers: a ship that points to the north moves by its speeds, one that points to the east by them turned. -/
import Derived.Test.YtcogndnencabhaaVesL
set_option linter.unusedVariables false
set_option linter.unusedSimpArgs false
namespace Go.Proofs.Ytcogndnencabhaa
open Go.RowKit Fx
theorem VesselSteers_ok : ConOk Try.prog steers_K fun ds => match ds with | [.l _] => some [.b true] | _ => none :=
  con_of follows (M := lawM) (one_con (srcHull_ok.to _) (one_con (srcMotion_ok.to _) (one_con (vStep_ok.to _) (one_con (sane23_ok.to _) no_cons)))) steers_t fun ds outs hl h => by
    split at h
    · rename_i rows
      injection h with h
      subst h
      refine ⟨fun i l h k => by simp [steers_K] at k, 0, ?_⟩
      unfold steers_T
      refine To.ite (fun c => ?_) (fun c => ?_) <;> simp only [X.den, X.dens, X.denss, D.int_i, D.boo_b, D.str_s, D.rows_l, List.getD_cons_zero, List.getD_cons_succ, List.cons_append, List.nil_append, List.append_nil, List.length_cons, List.length_nil, decide_eq_true_eq, decide_eq_false_iff_not, Bool.not_eq_true', Bool.not_eq_false', Bool.and_eq_true, Bool.and_eq_false_iff, Bool.true_eq_false, Bool.false_eq_true, Bool.not_true, Bool.not_false, eq_self, D.len_l] at c
      · exact To.call (l := [.b true]) rfl rfl (To.ret (by simp only [X.den, X.dens, X.denss, D.int_i, D.boo_b, D.str_s, D.rows_l, List.getD_cons_zero, List.getD_cons_succ, List.cons_append, List.nil_append, List.append_nil, List.length_cons, List.length_nil]))
      refine To.need (by simp only [X.den, X.dens, X.denss, D.int_i, D.boo_b, D.str_s, D.rows_l, List.getD_cons_zero, List.getD_cons_succ, List.cons_append, List.nil_append, List.append_nil, List.length_cons, List.length_nil, decide_eq_true_eq, decide_eq_false_iff_not, Bool.not_eq_true', Bool.not_eq_false', Bool.and_eq_true, Bool.and_eq_false_iff, Bool.true_eq_false, Bool.false_eq_true, Bool.not_true, Bool.not_false, eq_self, D.len_l]; omega) ?_
      refine To.via (srcHull_to (src0 c)) ?_
      rintro l ⟨h0, h1, h2, h3, h4, h5, h6, h7, h8, mass, inertia, drag, spin, at1, rfl, hu, h⟩
      refine ⟨rfl, ?_⟩
      simp only [List.cons_append, List.nil_append]
      refine To.via (srcMotion_to h) ?_
      rintro l ⟨m0, m1, m2, m3, m4, m5, m6, at2, rfl, b1, b2, b3, b4, b5, b6, b7, b8, b9, b10, b11, b12, b13, b14, h⟩
      refine ⟨rfl, ?_⟩
      simp only [List.cons_append, List.nil_append]
      obtain ⟨u1, u2, u3, u4, u5, u6, u7, u8⟩ := hull_ints hu
      simp only [D.int_i] at u1 u2 u3 u4 u5 u6 u7 u8
      have hu0 : HullOk h0 h1 h2 h3 h4 h5 h6 h7 h8 (.i mass) (.i inertia) (.i drag) (.i 0) := by
        unfold HullOk at hu ⊢
        obtain ⟨a0, a1, a2, a3, a4, a5, a6, a7, a8, _⟩ := hu
        exact ⟨a0, a1, a2, a3, a4, a5, a6, a7, a8, u1, u2, u3, u4, u5, u6, by simp only [D.int_i]; omega, by simp only [D.int_i]; omega⟩
      have fr : FrcOk (.i 0) (.i 0) (.i 0) := by simp only [FrcOk, D.int_i]; omega
      have et : spd 0 0 0 inertia = 0 := by rw [spd_none (q := 0) u3 (by rw [Int.mul_zero, Int.mul_zero])]; rfl
      obtain ⟨d1, d2⟩ := spd_drag (s := m4) u5 u6 u1
      obtain ⟨d3, d4⟩ := spd_drag (s := m5) u5 u6 u1
      have b4' : -3000 ≤ spd 0 m4 drag mass ∧ spd 0 m4 drag mass ≤ 3000 := by rcases Int.le_total 0 m4 with q | q <;> omega
      have b5' : -900 ≤ spd 0 m5 drag mass ∧ spd 0 m5 drag mass ≤ 900 := by rcases Int.le_total 0 m5 with q | q <;> omega
      have a1 := vStep_eq (m0 := m0) (m1 := m1) (m2 := m2) (m3 := 0) (m4 := m4) (m5 := m5) (m6 := 0) (f0 := 0) (f1 := 0) (f2 := 0) (sn := 0) (cn := 10000) hu0 (by simp only [MotOk, D.int_i]; omega) fr (by rw [et]; exact sin_at0) (by rw [et]; exact cos_at0) (by omega) (by omega) (by omega) (by omega)
      have a2 := vStep_eq (m0 := m0) (m1 := m1) (m2 := m2) (m3 := 90000) (m4 := m4) (m5 := m5) (m6 := 0) (f0 := 0) (f1 := 0) (f2 := 0) (sn := 10000) (cn := 0) hu0 (by simp only [MotOk, D.int_i]; omega) fr (by rw [et]; exact sin_at900) (by rw [et]; exact cos_at900) (by omega) (by omega) (by omega) (by omega)
      simp only [et, Int.mul_zero, Int.sub_zero, Int.zero_add, Int.add_zero, Int.zero_sub] at a1 a2
      generalize spd 0 m4 drag mass = s at *
      generalize spd 0 m5 drag mass = v at *
      have x1 : hdv (s * 10000) 10000 = s := by rw [Int.mul_comm]; exact hdv_mul (by decide)
      have x2 : hdv (v * 10000) 10000 = v := by rw [Int.mul_comm]; exact hdv_mul (by decide)
      have x3 : hdv (-(v * 10000)) 10000 = -v := by rw [show -(v * 10000) = 10000 * -v by omega]; exact hdv_mul (by decide)
      rw [x1, x2] at a1
      rw [x1, x3] at a2
      obtain ⟨l1, r1, k1, _⟩ := a1
      obtain ⟨l2, r2, k2, _⟩ := a2
      obtain rfl := k1 (by omega)
      obtain rfl := k2 (by omega)
      refine To.call (l := _) r1 rfl ?_
      simp only [List.cons_append, List.nil_append]
      refine To.call (l := _) r2 rfl ?_
      simp only [List.cons_append, List.nil_append]
      refine To.sub ?_
      refine To.yes rfl (To.yes rfl ?_)
      refine To.yes (by simp only [X.den, X.dens, X.denss, D.int_i, D.boo_b, D.str_s, D.rows_l, List.getD_cons_zero, List.getD_cons_succ, List.cons_append, List.nil_append, List.append_nil, List.length_cons, List.length_nil, decide_eq_true_eq, decide_eq_false_iff_not, Bool.not_eq_true', Bool.not_eq_false', Bool.and_eq_true, Bool.and_eq_false_iff, Bool.true_eq_false, Bool.false_eq_true, Bool.not_true, Bool.not_false, eq_self]; rw [wr64 (by omega) (by omega)]) ?_
      refine To.yes (by simp only [X.den, X.dens, X.denss, D.int_i, D.boo_b, D.str_s, D.rows_l, List.getD_cons_zero, List.getD_cons_succ, List.cons_append, List.nil_append, List.append_nil, List.length_cons, List.length_nil, decide_eq_true_eq, decide_eq_false_iff_not, Bool.not_eq_true', Bool.not_eq_false', Bool.and_eq_true, Bool.and_eq_false_iff, Bool.true_eq_false, Bool.false_eq_true, Bool.not_true, Bool.not_false, eq_self]; rw [wr64 (by omega) (by omega)]) ?_
      refine To.yes (by simp only [X.den, X.dens, X.denss, D.int_i, D.boo_b, D.str_s, D.rows_l, List.getD_cons_zero, List.getD_cons_succ, List.cons_append, List.nil_append, List.append_nil, List.length_cons, List.length_nil, decide_eq_true_eq, decide_eq_false_iff_not, Bool.not_eq_true', Bool.not_eq_false', Bool.and_eq_true, Bool.and_eq_false_iff, Bool.true_eq_false, Bool.false_eq_true, Bool.not_true, Bool.not_false, eq_self]; rw [wr64 (by omega) (by omega)]; omega) ?_
      refine To.yes (by simp only [X.den, X.dens, X.denss, D.int_i, D.boo_b, D.str_s, D.rows_l, List.getD_cons_zero, List.getD_cons_succ, List.cons_append, List.nil_append, List.append_nil, List.length_cons, List.length_nil, decide_eq_true_eq, decide_eq_false_iff_not, Bool.not_eq_true', Bool.not_eq_false', Bool.and_eq_true, Bool.and_eq_false_iff, Bool.true_eq_false, Bool.false_eq_true, Bool.not_true, Bool.not_false, eq_self]; rw [wr64 (by omega) (by omega)]) ?_
      exact To.call (l := [.b true]) rfl rfl (To.ret ⟨rfl, To.ret (by simp only [X.den, X.dens, X.denss, D.int_i, D.boo_b, D.str_s, D.rows_l, List.getD_cons_zero, List.getD_cons_succ, List.cons_append, List.nil_append, List.append_nil, List.length_cons, List.length_nil])⟩)
    · cases h
theorem VesselSteers_walk {w : World} (v : Value) (zs : List Int) (h : IntsIn w w.heap.size v .i64 zs) (hz : ∀ z ∈ zs, (Lit.int .i64 z).wf = true) : Calls Try.prog 14 #[v] w fun e w' => e = .returned (.bool true) ∧ Below w.heap.size w w' :=
  con_law VesselSteers_ok rfl (fun G hG => args_ints h hG (by trivial)) (by simp [steers_K]) (ds := [numD zs]) rfl
end Go.Proofs.Ytcogndnencabhaa
