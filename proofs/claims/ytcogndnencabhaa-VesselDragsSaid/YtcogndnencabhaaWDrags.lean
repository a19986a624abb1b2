/- VesselDrags: drag never makes a ship faster, and full drag stops it at once. -/
import Derived.Test.YtcogndnencabhaaDragT
set_option linter.unusedVariables false
set_option linter.unusedSimpArgs false
namespace Go.Proofs.Ytcogndnencabhaa
open Go.RowKit Fx
/-- a place: what is left of a hundredth, rounded -/
theorem To.place {M : Models} {N : Nat} {α : Type} {ρ : List D} {Q : α → List D → Prop} {e : X} {v : Nat} {n : Int} {k : T α} (hn : (e.den ρ).int = n) (hl : ρ.length = v) (n1 : -2305843009213693952 ≤ n) (n2 : n ≤ 2305843009213693952) (h : k.To M N (ρ ++ [.i (hdv n 100)]) Q) :
    (T.sub (T.sub (T.ite (.lt (.rem e (.N 100)) (.N 0)) (.ret [.wr .i64 (.sub (.wr .i64 (.quo e (.N 100))) (.N 1)), .add (.rem e (.N 100)) (.N 100)]) (.ret [.wr .i64 (.quo e (.N 100)), .rem e (.N 100)])) 2
      (T.ite (.lt (.mul (.N 2) (.V (v + 1))) (.N 100)) (.ret [.V v]) (.ret [.wr .i64 (.add (.V v) (.N 1))]))) 1 k).To M N ρ Q := by
  obtain ⟨a1, a2⟩ := tdiv_abs (n := n) (d := 100) (a := 2305843009213693952) (by decide) (by omega) n2
  obtain ⟨q1, q2⟩ := tdiv_down (n := n) (d := 100) (by decide)
  have e2 := Int.mul_ediv_add_emod n 100
  have r0 := Int.emod_nonneg n (show (100 : Int) ≠ 0 by decide)
  have r1 := Int.emod_lt_of_pos n (show (0 : Int) < 100 by decide)
  have key : (T.ite (.lt (.mul (.N 2) (.V (v + 1))) (.N 100)) (.ret [.V v]) (.ret [.wr .i64 (.add (.V v) (.N 1))]) : T (List X)).To M N (ρ ++ [.i (n / 100), .i (n % 100)]) (fun xs ρ' => xs.length = 1 ∧ k.To M N (ρ ++ X.dens ρ' xs) Q) := by
    have v1 : (X.den (ρ ++ [.i (n / 100), .i (n % 100)]) (.V (v + 1))) = .i (n % 100) := getD_end1 hl []
    have v0 : (X.den (ρ ++ [.i (n / 100), .i (n % 100)]) (.V v)) = .i (n / 100) := getD_end hl _
    have ht := hdv_of e2.symm r0 r1
    refine To.ite (fun cc => To.ret ⟨rfl, ?_⟩) (fun cc => To.ret ⟨rfl, ?_⟩)
    · have cc : 2 * (X.den (ρ ++ [.i (n / 100), .i (n % 100)]) (.V (v + 1))).int < 100 := of_decide_eq_true cc
      rw [v1] at cc
      simp only [D.int_i] at cc
      rw [if_pos cc] at ht
      simp only [X.dens, v0]
      rw [← ht]
      exact h
    · have cc : ¬ 2 * (X.den (ρ ++ [.i (n / 100), .i (n % 100)]) (.V (v + 1))).int < 100 := of_decide_eq_false cc
      rw [v1] at cc
      simp only [D.int_i] at cc
      rw [if_neg cc] at ht
      have : X.den (ρ ++ [.i (n / 100), .i (n % 100)]) (.wr .i64 (.add (.V v) (.N 1))) = .i (n / 100 + 1) := by
        simp only [X.den]
        rw [getD_end hl]
        simp only [D.int_i]
        rw [wr64 (by omega) (by omega)]
      simp only [X.dens, this]
      rw [← ht]
      exact h
  refine To.sub (To.sub (To.ite (fun cc => To.ret ⟨rfl, ?_⟩) (fun cc => To.ret ⟨rfl, ?_⟩)))
  · simp only [X.den, D.int_i, D.boo_b, decide_eq_true_eq, hn] at cc
    rw [if_pos cc] at q1 q2
    simp only [X.dens, X.den, D.int_i, hn]
    rw [wr64 (z := n.tdiv 100) (by omega) (by omega), wr64 (z := n.tdiv 100 - 1) (by omega) (by omega), q1, q2]
    exact key
  · simp only [X.den, D.int_i, D.boo_b, decide_eq_false_iff_not, hn] at cc
    rw [if_neg cc] at q1 q2
    simp only [X.dens, X.den, D.int_i, hn]
    rw [wr64 (z := n.tdiv 100) (by omega) (by omega), q1, q2]
    exact key
theorem VesselDrags_ok : ConOk Try.prog drags_K fun ds => match ds with | [.l _] => some [.b true] | _ => none :=
  con_of follows (M := lawM) (one_con (srcHull_ok.to _) (one_con (srcMotion_ok.to _) (one_con (vStep_ok.to _) (one_con (sane23_ok.to _) no_cons)))) drags_t fun ds outs hl h => by
    split at h
    · rename_i rows
      injection h with h
      subst h
      refine ⟨fun i l h k => by simp [drags_K] at k, 0, ?_⟩
      unfold drags_T
      refine To.ite (fun c => ?_) (fun c => ?_) <;> simp only [X.den, X.dens, X.denss, D.int_i, D.boo_b, D.str_s, D.rows_l, List.getD_cons_zero, List.getD_cons_succ, List.cons_append, List.nil_append, List.append_nil, List.length_cons, List.length_nil, decide_eq_true_eq, decide_eq_false_iff_not, Bool.not_eq_true', Bool.not_eq_false', Bool.and_eq_true, Bool.and_eq_false_iff, Bool.true_eq_false, Bool.false_eq_true, Bool.not_true, Bool.not_false, eq_self, D.len_l] at c
      · exact To.call (l := [.b true]) rfl rfl (To.ret (by simp only [X.den, X.dens, X.denss, D.int_i, D.boo_b, D.str_s, D.rows_l, List.getD_cons_zero, List.getD_cons_succ, List.cons_append, List.nil_append, List.append_nil, List.length_cons, List.length_nil]))
      refine To.need (by simp only [X.den, X.dens, X.denss, D.int_i, D.boo_b, D.str_s, D.rows_l, List.getD_cons_zero, List.getD_cons_succ, List.cons_append, List.nil_append, List.append_nil, List.length_cons, List.length_nil, decide_eq_true_eq, decide_eq_false_iff_not, Bool.not_eq_true', Bool.not_eq_false', Bool.and_eq_true, Bool.and_eq_false_iff, Bool.true_eq_false, Bool.false_eq_true, Bool.not_true, Bool.not_false, eq_self, D.len_l]; omega) ?_
      refine To.via (srcHull_to (src0 c)) ?_
      rintro l ⟨h0, h1, h2, h3, h4, h5, h6, h7, h8, mass, inertia, drag, spin, at1, rfl, hu, h⟩
      refine ⟨rfl, ?_⟩
      simp only [List.cons_append, List.nil_append]
      refine To.via (srcMotion_to h) ?_
      rintro l ⟨m0, m1, m2, m3, m4, m5, m6, at2, rfl, b1, b2, b3, b4, b5, b6, b7, b8, b9, b10, b11, b12, b13, b14, h⟩
      refine ⟨rfl, ?_⟩
      simp only [List.cons_append, List.nil_append]
      obtain ⟨u1, u2, u3, u4, u5, u6, u7, u8⟩ := hull_ints hu
      simp only [D.int_i] at u1 u2 u3 u4 u5 u6 u7 u8
      have hu1 : HullOk h0 h1 h2 h3 h4 h5 h6 h7 h8 (.i mass) (.i inertia) (.i mass) (.i inertia) := by
        unfold HullOk at hu ⊢
        obtain ⟨a0, a1, a2, a3, a4, a5, a6, a7, a8, _⟩ := hu
        refine ⟨a0, a1, a2, a3, a4, a5, a6, a7, a8, ?_⟩
        simp only [D.int_i]
        omega
      have fr : FrcOk (.i 0) (.i 0) (.i 0) := by simp only [FrcOk, D.int_i]; omega
      have mo : MotOk (.i m0) (.i m1) (.i m2) (.i m3) (.i m4) (.i m5) (.i m6) := by simp only [MotOk, D.int_i]; omega
      obtain ⟨d1, d2⟩ := spd_drag (s := m4) u5 u6 u1
      obtain ⟨d3, d4⟩ := spd_drag (s := m5) u5 u6 u1
      obtain ⟨d5, d6⟩ := spd_drag (s := m6) u7 u8 u3
      have k4 : -3000 ≤ spd 0 m4 drag mass ∧ spd 0 m4 drag mass ≤ 3000 := by rcases Int.le_total 0 m4 with q | q <;> omega
      have k5 : -900 ≤ spd 0 m5 drag mass ∧ spd 0 m5 drag mass ≤ 900 := by rcases Int.le_total 0 m5 with q | q <;> omega
      have k6 : -500 ≤ spd 0 m6 spin inertia ∧ spd 0 m6 spin inertia ≤ 500 := by rcases Int.le_total 0 m6 with q | q <;> omega
      obtain ⟨sn, cn, g1, g2, g3, g4, g5, g6⟩ := sincos ((m3 + spd 0 m6 spin inertia) % 360000) (Int.emod_nonneg _ (by decide)) (Int.emod_lt_of_pos _ (by decide))
      have a1 := vStep_eq (f0 := 0) (f1 := 0) (f2 := 0) hu mo fr g1 g2 g3 g4 g5 g6
      simp only at a1
      generalize spd 0 m4 drag mass = s at *
      generalize spd 0 m5 drag mass = v at *
      generalize spd 0 m6 spin inertia = t at *
      have p1 := mul_abs (x := s) (y := cn) (a := 3000) (b := 10000) (by omega) (by omega) g5 g6
      have p2 := mul_abs (x := v) (y := sn) (a := 900) (b := 10000) (by omega) (by omega) g3 g4
      have p3 := mul_abs (x := s) (y := sn) (a := 3000) (b := 10000) (by omega) (by omega) g3 g4
      have p4 := mul_abs (x := v) (y := cn) (a := 900) (b := 10000) (by omega) (by omega) g5 g6
      have z1 := hdv_rng (n := s * cn - v * sn) (d := 10000) (a := 39000000) (by decide) (by omega) (by omega)
      have z2 := hdv_rng (n := s * sn + v * cn) (d := 10000) (a := 39000000) (by decide) (by omega) (by omega)
      obtain ⟨l1, r1, k1, _⟩ := a1
      obtain rfl := k1 (by omega)
      refine To.call (l := _) r1 rfl ?_
      simp only [List.cons_append, List.nil_append]
      refine To.yes rfl ?_
      clear k1 p1 p2 p3 p4 z1 z2 r1
      refine To.join (fun l => l = [.i 1]) ?_ ?_
      · refine To.join (fun l => ∃ a b, l = [a, b, .b false]) ?_ ?_
        · refine To.ite (fun c => ?_) (fun c => ?_) <;> simp only [X.den, X.dens, X.denss, D.int_i, D.boo_b, D.str_s, D.rows_l, List.getD_cons_zero, List.getD_cons_succ, List.cons_append, List.nil_append, List.append_nil, List.length_cons, List.length_nil, decide_eq_true_eq, decide_eq_false_iff_not, Bool.not_eq_true', Bool.not_eq_false', Bool.and_eq_true, Bool.and_eq_false_iff, Bool.true_eq_false, Bool.false_eq_true, Bool.not_true, Bool.not_false, eq_self] at c
          · exact To.no (by simp only [X.den, X.dens, X.denss, D.int_i, D.boo_b, D.str_s, D.rows_l, List.getD_cons_zero, List.getD_cons_succ, List.cons_append, List.nil_append, List.append_nil, List.length_cons, List.length_nil, decide_eq_true_eq, decide_eq_false_iff_not, Bool.not_eq_true', Bool.not_eq_false', Bool.and_eq_true, Bool.and_eq_false_iff, Bool.true_eq_false, Bool.false_eq_true, Bool.not_true, Bool.not_false, eq_self]; omega) (To.ret ⟨rfl, _, _, by simp only [X.den, X.dens, X.denss, D.int_i, D.boo_b, D.str_s, D.rows_l, List.getD_cons_zero, List.getD_cons_succ, List.cons_append, List.nil_append, List.append_nil, List.length_cons, List.length_nil]; rw [decide_eq_false (show ¬ s < m4 by omega)]⟩)
          · exact To.no (by simp only [X.den, X.dens, X.denss, D.int_i, D.boo_b, D.str_s, D.rows_l, List.getD_cons_zero, List.getD_cons_succ, List.cons_append, List.nil_append, List.append_nil, List.length_cons, List.length_nil, decide_eq_true_eq, decide_eq_false_iff_not, Bool.not_eq_true', Bool.not_eq_false', Bool.and_eq_true, Bool.and_eq_false_iff, Bool.true_eq_false, Bool.false_eq_true, Bool.not_true, Bool.not_false, eq_self]; omega) (To.no (by simp only [X.den, X.dens, X.denss, D.int_i, D.boo_b, D.str_s, D.rows_l, List.getD_cons_zero, List.getD_cons_succ, List.cons_append, List.nil_append, List.append_nil, List.length_cons, List.length_nil, decide_eq_true_eq, decide_eq_false_iff_not, Bool.not_eq_true', Bool.not_eq_false', Bool.and_eq_true, Bool.and_eq_false_iff, Bool.true_eq_false, Bool.false_eq_true, Bool.not_true, Bool.not_false, eq_self]; omega) (To.ret ⟨rfl, _, _, rfl⟩))
        rintro l ⟨_, _, rfl⟩
        simp only [List.cons_append, List.nil_append]
        refine To.no rfl ?_
        refine To.join (fun l => ∃ a b, l = [a, b, .b false]) ?_ ?_
        · refine To.ite (fun c => ?_) (fun c => ?_) <;> simp only [X.den, X.dens, X.denss, D.int_i, D.boo_b, D.str_s, D.rows_l, List.getD_cons_zero, List.getD_cons_succ, List.cons_append, List.nil_append, List.append_nil, List.length_cons, List.length_nil, decide_eq_true_eq, decide_eq_false_iff_not, Bool.not_eq_true', Bool.not_eq_false', Bool.and_eq_true, Bool.and_eq_false_iff, Bool.true_eq_false, Bool.false_eq_true, Bool.not_true, Bool.not_false, eq_self] at c
          · exact To.no (by simp only [X.den, X.dens, X.denss, D.int_i, D.boo_b, D.str_s, D.rows_l, List.getD_cons_zero, List.getD_cons_succ, List.cons_append, List.nil_append, List.append_nil, List.length_cons, List.length_nil, decide_eq_true_eq, decide_eq_false_iff_not, Bool.not_eq_true', Bool.not_eq_false', Bool.and_eq_true, Bool.and_eq_false_iff, Bool.true_eq_false, Bool.false_eq_true, Bool.not_true, Bool.not_false, eq_self]; omega) (To.ret ⟨rfl, _, _, by simp only [X.den, X.dens, X.denss, D.int_i, D.boo_b, D.str_s, D.rows_l, List.getD_cons_zero, List.getD_cons_succ, List.cons_append, List.nil_append, List.append_nil, List.length_cons, List.length_nil]; rw [decide_eq_false (show ¬ v < m5 by omega)]⟩)
          · exact To.no (by simp only [X.den, X.dens, X.denss, D.int_i, D.boo_b, D.str_s, D.rows_l, List.getD_cons_zero, List.getD_cons_succ, List.cons_append, List.nil_append, List.append_nil, List.length_cons, List.length_nil, decide_eq_true_eq, decide_eq_false_iff_not, Bool.not_eq_true', Bool.not_eq_false', Bool.and_eq_true, Bool.and_eq_false_iff, Bool.true_eq_false, Bool.false_eq_true, Bool.not_true, Bool.not_false, eq_self]; omega) (To.no (by simp only [X.den, X.dens, X.denss, D.int_i, D.boo_b, D.str_s, D.rows_l, List.getD_cons_zero, List.getD_cons_succ, List.cons_append, List.nil_append, List.append_nil, List.length_cons, List.length_nil, decide_eq_true_eq, decide_eq_false_iff_not, Bool.not_eq_true', Bool.not_eq_false', Bool.and_eq_true, Bool.and_eq_false_iff, Bool.true_eq_false, Bool.false_eq_true, Bool.not_true, Bool.not_false, eq_self]; omega) (To.ret ⟨rfl, _, _, rfl⟩))
        rintro l ⟨_, _, rfl⟩
        simp only [List.cons_append, List.nil_append]
        refine To.no rfl ?_
        refine To.join (fun l => ∃ a b, l = [a, b, .b false]) ?_ ?_
        · refine To.ite (fun c => ?_) (fun c => ?_) <;> simp only [X.den, X.dens, X.denss, D.int_i, D.boo_b, D.str_s, D.rows_l, List.getD_cons_zero, List.getD_cons_succ, List.cons_append, List.nil_append, List.append_nil, List.length_cons, List.length_nil, decide_eq_true_eq, decide_eq_false_iff_not, Bool.not_eq_true', Bool.not_eq_false', Bool.and_eq_true, Bool.and_eq_false_iff, Bool.true_eq_false, Bool.false_eq_true, Bool.not_true, Bool.not_false, eq_self] at c
          · exact To.no (by simp only [X.den, X.dens, X.denss, D.int_i, D.boo_b, D.str_s, D.rows_l, List.getD_cons_zero, List.getD_cons_succ, List.cons_append, List.nil_append, List.append_nil, List.length_cons, List.length_nil, decide_eq_true_eq, decide_eq_false_iff_not, Bool.not_eq_true', Bool.not_eq_false', Bool.and_eq_true, Bool.and_eq_false_iff, Bool.true_eq_false, Bool.false_eq_true, Bool.not_true, Bool.not_false, eq_self]; omega) (To.ret ⟨rfl, _, _, by simp only [X.den, X.dens, X.denss, D.int_i, D.boo_b, D.str_s, D.rows_l, List.getD_cons_zero, List.getD_cons_succ, List.cons_append, List.nil_append, List.append_nil, List.length_cons, List.length_nil]; rw [decide_eq_false (show ¬ t < m6 by omega)]⟩)
          · exact To.no (by simp only [X.den, X.dens, X.denss, D.int_i, D.boo_b, D.str_s, D.rows_l, List.getD_cons_zero, List.getD_cons_succ, List.cons_append, List.nil_append, List.append_nil, List.length_cons, List.length_nil, decide_eq_true_eq, decide_eq_false_iff_not, Bool.not_eq_true', Bool.not_eq_false', Bool.and_eq_true, Bool.and_eq_false_iff, Bool.true_eq_false, Bool.false_eq_true, Bool.not_true, Bool.not_false, eq_self]; omega) (To.no (by simp only [X.den, X.dens, X.denss, D.int_i, D.boo_b, D.str_s, D.rows_l, List.getD_cons_zero, List.getD_cons_succ, List.cons_append, List.nil_append, List.append_nil, List.length_cons, List.length_nil, decide_eq_true_eq, decide_eq_false_iff_not, Bool.not_eq_true', Bool.not_eq_false', Bool.and_eq_true, Bool.and_eq_false_iff, Bool.true_eq_false, Bool.false_eq_true, Bool.not_true, Bool.not_false, eq_self]; omega) (To.ret ⟨rfl, _, _, rfl⟩))
        rintro l ⟨_, _, rfl⟩
        simp only [List.cons_append, List.nil_append]
        exact To.no rfl (To.ret ⟨rfl, rfl⟩)
      rintro l rfl
      simp only [List.cons_append, List.nil_append]
      refine To.no rfl ?_
      have f1 := spd_full (s := m4) u1
      have f2 := spd_full (s := m5) u1
      have f3 := spd_full (s := m6) u3
      obtain ⟨sn', cn', g1', g2', g3', g4', g5', g6'⟩ := sincos m3 b7 b8
      have a2 := vStep_eq (sn := sn') (cn := cn') (f0 := 0) (f1 := 0) (f2 := 0) hu1 mo fr (by rw [f3, Int.add_zero, Int.emod_eq_of_lt b7 b8]; exact g1') (by rw [f3, Int.add_zero, Int.emod_eq_of_lt b7 b8]; exact g2') g3' g4' g5' g6'
      simp only [f1, f2, f3, Int.zero_mul, Int.sub_zero, Int.add_zero, hdv_zero (d := 10000) (by decide), Int.emod_eq_of_lt b7 b8] at a2
      obtain ⟨l2, r2, k2, _⟩ := a2
      obtain rfl := k2 (by omega)
      refine To.call (l := _) r2 rfl ?_
      simp only [List.cons_append, List.nil_append]
      refine To.sub (To.yes rfl ?_)
      refine To.sub (To.yes rfl (To.yes rfl (To.ret ⟨rfl, ?_⟩)))
      simp only [X.den, X.dens, X.denss, D.int_i, D.boo_b, D.str_s, D.rows_l, List.getD_cons_zero, List.getD_cons_succ, List.cons_append, List.nil_append, List.append_nil, List.length_cons, List.length_nil]
      refine To.yes rfl ?_
      refine To.place (n := m1) rfl rfl (by omega) (by omega) ?_
      simp only [List.cons_append, List.nil_append]
      refine To.place (n := m2) rfl rfl (by omega) (by omega) ?_
      simp only [List.cons_append, List.nil_append]
      refine To.place (n := m1) rfl rfl (by omega) (by omega) ?_
      simp only [List.cons_append, List.nil_append]
      refine To.place (n := m2) rfl rfl (by omega) (by omega) ?_
      simp only [List.cons_append, List.nil_append]
      exact To.yes (by simp only [X.den, X.dens, X.denss, D.int_i, D.boo_b, D.str_s, D.rows_l, List.getD_cons_zero, List.getD_cons_succ, List.cons_append, List.nil_append, List.append_nil, List.length_cons, List.length_nil, decide_eq_true_eq, decide_eq_false_iff_not, Bool.not_eq_true', Bool.not_eq_false', Bool.and_eq_true, Bool.and_eq_false_iff, Bool.true_eq_false, Bool.false_eq_true, Bool.not_true, Bool.not_false, eq_self]; simp) (To.call (l := [.b true]) rfl rfl (To.ret ⟨rfl, To.ret (by simp only [X.den, X.dens, X.denss, D.int_i, D.boo_b, D.str_s, D.rows_l, List.getD_cons_zero, List.getD_cons_succ, List.cons_append, List.nil_append, List.append_nil, List.length_cons, List.length_nil])⟩))
    · cases h
theorem VesselDrags_walk {w : World} (v : Value) (zs : List Int) (h : IntsIn w w.heap.size v .i64 zs) (hz : ∀ z ∈ zs, (Lit.int .i64 z).wf = true) : Calls Try.prog 13 #[v] w fun e w' => e = .returned (.bool true) ∧ Below w.heap.size w w' :=
  con_law VesselDrags_ok rfl (fun G hG => args_ints h hG (by trivial)) (by simp [drags_K]) (ds := [numD zs]) rfl
end Go.Proofs.Ytcogndnencabhaa
