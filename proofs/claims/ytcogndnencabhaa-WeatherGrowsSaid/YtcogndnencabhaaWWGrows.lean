/- WeatherGrows: a greater speed never makes a component less far from zero. -/
import Derived.Test.YtcogndnencabhaaWeaL
import Derived.Test.YtcogndnencabhaaLwT
set_option linter.unusedVariables false
set_option linter.unusedSimpArgs false
namespace Go.Proofs.Ytcogndnencabhaa
open Go.RowKit Fx
theorem ldV_grow {d : D} {a v u : Int} (v0 : 0 ≤ v) (hu : v ≤ u) : (0 ≤ ldV d a v ∧ ldV d a v ≤ ldV d a u) ∨ (ldV d a v ≤ 0 ∧ ldV d a u ≤ ldV d a v) := by
  unfold ldV
  generalize facV d a = f
  have z : hdv 0 1000000 = 0 := rfl
  have s1 := Int.mul_le_mul hu hu v0 (show 0 ≤ u by omega)
  have s0 := Int.mul_nonneg v0 v0
  rw [Int.mul_assoc, Int.mul_assoc]
  generalize v * v = x at *
  generalize u * u = y at *
  rcases Int.le_total 0 f with q | q
  · have p1 := Int.mul_nonneg q s0
    have p2 := Int.mul_le_mul_of_nonneg_left s1 q
    have a1 := hdv_mono' (d := 1000000) (by decide) p1
    have a2 := hdv_mono' (d := 1000000) (by decide) p2
    omega
  · have p1 := Int.mul_nonneg (show 0 ≤ -f by omega) s0
    have p2 := Int.mul_le_mul_of_nonneg_left s1 (show 0 ≤ -f by omega)
    rw [Int.neg_mul] at p1
    rw [Int.neg_mul, Int.neg_mul] at p2
    have a1 := hdv_mono' (d := 1000000) (by decide) (show f * x ≤ 0 by omega)
    have a2 := hdv_mono' (d := 1000000) (by decide) (show f * y ≤ f * x by omega)
    omega
theorem WeatherGrows_ok : ConOk Try.prog wGrows_K fun ds => match ds with | [.l _, .i n] => if 0 ≤ n ∧ n ≤ 65535 then some [.b true] else none | _ => none :=
  con_of follows (M := law22M) (one_con (srcN_ok.to _) (one_con (srcList_ok.to _) (one_con (wLoad_ok.to _) (one_con (sane22_ok.to _) no_cons)))) wGrows_t fun ds outs hl h => by
    split at h
    · rename_i rows n
      split at h
      · rename_i hn
        injection h with h
        subst h
        refine ⟨fun i l h k => by simp [wGrows_K] at k, 0, ?_⟩
        unfold wGrows_T
        refine To.ite (fun c => ?_) (fun c => ?_) <;> simp only [X.den, X.dens, X.denss, D.int_i, D.boo_b, D.str_s, D.rows_l, List.getD_cons_zero, List.getD_cons_succ, List.cons_append, List.nil_append, List.append_nil, List.length_cons, List.length_nil, decide_eq_true_eq, decide_eq_false_iff_not, Bool.not_eq_true', Bool.not_eq_false', Bool.and_eq_true, Bool.and_eq_false_iff, Bool.true_eq_false, Bool.false_eq_true, Bool.not_true, Bool.not_false, eq_self, D.len_l] at c
        · exact To.call (l := [.b true]) rfl rfl (To.ret (by simp only [X.den, X.dens, X.denss, D.int_i, D.boo_b, D.str_s, D.rows_l, List.getD_cons_zero, List.getD_cons_succ, List.cons_append, List.nil_append, List.append_nil, List.length_cons, List.length_nil]))
        refine To.need (by simp only [X.den, X.dens, X.denss, D.int_i, D.boo_b, D.str_s, D.rows_l, List.getD_cons_zero, List.getD_cons_succ, List.cons_append, List.nil_append, List.append_nil, List.length_cons, List.length_nil, decide_eq_true_eq, decide_eq_false_iff_not, Bool.not_eq_true', Bool.not_eq_false', Bool.and_eq_true, Bool.and_eq_false_iff, Bool.true_eq_false, Bool.false_eq_true, Bool.not_true, Bool.not_false, eq_self, D.len_l]; omega) ?_
        refine To.via (srcList_to (src0 c)) ?_
        rintro l ⟨d0, at1, rfl, hd0, h⟩
        refine ⟨rfl, ?_⟩
        simp only [List.cons_append, List.nil_append]
        refine To.via (srcList_to h) ?_
        rintro l ⟨d1, at2, rfl, hd1, h⟩
        refine ⟨rfl, ?_⟩
        simp only [List.cons_append, List.nil_append]
        refine To.via (srcList_to h) ?_
        rintro l ⟨d2, at3, rfl, hd2, h⟩
        refine ⟨rfl, ?_⟩
        simp only [List.cons_append, List.nil_append]
        refine To.via (srcN_to h (by decide) (by decide)) ?_
        rintro l ⟨a, at4, rfl, a0, a1, h⟩
        refine ⟨rfl, ?_⟩
        simp only [List.cons_append, List.nil_append]
        refine To.via (srcN_to h (by decide) (by decide)) ?_
        rintro l ⟨fr, at5, rfl, f0, f1, h⟩
        refine ⟨rfl, ?_⟩
        simp only [List.cons_append, List.nil_append]
        have wn : IntKind.i64.wrap n = n := wr64 (by omega) (by omega)
        have e1 : n.tmod 9000 = n % 9000 := Int.tmod_eq_emod_of_nonneg hn.1
        generalize hv : n % 9000 = v at e1
        have v0 : 0 ≤ v ∧ v < 9000 := by omega
        refine To.call (l := _) (by simp only [X.den, X.dens, X.denss, D.int_i, D.boo_b, D.str_s, D.rows_l, List.getD_cons_zero, List.getD_cons_succ, List.cons_append, List.nil_append, List.append_nil, List.length_cons, List.length_nil, wn, e1]; exact wLoad_eq hd0 hd1 hd2 f0 f1 v0.1 (by omega) a0 a1) rfl ?_
        simp only [List.cons_append, List.nil_append]
        refine To.via (srcN_to h (by decide) (by decide)) ?_
        rintro l ⟨r, at6, rfl, r0, r1, h⟩
        refine ⟨rfl, ?_⟩
        simp only [List.cons_append, List.nil_append]
        have wu : IntKind.i64.wrap (v + 1 + r) = v + 1 + r := wr64 (by omega) (by omega)
        generalize hu : v + 1 + r = u at wu
        have g0 := ldV_grow (d := d0) (a := (fr - a) % 3600) v0.1 (show v ≤ u by omega)
        have g1 := ldV_grow (d := d1) (a := (fr - a) % 3600) v0.1 (show v ≤ u by omega)
        have g2 := ldV_grow (d := d2) (a := (fr - a) % 3600) v0.1 (show v ≤ u by omega)
        refine To.call (l := _) (by simp only [X.den, X.dens, X.denss, D.int_i, D.boo_b, D.str_s, D.rows_l, List.getD_cons_zero, List.getD_cons_succ, List.cons_append, List.nil_append, List.append_nil, List.length_cons, List.length_nil, wn, e1, hu, wu]; exact wLoad_eq hd0 hd1 hd2 f0 f1 (show 0 ≤ u by omega) (by omega) a0 a1) rfl ?_
        simp only [List.cons_append, List.nil_append]
        generalize ldV d0 ((fr - a) % 3600) v = p0 at *
        generalize ldV d1 ((fr - a) % 3600) v = p1 at *
        generalize ldV d2 ((fr - a) % 3600) v = p2 at *
        generalize ldV d0 ((fr - a) % 3600) u = q0 at *
        generalize ldV d1 ((fr - a) % 3600) u = q1 at *
        generalize ldV d2 ((fr - a) % 3600) u = q2 at *
        refine To.join (fun l => l = [.i 1]) ?_ ?_
        · refine To.join (fun l => ∃ a b, l = [a, b, .b false]) ?_ ?_
          · refine To.ite (fun c => ?_) (fun c => ?_) <;> simp only [X.den, X.dens, X.denss, D.int_i, D.boo_b, D.str_s, D.rows_l, List.getD_cons_zero, List.getD_cons_succ, List.cons_append, List.nil_append, List.append_nil, List.length_cons, List.length_nil, decide_eq_true_eq, decide_eq_false_iff_not, Bool.not_eq_true', Bool.not_eq_false', Bool.and_eq_true, Bool.and_eq_false_iff, Bool.true_eq_false, Bool.false_eq_true, Bool.not_true, Bool.not_false, eq_self] at c
            · exact To.no (by simp only [X.den, X.dens, X.denss, D.int_i, D.boo_b, D.str_s, D.rows_l, List.getD_cons_zero, List.getD_cons_succ, List.cons_append, List.nil_append, List.append_nil, List.length_cons, List.length_nil, decide_eq_true_eq, decide_eq_false_iff_not, Bool.not_eq_true', Bool.not_eq_false', Bool.and_eq_true, Bool.and_eq_false_iff, Bool.true_eq_false, Bool.false_eq_true, Bool.not_true, Bool.not_false, eq_self]; omega) (To.no (by simp only [X.den, X.dens, X.denss, D.int_i, D.boo_b, D.str_s, D.rows_l, List.getD_cons_zero, List.getD_cons_succ, List.cons_append, List.nil_append, List.append_nil, List.length_cons, List.length_nil, decide_eq_true_eq, decide_eq_false_iff_not, Bool.not_eq_true', Bool.not_eq_false', Bool.and_eq_true, Bool.and_eq_false_iff, Bool.true_eq_false, Bool.false_eq_true, Bool.not_true, Bool.not_false, eq_self]; omega) (To.ret ⟨rfl, _, _, rfl⟩))
            · refine To.ite (fun c2 => ?_) (fun c2 => ?_) <;> simp only [X.den, X.dens, X.denss, D.int_i, D.boo_b, D.str_s, D.rows_l, List.getD_cons_zero, List.getD_cons_succ, List.cons_append, List.nil_append, List.append_nil, List.length_cons, List.length_nil, decide_eq_true_eq, decide_eq_false_iff_not, Bool.not_eq_true', Bool.not_eq_false', Bool.and_eq_true, Bool.and_eq_false_iff, Bool.true_eq_false, Bool.false_eq_true, Bool.not_true, Bool.not_false, eq_self] at c2
              · exact To.ret ⟨rfl, _, _, by simp only [X.den, X.dens, X.denss, D.int_i, D.boo_b, D.str_s, D.rows_l, List.getD_cons_zero, List.getD_cons_succ, List.cons_append, List.nil_append, List.append_nil, List.length_cons, List.length_nil]; rw [decide_eq_false (show ¬ p0 < q0 by omega)]⟩
              · exact To.ret ⟨rfl, _, _, rfl⟩
          rintro l ⟨_, _, rfl⟩
          simp only [List.cons_append, List.nil_append]
          refine To.no rfl ?_
          refine To.join (fun l => ∃ a b, l = [a, b, .b false]) ?_ ?_
          · refine To.ite (fun c => ?_) (fun c => ?_) <;> simp only [X.den, X.dens, X.denss, D.int_i, D.boo_b, D.str_s, D.rows_l, List.getD_cons_zero, List.getD_cons_succ, List.cons_append, List.nil_append, List.append_nil, List.length_cons, List.length_nil, decide_eq_true_eq, decide_eq_false_iff_not, Bool.not_eq_true', Bool.not_eq_false', Bool.and_eq_true, Bool.and_eq_false_iff, Bool.true_eq_false, Bool.false_eq_true, Bool.not_true, Bool.not_false, eq_self] at c
            · exact To.no (by simp only [X.den, X.dens, X.denss, D.int_i, D.boo_b, D.str_s, D.rows_l, List.getD_cons_zero, List.getD_cons_succ, List.cons_append, List.nil_append, List.append_nil, List.length_cons, List.length_nil, decide_eq_true_eq, decide_eq_false_iff_not, Bool.not_eq_true', Bool.not_eq_false', Bool.and_eq_true, Bool.and_eq_false_iff, Bool.true_eq_false, Bool.false_eq_true, Bool.not_true, Bool.not_false, eq_self]; omega) (To.no (by simp only [X.den, X.dens, X.denss, D.int_i, D.boo_b, D.str_s, D.rows_l, List.getD_cons_zero, List.getD_cons_succ, List.cons_append, List.nil_append, List.append_nil, List.length_cons, List.length_nil, decide_eq_true_eq, decide_eq_false_iff_not, Bool.not_eq_true', Bool.not_eq_false', Bool.and_eq_true, Bool.and_eq_false_iff, Bool.true_eq_false, Bool.false_eq_true, Bool.not_true, Bool.not_false, eq_self]; omega) (To.ret ⟨rfl, _, _, rfl⟩))
            · refine To.ite (fun c2 => ?_) (fun c2 => ?_) <;> simp only [X.den, X.dens, X.denss, D.int_i, D.boo_b, D.str_s, D.rows_l, List.getD_cons_zero, List.getD_cons_succ, List.cons_append, List.nil_append, List.append_nil, List.length_cons, List.length_nil, decide_eq_true_eq, decide_eq_false_iff_not, Bool.not_eq_true', Bool.not_eq_false', Bool.and_eq_true, Bool.and_eq_false_iff, Bool.true_eq_false, Bool.false_eq_true, Bool.not_true, Bool.not_false, eq_self] at c2
              · exact To.ret ⟨rfl, _, _, by simp only [X.den, X.dens, X.denss, D.int_i, D.boo_b, D.str_s, D.rows_l, List.getD_cons_zero, List.getD_cons_succ, List.cons_append, List.nil_append, List.append_nil, List.length_cons, List.length_nil]; rw [decide_eq_false (show ¬ p1 < q1 by omega)]⟩
              · exact To.ret ⟨rfl, _, _, rfl⟩
          rintro l ⟨_, _, rfl⟩
          simp only [List.cons_append, List.nil_append]
          refine To.no rfl ?_
          refine To.join (fun l => ∃ a b, l = [a, b, .b false]) ?_ ?_
          · refine To.ite (fun c => ?_) (fun c => ?_) <;> simp only [X.den, X.dens, X.denss, D.int_i, D.boo_b, D.str_s, D.rows_l, List.getD_cons_zero, List.getD_cons_succ, List.cons_append, List.nil_append, List.append_nil, List.length_cons, List.length_nil, decide_eq_true_eq, decide_eq_false_iff_not, Bool.not_eq_true', Bool.not_eq_false', Bool.and_eq_true, Bool.and_eq_false_iff, Bool.true_eq_false, Bool.false_eq_true, Bool.not_true, Bool.not_false, eq_self] at c
            · exact To.no (by simp only [X.den, X.dens, X.denss, D.int_i, D.boo_b, D.str_s, D.rows_l, List.getD_cons_zero, List.getD_cons_succ, List.cons_append, List.nil_append, List.append_nil, List.length_cons, List.length_nil, decide_eq_true_eq, decide_eq_false_iff_not, Bool.not_eq_true', Bool.not_eq_false', Bool.and_eq_true, Bool.and_eq_false_iff, Bool.true_eq_false, Bool.false_eq_true, Bool.not_true, Bool.not_false, eq_self]; omega) (To.no (by simp only [X.den, X.dens, X.denss, D.int_i, D.boo_b, D.str_s, D.rows_l, List.getD_cons_zero, List.getD_cons_succ, List.cons_append, List.nil_append, List.append_nil, List.length_cons, List.length_nil, decide_eq_true_eq, decide_eq_false_iff_not, Bool.not_eq_true', Bool.not_eq_false', Bool.and_eq_true, Bool.and_eq_false_iff, Bool.true_eq_false, Bool.false_eq_true, Bool.not_true, Bool.not_false, eq_self]; omega) (To.ret ⟨rfl, _, _, rfl⟩))
            · refine To.ite (fun c2 => ?_) (fun c2 => ?_) <;> simp only [X.den, X.dens, X.denss, D.int_i, D.boo_b, D.str_s, D.rows_l, List.getD_cons_zero, List.getD_cons_succ, List.cons_append, List.nil_append, List.append_nil, List.length_cons, List.length_nil, decide_eq_true_eq, decide_eq_false_iff_not, Bool.not_eq_true', Bool.not_eq_false', Bool.and_eq_true, Bool.and_eq_false_iff, Bool.true_eq_false, Bool.false_eq_true, Bool.not_true, Bool.not_false, eq_self] at c2
              · exact To.ret ⟨rfl, _, _, by simp only [X.den, X.dens, X.denss, D.int_i, D.boo_b, D.str_s, D.rows_l, List.getD_cons_zero, List.getD_cons_succ, List.cons_append, List.nil_append, List.append_nil, List.length_cons, List.length_nil]; rw [decide_eq_false (show ¬ p2 < q2 by omega)]⟩
              · exact To.ret ⟨rfl, _, _, rfl⟩
          rintro l ⟨_, _, rfl⟩
          simp only [List.cons_append, List.nil_append]
          refine To.no rfl ?_
          exact To.ret ⟨rfl, rfl⟩
        rintro l rfl
        simp only [List.cons_append, List.nil_append]
        refine To.no rfl (To.call (l := [.b true]) rfl rfl (To.ret ?_))
        simp only [X.den, X.dens, X.denss, D.int_i, D.boo_b, D.str_s, D.rows_l, List.getD_cons_zero, List.getD_cons_succ, List.cons_append, List.nil_append, List.append_nil, List.length_cons, List.length_nil]
      · cases h
    · cases h
theorem WeatherGrows_walk {w : World} (v : Value) (zs : List Int) (h : IntsIn w w.heap.size v .i64 zs) (hz : ∀ z ∈ zs, (Lit.int .i64 z).wf = true) (a : Int) (ha : (Lit.int .u16 a).wf = true) : Calls Try.prog 8 #[v, .int .u16 a] w fun e w' => e = .returned (.bool true) ∧ Below w.heap.size w w' :=
  con_law WeatherGrows_ok rfl (fun G hG => args_ints h hG (args_int (by trivial))) (by simp [wGrows_K]) (ds := [numD zs, .i a]) (by
    have := bounds_u16 ha
    exact if_pos (by omega))
end Go.Proofs.Ytcogndnencabhaa
