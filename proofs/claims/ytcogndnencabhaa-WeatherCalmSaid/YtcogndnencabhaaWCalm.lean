/- WeatherCalm: without speed there is no load, and the loads of three flows add up. -/
import Derived.Test.YtcogndnencabhaaWeaL
import Derived.Test.YtcogndnencabhaaLwT
set_option linter.unusedVariables false
set_option linter.unusedSimpArgs false
namespace Go.Proofs.Ytcogndnencabhaa
open Go.RowKit Fx
theorem WeatherCalm_ok : ConOk Try.prog wCalm_K fun ds => match ds with | [.l _] => some [.b true] | _ => none :=
  con_of follows (M := law22M) (one_con (srcHull_ok.to _) (one_con (srcWeather_ok.to _) (one_con (srcN_ok.to _) (one_con (wTotal_ok.to _) (one_con (sane22_ok.to _) no_cons))))) wCalm_t fun ds outs hl h => by
    split at h
    · rename_i rows
      injection h with h
      subst h
      refine ⟨fun i l h k => by simp [wCalm_K] at k, 0, ?_⟩
      unfold wCalm_T
      refine To.ite (fun c => ?_) (fun c => ?_) <;> simp only [X.den, X.dens, X.denss, D.int_i, D.boo_b, D.str_s, D.rows_l, List.getD_cons_zero, List.getD_cons_succ, List.cons_append, List.nil_append, List.append_nil, List.length_cons, List.length_nil, decide_eq_true_eq, decide_eq_false_iff_not, Bool.not_eq_true', Bool.not_eq_false', Bool.and_eq_true, Bool.and_eq_false_iff, Bool.true_eq_false, Bool.false_eq_true, Bool.not_true, Bool.not_false, eq_self, D.len_l] at c
      · exact To.call (l := [.b true]) rfl rfl (To.ret (by simp only [X.den, X.dens, X.denss, D.int_i, D.boo_b, D.str_s, D.rows_l, List.getD_cons_zero, List.getD_cons_succ, List.cons_append, List.nil_append, List.append_nil, List.length_cons, List.length_nil]))
      refine To.need (by simp only [X.den, X.dens, X.denss, D.int_i, D.boo_b, D.str_s, D.rows_l, List.getD_cons_zero, List.getD_cons_succ, List.cons_append, List.nil_append, List.append_nil, List.length_cons, List.length_nil, decide_eq_true_eq, decide_eq_false_iff_not, Bool.not_eq_true', Bool.not_eq_false', Bool.and_eq_true, Bool.and_eq_false_iff, Bool.true_eq_false, Bool.false_eq_true, Bool.not_true, Bool.not_false, eq_self, D.len_l]; omega) ?_
      refine To.via (srcHull_to (src0 c)) ?_
      rintro l ⟨h0, h1, h2, h3, h4, h5, h6, h7, h8, i9, i10, i11, i12, at1, rfl, hu, h⟩
      refine ⟨rfl, ?_⟩
      simp only [List.cons_append, List.nil_append]
      refine To.via (srcWeather_to h) ?_
      rintro l ⟨f1, v1, f2, v2, f3, v3, at2, rfl, o1, o2, o3, h⟩
      refine ⟨rfl, ?_⟩
      simp only [List.cons_append, List.nil_append]
      refine To.via (srcN_to h (by decide) (by decide)) ?_
      rintro l ⟨a, at3, rfl, a0, a1, h⟩
      refine ⟨rfl, ?_⟩
      simp only [List.cons_append, List.nil_append]
      have s1 : FlOk f1 0 := ⟨o1.1, o1.2.1, by decide, by decide⟩
      have s2 : FlOk f2 0 := ⟨o2.1, o2.2.1, by decide, by decide⟩
      have s3 : FlOk f3 0 := ⟨o3.1, o3.2.1, by decide, by decide⟩
      have s0 : FlOk 0 0 := ⟨by decide, by decide, by decide, by decide⟩
      have q0 := wTotal_eq hu s1 s2 s3 a0 a1
      have q1 := wTotal_eq hu o1 o2 o3 a0 a1
      have q2 := wTotal_eq hu o1 s0 s0 a0 a1
      have q3 := wTotal_eq hu s0 o2 s0 a0 a1
      have q4 := wTotal_eq hu s0 s0 o3 a0 a1
      have b : ∀ {d : D} (f v : Int), FacOk d → FlOk f v → -100000000000 ≤ ldV d ((f - a) % 3600) v ∧ ldV d ((f - a) % 3600) v ≤ 100000000000 := fun f v hd o => ldV_rng hd (by omega) (by omega) o.2.2.1 o.2.2.2
      obtain ⟨g0, g1, g2, g3, g4, g5, g6, g7, g8, _⟩ := hu
      have b0 := b f1 v1 g0 o1
      have b1 := b f1 v1 g1 o1
      have b2 := b f1 v1 g2 o1
      have b3 := b f2 v2 g3 o2
      have b4 := b f2 v2 g4 o2
      have b5 := b f2 v2 g5 o2
      have b6 := b f3 v3 g6 o3
      have b7 := b f3 v3 g7 o3
      have b8 := b f3 v3 g8 o3
      simp only [ldV_calm, Int.add_zero, Int.zero_add] at q0 q1 q2 q3 q4
      have w : ∀ x y z : Int, -100000000000 ≤ x ∧ x ≤ 100000000000 → -100000000000 ≤ y ∧ y ≤ 100000000000 → -100000000000 ≤ z ∧ z ≤ 100000000000 → IntKind.i64.wrap (IntKind.i64.wrap (x + y) + z) = x + y + z := fun x y z hx hy hz => by
        rw [wr64 (z := x + y) (by omega) (by omega), wr64 (by omega) (by omega)]
      refine To.call (l := _) q0 rfl ?_
      simp only [List.cons_append, List.nil_append]
      refine To.join (fun l => l = [.b false]) (To.yes rfl (To.ret ⟨rfl, by simp only [X.den, X.dens, X.denss, D.int_i, D.boo_b, D.str_s, D.rows_l, List.getD_cons_zero, List.getD_cons_succ, List.cons_append, List.nil_append, List.append_nil, List.length_cons, List.length_nil]; rfl⟩)) ?_
      rintro l rfl
      simp only [List.cons_append, List.nil_append]
      refine To.no rfl ?_
      refine To.call (l := _) q1 rfl ?_
      simp only [List.cons_append, List.nil_append]
      refine To.call (l := _) q2 rfl ?_
      simp only [List.cons_append, List.nil_append]
      refine To.call (l := _) q3 rfl ?_
      simp only [List.cons_append, List.nil_append]
      refine To.call (l := _) q4 rfl ?_
      simp only [List.cons_append, List.nil_append]
      refine To.sub (To.yes (by simp only [X.den, X.dens, X.denss, D.int_i, D.boo_b, D.str_s, D.rows_l, List.getD_cons_zero, List.getD_cons_succ, List.cons_append, List.nil_append, List.append_nil, List.length_cons, List.length_nil, decide_eq_true_eq, decide_eq_false_iff_not, Bool.not_eq_true', Bool.not_eq_false', Bool.and_eq_true, Bool.and_eq_false_iff, Bool.true_eq_false, Bool.false_eq_true, Bool.not_true, Bool.not_false, eq_self]; rw [w _ _ _ b0 b3 b6]) (To.yes (by simp only [X.den, X.dens, X.denss, D.int_i, D.boo_b, D.str_s, D.rows_l, List.getD_cons_zero, List.getD_cons_succ, List.cons_append, List.nil_append, List.append_nil, List.length_cons, List.length_nil, decide_eq_true_eq, decide_eq_false_iff_not, Bool.not_eq_true', Bool.not_eq_false', Bool.and_eq_true, Bool.and_eq_false_iff, Bool.true_eq_false, Bool.false_eq_true, Bool.not_true, Bool.not_false, eq_self]; rw [w _ _ _ b1 b4 b7]) (To.yes (by simp only [X.den, X.dens, X.denss, D.int_i, D.boo_b, D.str_s, D.rows_l, List.getD_cons_zero, List.getD_cons_succ, List.cons_append, List.nil_append, List.append_nil, List.length_cons, List.length_nil, decide_eq_true_eq, decide_eq_false_iff_not, Bool.not_eq_true', Bool.not_eq_false', Bool.and_eq_true, Bool.and_eq_false_iff, Bool.true_eq_false, Bool.false_eq_true, Bool.not_true, Bool.not_false, eq_self]; rw [w _ _ _ b2 b5 b8]) (To.call (l := [.b true]) rfl rfl (To.ret ⟨rfl, To.ret ?_⟩)))))
      simp only [X.den, X.dens, X.denss, D.int_i, D.boo_b, D.str_s, D.rows_l, List.getD_cons_zero, List.getD_cons_succ, List.cons_append, List.nil_append, List.append_nil, List.length_cons, List.length_nil]
    · cases h
theorem WeatherCalm_walk {w : World} (v : Value) (zs : List Int) (h : IntsIn w w.heap.size v .i64 zs) (hz : ∀ z ∈ zs, (Lit.int .i64 z).wf = true) : Calls Try.prog 5 #[v] w fun e w' => e = .returned (.bool true) ∧ Below w.heap.size w w' :=
  con_law WeatherCalm_ok rfl (fun G hG => args_ints h hG (by trivial)) (by simp [wCalm_K]) (ds := [numD zs]) rfl
end Go.Proofs.Ytcogndnencabhaa
