/- WeatherTurns: a ship and all flows that turn by the same angle have the same load. -/
import Derived.Test.YtcogndnencabhaaWeaL
import Derived.Test.YtcogndnencabhaaLwT
set_option linter.unusedVariables false
set_option linter.unusedSimpArgs false
namespace Go.Proofs.Ytcogndnencabhaa
open Go.RowKit Fx
theorem WeatherTurns_ok : ConOk Try.prog wTurns_K fun ds => match ds with | [.l _, .i _] => some [.b true] | _ => none :=
  con_of follows (M := law22M) (one_con (srcHull_ok.to _) (one_con (srcWeather_ok.to _) (one_con (srcN_ok.to _) (one_con (wTotal_ok.to _) (one_con (sane22_ok.to _) no_cons))))) wTurns_t fun ds outs hl h => by
    split at h
    · rename_i rows by_
      injection h with h
      subst h
      refine ⟨fun i l h k => by simp [wTurns_K] at k, 0, ?_⟩
      unfold wTurns_T
      refine To.ite (fun c => ?_) (fun c => ?_) <;> simp only [X.den, X.dens, X.denss, D.int_i, D.boo_b, D.str_s, D.rows_l, List.getD_cons_zero, List.getD_cons_succ, List.cons_append, List.nil_append, List.append_nil, List.length_cons, List.length_nil, decide_eq_true_eq, decide_eq_false_iff_not, Bool.not_eq_true', Bool.not_eq_false', Bool.and_eq_true, Bool.and_eq_false_iff, Bool.true_eq_false, Bool.false_eq_true, Bool.not_true, Bool.not_false, eq_self, D.len_l] at c
      · exact To.call (l := [.b true]) rfl rfl (To.ret (by simp only [X.den, X.dens, X.denss, D.int_i, D.boo_b, D.str_s, D.rows_l, List.getD_cons_zero, List.getD_cons_succ, List.cons_append, List.nil_append, List.append_nil, List.length_cons, List.length_nil]))
      refine To.need (by simp only [X.den, X.dens, X.denss, D.int_i, D.boo_b, D.str_s, D.rows_l, List.getD_cons_zero, List.getD_cons_succ, List.cons_append, List.nil_append, List.append_nil, List.length_cons, List.length_nil, decide_eq_true_eq, decide_eq_false_iff_not, Bool.not_eq_true', Bool.not_eq_false', Bool.and_eq_true, Bool.and_eq_false_iff, Bool.true_eq_false, Bool.false_eq_true, Bool.not_true, Bool.not_false, eq_self, D.len_l]; omega) ?_
      refine To.via (srcHull_to (src0 c)) ?_
      rintro l ⟨h0, h1, h2, h3, h4, h5, h6, h7, h8, i9, i10, i11, i12, at1, rfl, hu, h⟩
      refine ⟨rfl, ?_⟩
      simp only [List.cons_append, List.nil_append]
      refine To.via (srcWeather_to h) ?_
      rintro l ⟨f1, v1, f2, v2, f3, v3, at2, rfl, o1, o2, o3, h⟩
      refine ⟨rfl, ?_⟩
      simp only [List.cons_append, List.nil_append]
      refine To.via (srcN_to h (by decide) (by decide)) ?_
      rintro l ⟨a, at3, rfl, a0, a1, h⟩
      refine ⟨rfl, ?_⟩
      simp only [List.cons_append, List.nil_append]
      obtain ⟨k0, k1, _, _⟩ := mod_rng by_ 3600 (by decide)
      generalize hk : (by_.tmod 3600 + 3600).tmod 3600 = k at k0 k1
      have tn : ∀ f : Int, 0 ≤ f → f < 3600 → (IntKind.i64.wrap (f + k)).tmod 3600 = (f + k) % 3600 := fun f f0 f1 => by
        rw [wr64 (by omega) (by omega), Int.tmod_eq_emod_of_nonneg (by omega)]
      have o1' : FlOk ((f1 + k) % 3600) v1 := by unfold FlOk at o1 ⊢; omega
      have o2' : FlOk ((f2 + k) % 3600) v2 := by unfold FlOk at o2 ⊢; omega
      have o3' : FlOk ((f3 + k) % 3600) v3 := by unfold FlOk at o3 ⊢; omega
      refine To.call (l := _) (wTotal_eq hu o1 o2 o3 a0 a1) rfl ?_
      simp only [List.cons_append, List.nil_append]
      have q := wTotal_eq hu o1' o2' o3' (hd := (a + k) % 3600) (by omega) (by omega)
      have sh : ∀ f : Int, ((f + k) % 3600 - (a + k) % 3600) % 3600 = (f - a) % 3600 := fun f => by omega
      rw [sh, sh, sh] at q
      refine To.call (l := _) (by
        simp only [X.den, X.dens, X.denss, D.int_i, D.boo_b, D.str_s, D.rows_l, List.getD_cons_zero, List.getD_cons_succ, List.cons_append, List.nil_append, List.append_nil, List.length_cons, List.length_nil, hk]
        rw [tn f1 o1.1 o1.2.1, tn f2 o2.1 o2.2.1, tn f3 o3.1 o3.2.1, tn a a0 a1]
        exact q) rfl ?_
      simp only [List.cons_append, List.nil_append]
      refine To.sub (To.yes rfl (To.yes rfl (To.yes (by simp only [X.den, X.dens, X.denss, D.int_i, D.boo_b, D.str_s, D.rows_l, List.getD_cons_zero, List.getD_cons_succ, List.cons_append, List.nil_append, List.append_nil, List.length_cons, List.length_nil, decide_eq_true_eq, decide_eq_false_iff_not, Bool.not_eq_true', Bool.not_eq_false', Bool.and_eq_true, Bool.and_eq_false_iff, Bool.true_eq_false, Bool.false_eq_true, Bool.not_true, Bool.not_false, eq_self]; simp) (To.call (l := [.b true]) rfl rfl (To.ret ⟨rfl, To.ret ?_⟩)))))
      simp only [X.den, X.dens, X.denss, D.int_i, D.boo_b, D.str_s, D.rows_l, List.getD_cons_zero, List.getD_cons_succ, List.cons_append, List.nil_append, List.append_nil, List.length_cons, List.length_nil]
    · cases h
theorem WeatherTurns_walk {w : World} (v : Value) (zs : List Int) (h : IntsIn w w.heap.size v .i64 zs) (hz : ∀ z ∈ zs, (Lit.int .i64 z).wf = true) (a : Int) (ha : (Lit.int .i64 a).wf = true) : Calls Try.prog 4 #[v, .int .i64 a] w fun e w' => e = .returned (.bool true) ∧ Below w.heap.size w w' :=
  con_law WeatherTurns_ok rfl (fun G hG => args_ints h hG (args_int (by trivial))) (by simp [wTurns_K]) (ds := [numD zs, .i a]) rfl
end Go.Proofs.Ytcogndnencabhaa
