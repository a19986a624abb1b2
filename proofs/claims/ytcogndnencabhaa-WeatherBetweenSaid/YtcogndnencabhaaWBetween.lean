/- WeatherBetween: a factor lies between its two neighbours, and is the element itself at its direction. -/
import Derived.Test.YtcogndnencabhaaWeaL
import Derived.Test.YtcogndnencabhaaLwT
set_option linter.unusedVariables false
set_option linter.unusedSimpArgs false
namespace Go.Proofs.Ytcogndnencabhaa
open Go.RowKit Fx
theorem facV_btw {d : D} {a : Int} (h0 : 0 ≤ a) (h1 : a < 3600) : min (fac d (a / 300)) (fac d ((a / 300 + 1) % 12)) ≤ facV d a ∧ facV d a ≤ max (fac d (a / 300)) (fac d ((a / 300 + 1) % 12)) := by
  unfold facV
  generalize fac d (a / 300) = x
  generalize fac d ((a / 300 + 1) % 12) = y
  generalize hm : a % 300 = m
  have m0 : 0 ≤ m ∧ m < 300 := by omega
  have l0 : min x y ≤ x := Int.min_le_left _ _
  have l1 : min x y ≤ y := Int.min_le_right _ _
  have u0 : x ≤ max x y := Int.le_max_left _ _
  have u1 : y ≤ max x y := Int.le_max_right _ _
  generalize min x y = lo at *
  generalize max x y = hi at *
  have p1 := Int.mul_le_mul_of_nonneg_left l0 (show 0 ≤ 300 - m by omega)
  have p2 := Int.mul_le_mul_of_nonneg_left l1 m0.1
  have p3 := Int.mul_le_mul_of_nonneg_left u0 (show 0 ≤ 300 - m by omega)
  have p4 := Int.mul_le_mul_of_nonneg_left u1 m0.1
  have e1 : (300 - m) * lo + m * lo = 300 * lo := by rw [← Int.add_mul]; congr 1; omega
  have e2 : (300 - m) * hi + m * hi = 300 * hi := by rw [← Int.add_mul]; congr 1; omega
  have a1 := hdv_mono' (n := 300 * lo) (n' := (300 - m) * x + m * y) (d := 300) (by decide) (by omega)
  have a2 := hdv_mono' (n' := 300 * hi) (n := (300 - m) * x + m * y) (d := 300) (by decide) (by omega)
  rw [hdv_mul' (by decide)] at a1 a2
  exact ⟨a1, a2⟩
theorem facV_at {d : D} {i : Int} (h0 : 0 ≤ i) : facV d (300 * i) = fac d i := by
  unfold facV
  rw [show 300 * i % 300 = 0 by omega, show 300 * i / 300 = i by omega, Int.zero_mul, Int.add_zero, Int.sub_zero, hdv_mul' (by decide)]
theorem WeatherBetween_ok : ConOk Try.prog wBetween_K fun ds => match ds with | [.l _, .i _] => some [.b true] | _ => none :=
  con_of follows (M := law22M) (one_con (srcList_ok.to _) (one_con (wFactor_ok.to _) (one_con (sane22_ok.to _) no_cons))) wBetween_t fun ds outs hl h => by
    split at h
    · rename_i rows by_
      injection h with h
      subst h
      refine ⟨fun i l h k => by simp [wBetween_K] at k, 0, ?_⟩
      unfold wBetween_T
      refine To.ite (fun c => ?_) (fun c => ?_) <;> simp only [X.den, X.dens, X.denss, D.int_i, D.boo_b, D.str_s, D.rows_l, List.getD_cons_zero, List.getD_cons_succ, List.cons_append, List.nil_append, List.append_nil, List.length_cons, List.length_nil, decide_eq_true_eq, decide_eq_false_iff_not, Bool.not_eq_true', Bool.not_eq_false', Bool.and_eq_true, Bool.and_eq_false_iff, Bool.true_eq_false, Bool.false_eq_true, Bool.not_true, Bool.not_false, eq_self, D.len_l] at c
      · exact To.call (l := [.b true]) rfl rfl (To.ret (by simp only [X.den, X.dens, X.denss, D.int_i, D.boo_b, D.str_s, D.rows_l, List.getD_cons_zero, List.getD_cons_succ, List.cons_append, List.nil_append, List.append_nil, List.length_cons, List.length_nil]))
      refine To.need (by simp only [X.den, X.dens, X.denss, D.int_i, D.boo_b, D.str_s, D.rows_l, List.getD_cons_zero, List.getD_cons_succ, List.cons_append, List.nil_append, List.append_nil, List.length_cons, List.length_nil, decide_eq_true_eq, decide_eq_false_iff_not, Bool.not_eq_true', Bool.not_eq_false', Bool.and_eq_true, Bool.and_eq_false_iff, Bool.true_eq_false, Bool.false_eq_true, Bool.not_true, Bool.not_false, eq_self, D.len_l]; omega) ?_
      refine To.via (srcList_to (src0 c)) ?_
      rintro l ⟨d0, at1, rfl, hd0, h⟩
      refine ⟨rfl, ?_⟩
      simp only [List.cons_append, List.nil_append]
      refine To.via (srcList_to h) ?_
      rintro l ⟨d1, at2, rfl, hd1, h⟩
      refine ⟨rfl, ?_⟩
      simp only [List.cons_append, List.nil_append]
      refine To.via (srcList_to h) ?_
      rintro l ⟨d, at3, rfl, hd, h⟩
      refine ⟨rfl, ?_⟩
      simp only [List.cons_append, List.nil_append]
      obtain ⟨k0, k1, _, _⟩ := mod_rng by_ 3600 (by decide)
      generalize hk : (by_.tmod 3600 + 3600).tmod 3600 = k at k0 k1
      have hlen : d.len = 12 := by have := hd.1; unfold D.len; omega
      have e1 : k.tdiv 300 = k / 300 := Int.tdiv_eq_ediv_of_nonneg k0
      have e2 : (k / 300 + 1).tmod 12 = (k / 300 + 1) % 12 := Int.tmod_eq_emod_of_nonneg (by omega)
      refine To.need (by simp only [X.den, X.dens, X.denss, D.int_i, D.boo_b, D.str_s, D.rows_l, List.getD_cons_zero, List.getD_cons_succ, List.cons_append, List.nil_append, List.append_nil, List.length_cons, List.length_nil, decide_eq_true_eq, decide_eq_false_iff_not, Bool.not_eq_true', Bool.not_eq_false', Bool.and_eq_true, Bool.and_eq_false_iff, Bool.true_eq_false, Bool.false_eq_true, Bool.not_true, Bool.not_false, eq_self, hk, e1, hlen]; omega) ?_
      refine To.need (by simp only [X.den, X.dens, X.denss, D.int_i, D.boo_b, D.str_s, D.rows_l, List.getD_cons_zero, List.getD_cons_succ, List.cons_append, List.nil_append, List.append_nil, List.length_cons, List.length_nil, decide_eq_true_eq, decide_eq_false_iff_not, Bool.not_eq_true', Bool.not_eq_false', Bool.and_eq_true, Bool.and_eq_false_iff, Bool.true_eq_false, Bool.false_eq_true, Bool.not_true, Bool.not_false, eq_self, hk, e1, e2, hlen]; omega) ?_
      have q1 := wFactor_eq hd k0 k1
      have q2 := wFactor_eq (a := 300 * (k / 300)) hd (by omega) (by omega)
      rw [facV_at (by omega)] at q2
      obtain ⟨b0, b1⟩ := facV_btw (d := d) k0 k1
      have x1 : (d.cell (k / 300) 0).int = fac d (k / 300) := rfl
      have x2 : (d.cell ((k / 300 + 1) % 12) 0).int = fac d ((k / 300 + 1) % 12) := rfl
      refine To.call (l := _) (by simp only [X.den, X.dens, X.denss, D.int_i, D.boo_b, D.str_s, D.rows_l, List.getD_cons_zero, List.getD_cons_succ, List.cons_append, List.nil_append, List.append_nil, List.length_cons, List.length_nil, hk]; exact q1) rfl ?_
      simp only [List.cons_append, List.nil_append]
      refine To.sub (To.no (by simp only [X.den, X.dens, X.denss, D.int_i, D.boo_b, D.str_s, D.rows_l, List.getD_cons_zero, List.getD_cons_succ, List.cons_append, List.nil_append, List.append_nil, List.length_cons, List.length_nil, decide_eq_true_eq, decide_eq_false_iff_not, Bool.not_eq_true', Bool.not_eq_false', Bool.and_eq_true, Bool.and_eq_false_iff, Bool.true_eq_false, Bool.false_eq_true, Bool.not_true, Bool.not_false, eq_self, hk, e1, e2, x1, x2]; omega) (To.no (by simp only [X.den, X.dens, X.denss, D.int_i, D.boo_b, D.str_s, D.rows_l, List.getD_cons_zero, List.getD_cons_succ, List.cons_append, List.nil_append, List.append_nil, List.length_cons, List.length_nil, decide_eq_true_eq, decide_eq_false_iff_not, Bool.not_eq_true', Bool.not_eq_false', Bool.and_eq_true, Bool.and_eq_false_iff, Bool.true_eq_false, Bool.false_eq_true, Bool.not_true, Bool.not_false, eq_self, hk, e1, e2, x1, x2]; omega) (To.call (l := _) (by simp only [X.den, X.dens, X.denss, D.int_i, D.boo_b, D.str_s, D.rows_l, List.getD_cons_zero, List.getD_cons_succ, List.cons_append, List.nil_append, List.append_nil, List.length_cons, List.length_nil, hk, e1]; exact q2) rfl ?_)))
      simp only [List.cons_append, List.nil_append]
      refine To.yes (by simp only [X.den, X.dens, X.denss, D.int_i, D.boo_b, D.str_s, D.rows_l, List.getD_cons_zero, List.getD_cons_succ, List.cons_append, List.nil_append, List.append_nil, List.length_cons, List.length_nil, decide_eq_true_eq, decide_eq_false_iff_not, Bool.not_eq_true', Bool.not_eq_false', Bool.and_eq_true, Bool.and_eq_false_iff, Bool.true_eq_false, Bool.false_eq_true, Bool.not_true, Bool.not_false, eq_self, hk, e1, x1]) (To.call (l := [.b true]) rfl rfl (To.ret ⟨rfl, To.ret ?_⟩))
      simp only [X.den, X.dens, X.denss, D.int_i, D.boo_b, D.str_s, D.rows_l, List.getD_cons_zero, List.getD_cons_succ, List.cons_append, List.nil_append, List.append_nil, List.length_cons, List.length_nil]
    · cases h
theorem WeatherBetween_walk {w : World} (v : Value) (zs : List Int) (h : IntsIn w w.heap.size v .i64 zs) (hz : ∀ z ∈ zs, (Lit.int .i64 z).wf = true) (a : Int) (ha : (Lit.int .i64 a).wf = true) : Calls Try.prog 6 #[v, .int .i64 a] w fun e w' => e = .returned (.bool true) ∧ Below w.heap.size w w' :=
  con_law WeatherBetween_ok rfl (fun G hG => args_ints h hG (args_int (by trivial))) (by simp [wBetween_K]) (ds := [numD zs, .i a]) rfl
end Go.Proofs.Ytcogndnencabhaa
