/- The sine and the cosine of the engine's trees are those of the models, at every angle. -/
import Derived.Test.YtdkamfkpmplaoaaSinF
import Derived.Test.YtdkamfkpmplaoaaAng
set_option linter.unusedVariables false
set_option linter.unusedSimpArgs false
namespace Go.Proofs.Ytdkamfkpmplaoaa
open Go.RowKit Fx
theorem ar_of {u : Int} (h0 : 0 ≤ u) (h1 : u ≤ 810000) : hdv (40000 * u) (4050000 - u) = if 2 * (40000 * u).tmod (4050000 - u) < 4050000 - u then (40000 * u).tdiv (4050000 - u) else (40000 * u).tdiv (4050000 - u) + 1 :=
  hdv_of (by have e := Int.tdiv_mul_add_tmod (40000 * u) (4050000 - u); rw [Int.mul_comm] at e; omega) (Int.tmod_nonneg _ (by omega)) (Int.tmod_lt_of_pos _ (by omega))
theorem sin_eq (a : Int) : fxSin_T.run noM 0 [.i a] = some [.i (sn a)] := by
  suffices H : fxSin_T.To noM 0 [.i a] (fun xs ρ' => X.dens ρ' xs = [.i (sn a)]) by
    obtain ⟨l, q1, q2⟩ := run_to (R := fun l => l = _) H
    rw [q1, q2]
  unfold fxSin_T
  refine To.pick1 (by simp only [X.den, X.dens, X.denss, D.int_i, D.boo_b, D.str_s, D.rows_l, List.getD_cons_zero, List.getD_cons_succ, List.cons_append, List.nil_append, List.append_nil, List.length_cons, List.length_nil]; rfl) (by simp only [X.den, X.dens, X.denss, D.int_i, D.boo_b, D.str_s, D.rows_l, List.getD_cons_zero, List.getD_cons_succ, List.cons_append, List.nil_append, List.append_nil, List.length_cons, List.length_nil]; rfl) (by simp only [X.den, X.dens, X.denss, D.int_i, D.boo_b, D.str_s, D.rows_l, List.getD_cons_zero, List.getD_cons_succ, List.cons_append, List.nil_append, List.append_nil, List.length_cons, List.length_nil]; rfl) ?_; simp only [List.cons_append, List.nil_append, norm_if]
  generalize hn : a % 3600 = n
  refine To.ite (fun c => ?_) (fun c => ?_)
  · simp only [X.den, X.dens, X.denss, D.int_i, D.boo_b, D.str_s, D.rows_l, List.getD_cons_zero, List.getD_cons_succ, List.cons_append, List.nil_append, List.append_nil, List.length_cons, List.length_nil, decide_eq_true_eq] at c
    obtain ⟨u0, u1⟩ := arch_rng (x := n - 1800) (by omega) (by omega)
    obtain ⟨p1, p2, p3, p4, p5⟩ := arch_half u0 u1
    have r0 := Int.tmod_nonneg (a := 40000 * ((n - 1800) * (1800 - (n - 1800)))) (4050000 - (n - 1800) * (1800 - (n - 1800))) (by omega)
    have hv := ar_of u0 u1
    have ha := ar_rng (p := n - 1800) (by omega) (by omega)
    refine To.join (fun l => l = [.i (ar (n - 1800)), .i 0]) (To.sub (To.no ?_ (To.ret ⟨rfl, To.no ?_ (To.need ?_ (To.sub (To.no ?_ (To.ret ⟨rfl, ?_⟩))))⟩))) ?_
    · simp only [X.den, X.dens, X.denss, D.int_i, D.boo_b, D.str_s, D.rows_l, List.getD_cons_zero, List.getD_cons_succ, List.cons_append, List.nil_append, List.append_nil, List.length_cons, List.length_nil, decide_eq_false_iff_not]; omega
    · simp only [X.den, X.dens, X.denss, D.int_i, D.boo_b, D.str_s, D.rows_l, List.getD_cons_zero, List.getD_cons_succ, List.cons_append, List.nil_append, List.append_nil, List.length_cons, List.length_nil]
    · simp only [X.den, X.dens, X.denss, D.int_i, D.boo_b, D.str_s, D.rows_l, List.getD_cons_zero, List.getD_cons_succ, List.cons_append, List.nil_append, List.append_nil, List.length_cons, List.length_nil, Bool.not_eq_true', decide_eq_false_iff_not]; omega
    · simp only [X.den, X.dens, X.denss, D.int_i, D.boo_b, D.str_s, D.rows_l, List.getD_cons_zero, List.getD_cons_succ, List.cons_append, List.nil_append, List.append_nil, List.length_cons, List.length_nil, decide_eq_false_iff_not]; exact p1
    · simp only [X.den, X.dens, X.denss, D.int_i, D.boo_b, D.str_s, D.rows_l, List.getD_cons_zero, List.getD_cons_succ, List.cons_append, List.nil_append, List.append_nil, List.length_cons, List.length_nil]
      rw [wr64 (by omega) (by omega)]
      refine To.sub (To.ite (fun c => To.ret ⟨rfl, To.ret ⟨rfl, ?_⟩⟩) fun c => To.ret ⟨rfl, To.ret ⟨rfl, ?_⟩⟩)
      · simp only [X.den, X.dens, X.denss, D.int_i, D.boo_b, D.str_s, D.rows_l, List.getD_cons_zero, List.getD_cons_succ, List.cons_append, List.nil_append, List.append_nil, List.length_cons, List.length_nil, decide_eq_true_eq] at c ⊢
        rw [wr64 (by omega) (by omega)] at c
        unfold ar
        rw [hv, if_pos c]
      · simp only [X.den, X.dens, X.denss, D.int_i, D.boo_b, D.str_s, D.rows_l, List.getD_cons_zero, List.getD_cons_succ, List.cons_append, List.nil_append, List.append_nil, List.length_cons, List.length_nil, decide_eq_false_iff_not] at c ⊢
        rw [wr64 (by omega) (by omega)] at c
        have := p5 c
        rw [wr64 (by omega) (by omega)]
        unfold ar
        rw [hv, if_neg c]
    rintro l rfl
    refine To.ret ?_
    simp only [X.den, X.dens, X.denss, D.int_i, D.boo_b, D.str_s, D.rows_l, List.getD_cons_zero, List.getD_cons_succ, List.cons_append, List.nil_append, List.append_nil, List.length_cons, List.length_nil]
    rw [wr64 (by omega) (by omega)]
    unfold sn nm
    rw [hn, if_pos c]
  · simp only [X.den, X.dens, X.denss, D.int_i, D.boo_b, D.str_s, D.rows_l, List.getD_cons_zero, List.getD_cons_succ, List.cons_append, List.nil_append, List.append_nil, List.length_cons, List.length_nil, decide_eq_false_iff_not] at c
    obtain ⟨u0, u1⟩ := arch_rng (x := n) (by omega) (by omega)
    obtain ⟨p1, p2, p3, p4, p5⟩ := arch_half u0 u1
    have r0 := Int.tmod_nonneg (a := 40000 * ((n) * (1800 - (n)))) (4050000 - (n) * (1800 - (n))) (by omega)
    have hv := ar_of u0 u1
    have ha := ar_rng (p := n) (by omega) (by omega)
    refine To.join (fun l => l = [.i (ar (n)), .i 0]) (To.sub (To.no ?_ (To.ret ⟨rfl, To.no ?_ (To.need ?_ (To.sub (To.no ?_ (To.ret ⟨rfl, ?_⟩))))⟩))) ?_
    · simp only [X.den, X.dens, X.denss, D.int_i, D.boo_b, D.str_s, D.rows_l, List.getD_cons_zero, List.getD_cons_succ, List.cons_append, List.nil_append, List.append_nil, List.length_cons, List.length_nil, decide_eq_false_iff_not]; omega
    · simp only [X.den, X.dens, X.denss, D.int_i, D.boo_b, D.str_s, D.rows_l, List.getD_cons_zero, List.getD_cons_succ, List.cons_append, List.nil_append, List.append_nil, List.length_cons, List.length_nil]
    · simp only [X.den, X.dens, X.denss, D.int_i, D.boo_b, D.str_s, D.rows_l, List.getD_cons_zero, List.getD_cons_succ, List.cons_append, List.nil_append, List.append_nil, List.length_cons, List.length_nil, Bool.not_eq_true', decide_eq_false_iff_not]; omega
    · simp only [X.den, X.dens, X.denss, D.int_i, D.boo_b, D.str_s, D.rows_l, List.getD_cons_zero, List.getD_cons_succ, List.cons_append, List.nil_append, List.append_nil, List.length_cons, List.length_nil, decide_eq_false_iff_not]; exact p1
    · simp only [X.den, X.dens, X.denss, D.int_i, D.boo_b, D.str_s, D.rows_l, List.getD_cons_zero, List.getD_cons_succ, List.cons_append, List.nil_append, List.append_nil, List.length_cons, List.length_nil]
      rw [wr64 (by omega) (by omega)]
      refine To.sub (To.ite (fun c => To.ret ⟨rfl, To.ret ⟨rfl, ?_⟩⟩) fun c => To.ret ⟨rfl, To.ret ⟨rfl, ?_⟩⟩)
      · simp only [X.den, X.dens, X.denss, D.int_i, D.boo_b, D.str_s, D.rows_l, List.getD_cons_zero, List.getD_cons_succ, List.cons_append, List.nil_append, List.append_nil, List.length_cons, List.length_nil, decide_eq_true_eq] at c ⊢
        rw [wr64 (by omega) (by omega)] at c
        unfold ar
        rw [hv, if_pos c]
      · simp only [X.den, X.dens, X.denss, D.int_i, D.boo_b, D.str_s, D.rows_l, List.getD_cons_zero, List.getD_cons_succ, List.cons_append, List.nil_append, List.append_nil, List.length_cons, List.length_nil, decide_eq_false_iff_not] at c ⊢
        rw [wr64 (by omega) (by omega)] at c
        have := p5 c
        rw [wr64 (by omega) (by omega)]
        unfold ar
        rw [hv, if_neg c]
    rintro l rfl
    refine To.ret ?_
    simp only [X.den, X.dens, X.denss, D.int_i, D.boo_b, D.str_s, D.rows_l, List.getD_cons_zero, List.getD_cons_succ, List.cons_append, List.nil_append, List.append_nil, List.length_cons, List.length_nil]
    unfold sn nm
    rw [hn, if_neg c]
theorem cos_eq (a : Int) : fxCos_T.run noM 0 [.i a] = some [.i (cs a)] := by
  suffices H : fxCos_T.To noM 0 [.i a] (fun xs ρ' => X.dens ρ' xs = [.i (cs a)]) by
    obtain ⟨l, q1, q2⟩ := run_to (R := fun l => l = _) H
    rw [q1, q2]
  unfold fxCos_T
  refine To.pick1 (by simp only [X.den, X.dens, X.denss, D.int_i, D.boo_b, D.str_s, D.rows_l, List.getD_cons_zero, List.getD_cons_succ, List.cons_append, List.nil_append, List.append_nil, List.length_cons, List.length_nil]; rfl) (by simp only [X.den, X.dens, X.denss, D.int_i, D.boo_b, D.str_s, D.rows_l, List.getD_cons_zero, List.getD_cons_succ, List.cons_append, List.nil_append, List.append_nil, List.length_cons, List.length_nil]; rfl) (by simp only [X.den, X.dens, X.denss, D.int_i, D.boo_b, D.str_s, D.rows_l, List.getD_cons_zero, List.getD_cons_succ, List.cons_append, List.nil_append, List.append_nil, List.length_cons, List.length_nil]; rfl) ?_; simp only [List.cons_append, List.nil_append, norm_if]
  refine To.join (fun l => l = [.i (cs a)]) ?_ fun l hl => ?_
  · unfold cs nm
    generalize a % 3600 = b
    refine To.pick1 (by simp only [X.den, X.dens, X.denss, D.int_i, D.boo_b, D.str_s, D.rows_l, List.getD_cons_zero, List.getD_cons_succ, List.cons_append, List.nil_append, List.append_nil, List.length_cons, List.length_nil]; rfl) (by simp only [X.den, X.dens, X.denss, D.int_i, D.boo_b, D.str_s, D.rows_l, List.getD_cons_zero, List.getD_cons_succ, List.cons_append, List.nil_append, List.append_nil, List.length_cons, List.length_nil]; rfl) (by simp only [X.den, X.dens, X.denss, D.int_i, D.boo_b, D.str_s, D.rows_l, List.getD_cons_zero, List.getD_cons_succ, List.cons_append, List.nil_append, List.append_nil, List.length_cons, List.length_nil]; rfl) ?_; simp only [List.cons_append, List.nil_append, norm_if]
    generalize hn : (b + 900) % 3600 = n
    refine To.ite (fun c => ?_) (fun c => ?_)
    · simp only [X.den, X.dens, X.denss, D.int_i, D.boo_b, D.str_s, D.rows_l, List.getD_cons_zero, List.getD_cons_succ, List.cons_append, List.nil_append, List.append_nil, List.length_cons, List.length_nil, decide_eq_true_eq] at c
      obtain ⟨u0, u1⟩ := arch_rng (x := n - 1800) (by omega) (by omega)
      obtain ⟨p1, p2, p3, p4, p5⟩ := arch_half u0 u1
      have r0 := Int.tmod_nonneg (a := 40000 * ((n - 1800) * (1800 - (n - 1800)))) (4050000 - (n - 1800) * (1800 - (n - 1800))) (by omega)
      have hv := ar_of u0 u1
      have ha := ar_rng (p := n - 1800) (by omega) (by omega)
      refine To.join (fun l => l = [.i (ar (n - 1800)), .i 0]) (To.sub (To.no ?_ (To.ret ⟨rfl, To.no ?_ (To.need ?_ (To.sub (To.no ?_ (To.ret ⟨rfl, ?_⟩))))⟩))) ?_
      · simp only [X.den, X.dens, X.denss, D.int_i, D.boo_b, D.str_s, D.rows_l, List.getD_cons_zero, List.getD_cons_succ, List.cons_append, List.nil_append, List.append_nil, List.length_cons, List.length_nil, decide_eq_false_iff_not]; omega
      · simp only [X.den, X.dens, X.denss, D.int_i, D.boo_b, D.str_s, D.rows_l, List.getD_cons_zero, List.getD_cons_succ, List.cons_append, List.nil_append, List.append_nil, List.length_cons, List.length_nil]
      · simp only [X.den, X.dens, X.denss, D.int_i, D.boo_b, D.str_s, D.rows_l, List.getD_cons_zero, List.getD_cons_succ, List.cons_append, List.nil_append, List.append_nil, List.length_cons, List.length_nil, Bool.not_eq_true', decide_eq_false_iff_not]; omega
      · simp only [X.den, X.dens, X.denss, D.int_i, D.boo_b, D.str_s, D.rows_l, List.getD_cons_zero, List.getD_cons_succ, List.cons_append, List.nil_append, List.append_nil, List.length_cons, List.length_nil, decide_eq_false_iff_not]; exact p1
      · simp only [X.den, X.dens, X.denss, D.int_i, D.boo_b, D.str_s, D.rows_l, List.getD_cons_zero, List.getD_cons_succ, List.cons_append, List.nil_append, List.append_nil, List.length_cons, List.length_nil]
        rw [wr64 (by omega) (by omega)]
        refine To.sub (To.ite (fun c => To.ret ⟨rfl, To.ret ⟨rfl, ?_⟩⟩) fun c => To.ret ⟨rfl, To.ret ⟨rfl, ?_⟩⟩)
        · simp only [X.den, X.dens, X.denss, D.int_i, D.boo_b, D.str_s, D.rows_l, List.getD_cons_zero, List.getD_cons_succ, List.cons_append, List.nil_append, List.append_nil, List.length_cons, List.length_nil, decide_eq_true_eq] at c ⊢
          rw [wr64 (by omega) (by omega)] at c
          unfold ar
          rw [hv, if_pos c]
        · simp only [X.den, X.dens, X.denss, D.int_i, D.boo_b, D.str_s, D.rows_l, List.getD_cons_zero, List.getD_cons_succ, List.cons_append, List.nil_append, List.append_nil, List.length_cons, List.length_nil, decide_eq_false_iff_not] at c ⊢
          rw [wr64 (by omega) (by omega)] at c
          have := p5 c
          rw [wr64 (by omega) (by omega)]
          unfold ar
          rw [hv, if_neg c]
      rintro l rfl
      refine To.ret ⟨rfl, ?_⟩
      simp only [X.den, X.dens, X.denss, D.int_i, D.boo_b, D.str_s, D.rows_l, List.getD_cons_zero, List.getD_cons_succ, List.cons_append, List.nil_append, List.append_nil, List.length_cons, List.length_nil]
      rw [wr64 (by omega) (by omega)]
      unfold sn nm
      rw [hn, if_pos c]
    · simp only [X.den, X.dens, X.denss, D.int_i, D.boo_b, D.str_s, D.rows_l, List.getD_cons_zero, List.getD_cons_succ, List.cons_append, List.nil_append, List.append_nil, List.length_cons, List.length_nil, decide_eq_false_iff_not] at c
      obtain ⟨u0, u1⟩ := arch_rng (x := n) (by omega) (by omega)
      obtain ⟨p1, p2, p3, p4, p5⟩ := arch_half u0 u1
      have r0 := Int.tmod_nonneg (a := 40000 * ((n) * (1800 - (n)))) (4050000 - (n) * (1800 - (n))) (by omega)
      have hv := ar_of u0 u1
      have ha := ar_rng (p := n) (by omega) (by omega)
      refine To.join (fun l => l = [.i (ar (n)), .i 0]) (To.sub (To.no ?_ (To.ret ⟨rfl, To.no ?_ (To.need ?_ (To.sub (To.no ?_ (To.ret ⟨rfl, ?_⟩))))⟩))) ?_
      · simp only [X.den, X.dens, X.denss, D.int_i, D.boo_b, D.str_s, D.rows_l, List.getD_cons_zero, List.getD_cons_succ, List.cons_append, List.nil_append, List.append_nil, List.length_cons, List.length_nil, decide_eq_false_iff_not]; omega
      · simp only [X.den, X.dens, X.denss, D.int_i, D.boo_b, D.str_s, D.rows_l, List.getD_cons_zero, List.getD_cons_succ, List.cons_append, List.nil_append, List.append_nil, List.length_cons, List.length_nil]
      · simp only [X.den, X.dens, X.denss, D.int_i, D.boo_b, D.str_s, D.rows_l, List.getD_cons_zero, List.getD_cons_succ, List.cons_append, List.nil_append, List.append_nil, List.length_cons, List.length_nil, Bool.not_eq_true', decide_eq_false_iff_not]; omega
      · simp only [X.den, X.dens, X.denss, D.int_i, D.boo_b, D.str_s, D.rows_l, List.getD_cons_zero, List.getD_cons_succ, List.cons_append, List.nil_append, List.append_nil, List.length_cons, List.length_nil, decide_eq_false_iff_not]; exact p1
      · simp only [X.den, X.dens, X.denss, D.int_i, D.boo_b, D.str_s, D.rows_l, List.getD_cons_zero, List.getD_cons_succ, List.cons_append, List.nil_append, List.append_nil, List.length_cons, List.length_nil]
        rw [wr64 (by omega) (by omega)]
        refine To.sub (To.ite (fun c => To.ret ⟨rfl, To.ret ⟨rfl, ?_⟩⟩) fun c => To.ret ⟨rfl, To.ret ⟨rfl, ?_⟩⟩)
        · simp only [X.den, X.dens, X.denss, D.int_i, D.boo_b, D.str_s, D.rows_l, List.getD_cons_zero, List.getD_cons_succ, List.cons_append, List.nil_append, List.append_nil, List.length_cons, List.length_nil, decide_eq_true_eq] at c ⊢
          rw [wr64 (by omega) (by omega)] at c
          unfold ar
          rw [hv, if_pos c]
        · simp only [X.den, X.dens, X.denss, D.int_i, D.boo_b, D.str_s, D.rows_l, List.getD_cons_zero, List.getD_cons_succ, List.cons_append, List.nil_append, List.append_nil, List.length_cons, List.length_nil, decide_eq_false_iff_not] at c ⊢
          rw [wr64 (by omega) (by omega)] at c
          have := p5 c
          rw [wr64 (by omega) (by omega)]
          unfold ar
          rw [hv, if_neg c]
      rintro l rfl
      refine To.ret ⟨rfl, ?_⟩
      simp only [X.den, X.dens, X.denss, D.int_i, D.boo_b, D.str_s, D.rows_l, List.getD_cons_zero, List.getD_cons_succ, List.cons_append, List.nil_append, List.append_nil, List.length_cons, List.length_nil]
      unfold sn nm
      rw [hn, if_neg c]
  subst hl
  refine To.ret ?_
  simp only [X.den, X.dens, X.denss, D.int_i, D.boo_b, D.str_s, D.rows_l, List.getD_cons_zero, List.getD_cons_succ, List.cons_append, List.nil_append, List.append_nil, List.length_cons, List.length_nil]
end Go.Proofs.Ytdkamfkpmplaoaa
