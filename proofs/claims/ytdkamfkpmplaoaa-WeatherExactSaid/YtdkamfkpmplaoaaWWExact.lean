/- WeatherExact: all functions for any hulls, curves, flows and headings: the program's give what the reference's give. -/
import Derived.Test.YtdkamfkpmplaoaaWxS
set_option linter.unusedVariables false
set_option linter.unusedSimpArgs false
set_option maxRecDepth 100000
namespace Go.Proofs.Ytdkamfkpmplaoaa
open Go.RowKit Fx
theorem srcAng_ok : ConOk Try.prog srcAng_K (srcAng_T.run srcM 0) := con_run follows (one_con (srcN_ok.to _) no_cons) srcAng_t rfl 0
theorem srcAng_to {rows : List (List D)} {at_ : Int} (h : SrcOk rows at_) : ∃ l, srcAng_T.run srcM 0 [.l rows, .i at_] = some l ∧ ∃ (a at' : Int), l = [.i a, .l rows, .i at'] ∧ SrcOk rows at' := by
  refine run_to ?_
  unfold srcAng_T
  refine To.viaK (by (try simp (disch := omega) only [X.den, X.dens, X.denss, D.int_i, D.boo_b, D.str_s, D.rows_l, List.getD_cons_zero, List.getD_cons_succ, List.cons_append, List.nil_append, List.append_nil, List.length_cons, List.length_nil, decide_eq_true_eq, decide_eq_false_iff_not, Bool.not_eq_true', Bool.not_eq_false', Bool.and_eq_true, Bool.and_eq_false_iff, Bool.true_eq_false, Bool.false_eq_true, Bool.not_true, Bool.not_false, eq_self, D.len_l, wr64, not_true_eq_false, not_false_eq_true]); exact srcN_to h (by omega) (by omega)) ?_
  rintro _ ρ2 ⟨r, t0, rfl, a0, b0, h0⟩ eρ
  refine ⟨rfl, ?_⟩
  simp only [List.cons_append, List.nil_append] at eρ
  subst eρ
  refine To.need (by simp only [X.den, X.dens, X.denss, D.int_i, D.boo_b, D.str_s, D.rows_l, List.getD_cons_zero, List.getD_cons_succ, List.cons_append, List.nil_append, List.append_nil, List.length_cons, List.length_nil, decide_eq_true_eq, decide_eq_false_iff_not, Bool.not_eq_true', Bool.not_eq_false', Bool.and_eq_true, Bool.and_eq_false_iff, Bool.true_eq_false, Bool.false_eq_true, Bool.not_true, Bool.not_false, eq_self]; omega) (To.ret ?_)
  obtain ⟨m, hm, em⟩ := pick_cell (zs := [0, 1, 299, 300, 450, 900, 1800, 2701, 3599]) a0 b0
  have em : (D.l [[.i 0], [.i 1], [.i 299], [.i 300], [.i 450], [.i 900], [.i 1800], [.i 2701], [.i 3599]]).cell r 0 = .i m := em
  simp only [X.den, X.dens, X.denss, D.int_i, D.boo_b, D.str_s, D.rows_l, List.getD_cons_zero, List.getD_cons_succ, List.cons_append, List.nil_append, List.append_nil, List.length_cons, List.length_nil, em]
  exact ⟨_, _, rfl, h0⟩
theorem srcBent22_ok : ConOk Try.prog srcBent22_K (srcBent22_T.run srcM 20) := con_run follows (one_con (srcN_ok.to _) no_cons) srcBent22_t rfl 20
set_option maxHeartbeats 2000000 in
theorem srcBent22_to {rows : List (List D)} {at_ : Int} (h : SrcOk rows at_) {g0 g1 g2 g3 g4 g5 g6 g7 g8 g9 g10 g11 g12 : D} : ∃ l, srcBent22_T.run srcM 20 [.l rows, .i at_, g0, g1, g2, g3, g4, g5, g6, g7, g8, g9, g10, g11, g12] = some l ∧ ∃ h0 h1 h2 h3 h4 h5 h6 h7 h8 h9 h10 h11 h12 at', l = [h0, h1, h2, h3, h4, h5, h6, h7, h8, h9, h10, h11, h12, .l rows, .i at'] ∧ SrcOk rows at' := by
  refine run_to ?_
  unfold srcBent22_T
  refine To.joinK (fun l => ∃ (t : Int) (a b c d e f : D), l = [.l rows, .i t, a, b, c, d, e, f] ∧ SrcOk rows t) ?_ ?_
  · refine To.viaK (by (try simp (disch := omega) only [X.den, X.dens, X.denss, D.int_i, D.boo_b, D.str_s, D.rows_l, List.getD_cons_zero, List.getD_cons_succ, List.cons_append, List.nil_append, List.append_nil, List.length_cons, List.length_nil, decide_eq_true_eq, decide_eq_false_iff_not, Bool.not_eq_true', Bool.not_eq_false', Bool.and_eq_true, Bool.and_eq_false_iff, Bool.true_eq_false, Bool.false_eq_true, Bool.not_true, Bool.not_false, eq_self, D.len_l, wr64, not_true_eq_false, not_false_eq_true]); exact srcN_to h (by omega) (by omega)) ?_
    rintro _ ρ2 ⟨r, t0, rfl, a0, b0, h0⟩ eρ
    refine ⟨rfl, ?_⟩
    simp only [List.cons_append, List.nil_append] at eρ
    subst eρ
    refine To.ite (fun c => ?_) (fun c => ?_)
    · refine To.loopK (fun m l => ∃ (t k : Int) (d : D), l = [d, .l rows, .i t, .i k] ∧ SrcOk rows t ∧ d.rows.length = 12 ∧ 0 ≤ k ∧ (m : Int) + k = 12) (fun l => ∃ (t : Int) (d : D), l = [d, .l rows, .i t] ∧ SrcOk rows t ∧ d.rows.length = 12) 12 (by decide) ?_ ?_ ?_
      · exact ⟨t0, 0, _, by simp only [X.den, X.dens, X.denss, D.int_i, D.boo_b, D.str_s, D.rows_l, List.getD_cons_zero, List.getD_cons_succ, List.cons_append, List.nil_append, List.append_nil, List.length_cons, List.length_nil]; rfl, h0, rfl, by omega, by omega⟩
      · rintro m l ρ2 ⟨a, k, d, rfl, hs, hf, k0, hk⟩ eρ
        simp only [List.cons_append, List.nil_append] at eρ
        subst eρ
        refine To.ite (fun c => ?_) (fun c => ?_) <;> simp only [X.den, X.dens, X.denss, D.int_i, D.boo_b, D.str_s, D.rows_l, List.getD_cons_zero, List.getD_cons_succ, List.cons_append, List.nil_append, List.append_nil, List.length_cons, List.length_nil, decide_eq_true_eq, decide_eq_false_iff_not, Bool.not_eq_true', Bool.not_eq_false', Bool.and_eq_true, Bool.and_eq_false_iff, Bool.true_eq_false, Bool.false_eq_true, Bool.not_true, Bool.not_false, eq_self] at c
        · refine To.viaK (by (try simp (disch := omega) only [X.den, X.dens, X.denss, D.int_i, D.boo_b, D.str_s, D.rows_l, List.getD_cons_zero, List.getD_cons_succ, List.cons_append, List.nil_append, List.append_nil, List.length_cons, List.length_nil, decide_eq_true_eq, decide_eq_false_iff_not, Bool.not_eq_true', Bool.not_eq_false', Bool.and_eq_true, Bool.and_eq_false_iff, Bool.true_eq_false, Bool.false_eq_true, Bool.not_true, Bool.not_false, eq_self, D.len_l, wr64, not_true_eq_false, not_false_eq_true]); exact srcN_to hs (by omega) (by omega)) ?_
          rintro _ ρ2 ⟨r2, t2, rfl, a2, b2, h2⟩ eρ
          refine ⟨rfl, ?_⟩
          simp only [List.cons_append, List.nil_append] at eρ
          subst eρ
          refine To.need (by simp only [X.den, X.dens, X.denss, D.int_i, D.boo_b, D.str_s, D.rows_l, List.getD_cons_zero, List.getD_cons_succ, List.cons_append, List.nil_append, List.append_nil, List.length_cons, List.length_nil, decide_eq_true_eq, decide_eq_false_iff_not, Bool.not_eq_true', Bool.not_eq_false', Bool.and_eq_true, Bool.and_eq_false_iff, Bool.true_eq_false, Bool.false_eq_true, Bool.not_true, Bool.not_false, eq_self]; omega) ?_
          refine To.need (by simp only [X.den, X.dens, X.denss, D.int_i, D.boo_b, D.str_s, D.rows_l, List.getD_cons_zero, List.getD_cons_succ, List.cons_append, List.nil_append, List.append_nil, List.length_cons, List.length_nil, decide_eq_true_eq, decide_eq_false_iff_not, Bool.not_eq_true', Bool.not_eq_false', Bool.and_eq_true, Bool.and_eq_false_iff, Bool.true_eq_false, Bool.false_eq_true, Bool.not_true, Bool.not_false, eq_self, D.len]; omega) ?_
          exact To.ret (.inl ⟨rfl, m - 1, by omega, t2, k + 1, _, by simp only [X.den, X.dens, X.denss, D.int_i, D.boo_b, D.str_s, D.rows_l, List.getD_cons_zero, List.getD_cons_succ, List.cons_append, List.nil_append, List.append_nil, List.length_cons, List.length_nil]; rfl, h2, by rw [put_rows, List.length_set]; exact hf, by omega, by omega⟩)
        · exact To.ret (.inr ⟨rfl, a, d, by simp only [X.den, X.dens, X.denss, D.int_i, D.boo_b, D.str_s, D.rows_l, List.getD_cons_zero, List.getD_cons_succ, List.cons_append, List.nil_append, List.append_nil, List.length_cons, List.length_nil], hs, hf⟩)
      rintro l ρ2 ⟨t1, d, rfl, h1, hl⟩ eρ
      simp only [List.cons_append, List.nil_append] at eρ
      subst eρ
      refine ⟨rfl, To.need (by simp only [X.den, X.dens, X.denss, D.int_i, D.boo_b, D.str_s, D.rows_l, List.getD_cons_zero, List.getD_cons_succ, List.cons_append, List.nil_append, List.append_nil, List.length_cons, List.length_nil, decide_eq_true_eq, decide_eq_false_iff_not, Bool.not_eq_true', Bool.not_eq_false', Bool.and_eq_true, Bool.and_eq_false_iff, Bool.true_eq_false, Bool.false_eq_true, Bool.not_true, Bool.not_false, eq_self, D.len]; omega) ?_⟩
      refine To.ret ⟨rfl, ?_⟩
      simp only [X.den, X.dens, X.denss, D.int_i, D.boo_b, D.str_s, D.rows_l, List.getD_cons_zero, List.getD_cons_succ, List.cons_append, List.nil_append, List.append_nil, List.length_cons, List.length_nil]
      exact ⟨t1, _, _, _, _, _, _, rfl, h1⟩
    refine To.ite (fun c => ?_) (fun c => ?_)
    · refine To.loopK (fun m l => ∃ (t k : Int) (d : D), l = [d, .l rows, .i t, .i k] ∧ SrcOk rows t ∧ d.rows.length = 12 ∧ 0 ≤ k ∧ (m : Int) + k = 12) (fun l => ∃ (t : Int) (d : D), l = [d, .l rows, .i t] ∧ SrcOk rows t ∧ d.rows.length = 12) 12 (by decide) ?_ ?_ ?_
      · exact ⟨t0, 0, _, by simp only [X.den, X.dens, X.denss, D.int_i, D.boo_b, D.str_s, D.rows_l, List.getD_cons_zero, List.getD_cons_succ, List.cons_append, List.nil_append, List.append_nil, List.length_cons, List.length_nil]; rfl, h0, rfl, by omega, by omega⟩
      · rintro m l ρ2 ⟨a, k, d, rfl, hs, hf, k0, hk⟩ eρ
        simp only [List.cons_append, List.nil_append] at eρ
        subst eρ
        refine To.ite (fun c => ?_) (fun c => ?_) <;> simp only [X.den, X.dens, X.denss, D.int_i, D.boo_b, D.str_s, D.rows_l, List.getD_cons_zero, List.getD_cons_succ, List.cons_append, List.nil_append, List.append_nil, List.length_cons, List.length_nil, decide_eq_true_eq, decide_eq_false_iff_not, Bool.not_eq_true', Bool.not_eq_false', Bool.and_eq_true, Bool.and_eq_false_iff, Bool.true_eq_false, Bool.false_eq_true, Bool.not_true, Bool.not_false, eq_self] at c
        · refine To.viaK (by (try simp (disch := omega) only [X.den, X.dens, X.denss, D.int_i, D.boo_b, D.str_s, D.rows_l, List.getD_cons_zero, List.getD_cons_succ, List.cons_append, List.nil_append, List.append_nil, List.length_cons, List.length_nil, decide_eq_true_eq, decide_eq_false_iff_not, Bool.not_eq_true', Bool.not_eq_false', Bool.and_eq_true, Bool.and_eq_false_iff, Bool.true_eq_false, Bool.false_eq_true, Bool.not_true, Bool.not_false, eq_self, D.len_l, wr64, not_true_eq_false, not_false_eq_true]); exact srcN_to hs (by omega) (by omega)) ?_
          rintro _ ρ2 ⟨r2, t2, rfl, a2, b2, h2⟩ eρ
          refine ⟨rfl, ?_⟩
          simp only [List.cons_append, List.nil_append] at eρ
          subst eρ
          refine To.need (by simp only [X.den, X.dens, X.denss, D.int_i, D.boo_b, D.str_s, D.rows_l, List.getD_cons_zero, List.getD_cons_succ, List.cons_append, List.nil_append, List.append_nil, List.length_cons, List.length_nil, decide_eq_true_eq, decide_eq_false_iff_not, Bool.not_eq_true', Bool.not_eq_false', Bool.and_eq_true, Bool.and_eq_false_iff, Bool.true_eq_false, Bool.false_eq_true, Bool.not_true, Bool.not_false, eq_self]; omega) ?_
          refine To.need (by simp only [X.den, X.dens, X.denss, D.int_i, D.boo_b, D.str_s, D.rows_l, List.getD_cons_zero, List.getD_cons_succ, List.cons_append, List.nil_append, List.append_nil, List.length_cons, List.length_nil, decide_eq_true_eq, decide_eq_false_iff_not, Bool.not_eq_true', Bool.not_eq_false', Bool.and_eq_true, Bool.and_eq_false_iff, Bool.true_eq_false, Bool.false_eq_true, Bool.not_true, Bool.not_false, eq_self, D.len]; omega) ?_
          exact To.ret (.inl ⟨rfl, m - 1, by omega, t2, k + 1, _, by simp only [X.den, X.dens, X.denss, D.int_i, D.boo_b, D.str_s, D.rows_l, List.getD_cons_zero, List.getD_cons_succ, List.cons_append, List.nil_append, List.append_nil, List.length_cons, List.length_nil]; rfl, h2, by rw [put_rows, List.length_set]; exact hf, by omega, by omega⟩)
        · exact To.ret (.inr ⟨rfl, a, d, by simp only [X.den, X.dens, X.denss, D.int_i, D.boo_b, D.str_s, D.rows_l, List.getD_cons_zero, List.getD_cons_succ, List.cons_append, List.nil_append, List.append_nil, List.length_cons, List.length_nil], hs, hf⟩)
      rintro l ρ2 ⟨t1, d, rfl, h1, hl⟩ eρ
      simp only [List.cons_append, List.nil_append] at eρ
      subst eρ
      refine ⟨rfl, To.need (by simp only [X.den, X.dens, X.denss, D.int_i, D.boo_b, D.str_s, D.rows_l, List.getD_cons_zero, List.getD_cons_succ, List.cons_append, List.nil_append, List.append_nil, List.length_cons, List.length_nil, decide_eq_true_eq, decide_eq_false_iff_not, Bool.not_eq_true', Bool.not_eq_false', Bool.and_eq_true, Bool.and_eq_false_iff, Bool.true_eq_false, Bool.false_eq_true, Bool.not_true, Bool.not_false, eq_self, D.len]; omega) ?_⟩
      refine To.viaK (by (try simp (disch := omega) only [X.den, X.dens, X.denss, D.int_i, D.boo_b, D.str_s, D.rows_l, List.getD_cons_zero, List.getD_cons_succ, List.cons_append, List.nil_append, List.append_nil, List.length_cons, List.length_nil, decide_eq_true_eq, decide_eq_false_iff_not, Bool.not_eq_true', Bool.not_eq_false', Bool.and_eq_true, Bool.and_eq_false_iff, Bool.true_eq_false, Bool.false_eq_true, Bool.not_true, Bool.not_false, eq_self, D.len_l, wr64, not_true_eq_false, not_false_eq_true]); exact srcN_to h1 (by omega) (by omega)) ?_
      rintro _ ρ2 ⟨r2, t2, rfl, a2, b2, h2⟩ eρ
      refine ⟨rfl, ?_⟩
      simp only [List.cons_append, List.nil_append] at eρ
      subst eρ
      refine To.need (by simp only [X.den, X.dens, X.denss, D.int_i, D.boo_b, D.str_s, D.rows_l, List.getD_cons_zero, List.getD_cons_succ, List.cons_append, List.nil_append, List.append_nil, List.length_cons, List.length_nil, decide_eq_true_eq, decide_eq_false_iff_not, Bool.not_eq_true', Bool.not_eq_false', Bool.and_eq_true, Bool.and_eq_false_iff, Bool.true_eq_false, Bool.false_eq_true, Bool.not_true, Bool.not_false, eq_self]; omega) ?_
      refine To.need (by simp only [X.den, X.dens, X.denss, D.int_i, D.boo_b, D.str_s, D.rows_l, List.getD_cons_zero, List.getD_cons_succ, List.cons_append, List.nil_append, List.append_nil, List.length_cons, List.length_nil, decide_eq_true_eq, decide_eq_false_iff_not, Bool.not_eq_true', Bool.not_eq_false', Bool.and_eq_true, Bool.and_eq_false_iff, Bool.true_eq_false, Bool.false_eq_true, Bool.not_true, Bool.not_false, eq_self, D.len_l, List.length_take]; omega) ?_
      refine To.ret ⟨rfl, ?_⟩
      simp only [X.den, X.dens, X.denss, D.int_i, D.boo_b, D.str_s, D.rows_l, List.getD_cons_zero, List.getD_cons_succ, List.cons_append, List.nil_append, List.append_nil, List.length_cons, List.length_nil]
      exact ⟨t2, _, _, _, _, _, _, rfl, h2⟩
    refine To.ite (fun c => ?_) (fun c => ?_)
    · refine To.viaK (by (try simp (disch := omega) only [X.den, X.dens, X.denss, D.int_i, D.boo_b, D.str_s, D.rows_l, List.getD_cons_zero, List.getD_cons_succ, List.cons_append, List.nil_append, List.append_nil, List.length_cons, List.length_nil, decide_eq_true_eq, decide_eq_false_iff_not, Bool.not_eq_true', Bool.not_eq_false', Bool.and_eq_true, Bool.and_eq_false_iff, Bool.true_eq_false, Bool.false_eq_true, Bool.not_true, Bool.not_false, eq_self, D.len_l, wr64, not_true_eq_false, not_false_eq_true]); exact srcN_to h0 (by omega) (by omega)) ?_
      rintro _ ρ2 ⟨r2, t2, rfl, a2, b2, h2⟩ eρ
      refine ⟨rfl, ?_⟩
      simp only [List.cons_append, List.nil_append] at eρ
      subst eρ
      refine To.need (by simp only [X.den, X.dens, X.denss, D.int_i, D.boo_b, D.str_s, D.rows_l, List.getD_cons_zero, List.getD_cons_succ, List.cons_append, List.nil_append, List.append_nil, List.length_cons, List.length_nil, decide_eq_true_eq, decide_eq_false_iff_not, Bool.not_eq_true', Bool.not_eq_false', Bool.and_eq_true, Bool.and_eq_false_iff, Bool.true_eq_false, Bool.false_eq_true, Bool.not_true, Bool.not_false, eq_self]; omega) (To.ret ⟨rfl, ?_⟩)
      simp only [X.den, X.dens, X.denss, D.int_i, D.boo_b, D.str_s, D.rows_l, List.getD_cons_zero, List.getD_cons_succ, List.cons_append, List.nil_append, List.append_nil, List.length_cons, List.length_nil]
      exact ⟨t2, _, _, _, _, _, _, rfl, h2⟩
    refine To.ite (fun c => ?_) (fun c => ?_)
    · refine To.viaK (by (try simp (disch := omega) only [X.den, X.dens, X.denss, D.int_i, D.boo_b, D.str_s, D.rows_l, List.getD_cons_zero, List.getD_cons_succ, List.cons_append, List.nil_append, List.append_nil, List.length_cons, List.length_nil, decide_eq_true_eq, decide_eq_false_iff_not, Bool.not_eq_true', Bool.not_eq_false', Bool.and_eq_true, Bool.and_eq_false_iff, Bool.true_eq_false, Bool.false_eq_true, Bool.not_true, Bool.not_false, eq_self, D.len_l, wr64, not_true_eq_false, not_false_eq_true]); exact srcN_to h0 (by omega) (by omega)) ?_
      rintro _ ρ2 ⟨r2, t2, rfl, a2, b2, h2⟩ eρ
      refine ⟨rfl, ?_⟩
      simp only [List.cons_append, List.nil_append] at eρ
      subst eρ
      refine To.need (by simp only [X.den, X.dens, X.denss, D.int_i, D.boo_b, D.str_s, D.rows_l, List.getD_cons_zero, List.getD_cons_succ, List.cons_append, List.nil_append, List.append_nil, List.length_cons, List.length_nil, decide_eq_true_eq, decide_eq_false_iff_not, Bool.not_eq_true', Bool.not_eq_false', Bool.and_eq_true, Bool.and_eq_false_iff, Bool.true_eq_false, Bool.false_eq_true, Bool.not_true, Bool.not_false, eq_self]; omega) (To.ret ⟨rfl, ?_⟩)
      simp only [X.den, X.dens, X.denss, D.int_i, D.boo_b, D.str_s, D.rows_l, List.getD_cons_zero, List.getD_cons_succ, List.cons_append, List.nil_append, List.append_nil, List.length_cons, List.length_nil]
      exact ⟨t2, _, _, _, _, _, _, rfl, h2⟩
    · refine To.viaK (by (try simp (disch := omega) only [X.den, X.dens, X.denss, D.int_i, D.boo_b, D.str_s, D.rows_l, List.getD_cons_zero, List.getD_cons_succ, List.cons_append, List.nil_append, List.append_nil, List.length_cons, List.length_nil, decide_eq_true_eq, decide_eq_false_iff_not, Bool.not_eq_true', Bool.not_eq_false', Bool.and_eq_true, Bool.and_eq_false_iff, Bool.true_eq_false, Bool.false_eq_true, Bool.not_true, Bool.not_false, eq_self, D.len_l, wr64, not_true_eq_false, not_false_eq_true]); exact srcN_to h0 (by omega) (by omega)) ?_
      rintro _ ρ2 ⟨r2, t2, rfl, a2, b2, h2⟩ eρ
      refine ⟨rfl, ?_⟩
      simp only [List.cons_append, List.nil_append] at eρ
      subst eρ
      refine To.need (by simp only [X.den, X.dens, X.denss, D.int_i, D.boo_b, D.str_s, D.rows_l, List.getD_cons_zero, List.getD_cons_succ, List.cons_append, List.nil_append, List.append_nil, List.length_cons, List.length_nil, decide_eq_true_eq, decide_eq_false_iff_not, Bool.not_eq_true', Bool.not_eq_false', Bool.and_eq_true, Bool.and_eq_false_iff, Bool.true_eq_false, Bool.false_eq_true, Bool.not_true, Bool.not_false, eq_self]; omega) ?_
      refine To.viaK (by (try simp (disch := omega) only [X.den, X.dens, X.denss, D.int_i, D.boo_b, D.str_s, D.rows_l, List.getD_cons_zero, List.getD_cons_succ, List.cons_append, List.nil_append, List.append_nil, List.length_cons, List.length_nil, decide_eq_true_eq, decide_eq_false_iff_not, Bool.not_eq_true', Bool.not_eq_false', Bool.and_eq_true, Bool.and_eq_false_iff, Bool.true_eq_false, Bool.false_eq_true, Bool.not_true, Bool.not_false, eq_self, D.len_l, wr64, not_true_eq_false, not_false_eq_true]); exact srcN_to h2 (by omega) (by omega)) ?_
      rintro _ ρ2 ⟨r3, t3, rfl, a3, b3, h3⟩ eρ
      refine ⟨rfl, ?_⟩
      simp only [List.cons_append, List.nil_append] at eρ
      subst eρ
      refine To.need (by simp only [X.den, X.dens, X.denss, D.int_i, D.boo_b, D.str_s, D.rows_l, List.getD_cons_zero, List.getD_cons_succ, List.cons_append, List.nil_append, List.append_nil, List.length_cons, List.length_nil, decide_eq_true_eq, decide_eq_false_iff_not, Bool.not_eq_true', Bool.not_eq_false', Bool.and_eq_true, Bool.and_eq_false_iff, Bool.true_eq_false, Bool.false_eq_true, Bool.not_true, Bool.not_false, eq_self]; omega) (To.ret ⟨rfl, ?_⟩)
      simp only [X.den, X.dens, X.denss, D.int_i, D.boo_b, D.str_s, D.rows_l, List.getD_cons_zero, List.getD_cons_succ, List.cons_append, List.nil_append, List.append_nil, List.length_cons, List.length_nil]
      exact ⟨t3, _, _, _, _, _, _, rfl, h3⟩
  rintro l ρ2 ⟨t, a, b, c, d, e, f, rfl, ht⟩ eρ
  simp only [List.cons_append, List.nil_append] at eρ
  subst eρ
  refine To.ret ?_
  simp only [X.den, X.dens, X.denss, D.int_i, D.boo_b, D.str_s, D.rows_l, List.getD_cons_zero, List.getD_cons_succ, List.cons_append, List.nil_append, List.append_nil, List.length_cons, List.length_nil]
  exact ⟨_, _, _, _, _, _, _, _, _, _, _, _, _, _, rfl, ht⟩
theorem tot_to (x0 x1 x2 x3 x4 x5 x6 x7 x8 x9 x10 x11 x12 : D) (f1 v1 f2 v2 f3 v3 a : Int) : ∃ l, wTotal_T.run ptM 0 [x0, x1, x2, x3, x4, x5, x6, x7, x8, x9, x10, x11, x12, .i f1, .i v1, .i f2, .i v2, .i f3, .i v3, .i a] = some l ∧ ∃ y1 y2 y3 y4, l = [y1, y2, y3, y4] := by
  obtain ⟨l, r1, e, rfl, _⟩ := wCheck_to x0 x1 x2 x3 x4 x5 x6 x7 x8 x9 x10 x11 x12
  refine run_to ?_
  unfold wTotal_T
  refine To.call (l := [.i e]) r1 rfl ?_
  simp only [List.cons_append, List.nil_append]
  (repeat' (first
      | (refine To.callX rfl (fun ρ2 eρ => ⟨rfl, ?_⟩); simp (disch := omega) only [X.den, X.dens, X.denss, D.int_i, D.boo_b, D.str_s, D.rows_l, List.getD_cons_zero, List.getD_cons_succ, List.cons_append, List.nil_append, List.append_nil, List.length_cons, List.length_nil, decide_eq_true_eq, decide_eq_false_iff_not, Bool.not_eq_true', Bool.not_eq_false', Bool.and_eq_true, Bool.and_eq_false_iff, Bool.true_eq_false, Bool.false_eq_true, Bool.not_true, Bool.not_false, eq_self, D.len_l, wr64, not_true_eq_false, not_false_eq_true, ia] at eρ; subst eρ)
      | (refine To.subK (fun K hK => ?_))
      | (refine To.need (by simp (disch := omega) only [X.den, X.dens, X.denss, D.int_i, D.boo_b, D.str_s, D.rows_l, List.getD_cons_zero, List.getD_cons_succ, List.cons_append, List.nil_append, List.append_nil, List.length_cons, List.length_nil, decide_eq_true_eq, decide_eq_false_iff_not, Bool.not_eq_true', Bool.not_eq_false', Bool.and_eq_true, Bool.and_eq_false_iff, Bool.true_eq_false, Bool.false_eq_true, Bool.not_true, Bool.not_false, eq_self, D.len_l, wr64, not_true_eq_false, not_false_eq_true, ia] <;> omega) ?_)
      | (refine To.ite (fun c => ?_) (fun c => ?_) <;> ((try simp (disch := omega) only [X.den, X.dens, X.denss, D.int_i, D.boo_b, D.str_s, D.rows_l, List.getD_cons_zero, List.getD_cons_succ, List.cons_append, List.nil_append, List.append_nil, List.length_cons, List.length_nil, decide_eq_true_eq, decide_eq_false_iff_not, Bool.not_eq_true', Bool.not_eq_false', Bool.and_eq_true, Bool.and_eq_false_iff, Bool.true_eq_false, Bool.false_eq_true, Bool.not_true, Bool.not_false, eq_self, D.len_l, wr64, not_true_eq_false, not_false_eq_true, ia] at c) <;> (try (exfalso; omega))))
      | (refine To.ret ⟨rfl, ?_⟩; (try simp (disch := omega) only [X.den, X.dens, X.denss, D.int_i, D.boo_b, D.str_s, D.rows_l, List.getD_cons_zero, List.getD_cons_succ, List.cons_append, List.nil_append, List.append_nil, List.length_cons, List.length_nil, decide_eq_true_eq, decide_eq_false_iff_not, Bool.not_eq_true', Bool.not_eq_false', Bool.and_eq_true, Bool.and_eq_false_iff, Bool.true_eq_false, Bool.false_eq_true, Bool.not_true, Bool.not_false, eq_self, D.len_l, wr64, not_true_eq_false, not_false_eq_true, ia]); refine hK _ _ (by simp only [List.cons_append, List.nil_append]; first | done | rfl) ?_; clear hK; clear K)))
  all_goals (refine To.ret ?_; simp only [X.den, X.dens, X.denss, D.int_i, D.boo_b, D.str_s, D.rows_l, List.getD_cons_zero, List.getD_cons_succ, List.cons_append, List.nil_append, List.append_nil, List.length_cons, List.length_nil]; exact ⟨_, _, _, _, rfl⟩)
theorem vw_to (f1 v1 f2 v2 f3 v3 : Int) : ∃ l, pwValid_T.run noM 0 [.i f1, .i v1, .i f2, .i v2, .i f3, .i v3] = some l ∧ ∃ b, l = [b] := by
  refine run_to ?_
  unfold pwValid_T
  (repeat' (first
      | (refine To.callX rfl (fun ρ2 eρ => ⟨rfl, ?_⟩); simp (disch := omega) only [X.den, X.dens, X.denss, D.int_i, D.boo_b, D.str_s, D.rows_l, List.getD_cons_zero, List.getD_cons_succ, List.cons_append, List.nil_append, List.append_nil, List.length_cons, List.length_nil, decide_eq_true_eq, decide_eq_false_iff_not, Bool.not_eq_true', Bool.not_eq_false', Bool.and_eq_true, Bool.and_eq_false_iff, Bool.true_eq_false, Bool.false_eq_true, Bool.not_true, Bool.not_false, eq_self, D.len_l, wr64, not_true_eq_false, not_false_eq_true, ia] at eρ; subst eρ)
      | (refine To.subK (fun K hK => ?_))
      | (refine To.need (by simp (disch := omega) only [X.den, X.dens, X.denss, D.int_i, D.boo_b, D.str_s, D.rows_l, List.getD_cons_zero, List.getD_cons_succ, List.cons_append, List.nil_append, List.append_nil, List.length_cons, List.length_nil, decide_eq_true_eq, decide_eq_false_iff_not, Bool.not_eq_true', Bool.not_eq_false', Bool.and_eq_true, Bool.and_eq_false_iff, Bool.true_eq_false, Bool.false_eq_true, Bool.not_true, Bool.not_false, eq_self, D.len_l, wr64, not_true_eq_false, not_false_eq_true, ia] <;> omega) ?_)
      | (refine To.ite (fun c => ?_) (fun c => ?_) <;> ((try simp (disch := omega) only [X.den, X.dens, X.denss, D.int_i, D.boo_b, D.str_s, D.rows_l, List.getD_cons_zero, List.getD_cons_succ, List.cons_append, List.nil_append, List.append_nil, List.length_cons, List.length_nil, decide_eq_true_eq, decide_eq_false_iff_not, Bool.not_eq_true', Bool.not_eq_false', Bool.and_eq_true, Bool.and_eq_false_iff, Bool.true_eq_false, Bool.false_eq_true, Bool.not_true, Bool.not_false, eq_self, D.len_l, wr64, not_true_eq_false, not_false_eq_true, ia] at c) <;> (try (exfalso; omega))))
      | (refine To.ret ⟨rfl, ?_⟩; (try simp (disch := omega) only [X.den, X.dens, X.denss, D.int_i, D.boo_b, D.str_s, D.rows_l, List.getD_cons_zero, List.getD_cons_succ, List.cons_append, List.nil_append, List.append_nil, List.length_cons, List.length_nil, decide_eq_true_eq, decide_eq_false_iff_not, Bool.not_eq_true', Bool.not_eq_false', Bool.and_eq_true, Bool.and_eq_false_iff, Bool.true_eq_false, Bool.false_eq_true, Bool.not_true, Bool.not_false, eq_self, D.len_l, wr64, not_true_eq_false, not_false_eq_true, ia]); refine hK _ _ (by simp only [List.cons_append, List.nil_append]; first | done | rfl) ?_; clear hK; clear K)))
  all_goals (refine To.ret ?_; simp only [X.den, X.dens, X.denss, D.int_i, D.boo_b, D.str_s, D.rows_l, List.getD_cons_zero, List.getD_cons_succ, List.cons_append, List.nil_append, List.append_nil, List.length_cons, List.length_nil]; exact ⟨_, rfl⟩)
noncomputable def weM : Models := Models.on srcN_K.f (srcN_T.run noM 0) (Models.on srcHull_K.f (srcHull_T.run srcHM 0) (Models.on srcBent22_K.f (srcBent22_T.run srcM 20) (Models.on srcWeather_K.f (srcWeather_T.run swM 0) (Models.on srcAng_K.f (srcAng_T.run srcM 0) (Models.on wCheck_K.f (wCheck_T.run wcM 0) (Models.on rwCheck_K.f (wCheck_T.run wcM 0) (Models.on wTotal_K.f (wTotal_T.run ptM 0) (Models.on rwTotal_K.f (wTotal_T.run ptM 0) (Models.on pwValid_K.f (pwValid_T.run noM 0) (Models.on rwValid_K.f (pwValid_T.run noM 0) (Models.on wLoad_K.f lodM (Models.on rwLoad_K.f lodM (Models.on wFactor_K.f fctM (Models.on rwFactor_K.f fctM (Models.on sane22_K.f (fun _ => some [.b true]) noM)))))))))))))))
def weR : List D → Option (List D) := fun ds => match ds with
  | [.l rows, d1, d2, d3, .i f, .i u, .i hd, .i an] => some [.b true]
  | _ => none
theorem src_take22 {rows : List (List D)} : SrcOk (rows.take (min (min (rows.length : Int) 9223372036854775807) 600).toNat) 0 := ⟨by omega, by omega, by rw [List.length_take]; omega⟩
set_option maxHeartbeats 4000000 in
theorem we_ok : ConOk Try.prog wExact_K weR :=
  con_of follows (M := weM) (one_con (srcN_ok.to _) (one_con (srcHull_ok.to _) (one_con (srcBent22_ok.to _) (one_con (srcWeather_ok.to _) (one_con (srcAng_ok.to _) (one_con (wCheck_ok.to _) (one_con (rwCheck_ok.to _) (one_con (pwTotal_ok.to _) (one_con (rwTotal_ok.to _) (one_con (pwValid_ok.to _) (one_con (rwValid_ok.to _) (one_con (pwLoad_ok.to _) (one_con (rwLoad_ok.to _) (one_con (pwFactor_ok.to _) (one_con (rwFactor_ok.to _) (one_con (sane22_ok.to _) no_cons)))))))))))))))) wExact_t fun ds outs hl h => by
    unfold weR at h
    split at h
    · rename_i rows d1 d2 d3 f u hd an
      injection h with h
      subst h
      refine ⟨fun i l h k => by simp [wExact_K] at k, 10, ?_⟩
      unfold wExact_T
      refine To.joinK (fun l => ∃ b, l = [.b b]) ?_ ?_
      · refine To.ite (fun c => To.ret ⟨rfl, _, rfl⟩) (fun c => To.ite (fun c => To.ret ⟨rfl, _, rfl⟩) (fun c => To.ite (fun c => To.ret ⟨rfl, _, rfl⟩) (fun c => To.ret ⟨rfl, _, rfl⟩)))
      rintro l ρ2 ⟨b, rfl⟩ eρ
      simp only [List.cons_append, List.nil_append] at eρ
      subst eρ
      cases b
      case true =>
        refine To.yes rfl (To.callK (l := [.b true]) rfl rfl _ (by simp only [List.cons_append, List.nil_append]; first | done | rfl) (To.ret ?_))
        simp only [X.den, X.dens, X.denss, D.int_i, D.boo_b, D.str_s, D.rows_l, List.getD_cons_zero, List.getD_cons_succ, List.cons_append, List.nil_append, List.append_nil, List.length_cons, List.length_nil]
      refine To.no rfl ?_
      refine To.need (by simp only [X.den, X.dens, X.denss, D.int_i, D.boo_b, D.str_s, D.rows_l, List.getD_cons_zero, List.getD_cons_succ, List.cons_append, List.nil_append, List.append_nil, List.length_cons, List.length_nil, decide_eq_true_eq, decide_eq_false_iff_not, Bool.not_eq_true', Bool.not_eq_false', Bool.and_eq_true, Bool.and_eq_false_iff, Bool.true_eq_false, Bool.false_eq_true, Bool.not_true, Bool.not_false, eq_self, D.len_l]; omega) ?_
      refine To.viaK (by (try simp (disch := omega) only [X.den, X.dens, X.denss, D.int_i, D.boo_b, D.str_s, D.rows_l, List.getD_cons_zero, List.getD_cons_succ, List.cons_append, List.nil_append, List.append_nil, List.length_cons, List.length_nil, decide_eq_true_eq, decide_eq_false_iff_not, Bool.not_eq_true', Bool.not_eq_false', Bool.and_eq_true, Bool.and_eq_false_iff, Bool.true_eq_false, Bool.false_eq_true, Bool.not_true, Bool.not_false, eq_self, D.len_l, wr64, not_true_eq_false, not_false_eq_true]); exact srcHull_to src_take22) ?_
      rintro _ ρ2 ⟨h0, h1, h2, h3, h4, h5, h6, h7, h8, h9, h10, h11, h12, t1, rfl, hu, s1⟩ eρ
      refine ⟨rfl, ?_⟩
      simp only [List.cons_append, List.nil_append] at eρ
      subst eρ
      generalize (List.take _ _ : List (List D)) = rs at s1 ⊢
      refine To.viaK (by (try simp (disch := omega) only [X.den, X.dens, X.denss, D.int_i, D.boo_b, D.str_s, D.rows_l, List.getD_cons_zero, List.getD_cons_succ, List.cons_append, List.nil_append, List.append_nil, List.length_cons, List.length_nil, decide_eq_true_eq, decide_eq_false_iff_not, Bool.not_eq_true', Bool.not_eq_false', Bool.and_eq_true, Bool.and_eq_false_iff, Bool.true_eq_false, Bool.false_eq_true, Bool.not_true, Bool.not_false, eq_self, D.len_l, wr64, not_true_eq_false, not_false_eq_true]); exact srcWeather_to s1) ?_
      rintro _ ρ2 ⟨f1, v1, f2, v2, f3, v3, t2, rfl, o1, o2, o3, s2⟩ eρ
      refine ⟨rfl, ?_⟩
      simp only [List.cons_append, List.nil_append] at eρ
      subst eρ
      refine To.viaK (by (try simp (disch := omega) only [X.den, X.dens, X.denss, D.int_i, D.boo_b, D.str_s, D.rows_l, List.getD_cons_zero, List.getD_cons_succ, List.cons_append, List.nil_append, List.append_nil, List.length_cons, List.length_nil, decide_eq_true_eq, decide_eq_false_iff_not, Bool.not_eq_true', Bool.not_eq_false', Bool.and_eq_true, Bool.and_eq_false_iff, Bool.true_eq_false, Bool.false_eq_true, Bool.not_true, Bool.not_false, eq_self, D.len_l, wr64, not_true_eq_false, not_false_eq_true]); exact srcBent22_to s2) ?_
      rintro _ ρ2 ⟨b0, b1, b2, b3, b4, b5, b6, b7, b8, b9, b10, b11, b12, t3, rfl, s3⟩ eρ
      refine ⟨rfl, ?_⟩
      simp only [List.cons_append, List.nil_append] at eρ
      subst eρ
      refine To.loopK (fun m l => ∃ t i : Int, l = [.l rs, .i t, .i i] ∧ SrcOk rs t ∧ 0 ≤ i ∧ i + m = 3) (fun l => ∃ z1 z2 z3 z4 z5 z6 z7 z8 z9 z10 z11 z12 z13 z14 z15, l = [.i 1, z1, z2, z3, z4, z5, z6, z7, z8, z9, z10, z11, z12, z13, z14, z15]) 3 (by omega) ?_ ?_ ?_
      · exact ⟨t3, 0, by simp only [X.den, X.dens, X.denss, D.int_i, D.boo_b, D.str_s, D.rows_l, List.getD_cons_zero, List.getD_cons_succ, List.cons_append, List.nil_append, List.append_nil, List.length_cons, List.length_nil], s3, by omega, by omega⟩
      · rintro m l ρ2 ⟨t, i, rfl, s4, i0, i1⟩ eρ
        simp only [List.cons_append, List.nil_append] at eρ
        subst eρ
        refine To.ite (fun c => ?_) (fun c => ?_) <;> simp only [X.den, X.dens, X.denss, D.int_i, D.boo_b, D.str_s, D.rows_l, List.getD_cons_zero, List.getD_cons_succ, List.cons_append, List.nil_append, List.append_nil, List.length_cons, List.length_nil, decide_eq_true_eq, decide_eq_false_iff_not, Bool.not_eq_true', Bool.not_eq_false', Bool.and_eq_true, Bool.and_eq_false_iff, Bool.true_eq_false, Bool.false_eq_true, Bool.not_true, Bool.not_false, eq_self] at c
        · refine To.joinK (fun l => ∃ t rest, l = .i 0 :: .l rs :: .i t :: rest ∧ SrcOk rs t) ?_ ?_
          · refine To.joinK (fun l => ∃ x0 x1 x2 x3 x4 x5 x6 x7 x8 x9 x10 x11 x12, l = [x0, x1, x2, x3, x4, x5, x6, x7, x8, x9, x10, x11, x12, x0, x1, x2, x3, x4, x5, x6, x7, x8, x9, x10, x11, x12]) ?_ ?_
            · refine To.ite (fun c => To.ret ⟨rfl, _, _, _, _, _, _, _, _, _, _, _, _, _, rfl⟩) (fun c => To.ite (fun c => To.ret ⟨rfl, _, _, _, _, _, _, _, _, _, _, _, _, _, rfl⟩) (fun c => To.ret ⟨rfl, _, _, _, _, _, _, _, _, _, _, _, _, _, rfl⟩))
            rintro l ρ2 ⟨x0, x1, x2, x3, x4, x5, x6, x7, x8, x9, x10, x11, x12, rfl⟩ eρ
            simp only [List.cons_append, List.nil_append] at eρ
            subst eρ
            obtain ⟨_, rc, e, rfl, _⟩ := wCheck_to x0 x1 x2 x3 x4 x5 x6 x7 x8 x9 x10 x11 x12
            refine To.callK (l := [.i e]) rc rfl _ (by simp only [List.cons_append, List.nil_append]; first | done | rfl) ?_
            refine To.callK (l := [.i e]) rc rfl _ (by simp only [List.cons_append, List.nil_append]; first | done | rfl) ?_
            refine To.yes (by simp only [X.den, X.dens, X.denss, D.int_i, D.boo_b, D.str_s, D.rows_l, List.getD_cons_zero, List.getD_cons_succ, List.cons_append, List.nil_append, List.append_nil, List.length_cons, List.length_nil]; simp) ?_
            refine To.viaK (by (try simp (disch := omega) only [X.den, X.dens, X.denss, D.int_i, D.boo_b, D.str_s, D.rows_l, List.getD_cons_zero, List.getD_cons_succ, List.cons_append, List.nil_append, List.append_nil, List.length_cons, List.length_nil, decide_eq_true_eq, decide_eq_false_iff_not, Bool.not_eq_true', Bool.not_eq_false', Bool.and_eq_true, Bool.and_eq_false_iff, Bool.true_eq_false, Bool.false_eq_true, Bool.not_true, Bool.not_false, eq_self, D.len_l, wr64, not_true_eq_false, not_false_eq_true]); exact srcAng_to s4) ?_
            rintro _ ρ2 ⟨a1, t4, rfl, s5⟩ eρ
            refine ⟨rfl, ?_⟩
            simp only [List.cons_append, List.nil_append] at eρ
            subst eρ
            refine To.viaK (by (try simp (disch := omega) only [X.den, X.dens, X.denss, D.int_i, D.boo_b, D.str_s, D.rows_l, List.getD_cons_zero, List.getD_cons_succ, List.cons_append, List.nil_append, List.append_nil, List.length_cons, List.length_nil, decide_eq_true_eq, decide_eq_false_iff_not, Bool.not_eq_true', Bool.not_eq_false', Bool.and_eq_true, Bool.and_eq_false_iff, Bool.true_eq_false, Bool.false_eq_true, Bool.not_true, Bool.not_false, eq_self, D.len_l, wr64, not_true_eq_false, not_false_eq_true]); exact srcN_to s5 (by omega) (by omega)) ?_
            rintro _ ρ2 ⟨a2, t5, rfl, p5, q5, s6⟩ eρ
            refine ⟨rfl, ?_⟩
            simp only [List.cons_append, List.nil_append] at eρ
            subst eρ
            refine To.loopK (fun m l => ∃ j : Int, l = [.i j] ∧ 0 ≤ j ∧ j + m = 3) (fun l => ∃ y1 y2 y3 y4 y5 y6, l = [.i 1, y1, y2, y3, y4, y5, y6]) 3 (by omega) ?_ ?_ ?_
            · exact ⟨0, by simp only [X.den, X.dens, X.denss, D.int_i, D.boo_b, D.str_s, D.rows_l, List.getD_cons_zero, List.getD_cons_succ, List.cons_append, List.nil_append, List.append_nil, List.length_cons, List.length_nil], by omega, by omega⟩
            · rintro m l ρ2 ⟨j, rfl, j0, j1⟩ eρ
              simp only [List.cons_append, List.nil_append] at eρ
              subst eρ
              refine To.ite (fun c => ?_) (fun c => ?_) <;> simp only [X.den, X.dens, X.denss, D.int_i, D.boo_b, D.str_s, D.rows_l, List.getD_cons_zero, List.getD_cons_succ, List.cons_append, List.nil_append, List.append_nil, List.length_cons, List.length_nil, decide_eq_true_eq, decide_eq_false_iff_not, Bool.not_eq_true', Bool.not_eq_false', Bool.and_eq_true, Bool.and_eq_false_iff, Bool.true_eq_false, Bool.false_eq_true, Bool.not_true, Bool.not_false, eq_self] at c
              · refine To.joinK (fun l => ∃ rest, l = .i 1 :: rest) ?_ ?_
                · refine To.joinK (fun l => ∃ q : Int, l = [.i q, .i q]) ?_ ?_
                  · refine To.ite (fun c => To.ret ⟨rfl, _, rfl⟩) (fun c => To.ite (fun c => To.ret ⟨rfl, _, rfl⟩) (fun c => To.ret ⟨rfl, _, rfl⟩))
                  rintro l ρ2 ⟨q, rfl⟩ eρ
                  simp only [List.cons_append, List.nil_append] at eρ
                  subst eρ
                  refine To.loopK (fun m l => ∃ k : Int, l = [.i k] ∧ 0 ≤ k ∧ k + m = 2) (fun l => ∃ r1 r2 r3 r4 r5 r6 r7 r8 r9 r10 r11 r12 r13 r14 r15 r16 r17 r18 r19 r20 r21 r22 r23 r24 r25 r26 r27 r28 r29 r30 r31 r32 r33 r34 r35 r36 r37 r38 r39 r40 r41 r42 r43 r44 r45 r46 r47 r48 r49 r50 r51 r52 r53, l = [.i 1, r1, r2, r3, r4, r5, r6, r7, r8, r9, r10, r11, r12, r13, r14, r15, r16, r17, r18, r19, r20, r21, r22, r23, r24, r25, r26, r27, r28, r29, r30, r31, r32, r33, r34, r35, r36, r37, r38, r39, r40, r41, r42, r43, r44, r45, r46, r47, r48, r49, r50, r51, r52, r53]) 2 (by omega) ?_ ?_ ?_
                  · exact ⟨0, by simp only [X.den, X.dens, X.denss, D.int_i, D.boo_b, D.str_s, D.rows_l, List.getD_cons_zero, List.getD_cons_succ, List.cons_append, List.nil_append, List.append_nil, List.length_cons, List.length_nil], by omega, by omega⟩
                  · rintro m l ρ2 ⟨k, rfl, k0, k1⟩ eρ
                    simp only [List.cons_append, List.nil_append] at eρ
                    subst eρ
                    refine To.ite (fun c => ?_) (fun c => ?_) <;> simp only [X.den, X.dens, X.denss, D.int_i, D.boo_b, D.str_s, D.rows_l, List.getD_cons_zero, List.getD_cons_succ, List.cons_append, List.nil_append, List.append_nil, List.length_cons, List.length_nil, decide_eq_true_eq, decide_eq_false_iff_not, Bool.not_eq_true', Bool.not_eq_false', Bool.and_eq_true, Bool.and_eq_false_iff, Bool.true_eq_false, Bool.false_eq_true, Bool.not_true, Bool.not_false, eq_self] at c
                    · refine To.joinK (fun l => ∃ v w : Int, l = [.i v, .i w, .i v, .i w]) ?_ ?_
                      · refine To.ite (fun c => To.ret ⟨rfl, _, _, rfl⟩) (fun c => To.ret ⟨rfl, _, _, rfl⟩)
                      rintro l ρ2 ⟨v, w, rfl⟩ eρ
                      simp only [List.cons_append, List.nil_append] at eρ
                      subst eρ
                      obtain ⟨_, rt, z1, z2, z3, z4, rfl⟩ := tot_to x0 x1 x2 x3 x4 x5 x6 x7 x8 x9 x10 x11 x12 f1 v1 f2 v2 v w q
                      refine To.callK (l := [z1, z2, z3, z4]) rt rfl _ (by simp only [List.cons_append, List.nil_append]; first | done | rfl) ?_
                      refine To.callK (l := [z1, z2, z3, z4]) rt rfl _ (by simp only [List.cons_append, List.nil_append]; first | done | rfl) ?_
                      refine To.joinK (fun l => ∃ z1 z2, l = [z1, z2, .b false]) ?_ ?_
                      · refine To.yes (by simp only [X.den, X.dens, X.denss, D.int_i, D.boo_b, D.str_s, D.rows_l, List.getD_cons_zero, List.getD_cons_succ, List.cons_append, List.nil_append, List.append_nil, List.length_cons, List.length_nil]; simp) (To.yes (by simp only [X.den, X.dens, X.denss, D.int_i, D.boo_b, D.str_s, D.rows_l, List.getD_cons_zero, List.getD_cons_succ, List.cons_append, List.nil_append, List.append_nil, List.length_cons, List.length_nil]; simp) ?_)
                        obtain ⟨_, rv, b, rfl⟩ := vw_to f1 v1 f2 v2 v w
                        refine To.callK (l := [b]) rv rfl _ (by simp only [List.cons_append, List.nil_append]; first | done | rfl) ?_
                        refine To.callK (l := [b]) rv rfl _ (by simp only [List.cons_append, List.nil_append]; first | done | rfl) ?_
                        refine To.ret ⟨rfl, ?_⟩
                        simp only [X.den, X.dens, X.denss, D.int_i, D.boo_b, D.str_s, D.rows_l, List.getD_cons_zero, List.getD_cons_succ, List.cons_append, List.nil_append, List.append_nil, List.length_cons, List.length_nil, decide_true, Bool.not_true, beq_self_eq_true]
                        exact ⟨_, _, rfl⟩
                      rintro l ρ2 ⟨y1, y2, rfl⟩ eρ
                      simp only [List.cons_append, List.nil_append] at eρ
                      subst eρ
                      refine To.no rfl (To.ret (.inl ⟨rfl, m - 1, by omega, k + 1, ?_, by omega, by omega⟩))
                      simp only [X.den, X.dens, X.denss, D.int_i, D.boo_b, D.str_s, D.rows_l, List.getD_cons_zero, List.getD_cons_succ, List.cons_append, List.nil_append, List.append_nil, List.length_cons, List.length_nil]
                    · exact To.ret (.inr ⟨rfl, _, _, _, _, _, _, _, _, _, _, _, _, _, _, _, _, _, _, _, _, _, _, _, _, _, _, _, _, _, _, _, _, _, _, _, _, _, _, _, _, _, _, _, _, _, _, _, _, _, _, _, _, _, rfl⟩)
                  rintro l ρ2 ⟨r1, r2, r3, r4, r5, r6, r7, r8, r9, r10, r11, r12, r13, r14, r15, r16, r17, r18, r19, r20, r21, r22, r23, r24, r25, r26, r27, r28, r29, r30, r31, r32, r33, r34, r35, r36, r37, r38, r39, r40, r41, r42, r43, r44, r45, r46, r47, r48, r49, r50, r51, r52, r53, rfl⟩ eρ
                  simp only [List.cons_append, List.nil_append] at eρ
                  subst eρ
                  refine ⟨rfl, To.no rfl ?_⟩
                  refine To.loopK (fun m l => ∃ k : Int, l = [.i k] ∧ 0 ≤ k ∧ k + m = 2) (fun l => ∃ rest, l = .i 1 :: rest ∧ rest.length = 17) 2 (by omega) ?_ ?_ ?_
                  · exact ⟨0, by simp only [X.den, X.dens, X.denss, D.int_i, D.boo_b, D.str_s, D.rows_l, List.getD_cons_zero, List.getD_cons_succ, List.cons_append, List.nil_append, List.append_nil, List.length_cons, List.length_nil], by omega, by omega⟩
                  · rintro m l ρ2 ⟨k, rfl, k0, k1⟩ eρ
                    simp only [List.cons_append, List.nil_append] at eρ
                    subst eρ
                    refine To.ite (fun c => ?_) (fun c => ?_) <;> simp only [X.den, X.dens, X.denss, D.int_i, D.boo_b, D.str_s, D.rows_l, List.getD_cons_zero, List.getD_cons_succ, List.cons_append, List.nil_append, List.append_nil, List.length_cons, List.length_nil, decide_eq_true_eq, decide_eq_false_iff_not, Bool.not_eq_true', Bool.not_eq_false', Bool.and_eq_true, Bool.and_eq_false_iff, Bool.true_eq_false, Bool.false_eq_true, Bool.not_true, Bool.not_false, eq_self] at c
                    · refine To.joinK (fun l => ∃ v w : Int, l = [.i v, .i w, .i v, .i w]) ?_ ?_
                      · refine To.ite (fun c => To.ret ⟨rfl, _, _, rfl⟩) (fun c => To.ret ⟨rfl, _, _, rfl⟩)
                      rintro l ρ2 ⟨v, w, rfl⟩ eρ
                      simp only [List.cons_append, List.nil_append] at eρ
                      subst eρ
                      refine To.callK (l := [.i (lod x0 x1 x2 x0 v w q), .i (lod x0 x1 x2 x1 v w q), .i (lod x0 x1 x2 x2 v w q)]) rfl rfl _ (by simp only [List.cons_append, List.nil_append]; first | done | rfl) ?_
                      refine To.callK (l := [.i (lod x0 x1 x2 x0 v w q), .i (lod x0 x1 x2 x1 v w q), .i (lod x0 x1 x2 x2 v w q)]) rfl rfl _ (by simp only [List.cons_append, List.nil_append]; first | done | rfl) ?_
                      refine To.yes (by simp only [X.den, X.dens, X.denss, D.int_i, D.boo_b, D.str_s, D.rows_l, List.getD_cons_zero, List.getD_cons_succ, List.cons_append, List.nil_append, List.append_nil, List.length_cons, List.length_nil]; simp) (To.ret (.inl ⟨rfl, m - 1, by omega, k + 1, ?_, by omega, by omega⟩))
                      simp only [X.den, X.dens, X.denss, D.int_i, D.boo_b, D.str_s, D.rows_l, List.getD_cons_zero, List.getD_cons_succ, List.cons_append, List.nil_append, List.append_nil, List.length_cons, List.length_nil]
                    · exact To.ret (.inr ⟨rfl, _, rfl, rfl⟩)
                  rintro l ρ2 ⟨rest, rfl, hr⟩ eρ
                  simp only [List.cons_append, List.nil_append] at eρ
                  subst eρ
                  exact ⟨by simp [hr], To.no rfl (To.ret ⟨rfl, _, rfl⟩)⟩
                rintro l ρ2 ⟨rest, rfl⟩ eρ
                simp only [List.cons_append, List.nil_append] at eρ
                subst eρ
                refine To.no rfl (To.ret (.inl ⟨rfl, m - 1, by omega, j + 1, ?_, by omega, by omega⟩))
                simp only [X.den, X.dens, X.denss, D.int_i, D.boo_b, D.str_s, D.rows_l, List.getD_cons_zero, List.getD_cons_succ, List.cons_append, List.nil_append, List.append_nil, List.length_cons, List.length_nil]
              · exact To.ret (.inr ⟨rfl, _, _, _, _, _, _, rfl⟩)
            rintro l ρ2 ⟨y1, y2, y3, y4, y5, y6, rfl⟩ eρ
            simp only [List.cons_append, List.nil_append] at eρ
            subst eρ
            refine ⟨rfl, To.no rfl ?_⟩
            refine To.viaK (by (try simp (disch := omega) only [X.den, X.dens, X.denss, D.int_i, D.boo_b, D.str_s, D.rows_l, List.getD_cons_zero, List.getD_cons_succ, List.cons_append, List.nil_append, List.append_nil, List.length_cons, List.length_nil, decide_eq_true_eq, decide_eq_false_iff_not, Bool.not_eq_true', Bool.not_eq_false', Bool.and_eq_true, Bool.and_eq_false_iff, Bool.true_eq_false, Bool.false_eq_true, Bool.not_true, Bool.not_false, eq_self, D.len_l, wr64, not_true_eq_false, not_false_eq_true]); exact srcAng_to s6) ?_
            rintro _ ρ2 ⟨a3, t6, rfl, s7⟩ eρ
            refine ⟨rfl, ?_⟩
            simp only [List.cons_append, List.nil_append] at eρ
            subst eρ
            refine To.loopK (fun m l => ∃ k : Int, l = [.i k] ∧ 0 ≤ k ∧ k + m = 3) (fun l => ∃ rest, l = .i 1 :: rest ∧ rest.length = 11) 3 (by omega) ?_ ?_ ?_
            · exact ⟨0, by simp only [X.den, X.dens, X.denss, D.int_i, D.boo_b, D.str_s, D.rows_l, List.getD_cons_zero, List.getD_cons_succ, List.cons_append, List.nil_append, List.append_nil, List.length_cons, List.length_nil], by omega, by omega⟩
            · rintro m l ρ2 ⟨k, rfl, k0, k1⟩ eρ
              simp only [List.cons_append, List.nil_append] at eρ
              subst eρ
              refine To.ite (fun c => ?_) (fun c => ?_) <;> simp only [X.den, X.dens, X.denss, D.int_i, D.boo_b, D.str_s, D.rows_l, List.getD_cons_zero, List.getD_cons_succ, List.cons_append, List.nil_append, List.append_nil, List.length_cons, List.length_nil, decide_eq_true_eq, decide_eq_false_iff_not, Bool.not_eq_true', Bool.not_eq_false', Bool.and_eq_true, Bool.and_eq_false_iff, Bool.true_eq_false, Bool.false_eq_true, Bool.not_true, Bool.not_false, eq_self] at c
              · refine To.joinK (fun l => ∃ q : Int, l = [.i q, .i q]) ?_ ?_
                · refine To.ite (fun c => To.ret ⟨rfl, _, rfl⟩) (fun c => To.ite (fun c => To.ret ⟨rfl, _, rfl⟩) (fun c => To.ret ⟨rfl, _, rfl⟩))
                rintro l ρ2 ⟨q, rfl⟩ eρ
                simp only [List.cons_append, List.nil_append] at eρ
                subst eρ
                refine To.joinK (fun l => ∃ z1 z2 z3 z4, l = [z1, z2, z3, z4, .b false]) ?_ ?_
                · refine To.callK (l := [.i (fct x0 q)]) rfl rfl _ (by simp only [List.cons_append, List.nil_append]; first | done | rfl) ?_
                  refine To.callK (l := [.i (fct x0 q)]) rfl rfl _ (by simp only [List.cons_append, List.nil_append]; first | done | rfl) ?_
                  refine To.yes (by simp only [X.den, X.dens, X.denss, D.int_i, D.boo_b, D.str_s, D.rows_l, List.getD_cons_zero, List.getD_cons_succ, List.cons_append, List.nil_append, List.append_nil, List.length_cons, List.length_nil]; simp) ?_
                  refine To.callK (l := [.i (fct d3 q)]) rfl rfl _ (by simp only [List.cons_append, List.nil_append]; first | done | rfl) ?_
                  refine To.callK (l := [.i (fct d3 q)]) rfl rfl _ (by simp only [List.cons_append, List.nil_append]; first | done | rfl) ?_
                  refine To.ret ⟨rfl, ?_⟩
                  simp only [X.den, X.dens, X.denss, D.int_i, D.boo_b, D.str_s, D.rows_l, List.getD_cons_zero, List.getD_cons_succ, List.cons_append, List.nil_append, List.append_nil, List.length_cons, List.length_nil, decide_true, Bool.not_true]
                  exact ⟨_, _, _, _, rfl⟩
                rintro l ρ2 ⟨z1, z2, z3, z4, rfl⟩ eρ
                simp only [List.cons_append, List.nil_append] at eρ
                subst eρ
                refine To.no rfl (To.ret (.inl ⟨rfl, m - 1, by omega, k + 1, ?_, by omega, by omega⟩))
                simp only [X.den, X.dens, X.denss, D.int_i, D.boo_b, D.str_s, D.rows_l, List.getD_cons_zero, List.getD_cons_succ, List.cons_append, List.nil_append, List.append_nil, List.length_cons, List.length_nil]
              · exact To.ret (.inr ⟨rfl, _, rfl, rfl⟩)
            rintro l ρ2 ⟨rest, rfl, hr⟩ eρ
            simp only [List.cons_append, List.nil_append] at eρ
            subst eρ
            exact ⟨by simp [hr], To.no rfl (To.ret ⟨rfl, t6, _, rfl, s7⟩)⟩
          rintro l ρ2 ⟨t9, rest, rfl, s9⟩ eρ
          simp only [List.cons_append, List.nil_append] at eρ
          subst eρ
          refine To.yes rfl (To.ret (.inl ⟨rfl, m - 1, by omega, t9, i + 1, ?_, s9, by omega, by omega⟩))
          simp only [X.den, X.dens, X.denss, D.int_i, D.boo_b, D.str_s, D.rows_l, List.getD_cons_zero, List.getD_cons_succ, List.cons_append, List.nil_append, List.append_nil, List.length_cons, List.length_nil]
        · exact To.ret (.inr ⟨rfl, _, _, _, _, _, _, _, _, _, _, _, _, _, _, _, rfl⟩)
      · rintro l ρ2 ⟨z1, z2, z3, z4, z5, z6, z7, z8, z9, z10, z11, z12, z13, z14, z15, rfl⟩ eρ
        simp only [List.cons_append, List.nil_append] at eρ
        subst eρ
        refine ⟨rfl, To.no rfl (To.callK (l := [.b true]) rfl rfl _ (by simp only [List.cons_append, List.nil_append]; first | done | rfl) (To.ret ?_))⟩
        simp only [X.den, X.dens, X.denss, D.int_i, D.boo_b, D.str_s, D.rows_l, List.getD_cons_zero, List.getD_cons_succ, List.cons_append, List.nil_append, List.append_nil, List.length_cons, List.length_nil]
    · cases h
def WeatherExact_ps : List PK := wExact_K.ps
theorem WeatherExact_all : Fx.LawOk Try.prog 7 WeatherExact_ps :=
  law_all we_ok rfl (by kernel_rfl) fun ds hw => by
    have hw' : WfR [.sl [.int .i64], .sl [.int .i64], .sl [.int .i64], .sl [.int .i64], .int .i64, .int .i64, .int .i64, .int .i64] ds := hw
    simp only [WfR, WfC] at hw'
    obtain ⟨d0, ds0, rfl, ⟨rows, rfl, _, _⟩, d1, ds1, rfl, _, d2, ds2, rfl, _, d3, ds3, rfl, _, d4, ds4, rfl, ⟨z4, rfl, _⟩, d5, ds5, rfl, ⟨z5, rfl, _⟩, d6, ds6, rfl, ⟨z6, rfl, _⟩, d7, ds7, rfl, ⟨z7, rfl, _⟩, rfl⟩ := hw'
    rfl
end Go.Proofs.Ytdkamfkpmplaoaa
