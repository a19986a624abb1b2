/- References, fixes and tracks in numbers. -/
import Derived.Test.YtladhlgibapohaaMonU
set_option linter.unusedVariables false
set_option linter.unusedSimpArgs false
namespace Go.Proofs.Ytladhlgibapohaa
open Go.RowKit Fx
def srcM1 : Models := Models.on srcN_K.f (srcN_T.run noM 0) noM
theorem srcRef_ok : ConOk Try.prog srcRef_K (srcRef_T.run srcM1 0) := con_run follows (one_con (srcN_ok.to _) no_cons) srcRef_t rfl 0
theorem srcFix_ok : ConOk Try.prog srcFix_K (srcFix_T.run srcM1 0) := con_run follows (one_con (srcN_ok.to _) no_cons) srcFix_t rfl 0
def srcFM : Models := Models.on srcN_K.f (srcN_T.run noM 0) (Models.on srcFix_K.f (srcFix_T.run srcM1 0) noM)
theorem srcFixes_ok : ConOk Try.prog srcFixes_K (srcFixes_T.run srcFM 30) := con_run follows (one_con (srcN_ok.to _) (one_con (srcFix_ok.to _) no_cons)) srcFixes_t rfl 30
def mRunM : Models := Models.on mStep_K.f (mStep_T.run noM 0) noM
theorem mRun_ok : ConOk Try.prog mRun_K (mRun_T.run mRunM 30) := con_run follows (one_con (mStep_ok.to _) no_cons) mRun_t rfl 30
theorem mTick_ok : ConOk Try.prog mTick_K (mTick_T.run noM 0) := con_run follows no_cons mTick_t rfl 0
theorem srcRef_to {rows : List (List D)} {at_ : Int} (h : SrcOk rows at_) :
    ∃ l, srcRef_T.run srcM1 0 [.l rows, .i at_] = some l ∧ ∃ c sp st fr at', l = [.i c, .i sp, .i st, .i fr, .l rows, .i at'] ∧ (0 ≤ c ∧ c < 4) ∧ (sp = 0 ∨ sp = 10 ∨ sp = 100) ∧ (st = 1 ∨ st = 3 ∨ st = 10) ∧ (0 ≤ fr ∧ fr ≤ 4) ∧ SrcOk rows at' := by
  refine run_to ?_
  unfold srcRef_T
  refine To.viaK (by (try simp (disch := omega) only [X.den, X.dens, X.denss, D.int_i, D.boo_b, D.str_s, D.rows_l, List.getD_cons_zero, List.getD_cons_succ, List.cons_append, List.nil_append, List.append_nil, List.length_cons, List.length_nil, decide_eq_true_eq, decide_eq_false_iff_not, Bool.not_eq_true', Bool.not_eq_false', Bool.and_eq_true, Bool.and_eq_false_iff, Bool.true_eq_false, Bool.false_eq_true, Bool.not_true, Bool.not_false, eq_self, D.len_l, wr64, not_true_eq_false, not_false_eq_true]); exact srcN_to h (by omega) (by omega)) ?_
  rintro _ ρ2 ⟨r1, t1, rfl, p1, q1, h1⟩ eρ
  refine ⟨rfl, ?_⟩
  simp only [List.cons_append, List.nil_append] at eρ
  subst eρ
  refine To.viaK (by (try simp (disch := omega) only [X.den, X.dens, X.denss, D.int_i, D.boo_b, D.str_s, D.rows_l, List.getD_cons_zero, List.getD_cons_succ, List.cons_append, List.nil_append, List.append_nil, List.length_cons, List.length_nil, decide_eq_true_eq, decide_eq_false_iff_not, Bool.not_eq_true', Bool.not_eq_false', Bool.and_eq_true, Bool.and_eq_false_iff, Bool.true_eq_false, Bool.false_eq_true, Bool.not_true, Bool.not_false, eq_self, D.len_l, wr64, not_true_eq_false, not_false_eq_true]); exact srcN_to h1 (by omega) (by omega)) ?_
  rintro _ ρ2 ⟨r2, t2, rfl, p2, q2, h2⟩ eρ
  refine ⟨rfl, ?_⟩
  simp only [List.cons_append, List.nil_append] at eρ
  subst eρ
  refine To.need (by simp only [X.den, X.dens, X.denss, D.int_i, D.boo_b, D.str_s, D.rows_l, List.getD_cons_zero, List.getD_cons_succ, List.cons_append, List.nil_append, List.append_nil, List.length_cons, List.length_nil, decide_eq_true_eq, decide_eq_false_iff_not, Bool.not_eq_true', Bool.not_eq_false', Bool.and_eq_true, Bool.and_eq_false_iff, Bool.true_eq_false, Bool.false_eq_true, Bool.not_true, Bool.not_false, eq_self]; omega) ?_
  refine To.viaK (by (try simp (disch := omega) only [X.den, X.dens, X.denss, D.int_i, D.boo_b, D.str_s, D.rows_l, List.getD_cons_zero, List.getD_cons_succ, List.cons_append, List.nil_append, List.append_nil, List.length_cons, List.length_nil, decide_eq_true_eq, decide_eq_false_iff_not, Bool.not_eq_true', Bool.not_eq_false', Bool.and_eq_true, Bool.and_eq_false_iff, Bool.true_eq_false, Bool.false_eq_true, Bool.not_true, Bool.not_false, eq_self, D.len_l, wr64, not_true_eq_false, not_false_eq_true]); exact srcN_to h2 (by omega) (by omega)) ?_
  rintro _ ρ2 ⟨r3, t3, rfl, p3, q3, h3⟩ eρ
  refine ⟨rfl, ?_⟩
  simp only [List.cons_append, List.nil_append] at eρ
  subst eρ
  refine To.need (by simp only [X.den, X.dens, X.denss, D.int_i, D.boo_b, D.str_s, D.rows_l, List.getD_cons_zero, List.getD_cons_succ, List.cons_append, List.nil_append, List.append_nil, List.length_cons, List.length_nil, decide_eq_true_eq, decide_eq_false_iff_not, Bool.not_eq_true', Bool.not_eq_false', Bool.and_eq_true, Bool.and_eq_false_iff, Bool.true_eq_false, Bool.false_eq_true, Bool.not_true, Bool.not_false, eq_self]; omega) ?_
  refine To.viaK (by (try simp (disch := omega) only [X.den, X.dens, X.denss, D.int_i, D.boo_b, D.str_s, D.rows_l, List.getD_cons_zero, List.getD_cons_succ, List.cons_append, List.nil_append, List.append_nil, List.length_cons, List.length_nil, decide_eq_true_eq, decide_eq_false_iff_not, Bool.not_eq_true', Bool.not_eq_false', Bool.and_eq_true, Bool.and_eq_false_iff, Bool.true_eq_false, Bool.false_eq_true, Bool.not_true, Bool.not_false, eq_self, D.len_l, wr64, not_true_eq_false, not_false_eq_true]); exact srcN_to h3 (by omega) (by omega)) ?_
  rintro _ ρ2 ⟨r4, t4, rfl, p4, q4, h4⟩ eρ
  refine ⟨rfl, ?_⟩
  simp only [List.cons_append, List.nil_append] at eρ
  subst eρ
  refine To.need (by simp only [X.den, X.dens, X.denss, D.int_i, D.boo_b, D.str_s, D.rows_l, List.getD_cons_zero, List.getD_cons_succ, List.cons_append, List.nil_append, List.append_nil, List.length_cons, List.length_nil, decide_eq_true_eq, decide_eq_false_iff_not, Bool.not_eq_true', Bool.not_eq_false', Bool.and_eq_true, Bool.and_eq_false_iff, Bool.true_eq_false, Bool.false_eq_true, Bool.not_true, Bool.not_false, eq_self]; omega) ?_
  obtain ⟨a, ha, ea⟩ := pick_cell (zs := [0, 10, 100]) p2 q2
  have ea : (D.l [[.i 0], [.i 10], [.i 100]]).cell r2 0 = .i a := ea
  obtain ⟨b, hb, eb⟩ := pick_cell (zs := [1, 3, 10]) p3 q3
  have eb : (D.l [[.i 1], [.i 3], [.i 10]]).cell r3 0 = .i b := eb
  obtain ⟨c, hc, ec⟩ := pick_cell (zs := [0, 0, 2, 4]) p4 q4
  have ec : (D.l [[.i 0], [.i 0], [.i 2], [.i 4]]).cell r4 0 = .i c := ec
  refine To.ret ?_
  simp only [X.den, X.dens, X.denss, D.int_i, D.boo_b, D.str_s, D.rows_l, List.getD_cons_zero, List.getD_cons_succ, List.cons_append, List.nil_append, List.append_nil, List.length_cons, List.length_nil, ea, eb, ec]
  simp only [List.mem_cons, List.not_mem_nil, or_false] at ha hb hc
  exact ⟨_, _, _, _, _, rfl, ⟨p1, q1⟩, ha, hb, by omega, h4⟩
theorem srcFix_to {rows : List (List D)} {at_ t : Int} (h : SrcOk rows at_) :
    ∃ l, srcFix_T.run srcM1 0 [.l rows, .i at_, .i t] = some l ∧ ∃ x y e at', l = [.i t, .i x, .i y, .i e, .l rows, .i at'] ∧ (-30 ≤ x ∧ x ≤ 1000) ∧ (-20 ≤ y ∧ y ≤ 5) ∧ (1 ≤ e ∧ e ≤ 200) ∧ SrcOk rows at' := by
  refine run_to ?_
  unfold srcFix_T
  refine To.viaK (by (try simp (disch := omega) only [X.den, X.dens, X.denss, D.int_i, D.boo_b, D.str_s, D.rows_l, List.getD_cons_zero, List.getD_cons_succ, List.cons_append, List.nil_append, List.append_nil, List.length_cons, List.length_nil, decide_eq_true_eq, decide_eq_false_iff_not, Bool.not_eq_true', Bool.not_eq_false', Bool.and_eq_true, Bool.and_eq_false_iff, Bool.true_eq_false, Bool.false_eq_true, Bool.not_true, Bool.not_false, eq_self, D.len_l, wr64, not_true_eq_false, not_false_eq_true]); exact srcN_to h (by omega) (by omega)) ?_
  rintro _ ρ2 ⟨r2, t2, rfl, p2, q2, h2⟩ eρ
  refine ⟨rfl, ?_⟩
  simp only [List.cons_append, List.nil_append] at eρ
  subst eρ
  refine To.need (by simp only [X.den, X.dens, X.denss, D.int_i, D.boo_b, D.str_s, D.rows_l, List.getD_cons_zero, List.getD_cons_succ, List.cons_append, List.nil_append, List.append_nil, List.length_cons, List.length_nil, decide_eq_true_eq, decide_eq_false_iff_not, Bool.not_eq_true', Bool.not_eq_false', Bool.and_eq_true, Bool.and_eq_false_iff, Bool.true_eq_false, Bool.false_eq_true, Bool.not_true, Bool.not_false, eq_self]; omega) ?_
  refine To.viaK (by (try simp (disch := omega) only [X.den, X.dens, X.denss, D.int_i, D.boo_b, D.str_s, D.rows_l, List.getD_cons_zero, List.getD_cons_succ, List.cons_append, List.nil_append, List.append_nil, List.length_cons, List.length_nil, decide_eq_true_eq, decide_eq_false_iff_not, Bool.not_eq_true', Bool.not_eq_false', Bool.and_eq_true, Bool.and_eq_false_iff, Bool.true_eq_false, Bool.false_eq_true, Bool.not_true, Bool.not_false, eq_self, D.len_l, wr64, not_true_eq_false, not_false_eq_true]); exact srcN_to h2 (by omega) (by omega)) ?_
  rintro _ ρ2 ⟨r3, t3, rfl, p3, q3, h3⟩ eρ
  refine ⟨rfl, ?_⟩
  simp only [List.cons_append, List.nil_append] at eρ
  subst eρ
  refine To.need (by simp only [X.den, X.dens, X.denss, D.int_i, D.boo_b, D.str_s, D.rows_l, List.getD_cons_zero, List.getD_cons_succ, List.cons_append, List.nil_append, List.append_nil, List.length_cons, List.length_nil, decide_eq_true_eq, decide_eq_false_iff_not, Bool.not_eq_true', Bool.not_eq_false', Bool.and_eq_true, Bool.and_eq_false_iff, Bool.true_eq_false, Bool.false_eq_true, Bool.not_true, Bool.not_false, eq_self]; omega) ?_
  refine To.viaK (by (try simp (disch := omega) only [X.den, X.dens, X.denss, D.int_i, D.boo_b, D.str_s, D.rows_l, List.getD_cons_zero, List.getD_cons_succ, List.cons_append, List.nil_append, List.append_nil, List.length_cons, List.length_nil, decide_eq_true_eq, decide_eq_false_iff_not, Bool.not_eq_true', Bool.not_eq_false', Bool.and_eq_true, Bool.and_eq_false_iff, Bool.true_eq_false, Bool.false_eq_true, Bool.not_true, Bool.not_false, eq_self, D.len_l, wr64, not_true_eq_false, not_false_eq_true]); exact srcN_to h3 (by omega) (by omega)) ?_
  rintro _ ρ2 ⟨r4, t4, rfl, p4, q4, h4⟩ eρ
  refine ⟨rfl, ?_⟩
  simp only [List.cons_append, List.nil_append] at eρ
  subst eρ
  refine To.need (by simp only [X.den, X.dens, X.denss, D.int_i, D.boo_b, D.str_s, D.rows_l, List.getD_cons_zero, List.getD_cons_succ, List.cons_append, List.nil_append, List.append_nil, List.length_cons, List.length_nil, decide_eq_true_eq, decide_eq_false_iff_not, Bool.not_eq_true', Bool.not_eq_false', Bool.and_eq_true, Bool.and_eq_false_iff, Bool.true_eq_false, Bool.false_eq_true, Bool.not_true, Bool.not_false, eq_self]; omega) ?_
  obtain ⟨a, ha, ea⟩ := pick_cell (zs := [0, 0, 1, 20, -30, 1000]) p2 q2
  have ea : (D.l [[.i 0], [.i 0], [.i 1], [.i 20], [.i (-30)], [.i 1000]]).cell r2 0 = .i a := ea
  obtain ⟨b, hb, eb⟩ := pick_cell (zs := [0, 0, 5, -20]) p3 q3
  have eb : (D.l [[.i 0], [.i 0], [.i 5], [.i (-20)]]).cell r3 0 = .i b := eb
  obtain ⟨c, hc, ec⟩ := pick_cell (zs := [1, 10, 50, 200]) p4 q4
  have ec : (D.l [[.i 1], [.i 10], [.i 50], [.i 200]]).cell r4 0 = .i c := ec
  refine To.ret ?_
  simp only [X.den, X.dens, X.denss, D.int_i, D.boo_b, D.str_s, D.rows_l, List.getD_cons_zero, List.getD_cons_succ, List.cons_append, List.nil_append, List.append_nil, List.length_cons, List.length_nil, ea, eb, ec]
  simp only [List.mem_cons, List.not_mem_nil, or_false] at ha hb hc
  exact ⟨_, _, _, _, rfl, by omega, by omega, by omega, h4⟩
/-- a row that is a fix of the first thousand ticks -/
def FixRow (r : List D) : Prop := ∃ t x y e, r = [.i t, .i x, .i y, .i e] ∧ (0 ≤ t ∧ t ≤ 1000) ∧ (-100000000 ≤ x ∧ x ≤ 100000000) ∧ (-100000000 ≤ y ∧ y ≤ 100000000) ∧ 1 ≤ e ∧ e ≤ 100000
theorem srcFixes_to {rows : List (List D)} {at_ n : Int} (h : SrcOk rows at_) (n0 : 0 ≤ n) (n1 : n ≤ 20) :
    ∃ l, srcFixes_T.run srcFM 30 [.l rows, .i at_, .i n] = some l ∧ ∃ fs at', l = [.l fs, .l rows, .i at'] ∧ (fs.length : Int) ≤ n ∧ (∀ r ∈ fs, FixRow r) ∧ SrcOk rows at' := by
  refine run_to ?_
  unfold srcFixes_T
  refine To.viaK (by (try simp (disch := omega) only [X.den, X.dens, X.denss, D.int_i, D.boo_b, D.str_s, D.rows_l, List.getD_cons_zero, List.getD_cons_succ, List.cons_append, List.nil_append, List.append_nil, List.length_cons, List.length_nil, decide_eq_true_eq, decide_eq_false_iff_not, Bool.not_eq_true', Bool.not_eq_false', Bool.and_eq_true, Bool.and_eq_false_iff, Bool.true_eq_false, Bool.false_eq_true, Bool.not_true, Bool.not_false, eq_self, D.len_l, wr64, not_true_eq_false, not_false_eq_true]); exact srcN_to h (by omega) (by omega)) ?_
  rintro _ ρ2 ⟨r, t1, rfl, p, q, h1⟩ eρ
  refine ⟨rfl, ?_⟩
  simp only [List.cons_append, List.nil_append] at eρ
  subst eρ
  refine To.loopK (fun m l => ∃ fs at_ tm k, l = [.l fs, .l rows, .i at_, .i tm, .i k] ∧ SrcOk rows at_ ∧ k = m ∧ k + fs.length ≤ n ∧ (0 ≤ tm ∧ tm ≤ 5 * fs.length) ∧ ∀ r ∈ fs, FixRow r) (fun l => ∃ fs at_, l = [.l fs, .l rows, .i at_] ∧ SrcOk rows at_ ∧ (fs.length : Int) ≤ n ∧ ∀ r ∈ fs, FixRow r) r.toNat (by omega) ?_ ?_ ?_
  · exact ⟨[], t1, 0, r, by simp only [X.den, X.dens, X.denss, D.int_i, D.boo_b, D.str_s, D.rows_l, List.getD_cons_zero, List.getD_cons_succ, List.cons_append, List.nil_append, List.append_nil, List.length_cons, List.length_nil], h1, by omega, by simp; omega, by simp, by simp⟩
  · rintro m l ρ2 ⟨fs, a, tm, k, rfl, hs, hk, hn, ht, hf⟩ eρ
    simp only [List.cons_append, List.nil_append] at eρ
    subst eρ
    refine To.ite (fun c => ?_) (fun c => ?_) <;> simp only [X.den, X.dens, X.denss, D.int_i, D.boo_b, D.str_s, D.rows_l, List.getD_cons_zero, List.getD_cons_succ, List.cons_append, List.nil_append, List.append_nil, List.length_cons, List.length_nil, decide_eq_true_eq, decide_eq_false_iff_not, Bool.not_eq_true', Bool.not_eq_false', Bool.and_eq_true, Bool.and_eq_false_iff, Bool.true_eq_false, Bool.false_eq_true, Bool.not_true, Bool.not_false, eq_self] at c
    · refine To.viaK (by (try simp (disch := omega) only [X.den, X.dens, X.denss, D.int_i, D.boo_b, D.str_s, D.rows_l, List.getD_cons_zero, List.getD_cons_succ, List.cons_append, List.nil_append, List.append_nil, List.length_cons, List.length_nil, decide_eq_true_eq, decide_eq_false_iff_not, Bool.not_eq_true', Bool.not_eq_false', Bool.and_eq_true, Bool.and_eq_false_iff, Bool.true_eq_false, Bool.false_eq_true, Bool.not_true, Bool.not_false, eq_self, D.len_l, wr64, not_true_eq_false, not_false_eq_true]); exact srcN_to hs (by omega) (by omega)) ?_
      rintro _ ρ2 ⟨r2, t2, rfl, p2, q2, h2⟩ eρ
      refine ⟨rfl, ?_⟩
      simp only [List.cons_append, List.nil_append] at eρ
      subst eρ
      refine To.need (by simp only [X.den, X.dens, X.denss, D.int_i, D.boo_b, D.str_s, D.rows_l, List.getD_cons_zero, List.getD_cons_succ, List.cons_append, List.nil_append, List.append_nil, List.length_cons, List.length_nil, decide_eq_true_eq, decide_eq_false_iff_not, Bool.not_eq_true', Bool.not_eq_false', Bool.and_eq_true, Bool.and_eq_false_iff, Bool.true_eq_false, Bool.false_eq_true, Bool.not_true, Bool.not_false, eq_self]; omega) ?_
      obtain ⟨b, hb, eb⟩ := pick_cell (zs := [1, 1, 2, 5, 0]) p2 q2
      have eb : (D.l [[.i 1], [.i 1], [.i 2], [.i 5], [.i 0]]).cell r2 0 = .i b := eb
      simp only [List.mem_cons, List.not_mem_nil, or_false] at hb
      refine To.viaK (by (try simp (disch := omega) only [X.den, X.dens, X.denss, D.int_i, D.boo_b, D.str_s, D.rows_l, List.getD_cons_zero, List.getD_cons_succ, List.cons_append, List.nil_append, List.append_nil, List.length_cons, List.length_nil, decide_eq_true_eq, decide_eq_false_iff_not, Bool.not_eq_true', Bool.not_eq_false', Bool.and_eq_true, Bool.and_eq_false_iff, Bool.true_eq_false, Bool.false_eq_true, Bool.not_true, Bool.not_false, eq_self, D.len_l, wr64, not_true_eq_false, not_false_eq_true, eb]); exact srcFix_to h2) ?_
      rintro _ ρ2 ⟨x, y, e, t3, rfl, hx, hy, he, h3⟩ eρ
      refine ⟨rfl, ?_⟩
      simp only [List.cons_append, List.nil_append] at eρ
      subst eρ
      refine To.need (by simp only [X.den, X.dens, X.denss, D.int_i, D.boo_b, D.str_s, D.rows_l, List.getD_cons_zero, List.getD_cons_succ, List.cons_append, List.nil_append, List.append_nil, List.length_cons, List.length_nil, decide_eq_true_eq, decide_eq_false_iff_not, Bool.not_eq_true', Bool.not_eq_false', Bool.and_eq_true, Bool.and_eq_false_iff, Bool.true_eq_false, Bool.false_eq_true, Bool.not_true, Bool.not_false, eq_self, D.len_l]; omega) ?_
      refine To.ret (.inl ⟨rfl, m - 1, by omega, ?_⟩)
      simp (disch := omega) only [X.den, X.dens, X.denss, D.int_i, D.boo_b, D.str_s, D.rows_l, List.getD_cons_zero, List.getD_cons_succ, List.cons_append, List.nil_append, List.append_nil, List.length_cons, List.length_nil, wr64, eb]
      refine ⟨_, _, _, _, rfl, h3, by omega, by rw [List.length_append]; simp only [List.length_cons, List.length_nil]; omega, by rw [List.length_append]; simp only [List.length_cons, List.length_nil]; omega, ?_⟩
      intro r hr
      rcases List.mem_append.1 hr with hr | hr
      · exact hf r hr
      · rw [List.mem_singleton] at hr
        exact ⟨_, _, _, _, hr, by omega, by omega, by omega, by omega⟩
    · exact To.ret (.inr ⟨rfl, fs, a, by simp only [X.den, X.dens, X.denss, D.int_i, D.boo_b, D.str_s, D.rows_l, List.getD_cons_zero, List.getD_cons_succ, List.cons_append, List.nil_append, List.append_nil, List.length_cons, List.length_nil], hs, by omega, hf⟩)
  · rintro l ρ2 ⟨fs, a, rfl, hs, hn, hf⟩ eρ
    simp only [List.cons_append, List.nil_append] at eρ
    subst eρ
    refine ⟨rfl, To.ret ?_⟩
    simp only [X.den, X.dens, X.denss, D.int_i, D.boo_b, D.str_s, D.rows_l, List.getD_cons_zero, List.getD_cons_succ, List.cons_append, List.nil_append, List.append_nil, List.length_cons, List.length_nil]
    exact ⟨_, _, rfl, hn, hf, hs⟩
theorem tick_seen {c sp st fr t lt lx ly le gt gx gy ge sm ss : Int} (hr : RefOk c sp st fr) (hl : FixOk lt lx ly le) (hg : FixOk gt gx gy ge) (hs : 1 ≤ sm ∧ sm ≤ 2147483648) (ht : lt ≤ t) (ht2 : t ≤ 2147483648) :
    ∃ l, mTick_T.run noM 0 [.i c, .i sp, .i st, .i fr, .i lt, .i lx, .i ly, .i le, .i gt, .i gx, .i gy, .i ge, .b true, .i sm, .i ss, .i t] = some l ∧ ∃ ss', l = [.i lt, .i lx, .i ly, .i le, .i gt, .i gx, .i gy, .i ge, .b true, .i sm, .i ss', .i 0] ∧ ((st ≤ t - lt ∧ ss' = 2) ∨ (t - lt < st ∧ ss' = ss)) := by
  unfold RefOk FixOk at *
  refine run_to ?_
  unfold mTick_T
  (repeat' (first
      | (refine To.subK (fun K hK => ?_))
      | (refine To.need (by simp (disch := omega) only [X.den, X.dens, X.denss, D.int_i, D.boo_b, D.str_s, D.rows_l, List.getD_cons_zero, List.getD_cons_succ, List.cons_append, List.nil_append, List.append_nil, List.length_cons, List.length_nil, decide_eq_true_eq, decide_eq_false_iff_not, Bool.not_eq_true', Bool.not_eq_false', Bool.and_eq_true, Bool.and_eq_false_iff, Bool.true_eq_false, Bool.false_eq_true, Bool.not_true, Bool.not_false, eq_self, D.len_l, wr64, not_true_eq_false, not_false_eq_true] <;> omega) ?_)
      | (refine To.ite (fun c => ?_) (fun c => ?_) <;> ((try simp (disch := omega) only [X.den, X.dens, X.denss, D.int_i, D.boo_b, D.str_s, D.rows_l, List.getD_cons_zero, List.getD_cons_succ, List.cons_append, List.nil_append, List.append_nil, List.length_cons, List.length_nil, decide_eq_true_eq, decide_eq_false_iff_not, Bool.not_eq_true', Bool.not_eq_false', Bool.and_eq_true, Bool.and_eq_false_iff, Bool.true_eq_false, Bool.false_eq_true, Bool.not_true, Bool.not_false, eq_self, D.len_l, wr64, not_true_eq_false, not_false_eq_true] at c) <;> (try (exfalso; omega))))
      | (refine To.ret ⟨rfl, ?_⟩; (try simp (disch := omega) only [X.den, X.dens, X.denss, D.int_i, D.boo_b, D.str_s, D.rows_l, List.getD_cons_zero, List.getD_cons_succ, List.cons_append, List.nil_append, List.append_nil, List.length_cons, List.length_nil, decide_eq_true_eq, decide_eq_false_iff_not, Bool.not_eq_true', Bool.not_eq_false', Bool.and_eq_true, Bool.and_eq_false_iff, Bool.true_eq_false, Bool.false_eq_true, Bool.not_true, Bool.not_false, eq_self, D.len_l, wr64, not_true_eq_false, not_false_eq_true]); refine hK _ _ (by simp only [List.cons_append, List.nil_append]; first | done | rfl) ?_; clear hK; clear K)))
  all_goals (refine To.ret ?_; simp only [X.den, X.dens, X.denss, D.int_i, D.boo_b, D.str_s, D.rows_l, List.getD_cons_zero, List.getD_cons_succ, List.cons_append, List.nil_append, List.append_nil, List.length_cons, List.length_nil]; refine ⟨_, rfl, ?_⟩; omega)
theorem tick_unseen {c sp st fr t a0 a1 a2 a3 a4 a5 a6 a7 a9 a10 : Int} (hr : RefOk c sp st fr) (ht : 0 ≤ t) (ht2 : t ≤ 2147483648) :
    ∃ l, mTick_T.run noM 0 [.i c, .i sp, .i st, .i fr, .i a0, .i a1, .i a2, .i a3, .i a4, .i a5, .i a6, .i a7, .b false, .i a9, .i a10, .i t] = some l ∧ l = [.i a0, .i a1, .i a2, .i a3, .i a4, .i a5, .i a6, .i a7, .b false, .i a9, .i a10, .i 0] := by
  unfold RefOk at *
  refine run_to ?_
  unfold mTick_T
  (repeat' (first
      | (refine To.subK (fun K hK => ?_))
      | (refine To.need (by simp (disch := omega) only [X.den, X.dens, X.denss, D.int_i, D.boo_b, D.str_s, D.rows_l, List.getD_cons_zero, List.getD_cons_succ, List.cons_append, List.nil_append, List.append_nil, List.length_cons, List.length_nil, decide_eq_true_eq, decide_eq_false_iff_not, Bool.not_eq_true', Bool.not_eq_false', Bool.and_eq_true, Bool.and_eq_false_iff, Bool.true_eq_false, Bool.false_eq_true, Bool.not_true, Bool.not_false, eq_self, D.len_l, wr64, not_true_eq_false, not_false_eq_true] <;> omega) ?_)
      | (refine To.ite (fun c => ?_) (fun c => ?_) <;> ((try simp (disch := omega) only [X.den, X.dens, X.denss, D.int_i, D.boo_b, D.str_s, D.rows_l, List.getD_cons_zero, List.getD_cons_succ, List.cons_append, List.nil_append, List.append_nil, List.length_cons, List.length_nil, decide_eq_true_eq, decide_eq_false_iff_not, Bool.not_eq_true', Bool.not_eq_false', Bool.and_eq_true, Bool.and_eq_false_iff, Bool.true_eq_false, Bool.false_eq_true, Bool.not_true, Bool.not_false, eq_self, D.len_l, wr64, not_true_eq_false, not_false_eq_true] at c) <;> (try (exfalso; omega))))
      | (refine To.ret ⟨rfl, ?_⟩; (try simp (disch := omega) only [X.den, X.dens, X.denss, D.int_i, D.boo_b, D.str_s, D.rows_l, List.getD_cons_zero, List.getD_cons_succ, List.cons_append, List.nil_append, List.append_nil, List.length_cons, List.length_nil, decide_eq_true_eq, decide_eq_false_iff_not, Bool.not_eq_true', Bool.not_eq_false', Bool.and_eq_true, Bool.and_eq_false_iff, Bool.true_eq_false, Bool.false_eq_true, Bool.not_true, Bool.not_false, eq_self, D.len_l, wr64, not_true_eq_false, not_false_eq_true]); refine hK _ _ (by simp only [List.cons_append, List.nil_append]; first | done | rfl) ?_; clear hK; clear K)))
  all_goals (refine To.ret ?_; simp only [X.den, X.dens, X.denss, D.int_i, D.boo_b, D.str_s, D.rows_l, List.getD_cons_zero, List.getD_cons_succ, List.cons_append, List.nil_append, List.append_nil, List.length_cons, List.length_nil])
/-- a track of the first thousand ticks, as fixes make it: no fix so far, or the last and the good one -/
def TrOk (n a0 a1 a2 a3 a4 a5 a6 a7 : Int) (s : Bool) (a9 a10 : Int) : Prop :=
  (s = false ∧ a0 = 0 ∧ a1 = 0 ∧ a2 = 0 ∧ a3 = 0 ∧ a4 = 0 ∧ a5 = 0 ∧ a6 = 0 ∧ a7 = 0 ∧ a9 = 0 ∧ a10 = 0) ∨
  (s = true ∧ FixOk a0 a1 a2 a3 ∧ FixOk a4 a5 a6 a7 ∧ a0 ≤ 1000 ∧ (1 ≤ a9 ∧ a9 ≤ n) ∧ (a10 = 1 ∨ a10 = 3 ∨ a10 = 4))
theorem getD_mem {fs : List (List D)} {k : Int} (h0 : 0 ≤ k) (h1 : k < fs.length) : fs.getD k.toNat [] ∈ fs := by
  rw [List.getD_eq_getElem?_getD, List.getElem?_eq_getElem (by omega), Option.getD_some]
  exact List.getElem_mem _
theorem mRun_to {c sp st fr : Int} {fs : List (List D)} (hr : RefOk c sp st fr) (hf : ∀ r ∈ fs, FixRow r) (hn : fs.length ≤ 20) :
    ∃ l, mRun_T.run mRunM 30 [.i c, .i sp, .i st, .i fr, .l fs] = some l ∧ ∃ a0 a1 a2 a3 a4 a5 a6 a7 s a9 a10 e, l = [.i a0, .i a1, .i a2, .i a3, .i a4, .i a5, .i a6, .i a7, .b s, .i a9, .i a10, .i e] ∧ TrOk 20 a0 a1 a2 a3 a4 a5 a6 a7 s a9 a10 ∧ (e = 0 ∨ e = 16) := by
  refine run_to ?_
  unfold mRun_T
  refine To.loopK (fun m l => ∃ a0 a1 a2 a3 a4 a5 a6 a7 s a9 a10 k, l = [.i a0, .i a1, .i a2, .i a3, .i a4, .i a5, .i a6, .i a7, .b s, .i a9, .i a10, .i k] ∧ TrOk k a0 a1 a2 a3 a4 a5 a6 a7 s a9 a10 ∧ 0 ≤ k ∧ k + m = fs.length)
    (fun l => ∃ b a0 a1 a2 a3 a4 a5 a6 a7 s a9 a10 z0 z1 z2 z3 z4 z5 z6 z7 z8 z9 z10 z11 z12 z13 z14 z15 z16 z17 z18 z19 z20 z21 z22 z23 z24 z25 e, l = [.i b, .i a0, .i a1, .i a2, .i a3, .i a4, .i a5, .i a6, .i a7, .b s, .i a9, .i a10, z0, z1, z2, z3, z4, z5, z6, z7, z8, z9, z10, z11, z12, z13, z14, z15, z16, z17, z18, z19, z20, z21, z22, z23, z24, z25, .i e] ∧ TrOk 20 a0 a1 a2 a3 a4 a5 a6 a7 s a9 a10 ∧ (b = 1 ∨ b = 0 ∧ e = 16)) fs.length (by omega) ?_ ?_ ?_
  · exact ⟨0, 0, 0, 0, 0, 0, 0, 0, false, 0, 0, 0, by simp only [X.den, X.dens, X.denss, D.int_i, D.boo_b, D.str_s, D.rows_l, List.getD_cons_zero, List.getD_cons_succ, List.cons_append, List.nil_append, List.append_nil, List.length_cons, List.length_nil], .inl ⟨rfl, rfl, rfl, rfl, rfl, rfl, rfl, rfl, rfl, rfl, rfl⟩, by omega, by omega⟩
  · rintro m l ρ2 ⟨a0, a1, a2, a3, a4, a5, a6, a7, s, a9, a10, k, rfl, ht, k0, k1⟩ eρ
    simp only [List.cons_append, List.nil_append] at eρ
    subst eρ
    refine To.ite (fun cc => ?_) (fun cc => ?_) <;> simp only [X.den, X.dens, X.denss, D.int_i, D.boo_b, D.str_s, D.rows_l, List.getD_cons_zero, List.getD_cons_succ, List.cons_append, List.nil_append, List.append_nil, List.length_cons, List.length_nil, decide_eq_true_eq, decide_eq_false_iff_not, Bool.not_eq_true', Bool.not_eq_false', Bool.and_eq_true, Bool.and_eq_false_iff, Bool.true_eq_false, Bool.false_eq_true, Bool.not_true, Bool.not_false, eq_self, D.len_l] at cc
    · refine To.need (by simp only [X.den, X.dens, X.denss, D.int_i, D.boo_b, D.str_s, D.rows_l, List.getD_cons_zero, List.getD_cons_succ, List.cons_append, List.nil_append, List.append_nil, List.length_cons, List.length_nil, decide_eq_true_eq, decide_eq_false_iff_not, Bool.not_eq_true', Bool.not_eq_false', Bool.and_eq_true, Bool.and_eq_false_iff, Bool.true_eq_false, Bool.false_eq_true, Bool.not_true, Bool.not_false, eq_self, D.len_l]; omega) ?_
      obtain ⟨t, x, y, e, er, b1, b2, b3, b4⟩ := hf _ (getD_mem k0 (by omega))
      have c0 : (D.l fs).cell k 0 = .i t := by rw [cell_of, er]; rfl
      have c1 : (D.l fs).cell k 1 = .i x := by rw [cell_of, er]; rfl
      have c2 : (D.l fs).cell k 2 = .i y := by rw [cell_of, er]; rfl
      have c3 : (D.l fs).cell k 3 = .i e := by rw [cell_of, er]; rfl
      have fo : FixOk t x y e := by unfold FixOk; omega
      rcases ht with ⟨rfl, rfl, rfl, rfl, rfl, rfl, rfl, rfl, rfl, rfl, rfl⟩ | ⟨rfl, f1, f2, b5, b6, b7⟩
      · refine To.viaK (by (try simp (disch := omega) only [X.den, X.dens, X.denss, D.int_i, D.boo_b, D.str_s, D.rows_l, List.getD_cons_zero, List.getD_cons_succ, List.cons_append, List.nil_append, List.append_nil, List.length_cons, List.length_nil, decide_eq_true_eq, decide_eq_false_iff_not, Bool.not_eq_true', Bool.not_eq_false', Bool.and_eq_true, Bool.and_eq_false_iff, Bool.true_eq_false, Bool.false_eq_true, Bool.not_true, Bool.not_false, eq_self, D.len_l, wr64, not_true_eq_false, not_false_eq_true, c0, c1, c2, c3]); exact step_first hr fo) ?_
        rintro _ ρ2 rfl eρ
        refine ⟨rfl, ?_⟩
        simp only [List.cons_append, List.nil_append] at eρ
        subst eρ
        refine To.yes rfl (To.ret (.inl ⟨rfl, m - 1, by omega, ?_⟩))
        simp (disch := omega) only [X.den, X.dens, X.denss, D.int_i, D.boo_b, D.str_s, D.rows_l, List.getD_cons_zero, List.getD_cons_succ, List.cons_append, List.nil_append, List.append_nil, List.length_cons, List.length_nil, wr64]
        exact ⟨_, _, _, _, _, _, _, _, _, _, _, _, rfl, .inr ⟨rfl, fo, fo, b1.2, by omega, by omega⟩, by omega, by omega⟩
      · rcases (by omega : a0 < t ∨ t ≤ a0) with q | q
        · refine To.viaK (by (try simp (disch := omega) only [X.den, X.dens, X.denss, D.int_i, D.boo_b, D.str_s, D.rows_l, List.getD_cons_zero, List.getD_cons_succ, List.cons_append, List.nil_append, List.append_nil, List.length_cons, List.length_nil, decide_eq_true_eq, decide_eq_false_iff_not, Bool.not_eq_true', Bool.not_eq_false', Bool.and_eq_true, Bool.and_eq_false_iff, Bool.true_eq_false, Bool.false_eq_true, Bool.not_true, Bool.not_false, eq_self, D.len_l, wr64, not_true_eq_false, not_false_eq_true, c0, c1, c2, c3]); exact step_next hr fo f1 f2 (by omega) q) ?_
          rintro _ ρ2 ⟨s1, s2, g0, g1, g2, g3, rfl, hs, hg⟩ eρ
          refine ⟨rfl, ?_⟩
          simp only [List.cons_append, List.nil_append] at eρ
          subst eρ
          refine To.yes rfl (To.ret (.inl ⟨rfl, m - 1, by omega, ?_⟩))
          simp (disch := omega) only [X.den, X.dens, X.denss, D.int_i, D.boo_b, D.str_s, D.rows_l, List.getD_cons_zero, List.getD_cons_succ, List.cons_append, List.nil_append, List.append_nil, List.length_cons, List.length_nil, wr64]
          refine ⟨_, _, _, _, _, _, _, _, _, _, _, _, rfl, .inr ⟨rfl, fo, ?_, b1.2, by omega, by omega⟩, by omega, by omega⟩
          unfold FixOk at *
          omega
        · refine To.viaK (by (try simp (disch := omega) only [X.den, X.dens, X.denss, D.int_i, D.boo_b, D.str_s, D.rows_l, List.getD_cons_zero, List.getD_cons_succ, List.cons_append, List.nil_append, List.append_nil, List.length_cons, List.length_nil, decide_eq_true_eq, decide_eq_false_iff_not, Bool.not_eq_true', Bool.not_eq_false', Bool.and_eq_true, Bool.and_eq_false_iff, Bool.true_eq_false, Bool.false_eq_true, Bool.not_true, Bool.not_false, eq_self, D.len_l, wr64, not_true_eq_false, not_false_eq_true, c0, c1, c2, c3]); exact step_time hr fo f1 f2 (by omega) q) ?_
          rintro _ ρ2 rfl eρ
          refine ⟨rfl, ?_⟩
          simp only [List.cons_append, List.nil_append] at eρ
          subst eρ
          refine To.no rfl (To.ret (.inr ⟨rfl, ?_⟩))
          simp only [X.den, X.dens, X.denss, D.int_i, D.boo_b, D.str_s, D.rows_l, List.getD_cons_zero, List.getD_cons_succ, List.cons_append, List.nil_append, List.append_nil, List.length_cons, List.length_nil, c0, c1, c2, c3]
          exact ⟨_, _, _, _, _, _, _, _, _, _, _, _, _, _, _, _, _, _, _, _, _, _, _, _, _, _, _, _, _, _, _, _, _, _, _, _, _, _, _, rfl, .inr ⟨rfl, f1, f2, b5, by omega, b7⟩, .inr ⟨rfl, rfl⟩⟩
    · refine To.ret (.inr ⟨rfl, ?_⟩)
      simp only [X.den, X.dens, X.denss, D.int_i, D.boo_b, D.str_s, D.rows_l, List.getD_cons_zero, List.getD_cons_succ, List.cons_append, List.nil_append, List.append_nil, List.length_cons, List.length_nil]
      refine ⟨_, _, _, _, _, _, _, _, _, _, _, _, _, _, _, _, _, _, _, _, _, _, _, _, _, _, _, _, _, _, _, _, _, _, _, _, _, _, _, rfl, ?_, .inl rfl⟩
      rcases ht with ht | ⟨h1, h2, h3, h4, h5, h6⟩
      · exact .inl ht
      · exact .inr ⟨h1, h2, h3, h4, by omega, h6⟩
  · rintro l ρ2 ⟨b, a0, a1, a2, a3, a4, a5, a6, a7, s, a9, a10, z0, z1, z2, z3, z4, z5, z6, z7, z8, z9, z10, z11, z12, z13, z14, z15, z16, z17, z18, z19, z20, z21, z22, z23, z24, z25, e, rfl, ht, hb⟩ eρ
    simp only [List.cons_append, List.nil_append] at eρ
    subst eρ
    refine ⟨rfl, ?_⟩
    refine To.ite (fun cc => ?_) (fun cc => ?_) <;> simp only [X.den, X.dens, X.denss, D.int_i, D.boo_b, D.str_s, D.rows_l, List.getD_cons_zero, List.getD_cons_succ, List.cons_append, List.nil_append, List.append_nil, List.length_cons, List.length_nil, decide_eq_true_eq, decide_eq_false_iff_not, Bool.not_eq_true', Bool.not_eq_false', Bool.and_eq_true, Bool.and_eq_false_iff, Bool.true_eq_false, Bool.false_eq_true, Bool.not_true, Bool.not_false, eq_self] at cc
    · refine To.ret ?_
      simp only [X.den, X.dens, X.denss, D.int_i, D.boo_b, D.str_s, D.rows_l, List.getD_cons_zero, List.getD_cons_succ, List.cons_append, List.nil_append, List.append_nil, List.length_cons, List.length_nil]
      exact ⟨_, _, _, _, _, _, _, _, _, _, _, _, rfl, ht, by omega⟩
    · refine To.ret ?_
      simp only [X.den, X.dens, X.denss, D.int_i, D.boo_b, D.str_s, D.rows_l, List.getD_cons_zero, List.getD_cons_succ, List.cons_append, List.nil_append, List.append_nil, List.length_cons, List.length_nil]
      exact ⟨_, _, _, _, _, _, _, _, _, _, _, _, rfl, ht, .inl rfl⟩
end Go.Proofs.Ytladhlgibapohaa
