/- Fixes that are merged, in numbers. -/
import Derived.Test.YtladhlgibapohaaFusT
set_option linter.unusedVariables false
set_option linter.unusedSimpArgs false
namespace Go.Proofs.Ytladhlgibapohaa
open Go.RowKit Fx
def srcM9 : Models := Models.on srcN_K.f (srcN_T.run noM 0) noM
theorem srcFixN_ok : ConOk Try.prog srcFixN_K (srcFixN_T.run srcM9 0) := con_run follows (one_con (srcN_ok.to _) no_cons) srcFixN_t rfl 0
def srcNM : Models := Models.on srcN_K.f (srcN_T.run noM 0) (Models.on srcFixN_K.f (srcFixN_T.run srcM9 0) noM)
theorem srcNow_ok : ConOk Try.prog srcNow_K (srcNow_T.run srcNM 30) := con_run follows (one_con (srcN_ok.to _) (one_con (srcFixN_ok.to _) no_cons)) srcNow_t rfl 30
theorem fCheck_ok : ConOk Try.prog fCheck_K (fCheck_T.run noM 30) := con_run follows no_cons fCheck_t rfl 30
theorem fHalf_ok : ConOk Try.prog fHalf_K (fHalf_T.run noM 0) := con_run follows no_cons fHalf_t rfl 0
theorem fUp_ok : ConOk Try.prog fUp_K (fUp_T.run noM 0) := con_run follows no_cons fUp_t rfl 0
theorem fWeight_ok : ConOk Try.prog fWeight_K (fWeight_T.run noM 0) := con_run follows no_cons fWeight_t rfl 0
def mnM : Models := Models.on fHalf_K.f (fHalf_T.run noM 0) (Models.on fUp_K.f (fUp_T.run noM 0) (Models.on fWeight_K.f (fWeight_T.run noM 0) noM))
theorem fMean_ok : ConOk Try.prog fMean_K (fMean_T.run mnM 30) := con_run follows (one_con (fHalf_ok.to _) (one_con (fUp_ok.to _) (one_con (fWeight_ok.to _) no_cons))) fMean_t rfl 30
theorem fBox_ok : ConOk Try.prog fBox_K (fBox_T.run noM 0) := con_run follows no_cons fBox_t rfl 0
def fuM : Models := Models.on fCheck_K.f (fCheck_T.run noM 30) (Models.on fMean_K.f (fMean_T.run mnM 30) (Models.on fBox_K.f (fBox_T.run noM 0) noM))
theorem fFuse_ok : ConOk Try.prog fFuse_K (fFuse_T.run fuM 30) := con_run follows (one_con (fCheck_ok.to _) (one_con (fMean_ok.to _) (one_con (fBox_ok.to _) no_cons))) fFuse_t rfl 30
theorem sane09_ok : ConOk Try.prog sane09_K fun _ => some [.b true] :=
  con_of follows (M := noM) no_cons sane09_t fun ds outs _ h => by
    injection h with h
    subst h
    exact ⟨fun i l h k => by simp [sane09_K] at k, 0, [.B true], ds, rfl, rfl⟩
/-- a row that is a fix -/
def FxRow (r : List D) : Prop := ∃ t x y e, r = [.i t, .i x, .i y, .i e] ∧ (-100000000 ≤ x ∧ x ≤ 100000000) ∧ (-100000000 ≤ y ∧ y ≤ 100000000) ∧ 1 ≤ e ∧ e ≤ 100000
theorem getD_mem9 {fs : List (List D)} {k : Int} (h0 : 0 ≤ k) (h1 : k < fs.length) : fs.getD k.toNat [] ∈ fs := by
  rw [List.getD_eq_getElem?_getD, List.getElem?_eq_getElem (by omega), Option.getD_some]
  exact List.getElem_mem _
theorem srcFixN_to {rows : List (List D)} {at_ t : Int} (h : SrcOk rows at_) :
    ∃ l, srcFixN_T.run srcM9 0 [.l rows, .i at_, .i t] = some l ∧ ∃ x y e at', l = [.i t, .i x, .i y, .i e, .l rows, .i at'] ∧ (-30 ≤ x ∧ x ≤ 1000) ∧ (-20 ≤ y ∧ y ≤ 5) ∧ (1 ≤ e ∧ e ≤ 200) ∧ SrcOk rows at' := by
  refine run_to ?_
  unfold srcFixN_T
  refine To.viaK (by (try simp (disch := omega) only [X.den, X.dens, X.denss, D.int_i, D.boo_b, D.str_s, D.rows_l, List.getD_cons_zero, List.getD_cons_succ, List.cons_append, List.nil_append, List.append_nil, List.length_cons, List.length_nil, decide_eq_true_eq, decide_eq_false_iff_not, Bool.not_eq_true', Bool.not_eq_false', Bool.and_eq_true, Bool.and_eq_false_iff, Bool.true_eq_false, Bool.false_eq_true, Bool.not_true, Bool.not_false, eq_self, D.len_l, wr64, not_true_eq_false, not_false_eq_true]); exact srcN_to h (by omega) (by omega)) ?_
  rintro _ ρ2 ⟨r2, t2, rfl, p2, q2, h2⟩ eρ
  refine ⟨rfl, ?_⟩
  simp only [List.cons_append, List.nil_append] at eρ
  subst eρ
  refine To.need (by simp only [X.den, X.dens, X.denss, D.int_i, D.boo_b, D.str_s, D.rows_l, List.getD_cons_zero, List.getD_cons_succ, List.cons_append, List.nil_append, List.append_nil, List.length_cons, List.length_nil, decide_eq_true_eq, decide_eq_false_iff_not, Bool.not_eq_true', Bool.not_eq_false', Bool.and_eq_true, Bool.and_eq_false_iff, Bool.true_eq_false, Bool.false_eq_true, Bool.not_true, Bool.not_false, eq_self]; omega) ?_
  refine To.viaK (by (try simp (disch := omega) only [X.den, X.dens, X.denss, D.int_i, D.boo_b, D.str_s, D.rows_l, List.getD_cons_zero, List.getD_cons_succ, List.cons_append, List.nil_append, List.append_nil, List.length_cons, List.length_nil, decide_eq_true_eq, decide_eq_false_iff_not, Bool.not_eq_true', Bool.not_eq_false', Bool.and_eq_true, Bool.and_eq_false_iff, Bool.true_eq_false, Bool.false_eq_true, Bool.not_true, Bool.not_false, eq_self, D.len_l, wr64, not_true_eq_false, not_false_eq_true]); exact srcN_to h2 (by omega) (by omega)) ?_
  rintro _ ρ2 ⟨r3, t3, rfl, p3, q3, h3⟩ eρ
  refine ⟨rfl, ?_⟩
  simp only [List.cons_append, List.nil_append] at eρ
  subst eρ
  refine To.need (by simp only [X.den, X.dens, X.denss, D.int_i, D.boo_b, D.str_s, D.rows_l, List.getD_cons_zero, List.getD_cons_succ, List.cons_append, List.nil_append, List.append_nil, List.length_cons, List.length_nil, decide_eq_true_eq, decide_eq_false_iff_not, Bool.not_eq_true', Bool.not_eq_false', Bool.and_eq_true, Bool.and_eq_false_iff, Bool.true_eq_false, Bool.false_eq_true, Bool.not_true, Bool.not_false, eq_self]; omega) ?_
  refine To.viaK (by (try simp (disch := omega) only [X.den, X.dens, X.denss, D.int_i, D.boo_b, D.str_s, D.rows_l, List.getD_cons_zero, List.getD_cons_succ, List.cons_append, List.nil_append, List.append_nil, List.length_cons, List.length_nil, decide_eq_true_eq, decide_eq_false_iff_not, Bool.not_eq_true', Bool.not_eq_false', Bool.and_eq_true, Bool.and_eq_false_iff, Bool.true_eq_false, Bool.false_eq_true, Bool.not_true, Bool.not_false, eq_self, D.len_l, wr64, not_true_eq_false, not_false_eq_true]); exact srcN_to h3 (by omega) (by omega)) ?_
  rintro _ ρ2 ⟨r4, t4, rfl, p4, q4, h4⟩ eρ
  refine ⟨rfl, ?_⟩
  simp only [List.cons_append, List.nil_append] at eρ
  subst eρ
  refine To.need (by simp only [X.den, X.dens, X.denss, D.int_i, D.boo_b, D.str_s, D.rows_l, List.getD_cons_zero, List.getD_cons_succ, List.cons_append, List.nil_append, List.append_nil, List.length_cons, List.length_nil, decide_eq_true_eq, decide_eq_false_iff_not, Bool.not_eq_true', Bool.not_eq_false', Bool.and_eq_true, Bool.and_eq_false_iff, Bool.true_eq_false, Bool.false_eq_true, Bool.not_true, Bool.not_false, eq_self]; omega) ?_
  obtain ⟨a, ha, ea⟩ := pick_cell (zs := [0, 0, 1, 20, -30, 1000]) p2 q2
  have ea : (D.l [[.i 0], [.i 0], [.i 1], [.i 20], [.i (-30)], [.i 1000]]).cell r2 0 = .i a := ea
  obtain ⟨b, hb, eb⟩ := pick_cell (zs := [0, 0, 5, -20]) p3 q3
  have eb : (D.l [[.i 0], [.i 0], [.i 5], [.i (-20)]]).cell r3 0 = .i b := eb
  obtain ⟨c, hc, ec⟩ := pick_cell (zs := [1, 10, 50, 200]) p4 q4
  have ec : (D.l [[.i 1], [.i 10], [.i 50], [.i 200]]).cell r4 0 = .i c := ec
  refine To.ret ?_
  simp only [X.den, X.dens, X.denss, D.int_i, D.boo_b, D.str_s, D.rows_l, List.getD_cons_zero, List.getD_cons_succ, List.cons_append, List.nil_append, List.append_nil, List.length_cons, List.length_nil, ea, eb, ec]
  simp only [List.mem_cons, List.not_mem_nil, or_false] at ha hb hc
  exact ⟨_, _, _, _, rfl, by omega, by omega, by omega, h4⟩
theorem srcNow_to {rows : List (List D)} {at_ n : Int} (h : SrcOk rows at_) (n0 : 0 ≤ n) (n1 : n ≤ 20) :
    ∃ l, srcNow_T.run srcNM 30 [.l rows, .i at_, .i n] = some l ∧ ∃ fs at', l = [.l fs, .l rows, .i at'] ∧ (fs.length : Int) ≤ n ∧ (∀ r ∈ fs, FxRow r) ∧ SrcOk rows at' := by
  refine run_to ?_
  unfold srcNow_T
  refine To.viaK (by (try simp (disch := omega) only [X.den, X.dens, X.denss, D.int_i, D.boo_b, D.str_s, D.rows_l, List.getD_cons_zero, List.getD_cons_succ, List.cons_append, List.nil_append, List.append_nil, List.length_cons, List.length_nil, decide_eq_true_eq, decide_eq_false_iff_not, Bool.not_eq_true', Bool.not_eq_false', Bool.and_eq_true, Bool.and_eq_false_iff, Bool.true_eq_false, Bool.false_eq_true, Bool.not_true, Bool.not_false, eq_self, D.len_l, wr64, not_true_eq_false, not_false_eq_true]); exact srcN_to h (by omega) (by omega)) ?_
  rintro _ ρ2 ⟨r, t1, rfl, p, q, h1⟩ eρ
  refine ⟨rfl, ?_⟩
  simp only [List.cons_append, List.nil_append] at eρ
  subst eρ
  refine To.loopK (fun m l => ∃ fs at_ k, l = [.l fs, .l rows, .i at_, .i k] ∧ SrcOk rows at_ ∧ k = m ∧ k + fs.length ≤ n ∧ ∀ r ∈ fs, FxRow r) (fun l => ∃ fs at_, l = [.l fs, .l rows, .i at_] ∧ SrcOk rows at_ ∧ (fs.length : Int) ≤ n ∧ ∀ r ∈ fs, FxRow r) r.toNat (by omega) ?_ ?_ ?_
  · exact ⟨[], t1, r, by simp only [X.den, X.dens, X.denss, D.int_i, D.boo_b, D.str_s, D.rows_l, List.getD_cons_zero, List.getD_cons_succ, List.cons_append, List.nil_append, List.append_nil, List.length_cons, List.length_nil], h1, by omega, by simp; omega, by simp⟩
  · rintro m l ρ2 ⟨fs, a, k, rfl, hs, hk, hn, hf⟩ eρ
    simp only [List.cons_append, List.nil_append] at eρ
    subst eρ
    refine To.ite (fun c => ?_) (fun c => ?_) <;> simp only [X.den, X.dens, X.denss, D.int_i, D.boo_b, D.str_s, D.rows_l, List.getD_cons_zero, List.getD_cons_succ, List.cons_append, List.nil_append, List.append_nil, List.length_cons, List.length_nil, decide_eq_true_eq, decide_eq_false_iff_not, Bool.not_eq_true', Bool.not_eq_false', Bool.and_eq_true, Bool.and_eq_false_iff, Bool.true_eq_false, Bool.false_eq_true, Bool.not_true, Bool.not_false, eq_self] at c
    · refine To.viaK (by (try simp (disch := omega) only [X.den, X.dens, X.denss, D.int_i, D.boo_b, D.str_s, D.rows_l, List.getD_cons_zero, List.getD_cons_succ, List.cons_append, List.nil_append, List.append_nil, List.length_cons, List.length_nil, decide_eq_true_eq, decide_eq_false_iff_not, Bool.not_eq_true', Bool.not_eq_false', Bool.and_eq_true, Bool.and_eq_false_iff, Bool.true_eq_false, Bool.false_eq_true, Bool.not_true, Bool.not_false, eq_self, D.len_l, wr64, not_true_eq_false, not_false_eq_true]); exact srcFixN_to hs) ?_
      rintro _ ρ2 ⟨x, y, e, t3, rfl, hx, hy, he, h3⟩ eρ
      refine ⟨rfl, ?_⟩
      simp only [List.cons_append, List.nil_append] at eρ
      subst eρ
      refine To.need (by simp only [X.den, X.dens, X.denss, D.int_i, D.boo_b, D.str_s, D.rows_l, List.getD_cons_zero, List.getD_cons_succ, List.cons_append, List.nil_append, List.append_nil, List.length_cons, List.length_nil, decide_eq_true_eq, decide_eq_false_iff_not, Bool.not_eq_true', Bool.not_eq_false', Bool.and_eq_true, Bool.and_eq_false_iff, Bool.true_eq_false, Bool.false_eq_true, Bool.not_true, Bool.not_false, eq_self, D.len_l]; omega) ?_
      refine To.ret (.inl ⟨rfl, m - 1, by omega, ?_⟩)
      simp (disch := omega) only [X.den, X.dens, X.denss, D.int_i, D.boo_b, D.str_s, D.rows_l, List.getD_cons_zero, List.getD_cons_succ, List.cons_append, List.nil_append, List.append_nil, List.length_cons, List.length_nil, wr64]
      refine ⟨_, _, _, rfl, h3, by omega, by rw [List.length_append]; simp only [List.length_cons, List.length_nil]; omega, ?_⟩
      intro r hr
      rcases List.mem_append.1 hr with hr | hr
      · exact hf r hr
      · rw [List.mem_singleton] at hr
        exact ⟨_, _, _, _, hr, by omega, by omega, by omega, by omega⟩
    · exact To.ret (.inr ⟨rfl, fs, a, by simp only [X.den, X.dens, X.denss, D.int_i, D.boo_b, D.str_s, D.rows_l, List.getD_cons_zero, List.getD_cons_succ, List.cons_append, List.nil_append, List.append_nil, List.length_cons, List.length_nil], hs, by omega, hf⟩)
  · rintro l ρ2 ⟨fs, a, rfl, hs, hn, hf⟩ eρ
    simp only [List.cons_append, List.nil_append] at eρ
    subst eρ
    refine ⟨rfl, To.ret ?_⟩
    simp only [X.den, X.dens, X.denss, D.int_i, D.boo_b, D.str_s, D.rows_l, List.getD_cons_zero, List.getD_cons_succ, List.cons_append, List.nil_append, List.append_nil, List.length_cons, List.length_nil]
    exact ⟨_, _, rfl, hn, hf, hs⟩
theorem half_to {n d : Int} (n0 : -1000000000000000000 ≤ n) (n1 : n ≤ 1000000000000000000) (d0 : 1 ≤ d) (d1 : d ≤ 1000000000) : ∃ l, fHalf_T.run noM 0 [.i n, .i d] = some l ∧ l = [.i (hdv n d), .i 0] := by
  obtain ⟨q1, q2⟩ := tdiv_down (n := n) (show 0 < d by omega)
  have e := Int.mul_ediv_add_emod n d
  have r0 := Int.emod_nonneg n (show d ≠ 0 by omega)
  have r1 := Int.emod_lt_of_pos n (show 0 < d by omega)
  have hv := hdv_of e.symm r0 r1
  obtain ⟨a1, a2⟩ := tdiv_abs d0 n0 n1
  have t1 := Int.lt_tmod_of_pos n (show 0 < d by omega)
  have t2 := Int.tmod_lt_of_pos n (show 0 < d by omega)
  refine run_to ?_
  unfold fHalf_T
  by_cases hneg : n.tmod d < 0
  · rw [if_pos hneg] at q1 q2
    (repeat' (first
        | (refine To.subK (fun K hK => ?_))
        | (refine To.need (by simp (disch := omega) only [X.den, X.dens, X.denss, D.int_i, D.boo_b, D.str_s, D.rows_l, List.getD_cons_zero, List.getD_cons_succ, List.cons_append, List.nil_append, List.append_nil, List.length_cons, List.length_nil, decide_eq_true_eq, decide_eq_false_iff_not, Bool.not_eq_true', Bool.not_eq_false', Bool.and_eq_true, Bool.and_eq_false_iff, Bool.true_eq_false, Bool.false_eq_true, Bool.not_true, Bool.not_false, eq_self, D.len_l, wr64, not_true_eq_false, not_false_eq_true] <;> omega) ?_)
        | (refine To.ite (fun c => ?_) (fun c => ?_) <;> ((try simp (disch := omega) only [X.den, X.dens, X.denss, D.int_i, D.boo_b, D.str_s, D.rows_l, List.getD_cons_zero, List.getD_cons_succ, List.cons_append, List.nil_append, List.append_nil, List.length_cons, List.length_nil, decide_eq_true_eq, decide_eq_false_iff_not, Bool.not_eq_true', Bool.not_eq_false', Bool.and_eq_true, Bool.and_eq_false_iff, Bool.true_eq_false, Bool.false_eq_true, Bool.not_true, Bool.not_false, eq_self, D.len_l, wr64, not_true_eq_false, not_false_eq_true] at c) <;> (try (exfalso; omega))))
        | (refine To.ret ⟨rfl, ?_⟩; (try simp (disch := omega) only [X.den, X.dens, X.denss, D.int_i, D.boo_b, D.str_s, D.rows_l, List.getD_cons_zero, List.getD_cons_succ, List.cons_append, List.nil_append, List.append_nil, List.length_cons, List.length_nil, decide_eq_true_eq, decide_eq_false_iff_not, Bool.not_eq_true', Bool.not_eq_false', Bool.and_eq_true, Bool.and_eq_false_iff, Bool.true_eq_false, Bool.false_eq_true, Bool.not_true, Bool.not_false, eq_self, D.len_l, wr64, not_true_eq_false, not_false_eq_true]); refine hK _ _ (by simp only [List.cons_append, List.nil_append]; first | done | rfl) ?_; clear hK; clear K)))
    all_goals (refine To.ret ?_; simp only [X.den, X.dens, X.denss, D.int_i, D.boo_b, D.str_s, D.rows_l, List.getD_cons_zero, List.getD_cons_succ, List.cons_append, List.nil_append, List.append_nil, List.length_cons, List.length_nil]; simp only [List.cons.injEq, D.i.injEq, and_true]; rw [hv]; split <;> omega)
  · rw [if_neg hneg] at q1 q2
    (repeat' (first
        | (refine To.subK (fun K hK => ?_))
        | (refine To.need (by simp (disch := omega) only [X.den, X.dens, X.denss, D.int_i, D.boo_b, D.str_s, D.rows_l, List.getD_cons_zero, List.getD_cons_succ, List.cons_append, List.nil_append, List.append_nil, List.length_cons, List.length_nil, decide_eq_true_eq, decide_eq_false_iff_not, Bool.not_eq_true', Bool.not_eq_false', Bool.and_eq_true, Bool.and_eq_false_iff, Bool.true_eq_false, Bool.false_eq_true, Bool.not_true, Bool.not_false, eq_self, D.len_l, wr64, not_true_eq_false, not_false_eq_true] <;> omega) ?_)
        | (refine To.ite (fun c => ?_) (fun c => ?_) <;> ((try simp (disch := omega) only [X.den, X.dens, X.denss, D.int_i, D.boo_b, D.str_s, D.rows_l, List.getD_cons_zero, List.getD_cons_succ, List.cons_append, List.nil_append, List.append_nil, List.length_cons, List.length_nil, decide_eq_true_eq, decide_eq_false_iff_not, Bool.not_eq_true', Bool.not_eq_false', Bool.and_eq_true, Bool.and_eq_false_iff, Bool.true_eq_false, Bool.false_eq_true, Bool.not_true, Bool.not_false, eq_self, D.len_l, wr64, not_true_eq_false, not_false_eq_true] at c) <;> (try (exfalso; omega))))
        | (refine To.ret ⟨rfl, ?_⟩; (try simp (disch := omega) only [X.den, X.dens, X.denss, D.int_i, D.boo_b, D.str_s, D.rows_l, List.getD_cons_zero, List.getD_cons_succ, List.cons_append, List.nil_append, List.append_nil, List.length_cons, List.length_nil, decide_eq_true_eq, decide_eq_false_iff_not, Bool.not_eq_true', Bool.not_eq_false', Bool.and_eq_true, Bool.and_eq_false_iff, Bool.true_eq_false, Bool.false_eq_true, Bool.not_true, Bool.not_false, eq_self, D.len_l, wr64, not_true_eq_false, not_false_eq_true]); refine hK _ _ (by simp only [List.cons_append, List.nil_append]; first | done | rfl) ?_; clear hK; clear K)))
    all_goals (refine To.ret ?_; simp only [X.den, X.dens, X.denss, D.int_i, D.boo_b, D.str_s, D.rows_l, List.getD_cons_zero, List.getD_cons_succ, List.cons_append, List.nil_append, List.append_nil, List.length_cons, List.length_nil]; simp only [List.cons.injEq, D.i.injEq, and_true]; rw [hv]; split <;> omega)
theorem up_to {n d : Int} (n0 : 0 ≤ n) (n1 : n ≤ 1000000000000000000) (d0 : 1 ≤ d) (d1 : d ≤ 1000000000) : ∃ l, fUp_T.run noM 0 [.i n, .i d] = some l ∧ ∃ u, l = [.i u, .i 0] ∧ ((0 < n % d ∧ u = n / d + 1) ∨ (n % d = 0 ∧ u = n / d)) := by
  obtain ⟨q1, q2⟩ := tdiv_down (n := n) (show 0 < d by omega)
  have r0 := Int.emod_nonneg n (show d ≠ 0 by omega)
  have r1 := Int.emod_lt_of_pos n (show 0 < d by omega)
  obtain ⟨a1, a2⟩ := tdiv_abs d0 (show -1000000000000000000 ≤ n by omega) n1
  have t1 := Int.lt_tmod_of_pos n (show 0 < d by omega)
  have t2 := Int.tmod_lt_of_pos n (show 0 < d by omega)
  have t3 := Int.tmod_nonneg d n0
  have hneg : ¬ n.tmod d < 0 := by omega
  rw [if_neg hneg] at q1 q2
  refine run_to ?_
  unfold fUp_T
  (repeat' (first
      | (refine To.subK (fun K hK => ?_))
      | (refine To.need (by simp (disch := omega) only [X.den, X.dens, X.denss, D.int_i, D.boo_b, D.str_s, D.rows_l, List.getD_cons_zero, List.getD_cons_succ, List.cons_append, List.nil_append, List.append_nil, List.length_cons, List.length_nil, decide_eq_true_eq, decide_eq_false_iff_not, Bool.not_eq_true', Bool.not_eq_false', Bool.and_eq_true, Bool.and_eq_false_iff, Bool.true_eq_false, Bool.false_eq_true, Bool.not_true, Bool.not_false, eq_self, D.len_l, wr64, not_true_eq_false, not_false_eq_true] <;> omega) ?_)
      | (refine To.ite (fun c => ?_) (fun c => ?_) <;> ((try simp (disch := omega) only [X.den, X.dens, X.denss, D.int_i, D.boo_b, D.str_s, D.rows_l, List.getD_cons_zero, List.getD_cons_succ, List.cons_append, List.nil_append, List.append_nil, List.length_cons, List.length_nil, decide_eq_true_eq, decide_eq_false_iff_not, Bool.not_eq_true', Bool.not_eq_false', Bool.and_eq_true, Bool.and_eq_false_iff, Bool.true_eq_false, Bool.false_eq_true, Bool.not_true, Bool.not_false, eq_self, D.len_l, wr64, not_true_eq_false, not_false_eq_true] at c) <;> (try (exfalso; omega))))
      | (refine To.ret ⟨rfl, ?_⟩; (try simp (disch := omega) only [X.den, X.dens, X.denss, D.int_i, D.boo_b, D.str_s, D.rows_l, List.getD_cons_zero, List.getD_cons_succ, List.cons_append, List.nil_append, List.append_nil, List.length_cons, List.length_nil, decide_eq_true_eq, decide_eq_false_iff_not, Bool.not_eq_true', Bool.not_eq_false', Bool.and_eq_true, Bool.and_eq_false_iff, Bool.true_eq_false, Bool.false_eq_true, Bool.not_true, Bool.not_false, eq_self, D.len_l, wr64, not_true_eq_false, not_false_eq_true]); refine hK _ _ (by simp only [List.cons_append, List.nil_append]; first | done | rfl) ?_; clear hK; clear K)))
  all_goals (refine To.ret ?_; simp only [X.den, X.dens, X.denss, D.int_i, D.boo_b, D.str_s, D.rows_l, List.getD_cons_zero, List.getD_cons_succ, List.cons_append, List.nil_append, List.append_nil, List.length_cons, List.length_nil]; refine ⟨_, rfl, ?_⟩; omega)
def wt (e : Int) : Int := max 1 (1000000000 / (e * e))
theorem sq_err {e : Int} (e0 : 1 ≤ e) (e1 : e ≤ 100000) : 1 ≤ e * e ∧ e * e ≤ 10000000000 ∧ (1000000000 : Int).tdiv (e * e) = 1000000000 / (e * e) ∧ 0 ≤ (1000000000 : Int) / (e * e) ∧ (1000000000 : Int) / (e * e) ≤ 1000000000 := by
  have a := Int.mul_le_mul e0 e0 (by decide) (by omega)
  have b := Int.mul_le_mul e1 e1 (by omega) (by decide)
  refine ⟨by omega, by omega, Int.tdiv_eq_ediv_of_nonneg (by decide), Int.ediv_nonneg (by decide) (by omega), Int.ediv_le_self _ (by decide)⟩
theorem weight_to {e : Int} (e0 : 1 ≤ e) (e1 : e ≤ 100000) : ∃ l, fWeight_T.run noM 0 [.i e] = some l ∧ l = [.i (wt e)] := by
  obtain ⟨s1, s2, s3, s4, s5⟩ := sq_err e0 e1
  refine run_to ?_
  unfold fWeight_T
  (repeat' (first
      | (refine To.subK (fun K hK => ?_))
      | (refine To.need (by simp (disch := omega) only [X.den, X.dens, X.denss, D.int_i, D.boo_b, D.str_s, D.rows_l, List.getD_cons_zero, List.getD_cons_succ, List.cons_append, List.nil_append, List.append_nil, List.length_cons, List.length_nil, decide_eq_true_eq, decide_eq_false_iff_not, Bool.not_eq_true', Bool.not_eq_false', Bool.and_eq_true, Bool.and_eq_false_iff, Bool.true_eq_false, Bool.false_eq_true, Bool.not_true, Bool.not_false, eq_self, D.len_l, wr64, not_true_eq_false, not_false_eq_true, s3] <;> omega) ?_)
      | (refine To.ite (fun c => ?_) (fun c => ?_) <;> ((try simp (disch := omega) only [X.den, X.dens, X.denss, D.int_i, D.boo_b, D.str_s, D.rows_l, List.getD_cons_zero, List.getD_cons_succ, List.cons_append, List.nil_append, List.append_nil, List.length_cons, List.length_nil, decide_eq_true_eq, decide_eq_false_iff_not, Bool.not_eq_true', Bool.not_eq_false', Bool.and_eq_true, Bool.and_eq_false_iff, Bool.true_eq_false, Bool.false_eq_true, Bool.not_true, Bool.not_false, eq_self, D.len_l, wr64, not_true_eq_false, not_false_eq_true, s3] at c) <;> (try (exfalso; omega))))
      | (refine To.ret ⟨rfl, ?_⟩; (try simp (disch := omega) only [X.den, X.dens, X.denss, D.int_i, D.boo_b, D.str_s, D.rows_l, List.getD_cons_zero, List.getD_cons_succ, List.cons_append, List.nil_append, List.append_nil, List.length_cons, List.length_nil, decide_eq_true_eq, decide_eq_false_iff_not, Bool.not_eq_true', Bool.not_eq_false', Bool.and_eq_true, Bool.and_eq_false_iff, Bool.true_eq_false, Bool.false_eq_true, Bool.not_true, Bool.not_false, eq_self, D.len_l, wr64, not_true_eq_false, not_false_eq_true, s3]); refine hK _ _ (by simp only [List.cons_append, List.nil_append]; first | done | rfl) ?_; clear hK; clear K)))
  all_goals (refine To.ret ?_; simp (disch := omega) only [X.den, X.dens, X.denss, D.int_i, D.boo_b, D.str_s, D.rows_l, List.getD_cons_zero, List.getD_cons_succ, List.cons_append, List.nil_append, List.append_nil, List.length_cons, List.length_nil, wr64, s3]; rfl)
theorem wt_rng {e : Int} (e0 : 1 ≤ e) (e1 : e ≤ 100000) : 1 ≤ wt e ∧ wt e ≤ 1000000000 := by
  obtain ⟨s1, s2, s3, s4, s5⟩ := sq_err e0 e1
  unfold wt
  omega
theorem check_to {fs : List (List D)} (hf : ∀ r ∈ fs, FxRow r) (h0 : 1 ≤ fs.length) (h1 : fs.length ≤ 8) : ∃ l, fCheck_T.run noM 30 [.l fs] = some l ∧ l = [.i 0] := by
  refine run_to ?_
  unfold fCheck_T
  refine To.no (by simp only [X.den, X.dens, X.denss, D.int_i, D.boo_b, D.str_s, D.rows_l, List.getD_cons_zero, List.getD_cons_succ, List.cons_append, List.nil_append, List.append_nil, List.length_cons, List.length_nil, decide_eq_true_eq, decide_eq_false_iff_not, Bool.not_eq_true', Bool.not_eq_false', Bool.and_eq_true, Bool.and_eq_false_iff, Bool.true_eq_false, Bool.false_eq_true, Bool.not_true, Bool.not_false, eq_self, D.len_l]; omega) (To.no (by simp only [X.den, X.dens, X.denss, D.int_i, D.boo_b, D.str_s, D.rows_l, List.getD_cons_zero, List.getD_cons_succ, List.cons_append, List.nil_append, List.append_nil, List.length_cons, List.length_nil, decide_eq_true_eq, decide_eq_false_iff_not, Bool.not_eq_true', Bool.not_eq_false', Bool.and_eq_true, Bool.and_eq_false_iff, Bool.true_eq_false, Bool.false_eq_true, Bool.not_true, Bool.not_false, eq_self, D.len_l]; omega) ?_)
  refine To.loopK (fun m l => ∃ i, l = [.i i] ∧ 0 ≤ i ∧ i + m = fs.length) (fun l => l = [.i 1, .i 0, .i 0, .i 0, .i 0, .i 0, .i 0, .i 0, .i 0, .i 0, .i 0, .i 0, .i 0]) fs.length (by omega) ?_ ?_ ?_
  · exact ⟨0, by simp only [X.den, X.dens, X.denss, D.int_i, D.boo_b, D.str_s, D.rows_l, List.getD_cons_zero, List.getD_cons_succ, List.cons_append, List.nil_append, List.append_nil, List.length_cons, List.length_nil], by omega, by omega⟩
  · rintro m l ρ2 ⟨i, rfl, i0, i1⟩ eρ
    simp only [List.cons_append, List.nil_append] at eρ
    subst eρ
    refine To.ite (fun c => ?_) (fun c => ?_) <;> simp only [X.den, X.dens, X.denss, D.int_i, D.boo_b, D.str_s, D.rows_l, List.getD_cons_zero, List.getD_cons_succ, List.cons_append, List.nil_append, List.append_nil, List.length_cons, List.length_nil, decide_eq_true_eq, decide_eq_false_iff_not, Bool.not_eq_true', Bool.not_eq_false', Bool.and_eq_true, Bool.and_eq_false_iff, Bool.true_eq_false, Bool.false_eq_true, Bool.not_true, Bool.not_false, eq_self, D.len_l] at c
    · refine To.need (by simp only [X.den, X.dens, X.denss, D.int_i, D.boo_b, D.str_s, D.rows_l, List.getD_cons_zero, List.getD_cons_succ, List.cons_append, List.nil_append, List.append_nil, List.length_cons, List.length_nil, decide_eq_true_eq, decide_eq_false_iff_not, Bool.not_eq_true', Bool.not_eq_false', Bool.and_eq_true, Bool.and_eq_false_iff, Bool.true_eq_false, Bool.false_eq_true, Bool.not_true, Bool.not_false, eq_self, D.len_l]; omega) ?_
      obtain ⟨t, x, y, e, er, b1, b2, b3, b4⟩ := hf _ (getD_mem9 i0 (by omega))
      have c1 : (D.l fs).cell i 1 = .i x := by rw [cell_of, er]; rfl
      have c2 : (D.l fs).cell i 2 = .i y := by rw [cell_of, er]; rfl
      have c3 : (D.l fs).cell i 3 = .i e := by rw [cell_of, er]; rfl
      obtain ⟨s1, s2, s3, s4, s5⟩ := sq_err b3 b4
      (repeat' (first
          | (refine To.subK (fun K hK => ?_))
          | (refine To.need (by simp (disch := omega) only [X.den, X.dens, X.denss, D.int_i, D.boo_b, D.str_s, D.rows_l, List.getD_cons_zero, List.getD_cons_succ, List.cons_append, List.nil_append, List.append_nil, List.length_cons, List.length_nil, decide_eq_true_eq, decide_eq_false_iff_not, Bool.not_eq_true', Bool.not_eq_false', Bool.and_eq_true, Bool.and_eq_false_iff, Bool.true_eq_false, Bool.false_eq_true, Bool.not_true, Bool.not_false, eq_self, D.len_l, wr64, not_true_eq_false, not_false_eq_true, c1, c2, c3, s3] <;> omega) ?_)
          | (refine To.ite (fun c => ?_) (fun c => ?_) <;> ((try simp (disch := omega) only [X.den, X.dens, X.denss, D.int_i, D.boo_b, D.str_s, D.rows_l, List.getD_cons_zero, List.getD_cons_succ, List.cons_append, List.nil_append, List.append_nil, List.length_cons, List.length_nil, decide_eq_true_eq, decide_eq_false_iff_not, Bool.not_eq_true', Bool.not_eq_false', Bool.and_eq_true, Bool.and_eq_false_iff, Bool.true_eq_false, Bool.false_eq_true, Bool.not_true, Bool.not_false, eq_self, D.len_l, wr64, not_true_eq_false, not_false_eq_true, c1, c2, c3, s3] at c) <;> (try (exfalso; omega))))
          | (refine To.ret ⟨rfl, ?_⟩; (try simp (disch := omega) only [X.den, X.dens, X.denss, D.int_i, D.boo_b, D.str_s, D.rows_l, List.getD_cons_zero, List.getD_cons_succ, List.cons_append, List.nil_append, List.append_nil, List.length_cons, List.length_nil, decide_eq_true_eq, decide_eq_false_iff_not, Bool.not_eq_true', Bool.not_eq_false', Bool.and_eq_true, Bool.and_eq_false_iff, Bool.true_eq_false, Bool.false_eq_true, Bool.not_true, Bool.not_false, eq_self, D.len_l, wr64, not_true_eq_false, not_false_eq_true, c1, c2, c3, s3]); refine hK _ _ (by simp only [List.cons_append, List.nil_append]; first | done | rfl) ?_; clear hK; clear K)))
      all_goals (refine To.ret (.inl ⟨rfl, m - 1, by omega, ?_⟩); simp (disch := omega) only [X.den, X.dens, X.denss, D.int_i, D.boo_b, D.str_s, D.rows_l, List.getD_cons_zero, List.getD_cons_succ, List.cons_append, List.nil_append, List.append_nil, List.length_cons, List.length_nil, wr64]; exact ⟨_, rfl, by omega, by omega⟩)
    · exact To.ret (.inr ⟨rfl, by simp only [X.den, X.dens, X.denss, D.int_i, D.boo_b, D.str_s, D.rows_l, List.getD_cons_zero, List.getD_cons_succ, List.cons_append, List.nil_append, List.append_nil, List.length_cons, List.length_nil]⟩)
  · rintro l ρ2 rfl eρ
    simp only [List.cons_append, List.nil_append] at eρ
    subst eρ
    exact ⟨rfl, To.no rfl (To.ret (by simp only [X.den, X.dens, X.denss, D.int_i, D.boo_b, D.str_s, D.rows_l, List.getD_cons_zero, List.getD_cons_succ, List.cons_append, List.nil_append, List.append_nil, List.length_cons, List.length_nil]))⟩
theorem check_none : ∃ l, fCheck_T.run noM 30 [.l []] = some l ∧ l = [.i 9] := by
  refine run_to ?_
  unfold fCheck_T
  exact To.yes rfl (To.ret rfl)
theorem hdv_between {n d lo hi : Int} (hd : 1 ≤ d) (h0 : lo * d ≤ n) (h1 : n ≤ hi * d) : lo ≤ hdv n d ∧ hdv n d ≤ hi := by
  unfold hdv
  constructor
  · rw [Int.le_ediv_iff_mul_le (by omega)]
    have : lo * (2 * d) = 2 * (lo * d) := by rw [Int.mul_left_comm]
    omega
  · have : (2 * n + d) / (2 * d) < hi + 1 := by
      rw [Int.ediv_lt_iff_lt_mul (by omega)]
      have : (hi + 1) * (2 * d) = 2 * (hi * d) + 2 * d := by rw [Int.add_mul, Int.mul_left_comm]; omega
      omega
    omega
theorem mean_to {fs : List (List D)} (hf : ∀ r ∈ fs, FxRow r) (h0 : 1 ≤ fs.length) (h1 : fs.length ≤ 8) :
    ∃ l, fMean_T.run mnM 30 [.l fs] = some l ∧ ∃ px py, l = [.i px, .i py] ∧ (-100000000 ≤ px ∧ px ≤ 100000000) ∧ (-100000000 ≤ py ∧ py ≤ 100000000) := by
  refine run_to ?_
  unfold fMean_T
  refine To.loopK (fun m l => ∃ g k, l = [.i g, .i k] ∧ 0 ≤ k ∧ k + m = fs.length ∧ (0 ≤ g ∧ g ≤ 1000000000) ∧ ∀ i : Int, 0 ≤ i → i < k → wt (((D.l fs).cell i 3).int) ≤ g) (fun l => ∃ g, l = [.i g] ∧ g ≤ 1000000000 ∧ ∀ i : Int, 0 ≤ i → i < fs.length → wt (((D.l fs).cell i 3).int) ≤ g) fs.length (by omega) ?_ ?_ ?_
  · exact ⟨0, 0, by simp only [X.den, X.dens, X.denss, D.int_i, D.boo_b, D.str_s, D.rows_l, List.getD_cons_zero, List.getD_cons_succ, List.cons_append, List.nil_append, List.append_nil, List.length_cons, List.length_nil], by omega, by omega, by omega, by intro i; omega⟩
  · rintro m l ρ2 ⟨g, k, rfl, k0, k1, g0, hg⟩ eρ
    simp only [List.cons_append, List.nil_append] at eρ
    subst eρ
    refine To.ite (fun c => ?_) (fun c => ?_) <;> simp only [X.den, X.dens, X.denss, D.int_i, D.boo_b, D.str_s, D.rows_l, List.getD_cons_zero, List.getD_cons_succ, List.cons_append, List.nil_append, List.append_nil, List.length_cons, List.length_nil, decide_eq_true_eq, decide_eq_false_iff_not, Bool.not_eq_true', Bool.not_eq_false', Bool.and_eq_true, Bool.and_eq_false_iff, Bool.true_eq_false, Bool.false_eq_true, Bool.not_true, Bool.not_false, eq_self, D.len_l] at c
    · refine To.need (by simp only [X.den, X.dens, X.denss, D.int_i, D.boo_b, D.str_s, D.rows_l, List.getD_cons_zero, List.getD_cons_succ, List.cons_append, List.nil_append, List.append_nil, List.length_cons, List.length_nil, decide_eq_true_eq, decide_eq_false_iff_not, Bool.not_eq_true', Bool.not_eq_false', Bool.and_eq_true, Bool.and_eq_false_iff, Bool.true_eq_false, Bool.false_eq_true, Bool.not_true, Bool.not_false, eq_self, D.len_l]; omega) ?_
      obtain ⟨t, x, y, e, er, b1, b2, b3, b4⟩ := hf _ (getD_mem9 k0 (by omega))
      have c3 : (D.l fs).cell k 3 = .i e := by rw [cell_of, er]; rfl
      obtain ⟨w0, w1⟩ := wt_rng b3 b4
      refine To.viaK (by (try simp (disch := omega) only [X.den, X.dens, X.denss, D.int_i, D.boo_b, D.str_s, D.rows_l, List.getD_cons_zero, List.getD_cons_succ, List.cons_append, List.nil_append, List.append_nil, List.length_cons, List.length_nil, decide_eq_true_eq, decide_eq_false_iff_not, Bool.not_eq_true', Bool.not_eq_false', Bool.and_eq_true, Bool.and_eq_false_iff, Bool.true_eq_false, Bool.false_eq_true, Bool.not_true, Bool.not_false, eq_self, D.len_l, wr64, not_true_eq_false, not_false_eq_true, c3]); exact weight_to b3 b4) ?_
      rintro _ ρ2 rfl eρ
      refine ⟨rfl, ?_⟩
      simp only [List.cons_append, List.nil_append] at eρ
      subst eρ
      refine To.ret (.inl ⟨rfl, m - 1, by omega, ?_⟩)
      simp (disch := omega) only [X.den, X.dens, X.denss, D.int_i, D.boo_b, D.str_s, D.rows_l, List.getD_cons_zero, List.getD_cons_succ, List.cons_append, List.nil_append, List.append_nil, List.length_cons, List.length_nil, wr64]
      refine ⟨_, _, rfl, by omega, by omega, by omega, fun i i0 i1 => ?_⟩
      by_cases e1 : i = k
      · subst e1; rw [c3]; simp only [D.int_i]; omega
      · have := hg i i0 (by omega); omega
    · refine To.ret (.inr ⟨rfl, g, by simp only [X.den, X.dens, X.denss, D.int_i, D.boo_b, D.str_s, D.rows_l, List.getD_cons_zero, List.getD_cons_succ, List.cons_append, List.nil_append, List.append_nil, List.length_cons, List.length_nil], g0.2, fun i i0 i1 => hg i i0 (by omega)⟩)
  rintro l ρ2 ⟨g, rfl, g1, hg⟩ eρ
  simp only [List.cons_append, List.nil_append] at eρ
  subst eρ
  refine ⟨rfl, ?_⟩
  refine To.loopK (fun m l => ∃ S X Y k, l = [.i S, .i X, .i Y, .i k] ∧ 0 ≤ k ∧ k + m = fs.length ∧ (k ≤ S ∧ S ≤ 1000 * k) ∧ (-100000000 * S ≤ X ∧ X ≤ 100000000 * S) ∧ (-100000000 * S ≤ Y ∧ Y ≤ 100000000 * S)) (fun l => ∃ S X Y, l = [.i S, .i X, .i Y] ∧ (1 ≤ S ∧ S ≤ 8000) ∧ (-100000000 * S ≤ X ∧ X ≤ 100000000 * S) ∧ (-100000000 * S ≤ Y ∧ Y ≤ 100000000 * S)) fs.length (by omega) ?_ ?_ ?_
  · exact ⟨0, 0, 0, 0, by simp only [X.den, X.dens, X.denss, D.int_i, D.boo_b, D.str_s, D.rows_l, List.getD_cons_zero, List.getD_cons_succ, List.cons_append, List.nil_append, List.append_nil, List.length_cons, List.length_nil], by omega, by omega, by omega, by omega, by omega⟩
  · rintro m l ρ2 ⟨S, U, V, k, rfl, k0, k1, hS, hX, hY⟩ eρ
    simp only [List.cons_append, List.nil_append] at eρ
    subst eρ
    refine To.ite (fun c => ?_) (fun c => ?_) <;> simp only [X.den, X.dens, X.denss, D.int_i, D.boo_b, D.str_s, D.rows_l, List.getD_cons_zero, List.getD_cons_succ, List.cons_append, List.nil_append, List.append_nil, List.length_cons, List.length_nil, decide_eq_true_eq, decide_eq_false_iff_not, Bool.not_eq_true', Bool.not_eq_false', Bool.and_eq_true, Bool.and_eq_false_iff, Bool.true_eq_false, Bool.false_eq_true, Bool.not_true, Bool.not_false, eq_self, D.len_l] at c
    · refine To.need (by simp only [X.den, X.dens, X.denss, D.int_i, D.boo_b, D.str_s, D.rows_l, List.getD_cons_zero, List.getD_cons_succ, List.cons_append, List.nil_append, List.append_nil, List.length_cons, List.length_nil, decide_eq_true_eq, decide_eq_false_iff_not, Bool.not_eq_true', Bool.not_eq_false', Bool.and_eq_true, Bool.and_eq_false_iff, Bool.true_eq_false, Bool.false_eq_true, Bool.not_true, Bool.not_false, eq_self, D.len_l]; omega) ?_
      obtain ⟨t, x, y, e, er, b1, b2, b3, b4⟩ := hf _ (getD_mem9 k0 (by omega))
      have c1 : (D.l fs).cell k 1 = .i x := by rw [cell_of, er]; rfl
      have c2 : (D.l fs).cell k 2 = .i y := by rw [cell_of, er]; rfl
      have c3 : (D.l fs).cell k 3 = .i e := by rw [cell_of, er]; rfl
      obtain ⟨w0, w1⟩ := wt_rng b3 b4
      have wg := hg k k0 (by omega)
      rw [c3] at wg
      simp only [D.int_i] at wg
      refine To.viaK (by (try simp (disch := omega) only [X.den, X.dens, X.denss, D.int_i, D.boo_b, D.str_s, D.rows_l, List.getD_cons_zero, List.getD_cons_succ, List.cons_append, List.nil_append, List.append_nil, List.length_cons, List.length_nil, decide_eq_true_eq, decide_eq_false_iff_not, Bool.not_eq_true', Bool.not_eq_false', Bool.and_eq_true, Bool.and_eq_false_iff, Bool.true_eq_false, Bool.false_eq_true, Bool.not_true, Bool.not_false, eq_self, D.len_l, wr64, not_true_eq_false, not_false_eq_true, c3]); exact weight_to b3 b4) ?_
      rintro _ ρ2 rfl eρ
      refine ⟨rfl, ?_⟩
      simp only [List.cons_append, List.nil_append] at eρ
      subst eρ
      generalize wt e = w at *
      refine To.viaK (by (try simp (disch := omega) only [X.den, X.dens, X.denss, D.int_i, D.boo_b, D.str_s, D.rows_l, List.getD_cons_zero, List.getD_cons_succ, List.cons_append, List.nil_append, List.append_nil, List.length_cons, List.length_nil, decide_eq_true_eq, decide_eq_false_iff_not, Bool.not_eq_true', Bool.not_eq_false', Bool.and_eq_true, Bool.and_eq_false_iff, Bool.true_eq_false, Bool.false_eq_true, Bool.not_true, Bool.not_false, eq_self, D.len_l, wr64, not_true_eq_false, not_false_eq_true, c3]); exact up_to (n := 1000 * w) (d := g) (by omega) (by omega) (by omega) (by omega)) ?_
      rintro _ ρ2 ⟨u, rfl, hu⟩ eρ
      refine ⟨rfl, ?_⟩
      simp only [List.cons_append, List.nil_append] at eρ
      subst eρ
      have hu1 : 1 ≤ u ∧ u ≤ 1000 := by
        have e := Int.mul_ediv_add_emod (1000 * w) g
        have r0 := Int.emod_nonneg (1000 * w) (show g ≠ 0 by omega)
        have r1 := Int.emod_lt_of_pos (1000 * w) (show 0 < g by omega)
        generalize 1000 * w / g = q at *
        generalize 1000 * w % g = r at *
        have a0 : 0 ≤ q := by
          apply Int.not_lt.1
          intro h
          have := Int.mul_le_mul_of_nonneg_left (show q ≤ -1 by omega) (show 0 ≤ g by omega)
          omega
        have a1 : q ≤ 1000 := by
          apply Int.not_lt.1
          intro h
          have := Int.mul_le_mul_of_nonneg_left (show 1001 ≤ q by omega) (show 0 ≤ g by omega)
          omega
        have a2 : q = 0 → g * q = 0 := by rintro rfl; exact Int.mul_zero g
        have a3 : q = 1000 → g * q = 1000 * g := by rintro rfl; exact Int.mul_comm g 1000
        omega
      have x0 := Int.mul_le_mul_of_nonneg_left b1.1 (show 0 ≤ u by omega)
      have x1 := Int.mul_le_mul_of_nonneg_left b1.2 (show 0 ≤ u by omega)
      have y0 := Int.mul_le_mul_of_nonneg_left b2.1 (show 0 ≤ u by omega)
      have y1 := Int.mul_le_mul_of_nonneg_left b2.2 (show 0 ≤ u by omega)
      refine To.ret (.inl ⟨rfl, m - 1, by omega, ?_⟩)
      simp (disch := omega) only [X.den, X.dens, X.denss, D.int_i, D.boo_b, D.str_s, D.rows_l, List.getD_cons_zero, List.getD_cons_succ, List.cons_append, List.nil_append, List.append_nil, List.length_cons, List.length_nil, wr64, c1, c2]
      exact ⟨_, _, _, _, rfl, by omega, by omega, by omega, by omega, by omega⟩
    · exact To.ret (.inr ⟨rfl, S, U, V, by simp only [X.den, X.dens, X.denss, D.int_i, D.boo_b, D.str_s, D.rows_l, List.getD_cons_zero, List.getD_cons_succ, List.cons_append, List.nil_append, List.append_nil, List.length_cons, List.length_nil], by omega, hX, hY⟩)
  · rintro l ρ2 ⟨S, U, V, rfl, hS, hX, hY⟩ eρ
    simp only [List.cons_append, List.nil_append] at eρ
    subst eρ
    refine ⟨rfl, ?_⟩
    have z1 := hdv_between hS.1 hX.1 hX.2
    have z2 := hdv_between hS.1 hY.1 hY.2
    refine To.viaK (by (try simp (disch := omega) only [X.den, X.dens, X.denss, D.int_i, D.boo_b, D.str_s, D.rows_l, List.getD_cons_zero, List.getD_cons_succ, List.cons_append, List.nil_append, List.append_nil, List.length_cons, List.length_nil, decide_eq_true_eq, decide_eq_false_iff_not, Bool.not_eq_true', Bool.not_eq_false', Bool.and_eq_true, Bool.and_eq_false_iff, Bool.true_eq_false, Bool.false_eq_true, Bool.not_true, Bool.not_false, eq_self, D.len_l, wr64, not_true_eq_false, not_false_eq_true]); exact half_to (n := U) (d := S) (by omega) (by omega) hS.1 (by omega)) ?_
    rintro _ ρ2 rfl eρ
    refine ⟨rfl, ?_⟩
    simp only [List.cons_append, List.nil_append] at eρ
    subst eρ
    refine To.viaK (by (try simp (disch := omega) only [X.den, X.dens, X.denss, D.int_i, D.boo_b, D.str_s, D.rows_l, List.getD_cons_zero, List.getD_cons_succ, List.cons_append, List.nil_append, List.append_nil, List.length_cons, List.length_nil, decide_eq_true_eq, decide_eq_false_iff_not, Bool.not_eq_true', Bool.not_eq_false', Bool.and_eq_true, Bool.and_eq_false_iff, Bool.true_eq_false, Bool.false_eq_true, Bool.not_true, Bool.not_false, eq_self, D.len_l, wr64, not_true_eq_false, not_false_eq_true]); exact half_to (n := V) (d := S) (by omega) (by omega) hS.1 (by omega)) ?_
    rintro _ ρ2 rfl eρ
    refine ⟨rfl, ?_⟩
    simp only [List.cons_append, List.nil_append] at eρ
    subst eρ
    refine To.ret ?_
    simp only [X.den, X.dens, X.denss, D.int_i, D.boo_b, D.str_s, D.rows_l, List.getD_cons_zero, List.getD_cons_succ, List.cons_append, List.nil_append, List.append_nil, List.length_cons, List.length_nil]
    exact ⟨_, _, rfl, z1, z2⟩
theorem box_to {a b c d : Int} (a0 : -100000000 ≤ a ∧ a ≤ 100000000) (b0 : -100000000 ≤ b ∧ b ≤ 100000000) (c0 : -100000000 ≤ c ∧ c ≤ 100000000) (d0 : -100000000 ≤ d ∧ d ≤ 100000000) :
    ∃ l, fBox_T.run noM 0 [.i a, .i b, .i c, .i d] = some l ∧ l = [.i (max (max (a - c) (c - a)) (max (b - d) (d - b))), .i 0] := by
  refine run_to ?_
  unfold fBox_T
  (repeat' (first
      | (refine To.subK (fun K hK => ?_))
      | (refine To.need (by simp (disch := omega) only [X.den, X.dens, X.denss, D.int_i, D.boo_b, D.str_s, D.rows_l, List.getD_cons_zero, List.getD_cons_succ, List.cons_append, List.nil_append, List.append_nil, List.length_cons, List.length_nil, decide_eq_true_eq, decide_eq_false_iff_not, Bool.not_eq_true', Bool.not_eq_false', Bool.and_eq_true, Bool.and_eq_false_iff, Bool.true_eq_false, Bool.false_eq_true, Bool.not_true, Bool.not_false, eq_self, D.len_l, wr64, not_true_eq_false, not_false_eq_true] <;> omega) ?_)
      | (refine To.ite (fun c => ?_) (fun c => ?_) <;> ((try simp (disch := omega) only [X.den, X.dens, X.denss, D.int_i, D.boo_b, D.str_s, D.rows_l, List.getD_cons_zero, List.getD_cons_succ, List.cons_append, List.nil_append, List.append_nil, List.length_cons, List.length_nil, decide_eq_true_eq, decide_eq_false_iff_not, Bool.not_eq_true', Bool.not_eq_false', Bool.and_eq_true, Bool.and_eq_false_iff, Bool.true_eq_false, Bool.false_eq_true, Bool.not_true, Bool.not_false, eq_self, D.len_l, wr64, not_true_eq_false, not_false_eq_true] at c) <;> (try (exfalso; omega))))
      | (refine To.ret ⟨rfl, ?_⟩; (try simp (disch := omega) only [X.den, X.dens, X.denss, D.int_i, D.boo_b, D.str_s, D.rows_l, List.getD_cons_zero, List.getD_cons_succ, List.cons_append, List.nil_append, List.append_nil, List.length_cons, List.length_nil, decide_eq_true_eq, decide_eq_false_iff_not, Bool.not_eq_true', Bool.not_eq_false', Bool.and_eq_true, Bool.and_eq_false_iff, Bool.true_eq_false, Bool.false_eq_true, Bool.not_true, Bool.not_false, eq_self, D.len_l, wr64, not_true_eq_false, not_false_eq_true]); refine hK _ _ (by simp only [List.cons_append, List.nil_append]; first | done | rfl) ?_; clear hK; clear K)))
  all_goals (refine To.ret ?_; simp only [X.den, X.dens, X.denss, D.int_i, D.boo_b, D.str_s, D.rows_l, List.getD_cons_zero, List.getD_cons_succ, List.cons_append, List.nil_append, List.append_nil, List.length_cons, List.length_nil])
theorem fuse_to {fs : List (List D)} (hf : ∀ r ∈ fs, FxRow r) (h0 : 1 ≤ fs.length) (h1 : fs.length ≤ 8) :
    ∃ l, fFuse_T.run fuM 30 [.l fs] = some l ∧ ∃ px py b, l = [.i px, .i py, .i b, .i 0] ∧ (-100000000 ≤ px ∧ px ≤ 100000000) ∧ (-100000000 ≤ py ∧ py ≤ 100000000) ∧ (0 ≤ b ∧ b ≤ 300000000) ∧
      ∀ (i x y e : Int), 0 ≤ i → i < fs.length → (D.l fs).cell i 1 = .i x → (D.l fs).cell i 2 = .i y → (D.l fs).cell i 3 = .i e → max (max (px - x) (x - px)) (max (py - y) (y - py)) + e ≤ b := by
  refine run_to ?_
  unfold fFuse_T
  refine To.viaK (by (try simp (disch := omega) only [X.den, X.dens, X.denss, D.int_i, D.boo_b, D.str_s, D.rows_l, List.getD_cons_zero, List.getD_cons_succ, List.cons_append, List.nil_append, List.append_nil, List.length_cons, List.length_nil, decide_eq_true_eq, decide_eq_false_iff_not, Bool.not_eq_true', Bool.not_eq_false', Bool.and_eq_true, Bool.and_eq_false_iff, Bool.true_eq_false, Bool.false_eq_true, Bool.not_true, Bool.not_false, eq_self, D.len_l, wr64, not_true_eq_false, not_false_eq_true]); exact check_to hf h0 h1) ?_
  rintro _ ρ2 rfl eρ
  refine ⟨rfl, ?_⟩
  simp only [List.cons_append, List.nil_append] at eρ
  subst eρ
  refine To.yes rfl ?_
  refine To.viaK (by (try simp (disch := omega) only [X.den, X.dens, X.denss, D.int_i, D.boo_b, D.str_s, D.rows_l, List.getD_cons_zero, List.getD_cons_succ, List.cons_append, List.nil_append, List.append_nil, List.length_cons, List.length_nil, decide_eq_true_eq, decide_eq_false_iff_not, Bool.not_eq_true', Bool.not_eq_false', Bool.and_eq_true, Bool.and_eq_false_iff, Bool.true_eq_false, Bool.false_eq_true, Bool.not_true, Bool.not_false, eq_self, D.len_l, wr64, not_true_eq_false, not_false_eq_true]); exact mean_to hf h0 h1) ?_
  rintro _ ρ2 ⟨px, py, rfl, hx, hy⟩ eρ
  refine ⟨rfl, ?_⟩
  simp only [List.cons_append, List.nil_append] at eρ
  subst eρ
  refine To.loopK (fun m l => ∃ b k, l = [.i b, .i k] ∧ 0 ≤ k ∧ k + m = fs.length ∧ (0 ≤ b ∧ b ≤ 300000000) ∧ ∀ (i x y e : Int), 0 ≤ i → i < k → (D.l fs).cell i 1 = .i x → (D.l fs).cell i 2 = .i y → (D.l fs).cell i 3 = .i e → max (max (px - x) (x - px)) (max (py - y) (y - py)) + e ≤ b)
    (fun l => ∃ b, l = [.i b] ∧ (0 ≤ b ∧ b ≤ 300000000) ∧ ∀ (i x y e : Int), 0 ≤ i → i < fs.length → (D.l fs).cell i 1 = .i x → (D.l fs).cell i 2 = .i y → (D.l fs).cell i 3 = .i e → max (max (px - x) (x - px)) (max (py - y) (y - py)) + e ≤ b) fs.length (by omega) ?_ ?_ ?_
  · exact ⟨0, 0, by simp only [X.den, X.dens, X.denss, D.int_i, D.boo_b, D.str_s, D.rows_l, List.getD_cons_zero, List.getD_cons_succ, List.cons_append, List.nil_append, List.append_nil, List.length_cons, List.length_nil], by omega, by omega, by omega, by intro i x y e; omega⟩
  · rintro m l ρ2 ⟨b, k, rfl, k0, k1, hb, hk⟩ eρ
    simp only [List.cons_append, List.nil_append] at eρ
    subst eρ
    refine To.ite (fun c => ?_) (fun c => ?_) <;> simp only [X.den, X.dens, X.denss, D.int_i, D.boo_b, D.str_s, D.rows_l, List.getD_cons_zero, List.getD_cons_succ, List.cons_append, List.nil_append, List.append_nil, List.length_cons, List.length_nil, decide_eq_true_eq, decide_eq_false_iff_not, Bool.not_eq_true', Bool.not_eq_false', Bool.and_eq_true, Bool.and_eq_false_iff, Bool.true_eq_false, Bool.false_eq_true, Bool.not_true, Bool.not_false, eq_self, D.len_l] at c
    · refine To.need (by simp only [X.den, X.dens, X.denss, D.int_i, D.boo_b, D.str_s, D.rows_l, List.getD_cons_zero, List.getD_cons_succ, List.cons_append, List.nil_append, List.append_nil, List.length_cons, List.length_nil, decide_eq_true_eq, decide_eq_false_iff_not, Bool.not_eq_true', Bool.not_eq_false', Bool.and_eq_true, Bool.and_eq_false_iff, Bool.true_eq_false, Bool.false_eq_true, Bool.not_true, Bool.not_false, eq_self, D.len_l]; omega) ?_
      obtain ⟨t, x, y, e, er, b1, b2, b3, b4⟩ := hf _ (getD_mem9 k0 (by omega))
      have c1 : (D.l fs).cell k 1 = .i x := by rw [cell_of, er]; rfl
      have c2 : (D.l fs).cell k 2 = .i y := by rw [cell_of, er]; rfl
      have c3 : (D.l fs).cell k 3 = .i e := by rw [cell_of, er]; rfl
      refine To.viaK (by (try simp (disch := omega) only [X.den, X.dens, X.denss, D.int_i, D.boo_b, D.str_s, D.rows_l, List.getD_cons_zero, List.getD_cons_succ, List.cons_append, List.nil_append, List.append_nil, List.length_cons, List.length_nil, decide_eq_true_eq, decide_eq_false_iff_not, Bool.not_eq_true', Bool.not_eq_false', Bool.and_eq_true, Bool.and_eq_false_iff, Bool.true_eq_false, Bool.false_eq_true, Bool.not_true, Bool.not_false, eq_self, D.len_l, wr64, not_true_eq_false, not_false_eq_true, c1, c2, c3]); exact box_to hx hy b1 b2) ?_
      rintro _ ρ2 rfl eρ
      refine ⟨rfl, ?_⟩
      simp only [List.cons_append, List.nil_append] at eρ
      subst eρ
      refine To.ret (.inl ⟨rfl, m - 1, by omega, ?_⟩)
      simp (disch := omega) only [X.den, X.dens, X.denss, D.int_i, D.boo_b, D.str_s, D.rows_l, List.getD_cons_zero, List.getD_cons_succ, List.cons_append, List.nil_append, List.append_nil, List.length_cons, List.length_nil, wr64, c1, c2, c3]
      refine ⟨_, _, rfl, by omega, by omega, by omega, fun i x' y' e' i0 i1 q1 q2 q3 => ?_⟩
      by_cases e1 : i = k
      · subst e1
        rw [c1] at q1
        rw [c2] at q2
        rw [c3] at q3
        injection q1 with q1
        injection q2 with q2
        injection q3 with q3
        subst q1 q2 q3
        omega
      · have := hk i x' y' e' i0 (by omega) q1 q2 q3
        omega
    · exact To.ret (.inr ⟨rfl, b, by simp only [X.den, X.dens, X.denss, D.int_i, D.boo_b, D.str_s, D.rows_l, List.getD_cons_zero, List.getD_cons_succ, List.cons_append, List.nil_append, List.append_nil, List.length_cons, List.length_nil], hb, fun i x y e i0 i1 => hk i x y e i0 (by omega)⟩)
  · rintro l ρ2 ⟨b, rfl, hb, hk⟩ eρ
    simp only [List.cons_append, List.nil_append] at eρ
    subst eρ
    refine ⟨rfl, To.ret ?_⟩
    simp only [X.den, X.dens, X.denss, D.int_i, D.boo_b, D.str_s, D.rows_l, List.getD_cons_zero, List.getD_cons_succ, List.cons_append, List.nil_append, List.append_nil, List.length_cons, List.length_nil]
    exact ⟨_, _, _, rfl, hx, hy, hb, hk⟩
theorem fuse_none : ∃ l, fFuse_T.run fuM 30 [.l []] = some l ∧ l = [.i 0, .i 0, .i 0, .i 9] := by
  refine run_to ?_
  unfold fFuse_T
  refine To.viaK (by (try simp (disch := omega) only [X.den, X.dens, X.denss, D.int_i, D.boo_b, D.str_s, D.rows_l, List.getD_cons_zero, List.getD_cons_succ, List.cons_append, List.nil_append, List.append_nil, List.length_cons, List.length_nil, decide_eq_true_eq, decide_eq_false_iff_not, Bool.not_eq_true', Bool.not_eq_false', Bool.and_eq_true, Bool.and_eq_false_iff, Bool.true_eq_false, Bool.false_eq_true, Bool.not_true, Bool.not_false, eq_self, D.len_l, wr64, not_true_eq_false, not_false_eq_true]); exact check_none) ?_
  rintro _ ρ2 rfl eρ
  refine ⟨rfl, ?_⟩
  simp only [List.cons_append, List.nil_append] at eρ
  subst eρ
  exact To.no rfl (To.ret rfl)
end Go.Proofs.Ytladhlgibapohaa
