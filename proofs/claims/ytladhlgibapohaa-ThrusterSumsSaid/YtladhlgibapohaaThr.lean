/- Thrusters in numbers. -/
import Derived.Test.YtladhlgibapohaaThrT
set_option linter.unusedVariables false
set_option linter.unusedSimpArgs false
namespace Go.Proofs.Ytladhlgibapohaa
open Go.RowKit Fx
theorem sValid_ok : ConOk Try.prog sValid_K (sValid_T.run noM 10) := con_run follows no_cons sValid_t rfl 10
theorem aRoot_ok : ConOk Try.prog aRoot_K (aRoot_T.run noM 40) := con_run follows no_cons aRoot_t rfl 40
def pwM : Models := Models.on sValid_K.f (sValid_T.run noM 10) noM
theorem tPower_ok : ConOk Try.prog tPower_K (tPower_T.run pwM 0) := con_run follows (one_con (sValid_ok.to _) no_cons) tPower_t rfl 0
def msM : Models := Models.on tPower_K.f (tPower_T.run pwM 0) (Models.on aRoot_K.f (aRoot_T.run noM 40) noM)
theorem tMost_ok : ConOk Try.prog tMost_K (tMost_T.run msM 0) := con_run follows (one_con (tPower_ok.to _) (one_con (aRoot_ok.to _) no_cons)) tMost_t rfl 0
def srcM12 : Models := Models.on srcN_K.f (srcN_T.run noM 0) noM
theorem srcThr_ok : ConOk Try.prog srcThr_K (srcThr_T.run srcM12 10) := con_run follows (one_con (srcN_ok.to _) no_cons) srcThr_t rfl 10
def ArcRow (r : List D) : Prop := ∃ a b, r = [.i a, .i b] ∧ (0 ≤ a ∧ a < 3600) ∧ (0 ≤ b ∧ b < 3600) ∧ ((0 ≤ b - a ∧ b - a < 1800) ∨ b - a < -1800)
def ThrOk (k st mx rt co : Int) (arcs : List (List D)) : Prop := (1 ≤ k ∧ k ≤ 3) ∧ (st = 0 ∨ st = 1) ∧ (0 ≤ mx ∧ mx ≤ 5000) ∧ (0 ≤ rt ∧ rt ≤ 5000) ∧ (1 ≤ co ∧ co ≤ 100) ∧ arcs.length ≤ 4 ∧ ∀ r ∈ arcs, ArcRow r
theorem getD_mem {fs : List (List D)} {k : Int} (h0 : 0 ≤ k) (h1 : k < fs.length) : fs.getD k.toNat [] ∈ fs := by
  rw [List.getD_eq_getElem?_getD, List.getElem?_eq_getElem (by omega), Option.getD_some]
  exact List.getElem_mem _
theorem valid_to {k st mx rt co : Int} {arcs : List (List D)} (h : ThrOk k st mx rt co arcs) : ∃ l, sValid_T.run noM 10 [.i k, .i st, .i mx, .i rt, .i co, .l arcs] = some l ∧ l = [.b true] := by
  obtain ⟨h1, h2, h3, h4, h5, h6, h7⟩ := h
  refine run_to ?_
  unfold sValid_T
  (repeat' (first
      | (refine To.subK (fun K hK => ?_))
      | (refine To.need (by simp (disch := omega) only [X.den, X.dens, X.denss, D.int_i, D.boo_b, D.str_s, D.rows_l, List.getD_cons_zero, List.getD_cons_succ, List.cons_append, List.nil_append, List.append_nil, List.length_cons, List.length_nil, decide_eq_true_eq, decide_eq_false_iff_not, Bool.not_eq_true', Bool.not_eq_false', Bool.and_eq_true, Bool.and_eq_false_iff, Bool.true_eq_false, Bool.false_eq_true, Bool.not_true, Bool.not_false, eq_self, D.len_l, wr64, not_true_eq_false, not_false_eq_true] <;> omega) ?_)
      | (refine To.ite (fun c => ?_) (fun c => ?_) <;> ((try simp (disch := omega) only [X.den, X.dens, X.denss, D.int_i, D.boo_b, D.str_s, D.rows_l, List.getD_cons_zero, List.getD_cons_succ, List.cons_append, List.nil_append, List.append_nil, List.length_cons, List.length_nil, decide_eq_true_eq, decide_eq_false_iff_not, Bool.not_eq_true', Bool.not_eq_false', Bool.and_eq_true, Bool.and_eq_false_iff, Bool.true_eq_false, Bool.false_eq_true, Bool.not_true, Bool.not_false, eq_self, D.len_l, wr64, not_true_eq_false, not_false_eq_true] at c) <;> (try (exfalso; omega))))
      | (refine To.ret ⟨rfl, ?_⟩; (try simp (disch := omega) only [X.den, X.dens, X.denss, D.int_i, D.boo_b, D.str_s, D.rows_l, List.getD_cons_zero, List.getD_cons_succ, List.cons_append, List.nil_append, List.append_nil, List.length_cons, List.length_nil, decide_eq_true_eq, decide_eq_false_iff_not, Bool.not_eq_true', Bool.not_eq_false', Bool.and_eq_true, Bool.and_eq_false_iff, Bool.true_eq_false, Bool.false_eq_true, Bool.not_true, Bool.not_false, eq_self, D.len_l, wr64, not_true_eq_false, not_false_eq_true]); refine hK _ _ (by simp only [List.cons_append, List.nil_append]; first | done | rfl) ?_; clear hK; clear K)))
  all_goals
    refine To.loopK (fun m l => ∃ i, l = [.i i] ∧ 0 ≤ i ∧ i + m = arcs.length) (fun l => l = [.i 1, .i 0, .i 0, .i 0, .i 0]) arcs.length (by omega) ?_ ?_ ?_
    · exact ⟨0, by simp only [X.den, X.dens, X.denss, D.int_i, D.boo_b, D.str_s, D.rows_l, List.getD_cons_zero, List.getD_cons_succ, List.cons_append, List.nil_append, List.append_nil, List.length_cons, List.length_nil], by omega, by omega⟩
    · rintro m l ρ2 ⟨i, rfl, i0, i1⟩ eρ
      simp only [List.cons_append, List.nil_append] at eρ
      subst eρ
      refine To.ite (fun c => ?_) (fun c => ?_) <;> simp only [X.den, X.dens, X.denss, D.int_i, D.boo_b, D.str_s, D.rows_l, List.getD_cons_zero, List.getD_cons_succ, List.cons_append, List.nil_append, List.append_nil, List.length_cons, List.length_nil, decide_eq_true_eq, decide_eq_false_iff_not, Bool.not_eq_true', Bool.not_eq_false', Bool.and_eq_true, Bool.and_eq_false_iff, Bool.true_eq_false, Bool.false_eq_true, Bool.not_true, Bool.not_false, eq_self, D.len_l] at c
      · refine To.need (by simp only [X.den, X.dens, X.denss, D.int_i, D.boo_b, D.str_s, D.rows_l, List.getD_cons_zero, List.getD_cons_succ, List.cons_append, List.nil_append, List.append_nil, List.length_cons, List.length_nil, decide_eq_true_eq, decide_eq_false_iff_not, Bool.not_eq_true', Bool.not_eq_false', Bool.and_eq_true, Bool.and_eq_false_iff, Bool.true_eq_false, Bool.false_eq_true, Bool.not_true, Bool.not_false, eq_self, D.len_l]; omega) ?_
        obtain ⟨a, b, er, a1, b1, w1⟩ := h7 _ (getD_mem i0 (by omega))
        have c0 : (D.l arcs).cell i 0 = .i a := by rw [cell_of, er]; rfl
        have c1 : (D.l arcs).cell i 1 = .i b := by rw [cell_of, er]; rfl
        have tm : (b - a).tmod 3600 = b - a := by
          rw [tmod_if _ (by decide)]
          split <;> omega
        (repeat' (first
            | (refine To.subK (fun K hK => ?_))
            | (refine To.need (by simp (disch := omega) only [X.den, X.dens, X.denss, D.int_i, D.boo_b, D.str_s, D.rows_l, List.getD_cons_zero, List.getD_cons_succ, List.cons_append, List.nil_append, List.append_nil, List.length_cons, List.length_nil, decide_eq_true_eq, decide_eq_false_iff_not, Bool.not_eq_true', Bool.not_eq_false', Bool.and_eq_true, Bool.and_eq_false_iff, Bool.true_eq_false, Bool.false_eq_true, Bool.not_true, Bool.not_false, eq_self, D.len_l, wr64, not_true_eq_false, not_false_eq_true, c0, c1, tm] <;> omega) ?_)
            | (refine To.ite (fun c => ?_) (fun c => ?_) <;> ((try simp (disch := omega) only [X.den, X.dens, X.denss, D.int_i, D.boo_b, D.str_s, D.rows_l, List.getD_cons_zero, List.getD_cons_succ, List.cons_append, List.nil_append, List.append_nil, List.length_cons, List.length_nil, decide_eq_true_eq, decide_eq_false_iff_not, Bool.not_eq_true', Bool.not_eq_false', Bool.and_eq_true, Bool.and_eq_false_iff, Bool.true_eq_false, Bool.false_eq_true, Bool.not_true, Bool.not_false, eq_self, D.len_l, wr64, not_true_eq_false, not_false_eq_true, c0, c1, tm] at c) <;> (try (exfalso; omega))))
            | (refine To.ret ⟨rfl, ?_⟩; (try simp (disch := omega) only [X.den, X.dens, X.denss, D.int_i, D.boo_b, D.str_s, D.rows_l, List.getD_cons_zero, List.getD_cons_succ, List.cons_append, List.nil_append, List.append_nil, List.length_cons, List.length_nil, decide_eq_true_eq, decide_eq_false_iff_not, Bool.not_eq_true', Bool.not_eq_false', Bool.and_eq_true, Bool.and_eq_false_iff, Bool.true_eq_false, Bool.false_eq_true, Bool.not_true, Bool.not_false, eq_self, D.len_l, wr64, not_true_eq_false, not_false_eq_true, c0, c1, tm]); refine hK _ _ (by simp only [List.cons_append, List.nil_append]; first | done | rfl) ?_; clear hK; clear K)))
        all_goals (refine To.ret (.inl ⟨rfl, m - 1, by omega, ?_⟩); simp (disch := omega) only [X.den, X.dens, X.denss, D.int_i, D.boo_b, D.str_s, D.rows_l, List.getD_cons_zero, List.getD_cons_succ, List.cons_append, List.nil_append, List.append_nil, List.length_cons, List.length_nil, wr64]; exact ⟨_, rfl, by omega, by omega⟩)
      · exact To.ret (.inr ⟨rfl, by simp only [X.den, X.dens, X.denss, D.int_i, D.boo_b, D.str_s, D.rows_l, List.getD_cons_zero, List.getD_cons_succ, List.cons_append, List.nil_append, List.append_nil, List.length_cons, List.length_nil]⟩)
    · rintro l ρ2 rfl eρ
      simp only [List.cons_append, List.nil_append] at eρ
      subst eρ
      exact ⟨rfl, To.no rfl (To.ret (by simp only [X.den, X.dens, X.denss, D.int_i, D.boo_b, D.str_s, D.rows_l, List.getD_cons_zero, List.getD_cons_succ, List.cons_append, List.nil_append, List.append_nil, List.length_cons, List.length_nil]))⟩
theorem sq_nn (x : Int) : 0 ≤ x * x := by
  rcases Int.le_total 0 x with h | h
  · exact Int.mul_nonneg h h
  · have := Int.mul_nonneg (show 0 ≤ -x by omega) (show 0 ≤ -x by omega)
    rwa [Int.neg_mul_neg] at this
theorem sq_rng {x a : Int} (h0 : -a ≤ x) (h1 : x ≤ a) (ha : 0 ≤ a) : 0 ≤ x * x ∧ x * x ≤ a * a := by
  refine ⟨sq_nn x, ?_⟩
  rcases Int.le_total 0 x with h | h
  · exact Int.mul_le_mul h1 h1 h ha
  · have := Int.mul_le_mul (show -x ≤ a by omega) (show -x ≤ a by omega) (show 0 ≤ -x by omega) ha
    rwa [Int.neg_mul_neg] at this
theorem root_to {n : Int} (h0 : 0 ≤ n) (h1 : n ≤ 1000000000000000000) : ∃ l, aRoot_T.run noM 40 [.i n] = some l ∧ ∃ r, l = [.i r, .i 0] ∧ 0 ≤ r ∧ r * r ≤ n ∧ n < (r + 1) * (r + 1) := by
  refine run_to ?_
  unfold aRoot_T
  (repeat' (first
      | (refine To.subK (fun K hK => ?_))
      | (refine To.need (by simp (disch := omega) only [X.den, X.dens, X.denss, D.int_i, D.boo_b, D.str_s, D.rows_l, List.getD_cons_zero, List.getD_cons_succ, List.cons_append, List.nil_append, List.append_nil, List.length_cons, List.length_nil, decide_eq_true_eq, decide_eq_false_iff_not, Bool.not_eq_true', Bool.not_eq_false', Bool.and_eq_true, Bool.and_eq_false_iff, Bool.true_eq_false, Bool.false_eq_true, Bool.not_true, Bool.not_false, eq_self, D.len_l, wr64, not_true_eq_false, not_false_eq_true] <;> omega) ?_)
      | (refine To.ite (fun c => ?_) (fun c => ?_) <;> ((try simp (disch := omega) only [X.den, X.dens, X.denss, D.int_i, D.boo_b, D.str_s, D.rows_l, List.getD_cons_zero, List.getD_cons_succ, List.cons_append, List.nil_append, List.append_nil, List.length_cons, List.length_nil, decide_eq_true_eq, decide_eq_false_iff_not, Bool.not_eq_true', Bool.not_eq_false', Bool.and_eq_true, Bool.and_eq_false_iff, Bool.true_eq_false, Bool.false_eq_true, Bool.not_true, Bool.not_false, eq_self, D.len_l, wr64, not_true_eq_false, not_false_eq_true] at c) <;> (try (exfalso; omega))))
      | (refine To.ret ⟨rfl, ?_⟩; (try simp (disch := omega) only [X.den, X.dens, X.denss, D.int_i, D.boo_b, D.str_s, D.rows_l, List.getD_cons_zero, List.getD_cons_succ, List.cons_append, List.nil_append, List.append_nil, List.length_cons, List.length_nil, decide_eq_true_eq, decide_eq_false_iff_not, Bool.not_eq_true', Bool.not_eq_false', Bool.and_eq_true, Bool.and_eq_false_iff, Bool.true_eq_false, Bool.false_eq_true, Bool.not_true, Bool.not_false, eq_self, D.len_l, wr64, not_true_eq_false, not_false_eq_true]); refine hK _ _ (by simp only [List.cons_append, List.nil_append]; first | done | rfl) ?_; clear hK; clear K)))
  refine To.loopK (fun m l => ∃ lo hi : Int, l = [.i lo, .i hi] ∧ 0 ≤ lo ∧ lo < hi ∧ hi ≤ 1000000001 ∧ lo * lo ≤ n ∧ n < hi * hi ∧ hi - lo ≤ ((2 : Int) ^ m)) (fun l => ∃ r : Int, l = [.i r] ∧ 0 ≤ r ∧ r * r ≤ n ∧ n < (r + 1) * (r + 1)) 30 (by omega) ?_ ?_ ?_
  · exact ⟨0, 1000000001, by simp only [X.den, X.dens, X.denss, D.int_i, D.boo_b, D.str_s, D.rows_l, List.getD_cons_zero, List.getD_cons_succ, List.cons_append, List.nil_append, List.append_nil, List.length_cons, List.length_nil], by omega, by omega, by omega, by omega, by omega, by decide⟩
  · rintro m l ρ2 ⟨lo, hi, rfl, a0, a1, a2, a3, a4, a5⟩ eρ
    simp only [List.cons_append, List.nil_append] at eρ
    subst eρ
    obtain ⟨md, hmd, m0, m1⟩ : ∃ md, (lo + hi).tdiv 2 = md ∧ 2 * md ≤ lo + hi ∧ lo + hi < 2 * md + 2 := ⟨_, rfl, by rw [Int.tdiv_eq_ediv_of_nonneg (by omega)]; omega, by rw [Int.tdiv_eq_ediv_of_nonneg (by omega)]; omega⟩
    obtain ⟨q0, q1⟩ := sq_rng (x := md) (a := 1000000001) (by omega) (by omega) (by decide)
    refine To.ite (fun c => ?_) (fun c => ?_) <;> simp (disch := omega) only [X.den, X.dens, X.denss, D.int_i, D.boo_b, D.str_s, D.rows_l, List.getD_cons_zero, List.getD_cons_succ, List.cons_append, List.nil_append, List.append_nil, List.length_cons, List.length_nil, decide_eq_true_eq, decide_eq_false_iff_not, Bool.not_eq_true', Bool.not_eq_false', Bool.and_eq_true, Bool.and_eq_false_iff, Bool.true_eq_false, Bool.false_eq_true, Bool.not_true, Bool.not_false, eq_self, wr64] at c
    · obtain ⟨m, rfl⟩ : ∃ m', m = m' + 1 := by
        cases m with
        | zero => simp at a5; omega
        | succ m => exact ⟨m, rfl⟩
      rw [Int.pow_succ] at a5
      refine To.ite (fun c2 => ?_) (fun c2 => ?_) <;> simp (disch := omega) only [X.den, X.dens, X.denss, D.int_i, D.boo_b, D.str_s, D.rows_l, List.getD_cons_zero, List.getD_cons_succ, List.cons_append, List.nil_append, List.append_nil, List.length_cons, List.length_nil, decide_eq_true_eq, decide_eq_false_iff_not, Bool.not_eq_true', Bool.not_eq_false', Bool.and_eq_true, Bool.and_eq_false_iff, Bool.true_eq_false, Bool.false_eq_true, Bool.not_true, Bool.not_false, eq_self, wr64, hmd] at c2
      · refine To.ret (.inl ⟨rfl, m, rfl, lo, md, ?_, by omega, by omega, by omega, a3, c2, by omega⟩)
        simp (disch := omega) only [X.den, X.dens, X.denss, D.int_i, D.boo_b, D.str_s, D.rows_l, List.getD_cons_zero, List.getD_cons_succ, List.cons_append, List.nil_append, List.append_nil, List.length_cons, List.length_nil, wr64, hmd]
      · refine To.ret (.inl ⟨rfl, m, rfl, md, hi, ?_, by omega, by omega, by omega, by omega, a4, by omega⟩)
        simp (disch := omega) only [X.den, X.dens, X.denss, D.int_i, D.boo_b, D.str_s, D.rows_l, List.getD_cons_zero, List.getD_cons_succ, List.cons_append, List.nil_append, List.append_nil, List.length_cons, List.length_nil, wr64, hmd]
    · refine To.ret (.inr ⟨rfl, lo, by simp only [X.den, X.dens, X.denss, D.int_i, D.boo_b, D.str_s, D.rows_l, List.getD_cons_zero, List.getD_cons_succ, List.cons_append, List.nil_append, List.append_nil, List.length_cons, List.length_nil], a0, a3, ?_⟩)
      rwa [show lo + 1 = hi by omega]
  · rintro l ρ2 ⟨r, rfl, r0, r1, r2⟩ eρ
    simp only [List.cons_append, List.nil_append] at eρ
    subst eρ
    exact ⟨rfl, To.ret ⟨r, by simp only [X.den, X.dens, X.denss, D.int_i, D.boo_b, D.str_s, D.rows_l, List.getD_cons_zero, List.getD_cons_succ, List.cons_append, List.nil_append, List.append_nil, List.length_cons, List.length_nil], r0, r1, r2⟩⟩
theorem power_to {k st mx rt co x y : Int} {arcs : List (List D)} (h : ThrOk k st mx rt co arcs) (x0 : -5000 ≤ x) (x1 : x ≤ 5000) (y0 : -5000 ≤ y) (y1 : y ≤ 5000) :
    ∃ l, tPower_T.run pwM 0 [.i k, .i st, .i mx, .i rt, .i co, .l arcs, .i x, .i y] = some l ∧ ∃ p, l = [.i p, .i 0] ∧ 0 ≤ p ∧ 1000 * (p - 1) < (x * x + y * y) * co ∧ (x * x + y * y) * co ≤ 1000 * p := by
  have hh := h
  obtain ⟨h1, h2, h3, h4, h5, h6, h7⟩ := hh
  obtain ⟨a0, a1⟩ := sq_rng x0 x1 (by decide)
  obtain ⟨b0, b1⟩ := sq_rng y0 y1 (by decide)
  obtain ⟨q, hq, q0, q1⟩ : ∃ q, (x * x + y * y) * co = q ∧ 0 ≤ q ∧ q ≤ 5000000000 := ⟨_, rfl, Int.mul_nonneg (by omega) (by omega), by
    have := Int.mul_le_mul (show x * x + y * y ≤ 50000000 by omega) h5.2 (by omega) (by decide)
    omega⟩
  have e1 : q.tdiv 1000 = q / 1000 := Int.tdiv_eq_ediv_of_nonneg q0
  have e2 : q.tmod 1000 = q % 1000 := Int.tmod_eq_emod_of_nonneg q0
  refine run_to ?_
  unfold tPower_T
  refine To.subK (fun K hK => ?_)
  refine To.viaK (by (try simp (disch := omega) only [X.den, X.dens, X.denss, D.int_i, D.boo_b, D.str_s, D.rows_l, List.getD_cons_zero, List.getD_cons_succ, List.cons_append, List.nil_append, List.append_nil, List.length_cons, List.length_nil, decide_eq_true_eq, decide_eq_false_iff_not, Bool.not_eq_true', Bool.not_eq_false', Bool.and_eq_true, Bool.and_eq_false_iff, Bool.true_eq_false, Bool.false_eq_true, Bool.not_true, Bool.not_false, eq_self, D.len_l, wr64, not_true_eq_false, not_false_eq_true]); exact valid_to h) ?_
  rintro _ ρ2 rfl eρ
  refine ⟨rfl, ?_⟩
  simp only [List.cons_append, List.nil_append] at eρ
  subst eρ
  (repeat' (first
      | (refine To.subK (fun K hK => ?_))
      | (refine To.need (by simp (disch := omega) only [X.den, X.dens, X.denss, D.int_i, D.boo_b, D.str_s, D.rows_l, List.getD_cons_zero, List.getD_cons_succ, List.cons_append, List.nil_append, List.append_nil, List.length_cons, List.length_nil, decide_eq_true_eq, decide_eq_false_iff_not, Bool.not_eq_true', Bool.not_eq_false', Bool.and_eq_true, Bool.and_eq_false_iff, Bool.true_eq_false, Bool.false_eq_true, Bool.not_true, Bool.not_false, eq_self, D.len_l, wr64, not_true_eq_false, not_false_eq_true, hq, e1, e2] <;> omega) ?_)
      | (refine To.ite (fun c => ?_) (fun c => ?_) <;> ((try simp (disch := omega) only [X.den, X.dens, X.denss, D.int_i, D.boo_b, D.str_s, D.rows_l, List.getD_cons_zero, List.getD_cons_succ, List.cons_append, List.nil_append, List.append_nil, List.length_cons, List.length_nil, decide_eq_true_eq, decide_eq_false_iff_not, Bool.not_eq_true', Bool.not_eq_false', Bool.and_eq_true, Bool.and_eq_false_iff, Bool.true_eq_false, Bool.false_eq_true, Bool.not_true, Bool.not_false, eq_self, D.len_l, wr64, not_true_eq_false, not_false_eq_true, hq, e1, e2] at c) <;> (try (exfalso; omega))))
      | (refine To.ret ⟨rfl, ?_⟩; (try simp (disch := omega) only [X.den, X.dens, X.denss, D.int_i, D.boo_b, D.str_s, D.rows_l, List.getD_cons_zero, List.getD_cons_succ, List.cons_append, List.nil_append, List.append_nil, List.length_cons, List.length_nil, decide_eq_true_eq, decide_eq_false_iff_not, Bool.not_eq_true', Bool.not_eq_false', Bool.and_eq_true, Bool.and_eq_false_iff, Bool.true_eq_false, Bool.false_eq_true, Bool.not_true, Bool.not_false, eq_self, D.len_l, wr64, not_true_eq_false, not_false_eq_true, hq, e1, e2]); refine hK _ _ (by simp only [List.cons_append, List.nil_append]; first | done | rfl) ?_; clear hK; clear K)))
  all_goals (refine To.ret ?_; simp only [X.den, X.dens, X.denss, D.int_i, D.boo_b, D.str_s, D.rows_l, List.getD_cons_zero, List.getD_cons_succ, List.cons_append, List.nil_append, List.append_nil, List.length_cons, List.length_nil]; exact ⟨_, rfl, by omega, by omega, by omega⟩)
/-- the greatest force for a power -/
def MostOk (m mx co p : Int) : Prop := 0 ≤ m ∧ m ≤ mx ∧ m * m * co ≤ 1000 * p ∧ (m = mx ∨ 1000 * p < (m + 1) * (m + 1) * co)
theorem most_to {k st mx rt co p : Int} {arcs : List (List D)} (h : ThrOk k st mx rt co arcs) (p0 : 0 ≤ p) (p1 : p ≤ 1000000000) :
    ∃ l, tMost_T.run msM 0 [.i k, .i st, .i mx, .i rt, .i co, .l arcs, .i p] = some l ∧ ∃ m, l = [.i m] ∧ MostOk m mx co p := by
  have hh := h
  obtain ⟨h1, h2, h3, h4, h5, h6, h7⟩ := hh
  obtain ⟨s, hs, s0, s1⟩ : ∃ s, (1000 * p).tdiv co = s ∧ co * s ≤ 1000 * p ∧ 1000 * p < co * s + co := by
    have e := Int.mul_ediv_add_emod (1000 * p) co
    have e0 := Int.emod_nonneg (1000 * p) (show co ≠ 0 by omega)
    have e1 := Int.emod_lt_of_pos (1000 * p) (show 0 < co by omega)
    exact ⟨_, rfl, by rw [Int.tdiv_eq_ediv_of_nonneg (by omega)]; omega, by rw [Int.tdiv_eq_ediv_of_nonneg (by omega)]; omega⟩
  have sr : 0 ≤ s ∧ s ≤ 1000000000000 := by
    rw [← hs, Int.tdiv_eq_ediv_of_nonneg (by omega)]
    have := Int.ediv_nonneg (a := 1000 * p) (b := co) (by omega) (by omega)
    have := Int.ediv_le_self co (a := 1000 * p) (by omega)
    omega
  have tr := Int.tmod_nonneg co (a := 1000 * p) (by omega)
  refine run_to ?_
  unfold tMost_T
  refine To.viaK (by (try simp (disch := omega) only [X.den, X.dens, X.denss, D.int_i, D.boo_b, D.str_s, D.rows_l, List.getD_cons_zero, List.getD_cons_succ, List.cons_append, List.nil_append, List.append_nil, List.length_cons, List.length_nil, decide_eq_true_eq, decide_eq_false_iff_not, Bool.not_eq_true', Bool.not_eq_false', Bool.and_eq_true, Bool.and_eq_false_iff, Bool.true_eq_false, Bool.false_eq_true, Bool.not_true, Bool.not_false, eq_self, D.len_l, wr64, not_true_eq_false, not_false_eq_true]); exact power_to h (by omega) (by omega) (by omega) (by omega)) ?_
  rintro _ ρ2 ⟨f, rfl, f0, f1, f2⟩ eρ
  refine ⟨rfl, ?_⟩
  simp only [List.cons_append, List.nil_append] at eρ
  subst eρ
  have ek : (mx * mx + 0 * 0) * co = mx * mx * co := by rw [Int.mul_zero, Int.add_zero]
  rw [ek] at f1 f2
  (repeat' (first
      | (refine To.subK (fun K hK => ?_))
      | (refine To.need (by simp (disch := omega) only [X.den, X.dens, X.denss, D.int_i, D.boo_b, D.str_s, D.rows_l, List.getD_cons_zero, List.getD_cons_succ, List.cons_append, List.nil_append, List.append_nil, List.length_cons, List.length_nil, decide_eq_true_eq, decide_eq_false_iff_not, Bool.not_eq_true', Bool.not_eq_false', Bool.and_eq_true, Bool.and_eq_false_iff, Bool.true_eq_false, Bool.false_eq_true, Bool.not_true, Bool.not_false, eq_self, D.len_l, wr64, not_true_eq_false, not_false_eq_true, hs] <;> omega) ?_)
      | (refine To.ite (fun c => ?_) (fun c => ?_) <;> ((try simp (disch := omega) only [X.den, X.dens, X.denss, D.int_i, D.boo_b, D.str_s, D.rows_l, List.getD_cons_zero, List.getD_cons_succ, List.cons_append, List.nil_append, List.append_nil, List.length_cons, List.length_nil, decide_eq_true_eq, decide_eq_false_iff_not, Bool.not_eq_true', Bool.not_eq_false', Bool.and_eq_true, Bool.and_eq_false_iff, Bool.true_eq_false, Bool.false_eq_true, Bool.not_true, Bool.not_false, eq_self, D.len_l, wr64, not_true_eq_false, not_false_eq_true, hs] at c) <;> (try (exfalso; omega))))
      | (refine To.ret ⟨rfl, ?_⟩; (try simp (disch := omega) only [X.den, X.dens, X.denss, D.int_i, D.boo_b, D.str_s, D.rows_l, List.getD_cons_zero, List.getD_cons_succ, List.cons_append, List.nil_append, List.append_nil, List.length_cons, List.length_nil, decide_eq_true_eq, decide_eq_false_iff_not, Bool.not_eq_true', Bool.not_eq_false', Bool.and_eq_true, Bool.and_eq_false_iff, Bool.true_eq_false, Bool.false_eq_true, Bool.not_true, Bool.not_false, eq_self, D.len_l, wr64, not_true_eq_false, not_false_eq_true, hs]); refine hK _ _ (by simp only [List.cons_append, List.nil_append]; first | done | rfl) ?_; clear hK; clear K)))
  · refine To.viaK (by (try simp (disch := omega) only [X.den, X.dens, X.denss, D.int_i, D.boo_b, D.str_s, D.rows_l, List.getD_cons_zero, List.getD_cons_succ, List.cons_append, List.nil_append, List.append_nil, List.length_cons, List.length_nil, decide_eq_true_eq, decide_eq_false_iff_not, Bool.not_eq_true', Bool.not_eq_false', Bool.and_eq_true, Bool.and_eq_false_iff, Bool.true_eq_false, Bool.false_eq_true, Bool.not_true, Bool.not_false, eq_self, D.len_l, wr64, not_true_eq_false, not_false_eq_true]); exact root_to sr.1 (by omega)) ?_
    rintro _ ρ2 ⟨r, rfl, r0, r1, r2⟩ eρ
    refine ⟨rfl, ?_⟩
    simp only [List.cons_append, List.nil_append] at eρ
    subst eρ
    refine To.ret ?_
    simp only [X.den, X.dens, X.denss, D.int_i, D.boo_b, D.str_s, D.rows_l, List.getD_cons_zero, List.getD_cons_succ, List.cons_append, List.nil_append, List.append_nil, List.length_cons, List.length_nil]
    have k1 := Int.mul_le_mul_of_nonneg_left r1 (show 0 ≤ co by omega)
    have k2 := Int.mul_le_mul_of_nonneg_left (show s + 1 ≤ (r + 1) * (r + 1) by omega) (show 0 ≤ co by omega)
    rw [Int.mul_add, Int.mul_one] at k2
    have k3 := Int.mul_comm co (r * r)
    have k4 := Int.mul_comm co ((r + 1) * (r + 1))
    refine ⟨_, rfl, r0, ?_, by omega, .inr (by omega)⟩
    apply Int.not_lt.1
    intro hlt
    have k5 := Int.mul_le_mul (show mx ≤ r by omega) (show mx ≤ r by omega) h3.1 r0
    have k6 := Int.mul_le_mul_of_nonneg_left k5 (show 0 ≤ co by omega)
    have k7 := Int.mul_comm co (mx * mx)
    omega
  · refine To.ret ?_
    simp only [X.den, X.dens, X.denss, D.int_i, D.boo_b, D.str_s, D.rows_l, List.getD_cons_zero, List.getD_cons_succ, List.cons_append, List.nil_append, List.append_nil, List.length_cons, List.length_nil]
    exact ⟨_, rfl, h3.1, by omega, by omega, .inl rfl⟩
theorem most_neg {k st mx rt co p : Int} {arcs : List (List D)} (h : ThrOk k st mx rt co arcs) (p0 : p < 0) :
    ∃ l, tMost_T.run msM 0 [.i k, .i st, .i mx, .i rt, .i co, .l arcs, .i p] = some l ∧ l = [.i 0] := by
  have hh := h
  obtain ⟨h1, h2, h3, h4, h5, h6, h7⟩ := hh
  refine run_to ?_
  unfold tMost_T
  refine To.viaK (by (try simp (disch := omega) only [X.den, X.dens, X.denss, D.int_i, D.boo_b, D.str_s, D.rows_l, List.getD_cons_zero, List.getD_cons_succ, List.cons_append, List.nil_append, List.append_nil, List.length_cons, List.length_nil, decide_eq_true_eq, decide_eq_false_iff_not, Bool.not_eq_true', Bool.not_eq_false', Bool.and_eq_true, Bool.and_eq_false_iff, Bool.true_eq_false, Bool.false_eq_true, Bool.not_true, Bool.not_false, eq_self, D.len_l, wr64, not_true_eq_false, not_false_eq_true]); exact power_to h (by omega) (by omega) (by omega) (by omega)) ?_
  rintro _ ρ2 ⟨f, rfl, f0, f1, f2⟩ eρ
  refine ⟨rfl, ?_⟩
  simp only [List.cons_append, List.nil_append] at eρ
  subst eρ
  (repeat' (first
      | (refine To.subK (fun K hK => ?_))
      | (refine To.need (by simp (disch := omega) only [X.den, X.dens, X.denss, D.int_i, D.boo_b, D.str_s, D.rows_l, List.getD_cons_zero, List.getD_cons_succ, List.cons_append, List.nil_append, List.append_nil, List.length_cons, List.length_nil, decide_eq_true_eq, decide_eq_false_iff_not, Bool.not_eq_true', Bool.not_eq_false', Bool.and_eq_true, Bool.and_eq_false_iff, Bool.true_eq_false, Bool.false_eq_true, Bool.not_true, Bool.not_false, eq_self, D.len_l, wr64, not_true_eq_false, not_false_eq_true] <;> omega) ?_)
      | (refine To.ite (fun c => ?_) (fun c => ?_) <;> ((try simp (disch := omega) only [X.den, X.dens, X.denss, D.int_i, D.boo_b, D.str_s, D.rows_l, List.getD_cons_zero, List.getD_cons_succ, List.cons_append, List.nil_append, List.append_nil, List.length_cons, List.length_nil, decide_eq_true_eq, decide_eq_false_iff_not, Bool.not_eq_true', Bool.not_eq_false', Bool.and_eq_true, Bool.and_eq_false_iff, Bool.true_eq_false, Bool.false_eq_true, Bool.not_true, Bool.not_false, eq_self, D.len_l, wr64, not_true_eq_false, not_false_eq_true] at c) <;> (try (exfalso; omega))))
      | (refine To.ret ⟨rfl, ?_⟩; (try simp (disch := omega) only [X.den, X.dens, X.denss, D.int_i, D.boo_b, D.str_s, D.rows_l, List.getD_cons_zero, List.getD_cons_succ, List.cons_append, List.nil_append, List.append_nil, List.length_cons, List.length_nil, decide_eq_true_eq, decide_eq_false_iff_not, Bool.not_eq_true', Bool.not_eq_false', Bool.and_eq_true, Bool.and_eq_false_iff, Bool.true_eq_false, Bool.false_eq_true, Bool.not_true, Bool.not_false, eq_self, D.len_l, wr64, not_true_eq_false, not_false_eq_true]); refine hK _ _ (by simp only [List.cons_append, List.nil_append]; first | done | rfl) ?_; clear hK; clear K)))
  all_goals (refine To.ret ?_; simp only [X.den, X.dens, X.denss, D.int_i, D.boo_b, D.str_s, D.rows_l, List.getD_cons_zero, List.getD_cons_succ, List.cons_append, List.nil_append, List.append_nil, List.length_cons, List.length_nil])
theorem most_mono {m mx co p m' mx' co' p' : Int} (h : MostOk m mx co p) (h' : MostOk m' mx' co' p') (hx : mx ≤ mx') (hp : p ≤ p') (hc : co' ≤ co) (hc0 : 0 ≤ co') : m ≤ m' := by
  unfold MostOk at *
  apply Int.not_lt.1
  intro hlt
  have k1 := Int.mul_le_mul (show m' + 1 ≤ m by omega) (show m' + 1 ≤ m by omega) (show 0 ≤ m' + 1 by omega) h.1
  have k2 := Int.mul_le_mul k1 hc hc0 (sq_nn m)
  omega
theorem srcThr_to {rows : List (List D)} {at_ : Int} (h : SrcOk rows at_) :
    ∃ l, srcThr_T.run srcM12 10 [.l rows, .i at_] = some l ∧ ∃ k st mx rt co arcs at', l = [.i k, .i st, .i mx, .i rt, .i co, .l arcs, .l rows, .i at'] ∧ ThrOk k st mx rt co arcs ∧ mx ≤ 40 ∧ rt ≤ 50 ∧ arcs.length ≤ 2 ∧ SrcOk rows at' := by
  refine run_to ?_
  unfold srcThr_T
  refine To.viaK (by (try simp (disch := omega) only [X.den, X.dens, X.denss, D.int_i, D.boo_b, D.str_s, D.rows_l, List.getD_cons_zero, List.getD_cons_succ, List.cons_append, List.nil_append, List.append_nil, List.length_cons, List.length_nil, decide_eq_true_eq, decide_eq_false_iff_not, Bool.not_eq_true', Bool.not_eq_false', Bool.and_eq_true, Bool.and_eq_false_iff, Bool.true_eq_false, Bool.false_eq_true, Bool.not_true, Bool.not_false, eq_self, D.len_l, wr64, not_true_eq_false, not_false_eq_true]); exact srcN_to h (by omega) (by omega)) ?_
  rintro _ ρ2 ⟨r1, t1, rfl, p1, q1, h1⟩ eρ
  refine ⟨rfl, ?_⟩
  simp only [List.cons_append, List.nil_append] at eρ
  subst eρ
  refine To.viaK (by (try simp (disch := omega) only [X.den, X.dens, X.denss, D.int_i, D.boo_b, D.str_s, D.rows_l, List.getD_cons_zero, List.getD_cons_succ, List.cons_append, List.nil_append, List.append_nil, List.length_cons, List.length_nil, decide_eq_true_eq, decide_eq_false_iff_not, Bool.not_eq_true', Bool.not_eq_false', Bool.and_eq_true, Bool.and_eq_false_iff, Bool.true_eq_false, Bool.false_eq_true, Bool.not_true, Bool.not_false, eq_self, D.len_l, wr64, not_true_eq_false, not_false_eq_true]); exact srcN_to h1 (by omega) (by omega)) ?_
  rintro _ ρ2 ⟨r2, t2, rfl, p2, q2, h2⟩ eρ
  refine ⟨rfl, ?_⟩
  simp only [List.cons_append, List.nil_append] at eρ
  subst eρ
  refine To.viaK (by (try simp (disch := omega) only [X.den, X.dens, X.denss, D.int_i, D.boo_b, D.str_s, D.rows_l, List.getD_cons_zero, List.getD_cons_succ, List.cons_append, List.nil_append, List.append_nil, List.length_cons, List.length_nil, decide_eq_true_eq, decide_eq_false_iff_not, Bool.not_eq_true', Bool.not_eq_false', Bool.and_eq_true, Bool.and_eq_false_iff, Bool.true_eq_false, Bool.false_eq_true, Bool.not_true, Bool.not_false, eq_self, D.len_l, wr64, not_true_eq_false, not_false_eq_true]); exact srcN_to h2 (by omega) (by omega)) ?_
  rintro _ ρ2 ⟨r3, t3, rfl, p3, q3, h3⟩ eρ
  refine ⟨rfl, ?_⟩
  simp only [List.cons_append, List.nil_append] at eρ
  subst eρ
  refine To.need (by simp only [X.den, X.dens, X.denss, D.int_i, D.boo_b, D.str_s, D.rows_l, List.getD_cons_zero, List.getD_cons_succ, List.cons_append, List.nil_append, List.append_nil, List.length_cons, List.length_nil, decide_eq_true_eq, decide_eq_false_iff_not, Bool.not_eq_true', Bool.not_eq_false', Bool.and_eq_true, Bool.and_eq_false_iff, Bool.true_eq_false, Bool.false_eq_true, Bool.not_true, Bool.not_false, eq_self]; omega) ?_
  refine To.viaK (by (try simp (disch := omega) only [X.den, X.dens, X.denss, D.int_i, D.boo_b, D.str_s, D.rows_l, List.getD_cons_zero, List.getD_cons_succ, List.cons_append, List.nil_append, List.append_nil, List.length_cons, List.length_nil, decide_eq_true_eq, decide_eq_false_iff_not, Bool.not_eq_true', Bool.not_eq_false', Bool.and_eq_true, Bool.and_eq_false_iff, Bool.true_eq_false, Bool.false_eq_true, Bool.not_true, Bool.not_false, eq_self, D.len_l, wr64, not_true_eq_false, not_false_eq_true]); exact srcN_to h3 (by omega) (by omega)) ?_
  rintro _ ρ2 ⟨r4, t4, rfl, p4, q4, h4⟩ eρ
  refine ⟨rfl, ?_⟩
  simp only [List.cons_append, List.nil_append] at eρ
  subst eρ
  refine To.need (by simp only [X.den, X.dens, X.denss, D.int_i, D.boo_b, D.str_s, D.rows_l, List.getD_cons_zero, List.getD_cons_succ, List.cons_append, List.nil_append, List.append_nil, List.length_cons, List.length_nil, decide_eq_true_eq, decide_eq_false_iff_not, Bool.not_eq_true', Bool.not_eq_false', Bool.and_eq_true, Bool.and_eq_false_iff, Bool.true_eq_false, Bool.false_eq_true, Bool.not_true, Bool.not_false, eq_self]; omega) ?_
  refine To.viaK (by (try simp (disch := omega) only [X.den, X.dens, X.denss, D.int_i, D.boo_b, D.str_s, D.rows_l, List.getD_cons_zero, List.getD_cons_succ, List.cons_append, List.nil_append, List.append_nil, List.length_cons, List.length_nil, decide_eq_true_eq, decide_eq_false_iff_not, Bool.not_eq_true', Bool.not_eq_false', Bool.and_eq_true, Bool.and_eq_false_iff, Bool.true_eq_false, Bool.false_eq_true, Bool.not_true, Bool.not_false, eq_self, D.len_l, wr64, not_true_eq_false, not_false_eq_true]); exact srcN_to h4 (by omega) (by omega)) ?_
  rintro _ ρ2 ⟨r5, t5, rfl, p5, q5, h5⟩ eρ
  refine ⟨rfl, ?_⟩
  simp only [List.cons_append, List.nil_append] at eρ
  subst eρ
  refine To.need (by simp only [X.den, X.dens, X.denss, D.int_i, D.boo_b, D.str_s, D.rows_l, List.getD_cons_zero, List.getD_cons_succ, List.cons_append, List.nil_append, List.append_nil, List.length_cons, List.length_nil, decide_eq_true_eq, decide_eq_false_iff_not, Bool.not_eq_true', Bool.not_eq_false', Bool.and_eq_true, Bool.and_eq_false_iff, Bool.true_eq_false, Bool.false_eq_true, Bool.not_true, Bool.not_false, eq_self]; omega) ?_
  refine To.viaK (by (try simp (disch := omega) only [X.den, X.dens, X.denss, D.int_i, D.boo_b, D.str_s, D.rows_l, List.getD_cons_zero, List.getD_cons_succ, List.cons_append, List.nil_append, List.append_nil, List.length_cons, List.length_nil, decide_eq_true_eq, decide_eq_false_iff_not, Bool.not_eq_true', Bool.not_eq_false', Bool.and_eq_true, Bool.and_eq_false_iff, Bool.true_eq_false, Bool.false_eq_true, Bool.not_true, Bool.not_false, eq_self, D.len_l, wr64, not_true_eq_false, not_false_eq_true]); exact srcN_to h5 (by omega) (by omega)) ?_
  rintro _ ρ2 ⟨r6, t6, rfl, p6, q6, h6⟩ eρ
  refine ⟨rfl, ?_⟩
  simp only [List.cons_append, List.nil_append] at eρ
  subst eρ
  obtain ⟨a, ha, ea⟩ := pick_cell (zs := [0, 1, 7, 20, 40]) p3 q3
  have ea : (D.l [[.i 0], [.i 1], [.i 7], [.i 20], [.i 40]]).cell r3 0 = .i a := ea
  obtain ⟨b, hb, eb⟩ := pick_cell (zs := [0, 1, 5, 50]) p4 q4
  have eb : (D.l [[.i 0], [.i 1], [.i 5], [.i 50]]).cell r4 0 = .i b := eb
  obtain ⟨c, hc, ec⟩ := pick_cell (zs := [1, 2, 3, 100]) p5 q5
  have ec : (D.l [[.i 1], [.i 2], [.i 3], [.i 100]]).cell r5 0 = .i c := ec
  simp only [List.mem_cons, List.not_mem_nil, or_false] at ha hb hc
  refine To.loopK (fun m l => ∃ arcs at_ k, l = [.l arcs, .l rows, .i at_, .i k] ∧ SrcOk rows at_ ∧ k = m ∧ k + arcs.length ≤ 2 ∧ ∀ r ∈ arcs, ArcRow r) (fun l => ∃ arcs at_, l = [.l arcs, .l rows, .i at_] ∧ SrcOk rows at_ ∧ arcs.length ≤ 2 ∧ ∀ r ∈ arcs, ArcRow r) r6.toNat (by omega) ?_ ?_ ?_
  · exact ⟨[], t6, r6, by simp only [X.den, X.dens, X.denss, D.int_i, D.boo_b, D.str_s, D.rows_l, List.getD_cons_zero, List.getD_cons_succ, List.cons_append, List.nil_append, List.append_nil, List.length_cons, List.length_nil], h6, by omega, by simp; omega, by simp⟩
  · rintro m l ρ2 ⟨arcs, a_, k, rfl, hs, hk, hn, hf⟩ eρ
    simp only [List.cons_append, List.nil_append] at eρ
    subst eρ
    refine To.ite (fun cc => ?_) (fun cc => ?_) <;> simp only [X.den, X.dens, X.denss, D.int_i, D.boo_b, D.str_s, D.rows_l, List.getD_cons_zero, List.getD_cons_succ, List.cons_append, List.nil_append, List.append_nil, List.length_cons, List.length_nil, decide_eq_true_eq, decide_eq_false_iff_not, Bool.not_eq_true', Bool.not_eq_false', Bool.and_eq_true, Bool.and_eq_false_iff, Bool.true_eq_false, Bool.false_eq_true, Bool.not_true, Bool.not_false, eq_self] at cc
    · refine To.viaK (by (try simp (disch := omega) only [X.den, X.dens, X.denss, D.int_i, D.boo_b, D.str_s, D.rows_l, List.getD_cons_zero, List.getD_cons_succ, List.cons_append, List.nil_append, List.append_nil, List.length_cons, List.length_nil, decide_eq_true_eq, decide_eq_false_iff_not, Bool.not_eq_true', Bool.not_eq_false', Bool.and_eq_true, Bool.and_eq_false_iff, Bool.true_eq_false, Bool.false_eq_true, Bool.not_true, Bool.not_false, eq_self, D.len_l, wr64, not_true_eq_false, not_false_eq_true]); exact srcN_to hs (by omega) (by omega)) ?_
      rintro _ ρ2 ⟨r7, t7, rfl, p7, q7, h7⟩ eρ
      refine ⟨rfl, ?_⟩
      simp only [List.cons_append, List.nil_append] at eρ
      subst eρ
      refine To.need (by simp only [X.den, X.dens, X.denss, D.int_i, D.boo_b, D.str_s, D.rows_l, List.getD_cons_zero, List.getD_cons_succ, List.cons_append, List.nil_append, List.append_nil, List.length_cons, List.length_nil, decide_eq_true_eq, decide_eq_false_iff_not, Bool.not_eq_true', Bool.not_eq_false', Bool.and_eq_true, Bool.and_eq_false_iff, Bool.true_eq_false, Bool.false_eq_true, Bool.not_true, Bool.not_false, eq_self]; omega) ?_
      refine To.viaK (by (try simp (disch := omega) only [X.den, X.dens, X.denss, D.int_i, D.boo_b, D.str_s, D.rows_l, List.getD_cons_zero, List.getD_cons_succ, List.cons_append, List.nil_append, List.append_nil, List.length_cons, List.length_nil, decide_eq_true_eq, decide_eq_false_iff_not, Bool.not_eq_true', Bool.not_eq_false', Bool.and_eq_true, Bool.and_eq_false_iff, Bool.true_eq_false, Bool.false_eq_true, Bool.not_true, Bool.not_false, eq_self, D.len_l, wr64, not_true_eq_false, not_false_eq_true]); exact srcN_to h7 (by omega) (by omega)) ?_
      rintro _ ρ2 ⟨r8, t8, rfl, p8, q8, h8⟩ eρ
      refine ⟨rfl, ?_⟩
      simp only [List.cons_append, List.nil_append] at eρ
      subst eρ
      refine To.need (by simp only [X.den, X.dens, X.denss, D.int_i, D.boo_b, D.str_s, D.rows_l, List.getD_cons_zero, List.getD_cons_succ, List.cons_append, List.nil_append, List.append_nil, List.length_cons, List.length_nil, decide_eq_true_eq, decide_eq_false_iff_not, Bool.not_eq_true', Bool.not_eq_false', Bool.and_eq_true, Bool.and_eq_false_iff, Bool.true_eq_false, Bool.false_eq_true, Bool.not_true, Bool.not_false, eq_self]; omega) ?_
      refine To.need (by simp only [X.den, X.dens, X.denss, D.int_i, D.boo_b, D.str_s, D.rows_l, List.getD_cons_zero, List.getD_cons_succ, List.cons_append, List.nil_append, List.append_nil, List.length_cons, List.length_nil, decide_eq_true_eq, decide_eq_false_iff_not, Bool.not_eq_true', Bool.not_eq_false', Bool.and_eq_true, Bool.and_eq_false_iff, Bool.true_eq_false, Bool.false_eq_true, Bool.not_true, Bool.not_false, eq_self, D.len_l]; omega) ?_
      obtain ⟨u, hu, eu⟩ := pick_cell (zs := [0, 450, 800, 1350, 1800, 2600, 3500]) p7 q7
      have eu : (D.l [[.i 0], [.i 450], [.i 800], [.i 1350], [.i 1800], [.i 2600], [.i 3500]]).cell r7 0 = .i u := eu
      obtain ⟨v, hv, ev⟩ := pick_cell (zs := [0, 100, 300, 900, 1799]) p8 q8
      have ev : (D.l [[.i 0], [.i 100], [.i 300], [.i 900], [.i 1799]]).cell r8 0 = .i v := ev
      simp only [List.mem_cons, List.not_mem_nil, or_false] at hu hv
      have ub : 0 ≤ u ∧ u ≤ 3500 := by omega
      have vb : 0 ≤ v ∧ v ≤ 1799 := by omega
      clear hu hv
      refine To.ret (.inl ⟨rfl, m - 1, by omega, ?_⟩)
      simp (disch := omega) only [X.den, X.dens, X.denss, D.int_i, D.boo_b, D.str_s, D.rows_l, List.getD_cons_zero, List.getD_cons_succ, List.cons_append, List.nil_append, List.append_nil, List.length_cons, List.length_nil, wr64, eu, ev]
      refine ⟨_, _, _, rfl, h8, by omega, by rw [List.length_append]; simp only [List.length_cons, List.length_nil]; omega, ?_⟩
      intro r hr
      rcases List.mem_append.1 hr with hr | hr
      · exact hf r hr
      · rw [List.mem_singleton] at hr
        have e : (u + v).tmod 3600 = (u + v) % 3600 := Int.tmod_eq_emod_of_nonneg (by omega)
        exact ⟨_, _, hr, by omega, by omega, by omega⟩
    · exact To.ret (.inr ⟨rfl, arcs, a_, by simp only [X.den, X.dens, X.denss, D.int_i, D.boo_b, D.str_s, D.rows_l, List.getD_cons_zero, List.getD_cons_succ, List.cons_append, List.nil_append, List.append_nil, List.length_cons, List.length_nil], hs, by omega, hf⟩)
  · rintro l ρ2 ⟨arcs, a_, rfl, hs, hn, hf⟩ eρ
    simp only [List.cons_append, List.nil_append] at eρ
    subst eρ
    refine ⟨rfl, To.ret ?_⟩
    simp (disch := omega) only [X.den, X.dens, X.denss, D.int_i, D.boo_b, D.str_s, D.rows_l, List.getD_cons_zero, List.getD_cons_succ, List.cons_append, List.nil_append, List.append_nil, List.length_cons, List.length_nil, wr64, ea, eb, ec]
    exact ⟨_, _, _, _, _, _, _, rfl, ⟨by omega, by omega, by omega, by omega, by omega, by omega, hf⟩, by omega, by omega, hn, hs⟩
end Go.Proofs.Ytladhlgibapohaa
