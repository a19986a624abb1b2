/- Shares: the reference's division. -/
import Derived.Test.YtlhnhidoljfnnaaShrX
set_option linter.unusedVariables false
set_option linter.unusedSimpArgs false
namespace Go.Proofs.Ytlhnhidoljfnnaa
open Go.RowKit Fx Sh
def rdvM : Models := Models.on rRea13_K.f (rRea13_T.run rreM 30) noM
theorem rdivide_bad {l : List (List D)} {t : Int} (h : ¬ vd l = 0) : ∃ o, rDiv13_T.run rdvM 100000 [.l l, .i t] = some o ∧ o = [.l [], .i 0, .i (vd l)] := by
  refine run_to ?_
  unfold rDiv13_T
  refine To.viaK (by (try simp (disch := omega) only [X.den, X.dens, X.denss, D.int_i, D.boo_b, D.str_s, D.rows_l, List.getD_cons_zero, List.getD_cons_succ, List.cons_append, List.nil_append, List.append_nil, List.length_cons, List.length_nil, decide_eq_true_eq, decide_eq_false_iff_not, Bool.not_eq_true', Bool.not_eq_false', Bool.and_eq_true, Bool.and_eq_false_iff, Bool.true_eq_false, Bool.false_eq_true, Bool.not_true, Bool.not_false, eq_self, D.len_l, wr64, not_true_eq_false, not_false_eq_true]); exact rreach_gen) ?_
  rintro _ ρ2 rfl eρ
  refine ⟨rfl, ?_⟩
  simp only [List.cons_append, List.nil_append] at eρ
  subst eρ
  refine To.no (by simp only [X.den, X.dens, X.denss, D.int_i, D.boo_b, D.str_s, D.rows_l, List.getD_cons_zero, List.getD_cons_succ, List.cons_append, List.nil_append, List.append_nil, List.length_cons, List.length_nil, decide_eq_true_eq, decide_eq_false_iff_not, Bool.not_eq_true', Bool.not_eq_false', Bool.and_eq_true, Bool.and_eq_false_iff, Bool.true_eq_false, Bool.false_eq_true, Bool.not_true, Bool.not_false, eq_self]; exact h) (To.ret ?_)
  simp only [X.den, X.dens, X.denss, D.int_i, D.boo_b, D.str_s, D.rows_l, List.getD_cons_zero, List.getD_cons_succ, List.cons_append, List.nil_append, List.append_nil, List.length_cons, List.length_nil, X.denss]
theorem rdivide_far {l : List (List D)} {t : Int} (h : vd l = 0) (ht : t < -500000 ∨ 500000 < t) : ∃ o, rDiv13_T.run rdvM 100000 [.l l, .i t] = some o ∧ o = [.l [], .i 0, .i 1] := by
  refine run_to ?_
  unfold rDiv13_T
  refine To.viaK (by (try simp (disch := omega) only [X.den, X.dens, X.denss, D.int_i, D.boo_b, D.str_s, D.rows_l, List.getD_cons_zero, List.getD_cons_succ, List.cons_append, List.nil_append, List.append_nil, List.length_cons, List.length_nil, decide_eq_true_eq, decide_eq_false_iff_not, Bool.not_eq_true', Bool.not_eq_false', Bool.and_eq_true, Bool.and_eq_false_iff, Bool.true_eq_false, Bool.false_eq_true, Bool.not_true, Bool.not_false, eq_self, D.len_l, wr64, not_true_eq_false, not_false_eq_true]); exact rreach_gen) ?_
  rintro _ ρ2 rfl eρ
  refine ⟨rfl, ?_⟩
  simp only [List.cons_append, List.nil_append] at eρ
  subst eρ
  refine To.yes (by simp only [X.den, X.dens, X.denss, D.int_i, D.boo_b, D.str_s, D.rows_l, List.getD_cons_zero, List.getD_cons_succ, List.cons_append, List.nil_append, List.append_nil, List.length_cons, List.length_nil, decide_eq_true_eq, decide_eq_false_iff_not, Bool.not_eq_true', Bool.not_eq_false', Bool.and_eq_true, Bool.and_eq_false_iff, Bool.true_eq_false, Bool.false_eq_true, Bool.not_true, Bool.not_false, eq_self]; exact h) ?_
  refine To.joinK (fun o => o = [.b true]) ?_ ?_
  · refine To.ite (fun c => ?_) (fun c => ?_) <;> simp only [X.den, X.dens, X.denss, D.int_i, D.boo_b, D.str_s, D.rows_l, List.getD_cons_zero, List.getD_cons_succ, List.cons_append, List.nil_append, List.append_nil, List.length_cons, List.length_nil, decide_eq_true_eq, decide_eq_false_iff_not, Bool.not_eq_true', Bool.not_eq_false', Bool.and_eq_true, Bool.and_eq_false_iff, Bool.true_eq_false, Bool.false_eq_true, Bool.not_true, Bool.not_false, eq_self] at c
    · exact To.ret ⟨rfl, by simp only [X.den, X.dens, X.denss, D.int_i, D.boo_b, D.str_s, D.rows_l, List.getD_cons_zero, List.getD_cons_succ, List.cons_append, List.nil_append, List.append_nil, List.length_cons, List.length_nil]⟩
    · refine To.ret ⟨rfl, ?_⟩
      simp only [X.den, X.dens, X.denss, D.int_i, D.boo_b, D.str_s, D.rows_l, List.getD_cons_zero, List.getD_cons_succ, List.cons_append, List.nil_append, List.append_nil, List.length_cons, List.length_nil]
      rw [decide_eq_true (by omega)]
  · rintro o ρ2 rfl eρ
    simp only [List.cons_append, List.nil_append] at eρ
    subst eρ
    refine To.yes rfl (To.ret ?_)
    simp only [X.den, X.dens, X.denss, D.int_i, D.boo_b, D.str_s, D.rows_l, List.getD_cons_zero, List.getD_cons_succ, List.cons_append, List.nil_append, List.append_nil, List.length_cons, List.length_nil, X.denss]
/-- the cheapest step of all, the first one of several, keeps what is right -/
theorem lex_step {n : Nat} {lo hi c x y : Int → Int} {b : Int} (hc : ∀ i : Int, 0 ≤ i → i < n → 1 ≤ c i) (L : Lex n lo hi c x) (hb : x b < hi b) (hm : ∀ i : Int, 0 ≤ i → i < n → x i < hi i → c b * (2 * x b + 1) ≤ c i * (2 * x i + 1) ∧ (c b * (2 * x b + 1) = c i * (2 * x i + 1) → b ≤ i)) (b0 : 0 ≤ b) (b1 : b < n)
    (hy : ∀ i : Int, 0 ≤ i → i < n → y i = if i = b then x b + 1 else x i) : Lex n lo hi c y := fun i j i0 i1 j0 j1 ne hl hh => by
  rw [hy i i0 i1] at hl ⊢
  rw [hy j j0 j1] at hh ⊢
  by_cases p : i = b
  · subst p
    rw [if_pos rfl] at hl ⊢
    rw [if_neg (Ne.symm ne)] at hh ⊢
    have := hm j j0 j1 hh
    rw [show 2 * (x i + 1) - 1 = 2 * x i + 1 by omega]
    by_cases q : c i * (2 * x i + 1) = c j * (2 * x j + 1)
    · have := this.2 q
      exact .inr ⟨q, by omega⟩
    · exact .inl (by omega)
  · rw [if_neg p] at hl ⊢
    by_cases q : j = b
    · subst q
      rw [if_pos rfl] at hh ⊢
      have a := L i j i0 i1 j0 j1 ne hl hb
      have s := mul_step (hc j j0 j1) (show 2 * x j + 1 + 1 ≤ 2 * (x j + 1) + 1 by omega)
      rw [Int.mul_add] at s
      have := hc j j0 j1
      exact .inl (by omega)
    · rw [if_neg q] at hh ⊢
      exact L i j i0 i1 j0 j1 ne hl hh
theorem rdivide_gen {l : List (List D)} {t : Int} (h : vd l = 0) (t0 : -500000 ≤ t) (t1 : t ≤ 500000) : ∃ o, rDiv13_T.run rdvM 100000 [.l l, .i t] = some o ∧ ∃ x, o = [.l x, .i (t - goal l t), .i 0] ∧ DivOk l (goal l t) x := by
  obtain ⟨h8, hv⟩ := vd_zero h
  have ga := goal_alt (t := t) h
  have hg : goal l t = max (reS l 0) (min t (reS l 1)) := rfl
  have q0 : reS l 0 = sumf (ce l 0) l.length := by unfold reS; rw [if_pos h]
  have q1 : reS l 1 = sumf (ce l 1) l.length := by unfold reS; rw [if_pos h]
  have hc : ∀ i : Int, 0 ≤ i → i < l.length → 1 ≤ ce l 2 i ∧ ce l 0 i ≤ ce l 1 i := fun i a b => by have := hv i a b; simp only [okS] at this; omega
  have lohi : sumf (ce l 0) l.length ≤ sumf (ce l 1) l.length := sumf_le fun i a b => (hc i a b).2
  have sr := sum_rng hv l.length (by omega)
  refine run_to ?_
  unfold rDiv13_T
  refine To.viaK (by (try simp (disch := omega) only [X.den, X.dens, X.denss, D.int_i, D.boo_b, D.str_s, D.rows_l, List.getD_cons_zero, List.getD_cons_succ, List.cons_append, List.nil_append, List.append_nil, List.length_cons, List.length_nil, decide_eq_true_eq, decide_eq_false_iff_not, Bool.not_eq_true', Bool.not_eq_false', Bool.and_eq_true, Bool.and_eq_false_iff, Bool.true_eq_false, Bool.false_eq_true, Bool.not_true, Bool.not_false, eq_self, D.len_l, wr64, not_true_eq_false, not_false_eq_true]); exact rreach_gen) ?_
  rintro _ ρ2 rfl eρ
  refine ⟨rfl, ?_⟩
  simp only [List.cons_append, List.nil_append] at eρ
  subst eρ
  refine To.yes (by simp only [X.den, X.dens, X.denss, D.int_i, D.boo_b, D.str_s, D.rows_l, List.getD_cons_zero, List.getD_cons_succ, List.cons_append, List.nil_append, List.append_nil, List.length_cons, List.length_nil, decide_eq_true_eq, decide_eq_false_iff_not, Bool.not_eq_true', Bool.not_eq_false', Bool.and_eq_true, Bool.and_eq_false_iff, Bool.true_eq_false, Bool.false_eq_true, Bool.not_true, Bool.not_false, eq_self]; exact h) ?_
  refine To.joinK (fun o => o = [.b false]) ?_ ?_
  · refine To.ite (fun c => ?_) (fun c => ?_) <;> simp only [X.den, X.dens, X.denss, D.int_i, D.boo_b, D.str_s, D.rows_l, List.getD_cons_zero, List.getD_cons_succ, List.cons_append, List.nil_append, List.append_nil, List.length_cons, List.length_nil, decide_eq_true_eq, decide_eq_false_iff_not, Bool.not_eq_true', Bool.not_eq_false', Bool.and_eq_true, Bool.and_eq_false_iff, Bool.true_eq_false, Bool.false_eq_true, Bool.not_true, Bool.not_false, eq_self] at c
    · exfalso; omega
    · refine To.ret ⟨rfl, ?_⟩
      simp only [X.den, X.dens, X.denss, D.int_i, D.boo_b, D.str_s, D.rows_l, List.getD_cons_zero, List.getD_cons_succ, List.cons_append, List.nil_append, List.append_nil, List.length_cons, List.length_nil]
      rw [decide_eq_false (by omega)]
  rintro o ρ2 rfl eρ
  simp only [List.cons_append, List.nil_append] at eρ
  subst eρ
  refine To.no rfl ?_
  refine To.loopK (fun m o => ∃ (y : List (List D)) (k : Nat), o = [.l y, .i k] ∧ k + m = l.length ∧ y.length = k ∧ One y ∧ ∀ i : Int, 0 ≤ i → i < k → ce y 0 i = ce l 0 i) (fun o => ∃ y : List (List D), o = [.l y] ∧ y.length = l.length ∧ One y ∧ ∀ i : Int, 0 ≤ i → i < l.length → ce y 0 i = ce l 0 i) l.length (by omega) ?_ ?_ ?_
  · exact ⟨[], 0, rfl, by omega, rfl, (fun r hr => by cases hr), by intro i; omega⟩
  · rintro m o ρ2 ⟨y, k, rfl, hk, hy, h1, hi⟩ eρ
    simp only [List.cons_append, List.nil_append] at eρ
    subst eρ
    refine To.ite (fun c => ?_) (fun c => ?_) <;> simp only [X.den, X.dens, X.denss, D.int_i, D.boo_b, D.str_s, D.rows_l, List.getD_cons_zero, List.getD_cons_succ, List.cons_append, List.nil_append, List.append_nil, List.length_cons, List.length_nil, decide_eq_true_eq, decide_eq_false_iff_not, Bool.not_eq_true', Bool.not_eq_false', Bool.and_eq_true, Bool.and_eq_false_iff, Bool.true_eq_false, Bool.false_eq_true, Bool.not_true, Bool.not_false, eq_self, D.len_l] at c
    · refine To.need (by simp only [X.den, X.dens, X.denss, D.int_i, D.boo_b, D.str_s, D.rows_l, List.getD_cons_zero, List.getD_cons_succ, List.cons_append, List.nil_append, List.append_nil, List.length_cons, List.length_nil, decide_eq_true_eq, decide_eq_false_iff_not, Bool.not_eq_true', Bool.not_eq_false', Bool.and_eq_true, Bool.and_eq_false_iff, Bool.true_eq_false, Bool.false_eq_true, Bool.not_true, Bool.not_false, eq_self, D.len_l]; omega) ?_
      refine To.need (by simp only [X.den, X.dens, X.denss, D.int_i, D.boo_b, D.str_s, D.rows_l, List.getD_cons_zero, List.getD_cons_succ, List.cons_append, List.nil_append, List.append_nil, List.length_cons, List.length_nil, decide_eq_true_eq, decide_eq_false_iff_not, Bool.not_eq_true', Bool.not_eq_false', Bool.and_eq_true, Bool.and_eq_false_iff, Bool.true_eq_false, Bool.false_eq_true, Bool.not_true, Bool.not_false, eq_self, D.len_l]; omega) ?_
      refine To.ret (.inl ⟨rfl, m - 1, by omega, y ++ [[(D.l l).cell k 0]], k + 1, ?_, by omega, by rw [List.length_append]; simp; omega, fun r hr => ?_, fun i i0 i1 => ?_⟩)
      · simp (disch := omega) only [X.den, X.dens, X.denss, D.int_i, D.boo_b, D.str_s, D.rows_l, List.getD_cons_zero, List.getD_cons_succ, List.cons_append, List.nil_append, List.append_nil, List.length_cons, List.length_nil, X.denss, wr64, nat_succ]
      · rcases List.mem_append.1 hr with hr | hr
        · exact h1 r hr
        · exact ⟨_, List.mem_singleton.1 hr⟩
      · by_cases q : i = k
        · subst q
          simp only [ce, cell_of]
          rw [List.getD_eq_getElem?_getD (l := y ++ _), List.getElem?_append_right (by omega)]
          simp [hy, cell_of]
        · rw [← hi i i0 (by omega)]
          simp only [ce, cell_of]
          rw [List.getD_eq_getElem?_getD (l := y ++ _), List.getElem?_append_left (by omega), ← List.getD_eq_getElem?_getD]
    · obtain rfl : k = l.length := by omega
      exact To.ret (.inr ⟨rfl, y, by simp only [X.den, X.dens, X.denss, D.int_i, D.boo_b, D.str_s, D.rows_l, List.getD_cons_zero, List.getD_cons_succ, List.cons_append, List.nil_append, List.append_nil, List.length_cons, List.length_nil], hy, h1, hi⟩)
  rintro o ρ2 ⟨x0, rfl, x0l, x01, x0i⟩ eρ
  simp only [List.cons_append, List.nil_append] at eρ
  subst eρ
  refine ⟨rfl, ?_⟩
  refine To.loopK (fun m o => ∃ (y : List (List D)) (n : Int), o = [.l y, .i n] ∧ (One y ∧ y.length = l.length ∧ Rng l.length (ce l 0) (ce l 1) (ce y 0) ∧ sumf (ce y 0) l.length = n ∧ Lex l.length (ce l 0) (ce l 1) (ce l 2) (ce y 0)) ∧ n + m = goal l t) (fun o => ∃ y : List (List D), o = [.l y] ∧ DivOk l (goal l t) y) (goal l t - reS l 0).toNat (by omega) ?_ ?_ ?_
  · refine ⟨x0, reS l 0, by simp only [X.den, X.dens, X.denss, D.int_i, D.boo_b, D.str_s, D.rows_l, List.getD_cons_zero, List.getD_cons_succ, List.cons_append, List.nil_append, List.append_nil, List.length_cons, List.length_nil], ⟨x01, x0l, fun i a b => ?_, ?_, fun i j a b d e f g k => ?_⟩, by omega⟩
    · rw [x0i i a b]; exact ⟨Int.le_refl _, (hc i a b).2⟩
    · rw [q0]; exact sumf_congr x0i
    · rw [x0i i a b] at g; omega
  · rintro m o ρ2 ⟨y, n, rfl, ⟨y1, yl, yr, ys, yL⟩, hm⟩ eρ
    simp only [List.cons_append, List.nil_append] at eρ
    subst eρ
    have yb := sumf_bound (f := ce y 0) (a := -5000) (b := 5000) (n := l.length) fun i a b => by have := hv i a b; have := yr i a b; simp only [okS] at *; omega
    refine To.ite (fun c => ?_) (fun c => ?_) <;> simp only [X.den, X.dens, X.denss, D.int_i, D.boo_b, D.str_s, D.rows_l, List.getD_cons_zero, List.getD_cons_succ, List.cons_append, List.nil_append, List.append_nil, List.length_cons, List.length_nil, decide_eq_true_eq, decide_eq_false_iff_not, Bool.not_eq_true', Bool.not_eq_false', Bool.and_eq_true, Bool.and_eq_false_iff, Bool.true_eq_false, Bool.false_eq_true, Bool.not_true, Bool.not_false, eq_self, ga] at c
    · refine To.loopK (fun m o => ∃ (b : Int) (k : Nat), o = [.i b, .i k] ∧ k + m = l.length ∧ ((b = -1 ∧ ∀ i : Int, 0 ≤ i → i < k → ¬ ce y 0 i < ce l 1 i) ∨ (0 ≤ b ∧ b < k ∧ ce y 0 b < ce l 1 b ∧ ∀ i : Int, 0 ≤ i → i < k → ce y 0 i < ce l 1 i → growF l y b ≤ growF l y i ∧ (growF l y b = growF l y i → b ≤ i))))
        (fun o => ∃ (b : Int) (r1 r2 : D), o = [.i b, r1, r2] ∧ 0 ≤ b ∧ b < l.length ∧ ce y 0 b < ce l 1 b ∧ ∀ i : Int, 0 ≤ i → i < l.length → ce y 0 i < ce l 1 i → growF l y b ≤ growF l y i ∧ (growF l y b = growF l y i → b ≤ i)) l.length (by omega) ?_ ?_ ?_
      · exact ⟨-1, 0, rfl, by omega, .inl ⟨rfl, by intro i; omega⟩⟩
      · rintro m2 o ρ2 ⟨b, k, rfl, hk, hbest⟩ eρ
        simp only [List.cons_append, List.nil_append] at eρ
        subst eρ
        refine To.ite (fun c => ?_) (fun c => ?_) <;> simp only [X.den, X.dens, X.denss, D.int_i, D.boo_b, D.str_s, D.rows_l, List.getD_cons_zero, List.getD_cons_succ, List.cons_append, List.nil_append, List.append_nil, List.length_cons, List.length_nil, decide_eq_true_eq, decide_eq_false_iff_not, Bool.not_eq_true', Bool.not_eq_false', Bool.and_eq_true, Bool.and_eq_false_iff, Bool.true_eq_false, Bool.false_eq_true, Bool.not_true, Bool.not_false, eq_self, D.len_l] at c
        · have ok := hv k (by omega) (by omega)
          have rk := yr k (by omega) (by omega)
          have bk := loss_rng ok rk
          have ek : ce l 2 k * (2 * ce y 0 k + 1) = growF l y k := rfl
          simp only [okS] at ok
          refine To.joinK (fun o => ∃ (b' : Int) (r : D), o = [.i b', r] ∧ ((b' = -1 ∧ ∀ i : Int, 0 ≤ i → i < (k + 1 : Nat) → ¬ ce y 0 i < ce l 1 i) ∨ (0 ≤ b' ∧ b' < (k + 1 : Nat) ∧ ce y 0 b' < ce l 1 b' ∧ ∀ i : Int, 0 ≤ i → i < (k + 1 : Nat) → ce y 0 i < ce l 1 i → growF l y b' ≤ growF l y i ∧ (growF l y b' = growF l y i → b' ≤ i)))) ?_ ?_
          · refine To.need (by simp only [X.den, X.dens, X.denss, D.int_i, D.boo_b, D.str_s, D.rows_l, List.getD_cons_zero, List.getD_cons_succ, List.cons_append, List.nil_append, List.append_nil, List.length_cons, List.length_nil, decide_eq_true_eq, decide_eq_false_iff_not, Bool.not_eq_true', Bool.not_eq_false', Bool.and_eq_true, Bool.and_eq_false_iff, Bool.true_eq_false, Bool.false_eq_true, Bool.not_true, Bool.not_false, eq_self, D.len_l]; omega) ?_
            refine To.joinK (fun o => ∃ u, o = [.b u] ∧ (u = true ↔ (ce y 0 k < ce l 1 k ∧ (b < 0 ∨ growF l y k < growF l y b)))) ?_ ?_
            · refine To.need (by simp only [X.den, X.dens, X.denss, D.int_i, D.boo_b, D.str_s, D.rows_l, List.getD_cons_zero, List.getD_cons_succ, List.cons_append, List.nil_append, List.append_nil, List.length_cons, List.length_nil, decide_eq_true_eq, decide_eq_false_iff_not, Bool.not_eq_true', Bool.not_eq_false', Bool.and_eq_true, Bool.and_eq_false_iff, Bool.true_eq_false, Bool.false_eq_true, Bool.not_true, Bool.not_false, eq_self, D.len_l]; omega) ?_
              refine To.ite (fun c => ?_) (fun c => ?_) <;> simp only [X.den, X.dens, X.denss, D.int_i, D.boo_b, D.str_s, D.rows_l, List.getD_cons_zero, List.getD_cons_succ, List.cons_append, List.nil_append, List.append_nil, List.length_cons, List.length_nil, decide_eq_true_eq, decide_eq_false_iff_not, Bool.not_eq_true', Bool.not_eq_false', Bool.and_eq_true, Bool.and_eq_false_iff, Bool.true_eq_false, Bool.false_eq_true, Bool.not_true, Bool.not_false, eq_self, ce_def] at c
              · refine To.ite (fun c2 => ?_) (fun c2 => ?_) <;> simp only [X.den, X.dens, X.denss, D.int_i, D.boo_b, D.str_s, D.rows_l, List.getD_cons_zero, List.getD_cons_succ, List.cons_append, List.nil_append, List.append_nil, List.length_cons, List.length_nil, decide_eq_true_eq, decide_eq_false_iff_not, Bool.not_eq_true', Bool.not_eq_false', Bool.and_eq_true, Bool.and_eq_false_iff, Bool.true_eq_false, Bool.false_eq_true, Bool.not_true, Bool.not_false, eq_self] at c2
                · exact To.ret ⟨rfl, true, by simp only [X.den, X.dens, X.denss, D.int_i, D.boo_b, D.str_s, D.rows_l, List.getD_cons_zero, List.getD_cons_succ, List.cons_append, List.nil_append, List.append_nil, List.length_cons, List.length_nil], by simp [c, c2]⟩
                · have hb2 : 0 ≤ b ∧ b < k := by rcases hbest with q | q <;> omega
                  have okb := hv b hb2.1 (by omega)
                  have bb := loss_rng okb (yr b hb2.1 (by omega))
                  have rb := yr b hb2.1 (by omega)
                  have eb : ce l 2 b * (2 * ce y 0 b + 1) = growF l y b := rfl
                  simp only [okS] at okb
                  refine To.need (by simp only [X.den, X.dens, X.denss, D.int_i, D.boo_b, D.str_s, D.rows_l, List.getD_cons_zero, List.getD_cons_succ, List.cons_append, List.nil_append, List.append_nil, List.length_cons, List.length_nil, decide_eq_true_eq, decide_eq_false_iff_not, Bool.not_eq_true', Bool.not_eq_false', Bool.and_eq_true, Bool.and_eq_false_iff, Bool.true_eq_false, Bool.false_eq_true, Bool.not_true, Bool.not_false, eq_self, D.len_l]; omega) ?_
                  refine To.need (by simp only [X.den, X.dens, X.denss, D.int_i, D.boo_b, D.str_s, D.rows_l, List.getD_cons_zero, List.getD_cons_succ, List.cons_append, List.nil_append, List.append_nil, List.length_cons, List.length_nil, decide_eq_true_eq, decide_eq_false_iff_not, Bool.not_eq_true', Bool.not_eq_false', Bool.and_eq_true, Bool.and_eq_false_iff, Bool.true_eq_false, Bool.false_eq_true, Bool.not_true, Bool.not_false, eq_self, D.len_l]; omega) ?_
                  refine To.ret ⟨rfl, decide (growF l y k < growF l y b), ?_, by rw [decide_eq_true_eq]; simp [c, c2]⟩
                  simp (disch := omega) only [X.den, X.dens, X.denss, D.int_i, D.boo_b, D.str_s, D.rows_l, List.getD_cons_zero, List.getD_cons_succ, List.cons_append, List.nil_append, List.append_nil, List.length_cons, List.length_nil, wr64, ce_def, ek, eb]
              · exact To.ret ⟨rfl, false, by simp only [X.den, X.dens, X.denss, D.int_i, D.boo_b, D.str_s, D.rows_l, List.getD_cons_zero, List.getD_cons_succ, List.cons_append, List.nil_append, List.append_nil, List.length_cons, List.length_nil], by simp [c]⟩
            rintro o ρ2 ⟨u, rfl, hu⟩ eρ
            simp only [List.cons_append, List.nil_append] at eρ
            subst eρ
            refine To.ite (fun c2 => ?_) (fun c2 => ?_) <;> simp only [X.den, X.dens, X.denss, D.int_i, D.boo_b, D.str_s, D.rows_l, List.getD_cons_zero, List.getD_cons_succ, List.cons_append, List.nil_append, List.append_nil, List.length_cons, List.length_nil] at c2
            · obtain ⟨u1, u2⟩ := hu.1 c2
              refine To.ret ⟨rfl, k, D.b u, by simp only [X.den, X.dens, X.denss, D.int_i, D.boo_b, D.str_s, D.rows_l, List.getD_cons_zero, List.getD_cons_succ, List.cons_append, List.nil_append, List.append_nil, List.length_cons, List.length_nil], .inr ⟨by omega, by omega, u1, fun i i0 i1 i2 => ?_⟩⟩
              by_cases e : i = k
              · subst e; exact ⟨Int.le_refl _, fun _ => Int.le_refl _⟩
              · rcases hbest with ⟨q1, q2⟩ | ⟨q1, q2, q3, q4⟩
                · exact absurd i2 (q2 i i0 (by omega))
                · have := q4 i i0 (by omega) i2
                  have : growF l y k < growF l y b := u2.resolve_left (by omega)
                  omega
            · have nu : ¬ (ce y 0 k < ce l 1 k ∧ (b < 0 ∨ growF l y k < growF l y b)) := fun q => by rw [hu.2 q] at c2; cases c2
              refine To.ret ⟨rfl, b, D.b u, by simp only [X.den, X.dens, X.denss, D.int_i, D.boo_b, D.str_s, D.rows_l, List.getD_cons_zero, List.getD_cons_succ, List.cons_append, List.nil_append, List.append_nil, List.length_cons, List.length_nil], ?_⟩
              rcases hbest with ⟨q1, q2⟩ | ⟨q1, q2, q3, q4⟩
              · refine .inl ⟨q1, fun i i0 i1 i2 => ?_⟩
                by_cases e : i = k
                · subst e; exact nu ⟨i2, .inl (by omega)⟩
                · exact q2 i i0 (by omega) i2
              · refine .inr ⟨q1, by omega, q3, fun i i0 i1 i2 => ?_⟩
                by_cases e : i = k
                · subst e
                  have : ¬ growF l y k < growF l y b := fun q => nu ⟨i2, .inr q⟩
                  omega
                · exact q4 i i0 (by omega) i2
          rintro o ρ2 ⟨b', r, rfl, hb'⟩ eρ
          simp only [List.cons_append, List.nil_append] at eρ
          subst eρ
          refine To.ret (.inl ⟨rfl, m2 - 1, by omega, b', k + 1, ?_, by omega, hb'⟩)
          simp (disch := omega) only [X.den, X.dens, X.denss, D.int_i, D.boo_b, D.str_s, D.rows_l, List.getD_cons_zero, List.getD_cons_succ, List.cons_append, List.nil_append, List.append_nil, List.length_cons, List.length_nil, wr64, nat_succ]
        · obtain rfl : k = l.length := by omega
          have : 0 ≤ b ∧ b < l.length ∧ ce y 0 b < ce l 1 b ∧ ∀ i : Int, 0 ≤ i → i < l.length → ce y 0 i < ce l 1 i → growF l y b ≤ growF l y i ∧ (growF l y b = growF l y i → b ≤ i) := by
            rcases hbest with ⟨q1, q2⟩ | q
            · exfalso
              have := sumf_le (n := l.length) (f := ce l 1) (g := ce y 0) fun i a b => Int.not_lt.1 (q2 i a b)
              omega
            · exact q
          exact To.ret (.inr ⟨rfl, b, _, _, by simp only [X.den, X.dens, X.denss, D.int_i, D.boo_b, D.str_s, D.rows_l, List.getD_cons_zero, List.getD_cons_succ, List.cons_append, List.nil_append, List.append_nil, List.length_cons, List.length_nil]; rfl, this⟩)
      · rintro o ρ2 ⟨b, r1, r2, rfl, b0, b1, bh, bm⟩ eρ
        simp only [List.cons_append, List.nil_append] at eρ
        subst eρ
        refine ⟨rfl, To.need (by simp only [X.den, X.dens, X.denss, D.int_i, D.boo_b, D.str_s, D.rows_l, List.getD_cons_zero, List.getD_cons_succ, List.cons_append, List.nil_append, List.append_nil, List.length_cons, List.length_nil, decide_eq_true_eq, decide_eq_false_iff_not, Bool.not_eq_true', Bool.not_eq_false', Bool.and_eq_true, Bool.and_eq_false_iff, Bool.true_eq_false, Bool.false_eq_true, Bool.not_true, Bool.not_false, eq_self, D.len_l]; omega) ?_⟩
        have okb := hv b b0 b1
        have rb := yr b b0 b1
        simp only [okS] at okb
        have pc : ∀ i : Int, 0 ≤ i → ce (putz y b (ce y 0 b + 1)) 0 i = if i = b then ce y 0 b + 1 else ce y 0 i := fun i i0 => putz_ce y1 b0 (by omega) i0
        refine To.ret (.inl ⟨rfl, m - 1, by omega, putz y b (ce y 0 b + 1), n + 1, ?_, ⟨putz_one y1, by rw [putz_len]; exact yl, fun i i0 i1 => ?_, ?_, ?_⟩, by omega⟩)
        · simp (disch := omega) only [X.den, X.dens, X.denss, D.int_i, D.boo_b, D.str_s, D.rows_l, List.getD_cons_zero, List.getD_cons_succ, List.cons_append, List.nil_append, List.append_nil, List.length_cons, List.length_nil, wr64, ce_def, putz_def]
        · rw [pc i i0]
          split
          · rename_i e; subst e; omega
          · exact yr i i0 i1
        · have := sumf_one (n := l.length) (f := ce y 0) (g := ce (putz y b (ce y 0 b + 1)) 0) (k := b) (d := 1) b0 b1 (by rw [pc b b0, if_pos rfl]) fun i i0 i1 ne => by rw [pc i i0, if_neg ne]
          omega
        · exact lex_step (fun i a b => (hc i a b).1) yL bh bm b0 b1 fun i i0 i1 => pc i i0
    · exact To.ret (.inr ⟨rfl, y, by simp only [X.den, X.dens, X.denss, D.int_i, D.boo_b, D.str_s, D.rows_l, List.getD_cons_zero, List.getD_cons_succ, List.cons_append, List.nil_append, List.append_nil, List.length_cons, List.length_nil], y1, yl, yr, by omega, yL⟩)
  rintro o ρ2 ⟨y, rfl, hd⟩ eρ
  simp only [List.cons_append, List.nil_append] at eρ
  subst eρ
  refine ⟨rfl, To.ret ⟨y, ?_, hd⟩⟩
  simp (disch := omega) only [X.den, X.dens, X.denss, D.int_i, D.boo_b, D.str_s, D.rows_l, List.getD_cons_zero, List.getD_cons_succ, List.cons_append, List.nil_append, List.append_nil, List.length_cons, List.length_nil, wr64, ga]
theorem rDiv13_ok : ConOk Try.prog rDiv13_K (rDiv13_T.run rdvM 100000) := con_run follows (one_con (rRea13_ok.to _) no_cons) rDiv13_t rfl 100000
end Go.Proofs.Ytlhnhidoljfnnaa
